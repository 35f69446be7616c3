/-
  Get, whatever the bytes.
-/
import Derived.Test.YtjnjaojafimfeaaGetB
import Derived.Test.YtjnjaojafimfeaaGetC
import Derived.Test.YtjnjaojafimfeaaGetD
import Derived.Test.YtjnjaojafimfeaaGetE
import Derived.Test.YtjnjaojafimfeaaGetF
namespace Go.Proofs.Ytjnjaojafimfeaa
open Go.RowKit

/-- What Get tells. -/
def GetPost (w : World) (l : List UInt8) (e : Ending) (w' : World) : Prop :=
  Below w.heap.size w w' ∧ ((getP l = none ∧ e = .returned (getV zeroR (.slice none 0 0) 102)) ∨ ∃ x body v, getP l = some (x, body) ∧ e = .returned (getV x v 0) ∧ Own w' (w.heap.size + 1) v body)
theorem fin_no {r : Rec} {body : List UInt8} (h : checkE r body.length ≠ 0) : fin r body = none := if_neg h
theorem fin_yes {r : Rec} {body : List UInt8} (h : checkE r body.length = 0) : fin r body = some (r, body) := if_pos h
theorem get_any (a : Option Addr) (c : Nat) (l : List UInt8) (w : World) (hb : IsBytes w a c l) : Calls Try.prog 22 #[.slice a l.length c] w (GetPost w l) := by
  match l, hb with
  | [], hb =>
    refine (get_empty a c w).mono ?_
    rintro e w' ⟨h1, h2⟩
    exact ⟨h1, .inl ⟨rfl, h2⟩⟩
  | x :: l, hb =>
    obtain ⟨g, o, rfl⟩ := hb.addr (by simp)
    rw [List.length_cons]
    cases hn : takeN (fieldsL (x.toNat : Int)) l (fun _ => 0) with
    | none =>
      refine (get_short g o c x l w hb hn).mono ?_
      rintro e w' ⟨h1, h2⟩
      exact ⟨h1, .inl ⟨by simp only [getP, hn], h2⟩⟩
    | some p =>
      obtain ⟨n, rest⟩ := p
      have hg : getP (x :: l) = getK (x.toNat : Int) n rest := by simp only [getP, hn]
      by_cases hk : (x.toNat : Int) = 2
      · have hn2 : takeN (fieldsL 2) l (fun _ => 0) = some (n, rest) := by rw [← hk]; exact hn
        rw [hk] at hg
        cases ht : takeT rest with
        | none =>
          refine (get_tubeless g o c x l n rest w hb hn2 hk ht).mono ?_
          rintro e w' ⟨h1, h2⟩
          exact ⟨h1, .inl ⟨by rw [hg]; simp only [getK, ht, if_true], h2⟩⟩
        | some q =>
          obtain ⟨t, body⟩ := q
          have hg2 : getP (x :: l) = fin ⟨2, n, t⟩ body := by rw [hg]; simp only [getK, ht, if_true]
          by_cases hc : checkE ⟨2, n, t⟩ body.length = 0
          · refine (get_whole_yes g o c x l n rest t body w hb hn2 hk ht hc).mono ?_
            rintro e w' ⟨h1, v, h2, h3⟩
            exact ⟨h1, .inr ⟨_, body, v, by rw [hg2, fin_yes hc], h2, h3⟩⟩
          · refine (get_whole_no g o c x l n rest t body w hb hn2 hk ht hc).mono ?_
            rintro e w' ⟨h1, h2⟩
            exact ⟨h1, .inl ⟨by rw [hg2, fin_no hc], h2⟩⟩
      · have hg2 : getP (x :: l) = fin ⟨(x.toNat : Int), n, []⟩ rest := by rw [hg, getK, if_neg hk]
        by_cases hc : checkE ⟨(x.toNat : Int), n, []⟩ rest.length = 0
        · refine (get_plain_yes g o c x l n rest w hb hn hk hc).mono ?_
          rintro e w' ⟨h1, v, h2, h3⟩
          exact ⟨h1, .inr ⟨_, rest, v, by rw [hg2, fin_yes hc], h2, h3⟩⟩
        · refine (get_plain_no g o c x l n rest w hb hn hk hc).mono ?_
          rintro e w' ⟨h1, h2⟩
          exact ⟨h1, .inl ⟨by rw [hg2, fin_no hc], h2⟩⟩
/-- What Put tells. -/
def PutPost (w : World) (r : Rec) (body : List UInt8) (e : Ending) (w' : World) : Prop :=
  Below w.heap.size w w' ∧ ∃ v, e = .returned (.tuple #[v, .int .i64 (checkE r body.length)]) ∧ Own w' (w.heap.size + 1) v (if checkE r body.length = 0 then putL r body else [])
theorem put_any (r : Rec) (a : Option Addr) (c : Nat) (body : List UInt8) (w : World) (hb : IsBytes w a c body) : Calls Try.prog 18 #[.agg (recA r (.slice a body.length c))] w (PutPost w r body) := by
  by_cases h0 : checkE r body.length = 0
  · refine (put_yes r a c body w hb h0).mono ?_
    rintro e w' ⟨v, h1, h2, h3⟩
    exact ⟨h3, v, by rw [h0]; exact h1, by rw [if_pos h0]; exact h2⟩
  · refine (put_no r a body.length c w h0).mono ?_
    rintro e w' ⟨h1, h2⟩
    exact ⟨h2, _, h1, by rw [if_neg h0]; exact Own.nil _ _⟩
end Go.Proofs.Ytjnjaojafimfeaa
