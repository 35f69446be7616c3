/-
  RefGetAny, ReadsKit.
-/
import Derived.Test.YtjnjaojafimfeaaRefGet6
import Derived.Test.YtjnjaojafimfeaaRefGet8
import Derived.Test.YtjnjaojafimfeaaWritesKit3
import Derived.Test.YtjnjaojafimfeaaSameW
namespace Go.Proofs.Ytjnjaojafimfeaa
open Go.RowKit

theorem nums_split (l : List UInt8) (M : Nat) : (∃ j, j < M ∧ numO l j = none) ∨ ∃ L : List Int, L.length = M ∧ ∀ (j : Nat) y, L[j]? = some y → numO l j = some y := by
  by_cases h : ∃ j, j < M ∧ numO l j = none
  · exact .inl h
  · refine .inr ⟨(List.range M).map (fun j => (numO l j).getD 0), by simp, fun j y hj => ?_⟩
    have hjl : j < M := by have := (List.getElem?_eq_some_iff.1 hj).1; simpa using this
    rw [List.getElem?_map, List.getElem?_range hjl] at hj
    cases hn : numO l j with
    | none => exact absurd ⟨j, hjl, hn⟩ h
    | some v =>
      rw [Option.map_some, hn] at hj
      simpa using hj
/-- What Get tells, as a record, its body, its error. -/
def gR (l : List UInt8) : Rec := match getP l with
  | none => zeroR
  | some (x, _) => x
def gB (l : List UInt8) : List UInt8 := match getP l with
  | none => []
  | some (_, b) => b
def gE (l : List UInt8) : Int := match getP l with
  | none => 102
  | some _ => 0
theorem g_none {l : List UInt8} (h : getP l = none) : gR l = zeroR ∧ gB l = [] ∧ gE l = 102 := by
  unfold gR gB gE
  rw [h]
  exact ⟨rfl, rfl, rfl⟩
theorem g_some {l : List UInt8} {x : Rec} {b : List UInt8} (h : getP l = some (x, b)) : gR l = x ∧ gB l = b ∧ gE l = 0 := by
  unfold gR gB gE
  rw [h]
  exact ⟨rfl, rfl, rfl⟩
def GPost (l : List UInt8) (w : World) (e : Ending) (w' : World) : Prop := Below w.heap.size w w' ∧ ∃ v, e = .returned (getV (gR l) v (gE l)) ∧ Own w' (w.heap.size + 1) v (gB l)
theorem gpost_none {l : List UInt8} {w w' : World} {e : Ending} (h : getP l = none) (hp : Below w.heap.size w w' ∧ e = .returned (getV zeroR (.slice none 0 0) 102)) : GPost l w e w' := by
  obtain ⟨h1, h2, h3⟩ := g_none h
  refine ⟨hp.1, .slice none 0 0, ?_, ?_⟩
  · rw [h1, h3]; exact hp.2
  · rw [h2]; exact Own.nil _ _
theorem gpost_some {l : List UInt8} {x : Rec} {b : List UInt8} {v : Value} {w w' : World} {e : Ending} (h : getP l = some (x, b)) (hB : Below w.heap.size w w') (he : e = .returned (getV x v 0)) (ho : Own w' (w.heap.size + 1) v b) : GPost l w e w' := by
  obtain ⟨h1, h2, h3⟩ := g_some h
  exact ⟨hB, v, by rw [h1, h3]; exact he, by rw [h2]; exact ho⟩
theorem get_gpost (a : Option Addr) (c : Nat) (l : List UInt8) (w : World) (hb : IsBytes w a c l) : Calls Try.prog 22 #[.slice a l.length c] w (GPost l w) := by
  refine (get_any a c l w hb).mono ?_
  rintro e w' ⟨hB, ⟨h, he⟩ | ⟨x, body, v, h, he, ho⟩⟩
  · exact gpost_none h ⟨hB, he⟩
  · exact gpost_some h hB he ho
theorem list1 {L : List Int} (h : L.length = 1) : ∃ y0, L = [y0] := by
  match L, h with
  | [y0], _ => exact ⟨y0, rfl⟩
theorem list2 {L : List Int} (h : L.length = 2) : ∃ y0 y1, L = [y0, y1] := by
  match L, h with
  | [y0, y1], _ => exact ⟨y0, y1, rfl⟩
theorem list11 {L : List Int} (h : L.length = 11) : ∃ y0 y1 y2 y3 y4 y5 y6 y7 y8 y9 y10, L = [y0, y1, y2, y3, y4, y5, y6, y7, y8, y9, y10] := by
  match L, h with
  | [y0, y1, y2, y3, y4, y5, y6, y7, y8, y9, y10], _ => exact ⟨y0, y1, y2, y3, y4, y5, y6, y7, y8, y9, y10, rfl⟩
theorem list13 {L : List Int} (h : L.length = 13) : ∃ y0 y1 y2 y3 y4 y5 y6 y7 y8 y9 y10 y11 y12, L = [y0, y1, y2, y3, y4, y5, y6, y7, y8, y9, y10, y11, y12] := by
  match L, h with
  | [y0, y1, y2, y3, y4, y5, y6, y7, y8, y9, y10, y11, y12], _ => exact ⟨y0, y1, y2, y3, y4, y5, y6, y7, y8, y9, y10, y11, y12, rfl⟩
theorem drop_nil_len {l : List UInt8} {n : Nat} (h : l.drop n = []) (hn : n ≤ l.length) : l.length = n := by
  have := congrArg List.length h
  simp at this
  omega
theorem getK_plain {k : Int} (hk : k ≠ 2) (n : Nat → Int) (rest : List UInt8) : getK k n rest = fin ⟨k, n, []⟩ rest := by unfold getK; rw [if_neg hk]
theorem refGet_k1 (g o c : Nat) (x : UInt8) (l : List UInt8) (y0 y1 : Int) (w : World) (hb : IsBytes w (some ⟨g, o, none⟩) c (x :: l)) (hx : x.toNat = 1) (hall : ∀ (j : Nat) y, [y0, y1][j]? = some y → numO l j = some y) :
    Calls Try.prog 23 #[.slice (some ⟨g, o, none⟩) (l.length + 1) c] w (GPost (x :: l) w) := by
  have hxi : (x.toNat : Int) = 1 := by rw [hx]; rfl
  have hga := get_all x l [y0, y1] (by rw [hxi]; rfl) hall
  rw [hxi] at hga
  obtain ⟨hg, hle⟩ := hga
  have hg : getP (x :: l) = fin ⟨1, setAll [0, 1] [y0, y1] (fun _ => 0), []⟩ (l.drop 16) := hg.trans (getK_plain (by decide) _ _)
  have hle : 16 ≤ l.length := hle
  cases hr : l.drop 16 with
  | nil =>
    have hlen := drop_nil_len hr hle
    rw [hr] at hg
    rw [hlen]
    by_cases hck : checkE ⟨1, setAll [0, 1] [y0, y1] (fun _ => 0), []⟩ 0 = 0
    · refine (refget_1_good g o c x l y0 y1 w hb hx hlen hall hck).mono ?_
      rintro e w' ⟨hB, he⟩
      exact gpost_some (hg.trans (fin_yes hck)) hB he (Own.nil _ _)
    · refine (refget_1_bad g o c x l y0 y1 w hb hx hlen hall hck).mono ?_
      intro e w' h
      exact gpost_none (hg.trans (fin_no hck)) h
  | cons d q =>
    rw [hr, fin_rest (by decide) (by simp)] at hg
    have hq := congrArg List.length hr
    rw [List.length_drop, List.length_cons] at hq
    have hlen : l.length = (q.length + 1) + 16 := by omega
    rw [hlen]
    refine (refget_1_rest g o c x l (q.length + 1) y0 y1 w hb hx hlen (by omega) hall).mono ?_
    intro e w' h
    exact gpost_none hg h
theorem refGet_k3 (g o c : Nat) (x : UInt8) (l : List UInt8) (y0 y1 y2 y3 y4 y5 y6 y7 y8 y9 y10 : Int) (w : World) (hb : IsBytes w (some ⟨g, o, none⟩) c (x :: l)) (hx : x.toNat = 3) (hall : ∀ (j : Nat) y, [y0, y1, y2, y3, y4, y5, y6, y7, y8, y9, y10][j]? = some y → numO l j = some y) :
    Calls Try.prog 23 #[.slice (some ⟨g, o, none⟩) (l.length + 1) c] w (GPost (x :: l) w) := by
  have hxi : (x.toNat : Int) = 3 := by rw [hx]; rfl
  have hga := get_all x l [y0, y1, y2, y3, y4, y5, y6, y7, y8, y9, y10] (by rw [hxi]; rfl) hall
  rw [hxi] at hga
  obtain ⟨hg, hle⟩ := hga
  have hg : getP (x :: l) = fin ⟨3, setAll [3, 4, 5, 8, 9, 10, 11, 12, 13, 14, 15] [y0, y1, y2, y3, y4, y5, y6, y7, y8, y9, y10] (fun _ => 0), []⟩ (l.drop 88) := hg.trans (getK_plain (by decide) _ _)
  have hle : 88 ≤ l.length := hle
  cases hr : l.drop 88 with
  | nil =>
    have hlen := drop_nil_len hr hle
    rw [hr] at hg
    rw [hlen]
    by_cases hck : checkE ⟨3, setAll [3, 4, 5, 8, 9, 10, 11, 12, 13, 14, 15] [y0, y1, y2, y3, y4, y5, y6, y7, y8, y9, y10] (fun _ => 0), []⟩ 0 = 0
    · refine (refget_3_good g o c x l y0 y1 y2 y3 y4 y5 y6 y7 y8 y9 y10 w hb hx hlen hall hck).mono ?_
      rintro e w' ⟨hB, he⟩
      exact gpost_some (hg.trans (fin_yes hck)) hB he (Own.nil _ _)
    · refine (refget_3_bad g o c x l y0 y1 y2 y3 y4 y5 y6 y7 y8 y9 y10 w hb hx hlen hall hck).mono ?_
      intro e w' h
      exact gpost_none (hg.trans (fin_no hck)) h
  | cons d q =>
    rw [hr, fin_rest (by decide) (by simp)] at hg
    have hq := congrArg List.length hr
    rw [List.length_drop, List.length_cons] at hq
    have hlen : l.length = (q.length + 1) + 88 := by omega
    rw [hlen]
    refine (refget_3_rest g o c x l (q.length + 1) y0 y1 y2 y3 y4 y5 y6 y7 y8 y9 y10 w hb hx hlen (by omega) hall).mono ?_
    intro e w' h
    exact gpost_none hg h
theorem refGet_k4 (g o c : Nat) (x : UInt8) (l : List UInt8) (y0 : Int) (w : World) (hb : IsBytes w (some ⟨g, o, none⟩) c (x :: l)) (hx : x.toNat = 4) (hall : ∀ (j : Nat) y, [y0][j]? = some y → numO l j = some y) :
    Calls Try.prog 23 #[.slice (some ⟨g, o, none⟩) (l.length + 1) c] w (GPost (x :: l) w) := by
  have hxi : (x.toNat : Int) = 4 := by rw [hx]; rfl
  have hga := get_all x l [y0] (by rw [hxi]; rfl) hall
  rw [hxi] at hga
  obtain ⟨hg, hle⟩ := hga
  have hg : getP (x :: l) = fin ⟨4, setAll [2] [y0] (fun _ => 0), []⟩ (l.drop 8) := hg.trans (getK_plain (by decide) _ _)
  have hle : 8 ≤ l.length := hle
  cases hr : l.drop 8 with
  | nil =>
    have hlen := drop_nil_len hr hle
    rw [hr] at hg
    rw [hlen]
    by_cases hck : checkE ⟨4, setAll [2] [y0] (fun _ => 0), []⟩ 0 = 0
    · refine (refget_4_good g o c x l y0 w hb hx hlen hall hck).mono ?_
      rintro e w' ⟨hB, he⟩
      exact gpost_some (hg.trans (fin_yes hck)) hB he (Own.nil _ _)
    · refine (refget_4_bad g o c x l y0 w hb hx hlen hall hck).mono ?_
      intro e w' h
      exact gpost_none (hg.trans (fin_no hck)) h
  | cons d q =>
    rw [hr, fin_rest (by decide) (by simp)] at hg
    have hq := congrArg List.length hr
    rw [List.length_drop, List.length_cons] at hq
    have hlen : l.length = (q.length + 1) + 8 := by omega
    rw [hlen]
    refine (refget_4_rest g o c x l (q.length + 1) y0 w hb hx hlen (by omega) hall).mono ?_
    intro e w' h
    exact gpost_none hg h
theorem refGet_k2 (g o c : Nat) (x : UInt8) (l : List UInt8) (y0 y1 y2 y3 y4 y5 y6 y7 y8 y9 y10 y11 y12 : Int) (w : World) (hb : IsBytes w (some ⟨g, o, none⟩) c (x :: l)) (hx : x.toNat = 2) (hbl : l.length ≤ 140737488300000) (hall : ∀ (j : Nat) y, [y0, y1, y2, y3, y4, y5, y6, y7, y8, y9, y10, y11, y12][j]? = some y → numO l j = some y) :
    Calls Try.prog 23 #[.slice (some ⟨g, o, none⟩) (l.length + 1) c] w (GPost (x :: l) w) := by
  have hxi : (x.toNat : Int) = 2 := by rw [hx]; rfl
  have hga := get_all x l [y0, y1, y2, y3, y4, y5, y6, y7, y8, y9, y10, y11, y12] (by rw [hxi]; rfl) hall
  rw [hxi] at hga
  obtain ⟨hg, hle⟩ := hga
  have hg : getP (x :: l) = getK 2 (setAll [3, 4, 5, 6, 7, 8, 9, 10, 11, 12, 13, 14, 15] [y0, y1, y2, y3, y4, y5, y6, y7, y8, y9, y10, y11, y12] (fun _ => 0)) (l.drop 104) := hg
  have hle : 104 ≤ l.length := hle
  cases hr : l.drop 104 with
  | nil =>
    have hlen := drop_nil_len hr hle
    rw [hr] at hg
    rw [hlen]
    refine (refget_2_t0 g o c x l y0 y1 y2 y3 y4 y5 y6 y7 y8 y9 y10 y11 y12 w hb hx hlen hall).mono ?_
    intro e w' h
    exact gpost_none (hg.trans rfl) h
  | cons d q =>
    rw [hr] at hg
    have hq := congrArg List.length hr
    rw [List.length_drop, List.length_cons] at hq
    have hlen : l.length = q.length + 1 + 104 := by omega
    rw [hlen]
    by_cases hlt : q.length < d.toNat
    · refine (refget_2_t1 g o c x l q.length d q y0 y1 y2 y3 y4 y5 y6 y7 y8 y9 y10 y11 y12 w hb hx hlen hr rfl hlt hall).mono ?_
      intro e w' h
      refine gpost_none (hg.trans ?_) h
      simp [getK, takeT, hlt]
    · have hg2 : getP (x :: l) = fin ⟨2, setAll [3, 4, 5, 6, 7, 8, 9, 10, 11, 12, 13, 14, 15] [y0, y1, y2, y3, y4, y5, y6, y7, y8, y9, y10, y11, y12] (fun _ => 0), q.take d.toNat⟩ (q.drop d.toNat) := by
        rw [hg]
        simp [getK, takeT, hlt]
      have hdl : (q.drop d.toNat).length = q.length - d.toNat := by simp
      by_cases hck : checkE ⟨2, setAll [3, 4, 5, 6, 7, 8, 9, 10, 11, 12, 13, 14, 15] [y0, y1, y2, y3, y4, y5, y6, y7, y8, y9, y10, y11, y12] (fun _ => 0), q.take d.toNat⟩ (q.length - d.toNat) = 0
      · have hcz : ¬ c = 106 := by
          intro hcz
          have h1 := hb.1
          rw [List.length_cons] at h1
          have ht := (check_ok hck).2.2.2
          simp only [textB, if_true, Bool.and_eq_true] at ht
          have := (valid_len ht.1).1
          rw [List.length_take] at this
          omega
        refine (refget_2_good g o c x l q.length d q y0 y1 y2 y3 y4 y5 y6 y7 y8 y9 y10 y11 y12 w hb hx hlen hr rfl (by omega) (by omega) hcz hck hall).mono ?_
        rintro e w' ⟨hB, v, he, ho⟩
        refine gpost_some (hg2.trans (fin_yes (by rw [hdl]; exact hck))) hB he ho
      · have hn : getP (x :: l) = none := hg2.trans (fin_no (by rw [hdl]; exact hck))
        by_cases hcz : c = 106
        · have h1 := hb.1
          rw [List.length_cons] at h1
          have hq0 : q = [] := List.eq_nil_of_length_eq_zero (by omega)
          subst hq0
          have hd0 : d.toNat = 0 := by simpa using hlt
          rw [List.take_nil, List.length_nil, Nat.zero_sub] at hck
          refine (refget_2_z g o c x l d y0 y1 y2 y3 y4 y5 y6 y7 y8 y9 y10 y11 y12 w hb hx hlen hr hd0 hcz hck hall).mono ?_
          intro e w' h
          exact gpost_none hn h
        · refine (refget_2_bad g o c x l q.length d q y0 y1 y2 y3 y4 y5 y6 y7 y8 y9 y10 y11 y12 w hb hx hlen hr rfl (by omega) (by omega) hcz hck hall).mono ?_
          intro e w' h
          exact gpost_none hn h
theorem refGet_gpost (a : Option Addr) (c : Nat) (l : List UInt8) (w : World) (hb : IsBytes w a c l) (hbl : l.length ≤ 140737488300000) : Calls Try.prog 23 #[.slice a l.length c] w (GPost l w) := by
  match l, hb, hbl with
  | [], hb, _ =>
    refine (refget_empty a c w).mono ?_
    intro e w' h
    exact gpost_none rfl h
  | x :: l, hb, hbl =>
    obtain ⟨g, o, rfl⟩ := hb.addr (by simp)
    rw [List.length_cons] at hbl ⊢
    by_cases hx : x.toNat < 1 ∨ 4 < x.toNat
    · refine (refget_kindless g o c x l w hb hx).mono ?_
      intro e w' h
      exact gpost_none (get_kindless x l hx) h
    · rcases nums_split l (fieldsL (x.toNat : Int)).length with hn | ⟨L, hL, hall⟩
      · refine (refget_numless g o c x l w hb (by omega) hn).mono ?_
        intro e w' h
        exact gpost_none (get_not x l hn) h
      · have hx4 : x.toNat = 1 ∨ x.toNat = 2 ∨ x.toNat = 3 ∨ x.toNat = 4 := by omega
        rcases hx4 with hx4 | hx4 | hx4 | hx4
        · rw [hx4] at hL
          obtain ⟨y0, y1, rfl⟩ := list2 (L := L) hL
          exact refGet_k1 g o c x l y0 y1 w hb hx4 hall
        · rw [hx4] at hL
          obtain ⟨y0, y1, y2, y3, y4, y5, y6, y7, y8, y9, y10, y11, y12, rfl⟩ := list13 (L := L) hL
          exact refGet_k2 g o c x l y0 y1 y2 y3 y4 y5 y6 y7 y8 y9 y10 y11 y12 w hb hx4 (by omega) hall
        · rw [hx4] at hL
          obtain ⟨y0, y1, y2, y3, y4, y5, y6, y7, y8, y9, y10, rfl⟩ := list11 (L := L) hL
          exact refGet_k3 g o c x l y0 y1 y2 y3 y4 y5 y6 y7 y8 y9 y10 w hb hx4 hall
        · rw [hx4] at hL
          obtain ⟨y0, rfl⟩ := list1 (L := L) hL
          exact refGet_k4 g o c x l y0 w hb hx4 hall
end Go.Proofs.Ytjnjaojafimfeaa

namespace Go.Proofs.Ytjnjaojafimfeaa
open Go.RowKit

theorem gB_len (l : List UInt8) : (gB l).length ≤ l.length := by
  cases h : getP l with
  | none => rw [(g_none h).2.1]; exact Nat.zero_le _
  | some p =>
    obtain ⟨x, b⟩ := p
    rw [(g_some h).2.1]
    obtain ⟨h1, h2⟩ := get_put l x b h
    have hl := congrArg List.length h2
    rw [put_length] at hl
    unfold sizeL at hl
    by_cases hk : x.kind = 2
    · rw [if_pos hk] at hl
      omega
    · have ht := (check_ok h1).2.2.2
      rw [textB, if_neg hk, Bool.and_eq_true, beq_iff_eq, beq_iff_eq] at ht
      omega
/-- A record in a variable array of cells. -/
def RecC (C : Array Value) (r : Rec) (v : Value) : Prop := C = recA r v ∧ C.size = 19 ∧ C.all (·.oneCell') = true
theorem getC (a : Option Addr) (c : Nat) (l : List UInt8) (w : World) (hb : IsBytes w a c l) : Calls Try.prog 22 #[.slice a l.length c] w fun e w' => ∃ C a2 c2, e = .returned (.tuple #[.agg C, .int .i64 (gE l)]) ∧ RecC C (gR l) (.slice a2 (gB l).length c2) ∧ Own w' w.heap.size (.slice a2 (gB l).length c2) (gB l) ∧ Below w.heap.size w w' := by
  refine (get_gpost a c l w hb).mono ?_
  rintro e w' ⟨hB, v, rfl, ho⟩
  obtain ⟨a2, c2, rfl, _⟩ := ho.shape
  exact ⟨_, a2, c2, rfl, ⟨rfl, rfl, rec_one _ _ _ _⟩, ho.mono (Nat.le_succ _), hB⟩
theorem refGetC (a : Option Addr) (c : Nat) (l : List UInt8) (w : World) (hb : IsBytes w a c l) (hbl : l.length ≤ 140737488300000) : Calls Try.prog 23 #[.slice a l.length c] w fun e w' => ∃ C a2 c2, e = .returned (.tuple #[.agg C, .int .i64 (gE l)]) ∧ RecC C (gR l) (.slice a2 (gB l).length c2) ∧ Own w' w.heap.size (.slice a2 (gB l).length c2) (gB l) ∧ Below w.heap.size w w' := by
  refine (refGet_gpost a c l w hb hbl).mono ?_
  rintro e w' ⟨hB, v, rfl, ho⟩
  obtain ⟨a2, c2, rfl, _⟩ := ho.shape
  exact ⟨_, a2, c2, rfl, ⟨rfl, rfl, rec_one _ _ _ _⟩, ho.mono (Nat.le_succ _), hB⟩
theorem sameC (C D : Array Value) (r : Rec) (a1 a2 : Option Addr) (c1 c2 B1 B2 : Nat) (l : List UInt8) (w : World) (h1 : RecC C r (.slice a1 l.length c1)) (h2 : RecC D r (.slice a2 l.length c2)) (o1 : Own w B1 (.slice a1 l.length c1) l) (o2 : Own w B2 (.slice a2 l.length c2) l) :
    Calls Try.prog 24 #[.agg C, .agg D] w fun e w' => e = .returned (.bool true) ∧ Below w.heap.size w w' := by
  rw [h1.1, h2.1]
  have sh : ∀ {a : Option Addr} {c B : Nat}, Own w B (.slice a l.length c) l → IsBytes w a c l := fun h => by
    obtain ⟨a', c', e, hi⟩ := h.shape
    simp only [Value.slice.injEq, true_and] at e
    obtain ⟨rfl, rfl⟩ := e
    exact hi
  exact same_any r r a1 a2 c1 c2 l w (sh o1) (sh o2) rfl rfl (fun _ _ => rfl)
/-- A box that was made for a record. -/
theorem box_new {w : World} {C : Array Value} {r : Rec} {v : Value} (h : RecC C r v) : RecAt (w.alloc (.cells C 34)) w.heap.size r v ∧ Below w.heap.size w (w.alloc (.cells C 34)) := by
  rw [h.1]
  exact ⟨RecAt.new _ _ _, (Below.refl _ w).alloc (Nat.le_refl _) _⟩
/-- The rest of memory while records are read. -/
def St (w w3 : World) (ob : Nat) (row : List UInt8) (W : World) : Prop := Below w.heap.size w W ∧ Below w3.heap.size w3 W ∧ ByteRow W 5 ob row
theorem St.later {w w3 W W' : World} {ob : Nat} {row : List UInt8} (h : St w w3 ob row W) (hb : Below W.heap.size W W') : St w w3 ob row W' := ⟨h.1.trans (hb.mono h.1.size), h.2.1.trans (hb.mono h.2.1.size), h.2.2.blk (hb.block ob h.2.2.lt')⟩
section
variable {w W W' : World} {lab lab' : Nat → Tag} {Hb : Nat} {es : List Ent} {b2 b3 ib ob : Nat} {r s : Rec} {v2 v3 vi v : Value} {row : List UInt8} {M B lo hi : Nat} {l : List UInt8}
theorem Wr.keep2 (h : Wr w lab Hb es b2 b3 ib ob r s v2 v3 vi row M W) (a : Option Addr) (c n : Nat) (l : List UInt8) (hn : n = l.length) (hv : Fr lab w.heap.size lo hi W (.slice a n c) l) (hl : l.length ≤ M) (hM : M ≤ 140737488355328) (he : es.length ≤ 9)
    (hlo : ∀ k, lo ≤ k → k < hi → k ≠ b2 ∧ k ≠ b3 ∧ k ≠ ib ∧ k ≠ ob) :
    Calls Try.prog 20 #[.pointer (some ⟨Hb, 0, none⟩), .slice a n c] W fun e w' => e = .returned (.tuple #[]) ∧
      ∃ lab' es', Wr w lab' Hb es' b2 b3 ib ob r s v2 v3 vi row M w' ∧ es'.length = es.length + 1 ∧ (∀ k, k < W.heap.size → (Value.slice a n c).ownBlock ≠ some k → lab' k = lab k) ∧ Kept (NotUser lab) W w' := by
  subst hn
  refine (keepC W w.heap.size lab Hb es a c l M h.held h.below.size hv.own hv.tag hl hM (by omega) h.most).mono ?_
  rintro e w' ⟨rfl, lab', es', hh, h1, h2, h3, hk⟩
  refine ⟨rfl, lab', es', h.kept hh (by omega) h2 h3 (fun k hk2 => ?_) hk, h1, h3, hk⟩
  have h4 := hv.rng k hk2
  exact ⟨(hv.own.lt k hk2).1, hlo k h4.1 h4.2⟩
end
theorem xor1 (x : UInt8) : bits .xor .u8 (x.toNat : Int) 1 = (((x ^^^ 1 : UInt8).toNat : Nat) : Int) := by
  have hx := x.toNat_lt
  have h : x.toNat ^^^ 1 < 256 := Nat.xor_lt_two_pow (n := 8) hx (by decide)
  have ha' : x.toNat % 2 ^ IntKind.u8.bits = x.toNat := Nat.mod_eq_of_lt hx
  have e : bits .xor .u8 (x.toNat : Int) ((1 : Nat) : Int) = ((x.toNat ^^^ 1 : Nat) : Int) := by
    simp only [bits, BitVec.ofInt_natCast, BitVec.toNat_xor, BitVec.toNat_ofNat, ha', show 1 % 2 ^ IntKind.u8.bits = 1 from rfl]
    rw [IntKind.wrap_u8]
    omega
  rw [show (1 : Int) = ((1 : Nat) : Int) from rfl, e]
  rfl
/-- The first k bytes turned. -/
def turnedOne (l : List UInt8) (k : Nat) : List UInt8 := (l.take k).map (· ^^^ 1) ++ l.drop k
theorem turnedOne_zero (l : List UInt8) : turnedOne l 0 = l := by simp [turnedOne]
theorem turnedOne_len (l : List UInt8) (k : Nat) : (turnedOne l k).length = l.length := by
  unfold turnedOne
  simp
  omega
theorem turnedOne_at (l : List UInt8) (k : Nat) (x : UInt8) (h : l[k]? = some x) : (turnedOne l k)[k]? = some x := by
  unfold turnedOne
  have hk := (List.getElem?_eq_some_iff.1 h).1
  rw [List.getElem?_append_right (by simp; omega)]
  have : k - (List.map (· ^^^ 1) (l.take k)).length = 0 := by simp; omega
  rw [this, List.getElem?_drop]
  exact h
theorem turnedOne_set (l : List UInt8) (k : Nat) (x : UInt8) (h : l[k]? = some x) : (turnedOne l k).set k (x ^^^ 1) = turnedOne l (k + 1) := by
  have hk := (List.getElem?_eq_some_iff.1 h).1
  apply List.ext_getElem?
  intro j
  by_cases hj : j = k
  · subst hj
    rw [List.getElem?_set_self (by rw [turnedOne_len]; exact hk)]
    unfold turnedOne
    rw [List.getElem?_append_left (by simp; omega), List.getElem?_map, List.getElem?_take_of_lt (by omega), h]
    rfl
  · rw [List.getElem?_set_ne (Ne.symm hj)]
    unfold turnedOne
    by_cases hl : j < k
    · rw [List.getElem?_append_left (by simp; omega), List.getElem?_append_left (by simp; omega), List.getElem?_map, List.getElem?_map, List.getElem?_take_of_lt (by omega), List.getElem?_take_of_lt (by omega)]
    · rw [List.getElem?_append_right (by simp; omega), List.getElem?_append_right (by simp; omega), List.getElem?_drop, List.getElem?_drop]
      congr 1
      simp
      omega
end Go.Proofs.Ytjnjaojafimfeaa
