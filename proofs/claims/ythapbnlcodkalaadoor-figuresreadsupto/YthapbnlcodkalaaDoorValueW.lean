/-
  Layer 13: value and is.
-/
import Derived.Test.YthapbnlcodkalaaDoorYRead
import Derived.Test.YthapbnlcodkalaaDoorRefParse
import Derived.Test.YthapbnlcodkalaaDoorPlainNumbers
namespace Go.Proofs.YthapbnlcodkalaaDoor
open Go.RowKit

set_option maxHeartbeats 2000000 in
set_option maxRecDepth 1000000 in
theorem value_any (a : Option Addr) (c : Nat) (ps : List BP) (key : ByteArray) (q : Nat) (V : Int) (B : Bool) (w : World) (h : IsPairs w a c ps) (hl : 0 < ps.length ∧ ps.length ≤ 256) (hq : ∀ (j : Nat) p, ps[j]? = some p → (p.1 = key ↔ j = q))
    (hv : ∀ p, ps[q]? = some p → p.2.size ≤ 5000 ∧ parseV p.2.data.toList 9223372036854775807 = V ∧ parseB p.2.data.toList 9223372036854775807 = B) :
    Calls Tryd.prog 18 #[.slice a ps.length c, .string key] w fun e w' => e = .returned (.tuple #[.int .i64 (if q < ps.length then V else 0), .bool (if q < ps.length then B else false)]) ∧ w' = w := by
  obtain ⟨h1, h2, h3⟩ := h
  rcases h3 with rfl | ⟨b, o, rfl, hb, hc⟩
  · exact absurd hl.1 (by simp)
  have HC : Hid (∀ (j : Nat) p, ps[j]? = some p → w.cell? ⟨b, o + j * 2, none⟩ = some (.string p.1) ∧ w.cell? ⟨b, o + j * 2 + 1, none⟩ = some (.string p.2)) := hc
  have HQ := hide hq
  have HV := hide hv
  have hl256 : ps.length ≤ 256 := hl.2
  clear hc hq hv hl h2
  go_enter Tryd.func18, Tryd.ntmps18
  go_upto_region 5 with fail
  go_loopg [6, 7, 8, 9] ps.length (fun gk s6 s7 s8 s9 wr => ∃ (i many : Nat) (n : Int) (ok : Bool), s9 = .int .i64 i ∧ i ≤ ps.length ∧ ps.length - i ≤ gk ∧ wr = w ∧ s6 = .int .i64 many ∧ s7 = .int .i64 n ∧ s8 = .bool ok ∧ Hid (many = (if q < i then 1 else 0) ∧ n = (if q < i then V else 0) ∧ ok = (if q < i then B else false)))
  case atStart => exact ⟨0, 0, 0, false, rfl, Nat.zero_le _, Nat.le_refl _, rfl, rfl, rfl, rfl, by simp [Hid]⟩
  case round =>
    obtain ⟨i, many, n, ok, rfl, hi, hgk, hwr, rfl, rfl, rfl, HI⟩ := hrel
    subst hwr
    by_cases hp : i < ps.length
    · obtain ⟨p, hpk⟩ : ∃ p, ps[i]? = some p := ⟨_, List.getElem?_eq_getElem hp⟩
      have c0 := (HC.out i p hpk).1
      have c1 := (HC.out i p hpk).2
      have HPK := hide hpk
      clear hpk
      by_cases he : p.1 = key
      · have hxx : (p.1.toList == key.toList) = true := by rw [he]; simp
        have hiq : i = q := (HQ.out i p HPK.out).1 he
        have hv := HV.out p (by rw [← hiq]; exact HPK.out)
        have hm : many = 0 := by rw [HI.out.1, if_neg (by omega)]
        subst hm
        have HVV := hide hv
        have CP : Hid (∀ W, Calls Tryd.prog 37 #[.string p.2, .int .i64 9223372036854775807] W fun e w' => e = .returned (.tuple #[.int .i64 V, .bool B]) ∧ w' = W) := fun W => by
          have := refParse_any p.2 9223372036854775807 W (by unfold maxLen; have := HVV.out.1; omega) (by decide) (by decide)
          rw [HVV.out.2.1, HVV.out.2.2] at this
          exact this
        have HIQ := hide hiq
        clear he hv hiq
        go_wp2_with (go_at_call 37; refine (CP.out _).mono ?_; rintro e w2 ⟨rfl, hw2⟩; obtain rfl := hw2.symm)
        go_roundg (ps.length - (i + 1))
        case measure => omega
        case rel => exact ⟨i + 1, 1, V, B, by go_num, by omega, Nat.le_refl _, rfl, by go_num, rfl, rfl, by have := HIQ.out; simp [Hid, show q < i + 1 by omega]⟩
      · have hxx : (p.1.toList == key.toList) = false := by rw [beq_eq_false_iff_ne]; exact fun e => he (list_inj e)
        have hne : i ≠ q := fun e => he ((HQ.out i p HPK.out).2 e)
        have HNE := hide hne
        clear he hne
        go_wp2_with fail
        go_roundg (ps.length - (i + 1))
        case measure => omega
        case rel =>
          refine ⟨i + 1, many, n, ok, by go_num, by omega, Nat.le_refl _, rfl, rfl, rfl, rfl, ?_⟩
          have h9 := HI.out
          have hn := HNE.out
          have e : (q < i + 1) ↔ (q < i) := by omega
          show _ ∧ _ ∧ _
          simp only [e]
          exact h9
    · have hil : i = ps.length := by omega
      have h9 := HI.out
      rw [hil] at h9
      obtain ⟨rfl, rfl, rfl⟩ := h9
      clear HI
      by_cases hql : q < ps.length
      · simp only [if_pos hql]
        go_wp2_with fail
        go_ret2
        exact ⟨rfl, rfl⟩
      · simp only [if_neg hql]
        go_wp2_with fail
        go_ret2
        exact ⟨rfl, rfl⟩
set_option maxHeartbeats 2000000 in
set_option maxRecDepth 1000000 in
theorem is_any (a : Option Addr) (c : Nat) (ps : List BP) (key : ByteArray) (q : Nat) (V : Int) (w : World) (h : IsPairs w a c ps) (hl : 0 < ps.length ∧ ps.length ≤ 256) (hq : ∀ (j : Nat) p, ps[j]? = some p → (p.1 = key ↔ j = q)) (hql : q < ps.length)
    (hv : ∀ p, ps[q]? = some p → p.2.size ≤ 5000 ∧ parseV p.2.data.toList 9223372036854775807 = V ∧ parseB p.2.data.toList 9223372036854775807 = true) :
    Calls Tryd.prog 17 #[.slice a ps.length c, .string key, .int .i64 V] w fun e w' => e = .returned (.bool true) ∧ w' = w := by
  have CV := value_any a c ps key q V true w h hl hq hv
  rw [if_pos hql, if_pos hql] at CV
  have CH := hide CV
  clear CV h hl hq hv hql
  go_enter Tryd.func17, Tryd.ntmps17
  go_wp2_with (go_at_call 18; refine CH.out.mono ?_; rintro e w2 ⟨rfl, hw2⟩; obtain rfl := hw2.symm)
  go_ret
  exact ⟨by simp, rfl⟩
end Go.Proofs.YthapbnlcodkalaaDoor
