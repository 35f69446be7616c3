/-
  The walk of shortest.
-/
import Derived.Test.YteaccpolmmkclaaDoorByM
import Derived.Test.YteaccpolmmkclaaDoorPlB
import Derived.Deep.RegionWith
namespace Go.Proofs.YteaccpolmmkclaaDoor
open Go.RowKit

theorem is_nat {w : World} {p : Addr} {c : Nat} {l : List UInt8} (h : IsBytes w (some p) c l) (i : Nat) (hi : i < l.length) : w.cell? (p.add i) = some (.int .u8 (l[i].toNat : Int)) := by
  rcases h.2.2 with rfl | ⟨b, o, e, _, hc⟩
  · simp at hi
  · cases e
    rw [Go.WideShapes.add_plain]
    exact hc i l[i] (List.getElem?_eq_getElem hi)
theorem conv_is {w : World} {a : Option Addr} {c n : Nat} {l : List UInt8} (h : IsBytes w a c l) (hn : l.length = n) : (convert 37 9 (.slice a n c)).run Tryd.prog w = .ok (.string ⟨l.toArray⟩) w := by
  subst hn
  cases a with
  | none =>
    obtain rfl : l = [] := by
      rcases h.2.2 with h | ⟨_, _, e, _⟩
      · exact h
      · cases e
    exact run_convert_bytes_nil w 37 5 Tryd.underlying37 Tryd.underlying5 0 c 9 Tryd.underlying9
  | some p =>
    refine run_convert_bytes_back w 37 9 5 p c l Tryd.underlying37 Tryd.underlying5 Tryd.underlying9 (fun j hj => ?_)
    exact is_nat h j hj
theorem conv_lit (W : World) (q : Nat) (l : List UInt8) (h : ByteRow W 5 q l) (n : Nat) (hn : l.length = n) (hm : n ≤ 1000 := by omega) : (convert 37 9 (.slice (some ⟨q, 0, none⟩) n n)).run Tryd.prog W = .ok (.string ⟨l.toArray⟩) W :=
  conv_is (h.is 0 n l (fun j x hj => by rw [Nat.zero_add]; exact hj) (by omega) (by unfold maxLen; omega)) hn
theorem row_new (w : World) (l : List UInt8) (cs : Array Value) (h : cs = (u8s l).toArray) : ByteRow (w.alloc (.cells cs 5)) 5 w.heap.size l := by
  subst h
  exact heap_alloc_new w _
theorem row_new2 (w : World) (o : Obj) (l : List UInt8) (cs : Array Value) (h : cs = (u8s l).toArray) : ByteRow ((w.alloc o).alloc (.cells cs 5)) 5 (w.heap.size + 1) l := by
  have := row_new (w.alloc o) l cs h
  rwa [World.size_alloc] at this
def hexB : ByteArray := ⟨#[48, 49, 50, 51, 52, 53, 54, 55, 56, 57, 97, 98, 99, 100, 101, 102]⟩
theorem hex_nat : ∀ i : Fin 16, (hexB.data[i.1]'(by exact i.2)).toNat = (hexD i.1).toNat := by decide
theorem hex_at (x : Int) (i : Nat) (hx : x.toNat = i) (hi : i < 16) : ∀ h, ((⟨#[48, 49, 50, 51, 52, 53, 54, 55, 56, 57, 97, 98, 99, 100, 101, 102]⟩ : ByteArray)[x.toNat]'h).toNat = (hexD i).toNat := by
  subst hx
  intro h
  exact hex_nat ⟨x.toNat, hi⟩
/-- The table's place of a byte's meaning; 4, if there is none. -/
def meanK (c : UInt8) : Nat := if c = 32 then 0 else if c = 13 then 1 else if c = 10 then 2 else if c = 92 then 3 else 4
theorem mean_le (c : UInt8) : meanK c ≤ 4 := by
  unfold meanK
  repeat' split
  all_goals omega
theorem mean_ne (c : UInt8) : ∀ j, j < meanK c → letM j ≠ c.toNat := by
  have h : ∀ n : Nat, n < 256 → ∀ j, j < meanK (UInt8.ofNat n) → j < 4 → letM j ≠ (UInt8.ofNat n).toNat := by decide +kernel
  intro j hj
  have := h c.toNat (UInt8.toNat_lt c) j
  rw [UInt8.ofNat_toNat] at this
  exact this hj (by have := mean_le c; omega)
theorem mean_eq (c : UInt8) (h : meanK c < 4) : letM (meanK c) = c.toNat ∧ shortP c = [92, UInt8.ofNat (letN (meanK c))] := by
  have hh : ∀ n : Nat, n < 256 → meanK (UInt8.ofNat n) < 4 → letM (meanK (UInt8.ofNat n)) = (UInt8.ofNat n).toNat ∧ shortP (UInt8.ofNat n) = [92, UInt8.ofNat (letN (meanK (UInt8.ofNat n)))] := by decide +kernel
  have := hh c.toNat (UInt8.toNat_lt c)
  rw [UInt8.ofNat_toNat] at this
  exact this h
theorem mean_no (c : UInt8) (h : ¬ meanK c < 4) : shortP c = if c.toNat < 33 ∨ 126 < c.toNat then [92, 120, hexD (c.toNat / 16), hexD (c.toNat % 16)] else [c] := by
  unfold meanK at h
  unfold shortP
  split at h
  · simp at h
  split at h
  · simp at h
  split at h
  · simp at h
  split at h
  · simp at h
  rename_i h1 h2 h3 h4
  rw [if_neg h1, if_neg h2, if_neg h3, if_neg h4]
set_option maxHeartbeats 4000000 in
set_option maxRecDepth 1000000 in
theorem short_walk (c : UInt8) (kk m : Nat) (w : World) (T : Tabs w) (hk : kk ≤ 4) (hm : c.toNat = m) (hne : ∀ j, j < kk → letM j ≠ m) (heq : kk < 4 → letM kk = m ∧ shortP c = [92, UInt8.ofNat (letN kk)]) (hno : ¬ kk < 4 → shortP c = if m < 33 ∨ 126 < m then [92, 120, hexD (m / 16), hexD (m % 16)] else [c]) :
    Calls Tryd.prog 46 #[.int .u8 (m : Int)] w fun e w' => e = .returned (.string ⟨(shortP c).toArray⟩) ∧ Below w.heap.size w w' := by
  obtain ⟨c0, c1, c2, c3, c4, c5, c6, c7⟩ := T.letter
  have HNE := hide hne
  have HEQ := hide heq
  have HNO := hide hno
  have HM := hide hm
  have hx0 := ixL0
  have hx1 := ixL1
  have hx2' := ixL2
  have hx3 := ixL3
  have hm8 : m < 256 := by rw [← hm]; exact UInt8.toNat_lt c
  clear hne heq hno hm
  go_enter Tryd.func46, Tryd.ntmps46
  go_wp2_with fail
  go_loopg [6] 4 (fun gk i wr => ∃ k : Nat, i = .int .i64 (k : Int) ∧ k ≤ kk ∧ 4 - k ≤ gk ∧ Hid (Below w.heap.size w wr))
  case atStart => exact ⟨0, rfl, Nat.zero_le _, by omega, Below.refl _ _⟩
  case round =>
    obtain ⟨k, rfl, hkk, hgk, HB⟩ := hrel
    have hz := HB.out.size
    clear c0 c1 c2 c3 c4 c5 c6 c7
    rcases (show k = 0 ∨ k = 1 ∨ k = 2 ∨ k = 3 ∨ k = 4 by omega) with rfl | rfl | rfl | rfl | rfl
    · by_cases hlt : 0 < kk
      · have hnm : ((32 : Int) == (m : Int)) = false := by
          have := HNE.out 0 hlt
          rw [beq_eq_false_iff_ne]
          simp only [letM] at this
          omega
        have HB2 : Hid (Below w.heap.size w (wr.alloc (.cells #[.int .u8 115, .int .u8 32] 96))) := HB.out.alloc hz _
        go_wp2_with fail
        go_roundg (4 - (0 + 1))
        case measure => omega
        case rel => exact ⟨0 + 1, by go_num, by omega, Nat.le_refl _, HB2⟩
      · have hke : kk = 0 := by omega
        have hq := (HEQ.out (by omega)).1
        have hnm : ((32 : Int) == (m : Int)) = true := by
          rw [hke] at hq
          simp only [letM] at hq
          rw [beq_iff_eq]
          omega
        clear hq
        have kv := conv_lit ((wr.alloc (.cells #[.int .u8 115, .int .u8 32] 96)).alloc (.cells #[.int .u8 92, .int .u8 115] 5)) (wr.heap.size + 1) [92, 115] (row_new2 _ _ _ _ rfl) 2 rfl
        have HB2 : Hid (Below w.heap.size w ((wr.alloc (.cells #[.int .u8 115, .int .u8 32] 96)).alloc (.cells #[.int .u8 92, .int .u8 115] 5))) := (HB.out.alloc hz _).alloc (by simp; omega) _
        go_wp2_with fail
        go_ret
        exact ⟨by rw [(HEQ.out (by omega)).2, hke]; rfl, HB2.out⟩
    · by_cases hlt : 1 < kk
      · have hnm : ((13 : Int) == (m : Int)) = false := by
          have := HNE.out 1 hlt
          rw [beq_eq_false_iff_ne]
          simp only [letM] at this
          omega
        have HB2 : Hid (Below w.heap.size w (wr.alloc (.cells #[.int .u8 114, .int .u8 13] 96))) := HB.out.alloc hz _
        go_wp2_with fail
        go_roundg (4 - (1 + 1))
        case measure => omega
        case rel => exact ⟨1 + 1, by go_num, by omega, Nat.le_refl _, HB2⟩
      · have hke : kk = 1 := by omega
        have hq := (HEQ.out (by omega)).1
        have hnm : ((13 : Int) == (m : Int)) = true := by
          rw [hke] at hq
          simp only [letM] at hq
          rw [beq_iff_eq]
          omega
        clear hq
        have kv := conv_lit ((wr.alloc (.cells #[.int .u8 114, .int .u8 13] 96)).alloc (.cells #[.int .u8 92, .int .u8 114] 5)) (wr.heap.size + 1) [92, 114] (row_new2 _ _ _ _ rfl) 2 rfl
        have HB2 : Hid (Below w.heap.size w ((wr.alloc (.cells #[.int .u8 114, .int .u8 13] 96)).alloc (.cells #[.int .u8 92, .int .u8 114] 5))) := (HB.out.alloc hz _).alloc (by simp; omega) _
        go_wp2_with fail
        go_ret
        exact ⟨by rw [(HEQ.out (by omega)).2, hke]; rfl, HB2.out⟩
    · by_cases hlt : 2 < kk
      · have hnm : ((10 : Int) == (m : Int)) = false := by
          have := HNE.out 2 hlt
          rw [beq_eq_false_iff_ne]
          simp only [letM] at this
          omega
        have HB2 : Hid (Below w.heap.size w (wr.alloc (.cells #[.int .u8 110, .int .u8 10] 96))) := HB.out.alloc hz _
        go_wp2_with fail
        go_roundg (4 - (2 + 1))
        case measure => omega
        case rel => exact ⟨2 + 1, by go_num, by omega, Nat.le_refl _, HB2⟩
      · have hke : kk = 2 := by omega
        have hq := (HEQ.out (by omega)).1
        have hnm : ((10 : Int) == (m : Int)) = true := by
          rw [hke] at hq
          simp only [letM] at hq
          rw [beq_iff_eq]
          omega
        clear hq
        have kv := conv_lit ((wr.alloc (.cells #[.int .u8 110, .int .u8 10] 96)).alloc (.cells #[.int .u8 92, .int .u8 110] 5)) (wr.heap.size + 1) [92, 110] (row_new2 _ _ _ _ rfl) 2 rfl
        have HB2 : Hid (Below w.heap.size w ((wr.alloc (.cells #[.int .u8 110, .int .u8 10] 96)).alloc (.cells #[.int .u8 92, .int .u8 110] 5))) := (HB.out.alloc hz _).alloc (by simp; omega) _
        go_wp2_with fail
        go_ret
        exact ⟨by rw [(HEQ.out (by omega)).2, hke]; rfl, HB2.out⟩
    · by_cases hlt : 3 < kk
      · have hnm : ((92 : Int) == (m : Int)) = false := by
          have := HNE.out 3 hlt
          rw [beq_eq_false_iff_ne]
          simp only [letM] at this
          omega
        have HB2 : Hid (Below w.heap.size w (wr.alloc (.cells #[.int .u8 92, .int .u8 92] 96))) := HB.out.alloc hz _
        go_wp2_with fail
        go_roundg (4 - (3 + 1))
        case measure => omega
        case rel => exact ⟨3 + 1, by go_num, by omega, Nat.le_refl _, HB2⟩
      · have hke : kk = 3 := by omega
        have hq := (HEQ.out (by omega)).1
        have hnm : ((92 : Int) == (m : Int)) = true := by
          rw [hke] at hq
          simp only [letM] at hq
          rw [beq_iff_eq]
          omega
        clear hq
        have kv := conv_lit ((wr.alloc (.cells #[.int .u8 92, .int .u8 92] 96)).alloc (.cells #[.int .u8 92, .int .u8 92] 5)) (wr.heap.size + 1) [92, 92] (row_new2 _ _ _ _ rfl) 2 rfl
        have HB2 : Hid (Below w.heap.size w ((wr.alloc (.cells #[.int .u8 92, .int .u8 92] 96)).alloc (.cells #[.int .u8 92, .int .u8 92] 5))) := (HB.out.alloc hz _).alloc (by simp; omega) _
        go_wp2_with fail
        go_ret
        exact ⟨by rw [(HEQ.out (by omega)).2, hke]; rfl, HB2.out⟩
    · by_cases hp : m < 33 ∨ 126 < m
      · have d1 : (0 : Int) ≤ (m : Int) / 16 := by omega
        have d2 : (m : Int) / 16 < 16 := by omega
        have d3 : (0 : Int) ≤ (m : Int) % 16 := by omega
        have d4 : (m : Int) % 16 < 16 := by omega
        have g1 := hex_at ((m : Int) / 16) (m / 16) (by omega) (by omega)
        have g2 := hex_at ((m : Int) % 16) (m % 16) (by omega) (by omega)
        have kv := conv_lit (wr.alloc (.cells #[.int .u8 92, .int .u8 120, .int .u8 ((hexD (m / 16)).toNat : Int), .int .u8 ((hexD (m % 16)).toNat : Int)] 5)).drew wr.heap.size [92, 120, hexD (m / 16), hexD (m % 16)] (row_new wr [92, 120, hexD (m / 16), hexD (m % 16)] #[.int .u8 92, .int .u8 120, .int .u8 ((hexD (m / 16)).toNat : Int), .int .u8 ((hexD (m % 16)).toNat : Int)] rfl).drew 4 rfl
        have HB2 : Hid (Below w.heap.size w (wr.alloc (.cells #[.int .u8 92, .int .u8 120, .int .u8 ((hexD (m / 16)).toNat : Int), .int .u8 ((hexD (m % 16)).toNat : Int)] 5)).drew) := (HB.out.alloc hz _).drew
        go_wp2_with fail
        all_goals go_region
        all_goals go_wp2_with fail
        all_goals go_ret
        all_goals exact ⟨by rw [HNO.out (by omega), if_pos hp]; rfl, HB2.out⟩
      · have t1 : ¬ (m : Int) < 33 := by omega
        have t2 : ¬ 126 < (m : Int) := by omega
        have kv := conv_lit (wr.alloc (.cells #[.int .u8 (m : Int)] 5)) wr.heap.size [c] (row_new _ _ _ (by rw [← HM.out]; rfl)) 1 rfl
        have HB2 : Hid (Below w.heap.size w (wr.alloc (.cells #[.int .u8 (m : Int)] 5))) := HB.out.alloc hz _
        go_wp2_with fail
        go_ret
        exact ⟨by rw [HNO.out (by omega), if_neg hp]; rfl, HB2.out⟩
theorem short_any (c : UInt8) (w : World) (T : Tabs w) :
    Calls Tryd.prog 46 #[.int .u8 (c.toNat : Int)] w fun e w' => e = .returned (.string ⟨(shortP c).toArray⟩) ∧ Below w.heap.size w w' :=
  short_walk c (meanK c) c.toNat w T (mean_le c) rfl (mean_ne c) (mean_eq c) (mean_no c)
end Go.Proofs.YteaccpolmmkclaaDoor
