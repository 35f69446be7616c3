/-
  Small walks: within, copied, kept, first.
-/
import Derived.Test.YtkmolklcbemfbaaAt
import Derived.Deep.OwnRows
import Derived.Deep.QuietTactic
import Derived.Deep.DeepMust
import Derived.Lib.SliceRun
import Derived.Deep.RegionWith
import Derived.Deep.Cut
import Derived.Deep.CutRange
namespace Go.Proofs.Ytkmolklcbemfbaa
open Go.RowKit

def withinB (n a b : Int) : Bool := decide (a ≤ n) && decide (n ≤ b)
set_option maxRecDepth 1000000 in
theorem within_any (n a b : Int) (w : World) : Calls Try.prog 62 #[.int .i64 n, .int .i64 a, .int .i64 b] w fun e w' => e = .returned (.bool (withinB n a b)) ∧ w' = w := by
  by_cases h1 : a ≤ n
  · by_cases h2 : n ≤ b
    · go_enter Try.func62, Try.ntmps62
      go_wp2
      go_ret
      exact ⟨by simp [withinB, h1, h2], rfl⟩
    · go_enter Try.func62, Try.ntmps62
      go_wp2
      go_ret
      exact ⟨by simp [withinB, h1, h2], rfl⟩
  · go_enter Try.func62, Try.ntmps62
    go_wp2
    go_ret
    exact ⟨by rw [show withinB n a b = false by simp [withinB]; omega]; rfl, rfl⟩

theorem made_row (w : World) (n : Nat) : ByteRow (w.alloc (.cells (madeCells #[.int .u8 0] n) 5)) 5 w.heap.size (List.replicate n 0) := by
  refine (heap_alloc_new w _).trans ?_
  congr 2
  apply Array.ext'
  simp [madeCells, u8s, Nat.mod_one]
  apply List.ext_getElem
  · simp
  · intro i h1 h2; simp
theorem splice_all (l : List UInt8) : splice (List.replicate l.length (0 : UInt8)) 0 l = l := by simp [splice]
theorem row_own {w : World} {g : Nat} {l : List UInt8} (h : ByteRow w 5 g l) (hl : l.length ≤ 140737488355328) : Own w g (.slice (some ⟨g, 0, none⟩) l.length l.length) l := by
  refine ⟨by rw [u8s_length, Nat.mul_one], .inr ⟨g, _, _, rfl, Nat.le_refl _, h, Nat.le_refl _, by unfold maxLen; omega, by simp [u8s_length], ?_⟩⟩
  rw [Nat.mul_one]
  simp [u8s_length, List.take_of_length_le]
theorem IsBytes.srcPos {w : World} {a : Option Addr} {c : Nat} {l : List UInt8} (h : IsBytes w a c l) (hn : 0 < (u8s l).length) : ∃ ad, a = some ad ∧ ∀ j v, (u8s l)[j]? = some v → w.cell? (ad.add j) = some v := by
  rw [u8s_length] at hn
  rcases h.src with ⟨_, h0⟩ | h
  · omega
  · exact h

set_option maxHeartbeats 1000000 in
set_option maxRecDepth 1000000 in
theorem copied_any (a : Option Addr) (c : Nat) (l : List UInt8) (w : World) (hl : IsBytes w a c l) (hb : l.length ≤ 140737488355328) :
    Calls Try.prog 54 #[.slice a l.length c] w fun e w' => e = .returned (.slice (some ⟨w.heap.size, 0, none⟩) l.length l.length) ∧ ByteRow w' 5 w.heap.size l ∧ Below w.heap.size w w' := by
  have HL : Hid (IsBytes w a c l) := hl
  clear hl
  obtain ⟨i8, hi, hz0, hz1, hz2⟩ := info_parts info_u8
  have hsz : (Try.prog.info? 5).map (·.size) = some 1 := by kernel_rfl
  go_enter Try.func54, Try.ntmps54
  go_wp2_with (first
    | (refine wpList_make_row _ rfl (.tmp 5) (.tmp 5) 37 rfl 5 i8 (.int .u8 0) Try.underlying37 hi hz0 hz1 rfl .i64 .i64 l.length rfl rfl (by rw [hz2]; omega) (by omega) ?_
       obtain ⟨w1, hw1⟩ : ∃ w1, w1 = w.alloc (.cells (madeCells #[.int .u8 0] l.length) 5) := ⟨_, rfl⟩
       rw [← hw1]
       have H1 : Hid (ByteRow w1 5 w.heap.size (List.replicate l.length 0) ∧ Below w.heap.size w w1) := by
         rw [hw1]
         exact ⟨made_row w l.length, (Below.refl _ w).alloc (Nat.le_refl _) _⟩
       have HW1 : Hid (w1 = w.alloc (.cells (madeCells #[.int .u8 0] l.length) 5)) := hw1
       clear hw1)
    | (refine wpList_copy_splice rfl (.tmp 7) (.tmp 8) 37 37 rfl 5 Try.underlying37 hsz (some ⟨w.heap.size, 0, none⟩) a l.length l.length l.length c rfl rfl w.heap.size 0 (u8s (List.replicate l.length 0)) 5 H1.out.1 (u8s l) (by rw [u8s_length]; exact (Nat.min_self _).symm)
         (fun h => ⟨rfl, (HL.out.below H1.out.2).srcPos h⟩) (by simp [u8s_length]) (u8s_one _) w.heap.size w H1.out.2 (Nat.le_refl _) ?_
       intro w2 H2 B2
       have HB2 : Hid (Below w.heap.size w w2) := B2
       clear B2))
  go_ret
  refine ⟨rfl, ?_, HB2.out⟩
  have := H2.out
  rw [u8s_splice, splice_all] at this
  exact this

theorem kept_neg (f : Fl) (x : Int) (h : x < 0) (hs : f.safe ≤ f.data.length) : (kept f x : Int) = -((x + 1).tmod ((f.data.length : Int) - (f.safe : Int) + 1)) := by
  unfold kept
  rw [if_pos h, ← Int.neg_tmod, Int.tmod_eq_emod_of_nonneg (by omega), show (((f.data.length - f.safe : Nat) : Int) + 1) = (f.data.length : Int) - (f.safe : Int) + 1 by omega]
  exact Int.toNat_of_nonneg (Int.emod_nonneg _ (by omega))
theorem kept_pos (f : Fl) (x : Int) (h : 0 ≤ x) (hs : f.safe ≤ f.data.length) : (kept f x : Int) = x % ((f.data.length : Int) - (f.safe : Int) + 1) := by
  unfold kept
  rw [if_neg (by omega), show (((f.data.length - f.safe : Nat) : Int) + 1) = (f.data.length : Int) - (f.safe : Int) + 1 by omega]
  exact Int.toNat_of_nonneg (Int.emod_nonneg _ (by omega))
theorem kept_le (f : Fl) (x : Int) (hs : f.safe ≤ f.data.length) : f.safe + kept f x ≤ f.data.length := by
  unfold kept
  have h1 := Int.emod_lt_of_pos (if x < 0 then -(x + 1) else x) (b := ((f.data.length - f.safe : Nat) + 1 : Int)) (by omega)
  have h2 := Int.emod_nonneg (if x < 0 then -(x + 1) else x) (b := ((f.data.length - f.safe : Nat) + 1 : Int)) (by omega)
  omega

set_option maxHeartbeats 1000000 in
set_option maxRecDepth 1000000 in
theorem kept_any (v : Value) (f : Fl) (x : Int) (w : World) (hx : -9223372036854775808 ≤ x ∧ x ≤ 9223372036854775807) (hv : Own w 0 v f.data) (hs : f.safe ≤ f.data.length) (hd : f.data.length ≤ 67108864) :
    Calls Try.prog 57 #[.agg #[v, .int .i64 (f.safe : Int)], .int .i64 x] w fun e w' => e = .returned (.int .i64 (kept f x : Int)) ∧ Below w.heap.size w w' := by
  obtain ⟨a, c, rfl, _⟩ := hv.shape
  obtain ⟨hx1, hx2⟩ := hx
  have hz : ((f.data.length : Int) - (f.safe : Int) + 1 == 0) = false := by simp; omega
  by_cases h0 : x < 0
  · go_enter Try.func57, Try.ntmps57
    go_wp2_with fail
    go_ret
    exact ⟨by rw [kept_neg f x h0 hs]; rfl, (Below.refl _ w).alloc (Nat.le_refl _) _⟩
  · go_enter Try.func57, Try.ntmps57
    go_wp2_with fail
    go_ret
    exact ⟨by rw [kept_pos f x h0 hs]; rfl, (Below.refl _ w).alloc (Nat.le_refl _) _⟩

theorem info_file : (Try.prog.info? 92).map (·.size) = some 2 := by kernel_rfl
theorem under_file : Try.prog.underlying 92 = some (.struct (Try.prog.fieldsOf 92)) := by kernel_rfl
theorem heap_alloc2_new (w : World) (o1 o2 : Obj) : ((w.alloc o1).alloc o2).heap[w.heap.size + 1]? = some o2 := by
  have := heap_alloc_new (w.alloc o1) o2
  rwa [show (w.alloc o1).heap.size = w.heap.size + 1 by simp] at this

/-- The bytes of a file, cut: as they lie, or in a new block. -/
theorem IsBytes.take {w : World} {a : Option Addr} {c : Nat} {l : List UInt8} (h : IsBytes w a c l) (n : Nat) : IsBytes w a c (l.take n) := by
  obtain ⟨h1, h2, h3⟩ := h
  refine ⟨by rw [List.length_take]; omega, h2, ?_⟩
  rcases h3 with rfl | ⟨b, o, ha, hb, hc⟩
  · exact .inl (by simp)
  · refine .inr ⟨b, o, ha, hb, fun j x hj => hc j x ?_⟩
    rw [List.getElem?_take] at hj
    split at hj
    · exact hj
    · cases hj

set_option maxHeartbeats 1000000 in
set_option maxRecDepth 1000000 in
theorem first_any (v : Value) (l : List UInt8) (s : Int) (n : Nat) (w : World) (hv : Own w 0 v l) (hn : n ≤ 67108864) :
    Calls Try.prog 56 #[.agg #[v, .int .i64 s], .int .i64 (n : Int)] w fun e w' => ∃ v', e = .returned (.agg #[v', .int .i64 (n : Int)]) ∧ Own w' 0 v' (l.take n) ∧ Below w.heap.size w w' ∧ (v' = v ∨ ∃ k, v'.ownBlock = some k ∧ w.heap.size ≤ k) := by
  obtain ⟨a, c, rfl, hb⟩ := hv.shape
  have hcl := hb.1
  have hcm : c ≤ 9223372036854775807 := by have := hb.2.1; unfold maxLen at this; omega
  have HV : Hid (Own w 0 (.slice a l.length c) l ∧ IsBytes w a c l) := ⟨hv, hb⟩
  clear hv hb
  by_cases hlt : (n : Int) < (l.length : Int)
  · have htl : (l.take n).length = n := by rw [List.length_take]; omega
    obtain ⟨wA, hwA⟩ : ∃ wA, wA = (w.alloc (.cells #[.slice a l.length c, .int .i64 s] 92)).alloc (.cells #[.slice none 0 0, .int .i64 0] 92) := ⟨_, rfl⟩
    have BA : Below w.heap.size w wA := by rw [hwA]; exact ((Below.refl _ w).alloc (Nat.le_refl _) _).alloc (by simp) _
    have hsA : wA.heap.size = w.heap.size + 2 := by rw [hwA]; simp
    have hbA : wA.heap[w.heap.size + 1]? = some (.cells #[.slice none 0 0, .int .i64 0] 92 (0, 0)) := by rw [hwA]; exact heap_alloc2_new _ _ _
    have hc := copied_any a c (l.take n) wA ((HV.out.2.take n).below BA) (by omega)
    rw [htl] at hc
    go_enter Try.func56, Try.ntmps56
    go_wp2_with fail
    rw [← hwA]
    refine hc.mono ?_
    rintro e w2 ⟨rfl, hrow, B2⟩
    have hb2 : w2.heap[w.heap.size + 1]? = some (.cells #[.slice none 0 0, .int .i64 0] 92 (0, 0)) := (B2.block _ (by omega)).trans hbA
    have HX : Hid (ByteRow w2 5 wA.heap.size (l.take n) ∧ Below w.heap.size w w2 ∧ w2.heap[w.heap.size + 1]? = some (.cells #[.slice none 0 0, .int .i64 0] 92 (0, 0)) ∧ wA.heap.size = w.heap.size + 2) := ⟨hrow, BA.trans (B2.mono BA.size), hb2, hsA⟩
    obtain ⟨g, hg⟩ : ∃ g, g = wA.heap.size := ⟨_, rfl⟩
    rw [← hg] at HX ⊢
    clear hrow B2 hb2 hsA hbA BA hc hwA hg htl
    go_wp2_with (refine wpList_store_row rfl 92 (.tmp 4) (.tmp 18) rfl (w.heap.size + 1) #[.slice (some ⟨g, 0, none⟩) n n, .int .i64 (n : Int)] rfl rfl 92 #[.slice none 0 0, .int .i64 0] HX.out.2.2.1 info_file rfl (by simp [Value.oneCell']) ?_)
    refine bodyPost_ret (results_cell_row rfl _ _ (w.heap.size + 1) 92 _ (0, 0) _ rfl (setRow_heap _ _ _ _ _ _ HX.out.2.2.1) under_file rfl info_file) rfl ?_
    obtain ⟨hrow, B2, hb2, hsA⟩ := HX.out
    have htl : (l.take n).length = n := by rw [List.length_take]; omega
    have ho := row_own hrow (by rw [htl]; omega)
    rw [htl] at ho
    have hk : Kept (fun k => k = w.heap.size + 1) w2 (w2.setRow (w.heap.size + 1) #[.slice (some ⟨g, 0, none⟩) n n, .int .i64 (n : Int)]) := ⟨rfl, rfl, rfl, by simp [World.setRow], fun k _ hk => setRow_other w2 _ k _ hk⟩
    exact ⟨_, rfl, (ho.mono (Nat.zero_le _)).kept hk (fun k e => by simp only [Value.ownBlock, Option.some.injEq] at e; omega), B2.trans (hk.below B2.size (fun k hk => by omega)), .inr ⟨g, rfl, by omega⟩⟩
  · go_enter Try.func56, Try.ntmps56
    go_wp2_with fail
    refine bodyPost_ret (results_cell_row rfl _ _ (w.heap.size + 1) 92 _ (0, 0) _ rfl (heap_alloc2_new _ _ _) under_file rfl info_file) rfl ?_
    have B2 := ((Below.refl _ w).alloc (Nat.le_refl _) (.cells #[.slice a l.length c, .int .i64 s] 92)).alloc (by simp) (.cells #[.slice a l.length c, .int .i64 (n : Int)] 92)
    refine ⟨_, rfl, ?_, B2, .inl rfl⟩
    rw [List.take_of_length_le (by omega)]
    exact HV.out.1.below B2
end Go.Proofs.Ytkmolklcbemfbaa
