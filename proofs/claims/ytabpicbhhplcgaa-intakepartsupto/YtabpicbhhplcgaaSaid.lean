/-
  The walk of 'said'.
-/
import Derived.Test.YtabpicbhhplcgaaOwnC
import Derived.Test.YtabpicbhhplcgaaCutL
namespace Go.Proofs.Ytabpicbhhplcgaa
open Go.RowKit

/-- What somebody says. -/
def saidL (t : List UInt8) (bd br : Bool) (d : List UInt8) : List UInt8 := (cutL t ++ [13, 10]) ++ (if bd then d ++ (if br then [10, 13] else [13, 10]) else [])
theorem cutL_le (l : List UInt8) : (cutL l).length ≤ l.length := by
  unfold cutL
  split
  · simp; omega
  · exact Nat.le_refl _
theorem two_bytes (w : World) (x y : UInt8) : IsBytes (w.alloc (.cells #[.int .u8 (x.toNat : Int), .int .u8 (y.toNat : Int)] 5)) (some ⟨w.heap.size, 0, none⟩) 2 [x, y] :=
  (show ByteRow _ 5 _ [x, y] from heap_alloc_last _ _).is 0 2 _ (fun j x hj => by rw [Nat.zero_add]; exact hj) (by simp) (by unfold maxLen; decide)

set_option maxHeartbeats 2000000 in
set_option maxRecDepth 1000000 in
theorem said_any (tx : ByteArray) (bd br : Bool) (a : Option Addr) (c n : Nat) (d : List UInt8) (w : World) (hd : IsBytes w a c d) (hn : d.length = n) (ht : tx.size ≤ 1048576) (hdl : d.length ≤ 1048576) :
    Calls Try.prog 25 #[.agg #[.string tx, .bool bd, .bool br, .slice a n c]] w fun e w' => ∃ v', e = .returned v' ∧ OwnC w' w.heap.size v' (saidL tx.data.toList bd br d) ∧ Below w.heap.size w w' := by
  have HD : Hid (IsBytes w a c d) := hd
  have HN : Hid (d.length = n) := hn
  obtain ⟨w1, hw1⟩ : ∃ w1, w1 = w.alloc (.cells #[.string tx, .bool bd, .bool br, .slice a n c] 59) := ⟨_, rfl⟩
  have B1 : Below w.heap.size w w1 := by rw [hw1]; exact (Below.refl _ w).alloc (Nat.le_refl _) _
  have r1 : w1.heap[w.heap.size]? = some (.cells #[.string tx, .bool bd, .bool br, .slice a n c] 59 (0, 0)) := by rw [hw1]; exact heap_alloc_last _ _
  have hs1 : w1.heap.size = w.heap.size + 1 := by rw [hw1]; simp
  have hlt1 : w.heap.size < w1.heap.size := by omega
  obtain ⟨cs, hcs⟩ : ∃ cs : ByteArray, cs = ⟨(cutL tx.data.toList).toArray⟩ := ⟨_, rfl⟩
  have hcl : cs.data.toList = cutL tx.data.toList := by rw [hcs]
  have hcsz : cs.size = (cutL tx.data.toList).length := by rw [hcs]; rfl
  have hcsl : cs.size ≤ 1048576 := by
    have := cutL_le tx.data.toList
    have h2 : tx.data.toList.length = tx.size := by simp
    omega
  obtain ⟨a2, c2, w2, hconv, own2, B2⟩ := conv_bytes w1 cs (by unfold maxLen; omega)
  have hs12 := B2.size
  have HR1 : Hid (w1.heap[w.heap.size]? = some (.cells #[.string tx, .bool bd, .bool br, .slice a n c] 59 (0, 0))) := r1
  have HW1 : Hid (w1 = w.alloc (.cells #[.string tx, .bool bd, .bool br, .slice a n c] 59)) := hw1
  have HB12 : Hid (Below w.heap.size w w1 ∧ Below w1.heap.size w1 w2) := ⟨B1, B2⟩
  have HO2 : Hid (OwnC w2 w1.heap.size (.slice a2 cs.size c2) cs.data.toList) := own2
  have HCL : Hid (cs.data.toList = cutL tx.data.toList) := hcl
  have HCS : Hid (⟨(cutL tx.data.toList).toArray⟩ = cs ∧ cs.data.toList.length ≤ 1048576) := ⟨hcs.symm, by rw [hcl]; omega⟩
  clear hd hn hw1 B1 r1 hs1 hcs hcl hcsz own2 B2
  cases bd with
  | false =>
    go_enter Try.func25, Try.ntmps25
    go_wp2_with fail
    rw [← HW1.out]
    refine (cutS_any tx w1 (by omega)).mono ?_
    rintro e w1' ⟨rfl, hW⟩
    rw [HCS.out.1]
    have hW := hW.symm
    subst hW
    go_wp2_with (first
      | (at_builtin; refine wpList_appendC rfl (.tmp 7) (.tmp 8) rfl w1.heap.size (.slice a2 cs.size c2) cs.data.toList rfl (HO2.out.below ((Below.refl _ w2).alloc (Nat.le_refl _) _)) (some ⟨w2.heap.size, 0, none⟩) 2 2 [13, 10] rfl rfl (two_bytes w2 13 10) (by have := HCS.out.2; simp; omega) (by simp; omega) ?_
         intro v3 w3 own3 B3
         have B03 : Below w1.heap.size w1 w3 := (HB12.out.2.trans ((Below.refl _ w2).alloc (Nat.le_refl _) _ |>.mono hs12)).trans B3
         have r3 := (B03.block w.heap.size hlt1).trans HR1.out
         have k1 : w3.cell? ⟨w.heap.size, 1, none⟩ = some (.bool false) := by simp [World.cell?, r3]
         have k2 : w3.cell? ⟨w.heap.size, 2, none⟩ = some (.bool br) := by simp [World.cell?, r3]
         have k3 : w3.cell? ⟨w.heap.size, 3, none⟩ = some (.slice a n c) := by simp [World.cell?, r3]
         have hs3 := B03.size
         have HR3 : Hid (w3.heap[w.heap.size]? = some (.cells #[.string tx, .bool false, .bool br, .slice a n c] 59 (0, 0))) := r3
         have HB3 : Hid (Below w1.heap.size w1 w3) := B03
         have HO3 : Hid (OwnC w3 w1.heap.size v3 (cs.data.toList ++ [13, 10])) := own3
         clear own3 B3 B03 r3))
    go_ret
    exact ⟨_, rfl, by
      have h := HO3.out
      rw [HCL.out] at h
      obtain ⟨g, cap, e, q1, q2⟩ := h
      refine ⟨g, cap, ?_, by omega, ?_⟩
      · simpa [saidL] using e
      · simpa [saidL] using q2, HB12.out.1.trans (HB3.out.mono (by omega))⟩
  | true =>
    cases br with
    | false =>
      go_enter Try.func25, Try.ntmps25
      go_wp2_with fail
      rw [← HW1.out]
      refine (cutS_any tx w1 (by omega)).mono ?_
      rintro e w1' ⟨rfl, hW⟩
      rw [HCS.out.1]
      have hW := hW.symm
      subst hW
      go_wp2_with (first
        | (at_builtin; refine wpList_appendC rfl (.tmp 7) (.tmp 8) rfl w1.heap.size (.slice a2 cs.size c2) cs.data.toList rfl (HO2.out.below ((Below.refl _ w2).alloc (Nat.le_refl _) _)) (some ⟨w2.heap.size, 0, none⟩) 2 2 [13, 10] rfl rfl (two_bytes w2 13 10) (by have := HCS.out.2; simp; omega) (by simp; omega) ?_
           intro v3 w3 own3 B3
           have B03 : Below w1.heap.size w1 w3 := (HB12.out.2.trans ((Below.refl _ w2).alloc (Nat.le_refl _) _ |>.mono hs12)).trans B3
           have r3 := (B03.block w.heap.size hlt1).trans HR1.out
           have k1 : w3.cell? ⟨w.heap.size, 1, none⟩ = some (.bool true) := by simp [World.cell?, r3]
           have k2 : w3.cell? ⟨w.heap.size, 2, none⟩ = some (.bool false) := by simp [World.cell?, r3]
           have k3 : w3.cell? ⟨w.heap.size, 3, none⟩ = some (.slice a n c) := by simp [World.cell?, r3]
           have hs3 := B03.size
           have HR3 : Hid (w3.heap[w.heap.size]? = some (.cells #[.string tx, .bool true, .bool false, .slice a n c] 59 (0, 0))) := r3
           have HB3 : Hid (Below w1.heap.size w1 w3) := B03
           have HO3 : Hid (OwnC w3 w1.heap.size v3 (cs.data.toList ++ [13, 10])) := own3
           clear own3 B3 B03 r3)
        | (at_builtin; refine wpList_appendC rfl (.tmp 14) (.tmp 16) rfl w1.heap.size v3 (cs.data.toList ++ [13, 10]) rfl HO3.out a c n d HN.out rfl ((HD.out.below HB12.out.1).below HB3.out) (by have := HCS.out.2; simp; omega) (by omega) ?_
           intro v4 w4 own4 B4
           have B04 : Below w1.heap.size w1 w4 := HB3.out.trans B4
           have r4 := (B04.block w.heap.size hlt1).trans HR1.out
           have l2 : w4.cell? ⟨w.heap.size, 2, none⟩ = some (.bool false) := by simp [World.cell?, r4]
           have hs4 := B04.size
           have HB4 : Hid (Below w1.heap.size w1 w4) := B04
           have HO4 : Hid (OwnC w4 w1.heap.size v4 ((cs.data.toList ++ [13, 10]) ++ d)) := own4
           clear own4 B4 B04 r4)
        | (at_builtin; refine wpList_appendC rfl (.tmp 23) (.tmp 24) rfl w1.heap.size v4 ((cs.data.toList ++ [13, 10]) ++ d) rfl (HO4.out.below ((Below.refl _ w4).alloc (Nat.le_refl _) _)) (some ⟨w4.heap.size, 0, none⟩) 2 2 [13, 10] rfl rfl (two_bytes w4 13 10) (by have := HCS.out.2; simp; omega) (by simp; omega) ?_
           intro v5 w5 own5 B5
           have HB5 : Hid (Below w1.heap.size w1 w5) := (HB4.out.trans ((Below.refl _ w4).alloc (Nat.le_refl _) _ |>.mono hs4)).trans B5
           have HO5 : Hid (OwnC w5 w1.heap.size v5 (((cs.data.toList ++ [13, 10]) ++ d) ++ [13, 10])) := own5
           clear own5 B5))
      go_ret
      exact ⟨_, rfl, by
        have h := HO5.out
        rw [HCL.out] at h
        have he : saidL tx.data.toList true false d = ((cutL tx.data.toList ++ [13, 10]) ++ d) ++ [13, 10] := by simp [saidL]
        rw [he]
        obtain ⟨g, cap, e, q1, q2⟩ := h
        exact ⟨g, cap, e, by omega, q2⟩, HB12.out.1.trans (HB5.out.mono (by omega))⟩
    | true =>
      go_enter Try.func25, Try.ntmps25
      go_wp2_with fail
      rw [← HW1.out]
      refine (cutS_any tx w1 (by omega)).mono ?_
      rintro e w1' ⟨rfl, hW⟩
      rw [HCS.out.1]
      have hW := hW.symm
      subst hW
      go_wp2_with (first
        | (at_builtin; refine wpList_appendC rfl (.tmp 7) (.tmp 8) rfl w1.heap.size (.slice a2 cs.size c2) cs.data.toList rfl (HO2.out.below ((Below.refl _ w2).alloc (Nat.le_refl _) _)) (some ⟨w2.heap.size, 0, none⟩) 2 2 [13, 10] rfl rfl (two_bytes w2 13 10) (by have := HCS.out.2; simp; omega) (by simp; omega) ?_
           intro v3 w3 own3 B3
           have B03 : Below w1.heap.size w1 w3 := (HB12.out.2.trans ((Below.refl _ w2).alloc (Nat.le_refl _) _ |>.mono hs12)).trans B3
           have r3 := (B03.block w.heap.size hlt1).trans HR1.out
           have k1 : w3.cell? ⟨w.heap.size, 1, none⟩ = some (.bool true) := by simp [World.cell?, r3]
           have k2 : w3.cell? ⟨w.heap.size, 2, none⟩ = some (.bool true) := by simp [World.cell?, r3]
           have k3 : w3.cell? ⟨w.heap.size, 3, none⟩ = some (.slice a n c) := by simp [World.cell?, r3]
           have hs3 := B03.size
           have HR3 : Hid (w3.heap[w.heap.size]? = some (.cells #[.string tx, .bool true, .bool true, .slice a n c] 59 (0, 0))) := r3
           have HB3 : Hid (Below w1.heap.size w1 w3) := B03
           have HO3 : Hid (OwnC w3 w1.heap.size v3 (cs.data.toList ++ [13, 10])) := own3
           clear own3 B3 B03 r3)
        | (at_builtin; refine wpList_appendC rfl (.tmp 14) (.tmp 16) rfl w1.heap.size v3 (cs.data.toList ++ [13, 10]) rfl HO3.out a c n d HN.out rfl ((HD.out.below HB12.out.1).below HB3.out) (by have := HCS.out.2; simp; omega) (by omega) ?_
           intro v4 w4 own4 B4
           have B04 : Below w1.heap.size w1 w4 := HB3.out.trans B4
           have r4 := (B04.block w.heap.size hlt1).trans HR1.out
           have l2 : w4.cell? ⟨w.heap.size, 2, none⟩ = some (.bool true) := by simp [World.cell?, r4]
           have hs4 := B04.size
           have HB4 : Hid (Below w1.heap.size w1 w4) := B04
           have HO4 : Hid (OwnC w4 w1.heap.size v4 ((cs.data.toList ++ [13, 10]) ++ d)) := own4
           clear own4 B4 B04 r4)
        | (at_builtin; refine wpList_appendC rfl (.tmp 20) (.tmp 21) rfl w1.heap.size v4 ((cs.data.toList ++ [13, 10]) ++ d) rfl (HO4.out.below ((Below.refl _ w4).alloc (Nat.le_refl _) _)) (some ⟨w4.heap.size, 0, none⟩) 2 2 [10, 13] rfl rfl (two_bytes w4 10 13) (by have := HCS.out.2; simp; omega) (by simp; omega) ?_
           intro v5 w5 own5 B5
           have HB5 : Hid (Below w1.heap.size w1 w5) := (HB4.out.trans ((Below.refl _ w4).alloc (Nat.le_refl _) _ |>.mono hs4)).trans B5
           have HO5 : Hid (OwnC w5 w1.heap.size v5 (((cs.data.toList ++ [13, 10]) ++ d) ++ [10, 13])) := own5
           clear own5 B5))
      go_ret
      exact ⟨_, rfl, by
        have h := HO5.out
        rw [HCL.out] at h
        have he : saidL tx.data.toList true true d = ((cutL tx.data.toList ++ [13, 10]) ++ d) ++ [10, 13] := by simp [saidL]
        rw [he]
        obtain ⟨g, cap, e, q1, q2⟩ := h
        exact ⟨g, cap, e, by omega, q2⟩, HB12.out.1.trans (HB5.out.mono (by omega))⟩
end Go.Proofs.Ytabpicbhhplcgaa
