/-
  The walks of write and read.
-/
import Derived.Test.YtibcfbajjnpbfaaCrc
import Derived.Test.YtibcfbajjnpbfaaMem
namespace Go.Proofs.Ytibcfbajjnpbfaa
open Go.RowKit

theorem splice_nil (bs : List UInt8) (o : Nat) : splice bs o [] = bs := by simp [splice]
theorem splice_snoc (bs : List UInt8) (o : Nat) (xs : List UInt8) (x : UInt8) (h : o + xs.length < bs.length) : (splice bs o xs).set (o + xs.length) x = splice bs o (xs ++ [x]) := by
  unfold splice
  have hl : (bs.take o).length = o := by simp; omega
  rw [List.set_append_right _ _ (by omega), hl, Nat.add_sub_cancel_left, List.set_append_right _ _ (Nat.le_refl _), Nat.sub_self, List.drop_eq_getElem_cons h]
  simp [List.append_assoc, Nat.add_assoc]
theorem le_snoc (k n : Nat) : Crc.le (k + 1) n = Crc.le k n ++ [UInt8.ofNat (n / 256 ^ k)] := by
  induction k generalizing n with
  | zero => simp [Crc.le]
  | succ k ih => rw [Crc.le, ih, Crc.le, List.cons_append, Nat.div_div_eq_div_mul, Nat.pow_succ, Nat.mul_comm 256]

set_option maxHeartbeats 1000000 in
set_option maxRecDepth 1000000 in
theorem write_any {t : TypeId} (g o m c n : Nat) (bs : List UInt8) (w : World) (hg : ByteRow w t g bs) (hfit : o + m ≤ bs.length) (hm : m ≤ 4294967296) (hn : n < 9223372036854775808) :
    Calls Try.prog 31 #[.slice (some ⟨g, o, none⟩) m c, .int .i64 n] w fun e w' => e = .returned (.tuple #[]) ∧ ByteRow w' t g (splice bs o (Crc.le m n)) ∧ w.grownBy w' (some g) ∧ w'.heap.size = w.heap.size := by
  have HG : Hid (ByteRow w t g bs) := hg
  clear hg
  go_enter Try.func31, Try.ntmps31
  go_wp2
  go_loopw [1, 7] (fun q i wr => ∃ (k v : Nat), k ≤ m ∧ i = .int .i64 k ∧ q = .int .i64 v ∧ v = n / 256 ^ k ∧ ByteRow wr t g (splice bs o (Crc.le k n)) ∧ w.grownBy wr (some g) ∧ wr.heap.size = w.heap.size) (fun _ i _ => m - (intOf i).toNat)
  case atStart => exact ⟨0, n, Nat.zero_le _, rfl, rfl, by simp, by rw [Crc.le, splice_nil]; exact HG.out, grown_refl _ _, rfl⟩
  case round =>
    obtain ⟨k, v, hk, rfl, rfl, hv, hrow, hgr, hsz⟩ := hrel
    have HV : Hid (v = n / 256 ^ k) := hv
    have hvb : v < 9223372036854775808 := by rw [hv]; exact Nat.lt_of_le_of_lt (Nat.div_le_self _ _) hn
    clear hv
    by_cases hlt : k < m
    · have hfr : wr.frozen? ⟨g, o + k, none⟩ = false := hrow.frozen _
      obtain ⟨old, hold⟩ : ∃ x, (splice bs o (Crc.le k n))[o + k]? = some x := ⟨_, List.getElem?_eq_getElem (by rw [length_splice _ _ _ (by rw [Crc.le_length]; omega)]; omega)⟩
      have hc0 : wr.cell? ⟨g, o + k, none⟩ = some (.int .u8 (old.toNat : Int)) := hrow.cell _ _ hold
      obtain ⟨x, hx⟩ : ∃ x, x = UInt8.ofNat v := ⟨_, rfl⟩
      have hx8 : IntKind.u8.wrap (v : Int) = (x.toNat : Int) := by rw [IntKind.wrap_u8, hx, UInt8.toNat_ofNat']; omega
      have HX : Hid (x = UInt8.ofNat v) := hx
      clear hx hold
      obtain ⟨hrow2, hgr2⟩ := hrow.set (o + k) x
      have HROW : Hid (ByteRow (wr.setCell ⟨g, o + k, none⟩ (.int .u8 (x.toNat : Int))) t g (splice bs o (Crc.le (k + 1) n))) := by
        show ByteRow _ _ _ _
        have := splice_snoc bs o (Crc.le k n) x (by rw [Crc.le_length]; omega)
        rw [Crc.le_length] at this
        rw [le_snoc, ← HV.out, ← HX.out, ← this]
        exact hrow2
      have HGR : Hid (wr.grownBy (wr.setCell ⟨g, o + k, none⟩ (.int .u8 (x.toNat : Int))) (some g)) := hgr2
      clear hrow2 hgr2 hrow
      go_wp2
      go_roundw
      case rel => exact ⟨k + 1, v / 256, by omega, by go_num, by go_num, by rw [HV.out, Nat.div_div_eq_div_mul, Nat.pow_succ], HROW.out, grown_trans hgr HGR.out, by simp [hsz]⟩
      case measure => simp [intOf]; omega
    · obtain rfl : k = m := by omega
      go_wp2
      go_end0
      exact ⟨rfl, hrow, hgr, hsz⟩
end Go.Proofs.Ytibcfbajjnpbfaa
