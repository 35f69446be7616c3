/-
  The walk of Get.
-/
import Derived.Test.YtbgldkjjdmacaaaRecM
namespace Go.Proofs.Ytbgldkjjdmacaaa
open Go.RowKit

def zeroR : Rec := ⟨0, fun _ => 0, []⟩
def getV (x : Rec) (v : Value) (e : Int) : Value := .tuple #[.agg (recA x v), .int .i64 e]
theorem RecAt.setTube {w : World} {b : Nat} {r : Rec} {v : Value} (h : RecAt w b r v) (t : List UInt8) : RecAt (w.setCell ⟨b, 17, none⟩ (.string ⟨t.toArray⟩)) b ⟨r.kind, r.num, t⟩ v := heap_setCell_same w b 17 _ _ _ h
theorem RecAt.setBody {w : World} {b : Nat} {r : Rec} {v : Value} (h : RecAt w b r v) (u : Value) : RecAt (w.setCell ⟨b, 18, none⟩ u) b r u := heap_setCell_same w b 18 _ _ _ h
theorem RecAt.frozen {w : World} {b : Nat} {r : Rec} {v : Value} (h : RecAt w b r v) (i : Nat) : w.frozen? ⟨b, i, none⟩ = false := frozen_of_row w b i _ _ h

theorem Kept.setRow (P : Nat → Prop) (w : World) (g : Nat) (cs : Array Value) (hP : P g) : Kept P w (w.setRow g cs) :=
  ⟨rfl, rfl, rfl, by simp, fun k _ hk => setRow_other w g k cs (fun e => hk (e ▸ hP))⟩
theorem below_setCell {w w1 : World} {B b i : Nat} {v : Value} (h : Below B w w1) (hb : B ≤ b) : Below B w (w1.setCell ⟨b, i, none⟩ v) :=
  ⟨h.os, h.tape, h.output, by simpa using h.size, fun j hj => (heap_setCell_other w1 ⟨b, i, none⟩ j v (by show j ≠ b; omega)).trans (h.block j hj)⟩
theorem one_of_own {w : World} {B : Nat} {v : Value} {l : List UInt8} (h : Own w B v l) : ∃ a c, v = .slice a l.length c := by
  obtain ⟨a, c, rfl, _⟩ := h.shape
  exact ⟨a, c, rfl⟩
theorem rec_body (r : Rec) (u v : Value) : (recA r u).setIfInBounds 18 v = recA r v := rfl
theorem rec_tube (r : Rec) (u : Value) (t : List UInt8) : (recA r u).setIfInBounds 17 (.string ⟨t.toArray⟩) = recA ⟨r.kind, r.num, t⟩ u := rfl

set_option maxHeartbeats 1000000 in
set_option maxRecDepth 1000000 in
theorem get_empty (a : Option Addr) (c : Nat) (w : World) :
    Calls Try.prog 22 #[.slice a 0 c] w fun e w' => Below w.heap.size w w' ∧ e = .returned (getV zeroR (.slice none 0 0) 102) := by
  go_enter Try.func22, Try.ntmps22
  go_wp2_with (refine wpList_store_row rfl 34 (.tmp 2) (.tmp 12) rfl w.heap.size (recA zeroR (.slice none 0 0)) rfl rfl 34 (recA zeroR (.slice none 0 0)) (heap_alloc_last _ _) info_rec rfl (rec_one _ _ _ _) ?_)
  refine bodyPost_ret (results_ct_row rfl _ _ w.heap.size 34 _ (0, 0) _ rfl (setRow_heap _ _ _ _ _ _ (heap_alloc_last _ _)) under_rec rfl info_rec) rfl ?_
  exact ⟨below_setRow ((Below.refl _ w).alloc (Nat.le_refl _) _) (Nat.le_refl _), rfl⟩

set_option maxHeartbeats 1000000 in
set_option maxRecDepth 1000000 in
theorem get_short (g o c : Nat) (x : UInt8) (l : List UInt8) (w : World) (hb : IsBytes w (some ⟨g, o, none⟩) c (x :: l)) (hn : takeN (fieldsL (x.toNat : Int)) l (fun _ => 0) = none) :
    Calls Try.prog 22 #[.slice (some ⟨g, o, none⟩) (l.length + 1) c] w fun e w' => Below w.heap.size w w' ∧ e = .returned (getV zeroR (.slice none 0 0) 102) := by
  have hc0 : w.cell? ⟨g, o, none⟩ = some (.int .u8 (x.toNat : Int)) := hb.cell 0 x rfl
  have hg : g < w.heap.size := by have := cell_lt hc0; simpa using this
  have hcc := hb.1
  rw [List.length_cons] at hcc
  have hcm : c ≤ 9223372036854775807 := by have := hb.2.1; unfold maxLen at this; omega
  have hx64 : wrap64 (x.toNat : Int) = (x.toNat : Int) := wrap64_u8 x
  have hd := hb.drop 1 (by simp)
  obtain ⟨a1, ha1⟩ : ∃ a1, (if c = 1 then some ⟨g, o, none⟩ else some ⟨g, o + 1, none⟩ : Option Addr) = a1 := ⟨_, rfl⟩
  rw [ha1] at hd
  have CT : Hid (∀ W, Below w.heap.size w W → Calls Try.prog 39 #[.slice a1 l.length (c - 1), .int .i64 (x.toNat : Int)] W fun e w' => Below W.heap.size W w' ∧ e = .returned (takeV (fun _ => 0) (.slice none 0 0) false)) := fun W hW => by
    refine (takeNumbers_any (x.toNat : Int) a1 (c - 1) l W (hd.below hW)).mono ?_
    rintro e w' ⟨hB, ⟨_, rfl⟩ | ⟨n, rest, a2, c2, h, _⟩⟩
    · exact ⟨hB, rfl⟩
    · rw [hn] at h; cases h
  have R0 : Hid (RecAt (w.alloc (.cells (recA zeroR (.slice none 0 0)) 34)) w.heap.size zeroR (.slice none 0 0)) := RecAt.new _ _ _
  have B0 : Hid (Below w.heap.size w (w.alloc (.cells (recA zeroR (.slice none 0 0)) 34))) := (Below.refl _ w).alloc (Nat.le_refl _) _
  clear hd hb hn
  go_enter Try.func22, Try.ntmps22
  go_wp2_with (first
    | (go_at_call 39
       refine (CT.out _ B0.out).mono ?_
       rintro e w1 ⟨B1, rfl⟩
       have BX1 : Hid (Below w.heap.size w w1) := below_box B1
       have R1 : Hid (RecAt w1 w.heap.size zeroR (.slice none 0 0)) := R0.out.below B1
       unfold takeV
       clear B1)
    | (refine wpList_store_new rfl 53 (.tmp 5) (.tmp 22) rfl (numsA fun _ => 0) rfl rfl 53 _ info_nums rfl (nums_one _) ?_)
    | (refine wpList_store_row rfl 34 (.tmp 2) (.tmp 27) rfl w.heap.size (recA zeroR (.slice none 0 0)) rfl rfl 34 (recA zeroR (.slice none 0 0)) (R1.out.below ((Below.refl _ w1).alloc (Nat.le_refl _) _)) info_rec rfl (rec_one _ _ _ _) ?_))
  refine bodyPost_ret (results_ct_row rfl _ _ w.heap.size 34 _ (0, 0) _ rfl (setRow_heap _ _ _ _ _ _ (R1.out.below ((Below.refl _ w1).alloc (Nat.le_refl _) _))) under_rec rfl info_rec) rfl ?_
  exact ⟨below_setRow (BX1.out.trans (((Below.refl _ w1).alloc (Nat.le_refl _) _).mono BX1.out.size)) (Nat.le_refl _), rfl⟩
end Go.Proofs.Ytbgldkjjdmacaaa
