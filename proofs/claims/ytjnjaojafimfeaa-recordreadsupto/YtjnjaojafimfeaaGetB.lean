/-
  GetA, GetB.
-/
import Derived.Test.YtjnjaojafimfeaaRecM
namespace Go.Proofs.Ytjnjaojafimfeaa
open Go.RowKit

def zeroR : Rec := ⟨0, fun _ => 0, []⟩
def getV (x : Rec) (v : Value) (e : Int) : Value := .tuple #[.agg (recA x v), .int .i64 e]
theorem RecAt.setTube {w : World} {b : Nat} {r : Rec} {v : Value} (h : RecAt w b r v) (t : List UInt8) : RecAt (w.setCell ⟨b, 17, none⟩ (.string ⟨t.toArray⟩)) b ⟨r.kind, r.num, t⟩ v := heap_setCell_same w b 17 _ _ _ h
theorem RecAt.setBody {w : World} {b : Nat} {r : Rec} {v : Value} (h : RecAt w b r v) (u : Value) : RecAt (w.setCell ⟨b, 18, none⟩ u) b r u := heap_setCell_same w b 18 _ _ _ h
theorem RecAt.frozen {w : World} {b : Nat} {r : Rec} {v : Value} (h : RecAt w b r v) (i : Nat) : w.frozen? ⟨b, i, none⟩ = false := frozen_of_row w b i _ _ h

theorem Kept.setRow (P : Nat → Prop) (w : World) (g : Nat) (cs : Array Value) (hP : P g) : Kept P w (w.setRow g cs) :=
  ⟨rfl, rfl, rfl, by simp, fun k _ hk => setRow_other w g k cs (fun e => hk (e ▸ hP))⟩
theorem below_setCell {w w1 : World} {B b i : Nat} {v : Value} (h : Below B w w1) (hb : B ≤ b) : Below B w (w1.setCell ⟨b, i, none⟩ v) :=
  ⟨h.os, h.tape, h.output, by simpa using h.size, fun j hj => (heap_setCell_other w1 ⟨b, i, none⟩ j v (by show j ≠ b; omega)).trans (h.block j hj)⟩
theorem one_of_own {w : World} {B : Nat} {v : Value} {l : List UInt8} (h : Own w B v l) : ∃ a c, v = .slice a l.length c := by
  obtain ⟨a, c, rfl, _⟩ := h.shape
  exact ⟨a, c, rfl⟩
theorem rec_body (r : Rec) (u v : Value) : (recA r u).setIfInBounds 18 v = recA r v := rfl
theorem rec_tube (r : Rec) (u : Value) (t : List UInt8) : (recA r u).setIfInBounds 17 (.string ⟨t.toArray⟩) = recA ⟨r.kind, r.num, t⟩ u := rfl

set_option maxHeartbeats 1000000 in
set_option maxRecDepth 1000000 in
theorem get_empty (a : Option Addr) (c : Nat) (w : World) :
    Calls Try.prog 22 #[.slice a 0 c] w fun e w' => Below w.heap.size w w' ∧ e = .returned (getV zeroR (.slice none 0 0) 102) := by
  go_enter Try.func22, Try.ntmps22
  go_wp2_with (refine wpList_store_row rfl 34 (.tmp 2) (.tmp 12) rfl w.heap.size (recA zeroR (.slice none 0 0)) rfl rfl 34 (recA zeroR (.slice none 0 0)) (heap_alloc_last _ _) info_rec rfl (rec_one _ _ _ _) ?_)
  refine bodyPost_ret (results_ct_row rfl _ _ w.heap.size 34 _ (0, 0) _ rfl (setRow_heap _ _ _ _ _ _ (heap_alloc_last _ _)) under_rec rfl info_rec) rfl ?_
  exact ⟨below_setRow ((Below.refl _ w).alloc (Nat.le_refl _) _) (Nat.le_refl _), rfl⟩

set_option maxHeartbeats 1000000 in
set_option maxRecDepth 1000000 in
theorem get_short (g o c : Nat) (x : UInt8) (l : List UInt8) (w : World) (hb : IsBytes w (some ⟨g, o, none⟩) c (x :: l)) (hn : takeN (fieldsL (x.toNat : Int)) l (fun _ => 0) = none) :
    Calls Try.prog 22 #[.slice (some ⟨g, o, none⟩) (l.length + 1) c] w fun e w' => Below w.heap.size w w' ∧ e = .returned (getV zeroR (.slice none 0 0) 102) := by
  have hc0 : w.cell? ⟨g, o, none⟩ = some (.int .u8 (x.toNat : Int)) := hb.cell 0 x rfl
  have hg : g < w.heap.size := by have := cell_lt hc0; simpa using this
  have hcc := hb.1
  rw [List.length_cons] at hcc
  have hcm : c ≤ 9223372036854775807 := by have := hb.2.1; unfold maxLen at this; omega
  have hx64 : wrap64 (x.toNat : Int) = (x.toNat : Int) := wrap64_u8 x
  have hd := hb.drop 1 (by simp)
  obtain ⟨a1, ha1⟩ : ∃ a1, (if c = 1 then some ⟨g, o, none⟩ else some ⟨g, o + 1, none⟩ : Option Addr) = a1 := ⟨_, rfl⟩
  rw [ha1] at hd
  have CT : Hid (∀ W, Below w.heap.size w W → Calls Try.prog 39 #[.slice a1 l.length (c - 1), .int .i64 (x.toNat : Int)] W fun e w' => Below W.heap.size W w' ∧ e = .returned (takeV (fun _ => 0) (.slice none 0 0) false)) := fun W hW => by
    refine (takeNumbers_any (x.toNat : Int) a1 (c - 1) l W (hd.below hW)).mono ?_
    rintro e w' ⟨hB, ⟨_, rfl⟩ | ⟨n, rest, a2, c2, h, _⟩⟩
    · exact ⟨hB, rfl⟩
    · rw [hn] at h; cases h
  have R0 : Hid (RecAt (w.alloc (.cells (recA zeroR (.slice none 0 0)) 34)) w.heap.size zeroR (.slice none 0 0)) := RecAt.new _ _ _
  have B0 : Hid (Below w.heap.size w (w.alloc (.cells (recA zeroR (.slice none 0 0)) 34))) := (Below.refl _ w).alloc (Nat.le_refl _) _
  clear hd hb hn
  go_enter Try.func22, Try.ntmps22
  go_wp2_with (first
    | (go_at_call 39
       refine (CT.out _ B0.out).mono ?_
       rintro e w1 ⟨B1, rfl⟩
       have BX1 : Hid (Below w.heap.size w w1) := below_box B1
       have R1 : Hid (RecAt w1 w.heap.size zeroR (.slice none 0 0)) := R0.out.below B1
       unfold takeV
       clear B1)
    | (refine wpList_store_new rfl 53 (.tmp 5) (.tmp 22) rfl (numsA fun _ => 0) rfl rfl 53 _ info_nums rfl (nums_one _) ?_)
    | (refine wpList_store_row rfl 34 (.tmp 2) (.tmp 27) rfl w.heap.size (recA zeroR (.slice none 0 0)) rfl rfl 34 (recA zeroR (.slice none 0 0)) (R1.out.below ((Below.refl _ w1).alloc (Nat.le_refl _) _)) info_rec rfl (rec_one _ _ _ _) ?_))
  refine bodyPost_ret (results_ct_row rfl _ _ w.heap.size 34 _ (0, 0) _ rfl (setRow_heap _ _ _ _ _ _ (R1.out.below ((Below.refl _ w1).alloc (Nat.le_refl _) _))) under_rec rfl info_rec) rfl ?_
  exact ⟨below_setRow (BX1.out.trans (((Below.refl _ w1).alloc (Nat.le_refl _) _).mono BX1.out.size)) (Nat.le_refl _), rfl⟩
end Go.Proofs.Ytjnjaojafimfeaa

namespace Go.Proofs.Ytjnjaojafimfeaa
open Go.RowKit

set_option maxHeartbeats 2000000 in
set_option maxRecDepth 1000000 in
theorem get_plain_no (g o c : Nat) (x : UInt8) (l : List UInt8) (n : Nat → Int) (rest : List UInt8) (w : World) (hb : IsBytes w (some ⟨g, o, none⟩) c (x :: l)) (hn : takeN (fieldsL (x.toNat : Int)) l (fun _ => 0) = some (n, rest)) (hk2 : ¬ (x.toNat : Int) = 2) (hck : checkE ⟨(x.toNat : Int), n, []⟩ rest.length ≠ 0) :
    Calls Try.prog 22 #[.slice (some ⟨g, o, none⟩) (l.length + 1) c] w fun e w' => Below w.heap.size w w' ∧ e = .returned (getV zeroR (.slice none 0 0) 102) := by
  have hc0 : w.cell? ⟨g, o, none⟩ = some (.int .u8 (x.toNat : Int)) := hb.cell 0 x rfl
  have hg : g < w.heap.size := by have := cell_lt hc0; simpa using this
  have hcc := hb.1
  rw [List.length_cons] at hcc
  have hcm : c ≤ 9223372036854775807 := by have := hb.2.1; unfold maxLen at this; omega
  have hx64 : wrap64 (x.toNat : Int) = (x.toNat : Int) := wrap64_u8 x
  have hd := hb.drop 1 (by simp)
  obtain ⟨a1, ha1⟩ : ∃ a1, (if c = 1 then some ⟨g, o, none⟩ else some ⟨g, o + 1, none⟩ : Option Addr) = a1 := ⟨_, rfl⟩
  rw [ha1] at hd
  have CT : Hid (∀ W, Below w.heap.size w W → Calls Try.prog 39 #[.slice a1 l.length (c - 1), .int .i64 (x.toNat : Int)] W fun e w' => ∃ a2 c2, Below W.heap.size W w' ∧ e = .returned (takeV n (.slice a2 rest.length c2) true) ∧ IsBytes w' a2 c2 rest) := fun W hW => by
    refine (takeNumbers_any (x.toNat : Int) a1 (c - 1) l W (hd.below hW)).mono ?_
    rintro e w' ⟨hB, ⟨h, _⟩ | ⟨n', rest', a2, c2, h, rfl, hi⟩⟩
    · rw [hn] at h; cases h
    · rw [hn] at h
      simp only [Option.some.injEq, Prod.mk.injEq] at h
      obtain ⟨rfl, rfl⟩ := h
      exact ⟨a2, c2, hB, rfl, hi⟩
  obtain ⟨k, hk⟩ : ∃ k : Int, k = (x.toNat : Int) := ⟨_, rfl⟩
  have CR : Hid (∀ W, Calls Try.prog 40 #[.agg (numsA n), .int .i64 (x.toNat : Int)] W fun e w' => e = .returned (.agg (recA ⟨(x.toNat : Int), n, []⟩ (.slice none 0 0))) ∧ Below W.heap.size W w') := record_any (x.toNat : Int) n
  have R0 : Hid (RecAt (w.alloc (.cells (recA zeroR (.slice none 0 0)) 34)) w.heap.size zeroR (.slice none 0 0)) := RecAt.new _ _ _
  have B0 : Hid (Below w.heap.size w (w.alloc (.cells (recA zeroR (.slice none 0 0)) 34))) := (Below.refl _ w).alloc (Nat.le_refl _) _
  have hkb : ((x.toNat : Int) == 2) = false := by simpa using hk2
  have CC0 : ∀ W a2 c2, Calls Try.prog 13 #[.agg (recA ⟨(x.toNat : Int), n, []⟩ (.slice a2 rest.length c2))] W fun e w' => e = .returned (.int .i64 (checkE ⟨(x.toNat : Int), n, []⟩ rest.length)) ∧ Below W.heap.size W w' := fun W a2 c2 => check_any ⟨(x.toNat : Int), n, []⟩ a2 rest.length c2 W
  obtain ⟨z, hz⟩ : ∃ z, z = checkE ⟨(x.toNat : Int), n, []⟩ rest.length := ⟨_, rfl⟩
  rw [← hz] at CC0 hck
  have hzb : (z != 0) = true := by simpa using hck
  clear hck hz
  have CC : Hid (∀ W a2 c2, Calls Try.prog 13 #[.agg (recA ⟨(x.toNat : Int), n, []⟩ (.slice a2 rest.length c2))] W fun e w' => e = .returned (.int .i64 z) ∧ Below W.heap.size W w') := CC0
  clear CC0
  obtain ⟨D, hD⟩ : ∃ D, D = numsA n := ⟨_, rfl⟩
  have HD1 : Hid (D.all (·.oneCell') = true ∧ D.size = 16) := ⟨by rw [hD]; exact nums_one _, by rw [hD]; rfl⟩
  unfold takeV at CT
  rw [← hD] at CT CR
  obtain ⟨C, hC⟩ : ∃ C, C = recA ⟨(x.toNat : Int), n, []⟩ (.slice none 0 0) := ⟨_, rfl⟩
  have HC : Hid (C = recA ⟨(x.toNat : Int), n, []⟩ (.slice none 0 0)) := hC
  have HC1 : Hid (C.all (·.oneCell') = true ∧ C.size = 19) := ⟨by rw [hC]; exact rec_one _ _ _ _, by rw [hC]; rfl⟩
  rw [← hC] at CR
  have hC17 : C[17]? = some (.string ⟨#[]⟩) := by rw [hC]; rfl
  have hC18 : C[18]? = some (.slice none 0 0) := by rw [hC]; rfl
  clear hd hb hn hC hD hk
  go_enter Try.func22, Try.ntmps22
  go_wp2_with (first
    | (go_at_call 39
       refine (CT.out _ B0.out).mono ?_
       rintro e w1 ⟨a2, c2, B1, rfl, hi2⟩
       have BX1 : Hid (Below w.heap.size w w1) := below_box B1
       have R1 : Hid (RecAt w1 w.heap.size zeroR (.slice none 0 0)) := R0.out.below B1
       have I1 : Hid (IsBytes w1 a2 c2 rest) := hi2
       clear B1 hi2)
    | (refine wpList_store_new rfl 53 (.tmp 5) (.tmp 22) rfl D rfl rfl 53 _ (by rw [HD1.out.2]; exact info_nums) (by rw [HD1.out.2]; rfl) HD1.out.1 ?_)
    | (refine wpList_load_row rfl 53 (.tmp 5) rfl w1.heap.size rfl 53 D (0, 0) _ (heap_alloc_last _ _) Try.underlying53 rfl (by rw [HD1.out.2]; exact info_nums) ?_)
    | (go_at_call 40
       refine (CR.out _).mono ?_
       rintro e w2 ⟨rfl, B2⟩
       have Bz : Below w1.heap.size w1 w2 := below_box B2
       have BX2 : Hid (Below w.heap.size w w2) := BX1.out.trans (Bz.mono BX1.out.size)
       have R2 : Hid (RecAt w2 w.heap.size zeroR (.slice none 0 0)) := R1.out.below Bz
       have I2 : Hid (IsBytes w2 a2 c2 rest ∧ w1.heap.size ≤ w2.heap.size) := ⟨I1.out.below Bz, Bz.size⟩
       clear B2 Bz)
    | (refine wpList_store_new rfl 34 (.tmp 8) (.tmp 30) rfl C rfl rfl 34 _ (by rw [HC1.out.2]; exact info_rec) (by rw [HC1.out.2]; rfl) HC1.out.1 ?_)
    | (refine wpList_load_wanted (by rfl) 34 (.tmp 8) rfl w2.heap.size rfl 34 (C.setIfInBounds 18 (.slice a2 rest.length c2)) (0, 0) _ (heap_alloc_last _ _) under_rec rfl (by rw [Array.size_setIfInBounds, HC1.out.2]; exact info_rec) ?_)
    | (go_at_call 13
       rw [HC.out, rec_body]
       refine (CC.out _ a2 c2).mono ?_
       rw [← rec_body _ (.slice none 0 0), ← HC.out]
       rintro e w3 ⟨rfl, B3⟩
       have Bz : Below w2.heap.size w2 w3 := below_box B3
       have BX3 : Hid (Below w.heap.size w w3) := BX2.out.trans (Bz.mono BX2.out.size)
       have R3 : Hid (RecAt w3 w.heap.size zeroR (.slice none 0 0)) := R2.out.below Bz
       have T3 : Hid (RecAt w3 w2.heap.size ⟨(x.toNat : Int), n, []⟩ (.slice a2 rest.length c2)) := (B3.block _ (by simp)).trans (by rw [HC.out]; exact heap_alloc_last _ _)
       have I3 : Hid (IsBytes w3 a2 c2 rest ∧ w2.heap.size < w3.heap.size) := ⟨I2.out.1.below Bz, by have := B3.size; simp at this; omega⟩
       clear B3 Bz)
    | (refine wpList_store_row rfl 34 (.tmp 2) (.tmp 51) rfl w.heap.size (recA zeroR (.slice none 0 0)) rfl rfl 34 (recA zeroR (.slice none 0 0)) R3.out info_rec rfl (rec_one _ _ _ _) ?_))
  refine bodyPost_ret (results_ct_row rfl _ _ w.heap.size 34 _ (0, 0) _ rfl (setRow_heap _ _ _ _ _ _ R3.out) under_rec rfl info_rec) rfl ?_
  exact ⟨below_setRow BX3.out (Nat.le_refl _), rfl⟩
end Go.Proofs.Ytjnjaojafimfeaa
