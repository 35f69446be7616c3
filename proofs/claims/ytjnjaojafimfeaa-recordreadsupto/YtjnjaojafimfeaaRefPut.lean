/-
  The document's Put and Size.
-/
import Derived.Test.YtjnjaojafimfeaaRefNums2
import Derived.Test.YtjnjaojafimfeaaSizeW
import Derived.Test.YtjnjaojafimfeaaTextA
import Derived.Deep.Cut
import Derived.Deep.CutBlock
namespace Go.Proofs.Ytjnjaojafimfeaa
open Go.RowKit

theorem leN_snoc : ∀ (j X : Nat), leN (j + 1) X = leN j X ++ [UInt8.ofNat (X / 256 ^ j)]
  | 0, X => by simp [leN]
  | j + 1, X => by
    rw [leN, leN_snoc j (X / 256), leN, List.cons_append, Nat.div_div_eq_div_mul, Nat.pow_succ, Nat.mul_comm 256]
theorem flat_nums (n : Nat → Int) (l : List Nat) : (l.map n).flatMap le8 = numsL n l := by simp [numsL, List.flatMap_map]
theorem nums_in {r : Rec} {m : Nat} (h : checkE r m = 0) : ∀ x ∈ (fieldsL r.kind).map r.num, 0 ≤ x ∧ x ≤ 4611686018427387903 := by
  intro x hx
  obtain ⟨f, hf, rfl⟩ := List.mem_map.1 hx
  have h3 := (check_ok h).2.2.1
  unfold mayBeB at h3
  rw [Bool.and_eq_true, List.all_eq_true] at h3
  have h4 := within_iff.1 (h3.1 f hf)
  have h5 := bndL_ge f (r.num 8)
  have h6 := bndH_le f (r.num 8)
  omega
/-- What Put tells. -/
def RPutPost (r : Rec) (body : List UInt8) (w : World) (e : Ending) (w' : World) : Prop :=
  Below w.heap.size w w' ∧ ((checkE r body.length ≠ 0 ∧ e = .returned (.tuple #[.slice none 0 0, .int .i64 (checkE r body.length)])) ∨ (checkE r body.length = 0 ∧ ∃ v, e = .returned (.tuple #[v, .int .i64 0]) ∧ Own w' w.heap.size v (putL r body)))
theorem one_byte (w : World) (x : UInt8) : IsBytes (w.alloc (.cells #[.int .u8 (x.toNat : Int)] 5)) (some ⟨w.heap.size, 0, none⟩) 1 [x] := by
  refine ⟨by simp, by unfold maxLen; omega, .inr ⟨w.heap.size, 0, rfl, by simp, fun j y hj => ?_⟩⟩
  have hb := heap_alloc_last w (.cells #[.int .u8 (x.toNat : Int)] 5)
  match j, hj with
  | 0, hj =>
    simp only [List.getElem?_cons_zero, Option.some.injEq] at hj
    subst hj
    rw [cell_of_row _ _ 0 _ _ (0, 0) hb]
    rfl
theorem one_own (w : World) (B : Nat) (x : UInt8) (hB : B ≤ w.heap.size) : Own (w.alloc (.cells #[.int .u8 (x.toNat : Int)] 5)) B (.slice (some ⟨w.heap.size, 0, none⟩) 1 1) [x] :=
  ⟨rfl, .inr ⟨w.heap.size, 1, #[.int .u8 (x.toNat : Int)], rfl, hB, heap_alloc_last _ _, Nat.le_refl _, by unfold maxLen; omega, rfl, rfl⟩⟩

theorem kind_mod {k : Int} (h : withinB k 1 4 = true) : k % 256 = ((UInt8.ofNat k.toNat).toNat : Int) := by
  have h1 := within_iff.1 h
  have h2 : k = 1 ∨ k = 2 ∨ k = 3 ∨ k = 4 := by omega
  rcases h2 with rfl | rfl | rfl | rfl <;> rfl
theorem nat_mod (m : Nat) : (m : Int) % 256 = ((UInt8.ofNat m).toNat : Int) := by
  have h : (UInt8.ofNat m).toNat = m % 256 := by simp [UInt8.toNat_ofNat']
  rw [h]
  omega

theorem flat_len (l : List Int) : (l.flatMap le8).length = 8 * l.length := by
  induction l with
  | nil => rfl
  | cons x l ih => rw [List.flatMap_cons, List.length_append, ih, le8_length, List.length_cons]; omega
theorem leN_len : ∀ (k m : Nat), (leN k m).length = k
  | 0, _ => rfl
  | k + 1, m => by rw [leN, List.length_cons, leN_len k]
/-- What stays as bytes of our own grow. -/
theorem put_step {w1 wr w4 w6 : World} {gi : Nat} {v v6 : Value} {l : List UInt8} (ho : Own wr w1.heap.size v l) (hB : Below w1.heap.size w1 wr) (hg : wr.heap[gi]? = w4.heap[gi]?) (hgl : gi < w4.heap.size) (hap : ∀ j, v.ownBlock = some j → j ≠ gi) (g6 : wr.grownBy w6 v.ownBlock) (l6 : v6.ownBlock = v.ownBlock ∨ v6.ownBlock = some wr.heap.size) :
    Below w1.heap.size w1 w6 ∧ w6.heap[gi]? = w4.heap[gi]? ∧ ∀ j, v6.ownBlock = some j → j ≠ gi := by
  have hgr : gi < wr.heap.size := by
    rw [Array.getElem?_eq_getElem hgl] at hg
    exact (Array.getElem?_eq_some_iff.1 hg).1
  refine ⟨hB.grown g6 hB.size (fun j hj => (World.ownsRow.lt ho j hj).1), (g6.block gi hgr (fun e => hap gi e.symm rfl)).trans hg, fun j hj => ?_⟩
  rcases l6 with e | e
  · exact hap j (e ▸ hj)
  · rw [e] at hj
    cases hj
    omega
theorem alloc_step {w1 wr w4 : World} {gi : Nat} {v : Value} {l : List UInt8} (ho : Own wr w1.heap.size v l) (hB : Below w1.heap.size w1 wr) (hg : wr.heap[gi]? = w4.heap[gi]?) (hgl : gi < w4.heap.size) (o : Obj) :
    Own (wr.alloc o) w1.heap.size v l ∧ Below w1.heap.size w1 (wr.alloc o) ∧ (wr.alloc o).heap[gi]? = w4.heap[gi]? := by
  have hgr : gi < wr.heap.size := by
    rw [Array.getElem?_eq_getElem hgl] at hg
    exact (Array.getElem?_eq_some_iff.1 hg).1
  exact ⟨ho.below ((Below.refl _ wr).alloc (Nat.le_refl _) _), hB.alloc hB.size _, (heap_alloc_old _ _ hgr).trans hg⟩

set_option maxHeartbeats 4000000 in
set_option maxRecDepth 1000000 in
theorem refPut_no (r : Rec) (a : Option Addr) (m c : Nat) (w : World) (h0 : checkE r m ≠ 0) :
    Calls Try.prog 19 #[.agg (recA r (.slice a m c))] w fun e w' => e = .returned (.tuple #[.slice none 0 0, .int .i64 (checkE r m)]) ∧ Below w.heap.size w w' := by
  have CC : Hid (∀ W, Calls Try.prog 16 #[.agg (recA r (.slice a m c))] W fun e w' => e = .returned (.int .i64 (checkE r m)) ∧ Below W.heap.size W w') := by
    intro W
    have := refCheck_any r a m c W
    rw [ref_check] at this
    exact this
  have R0 : Hid (RecAt (w.alloc (.cells (recA r (.slice a m c)) 34)) w.heap.size r (.slice a m c)) := RecAt.new _ _ _
  obtain ⟨C, hC⟩ : ∃ C, C = recA r (.slice a m c) := ⟨_, rfl⟩
  have HSZ : Hid (C.size = 19) := by show C.size = 19; rw [hC]; rfl
  have HC : Hid (C = recA r (.slice a m c)) := hC
  rw [← hC] at R0 CC ⊢
  obtain ⟨z, hz⟩ : ∃ z, z = checkE r m := ⟨_, rfl⟩
  rw [← hz] at CC h0 ⊢
  have hzb : (z != 0) = true := by simpa using h0
  clear hC hz
  go_enter Try.func19, Try.ntmps19
  go_wp2_with (first
    | (go_at_call 16
       refine (CC.out _).mono ?_
       rintro e w1 ⟨rfl, B1⟩
       have BX1 : Hid (Below w.heap.size w w1) := below_box B1
       clear B1)
    | (refine wpList_load_row rfl 34 (.tmp 1) rfl w.heap.size rfl 34 C (0, 0) _ (by rw [HC.out]; exact heap_alloc_last _ _) under_rec rfl (by rw [HSZ.out]; exact info_rec) ?_))
  go_ret2
  exact ⟨rfl, BX1.out⟩

set_option maxHeartbeats 4000000 in
set_option maxRecDepth 1000000 in
theorem refPut_yes (r : Rec) (body : List UInt8) (a : Option Addr) (c : Nat) (w : World) (hb : IsBytes w a c body) (hbl : body.length ≤ 140737488300000) (h0 : checkE r body.length = 0) :
    Calls Try.prog 19 #[.agg (recA r (.slice a body.length c))] w fun e w' => ∃ v, e = .returned (.tuple #[v, .int .i64 0]) ∧ Own w' w.heap.size v (putL r body) ∧ Below w.heap.size w w' := by
  have CC : Hid (∀ W, Calls Try.prog 16 #[.agg (recA r (.slice a body.length c))] W fun e w' => e = .returned (.int .i64 0) ∧ Below W.heap.size W w') := by
    intro W
    have := refCheck_any r a body.length c W
    rw [ref_check, h0] at this
    exact this
  obtain ⟨l, hl⟩ : ∃ l, l = (fieldsL r.kind).map r.num := ⟨_, rfl⟩
  have CN : Hid (∀ W, Calls Try.prog 37 #[.agg (recA r (.slice a body.length c))] W fun e w' => ∃ v, e = .returned v ∧ IntsIn w' W.heap.size v l ∧ Below W.heap.size W w') := fun W => by
    rw [hl]
    exact numbers_any r a body.length c W (check_ok h0).1
  have hkb := kind_mod (check_ok h0).1
  obtain ⟨kb, hkb'⟩ : ∃ kb, kb = UInt8.ofNat r.kind.toNat := ⟨_, rfl⟩
  rw [← hkb'] at hkb
  have HN : Hid (∀ x ∈ l, 0 ≤ x ∧ x ≤ 4611686018427387903) := by rw [hl]; exact nums_in h0
  have hll : l.length ≤ 13 := by rw [hl, List.length_map]; exact fields_len _
  have HS := hideN (And.intro hl (And.intro hkb' h0))
  have HB := hideN (And.intro hb hbl)
  obtain ⟨w1, hw1⟩ : ∃ w1, w1 = w.alloc (.cells (recA r (.slice a body.length c)) 34) := ⟨_, rfl⟩
  have R1 : Hid (RecAt w1 w.heap.size r (.slice a body.length c) ∧ Below w.heap.size w w1) := ⟨by rw [hw1]; exact RecAt.new _ _ _, by rw [hw1]; exact (Below.refl _ w).alloc (Nat.le_refl _) _⟩
  have hws : w.heap.size < w1.heap.size := R1.out.1.lt
  obtain ⟨C, hC⟩ : ∃ C, C = recA r (.slice a body.length c) := ⟨_, rfl⟩
  have HC := hideN (And.intro hC (show C.size = 19 by rw [hC]; rfl))
  rw [← hC] at CC CN hw1 ⊢
  have HW1 := hideN hw1
  clear hC hw1 hb hbl h0 hl hkb'
  go_enter Try.func19, Try.ntmps19
  go_upto_region 1 with fail
  rw [← HW1.out]
  clear HW1
  go_wp2_with (first
    | (go_at_call 16
       refine (CC.out _).mono ?_
       rintro e w2 ⟨rfl, B2⟩
       have R2 : Hid (RecAt w2 w.heap.size r (.slice a body.length c) ∧ Below w1.heap.size w1 w2) := ⟨R1.out.1.below B2, B2⟩
       have x0 : w2.cell? ⟨w.heap.size, 0, none⟩ = some (.int .i64 r.kind) := R2.out.1.cell 0
       obtain ⟨w3, hw3⟩ : ∃ w3, w3 = w2.alloc (.cells #[.int .u8 (kb.toNat : Int)] 5) := ⟨_, rfl⟩
       have R3 : Hid (RecAt w3 w.heap.size r (.slice a body.length c) ∧ Below w1.heap.size w1 w3 ∧ Own w3 w1.heap.size (.slice (some ⟨w2.heap.size, 0, none⟩) 1 1) [kb] ∧ w3.heap.size = w2.heap.size + 1) := by
         have b23 : Below w2.heap.size w2 w3 := by rw [hw3]; exact (Below.refl _ w2).alloc (Nat.le_refl _) _
         exact ⟨R2.out.1.below b23, B2.trans (b23.mono B2.size), by rw [hw3]; exact one_own _ _ _ B2.size, by rw [hw3]; simp⟩
       have HW3 := hideN hw3
       clear B2 hw3)
    | (go_at_call 37
       rw [← HW3.out]
       refine (CN.out _).mono ?_
       rintro e w4 ⟨v4, rfl, i4, B4⟩
       obtain ⟨gi, ci, rfl, hgB, hgl, hlc, hcm, hcl⟩ := i4
       have R4 := hideN (And.intro hgB (And.intro hgl (And.intro hcl B4)))
       unfold maxLen at hcm
       clear hgB hgl hcl B4)
    | (refine wpList_load_row rfl 34 (.tmp 1) rfl w.heap.size rfl 34 C (0, 0) _ (by first | (rw [HC.out.1]; exact R1.out.1) | (rw [HC.out.1, ← HW3.out]; exact R3.out.1)) under_rec rfl (by rw [HC.out.2]; exact info_rec) ?_))
  have hs3 := R3.out.2.2.2
  have h13 := R3.out.2.1.size
  have B14 : Below w1.heap.size w1 w4 := R3.out.2.1.trans (R4.out.2.2.2.mono h13)
  have ST : Hid (Own w4 w1.heap.size (.slice (some ⟨w2.heap.size, 0, none⟩) 1 1) (kb :: (l.take 0).flatMap le8) ∧ Below w1.heap.size w1 w4 ∧ w4.heap[gi]? = w4.heap[gi]? ∧ ∀ j, (Value.slice (some ⟨w2.heap.size, 0, none⟩) 1 1).ownBlock = some j → j ≠ gi) :=
    ⟨R3.out.2.2.1.below R4.out.2.2.2, B14, rfl, fun j hj e => by have := R4.out.1; simp only [Value.ownBlock, Option.some.injEq] at hj; omega⟩
  have H14 := hideN B14
  clear hs3 h13 B14 HW3
  go_loopg [5, 7] l.length (fun gk v5 i wr => ∃ k : Nat, i = .int .i64 (k : Int) ∧ k ≤ l.length ∧ l.length - k ≤ gk ∧ Hid (Own wr w1.heap.size v5 (kb :: (l.take k).flatMap le8) ∧ Below w1.heap.size w1 wr ∧ wr.heap[gi]? = w4.heap[gi]? ∧ ∀ j, v5.ownBlock = some j → j ≠ gi))
  case atStart => exact ⟨0, rfl, Nat.zero_le _, Nat.le_refl _, ST⟩
  case round =>
    clear ST
    obtain ⟨k, rfl, hk, hgk, HI⟩ := hrel
    by_cases hp : k < l.length
    · have hpi : (k : Int) < (l.length : Int) := by omega
      obtain ⟨xv, hx⟩ : ∃ x, l[k]? = some x := ⟨_, List.getElem?_eq_getElem hp⟩
      have hxn := HN.out xv (List.mem_of_getElem? hx)
      obtain ⟨X, rfl⟩ : ∃ X : Nat, xv = (X : Int) := ⟨xv.toNat, by omega⟩
      have c0 : wr.cell? ⟨gi, k, none⟩ = some (.int .i64 (X : Int)) := (World.cell?_of_block HI.out.2.2.1).trans (R4.out.2.2.1 k _ hx)
      have HX := hideN hx
      have hXb : X ≤ 4611686018427387903 := by omega
      clear hx hxn
      go_wp2_with fail
      go_loopg [5, 8, 9] 8 (fun gk v5 n8 k9 wx => ∃ j mm : Nat, k9 = .int .i64 (j : Int) ∧ n8 = .int .i64 (mm : Int) ∧ mm ≤ 4611686018427387903 ∧ j ≤ 8 ∧ 8 - j ≤ gk ∧ Hid (mm = X / 256 ^ j ∧ Own wx w1.heap.size v5 (kb :: (l.take k).flatMap le8 ++ leN j X) ∧ Below w1.heap.size w1 wx ∧ wx.heap[gi]? = w4.heap[gi]? ∧ ∀ j, v5.ownBlock = some j → j ≠ gi))
      case atStart => exact ⟨0, X, rfl, rfl, hXb, Nat.zero_le _, Nat.le_refl _, by simp, by rw [show leN 0 X = [] from rfl, List.append_nil]; exact HI.out.1, HI.out.2⟩
      case round =>
        clear HI c0
        obtain ⟨j, mm, rfl, rfl, hmm, hj, hgj, HI⟩ := hrel
        by_cases hj8 : j < 8
        · have hji : (j : Int) < 8 := by omega
          obtain ⟨xb, hxb⟩ : ∃ xb : UInt8, xb = UInt8.ofNat mm := ⟨_, rfl⟩
          have hrem : (mm : Int) % 256 = (xb.toNat : Int) := by rw [hxb]; exact nat_mod mm
          have HXB := hideN hxb
          clear hxb
          have hlen : (kb :: (l.take k).flatMap le8 ++ leN j X).length ≤ 200 := by
            rw [List.length_append, List.length_cons, flat_len, leN_len, List.length_take]
            omega
          have hsz := HI.out.2.2.1.size
          go_wp2_with (at_builtin; refine wpList_append8 rfl (.tmp 35) (.tmp 39) rfl w1.heap.size u5 (kb :: (l.take k).flatMap le8 ++ leN j X) (by rfl) (HI.out.2.1.below ((Below.refl _ _).alloc (Nat.le_refl _) _)) (some ⟨wr.heap.size, 0, none⟩) 1 [xb] (by rfl) (one_byte wr xb) (by rw [List.length_singleton]; omega) (by simp; omega) ?_; intro v6 w6 o6 g6 p6 l6 n6; have H6 := hideN (And.intro o6 (And.intro g6 l6)); clear o6 g6 p6 l6 n6)
          go_roundg (8 - (j + 1))
          case measure => omega
          case rel =>
            obtain ⟨s1, s2, s3⟩ := alloc_step HI.out.2.1 HI.out.2.2.1 HI.out.2.2.2.1 R4.out.2.1 (.cells #[.int .u8 (xb.toNat : Int)] 5)
            obtain ⟨p1, p2, p3⟩ := put_step s1 s2 s3 R4.out.2.1 HI.out.2.2.2.2 H6.out.2.1 H6.out.2.2
            refine ⟨j + 1, mm / 256, by go_num, by congr 1, by omega, by omega, Nat.le_refl _, ?_, ?_, p1, p2, p3⟩
            · rw [HI.out.1, Nat.pow_succ, Nat.div_div_eq_div_mul]
            · rw [leN_snoc, ← HI.out.1, ← HXB.out, ← List.append_assoc]
              exact H6.out.1
        · obtain rfl : j = 8 := by omega
          go_wp2_with fail
          go_roundg (l.length - (k + 1))
          case measure => omega
          case rel =>
            refine ⟨k + 1, by go_num, by omega, Nat.le_refl _, ?_, HI.out.2.2⟩
            have e : (l.take (k + 1)).flatMap le8 = (l.take k).flatMap le8 ++ leN 8 X := by
              rw [List.take_add_one, HX.out, ← le8_leN]
              simp
            rw [e]
            exact HI.out.2.1
    · have hpi : ¬ (k : Int) < (l.length : Int) := by omega
      obtain rfl : k = l.length := by omega
      have hR := R1.out.1.below HI.out.2.1
      have hlow := R1.out.1.lt
      have x0 : wr.cell? ⟨w.heap.size, 0, none⟩ = some (.int .i64 r.kind) := hR.cell 0
      have x17 : wr.cell? ⟨w.heap.size, 17, none⟩ = some (.string ⟨r.tube.toArray⟩) := hR.cell 17
      have x18 : wr.cell? ⟨w.heap.size, 18, none⟩ = some (.slice a body.length c) := hR.cell 18
      have hfl : (kb :: l.flatMap le8).length ≤ 200 := by
        rw [List.length_cons, flat_len]
        omega
      have HI' : Hid (Own wr w1.heap.size u5 (kb :: l.flatMap le8) ∧ Below w1.heap.size w1 wr) := by
        have := HI.out
        rw [List.take_length] at this
        exact ⟨this.1, this.2.1⟩
      have HPL : Hid (kb :: l.flatMap le8 ++ tailL r body = putL r body) := by
        show _ = _
        rw [HS.out.1, flat_nums, HS.out.2.1]
        rfl
      clear HI hR
      by_cases hk2 : r.kind = 2
      · have hkb2 : (r.kind == 2) = true := by simpa using hk2
        obtain ⟨tb, htb⟩ : ∃ tb : UInt8, tb = UInt8.ofNat r.tube.length := ⟨_, rfl⟩
        have hrem : (r.tube.length : Int) % 256 = (tb.toNat : Int) := by rw [htb]; exact nat_mod _
        have HT : Hid (tailL r body = tb :: (r.tube ++ body)) := by
          show _ = _
          unfold tailL
          rw [if_pos hk2, htb]
        have htl : r.tube.length ≤ 1000 := by
          have h4 := (check_ok HS.out.2.2).2.2.2
          rw [textB, if_pos hk2, Bool.and_eq_true] at h4
          have := valid_len h4.1
          omega
        have hts := tube_size r.tube
        have hbl := HB.out.2
        have hsz := HI'.out.2.size
        clear hk2 htb
        go_wp2_with (first
          | (at_builtin; refine wpList_append8 rfl (.tmp 46) (.tmp 52) rfl w1.heap.size u5 (kb :: l.flatMap le8) (by rfl) (HI'.out.1.below ((Below.refl _ _).alloc (Nat.le_refl _) _)) (some ⟨wr.heap.size, 0, none⟩) 1 [tb] (by rfl) (one_byte wr tb) (by rw [List.length_singleton]; omega) (by simp; omega) ?_
             intro v6 w6 o6 g6 p6 l6 n6
             have B6 : Below w1.heap.size w1 w6 := (HI'.out.2.alloc hsz _).grown g6 (by simp; omega) (fun j hj => (World.ownsRow.lt HI'.out.1 j hj).1)
             have H6 := hideN (And.intro o6 B6)
             have y17 : w6.cell? ⟨w.heap.size, 17, none⟩ = some (.string ⟨r.tube.toArray⟩) := (R1.out.1.below B6).cell 17
             have hsz6 := B6.size
             clear o6 g6 p6 l6 n6 B6)
          | (at_builtin; refine wpList_append_text rfl (.tmp 54) (.tmp 57) rfl w1.heap.size v6 (kb :: l.flatMap le8 ++ [tb]) (by rfl) H6.out.1 ⟨r.tube.toArray⟩ (by rfl) (by rw [hts, List.length_append, List.length_singleton]; omega) hsz6 ?_
             intro v7 w7 o7 g7
             have B7 : Below w1.heap.size w1 w7 := H6.out.2.grown g7 hsz6 (fun j hj => (World.ownsRow.lt H6.out.1 j hj).1)
             have H7 : Hid (Own w7 w1.heap.size v7 (kb :: l.flatMap le8 ++ [tb] ++ r.tube) ∧ Below w1.heap.size w1 w7) := ⟨o7, B7⟩
             have y18 : w7.cell? ⟨w.heap.size, 18, none⟩ = some (.slice a body.length c) := (R1.out.1.below B7).cell 18
             have hsz7 := B7.size
             clear o7 g7 B7)
          | (at_builtin; refine wpList_append8 rfl (.tmp 59) (.tmp 62) rfl w1.heap.size v7 (kb :: l.flatMap le8 ++ [tb] ++ r.tube) (by rfl) H7.out.1 a c body (by rfl) ((HB.out.1.below R1.out.2).below H7.out.2) (by rw [List.length_append, List.length_append, List.length_singleton]; omega) hsz7 ?_
             intro v8 w8 o8 g8 p8 l8 n8
             have B8 : Below w1.heap.size w1 w8 := H7.out.2.grown g8 hsz7 (fun j hj => (World.ownsRow.lt H7.out.1 j hj).1)
             have H8 := hideN (And.intro o8 B8)
             clear o8 g8 p8 l8 n8 B8))
        go_ret2
        refine ⟨v8, rfl, ?_, R1.out.2.trans (H8.out.2.mono R1.out.2.size)⟩
        have := HPL.out
        rw [HT.out] at this
        rw [← this, show kb :: l.flatMap le8 ++ tb :: (r.tube ++ body) = kb :: l.flatMap le8 ++ [tb] ++ r.tube ++ body by simp]
        exact H8.out.1.mono (Nat.le_of_lt hlow)
      · have hkb2 : (r.kind == 2) = false := by simpa using hk2
        have HT : Hid (tailL r body = []) := by
          show _ = _
          unfold tailL
          rw [if_neg hk2]
        go_wp2_with fail
        go_ret2
        refine ⟨u5, rfl, ?_, R1.out.2.trans (HI'.out.2.mono R1.out.2.size)⟩
        have := HPL.out
        rw [HT.out, List.append_nil] at this
        rw [← this]
        exact HI'.out.1.mono (Nat.le_of_lt hlow)
set_option maxHeartbeats 4000000 in
set_option maxRecDepth 1000000 in
theorem refSize_any (r : Rec) (body : List UInt8) (a : Option Addr) (c : Nat) (w : World) (hb : IsBytes w a c body) (hbl : body.length ≤ 140737488300000) :
    Calls Try.prog 17 #[.agg (recA r (.slice a body.length c))] w fun e w' => e = .returned (.int .i64 (sizeE r body.length)) ∧ Below w.heap.size w w' := by
  have R0 : Hid (RecAt (w.alloc (.cells (recA r (.slice a body.length c)) 34)) w.heap.size r (.slice a body.length c)) := RecAt.new _ _ _
  by_cases h0 : checkE r body.length = 0
  · have CP : Hid (Calls Try.prog 19 #[.agg (recA r (.slice a body.length c))] (w.alloc (.cells (recA r (.slice a body.length c)) 34)) fun e w' => ∃ a2 c2, e = .returned (.tuple #[.slice a2 (sizeL r body.length) c2, .int .i64 0]) ∧ Below w.heap.size w w') := by
      refine (refPut_yes r body a c _ (hb.below ((Below.refl _ w).alloc (Nat.le_refl _) _)) hbl h0).mono ?_
      rintro e w' ⟨v, rfl, ho, hB⟩
      obtain ⟨a2, c2, rfl, _⟩ := ho.shape
      rw [put_length]
      exact ⟨a2, c2, rfl, below_box hB⟩
    have hsz : sizeL r body.length ≤ 1000000 := by
      have h1 := check_small h0
      have h2 := fields_len r.kind
      unfold sizeL
      split <;> omega
    have HE : Hid (sizeE r body.length = 8 + (sizeL r body.length : Int)) := by show _ = _; rw [sizeE, if_pos h0]
    obtain ⟨n, hn⟩ : ∃ n, n = sizeL r body.length := ⟨_, rfl⟩
    rw [← hn] at CP hsz HE
    obtain ⟨C, hC⟩ : ∃ C, C = recA r (.slice a body.length c) := ⟨_, rfl⟩
    have HSZ : Hid (C.size = 19) := by show C.size = 19; rw [hC]; rfl
    have HC : Hid (C = recA r (.slice a body.length c)) := hC
    rw [← hC] at R0 CP ⊢
    clear hC hn hb h0
    go_enter Try.func17, Try.ntmps17
    go_wp2_with (first
      | (go_at_call 19
         refine CP.out.mono ?_
         rintro e w1 ⟨a2, c2, rfl, B1⟩
         have BX1 := hideN B1
         clear B1)
      | (refine wpList_load_row rfl 34 (.tmp 1) rfl w.heap.size rfl 34 C (0, 0) _ (by rw [HC.out]; exact heap_alloc_last _ _) under_rec rfl (by rw [HSZ.out]; exact info_rec) ?_))
    go_ret
    exact ⟨by rw [HE.out]; rfl, BX1.out⟩
  · have CP : Hid (Calls Try.prog 19 #[.agg (recA r (.slice a body.length c))] (w.alloc (.cells (recA r (.slice a body.length c)) 34)) fun e w' => e = .returned (.tuple #[.slice none 0 0, .int .i64 (checkE r body.length)]) ∧ Below w.heap.size w w') := by
      refine (refPut_no r a body.length c _ h0).mono ?_
      rintro e w' ⟨rfl, hB⟩
      exact ⟨rfl, below_box hB⟩
    have HE : Hid (sizeE r body.length = 0) := by show _ = _; rw [sizeE, if_neg h0]
    obtain ⟨z, hz⟩ : ∃ z, z = checkE r body.length := ⟨_, rfl⟩
    rw [← hz] at CP h0
    have hzb : (z != 0) = true := by simpa using h0
    obtain ⟨C, hC⟩ : ∃ C, C = recA r (.slice a body.length c) := ⟨_, rfl⟩
    have HSZ : Hid (C.size = 19) := by show C.size = 19; rw [hC]; rfl
    have HC : Hid (C = recA r (.slice a body.length c)) := hC
    rw [← hC] at R0 CP ⊢
    clear hC hz hb
    go_enter Try.func17, Try.ntmps17
    go_wp2_with (first
      | (go_at_call 19
         refine CP.out.mono ?_
         rintro e w1 ⟨rfl, B1⟩
         have BX1 := hideN B1
         clear B1)
      | (refine wpList_load_row rfl 34 (.tmp 1) rfl w.heap.size rfl 34 C (0, 0) _ (by rw [HC.out]; exact heap_alloc_last _ _) under_rec rfl (by rw [HSZ.out]; exact info_rec) ?_))
    go_ret
    exact ⟨by rw [HE.out]; rfl, BX1.out⟩
theorem refPut_any (r : Rec) (body : List UInt8) (a : Option Addr) (c : Nat) (w : World) (hb : IsBytes w a c body) (hbl : body.length ≤ 140737488300000) :
    Calls Try.prog 19 #[.agg (recA r (.slice a body.length c))] w (RPutPost r body w) := by
  by_cases h0 : checkE r body.length = 0
  · refine (refPut_yes r body a c w hb hbl h0).mono ?_
    rintro e w' ⟨v, rfl, ho, hB⟩
    exact ⟨hB, .inr ⟨h0, v, rfl, ho⟩⟩
  · refine (refPut_no r a body.length c w h0).mono ?_
    rintro e w' ⟨rfl, hB⟩
    exact ⟨hB, .inl ⟨h0, rfl⟩⟩
end Go.Proofs.Ytjnjaojafimfeaa
