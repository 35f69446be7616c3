/-
  The walk of the statement that what is turned is told.
-/
import Derived.Test.YtjbmolclagmecaaShown
import Derived.Test.YtjbmolclagmecaaMay
import Derived.Test.YtjbmolclagmecaaPlainTold
import Derived.Test.YtjbmolclagmecaaStore
import Derived.Test.YtjbmolclagmecaaSame
import Derived.BigRegion
namespace Go.Proofs.Ytjbmolclagmecaa.frameTold
open Go.RowKit Go.Lib

/-- The bytes behind a loop's first rounds. -/
def At (pre R0 post : List UInt8) (frm D : Nat) (X : List UInt8) : Prop := ∃ R, X = pre ++ (R ++ post) ∧ R.length = R0.length ∧ Crc.N R = Crc.N R0 ^^^ 2 ^ frm * D

theorem at_zero (pre R0 post : List UInt8) (frm : Nat) : At pre R0 post frm 0 (pre ++ (R0 ++ post)) := ⟨R0, rfl, rfl, by simp⟩
theorem at_get {pre R0 post : List UInt8} {frm D : Nat} {X : List UInt8} (h : At pre R0 post frm D X) (i : Nat) (hi : i < R0.length) : ∃ x, X[pre.length + i]? = some x := by
  obtain ⟨R, rfl, hl, _⟩ := h
  exact ⟨_, List.getElem?_eq_getElem (by simp; omega)⟩
theorem at_set {pre R0 post : List UInt8} {frm D : Nat} {X : List UInt8} (h : At pre R0 post frm D X) (k : Nat) (x : UInt8) (hi : (frm + k) / 8 < R0.length) (hx : X[pre.length + (frm + k) / 8]? = some x) :
    At pre R0 post frm (D ^^^ 2 ^ k) (X.set (pre.length + (frm + k) / 8) (x ^^^ UInt8.ofNat (2 ^ ((frm + k) % 8)))) := by
  obtain ⟨R, rfl, hl, hN⟩ := h
  rw [List.getElem?_append_right (by omega), Nat.add_sub_cancel_left, List.getElem?_append_left (by omega)] at hx
  refine ⟨R.set ((frm + k) / 8) (x ^^^ UInt8.ofNat (2 ^ ((frm + k) % 8))), ?_, by simp [hl], ?_⟩
  · rw [List.set_append_right _ _ (by omega), Nat.add_sub_cancel_left, List.set_append_left _ _ (by omega)]
  · have hy : (UInt8.ofNat (2 ^ ((frm + k) % 8))).toNat = 2 ^ ((frm + k) % 8) := by
      rw [UInt8.toNat_ofNat', Nat.mod_eq_of_lt]
      exact Nat.pow_lt_pow_right (n := 8) (by decide) (Nat.mod_lt _ (by decide))
    rw [N_set R _ x _ hx, hN, hy, ← Nat.pow_add, show 8 * ((frm + k) / 8) + (frm + k) % 8 = frm + k by omega, Crc.mul_xor, Nat.xor_assoc, ← Nat.pow_add]

/-- The struct that came in lies in the first block of the call; nothing elder has turned. -/
def Box (w0 : World) (arr : Array Value) (W : World) : Prop := W.heap[w0.heap.size]? = some (.cells arr 47) ∧ Below w0.heap.size w0 W
theorem Box.start (w0 : World) (arr : Array Value) : Box w0 arr (w0.alloc (.cells arr 47)) := ⟨heap_alloc_last _ _, (Below.refl _ w0).alloc (Nat.le_refl _) _⟩
theorem Box.lt {w0 W : World} {arr : Array Value} (h : Box w0 arr W) : w0.heap.size < W.heap.size := (Array.getElem?_eq_some_iff.1 h.1).1
theorem Box.next {w0 W W' : World} {arr : Array Value} (h : Box w0 arr W) (hb : Below W.heap.size W W') : Box w0 arr W' := ⟨(hb.block _ h.lt).trans h.1, h.2.trans (hb.mono h.2.size)⟩
theorem Box.grown {w0 W W' : World} {arr : Array Value} {g : Nat} (h : Box w0 arr W) (hb : W.grownBy W' (some g)) (hg : w0.heap.size < g) : Box w0 arr W' :=
  ⟨(hb.block _ h.lt (fun e => by cases e; omega)).trans h.1, h.2.trans (grown_below hb (by omega) h.2.size)⟩
theorem Box.cell {w0 W : World} {arr : Array Value} (h : Box w0 arr W) (i : Nat) (v : Value) (hv : arr[i]? = some v) : W.cell? ⟨w0.heap.size, i, none⟩ = some v := by simp [World.cell?, h.1, hv]

theorem bit_and (B k : Nat) (hB : B < 4294967296) : bits .and .u32 ((B : Int) / 2 ^ k) 1 = if B.testBit k = true then 1 else 0 := by
  have e : ((B : Int) / 2 ^ k) = ((B / 2 ^ k : Nat) : Int) := by simp
  have hb : B / 2 ^ k < 4294967296 := Nat.lt_of_le_of_lt (Nat.div_le_self _ _) hB
  have hm := bits_mask .u32 32 (by decide) (fun n h0 h1 => by rw [IntKind.wrap_u32]; omega) 1 (by decide) ((B / 2 ^ k : Nat) : Int) (Int.natCast_nonneg _) (by omega)
  rw [e, show (1 : Int) = 2 ^ 1 - 1 from rfl, hm, Nat.testBit_eq_decide_div_mod_eq]
  by_cases h : B / 2 ^ k % 2 = 1
  · simp only [h, decide_true, if_true]; omega
  · simp only [h, decide_false]
    rw [if_neg (by decide)]
    omega

theorem xor_pow (z : UInt8) (j : Nat) : bits .xor .u8 (z.toNat : Int) (2 ^ (j % 8) % 256) = ((z ^^^ UInt8.ofNat (2 ^ (j % 8))).toNat : Int) := by
  have hz := z.toNat_lt
  have hp : 2 ^ (j % 8) < 256 := Nat.pow_lt_pow_right (n := 8) (by decide) (Nat.mod_lt _ (by decide))
  have e : ((2 : Int) ^ (j % 8) % 256) = ((2 ^ (j % 8) : Nat) : Int) := by
    rw [show ((2 : Int) ^ (j % 8)) = ((2 ^ (j % 8) : Nat) : Int) by simp]
    generalize 2 ^ (j % 8) = p at hp
    omega
  have h : z.toNat ^^^ 2 ^ (j % 8) < 256 := Nat.xor_lt_two_pow (n := 8) hz hp
  have ha' : z.toNat % 2 ^ IntKind.u8.bits = z.toNat := Nat.mod_eq_of_lt hz
  have hb' : 2 ^ (j % 8) % 2 ^ IntKind.u8.bits = 2 ^ (j % 8) := Nat.mod_eq_of_lt hp
  rw [e]
  simp only [bits, BitVec.ofInt_natCast, BitVec.toNat_xor, BitVec.toNat_ofNat, ha', hb']
  rw [IntKind.wrap_u8, UInt8.toNat_xor, UInt8.toNat_ofNat', Nat.mod_eq_of_lt hp]
  omega

set_option maxHeartbeats 4000000 in
set_option maxRecDepth 1000000 in
theorem walk_ok (F P : Nat) (a : Option Addr) (c : Nat) (l : List UInt8) (insum : Bool) (frm B : Nat) (w : World) (h1 : IsBytes w a c l) (hE : makeE F P l = 0) (hfrm : frm ≤ 9223372036854775807) (hB : B < 4294967296)
    (nb : Nat) (pre R0 post : List UInt8) (hnb : nb = 8 * R0.length) (hX : Crc.frame F P l = pre ++ (R0 ++ post))
    (hfin : ∀ R D, R.length = R0.length → Crc.N R = Crc.N R0 ^^^ 2 ^ frm * D → D < 4294967296 → (D ≠ 0 → frm < 8 * R0.length) → takeE F P (pre ++ (R ++ post)) = (if D = 0 then 0 else 23) ∧ (D = 0 → R = R0))
    (hb : (insum = true ∧ pre.length = 4 ∧ nb = 32) ∨ (insum = false ∧ pre.length = 8 ∧ nb = l.length * 8)) :
    Calls Try.prog 8 #[.agg #[.int .i64 F, .int .i64 P, .slice a l.length c, .bool insum, .int .i64 frm, .int .u32 B]] w fun e w' => e = .returned (.bool true) ∧ Below w.heap.size w w' := by
  have H1 : Hid (IsBytes w a c l) := h1
  have hM : mayB F P l = true := decide_eq_true hE
  obtain ⟨x, hx⟩ : ∃ x, x = Crc.frame F P l := ⟨_, rfl⟩
  have hxl : x.length = l.length + 8 := by rw [hx]; exact Crc.frame_length _ _ _
  have hL : makeL F P l = x := by rw [hx]; exact makeL_ok hE
  have hlb := lenB_yes (makeE_ok hE).2.2
  have HE : Hid (makeE F P l = 0) := hE
  have HM : Hid (mayB F P l = true) := hM
  have HL : Hid (makeL F P l = x) := hL
  have HX : Hid (x = pre ++ (R0 ++ post)) := hx.trans hX
  have HF : Hid (x = Crc.frame F P l) := hx
  have HFIN : Hid (∀ R D, R.length = R0.length → Crc.N R = Crc.N R0 ^^^ 2 ^ frm * D → D < 4294967296 → (D ≠ 0 → frm < 8 * R0.length) → takeE F P (pre ++ (R ++ post)) = (if D = 0 then 0 else 23) ∧ (D = 0 → R = R0)) := hfin
  clear h1 hE hM hL hx hX hfin
  have hfr0 : ¬ (frm : Int) < 0 := by omega
  rcases hb with ⟨rfl, hpl, rfl⟩ | ⟨rfl, hpl, rfl⟩
  · have HNB : Hid (32 = 8 * R0.length) := hnb
    clear hnb
    go_enter Try.func8, Try.ntmps8
    go_wp2_with fail
    refine (shown_any _).mono ?_
    rintro e w1 ⟨rfl, B1⟩
    have BX1 : Hid (Box w #[.int .i64 F, .int .i64 P, .slice a l.length c, .bool true, .int .i64 frm, .int .u32 B] w1) := (Box.start w _).next B1
    clear B1
    have k0 := BX1.out.cell 0 _ rfl
    have k1 := BX1.out.cell 1 _ rfl
    have k2 := BX1.out.cell 2 _ rfl
    go_wp2_with fail
    refine (make_any F P a c l _ (H1.out.below BX1.out.2)).mono ?_
    rintro e w2 ⟨v2, rfl, own2, B2⟩
    rw [HE.out]
    rw [HL.out] at own2
    obtain ⟨g, cap, hv2⟩ : ∃ g cap, v2 = .slice (some ⟨g, 0, none⟩) (l.length + 8) cap := by
      rcases own2.2 with ⟨_, h0⟩ | ⟨g, cap, cur, hv, _⟩
      · omega
      · rw [hxl] at hv; exact ⟨g, cap, hv⟩
    subst hv2
    have BX2 : Hid (Box w #[.int .i64 F, .int .i64 P, .slice a l.length c, .bool true, .int .i64 frm, .int .u32 B] w2) := BX1.out.next B2
    have hgl : w.heap.size < g := Nat.lt_of_lt_of_le BX1.out.lt own2.block.1
    have OWN2 : Hid (Own w2 w.heap.size (.slice (some ⟨g, 0, none⟩) (l.length + 8) cap) x) := own2.mono BX1.out.2.size
    clear k0 k1 k2 own2 B2
    have k0 := BX2.out.cell 0 _ rfl
    have k1 := BX2.out.cell 1 _ rfl
    have k2 := BX2.out.cell 2 _ rfl
    have k3 := BX2.out.cell 3 _ rfl
    have k4 := BX2.out.cell 4 _ rfl
    go_wp2_with fail
    refine (may_any _ _ _ _ _ _).mono ?_
    rintro e w3 ⟨rfl, hW⟩
    have hW := hW.symm
    subst hW
    rw [HM.out]
    go_wp2_with fail
    clear k0 k1 k2 k3 k4
    go_loopw [7, 8] (fun y i wr => ∃ (k : Nat) (X : List UInt8), k ≤ 32 ∧ i = .int .i64 k ∧ (∃ y0 : Bool, y = .bool y0 ∧ (y0 = true ↔ turns B (32 - frm) k ≠ 0)) ∧ Own wr w.heap.size (.slice (some ⟨g, 0, none⟩) (l.length + 8) cap) X ∧ At pre R0 post frm (turns B (32 - frm) k) X ∧ Box w #[.int .i64 F, .int .i64 P, .slice a l.length c, .bool true, .int .i64 frm, .int .u32 B] wr) (fun _ i _ => 32 - (intOf i).toNat)
    case atStart => exact ⟨0, x, by omega, rfl, ⟨false, rfl, by simp [turns]⟩, OWN2.out, by rw [HX.out]; exact at_zero _ _ _ _, BX2.out⟩
    case round =>
      obtain ⟨k, X, hk, rfl, ⟨y0, rfl, hy0⟩, own, hat, bx⟩ := hrel
      have HY : Hid (y0 = true ↔ turns B (32 - frm) k ≠ 0) := hy0
      clear hy0
      have OWN : Hid (Own wr w.heap.size (.slice (some ⟨g, 0, none⟩) (l.length + 8) cap) X) := own
      have HAT : Hid (At pre R0 post frm (turns B (32 - frm) k) X) := hat
      have BX : Hid (Box w #[.int .i64 F, .int .i64 P, .slice a l.length c, .bool true, .int .i64 frm, .int .u32 B] wr) := bx
      clear own hat bx OWN2 BX1 BX2
      have k0 := BX.out.cell 0 _ rfl
      have k1 := BX.out.cell 1 _ rfl
      have k2 := BX.out.cell 2 _ rfl
      have k4 := BX.out.cell 4 _ rfl
      have k5 := BX.out.cell 5 _ rfl
      by_cases hk32 : k < 32
      · by_cases hroom : frm + k < 32
        · cases hbit : B.testBit k with
          | false =>
            have HN : Hid (turns B (32 - frm) (k + 1) = turns B (32 - frm) k) := turns_no _ _ _ (fun h => by rw [hbit] at h; simp at h)
            have eb : bits .and .u32 ((B : Int) / 2 ^ k) 1 = 0 := by rw [bit_and B k hB, hbit]; rfl
            clear hbit
            go_wp2
            go_roundw
            case rel => exact ⟨k + 1, X, by omega, by go_num, ⟨y0, rfl, by rw [HN.out]; exact HY.out⟩, OWN.out, by rw [HN.out]; exact HAT.out, BX.out⟩
            case measure => simp [intOf]; omega
          | true =>
            have HN : Hid (turns B (32 - frm) (k + 1) = turns B (32 - frm) k ^^^ 2 ^ k ∧ turns B (32 - frm) (k + 1) ≠ 0) := turns_yes _ _ _ ⟨by omega, hbit⟩
            have eb : bits .and .u32 ((B : Int) / 2 ^ k) 1 = 1 := by rw [bit_and B k hB, hbit]; rfl
            clear hbit
            have hi : (frm + k) / 8 < R0.length := by have := HNB.out; omega
            obtain ⟨z, hz⟩ := at_get HAT.out ((frm + k) / 8) hi
            have hset := at_set HAT.out k z hi hz
            rw [hpl] at hz hset
            obtain ⟨q, hq⟩ : ∃ q, q = (frm + k) / 8 := ⟨_, rfl⟩
            rw [← hq] at hz hset
            have eq : ((frm : Int) + (k : Int)) / 8 = (q : Int) := by omega
            obtain ⟨m, hm⟩ : ∃ m, m = UInt8.ofNat (2 ^ ((frm + k) % 8)) := ⟨_, rfl⟩
            rw [← hm] at hset
            have HSET : Hid (At pre R0 post frm (turns B (32 - frm) (k + 1)) (X.set (4 + q) (z ^^^ m))) := by rw [HN.out.1]; exact hset
            have hc : wr.cell? ⟨g, 4 + q, none⟩ = some (.int .u8 (z.toNat : Int)) := OWN.out.cell _ z hz
            have hf : wr.frozen? ⟨g, 4 + q, none⟩ = false := OWN.out.frozen _
            have ex : bits .xor .u8 (z.toNat : Int) (2 ^ ((frm + k) % 8) % 256) = ((z ^^^ m).toNat : Int) := by rw [hm]; exact xor_pow z _
            obtain ⟨y, hy⟩ : ∃ y, y = z ^^^ m := ⟨_, rfl⟩
            rw [← hy] at ex
            have hst := OWN.out.set (4 + q) y
            have HST : Hid (Own (wr.setCell ⟨g, 4 + q, none⟩ (.int .u8 (y.toNat : Int))) w.heap.size (.slice (some ⟨g, 0, none⟩) (l.length + 8) cap) (X.set (4 + q) y)) := hst.1
            have HBX : Hid (Box w #[.int .i64 F, .int .i64 P, .slice a l.length c, .bool true, .int .i64 frm, .int .u32 B] (wr.setCell ⟨g, 4 + q, none⟩ (.int .u8 (y.toNat : Int)))) := BX.out.grown hst.2 hgl
            have HSE : Hid (At pre R0 post frm (turns B (32 - frm) (k + 1)) (X.set (4 + q) y)) := by rw [hy]; exact HSET.out
            clear hset hz hm hq hy hst HSET
            go_wp2_with fail
            go_region
            go_wp2
            go_roundw
            case rel => exact ⟨k + 1, X.set (4 + q) y, by omega, by go_num, ⟨true, rfl, by simp [HN.out.2]⟩, HST.out.below (Below.refl _ _).drew, HSE.out, HBX.out.next (Below.refl _ _).drew⟩
            case measure => simp [intOf]; omega
        · have HN : Hid (turns B (32 - frm) (k + 1) = turns B (32 - frm) k) := turns_no _ _ _ (fun h => hroom (by omega))
          go_wp2
          go_roundw
          case rel => exact ⟨k + 1, X, by omega, by go_num, ⟨y0, rfl, by rw [HN.out]; exact HY.out⟩, OWN.out, by rw [HN.out]; exact HAT.out, BX.out⟩
          case measure => simp [intOf]; omega
      · obtain rfl : k = 32 := by omega
        obtain ⟨R, hXR, hRl, hRN⟩ := HAT.out
        have hD := turns_lt B (32 - frm) 32
        have hfn := HFIN.out R (turns B (32 - frm) 32) hRl hRN hD (fun h => by have := turns_room _ _ _ h; have := HNB.out; omega)
        rw [← hXR] at hfn
        have hXl : X.length = l.length + 8 := OWN.out.is.2
        have HXL : Hid (X.length = l.length + 8) := hXl
        by_cases hD0 : turns B (32 - frm) 32 = 0
        · obtain rfl : y0 = false := by
            cases y0 with
            | false => rfl
            | true => exact absurd hD0 (HY.out.1 rfl)
          have hXx : X = x := by rw [hXR, hfn.2 hD0, HX.out]
          obtain ⟨t1, t2, t3⟩ := take_frame (F := F) (P := P) l [] (makeE_ok HE.out).1 (makeE_ok HE.out).2.1 (makeE_ok HE.out).2.2
          rw [List.append_nil, ← HF.out, ← hXx] at t1 t2 t3
          have T1 : Hid (takeE F P X = 0) := t1
          have T2 : Hid (takeN F P X = 8 + (l.length : Int)) := t2
          have T3 : Hid (takeL F P X = l) := t3
          clear t1 t2 t3 hXx hfn hXl hD hRN hRl hXR HAT HFIN HX HF
          go_wp2_with fail
          have htk := take_any F P (some ⟨g, 0, none⟩) cap X wr OWN.out.is.1
          rw [HXL.out] at htk
          refine htk.mono ?_
          clear htk
          rintro e w5 ⟨v5, rfl, own5, B5⟩
          rw [T1.out, T2.out]
          rw [T3.out] at own5
          obtain ⟨a5, c5, rfl, is5⟩ := own5.shape
          have BX5 : Hid (Box w #[.int .i64 F, .int .i64 P, .slice a l.length c, .bool true, .int .i64 frm, .int .u32 B] w5) := BX.out.next B5
          have PS5 : Hid (IsBytes w5 a5 c5 l) := is5
          clear k0 k1 k2 k4 k5 own5 is5 B5
          have k2 := BX5.out.cell 2 _ rfl
          have q1 : ((8 + (l.length : Int)) == ((l.length : Int) + 8)) = true := by simp; omega
          go_wp2_with fail
          refine (same_any _ _ _ _ l l _ PS5.out (H1.out.below BX5.out.2)).mono ?_
          rintro e w6 ⟨rfl, n6, hW⟩
          subst hW
          go_wp2
          go_ret
          exact ⟨by simp, below_drewN BX5.out.2 _⟩
        · obtain rfl : y0 = true := HY.out.2 hD0
          have hE23 := hfn.1
          rw [if_neg hD0] at hE23
          have hTN := take_none (f := F) (p := P) (b := X) (by rw [hE23]; decide)
          have T1 : Hid (takeE F P X = 23) := hE23
          have T2 : Hid (takeN F P X = 0 ∧ takeL F P X = []) := hTN
          clear hfn hXl hD hRN hRl hXR hE23 hTN HAT HFIN HX HF
          go_wp2_with fail
          have htk := take_any F P (some ⟨g, 0, none⟩) cap X wr OWN.out.is.1
          rw [HXL.out] at htk
          refine htk.mono ?_
          clear htk
          rintro e w5 ⟨v5, rfl, own5, B5⟩
          rw [T1.out, T2.out.1]
          rw [T2.out.2] at own5
          obtain ⟨a5, c5, rfl, is5⟩ := own5.shape
          have BX5 : Hid (Box w #[.int .i64 F, .int .i64 P, .slice a l.length c, .bool true, .int .i64 frm, .int .u32 B] w5) := BX.out.next B5
          clear own5 is5 B5
          go_wp2
          go_ret
          exact ⟨rfl, BX5.out.2⟩
  · have HNB : Hid (l.length * 8 = 8 * R0.length) := hnb
    clear hnb
    go_enter Try.func8, Try.ntmps8
    go_wp2_with fail
    refine (shown_any _).mono ?_
    rintro e w1 ⟨rfl, B1⟩
    have BX1 : Hid (Box w #[.int .i64 F, .int .i64 P, .slice a l.length c, .bool false, .int .i64 frm, .int .u32 B] w1) := (Box.start w _).next B1
    clear B1
    have k0 := BX1.out.cell 0 _ rfl
    have k1 := BX1.out.cell 1 _ rfl
    have k2 := BX1.out.cell 2 _ rfl
    go_wp2_with fail
    refine (make_any F P a c l _ (H1.out.below BX1.out.2)).mono ?_
    rintro e w2 ⟨v2, rfl, own2, B2⟩
    rw [HE.out]
    rw [HL.out] at own2
    obtain ⟨g, cap, hv2⟩ : ∃ g cap, v2 = .slice (some ⟨g, 0, none⟩) (l.length + 8) cap := by
      rcases own2.2 with ⟨_, h0⟩ | ⟨g, cap, cur, hv, _⟩
      · omega
      · rw [hxl] at hv; exact ⟨g, cap, hv⟩
    subst hv2
    have BX2 : Hid (Box w #[.int .i64 F, .int .i64 P, .slice a l.length c, .bool false, .int .i64 frm, .int .u32 B] w2) := BX1.out.next B2
    have hgl : w.heap.size < g := Nat.lt_of_lt_of_le BX1.out.lt own2.block.1
    have OWN2 : Hid (Own w2 w.heap.size (.slice (some ⟨g, 0, none⟩) (l.length + 8) cap) x) := own2.mono BX1.out.2.size
    clear k0 k1 k2 own2 B2
    have k0 := BX2.out.cell 0 _ rfl
    have k1 := BX2.out.cell 1 _ rfl
    have k2 := BX2.out.cell 2 _ rfl
    have k3 := BX2.out.cell 3 _ rfl
    have k4 := BX2.out.cell 4 _ rfl
    go_wp2_with fail
    refine (may_any _ _ _ _ _ _).mono ?_
    rintro e w3 ⟨rfl, hW⟩
    have hW := hW.symm
    subst hW
    rw [HM.out]
    go_wp2_with fail
    clear k0 k1 k2 k3 k4
    go_loopw [7, 8] (fun y i wr => ∃ (k : Nat) (X : List UInt8), k ≤ 32 ∧ i = .int .i64 k ∧ (∃ y0 : Bool, y = .bool y0 ∧ (y0 = true ↔ turns B (l.length * 8 - frm) k ≠ 0)) ∧ Own wr w.heap.size (.slice (some ⟨g, 0, none⟩) (l.length + 8) cap) X ∧ At pre R0 post frm (turns B (l.length * 8 - frm) k) X ∧ Box w #[.int .i64 F, .int .i64 P, .slice a l.length c, .bool false, .int .i64 frm, .int .u32 B] wr) (fun _ i _ => 32 - (intOf i).toNat)
    case atStart => exact ⟨0, x, by omega, rfl, ⟨false, rfl, by simp [turns]⟩, OWN2.out, by rw [HX.out]; exact at_zero _ _ _ _, BX2.out⟩
    case round =>
      obtain ⟨k, X, hk, rfl, ⟨y0, rfl, hy0⟩, own, hat, bx⟩ := hrel
      have HY : Hid (y0 = true ↔ turns B (l.length * 8 - frm) k ≠ 0) := hy0
      clear hy0
      have OWN : Hid (Own wr w.heap.size (.slice (some ⟨g, 0, none⟩) (l.length + 8) cap) X) := own
      have HAT : Hid (At pre R0 post frm (turns B (l.length * 8 - frm) k) X) := hat
      have BX : Hid (Box w #[.int .i64 F, .int .i64 P, .slice a l.length c, .bool false, .int .i64 frm, .int .u32 B] wr) := bx
      clear own hat bx OWN2 BX1 BX2
      have k0 := BX.out.cell 0 _ rfl
      have k1 := BX.out.cell 1 _ rfl
      have k2 := BX.out.cell 2 _ rfl
      have k4 := BX.out.cell 4 _ rfl
      have k5 := BX.out.cell 5 _ rfl
      by_cases hk32 : k < 32
      · by_cases hroom : frm + k < l.length * 8
        · cases hbit : B.testBit k with
          | false =>
            have HN : Hid (turns B (l.length * 8 - frm) (k + 1) = turns B (l.length * 8 - frm) k) := turns_no _ _ _ (fun h => by rw [hbit] at h; simp at h)
            have eb : bits .and .u32 ((B : Int) / 2 ^ k) 1 = 0 := by rw [bit_and B k hB, hbit]; rfl
            clear hbit
            go_wp2
            go_roundw
            case rel => exact ⟨k + 1, X, by omega, by go_num, ⟨y0, rfl, by rw [HN.out]; exact HY.out⟩, OWN.out, by rw [HN.out]; exact HAT.out, BX.out⟩
            case measure => simp [intOf]; omega
          | true =>
            have HN : Hid (turns B (l.length * 8 - frm) (k + 1) = turns B (l.length * 8 - frm) k ^^^ 2 ^ k ∧ turns B (l.length * 8 - frm) (k + 1) ≠ 0) := turns_yes _ _ _ ⟨by omega, hbit⟩
            have eb : bits .and .u32 ((B : Int) / 2 ^ k) 1 = 1 := by rw [bit_and B k hB, hbit]; rfl
            clear hbit
            have hi : (frm + k) / 8 < R0.length := by have := HNB.out; omega
            obtain ⟨z, hz⟩ := at_get HAT.out ((frm + k) / 8) hi
            have hset := at_set HAT.out k z hi hz
            rw [hpl] at hz hset
            obtain ⟨q, hq⟩ : ∃ q, q = (frm + k) / 8 := ⟨_, rfl⟩
            rw [← hq] at hz hset
            have eq : ((frm : Int) + (k : Int)) / 8 = (q : Int) := by omega
            obtain ⟨m, hm⟩ : ∃ m, m = UInt8.ofNat (2 ^ ((frm + k) % 8)) := ⟨_, rfl⟩
            rw [← hm] at hset
            have HSET : Hid (At pre R0 post frm (turns B (l.length * 8 - frm) (k + 1)) (X.set (8 + q) (z ^^^ m))) := by rw [HN.out.1]; exact hset
            have hc : wr.cell? ⟨g, 8 + q, none⟩ = some (.int .u8 (z.toNat : Int)) := OWN.out.cell _ z hz
            have hf : wr.frozen? ⟨g, 8 + q, none⟩ = false := OWN.out.frozen _
            have ex : bits .xor .u8 (z.toNat : Int) (2 ^ ((frm + k) % 8) % 256) = ((z ^^^ m).toNat : Int) := by rw [hm]; exact xor_pow z _
            obtain ⟨y, hy⟩ : ∃ y, y = z ^^^ m := ⟨_, rfl⟩
            rw [← hy] at ex
            have hst := OWN.out.set (8 + q) y
            have HST : Hid (Own (wr.setCell ⟨g, 8 + q, none⟩ (.int .u8 (y.toNat : Int))) w.heap.size (.slice (some ⟨g, 0, none⟩) (l.length + 8) cap) (X.set (8 + q) y)) := hst.1
            have HBX : Hid (Box w #[.int .i64 F, .int .i64 P, .slice a l.length c, .bool false, .int .i64 frm, .int .u32 B] (wr.setCell ⟨g, 8 + q, none⟩ (.int .u8 (y.toNat : Int)))) := BX.out.grown hst.2 hgl
            have HSE : Hid (At pre R0 post frm (turns B (l.length * 8 - frm) (k + 1)) (X.set (8 + q) y)) := by rw [hy]; exact HSET.out
            clear hset hz hm hq hy hst HSET
            go_wp2_with fail
            go_region
            go_wp2
            go_roundw
            case rel => exact ⟨k + 1, X.set (8 + q) y, by omega, by go_num, ⟨true, rfl, by simp [HN.out.2]⟩, HST.out.below (Below.refl _ _).drew, HSE.out, HBX.out.next (Below.refl _ _).drew⟩
            case measure => simp [intOf]; omega
        · have HN : Hid (turns B (l.length * 8 - frm) (k + 1) = turns B (l.length * 8 - frm) k) := turns_no _ _ _ (fun h => hroom (by omega))
          go_wp2
          go_roundw
          case rel => exact ⟨k + 1, X, by omega, by go_num, ⟨y0, rfl, by rw [HN.out]; exact HY.out⟩, OWN.out, by rw [HN.out]; exact HAT.out, BX.out⟩
          case measure => simp [intOf]; omega
      · obtain rfl : k = 32 := by omega
        obtain ⟨R, hXR, hRl, hRN⟩ := HAT.out
        have hD := turns_lt B (l.length * 8 - frm) 32
        have hfn := HFIN.out R (turns B (l.length * 8 - frm) 32) hRl hRN hD (fun h => by have := turns_room _ _ _ h; have := HNB.out; omega)
        rw [← hXR] at hfn
        have hXl : X.length = l.length + 8 := OWN.out.is.2
        have HXL : Hid (X.length = l.length + 8) := hXl
        by_cases hD0 : turns B (l.length * 8 - frm) 32 = 0
        · obtain rfl : y0 = false := by
            cases y0 with
            | false => rfl
            | true => exact absurd hD0 (HY.out.1 rfl)
          have hXx : X = x := by rw [hXR, hfn.2 hD0, HX.out]
          obtain ⟨t1, t2, t3⟩ := take_frame (F := F) (P := P) l [] (makeE_ok HE.out).1 (makeE_ok HE.out).2.1 (makeE_ok HE.out).2.2
          rw [List.append_nil, ← HF.out, ← hXx] at t1 t2 t3
          have T1 : Hid (takeE F P X = 0) := t1
          have T2 : Hid (takeN F P X = 8 + (l.length : Int)) := t2
          have T3 : Hid (takeL F P X = l) := t3
          clear t1 t2 t3 hXx hfn hXl hD hRN hRl hXR HAT HFIN HX HF
          go_wp2_with fail
          have htk := take_any F P (some ⟨g, 0, none⟩) cap X wr OWN.out.is.1
          rw [HXL.out] at htk
          refine htk.mono ?_
          clear htk
          rintro e w5 ⟨v5, rfl, own5, B5⟩
          rw [T1.out, T2.out]
          rw [T3.out] at own5
          obtain ⟨a5, c5, rfl, is5⟩ := own5.shape
          have BX5 : Hid (Box w #[.int .i64 F, .int .i64 P, .slice a l.length c, .bool false, .int .i64 frm, .int .u32 B] w5) := BX.out.next B5
          have PS5 : Hid (IsBytes w5 a5 c5 l) := is5
          clear k0 k1 k2 k4 k5 own5 is5 B5
          have k2 := BX5.out.cell 2 _ rfl
          have q1 : ((8 + (l.length : Int)) == ((l.length : Int) + 8)) = true := by simp; omega
          go_wp2_with fail
          refine (same_any _ _ _ _ l l _ PS5.out (H1.out.below BX5.out.2)).mono ?_
          rintro e w6 ⟨rfl, n6, hW⟩
          subst hW
          go_wp2
          go_ret
          exact ⟨by simp, below_drewN BX5.out.2 _⟩
        · obtain rfl : y0 = true := HY.out.2 hD0
          have hE23 := hfn.1
          rw [if_neg hD0] at hE23
          have hTN := take_none (f := F) (p := P) (b := X) (by rw [hE23]; decide)
          have T1 : Hid (takeE F P X = 23) := hE23
          have T2 : Hid (takeN F P X = 0 ∧ takeL F P X = []) := hTN
          clear hfn hXl hD hRN hRl hXR hE23 hTN HAT HFIN HX HF
          go_wp2_with fail
          have htk := take_any F P (some ⟨g, 0, none⟩) cap X wr OWN.out.is.1
          rw [HXL.out] at htk
          refine htk.mono ?_
          clear htk
          rintro e w5 ⟨v5, rfl, own5, B5⟩
          rw [T1.out, T2.out.1]
          rw [T2.out.2] at own5
          obtain ⟨a5, c5, rfl, is5⟩ := own5.shape
          have BX5 : Hid (Box w #[.int .i64 F, .int .i64 P, .slice a l.length c, .bool false, .int .i64 frm, .int .u32 B] w5) := BX.out.next B5
          clear own5 is5 B5
          go_wp2
          go_ret
          exact ⟨rfl, BX5.out.2⟩
end Go.Proofs.Ytjbmolclagmecaa.frameTold
