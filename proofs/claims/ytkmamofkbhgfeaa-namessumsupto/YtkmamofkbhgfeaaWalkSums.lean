/-
  The walk of NamesSums.
-/
import Derived.Test.YtkmamofkbhgfeaaShown
import Derived.Test.YtkmamofkbhgfeaaNames
import Derived.Test.YtkmamofkbhgfeaaTotal
import Derived.Test.YtkmamofkbhgfeaaOps
import Derived.Deep.Cut
import Derived.Deep.QuietTactic
import Derived.BigQuiet
namespace Go.Proofs.Ytkmamofkbhgfeaa
open Go.RowKit
theorem From.later {w0 w w' : World} {b mb n : Nat} {g : Text → Option Int} (h : From w0 w b mb n g) (hk : Below w.heap.size w w') : From w0 w' b mb n g :=
  ⟨h.q.below hk, h.below.trans (hk.mono h.below.size), h.hb, h.hm⟩
end Go.Proofs.Ytkmamofkbhgfeaa
namespace Go.Proofs.Ytkmamofkbhgfeaa.namesSums
open Go.RowKit
theorem below_drewN {B : Nat} {w w' : World} (h : Below B w w') (n : Nat) : Below B w (w'.drewN n) := ⟨h.os, h.tape, h.output, h.size, h.block⟩

/-- What is so behind k steps. -/
structure Sofar (w wr : World) (b mb n : Nat) (g : Text → Option Int) (k : Nat) (all : Int) : Prop where
  q : From w wr b mb n g
  few : n ≤ k
  most : ∀ t, held g t ≤ k
  sum : ∀ S, Listed g S → total S = all
  low : -(k : Int) ≤ all
  high : all ≤ k
theorem Sofar.more {w wr : World} {b mb n : Nat} {g : Text → Option Int} {k : Nat} {all : Int} (h : Sofar w wr b mb n g k all) {w' : World} (hb : Below wr.heap.size wr w') : Sofar w w' b mb n g k all :=
  ⟨h.q.later hb, h.few, h.most, h.sum, h.low, h.high⟩
theorem Sofar.next {w wr : World} {b mb n : Nat} {g : Text → Option Int} {k : Nat} {all : Int} (h : Sofar w wr b mb n g k all) : Sofar w wr b mb n g (k + 1) all :=
  ⟨h.q, by have := h.few; omega, fun t => by have := h.most t; omega, h.sum, by have := h.low; omega, by have := h.high; omega⟩
theorem Sofar.set {w wr w' : World} {b mb n : Nat} {g : Text → Option Int} {k : Nat} {all : Int} (h : Sofar w wr b mb n g k all) {t : Text} {u : Int} (hq : From w w' b mb (setN g n t u) (setG g t u)) (hu : u ≤ k + 1) (d : Int) (hd : u = held g t + d) (hd2 : -1 ≤ d ∧ d ≤ 1) : Sofar w w' b mb (setN g n t u) (setG g t u) (k + 1) (all + d) := by
  refine ⟨hq, ?_, fun x => ?_, fun S' hS' => ?_, by have := h.low; omega, by have := h.high; omega⟩
  · have := h.few
    unfold setN
    split <;> split <;> omega
  · rw [held_set]
    have := h.most x
    split
    · omega
    · omega
  · obtain ⟨S, hS, _⟩ := h.q.q.listed
    rw [total_set hS hS', h.sum S hS]
    omega

set_option maxHeartbeats 8000000 in
set_option maxRecDepth 1000000 in
theorem walk (a : Option Addr) (cap : Nat) (zs : List OpI) (w : World) (hz : IsOps w a cap zs ∧ (a = none → cap = 0)) (hm : zs.length ≤ 1048576) :
    Calls Try.prog 6 #[.slice a zs.length cap] w fun e w' => e = .returned (.bool true) ∧ Below w.heap.size w w' := by
  have hnn := fun w p => b_not_nil w p
  have HZ : Hid (IsOps w a cap zs) := hz.1
  clear hz
  go_enter Try.func6, Try.ntmps6
  go_wp2_with fail
  refine (shown_any _).mono ?_
  rintro e w1 ⟨rfl, B1⟩
  have HB1 : Hid (Below w.heap.size w w1) := B1
  clear B1
  go_wp2_with fail
  refine (newF w w1 HB1.out).mono ?_
  rintro e w2 ⟨b, mb, rfl, h2⟩
  have HS2 : Hid (Sofar w w2 b mb 0 g0 0 0) := ⟨h2, Nat.le_refl _, fun t => by simp [held], fun S hS => by rw [listed_none hS]; rfl, by simp, by simp⟩
  clear h2 HB1
  go_wp2_with fail
  go_loopg [4, 5] zs.length (fun gk s4 s5 wr => ∃ (k n : Nat) (g : Text → Option Int) (all : Int), s5 = .int .i64 (k : Int) ∧ s4 = .int .i64 all ∧ k ≤ zs.length ∧ zs.length - k ≤ gk ∧ Hid (Sofar w wr b mb n g k all))
  case atStart => exact ⟨0, 0, g0, 0, rfl, rfl, Nat.zero_le _, Nat.le_refl _, HS2⟩
  case round =>
    clear HS2
    obtain ⟨k, n, g, all, rfl, rfl, hk, hgk, HS⟩ := hrel
    by_cases hkz : k < zs.length
    · have t1 : (k : Int) < (zs.length : Int) := by omega
      obtain ⟨x, hx⟩ : ∃ x, zs[k]? = some x := ⟨_, List.getElem?_eq_getElem hkz⟩
      obtain ⟨-, -, hfit, hcell⟩ := HZ.out
      have hxf := hfit x (List.mem_of_getElem? hx)
      rcases hcell with rfl | ⟨bz, oz, rfl, hbz, hcell⟩
      · simp at hkz
      have hc := hcell k x hx
      obtain ⟨xs, xk, xn, xK⟩ := x
      have hbw := HS.out.q.below
      have x0 : wr.cell? ⟨bz, oz + k * 4, none⟩ = some (.bool xs) := (hbw.cell (p := ⟨bz, oz + k * 4, none⟩) hbz).trans (by simpa using hc 0 _ rfl)
      have x1 : wr.cell? ⟨bz, oz + k * 4 + 1, none⟩ = some (.int .i64 xk) := (hbw.cell (p := ⟨bz, oz + k * 4 + 1, none⟩) hbz).trans (by simpa using hc 1 _ rfl)
      have x2 : wr.cell? ⟨bz, oz + k * 4 + 2, none⟩ = some (.string xn) := (hbw.cell (p := ⟨bz, oz + k * 4 + 2, none⟩) hbz).trans (by simpa using hc 2 _ rfl)
      have x3 : wr.cell? ⟨bz, oz + k * 4 + 3, none⟩ = some (.int .i64 xK) := (hbw.cell (p := ⟨bz, oz + k * 4 + 3, none⟩) hbz).trans (by simpa using hc 3 _ rfl)
      have hxn : xn.size ≤ maxLen := hxf.2.1
      clear hc hcell hfit hxf hx hbw
      go_wp2_with fail
      obtain ⟨wo, hwo⟩ : ∃ wo, wo = wr.alloc (.cells #[.bool xs, .int .i64 xk, .string xn, .int .i64 xK] 35) := ⟨_, rfl⟩
      obtain ⟨ob, hob⟩ : ∃ ob, ob = wr.heap.size := ⟨_, rfl⟩
      rw [← hwo, ← hob]
      have hcb : wo.heap[ob]? = some (.cells #[.bool xs, .int .i64 xk, .string xn, .int .i64 xK] 35 (0, 0)) := by rw [hwo, hob]; exact (MapKept.heap_alloc wr _).1
      have HS1 : Hid (Sofar w wo b mb n g k all) := HS.out.more (by rw [hwo]; exact (Below.refl _ wr).alloc (Nat.le_refl _) _)
      have hobm : ob ≠ mb := by have := HS.out.q.q.tab.lt; omega
      have HOB : Hid (wo.heap[ob]? = some (.cells #[.bool xs, .int .i64 xk, .string xn, .int .i64 xK] 35 (0, 0))) := hcb
      have y1 : wo.cell? ⟨ob, 1, none⟩ = some (.int .i64 xk) := by simp [World.cell?, hcb]
      have y2 : wo.cell? ⟨ob, 2, none⟩ = some (.string xn) := by simp [World.cell?, hcb]
      clear hwo hob hcb x0 x1 x2 x3 HS
      refine (count_any _ _ _ _ _ _ HS1.out.q.q hxn).mono ?_
      rintro e w5 ⟨rfl, hW⟩
      have hW := hW.symm
      subst hW
      go_upto_if 39 with fail
      generalize (bits BinOp.and IntKind.i64 xk 1 == 0) = q
      generalize bits BinOp.and IntKind.i64 xk 1 = z
      have hc0 := held_nonneg HS1.out.q.q xn.data.toList
      have hck := HS1.out.most xn.data.toList
      have hall := HS1.out.low
      have hall2 := HS1.out.high
      have hnm : n < maxLen := by have := HS1.out.few; unfold maxLen; omega
      generalize hc : held g xn.data.toList = c at hc0 hck
      have HC : Hid (held g xn.data.toList = c) := hc
      clear hc
      cases q
      · by_cases hcz : c = 0
        · subst hcz
          have HD := dropF HS1.out.q xn hxn hnm (by rw [HC.out]; omega)
          unfold dropE dropG dropN at HD
          rw [HC.out, if_pos rfl, if_pos rfl, if_pos rfl] at HD
          have HDH : Hid (Calls Try.prog 24 #[.pointer (some ⟨b, 0, none⟩), .string xn] wo fun e w' => e = .returned (.tuple #[.int .i64 0, .bool false]) ∧ From w w' b mb n g) := HD
          clear HD
          go_wp2_with (go_at_call 24; refine HDH.out.mono ?_; rintro e w6 ⟨rfl, f6⟩
                       have HS6 : Hid (Sofar w w6 b mb n g (k + 1) all) := ⟨f6, HS1.out.next.few, HS1.out.next.most, HS1.out.sum, HS1.out.next.low, HS1.out.next.high⟩
                       clear f6)
          go_roundg (zs.length - (k + 1))
          case measure => omega
          case rel => exact ⟨k + 1, n, g, all, by go_num, rfl, by omega, Nat.le_refl _, HS6⟩
        · have HD := dropF HS1.out.q xn hxn hnm (by rw [HC.out]; omega)
          unfold dropE dropG dropN at HD
          rw [HC.out, if_neg hcz, if_neg hcz, if_neg hcz] at HD
          have HDH : Hid (Calls Try.prog 24 #[.pointer (some ⟨b, 0, none⟩), .string xn] wo fun e w' => e = .returned (.tuple #[.int .i64 (c - 1), .bool true]) ∧ From w w' b mb (setN g n xn.data.toList (c - 1)) (setG g xn.data.toList (c - 1))) := HD
          clear HD
          have hcp : 0 < c := by omega
          go_wp2_with (go_at_call 24; refine HDH.out.mono ?_; rintro e w6 ⟨rfl, f6⟩
                       have HS6 : Hid (Sofar w w6 b mb (setN g n xn.data.toList (c - 1)) (setG g xn.data.toList (c - 1)) (k + 1) (all + -1)) := HS1.out.set f6 (by omega) (-1) (by rw [HC.out]; omega) (by omega)
                       clear f6)
          go_roundg (zs.length - (k + 1))
          case measure => omega
          case rel => exact ⟨k + 1, _, _, all + -1, by go_num, rfl, by omega, Nat.le_refl _, HS6⟩
      · cases hv : validB xn.data.toList
        · have hcz : c = 0 := by
            rw [← HC.out]
            refine (held_zero HS1.out.q.q _).2 ?_
            cases hg : g xn.data.toList with
            | none => rfl
            | some v => have := HS1.out.q.q.ok _ v hg; rw [hv] at this; cases this
          subst hcz
          have HD := hold_any wo b mb n g xn HS1.out.q.q hxn hnm (by rw [HC.out]; omega)
          unfold holdE holdG holdN at HD
          rw [hv] at HD
          have HDH : Hid (Calls Try.prog 23 #[.pointer (some ⟨b, 0, none⟩), .string xn] wo fun e w' => e = .returned (.tuple #[.int .i64 0, .int .i64 50]) ∧ BookAt w' b mb n g ∧ Kept (fun k => k = mb) wo w') := HD
          clear HD
          go_wp2_with (first
            | (go_at_call 23; refine HDH.out.mono ?_; rintro e w6 ⟨rfl, b6, k6⟩
               have HS6 : Hid (Sofar w w6 b mb n g (k + 1) all) := ⟨HS1.out.q.step b6 k6, HS1.out.next.few, HS1.out.next.most, HS1.out.sum, HS1.out.next.low, HS1.out.next.high⟩
               have z2 : w6.cell? ⟨ob, 2, none⟩ = some (.string xn) := k6.cell hobm y2
               clear b6 k6)
            | (go_at_call 9; refine (valid_any _ _).mono ?_; rintro e w7 ⟨rfl, hW⟩; have hW := hW.symm; subst hW; rw [hv]))
          go_roundg (zs.length - (k + 1))
          case measure => omega
          case rel => exact ⟨k + 1, n, g, all, by go_num, rfl, by omega, Nat.le_refl _, HS6⟩
        · have HD := hold_any wo b mb n g xn HS1.out.q.q hxn hnm (by rw [HC.out]; omega)
          unfold holdE holdG holdN at HD
          rw [hv, HC.out] at HD
          have HDH : Hid (Calls Try.prog 23 #[.pointer (some ⟨b, 0, none⟩), .string xn] wo fun e w' => e = .returned (.tuple #[.int .i64 (c + 1), .int .i64 0]) ∧ BookAt w' b mb (setN g n xn.data.toList (c + 1)) (setG g xn.data.toList (c + 1)) ∧ Kept (fun k => k = mb) wo w') := HD
          clear HD
          go_wp2_with (first
            | (go_at_call 23; refine HDH.out.mono ?_; rintro e w6 ⟨rfl, b6, k6⟩
               have HS6 : Hid (Sofar w w6 b mb (setN g n xn.data.toList (c + 1)) (setG g xn.data.toList (c + 1)) (k + 1) (all + 1)) := HS1.out.set (HS1.out.q.step b6 k6) (by omega) 1 (by rw [HC.out]) (by omega)
               have z2 : w6.cell? ⟨ob, 2, none⟩ = some (.string xn) := k6.cell hobm y2
               clear b6 k6)
            | (go_at_call 9; refine (valid_any _ _).mono ?_; rintro e w7 ⟨rfl, hW⟩; have hW := hW.symm; subst hW; rw [hv]))
          go_roundg (zs.length - (k + 1))
          case measure => omega
          case rel => exact ⟨k + 1, _, _, all + 1, by go_num, rfl, by omega, Nat.le_refl _, HS6⟩
    · have t1 : ¬ (k : Int) < (zs.length : Int) := by omega
      obtain ⟨S, hS, hSn, hSl⟩ := HS.out.q.q.listed
      have HSS : Hid (Listed g S ∧ S.length = n ∧ ∀ r ∈ S, r.1.length ≤ maxLen) := ⟨hS, hSn, hSl⟩
      have hn20 : n ≤ 1048576 := by have := HS.out.few; omega
      have hSm : S.length ≤ 1048576 := by omega
      clear hS hSn hSl
      go_wp2_with fail
      refine (names_any _ _ _ _ _ S HS.out.q.q (by omega) HSS.out.1).mono ?_
      rintro e w5 ⟨gb, cp, rfl, hrow, B5⟩
      have HS5 : Hid (Sofar w w5 b mb n g k all) := HS.out.more B5
      have HR5 : Hid (∀ (i : Nat) (r : RowT), S[i]? = some r → w5.cell? ⟨gb, i, none⟩ = some (encStr r.1)) := by
        intro i r hr
        rcases hrow.2 with ⟨h0, _⟩ | ⟨g', c', cur, hv, _, hg, _, _, _, h4⟩
        · cases h0
        simp only [Value.slice.injEq, Option.some.injEq, Addr.mk.injEq, and_true] at hv
        obtain ⟨rfl, _, rfl⟩ := hv
        have hil : i < S.length := (List.getElem?_eq_some_iff.1 hr).1
        have h5 : (S.map fun r => encStr r.1)[i]? = some (encStr r.1) := by simp [hr]
        rw [← h4, List.getElem?_take_of_lt (by omega)] at h5
        simpa [World.cell?, hg] using h5
      clear hrow B5 HS
      go_wp2_with fail
      have hsum := total_bound (M := 1048576) (by decide) (S := S) (fun r hr => ?bnd)
      case bnd =>
        have h1 := (HSS.out.1.mem r.1 r.2).1 hr
        have h2 := HS5.out.q.q.pos _ _ h1
        have h3 := HS5.out.most r.1
        rw [show held g r.1 = r.2 by unfold held; rw [h1]; rfl] at h3
        exact ⟨by omega, by omega⟩
      go_loopg [14, 15, 16] S.length (fun gk s14 s15 _ wx => ∃ (i : Nat), s15 = .int .i64 (i : Int) ∧ s14 = .int .i64 (total (S.take i)) ∧ i ≤ S.length ∧ S.length - i ≤ gk ∧ Hid (Below w5.heap.size w5 wx))
      case atStart => exact ⟨0, rfl, rfl, Nat.zero_le _, Nat.le_refl _, Below.refl _ _⟩
      case round =>
        obtain ⟨i, rfl, rfl, hi, hgi, HBX⟩ := hrel
        have HSX : Hid (Sofar w wr b mb n g k all) := HS5.out.more HBX.out
        have HRX : Hid (∀ (i : Nat) (r : RowT), S[i]? = some r → wr.cell? ⟨gb, i, none⟩ = some (encStr r.1)) := fun i r hr => (HBX.out.cell (p := ⟨gb, i, none⟩) (cell_lt (HR5.out i r hr))).trans (HR5.out i r hr)
        by_cases hiS : i < S.length
        · have t2 : (i : Int) < (S.length : Int) := by omega
          obtain ⟨r, hr⟩ : ∃ r, S[i]? = some r := ⟨_, List.getElem?_eq_getElem hiS⟩
          have hg1 : g r.1 = some r.2 := (HSS.out.1.mem r.1 r.2).1 (List.mem_of_getElem? hr)
          have hpos := HSX.out.q.q.pos _ _ hg1
          have hheld : held g r.1 = r.2 := by unfold held; rw [hg1]; rfl
          have hrm := HSX.out.most r.1
          rw [hheld] at hrm
          have c1 := HRX.out i r hr
          have hlen := HSS.out.2.2 r (List.mem_of_getElem? hr)
          have HTT : Hid (total (S.take (i + 1)) = total (S.take i) + r.2) := total_take hr
          have htb := total_bound (M := 1048576) (by decide) (S := S.take i) (fun x hx => ?bnd2)
          case bnd2 =>
            have h1 := (HSS.out.1.mem x.1 x.2).1 (List.mem_of_mem_take hx)
            have h2 := HSX.out.q.q.pos _ _ h1
            have h3 := HSX.out.most x.1
            rw [show held g x.1 = x.2 by unfold held; rw [h1]; rfl] at h3
            exact ⟨by omega, by omega⟩
          have hlt : ((S.take i).length : Int) ≤ 1048576 := by simp; omega
          have htb2 : total (S.take i) ≤ 1048576 * 1048576 := by have := htb.2; omega
          have htb1 := htb.1
          have HR : Hid (S[i]? = some r) := hr
          have HG1 : Hid (held g r.1 = r.2) := hheld
          obtain ⟨rt, rc⟩ := r
          simp only [] at hpos hrm c1 hlen htb1 htb2
          clear hr hg1 hheld htb hlt
          have HCN : Hid (Calls Try.prog 22 #[.pointer (some ⟨b, 0, none⟩), .string ⟨rt.toArray⟩] wr fun e w' => e = .returned (.int .i64 rc) ∧ w' = wr) := by
            have := count_any wr b mb n g ⟨rt.toArray⟩ HSX.out.q.q (show rt.toArray.size ≤ maxLen by simpa using hlen)
            have e : held g (⟨rt.toArray⟩ : ByteArray).data.toList = rc := HG1.out
            rw [e] at this
            exact this
          have hd1 : decide (rc < 1) = false := decide_eq_false (by omega)
          generalize total (S.take i) = tt at HTT htb1 htb2
          cases i with
          | zero =>
            go_wp2_with (go_at_call 22; refine HCN.out.mono ?_; rintro e w7 ⟨rfl, hW⟩; have hW := hW.symm; subst hW)
            go_quiet (fail)
            go_wp2_with fail
            go_roundg (S.length - 1)
            case measure => omega
            case rel => exact ⟨1, rfl, by rw [HTT.out], by omega, Nat.le_refl _, below_drewN HBX.out _⟩
          | succ i =>
            obtain ⟨p, hp⟩ : ∃ p, S[i]? = some p := ⟨_, List.getElem?_eq_getElem (by omega)⟩
            have c2 := HRX.out i p hp
            have hle : less p.1 rt = true := by
              have := List.pairwise_iff_getElem.1 HSS.out.1.up i (i + 1) (by omega) hiS (by omega)
              rw [(List.getElem?_eq_some_iff.1 hp).2, (List.getElem?_eq_some_iff.1 HR.out).2] at this
              exact this
            obtain ⟨pt, pc⟩ := p
            simp only [] at c2 hle
            have hle2 : Op.bytesLess pt rt = true := hle
            have t3 : (i : Int) < (S.length : Int) := by omega
            have t4 : (0 : Int) < (i : Int) + 1 := by omega
            have t5 : (i : Int) + 1 < (S.length : Int) := by omega
            clear hp hle
            go_wp2_with (go_at_call 22; refine HCN.out.mono ?_; rintro e w7 ⟨rfl, hW⟩; have hW := hW.symm; subst hW)
            go_quiet (fail)
            go_wp2_with fail
            go_roundg (S.length - (i + 1 + 1))
            case measure => omega
            case rel => exact ⟨i + 1 + 1, by go_num, by rw [HTT.out], by omega, Nat.le_refl _, below_drewN HBX.out _⟩
        · obtain rfl : i = S.length := by omega
          have hall3 : total (S.take S.length) = all := by rw [List.take_length]; exact HSX.out.sum S HSS.out.1
          rw [hall3]
          have hnS : (S.length : Int) = (n : Int) := by have := HSS.out.2.1; omega
          have HNS : Hid ((S.length : Int) = (n : Int)) := hnS
          clear hnS
          go_wp2_with (go_at_call 26; refine (len_any _ _ _ _ _ HSX.out.q.q).mono ?_; rintro e w7 ⟨rfl, hW⟩; have hW := hW.symm; subst hW)
          go_ret
          exact ⟨by rw [HNS.out]; simp, HSX.out.q.below⟩
end Go.Proofs.Ytkmamofkbhgfeaa.namesSums
