/-
  The walk of ScriptWrites.
-/
import Derived.Test.YtpfbfkjmdlogcaaDoorStiA
import Derived.Test.YtpfbfkjmdlogcaaDoorRPrA
import Derived.Test.YtpfbfkjmdlogcaaDoorShown19
namespace Go.Proofs.YtpfbfkjmdlogcaaDoor.scriptWrites
open Go.RowKit

set_option maxHeartbeats 8000000 in
set_option maxRecDepth 1000000 in
theorem walk (j s q : Int) (a : Option Addr) (c : Nat) (l : List Sq) (W : World) (h : PlayIn W (.slice a l.length c) l) (T : Tabs W) (h6 : 6 ≤ W.heap.size) :
    Calls Tryd.prog 4 #[.agg #[.int .i64 j, .int .i64 s, .int .i64 q, .slice a l.length c]] W fun e w' => e = .returned (.bool true) ∧ Below W.heap.size W w' := by
  have b0 : Below W.heap.size W (W.alloc (.cells #[.int .i64 j, .int .i64 s, .int .i64 q, .slice a l.length c] 31)) := (Below.refl _ W).alloc (Nat.le_refl _) _
  have x0 := heap_alloc_new W (.cells #[.int .i64 j, .int .i64 s, .int .i64 q, .slice a l.length c] 31)
  have s0 : (W.alloc (.cells #[.int .i64 j, .int .i64 s, .int .i64 q, .slice a l.length c] 31)).heap.size = W.heap.size + 1 := by simp
  generalize hw0 : W.alloc (.cells #[.int .i64 j, .int .i64 s, .int .i64 q, .slice a l.length c] 31) = w0 at b0 x0 s0
  have HW0 := hide hw0
  have CB := hide (beyond_any w0 j s q a c l (h.later b0))
  obtain ⟨k0, k1, k2, k3⟩ : w0.cell? ⟨W.heap.size, 0, none⟩ = some (.int .i64 j) ∧ w0.cell? ⟨W.heap.size, 1, none⟩ = some (.int .i64 s) ∧ w0.cell? ⟨W.heap.size, 2, none⟩ = some (.int .i64 q) ∧ w0.cell? ⟨W.heap.size, 3, none⟩ = some (.slice a l.length c) := by simp [World.cell?, x0]
  have LW0 := hide b0
  have X0 := hide x0
  have HZ0 := hide s0
  have HP := hide h
  have HT := hide T
  clear h T b0 x0 s0 hw0
  go_enter Tryd.func4, Tryd.ntmps4
  go_upto_region 1 with fail
  rw [HW0.out]
  go_wp2_with fail
  refine CB.out.mono ?_
  rintro e w1 ⟨⟨b, rfl, hsm⟩, b1⟩
  have LW1 := hide (LW0.out.trans (b1.mono LW0.out.size))
  cases b
  rotate_left
  · clear b1 hsm
    go_wp2_with fail
    go_ret
    exact ⟨rfl, LW1.out⟩
  have HS := hide (hsm rfl)
  have hml : l.length ≤ 2147483647 := (hsm rfl).1
  have X1 := hide ((b1.block _ (Array.getElem?_eq_some_iff.1 X0.out).1).trans X0.out)
  have z1 : Hid (W.heap.size < w1.heap.size) := by have := HZ0.out; have := b1.size; show _ < _; omega
  clear b1 hsm k0 k1 k2 k3 CB
  have CS := hide (shown_any w1 (HT.out.below LW1.out) (by have := LW1.out.size; omega))
  go_wp2_with fail
  refine CS.out.mono ?_
  rintro e w2 ⟨rfl, b2⟩
  have LW2 := hide (LW1.out.trans (b2.mono LW1.out.size))
  have X2 := hide ((b2.block _ (Array.getElem?_eq_some_iff.1 X1.out).1).trans X1.out)
  have z2 : Hid (W.heap.size < w2.heap.size) := by have := z1.out; have := b2.size; show _ < _; omega
  obtain ⟨k0, k1, k2, k3⟩ : w2.cell? ⟨W.heap.size, 0, none⟩ = some (.int .i64 j) ∧ w2.cell? ⟨W.heap.size, 1, none⟩ = some (.int .i64 s) ∧ w2.cell? ⟨W.heap.size, 2, none⟩ = some (.int .i64 q) ∧ w2.cell? ⟨W.heap.size, 3, none⟩ = some (.slice a l.length c) := by simp [World.cell?, X2.out]
  have CL := hide (lent_any w2 j s q a c l (HP.out.later LW2.out) HS.out)
  clear b2 CS X1 LW1 z1
  go_wp2_with fail
  refine CL.out.mono ?_
  rintro e w3 ⟨b3, g, cc, rfl, o, hf, hm⟩
  have hol : o.length = l.length := by have := congrArg List.length hm; simpa using this
  have HI : Hid (WI W (w3.alloc (.cells #[.int .i64 j, .int .i64 s, .int .i64 q, .slice (some ⟨g, 0, none⟩) l.length cc] 31)) w2.heap.size w3.heap.size g cc j s q (.slice a l.length c) o) := by
    have al : Below w3.heap.size w3 (w3.alloc (.cells #[.int .i64 j, .int .i64 s, .int .i64 q, .slice (some ⟨g, 0, none⟩) l.length cc] 31)) := (Below.refl _ w3).alloc (Nat.le_refl _) _
    have h3 := b3.size
    have h2 := z2.out
    refine ⟨(LW2.out.trans (b3.mono (by omega))).trans (al.mono (by omega)), (al.block _ (by omega)).trans ((b3.block _ h2).trans X2.out), by rw [hol]; exact heap_alloc_new w3 _, ⟨own5_later hf.row al, hf.rs.later al⟩, h2, h3⟩
  have HM := hide hm
  clear b3 hf hm k0 k1 k2 k3 CL
  obtain ⟨ib, hib⟩ : ∃ ib, ib = w3.heap.size := ⟨_, rfl⟩
  rw [← hib] at HI
  have HIB := hide hib
  clear hib
  go_upto_region 5 with fail
  rw [← HIB.out]
  generalize w3.alloc (.cells #[.int .i64 j, .int .i64 s, .int .i64 q, .slice (some ⟨g, 0, none⟩) l.length cc] 31) = w4 at HI ⊢
  have hcap := HI.out.cap
  rw [hol] at hcap
  have ic : (l.length : Int) + 1 ≤ (cc : Int) := by omega
  obtain ⟨k0, k1, k2, k3, k4, k5, k6, k7⟩ := HI.out.cells
  rw [hol] at k7
  go_wp2_with fail
  have LL0 : Hid (LL ((w4.alloc (.cells #[] 41)).alloc (.cells #[] 42)) w4.heap.size (.slice (some ⟨w4.heap.size, 0, none⟩) 0 0) (.slice (some ⟨w4.heap.size + 1, 0, none⟩) 0 0) []) := by
    refine ⟨own_alloc (World.ownsRow_made w4 #[] 0 (Nat.le_refl _) (by unfold maxLen; omega) (by simp)) _, ?_⟩
    have := World.ownsRow_made (base := w4.heap.size) (e := 42) (size := 1) (w4.alloc (.cells #[] 41)) #[] 0 (by simp) (by unfold maxLen; omega) (by simp)
    rw [World.size_alloc] at this
    exact this
  have I0 : Hid (WI W ((w4.alloc (.cells #[] 41)).alloc (.cells #[] 42)) w2.heap.size ib g cc j s q (.slice a l.length c) o) := HI.out.later (((Below.refl _ w4).alloc (Nat.le_refl _) _).alloc (by simp) _)
  have HBL := hide HI.out.low.size
  obtain ⟨bl, hbl⟩ : ∃ bl, bl = w4.heap.size := ⟨_, rfl⟩
  rw [← hbl] at HBL
  have LL1 : Hid (LL ((w4.alloc (.cells #[] 41)).alloc (.cells #[] 42)) bl (.slice (some ⟨w4.heap.size, 0, none⟩) 0 0) (.slice (some ⟨w4.heap.size + 1, 0, none⟩) 0 0) []) := by rw [hbl]; exact LL0.out
  have HBQ := hide hbl
  clear k0 k1 k2 k3 k4 k5 k6 k7 LL0 hbl
  go_loopg [7, 8, 9] l.length (fun gk lv kv i wr => ∃ (k : Nat), i = .int .i64 (k : Int) ∧ l.length - k ≤ gk ∧ k ≤ l.length ∧ Hid (WI W wr w2.heap.size ib g cc j s q (.slice a l.length c) o) ∧ Hid (LL wr bl lv kv (o.take k)) ∧ Hid (bl ≤ wr.heap.size) ∧ Hid (lv ≠ .slice none 0 0 ∧ kv ≠ .slice none 0 0))
  case atStart => exact ⟨0, rfl, by omega, by omega, I0, LL1, by have := HBQ.out; show _ ≤ _; simp; omega, ⟨by simp, by simp⟩⟩
  case round =>
    obtain ⟨k, rfl, hgk, hk, HK, HL, HZ, HN⟩ := hrel
    obtain ⟨k0, k1, k2, k3, k4, k5, k6, k7⟩ := HK.out.cells
    rw [hol] at k7
    clear k0 k1 k2 k4 k5 k6
    by_cases hlt : k < l.length
    · have tlt : (k : Int) < (l.length : Int) := by omega
      obtain ⟨x, hx⟩ : ∃ x, o[k]? = some x := ⟨_, List.getElem?_eq_getElem (by omega)⟩
      obtain ⟨y, hy⟩ : ∃ y, l[k]? = some y := ⟨_, List.getElem?_eq_getElem hlt⟩
      have hyx : y.p = x.p := by
        have h1 := congrArg (fun z => z[k]?) HM.out
        simp only [List.getElem?_map, hx, hy] at h1
        exact (Option.some.inj h1).symm
      obtain ⟨b, oo, e1, _, _, m2, _, m4, hsi⟩ := HP.out.at (Below.refl _ W) hy
      obtain ⟨⟨ad, cd', e2, _⟩, ak, cn', e4, _⟩ := hsi
      rw [e2] at m2
      rw [e4] at m4
      rw [hyx] at m2 m4
      subst e1
      have HMM := hide (And.intro m2 m4)
      have HBL2 : Hid (b < W.heap.size) := cell_lt m2
      have m2 := (HK.out.low.cell (p := ⟨b, oo + k * 5 + 2, none⟩) HBL2.out).trans HMM.out.1
      have m4 := (HK.out.low.cell (p := ⟨b, oo + k * 5 + 4, none⟩) HBL2.out).trans HMM.out.2
      have hd := HK.out.fin.rs.d k x hx
      have hn := HK.out.fin.rs.k k x hx
      rw [if_pos (by omega)] at hd hn
      obtain ⟨gd, cd, ed, od⟩ := hd
      obtain ⟨gn, cn, en, on⟩ := hn
      have q2 : x.p.data.length + 1 ≤ cd := by
        obtain ⟨_, _, e, h⟩ := row_more8 od
        have e3 := (Value.slice.inj e).2.2
        omega
      have q4 : x.p.keep.length + 1 ≤ cn := by
        obtain ⟨_, _, e, h⟩ := row_more64 on
        have e3 := (Value.slice.inj e).2.2
        omega
      obtain ⟨p2, p4⟩ := HK.out.step hx
      rw [ed] at p2
      rw [en] at p4
      have hsm := HS.out.2 y (List.mem_of_getElem? hy)
      rw [hyx] at hsm
      obtain ⟨hs1, hs2⟩ := hsm
      have i1 : (x.p.data.length : Int) + 1 ≤ (cd : Int) := by omega
      have i2 : (x.p.keep.length : Int) + 1 ≤ (cn : Int) := by omega
      have wr1 : IntKind.wrap .i64 ((x.p.data.length : Int) + 1) = (x.p.data.length : Int) + 1 := by rw [IntKind.wrap_i64]; omega
      have wr2 : IntKind.wrap .i64 ((x.p.keep.length : Int) + 1) = (x.p.keep.length : Int) + 1 := by rw [IntKind.wrap_i64]; omega
      have wr3 : (0 : Int) ≤ (x.p.data.length : Int) + 1 := by omega
      have wr4 : (0 : Int) ≤ (x.p.keep.length : Int) + 1 := by omega
      have HX : Hid (o.take (k + 1) = o.take k ++ [x]) := by show _ = _; rw [List.take_add_one, hx]; rfl
      have HE : Hid (moreV x.dv = .slice (some ⟨gd, 0, none⟩) (x.p.data.length + 1) cd ∧ moreV x.kv = .slice (some ⟨gn, 0, none⟩) (x.p.keep.length + 1) cn) := ⟨by rw [ed]; rfl, by rw [en]; rfl⟩
      have hok : (o.take k).length = k := by rw [List.length_take]; omega
      have HXX := hide hx
      have HED := hide (And.intro ed en)
      have DU : Hid (wr.ownsRow bl 41 1 u7 k ((o.take k).map fun x => moreV x.dv)) := by have := HL.out.d; rw [hok] at this; exact this
      have KU : Hid (wr.ownsRow bl 42 1 u8 k ((o.take k).map fun x => moreV x.kv)) := by have := HL.out.k; rw [hok] at this; exact this
      clear hx hy hyx e2 e4 ed en od on q2 q4
      have hgw := HK.out.low.size
      go_upto_region 12 with fail
      have sq : wr.drew.cell? ⟨ib, 3, none⟩ = some (.slice (some ⟨g, 0, none⟩) l.length cc) ∧ wr.drew.cell? ⟨g, k * 5 + 2, none⟩ = some (.slice (some ⟨gd, 0, none⟩) x.p.data.length cd) ∧ wr.drew.cell? ⟨W.heap.size, 3, none⟩ = some (.slice (some ⟨b, oo, none⟩) l.length c) ∧ wr.drew.cell? ⟨b, oo + k * 5 + 2, none⟩ = some (.slice ad x.p.data.length cd') := ⟨k7, p2, k3, m2⟩
      have AL : Hid (Below wr.heap.size wr (wr.drew.alloc (.cells #[.slice (some ⟨gd, 0, none⟩) (x.p.data.length + 1) cd] 41))) := (Below.refl _ wr).drew.alloc (Nat.le_refl _) _
      have KA := hide (HK.out.later AL.out)
      have ZA : Hid (bl ≤ (wr.drew.alloc (.cells #[.slice (some ⟨gd, 0, none⟩) (x.p.data.length + 1) cd] 41)).heap.size) := Nat.le_trans HZ.out AL.out.size
      have DA : Hid ((wr.drew.alloc (.cells #[.slice (some ⟨gd, 0, none⟩) (x.p.data.length + 1) cd] 41)).ownsRow bl 41 1 u7 k ((o.take k).map fun x => moreV x.dv)) := Kept.own (P := fun _ => False) (Kept.ofBelow AL.out) DU.out (fun _ _ h => h)
      have OA := hide (Kept.own (P := fun _ => False) (Kept.ofBelow AL.out) KU.out (fun _ _ h => h))
      have ca : (wr.drew.alloc (.cells #[.slice (some ⟨gd, 0, none⟩) (x.p.data.length + 1) cd] 41)).cell? ⟨wr.heap.size, 0, none⟩ = some (.slice (some ⟨gd, 0, none⟩) (x.p.data.length + 1) cd) := by
        have := heap_alloc_new wr.drew (.cells #[.slice (some ⟨gd, 0, none⟩) (x.p.data.length + 1) cd] 41)
        unfold World.cell?
        rw [show (⟨wr.heap.size, 0, none⟩ : Addr).block = wr.drew.heap.size from rfl]
        simp only [this]
        rfl
      have s1 : (wr.drew.alloc (.cells #[.slice (some ⟨gd, 0, none⟩) (x.p.data.length + 1) cd] 41)).cell? ⟨ib, 3, none⟩ = some (.slice (some ⟨g, 0, none⟩) l.length cc) ∧ (wr.drew.alloc (.cells #[.slice (some ⟨gd, 0, none⟩) (x.p.data.length + 1) cd] 41)).cell? ⟨g, k * 5 + 2, none⟩ = some (.slice (some ⟨gd, 0, none⟩) x.p.data.length cd) ∧ (wr.drew.alloc (.cells #[.slice (some ⟨gd, 0, none⟩) (x.p.data.length + 1) cd] 41)).cell? ⟨W.heap.size, 3, none⟩ = some (.slice (some ⟨b, oo, none⟩) l.length c) ∧ (wr.drew.alloc (.cells #[.slice (some ⟨gd, 0, none⟩) (x.p.data.length + 1) cd] 41)).cell? ⟨b, oo + k * 5 + 2, none⟩ = some (.slice ad x.p.data.length cd') := by
        obtain ⟨_, _, _, r3, _, _, _, r7⟩ := KA.out.cells
        rw [hol] at r7
        have r2 := KA.out.step HXX.out
        rw [HED.out.1, HED.out.2] at r2
        exact ⟨r7, r2.1, r3, (KA.out.low.cell (p := ⟨b, oo + k * 5 + 2, none⟩) HBL2.out).trans HMM.out.1⟩
      obtain ⟨v4, wy, hr5, ho5, hg5⟩ := run_appendV (t := 39) (e := 41) Tryd.underlying39 info_lists 39 _ bl u7 k _ DA.out wr.heap.size 1 _ ca rfl (by omega) ZA.out
      have I43 : Hid (WI W wy w2.heap.size ib g cc j s q (.slice (some ⟨b, oo, none⟩) l.length c) o) := KA.out.grown DA.out HBL.out hg5 (by decide)
      have s2 : wy.cell? ⟨ib, 3, none⟩ = some (.slice (some ⟨g, 0, none⟩) l.length cc) ∧ wy.cell? ⟨g, k * 5 + 2, none⟩ = some (.slice (some ⟨gd, 0, none⟩) x.p.data.length cd) ∧ wy.cell? ⟨W.heap.size, 3, none⟩ = some (.slice (some ⟨b, oo, none⟩) l.length c) ∧ wy.cell? ⟨b, oo + k * 5 + 2, none⟩ = some (.slice ad x.p.data.length cd') := by
        obtain ⟨_, _, _, r3, _, _, _, r7⟩ := I43.out.cells
        rw [hol] at r7
        have r2 := I43.out.step HXX.out
        rw [HED.out.1, HED.out.2] at r2
        exact ⟨r7, r2.1, r3, (I43.out.low.cell (p := ⟨b, oo + k * 5 + 2, none⟩) HBL2.out).trans HMM.out.1⟩
      refine wp_region_held_drew (S := fun X => X.cell? ⟨ib, 3, none⟩ = some (.slice (some ⟨g, 0, none⟩) l.length cc) ∧ X.cell? ⟨g, k * 5 + 2, none⟩ = some (.slice (some ⟨gd, 0, none⟩) x.p.data.length cd) ∧ X.cell? ⟨W.heap.size, 3, none⟩ = some (.slice (some ⟨b, oo, none⟩) l.length c) ∧ X.cell? ⟨b, oo + k * 5 + 2, none⟩ = some (.slice ad x.p.data.length cd')) (by kernel_rfl) sq (fun _ => ?_)
      refine H_take (i := 0) (v := u7) (some 43) rfl rfl (by kernel_rfl) (by kernel_rfl) (by kernel_rfl) (fun _ _ _ h => h) rfl (fun X hX => ?_) sq ?_
      · simp [go_sem]
      simp only [Act.put, List.setIfInBounds_toArray, List.set_cons_zero, List.set_cons_succ]
      refine H_take (i := 1) (v := .pointer (some ⟨ib, 3, none⟩)) (some 44) rfl rfl (by kernel_rfl) (by kernel_rfl) (by kernel_rfl) (fun _ _ _ h => h) rfl (fun X hX => ?_) sq ?_
      · simp [go_sem]
      simp only [Act.put, List.setIfInBounds_toArray, List.set_cons_zero, List.set_cons_succ]
      refine H_take (i := 2) (v := .slice (some ⟨g, 0, none⟩) l.length cc) (some 45) rfl rfl (by kernel_rfl) (by kernel_rfl) (by kernel_rfl) (fun _ _ _ h => h) rfl (fun X hX => ?_) sq ?_
      · exact run_load1 rfl rfl Tryd.isAgg29 hX.1
      simp only [Act.put, List.setIfInBounds_toArray, List.set_cons_zero, List.set_cons_succ]
      refine H_take (i := 3) (v := .int .i64 (k : Int)) (some 46) rfl rfl (by kernel_rfl) (by kernel_rfl) (by kernel_rfl) (fun _ _ _ h => h) rfl (fun X hX => ?_) sq ?_
      · simp [go_sem]
      simp only [Act.put, List.setIfInBounds_toArray, List.set_cons_zero, List.set_cons_succ]
      refine H_take (i := 4) (v := .pointer (some ⟨g, k * 5, none⟩)) (some 47) rfl rfl (by kernel_rfl) (by kernel_rfl) (by kernel_rfl) (fun _ _ _ h => h) rfl (fun X hX => ?_) sq ?_
      · simp [go_sem, tlt]
      simp only [Act.put, List.setIfInBounds_toArray, List.set_cons_zero, List.set_cons_succ]
      refine H_take (i := 5) (v := .pointer (some ⟨g, k * 5 + 2, none⟩)) (some 48) rfl rfl (by kernel_rfl) (by kernel_rfl) (by kernel_rfl) (fun _ _ _ h => h) rfl (fun X hX => ?_) sq ?_
      · simp [go_sem]
      simp only [Act.put, List.setIfInBounds_toArray, List.set_cons_zero, List.set_cons_succ]
      refine H_take (i := 6) (v := .slice (some ⟨gd, 0, none⟩) x.p.data.length cd) (some 49) rfl rfl (by kernel_rfl) (by kernel_rfl) (by kernel_rfl) (fun _ _ _ h => h) rfl (fun X hX => ?_) sq ?_
      · exact run_load1 rfl rfl Tryd.isAgg41 hX.2.1
      simp only [Act.put, List.setIfInBounds_toArray, List.set_cons_zero, List.set_cons_succ]
      refine H_take (i := 7) (v := .pointer (some ⟨W.heap.size, 3, none⟩)) (some 50) rfl rfl (by kernel_rfl) (by kernel_rfl) (by kernel_rfl) (fun _ _ _ h => h) rfl (fun X hX => ?_) sq ?_
      · simp [go_sem]
      simp only [Act.put, List.setIfInBounds_toArray, List.set_cons_zero, List.set_cons_succ]
      refine H_take (i := 8) (v := .slice (some ⟨b, oo, none⟩) l.length c) (some 51) rfl rfl (by kernel_rfl) (by kernel_rfl) (by kernel_rfl) (fun _ _ _ h => h) rfl (fun X hX => ?_) sq ?_
      · exact run_load1 rfl rfl Tryd.isAgg29 hX.2.2.1
      simp only [Act.put, List.setIfInBounds_toArray, List.set_cons_zero, List.set_cons_succ]
      refine H_take (i := 9) (v := .int .i64 (k : Int)) (some 52) rfl rfl (by kernel_rfl) (by kernel_rfl) (by kernel_rfl) (fun _ _ _ h => h) rfl (fun X hX => ?_) sq ?_
      · simp [go_sem]
      simp only [Act.put, List.setIfInBounds_toArray, List.set_cons_zero, List.set_cons_succ]
      refine H_take (i := 10) (v := .pointer (some ⟨b, oo + k * 5, none⟩)) (some 53) rfl rfl (by kernel_rfl) (by kernel_rfl) (by kernel_rfl) (fun _ _ _ h => h) rfl (fun X hX => ?_) sq ?_
      · simp [go_sem, tlt]
      simp only [Act.put, List.setIfInBounds_toArray, List.set_cons_zero, List.set_cons_succ]
      refine H_take (i := 11) (v := .pointer (some ⟨b, oo + k * 5 + 2, none⟩)) (some 54) rfl rfl (by kernel_rfl) (by kernel_rfl) (by kernel_rfl) (fun _ _ _ h => h) rfl (fun X hX => ?_) sq ?_
      · simp [go_sem]
      simp only [Act.put, List.setIfInBounds_toArray, List.set_cons_zero, List.set_cons_succ]
      refine H_take (i := 12) (v := .slice ad x.p.data.length cd') (some 55) rfl rfl (by kernel_rfl) (by kernel_rfl) (by kernel_rfl) (fun _ _ _ h => h) rfl (fun X hX => ?_) sq ?_
      · exact run_load1 rfl rfl Tryd.isAgg41 hX.2.2.2
      simp only [Act.put, List.setIfInBounds_toArray, List.set_cons_zero, List.set_cons_succ]
      refine H_take (i := 13) (v := .int .i64 (x.p.data.length : Int)) (some 56) rfl rfl (by kernel_rfl) (by kernel_rfl) (by kernel_rfl) (fun _ _ _ h => h) rfl (fun X hX => ?_) sq ?_
      · simp [go_sem]
      simp only [Act.put, List.setIfInBounds_toArray, List.set_cons_zero, List.set_cons_succ]
      refine H_take (i := 14) (v := .int .i64 ((x.p.data.length : Int) + 1)) (some 57) rfl rfl (by kernel_rfl) (by kernel_rfl) (by kernel_rfl) (fun _ _ _ h => h) rfl (fun X hX => ?_) sq ?_
      · simp [go_sem, wr1]
      simp only [Act.put, List.setIfInBounds_toArray, List.set_cons_zero, List.set_cons_succ]
      refine H_take (i := 15) (v := .slice (some ⟨gd, 0, none⟩) (x.p.data.length + 1) cd) (some 58) rfl rfl (by kernel_rfl) (by kernel_rfl) (by kernel_rfl) (fun _ _ _ h => h) rfl (fun X hX => ?_) sq ?_
      · simp [go_sem, wr3, i1]
      simp only [Act.put, List.setIfInBounds_toArray, List.set_cons_zero, List.set_cons_succ]
      refine H_value (i := 16) (v := .slice (some ⟨wr.heap.size, 0, none⟩) 1 1) (w' := (wr.drew.alloc (.cells #[.slice (some ⟨gd, 0, none⟩) (x.p.data.length + 1) cd] 41))) (some 59) rfl rfl (by kernel_rfl) rfl (by simp [go_sem]) s1 ?_
      simp only [Act.put, List.setIfInBounds_toArray, List.set_cons_zero, List.set_cons_succ]
      refine H_value (i := 17) (v := v4) (w' := wy) (some 60) rfl rfl (by kernel_rfl) rfl (run_exec_appendV (.tmp 43) (.tmp 59) rfl rfl rfl hr5) s2 ?_
      simp only [Act.put, List.setIfInBounds_toArray, List.set_cons_zero, List.set_cons_succ]
      refine H_take (i := 18) (v := v4) (some 7) rfl rfl (by kernel_rfl) (by kernel_rfl) (by kernel_rfl) (fun _ _ _ h => h) rfl (fun X hX => ?_) s2 ?_
      · simp [go_sem]
      simp only [Act.put, List.setIfInBounds_toArray, List.set_cons_zero, List.set_cons_succ]
      refine wpAnyH_done (by kernel_rfl) ?_ _
      have D6 : Hid (wy.ownsRow bl 41 1 v4 (o.take (k + 1)).length ((o.take (k + 1)).map fun x => moreV x.dv)) := by
        rw [HX.out, List.map_append, List.map_cons, List.map_nil, HE.out.1, List.length_append, hok]; exact ho5
      have K5 : Hid (wy.ownsRow bl 42 1 u8 k ((o.take k).map fun x => moreV x.kv)) := row_apart DA.out OA.out (by decide) hg5
      have Z5 : Hid (bl ≤ wy.heap.size) := Nat.le_trans ZA.out hg5.size
      obtain ⟨_, _, _, k3, _, _, _, k7⟩ := I43.out.cells
      rw [hol] at k7
      have r2 := I43.out.step HXX.out
      rw [HED.out.1, HED.out.2] at r2
      obtain ⟨p2, p4⟩ := r2
      have m2 := (I43.out.low.cell (p := ⟨b, oo + k * 5 + 2, none⟩) HBL2.out).trans HMM.out.1
      have m4 := (I43.out.low.cell (p := ⟨b, oo + k * 5 + 4, none⟩) HBL2.out).trans HMM.out.2
      clear ho5 hg5 AL KA ZA DA OA
      clear sq s1 s2 hr5 ca
      go_upto_region 13 with fail
      have sq : wy.drew.cell? ⟨ib, 3, none⟩ = some (.slice (some ⟨g, 0, none⟩) l.length cc) ∧ wy.drew.cell? ⟨g, k * 5 + 4, none⟩ = some (.slice (some ⟨gn, 0, none⟩) x.p.keep.length cn) ∧ wy.drew.cell? ⟨W.heap.size, 3, none⟩ = some (.slice (some ⟨b, oo, none⟩) l.length c) ∧ wy.drew.cell? ⟨b, oo + k * 5 + 4, none⟩ = some (.slice ak x.p.keep.length cn') := ⟨k7, p4, k3, m4⟩
      have AL : Hid (Below wy.heap.size wy (wy.drew.alloc (.cells #[.slice (some ⟨gn, 0, none⟩) (x.p.keep.length + 1) cn] 42))) := (Below.refl _ wy).drew.alloc (Nat.le_refl _) _
      have KA := hide (I43.out.later AL.out)
      have ZA : Hid (bl ≤ (wy.drew.alloc (.cells #[.slice (some ⟨gn, 0, none⟩) (x.p.keep.length + 1) cn] 42)).heap.size) := Nat.le_trans Z5.out AL.out.size
      have DA : Hid ((wy.drew.alloc (.cells #[.slice (some ⟨gn, 0, none⟩) (x.p.keep.length + 1) cn] 42)).ownsRow bl 42 1 u8 k ((o.take k).map fun x => moreV x.kv)) := Kept.own (P := fun _ => False) (Kept.ofBelow AL.out) K5.out (fun _ _ h => h)
      have OA := hide (Kept.own (P := fun _ => False) (Kept.ofBelow AL.out) D6.out (fun _ _ h => h))
      have ca : (wy.drew.alloc (.cells #[.slice (some ⟨gn, 0, none⟩) (x.p.keep.length + 1) cn] 42)).cell? ⟨wy.heap.size, 0, none⟩ = some (.slice (some ⟨gn, 0, none⟩) (x.p.keep.length + 1) cn) := by
        have := heap_alloc_new wy.drew (.cells #[.slice (some ⟨gn, 0, none⟩) (x.p.keep.length + 1) cn] 42)
        unfold World.cell?
        rw [show (⟨wy.heap.size, 0, none⟩ : Addr).block = wy.drew.heap.size from rfl]
        simp only [this]
        rfl
      have s1 : (wy.drew.alloc (.cells #[.slice (some ⟨gn, 0, none⟩) (x.p.keep.length + 1) cn] 42)).cell? ⟨ib, 3, none⟩ = some (.slice (some ⟨g, 0, none⟩) l.length cc) ∧ (wy.drew.alloc (.cells #[.slice (some ⟨gn, 0, none⟩) (x.p.keep.length + 1) cn] 42)).cell? ⟨g, k * 5 + 4, none⟩ = some (.slice (some ⟨gn, 0, none⟩) x.p.keep.length cn) ∧ (wy.drew.alloc (.cells #[.slice (some ⟨gn, 0, none⟩) (x.p.keep.length + 1) cn] 42)).cell? ⟨W.heap.size, 3, none⟩ = some (.slice (some ⟨b, oo, none⟩) l.length c) ∧ (wy.drew.alloc (.cells #[.slice (some ⟨gn, 0, none⟩) (x.p.keep.length + 1) cn] 42)).cell? ⟨b, oo + k * 5 + 4, none⟩ = some (.slice ak x.p.keep.length cn') := by
        obtain ⟨_, _, _, r3, _, _, _, r7⟩ := KA.out.cells
        rw [hol] at r7
        have r2 := KA.out.step HXX.out
        rw [HED.out.1, HED.out.2] at r2
        exact ⟨r7, r2.2, r3, (KA.out.low.cell (p := ⟨b, oo + k * 5 + 4, none⟩) HBL2.out).trans HMM.out.2⟩
      obtain ⟨v5, w5, hr5, ho5, hg5⟩ := run_appendV (t := 40) (e := 42) Tryd.underlying40 info_strs 40 _ bl u8 k _ DA.out wy.heap.size 1 _ ca rfl (by omega) ZA.out
      have I61 : Hid (WI W w5 w2.heap.size ib g cc j s q (.slice (some ⟨b, oo, none⟩) l.length c) o) := KA.out.grown DA.out HBL.out hg5 (by decide)
      have s2 : w5.cell? ⟨ib, 3, none⟩ = some (.slice (some ⟨g, 0, none⟩) l.length cc) ∧ w5.cell? ⟨g, k * 5 + 4, none⟩ = some (.slice (some ⟨gn, 0, none⟩) x.p.keep.length cn) ∧ w5.cell? ⟨W.heap.size, 3, none⟩ = some (.slice (some ⟨b, oo, none⟩) l.length c) ∧ w5.cell? ⟨b, oo + k * 5 + 4, none⟩ = some (.slice ak x.p.keep.length cn') := by
        obtain ⟨_, _, _, r3, _, _, _, r7⟩ := I61.out.cells
        rw [hol] at r7
        have r2 := I61.out.step HXX.out
        rw [HED.out.1, HED.out.2] at r2
        exact ⟨r7, r2.2, r3, (I61.out.low.cell (p := ⟨b, oo + k * 5 + 4, none⟩) HBL2.out).trans HMM.out.2⟩
      refine wp_region_held_drew (S := fun X => X.cell? ⟨ib, 3, none⟩ = some (.slice (some ⟨g, 0, none⟩) l.length cc) ∧ X.cell? ⟨g, k * 5 + 4, none⟩ = some (.slice (some ⟨gn, 0, none⟩) x.p.keep.length cn) ∧ X.cell? ⟨W.heap.size, 3, none⟩ = some (.slice (some ⟨b, oo, none⟩) l.length c) ∧ X.cell? ⟨b, oo + k * 5 + 4, none⟩ = some (.slice ak x.p.keep.length cn')) (by kernel_rfl) sq (fun _ => ?_)
      refine H_take (i := 0) (v := u8) (some 61) rfl rfl (by kernel_rfl) (by kernel_rfl) (by kernel_rfl) (fun _ _ _ h => h) rfl (fun X hX => ?_) sq ?_
      · simp [go_sem]
      simp only [Act.put, List.setIfInBounds_toArray, List.set_cons_zero, List.set_cons_succ]
      refine H_take (i := 1) (v := .pointer (some ⟨ib, 3, none⟩)) (some 62) rfl rfl (by kernel_rfl) (by kernel_rfl) (by kernel_rfl) (fun _ _ _ h => h) rfl (fun X hX => ?_) sq ?_
      · simp [go_sem]
      simp only [Act.put, List.setIfInBounds_toArray, List.set_cons_zero, List.set_cons_succ]
      refine H_take (i := 2) (v := .slice (some ⟨g, 0, none⟩) l.length cc) (some 63) rfl rfl (by kernel_rfl) (by kernel_rfl) (by kernel_rfl) (fun _ _ _ h => h) rfl (fun X hX => ?_) sq ?_
      · exact run_load1 rfl rfl Tryd.isAgg29 hX.1
      simp only [Act.put, List.setIfInBounds_toArray, List.set_cons_zero, List.set_cons_succ]
      refine H_take (i := 3) (v := .int .i64 (k : Int)) (some 64) rfl rfl (by kernel_rfl) (by kernel_rfl) (by kernel_rfl) (fun _ _ _ h => h) rfl (fun X hX => ?_) sq ?_
      · simp [go_sem]
      simp only [Act.put, List.setIfInBounds_toArray, List.set_cons_zero, List.set_cons_succ]
      refine H_take (i := 4) (v := .pointer (some ⟨g, k * 5, none⟩)) (some 65) rfl rfl (by kernel_rfl) (by kernel_rfl) (by kernel_rfl) (fun _ _ _ h => h) rfl (fun X hX => ?_) sq ?_
      · simp [go_sem, tlt]
      simp only [Act.put, List.setIfInBounds_toArray, List.set_cons_zero, List.set_cons_succ]
      refine H_take (i := 5) (v := .pointer (some ⟨g, k * 5 + 4, none⟩)) (some 66) rfl rfl (by kernel_rfl) (by kernel_rfl) (by kernel_rfl) (fun _ _ _ h => h) rfl (fun X hX => ?_) sq ?_
      · simp [go_sem]
      simp only [Act.put, List.setIfInBounds_toArray, List.set_cons_zero, List.set_cons_succ]
      refine H_take (i := 6) (v := .slice (some ⟨gn, 0, none⟩) x.p.keep.length cn) (some 67) rfl rfl (by kernel_rfl) (by kernel_rfl) (by kernel_rfl) (fun _ _ _ h => h) rfl (fun X hX => ?_) sq ?_
      · exact run_load1 rfl rfl Tryd.isAgg42 hX.2.1
      simp only [Act.put, List.setIfInBounds_toArray, List.set_cons_zero, List.set_cons_succ]
      refine H_take (i := 7) (v := .pointer (some ⟨W.heap.size, 3, none⟩)) (some 68) rfl rfl (by kernel_rfl) (by kernel_rfl) (by kernel_rfl) (fun _ _ _ h => h) rfl (fun X hX => ?_) sq ?_
      · simp [go_sem]
      simp only [Act.put, List.setIfInBounds_toArray, List.set_cons_zero, List.set_cons_succ]
      refine H_take (i := 8) (v := .slice (some ⟨b, oo, none⟩) l.length c) (some 69) rfl rfl (by kernel_rfl) (by kernel_rfl) (by kernel_rfl) (fun _ _ _ h => h) rfl (fun X hX => ?_) sq ?_
      · exact run_load1 rfl rfl Tryd.isAgg29 hX.2.2.1
      simp only [Act.put, List.setIfInBounds_toArray, List.set_cons_zero, List.set_cons_succ]
      refine H_take (i := 9) (v := .int .i64 (k : Int)) (some 70) rfl rfl (by kernel_rfl) (by kernel_rfl) (by kernel_rfl) (fun _ _ _ h => h) rfl (fun X hX => ?_) sq ?_
      · simp [go_sem]
      simp only [Act.put, List.setIfInBounds_toArray, List.set_cons_zero, List.set_cons_succ]
      refine H_take (i := 10) (v := .pointer (some ⟨b, oo + k * 5, none⟩)) (some 71) rfl rfl (by kernel_rfl) (by kernel_rfl) (by kernel_rfl) (fun _ _ _ h => h) rfl (fun X hX => ?_) sq ?_
      · simp [go_sem, tlt]
      simp only [Act.put, List.setIfInBounds_toArray, List.set_cons_zero, List.set_cons_succ]
      refine H_take (i := 11) (v := .pointer (some ⟨b, oo + k * 5 + 4, none⟩)) (some 72) rfl rfl (by kernel_rfl) (by kernel_rfl) (by kernel_rfl) (fun _ _ _ h => h) rfl (fun X hX => ?_) sq ?_
      · simp [go_sem]
      simp only [Act.put, List.setIfInBounds_toArray, List.set_cons_zero, List.set_cons_succ]
      refine H_take (i := 12) (v := .slice ak x.p.keep.length cn') (some 73) rfl rfl (by kernel_rfl) (by kernel_rfl) (by kernel_rfl) (fun _ _ _ h => h) rfl (fun X hX => ?_) sq ?_
      · exact run_load1 rfl rfl Tryd.isAgg42 hX.2.2.2
      simp only [Act.put, List.setIfInBounds_toArray, List.set_cons_zero, List.set_cons_succ]
      refine H_take (i := 13) (v := .int .i64 (x.p.keep.length : Int)) (some 74) rfl rfl (by kernel_rfl) (by kernel_rfl) (by kernel_rfl) (fun _ _ _ h => h) rfl (fun X hX => ?_) sq ?_
      · simp [go_sem]
      simp only [Act.put, List.setIfInBounds_toArray, List.set_cons_zero, List.set_cons_succ]
      refine H_take (i := 14) (v := .int .i64 ((x.p.keep.length : Int) + 1)) (some 75) rfl rfl (by kernel_rfl) (by kernel_rfl) (by kernel_rfl) (fun _ _ _ h => h) rfl (fun X hX => ?_) sq ?_
      · simp [go_sem, wr2]
      simp only [Act.put, List.setIfInBounds_toArray, List.set_cons_zero, List.set_cons_succ]
      refine H_take (i := 15) (v := .slice (some ⟨gn, 0, none⟩) (x.p.keep.length + 1) cn) (some 76) rfl rfl (by kernel_rfl) (by kernel_rfl) (by kernel_rfl) (fun _ _ _ h => h) rfl (fun X hX => ?_) sq ?_
      · simp [go_sem, wr4, i2]
      simp only [Act.put, List.setIfInBounds_toArray, List.set_cons_zero, List.set_cons_succ]
      refine H_value (i := 16) (v := .slice (some ⟨wy.heap.size, 0, none⟩) 1 1) (w' := (wy.drew.alloc (.cells #[.slice (some ⟨gn, 0, none⟩) (x.p.keep.length + 1) cn] 42))) (some 77) rfl rfl (by kernel_rfl) rfl (by simp [go_sem]) s1 ?_
      simp only [Act.put, List.setIfInBounds_toArray, List.set_cons_zero, List.set_cons_succ]
      refine H_value (i := 17) (v := v5) (w' := w5) (some 78) rfl rfl (by kernel_rfl) rfl (run_exec_appendV (.tmp 61) (.tmp 77) rfl rfl rfl hr5) s2 ?_
      simp only [Act.put, List.setIfInBounds_toArray, List.set_cons_zero, List.set_cons_succ]
      refine H_take (i := 18) (v := v5) (some 8) rfl rfl (by kernel_rfl) (by kernel_rfl) (by kernel_rfl) (fun _ _ _ h => h) rfl (fun X hX => ?_) s2 ?_
      · simp [go_sem]
      simp only [Act.put, List.setIfInBounds_toArray, List.set_cons_zero, List.set_cons_succ]
      refine wpAnyH_done (by kernel_rfl) ?_ _
      have K6 : Hid (w5.ownsRow bl 42 1 v5 (o.take (k + 1)).length ((o.take (k + 1)).map fun x => moreV x.kv)) := by
        rw [HX.out, List.map_append, List.map_cons, List.map_nil, HE.out.2, List.length_append, hok]; exact ho5
      have D7 : Hid (w5.ownsRow bl 41 1 v4 (o.take (k + 1)).length ((o.take (k + 1)).map fun x => moreV x.dv)) := row_apart DA.out OA.out (by decide) hg5
      have Z6 : Hid (bl ≤ w5.heap.size) := Nat.le_trans ZA.out hg5.size
      clear ho5 hg5 AL KA ZA DA OA
      clear sq s1 s2 hr5 ca
      go_wp2_with fail
      go_roundg (l.length - (k + 1))
      case measure => omega
      case rel => exact ⟨k + 1, by go_num, Nat.le_refl _, hlt, I61, ⟨D7.out, K6.out⟩, Z6, ⟨row_some D7.out (by rw [HX.out]; simp), row_some K6.out (by rw [HX.out]; simp)⟩⟩
    · have tlt : ¬ (k : Int) < (l.length : Int) := by omega
      have hok : o.take k = o := List.take_of_length_le (by omega)
      rw [hok] at HL
      have hom : o.length ≤ maxLen := by unfold maxLen; omega
      obtain ⟨k0, k1, k2, k3, k4, k5, k6, k7⟩ := HK.out.cells
      rw [hol] at k7
      obtain ⟨gl, cl, e7⟩ := row_form HL.out.d HN.out.1
      obtain ⟨gn, cn, e8⟩ := row_form HL.out.k HN.out.2
      rw [hol] at e7 e8
      subst e7 e8
      obtain ⟨Tx, Ex, hTE⟩ : ∃ Tx Ex, printR j s q (l.map (·.p)) = (Tx, Ex) := ⟨_, _, rfl⟩
      have HTE := hide hTE
      have CP := hide (print_any19 wr j s q _ o (HT.out.below HK.out.low) (by have := HK.out.low.size; omega) (HK.out.play hom))
      rw [hol, HM.out] at CP
      clear hTE
      go_wp2_with fail
      refine CP.out.mono ?_
      rintro e w5 ⟨b5, he⟩
      rw [HTE.out] at he
      simp only [] at he
      subst he
      have I5 := hide (HK.out.later b5)
      have L5 := hide (HL.out.later b5)
      clear b5 CP k0 k1 k2 k3 k4 k5 k6 k7
      obtain ⟨k0, k1, k2, k3, k4, k5, k6, k7⟩ := I5.out.cells
      rw [hol] at k7
      have CP := hide (print_any19 w5 j s q _ o (HT.out.below I5.out.low) (by have := I5.out.low.size; omega) (I5.out.play hom))
      rw [hol, HM.out] at CP
      go_wp2_with fail
      refine CP.out.mono ?_
      rintro e w6 ⟨b6, he⟩
      rw [HTE.out] at he
      simp only [] at he
      subst he
      have I6 := hide (I5.out.later b6)
      have L6 := hide (L5.out.later b6)
      clear b6 CP k0 k1 k2 k3 k4 k5 k6 k7 I5 L5
      obtain ⟨k0, k1, k2, k3, k4, k5, k6, k7⟩ := I6.out.cells
      have CST : Hid (Calls Tryd.prog 17 #[.slice (some ⟨gl, 0, none⟩) l.length cl, .slice (some ⟨gn, 0, none⟩) l.length cn, .slice (some ⟨g, 0, none⟩) (l.length + 1) cc, .agg #[.int .i64 j, .int .i64 s, .int .i64 q, .slice a l.length c]] w6 fun e w' => e = .returned (.bool true) ∧ Below w6.heap.size w6 w') := by
        have hpl := I6.out.play hom
        have hla := I6.out.last
        rw [hol] at hpl hla
        exact still_any w6 gl gn cl cn g cc j s q a c l o (HP.out.later I6.out.low) hpl hla HM.out (L6.out.stIn I6.out) hcap HS.out
      clear k4 k5 k6 k7
      go_wp2_with fail
      refine CST.out.mono ?_
      rintro e w7 ⟨rfl, b7⟩
      have I7 := hide (I6.out.later b7)
      clear b7 CST k0 k1 k2 k3 I6 L6
      obtain ⟨k0, k1, k2, k3, _⟩ := I7.out.cells
      have CR := hide (refPrint_any19 w7 j s q _ l (HP.out.later I7.out.low))
      go_wp2_with fail
      refine CR.out.mono ?_
      rintro e w8 ⟨b8, he⟩
      rw [HTE.out] at he
      simp only [] at he
      subst he
      have I8 := hide (I7.out.later b8)
      clear b8 CR k0 k1 k2 k3 I7
      obtain ⟨k0, k1, k2, k3, _⟩ := I8.out.cells
      have CO := hide (owned_any w8 j s q a c l (HP.out.later I8.out.low) HS.out)
      go_wp2_with fail
      refine CO.out.mono ?_
      rintro e w9 ⟨b9, ov, o9, rfl, ho9, hm9⟩
      have hol9 : o9.length = l.length := by have := congrArg List.length hm9; simpa using this
      obtain ⟨ta, tc, eov⟩ := row5_form ho9.1
      rw [hol9] at eov
      subst eov
      obtain ⟨L, hL⟩ : ∃ L, L = l.reverse := ⟨_, rfl⟩
      have hLl : L.length = l.length := by rw [hL, List.length_reverse]
      have D0 : Hid (W2 W (w9.alloc (.cells #[.int .i64 j, .int .i64 s, .int .i64 q, .slice ta l.length tc] 31)) w2.heap.size ib g cc w8.heap.size w9.heap.size ta tc l.length j s q (.slice a l.length c) (L.take 0 ++ o.drop 0) (L.take 0 ++ o9.drop 0)) := by
        have al : Below w9.heap.size w9 (w9.alloc (.cells #[.int .i64 j, .int .i64 s, .int .i64 q, .slice ta l.length tc] 31)) := (Below.refl _ w9).alloc (Nat.le_refl _) _
        have bb := b9.trans (al.mono b9.size)
        have I9 := I8.out.later bb
        have hbx := I9.ibx
        have hrw := I9.fin.row
        have htr := own5_later ho9.1 al
        rw [hol] at hbx hrw
        rw [hol9] at htr
        simp only [List.take_zero, List.drop_zero, List.nil_append]
        exact ⟨I9.low, I9.pb, hbx, heap_alloc_new w9 _, hrw, htr, I8.out.hB, (I8.out.fin.row.lt g rfl).2, hol, hol9⟩
      have HL2 := hide hL
      obtain ⟨tb, htb⟩ : ∃ tb, tb = w9.heap.size := ⟨_, rfl⟩
      rw [← htb] at D0
      have HTB := hide htb
      clear b9 ho9 hm9 k0 k1 k2 k3 CO hL htb
      go_upto_region 21 with fail
      rw [← HTB.out]
      generalize w9.alloc (.cells #[.int .i64 j, .int .i64 s, .int .i64 q, .slice ta l.length tc] 31) = w10 at D0 ⊢
      go_wp2_with fail
      go_loopg [18] l.length (fun gk i wr => ∃ (k : Nat), i = .int .i64 (k : Int) ∧ l.length - k ≤ gk ∧ k ≤ l.length ∧ Hid (W2 W wr w2.heap.size ib g cc w8.heap.size tb ta tc l.length j s q (.slice a l.length c) (L.take k ++ o.drop k) (L.take k ++ o9.drop k)))
      case atStart => exact ⟨0, rfl, by omega, by omega, D0⟩
      case round =>
        obtain ⟨k, rfl, hgk, hk, HD⟩ := hrel
        obtain ⟨k3, k7, kt⟩ := HD.out.cells
        by_cases hlt : k < l.length
        · have tlt : (k : Int) < (l.length : Int) := by omega
          obtain ⟨m, hm⟩ : ∃ m, m = l.length - 1 - k := ⟨_, rfl⟩
          obtain ⟨x, hx⟩ : ∃ x, l[m]? = some x := ⟨_, List.getElem?_eq_getElem (by omega)⟩
          have hLk : L[k]? = some x := by rw [HL2.out, List.getElem?_reverse hlt, ← hm]; exact hx
          obtain ⟨b, oo, e1, m0, m1, m2, m3, m4, hsi⟩ := HP.out.at (Below.refl _ W) hx
          obtain ⟨p, dv, kv⟩ := x
          obtain ⟨⟨ad, cd, e2, _⟩, ak, cn, e4, _⟩ := hsi
          simp only [] at e2 e4 m0 m1 m2 m3 m4
          subst e1 e2 e4
          obtain ⟨gt, et⟩ := HD.out.form (by omega)
          subst et
          have HB : Hid (b < W.heap.size) := cell_lt m0
          have HC : Hid (∀ X, Below W.heap.size W X → X.cell? ⟨b, oo + m * 5, none⟩ = some (.int .i64 p.kind) ∧ X.cell? ⟨b, oo + m * 5 + 1, none⟩ = some (.int .i64 p.conn) ∧ X.cell? ⟨b, oo + m * 5 + 2, none⟩ = some (.slice ad p.data.length cd) ∧ X.cell? ⟨b, oo + m * 5 + 3, none⟩ = some (.int .i64 p.brk) ∧ X.cell? ⟨b, oo + m * 5 + 4, none⟩ = some (.slice ak p.keep.length cn)) := fun X hX => ⟨(hX.cell (p := ⟨b, oo + m * 5, none⟩) HB.out).trans m0, (hX.cell (p := ⟨b, oo + m * 5 + 1, none⟩) HB.out).trans m1, (hX.cell (p := ⟨b, oo + m * 5 + 2, none⟩) HB.out).trans m2, (hX.cell (p := ⟨b, oo + m * 5 + 3, none⟩) HB.out).trans m3, (hX.cell (p := ⟨b, oo + m * 5 + 4, none⟩) HB.out).trans m4⟩
          have tlm : (m : Int) < (l.length : Int) := by omega
          have wm1 : IntKind.wrap .i64 ((l.length : Int) - 1) = (l.length : Int) - 1 := by rw [IntKind.wrap_i64]; omega
          have wm2 : IntKind.wrap .i64 ((l.length : Int) - 1 - (k : Int)) = (m : Int) := by rw [IntKind.wrap_i64]; omega
          have HLK := hide hLk
          clear hx hLk m0 m1 m2 m3 m4 hm
          go_upto_region 24 with fail
          have Hd := hide (HD.out.later (Below.refl _ wr).drew)
          have sq : wr.drew.cell? ⟨tb, 3, none⟩ = some (.slice (some ⟨gt, 0, none⟩) l.length tc) ∧ wr.drew.cell? ⟨W.heap.size, 3, none⟩ = some (.slice (some ⟨b, oo, none⟩) l.length c) ∧ Below W.heap.size W wr.drew := ⟨Hd.out.cells.2.2, Hd.out.cells.1, Hd.out.low⟩
          obtain ⟨cur, hc, hs, hA⟩ := Hd.out.putT rfl hlt (z := ⟨p, .slice ad p.data.length cd, .slice ak p.keep.length cn⟩)
          obtain ⟨wa, hwo⟩ : ∃ X, X = wr.drew.setRow gt (cur.toList.take (k * 5) ++ sqCells ⟨p, .slice ad p.data.length cd, .slice ak p.keep.length cn⟩ ++ cur.toList.drop (k * 5 + 5)).toArray := ⟨_, rfl⟩
          rw [← hwo] at hA
          have E24 := hide hA
          have s2 : wa.cell? ⟨tb, 3, none⟩ = some (.slice (some ⟨gt, 0, none⟩) l.length tc) ∧ wa.cell? ⟨W.heap.size, 3, none⟩ = some (.slice (some ⟨b, oo, none⟩) l.length c) ∧ Below W.heap.size W wa := ⟨E24.out.cells.2.2, E24.out.cells.1, E24.out.low⟩
          refine wp_region_held_drew (S := fun X => X.cell? ⟨tb, 3, none⟩ = some (.slice (some ⟨gt, 0, none⟩) l.length tc) ∧ X.cell? ⟨W.heap.size, 3, none⟩ = some (.slice (some ⟨b, oo, none⟩) l.length c) ∧ Below W.heap.size W X) (by kernel_rfl) sq (fun _ => ?_)
          refine H_take (i := 0) (v := .pointer (some ⟨tb, 3, none⟩)) (some 132) rfl rfl (by kernel_rfl) (by kernel_rfl) (by kernel_rfl) (fun _ _ _ h => h) rfl (fun X hX => ?_) sq ?_
          · simp [go_sem]
          simp only [Act.put, List.setIfInBounds_toArray, List.set_cons_zero, List.set_cons_succ]
          refine H_take (i := 1) (v := .slice (some ⟨gt, 0, none⟩) l.length tc) (some 133) rfl rfl (by kernel_rfl) (by kernel_rfl) (by kernel_rfl) (fun _ _ _ h => h) rfl (fun X hX => ?_) sq ?_
          · exact run_load1 rfl rfl Tryd.isAgg29 hX.1
          simp only [Act.put, List.setIfInBounds_toArray, List.set_cons_zero, List.set_cons_succ]
          refine H_take (i := 2) (v := .int .i64 (k : Int)) (some 134) rfl rfl (by kernel_rfl) (by kernel_rfl) (by kernel_rfl) (fun _ _ _ h => h) rfl (fun X hX => ?_) sq ?_
          · simp [go_sem]
          simp only [Act.put, List.setIfInBounds_toArray, List.set_cons_zero, List.set_cons_succ]
          refine H_take (i := 3) (v := .pointer (some ⟨W.heap.size, 3, none⟩)) (some 135) rfl rfl (by kernel_rfl) (by kernel_rfl) (by kernel_rfl) (fun _ _ _ h => h) rfl (fun X hX => ?_) sq ?_
          · simp [go_sem]
          simp only [Act.put, List.setIfInBounds_toArray, List.set_cons_zero, List.set_cons_succ]
          refine H_take (i := 4) (v := .slice (some ⟨b, oo, none⟩) l.length c) (some 136) rfl rfl (by kernel_rfl) (by kernel_rfl) (by kernel_rfl) (fun _ _ _ h => h) rfl (fun X hX => ?_) sq ?_
          · exact run_load1 rfl rfl Tryd.isAgg29 hX.2.1
          simp only [Act.put, List.setIfInBounds_toArray, List.set_cons_zero, List.set_cons_succ]
          refine H_take (i := 5) (v := .int .i64 (l.length : Int)) (some 137) rfl rfl (by kernel_rfl) (by kernel_rfl) (by kernel_rfl) (fun _ _ _ h => h) rfl (fun X hX => ?_) sq ?_
          · simp [go_sem]
          simp only [Act.put, List.setIfInBounds_toArray, List.set_cons_zero, List.set_cons_succ]
          refine H_take (i := 6) (v := .int .i64 ((l.length : Int) - 1)) (some 138) rfl rfl (by kernel_rfl) (by kernel_rfl) (by kernel_rfl) (fun _ _ _ h => h) rfl (fun X hX => ?_) sq ?_
          · simp [go_sem, wm1]
          simp only [Act.put, List.setIfInBounds_toArray, List.set_cons_zero, List.set_cons_succ]
          refine H_take (i := 7) (v := .int .i64 (k : Int)) (some 139) rfl rfl (by kernel_rfl) (by kernel_rfl) (by kernel_rfl) (fun _ _ _ h => h) rfl (fun X hX => ?_) sq ?_
          · simp [go_sem]
          simp only [Act.put, List.setIfInBounds_toArray, List.set_cons_zero, List.set_cons_succ]
          refine H_take (i := 8) (v := .int .i64 (m : Int)) (some 140) rfl rfl (by kernel_rfl) (by kernel_rfl) (by kernel_rfl) (fun _ _ _ h => h) rfl (fun X hX => ?_) sq ?_
          · simp [go_sem, wm2]
          simp only [Act.put, List.setIfInBounds_toArray, List.set_cons_zero, List.set_cons_succ]
          refine H_take (i := 9) (v := .pointer (some ⟨b, oo + m * 5, none⟩)) (some 141) rfl rfl (by kernel_rfl) (by kernel_rfl) (by kernel_rfl) (fun _ _ _ h => h) rfl (fun X hX => ?_) sq ?_
          · simp [go_sem, tlm]
          simp only [Act.put, List.setIfInBounds_toArray, List.set_cons_zero, List.set_cons_succ]
          refine H_take (i := 10) (v := .agg #[.int .i64 p.kind, .int .i64 p.conn, .slice ad p.data.length cd, .int .i64 p.brk, .slice ak p.keep.length cn]) (some 142) rfl rfl (by kernel_rfl) (by kernel_rfl) (by kernel_rfl) (fun _ _ _ h => h) rfl (fun X hX => ?_) sq ?_
          · obtain ⟨c0, c1, c2, c3, c4⟩ := HC.out X hX.2.2; simp [go_sem, c0, c1, c2, c3, c4]
          simp only [Act.put, List.setIfInBounds_toArray, List.set_cons_zero, List.set_cons_succ]
          refine H_take (i := 11) (v := .pointer (some ⟨gt, k * 5, none⟩)) (some 143) rfl rfl (by kernel_rfl) (by kernel_rfl) (by kernel_rfl) (fun _ _ _ h => h) rfl (fun X hX => ?_) sq ?_
          · simp [go_sem, tlt]
          simp only [Act.put, List.setIfInBounds_toArray, List.set_cons_zero, List.set_cons_succ]
          refine H_skip (i := 12) (w' := wa) rfl rfl (by kernel_rfl) rfl (by rw [hwo]; exact run_exec_storeAt rfl gt (k * 5) #[.int .i64 p.kind, .int .i64 p.conn, .slice ad p.data.length cd, .int .i64 p.brk, .slice ak p.keep.length cn] rfl rfl 44 cur hc step_size hs step_one) s2 ?_
          refine wpAnyH_done (by kernel_rfl) ?_ _
          clear sq s2 hwo hA hc hs Hd
          go_upto_region 25 with fail
          have Hd := hide (E24.out.later (Below.refl _ wa).drew)
          have sq : wa.drew.cell? ⟨ib, 3, none⟩ = some (.slice (some ⟨g, 0, none⟩) l.length cc) ∧ wa.drew.cell? ⟨W.heap.size, 3, none⟩ = some (.slice (some ⟨b, oo, none⟩) l.length c) ∧ Below W.heap.size W wa.drew := ⟨Hd.out.cells.2.1, Hd.out.cells.1, Hd.out.low⟩
          obtain ⟨cur, hc, hs, hA⟩ := Hd.out.putI hlt (z := ⟨p, .slice ad p.data.length cd, .slice ak p.keep.length cn⟩)
          obtain ⟨wb, hwo⟩ : ∃ X, X = wa.drew.setRow g (cur.toList.take (k * 5) ++ sqCells ⟨p, .slice ad p.data.length cd, .slice ak p.keep.length cn⟩ ++ cur.toList.drop (k * 5 + 5)).toArray := ⟨_, rfl⟩
          rw [← hwo] at hA
          have E25a := hide hA
          have s2 : wb.cell? ⟨ib, 3, none⟩ = some (.slice (some ⟨g, 0, none⟩) l.length cc) ∧ wb.cell? ⟨W.heap.size, 3, none⟩ = some (.slice (some ⟨b, oo, none⟩) l.length c) ∧ Below W.heap.size W wb := ⟨E25a.out.cells.2.1, E25a.out.cells.1, E25a.out.low⟩
          refine wp_region_held_drew (S := fun X => X.cell? ⟨ib, 3, none⟩ = some (.slice (some ⟨g, 0, none⟩) l.length cc) ∧ X.cell? ⟨W.heap.size, 3, none⟩ = some (.slice (some ⟨b, oo, none⟩) l.length c) ∧ Below W.heap.size W X) (by kernel_rfl) sq (fun _ => ?_)
          refine H_take (i := 0) (v := .pointer (some ⟨ib, 3, none⟩)) (some 144) rfl rfl (by kernel_rfl) (by kernel_rfl) (by kernel_rfl) (fun _ _ _ h => h) rfl (fun X hX => ?_) sq ?_
          · simp [go_sem]
          simp only [Act.put, List.setIfInBounds_toArray, List.set_cons_zero, List.set_cons_succ]
          refine H_take (i := 1) (v := .slice (some ⟨g, 0, none⟩) l.length cc) (some 145) rfl rfl (by kernel_rfl) (by kernel_rfl) (by kernel_rfl) (fun _ _ _ h => h) rfl (fun X hX => ?_) sq ?_
          · exact run_load1 rfl rfl Tryd.isAgg29 hX.1
          simp only [Act.put, List.setIfInBounds_toArray, List.set_cons_zero, List.set_cons_succ]
          refine H_take (i := 2) (v := .int .i64 (k : Int)) (some 146) rfl rfl (by kernel_rfl) (by kernel_rfl) (by kernel_rfl) (fun _ _ _ h => h) rfl (fun X hX => ?_) sq ?_
          · simp [go_sem]
          simp only [Act.put, List.setIfInBounds_toArray, List.set_cons_zero, List.set_cons_succ]
          refine H_take (i := 3) (v := .pointer (some ⟨W.heap.size, 3, none⟩)) (some 147) rfl rfl (by kernel_rfl) (by kernel_rfl) (by kernel_rfl) (fun _ _ _ h => h) rfl (fun X hX => ?_) sq ?_
          · simp [go_sem]
          simp only [Act.put, List.setIfInBounds_toArray, List.set_cons_zero, List.set_cons_succ]
          refine H_take (i := 4) (v := .slice (some ⟨b, oo, none⟩) l.length c) (some 148) rfl rfl (by kernel_rfl) (by kernel_rfl) (by kernel_rfl) (fun _ _ _ h => h) rfl (fun X hX => ?_) sq ?_
          · exact run_load1 rfl rfl Tryd.isAgg29 hX.2.1
          simp only [Act.put, List.setIfInBounds_toArray, List.set_cons_zero, List.set_cons_succ]
          refine H_take (i := 5) (v := .int .i64 (l.length : Int)) (some 149) rfl rfl (by kernel_rfl) (by kernel_rfl) (by kernel_rfl) (fun _ _ _ h => h) rfl (fun X hX => ?_) sq ?_
          · simp [go_sem]
          simp only [Act.put, List.setIfInBounds_toArray, List.set_cons_zero, List.set_cons_succ]
          refine H_take (i := 6) (v := .int .i64 ((l.length : Int) - 1)) (some 150) rfl rfl (by kernel_rfl) (by kernel_rfl) (by kernel_rfl) (fun _ _ _ h => h) rfl (fun X hX => ?_) sq ?_
          · simp [go_sem, wm1]
          simp only [Act.put, List.setIfInBounds_toArray, List.set_cons_zero, List.set_cons_succ]
          refine H_take (i := 7) (v := .int .i64 (k : Int)) (some 151) rfl rfl (by kernel_rfl) (by kernel_rfl) (by kernel_rfl) (fun _ _ _ h => h) rfl (fun X hX => ?_) sq ?_
          · simp [go_sem]
          simp only [Act.put, List.setIfInBounds_toArray, List.set_cons_zero, List.set_cons_succ]
          refine H_take (i := 8) (v := .int .i64 (m : Int)) (some 152) rfl rfl (by kernel_rfl) (by kernel_rfl) (by kernel_rfl) (fun _ _ _ h => h) rfl (fun X hX => ?_) sq ?_
          · simp [go_sem, wm2]
          simp only [Act.put, List.setIfInBounds_toArray, List.set_cons_zero, List.set_cons_succ]
          refine H_take (i := 9) (v := .pointer (some ⟨b, oo + m * 5, none⟩)) (some 153) rfl rfl (by kernel_rfl) (by kernel_rfl) (by kernel_rfl) (fun _ _ _ h => h) rfl (fun X hX => ?_) sq ?_
          · simp [go_sem, tlm]
          simp only [Act.put, List.setIfInBounds_toArray, List.set_cons_zero, List.set_cons_succ]
          refine H_take (i := 10) (v := .agg #[.int .i64 p.kind, .int .i64 p.conn, .slice ad p.data.length cd, .int .i64 p.brk, .slice ak p.keep.length cn]) (some 154) rfl rfl (by kernel_rfl) (by kernel_rfl) (by kernel_rfl) (fun _ _ _ h => h) rfl (fun X hX => ?_) sq ?_
          · obtain ⟨c0, c1, c2, c3, c4⟩ := HC.out X hX.2.2; simp [go_sem, c0, c1, c2, c3, c4]
          simp only [Act.put, List.setIfInBounds_toArray, List.set_cons_zero, List.set_cons_succ]
          refine H_take (i := 11) (v := .pointer (some ⟨g, k * 5, none⟩)) (some 155) rfl rfl (by kernel_rfl) (by kernel_rfl) (by kernel_rfl) (fun _ _ _ h => h) rfl (fun X hX => ?_) sq ?_
          · simp [go_sem, tlt]
          simp only [Act.put, List.setIfInBounds_toArray, List.set_cons_zero, List.set_cons_succ]
          refine H_skip (i := 12) (w' := wb) rfl rfl (by kernel_rfl) rfl (by rw [hwo]; exact run_exec_storeAt rfl g (k * 5) #[.int .i64 p.kind, .int .i64 p.conn, .slice ad p.data.length cd, .int .i64 p.brk, .slice ak p.keep.length cn] rfl rfl 44 cur hc step_size hs step_one) s2 ?_
          refine wpAnyH_done (by kernel_rfl) ?_ _
          clear sq s2 hwo hA hc hs Hd
          rw [mixed_set L o k _ (by omega) HLK.out, mixed_set L o9 k _ (by omega) HLK.out] at E25a
          have E25 := E25a
          go_wp2_with fail
          go_roundg (l.length - (k + 1))
          case measure => omega
          case rel => exact ⟨k + 1, by go_num, Nat.le_refl _, hlt, E25⟩
        · have tlt : ¬ (k : Int) < (l.length : Int) := by omega
          have e1 : L.take k ++ o.drop k = L := by rw [List.take_of_length_le (by omega), List.drop_of_length_le (by omega), List.append_nil]
          have e2 : L.take k ++ o9.drop k = L := by rw [List.take_of_length_le (by omega), List.drop_of_length_le (by omega), List.append_nil]
          rw [e1, e2] at HD
          have HSI : Hid (∀ X, Below W.heap.size W X → ∀ y ∈ L, StepIn X y.p y.dv y.kv) := fun X hX y hy => (HP.out.2 y (by rw [HL2.out] at hy; exact List.mem_reverse.1 hy)).later hX
          obtain ⟨Ty, Ey, hTY⟩ : ∃ Ty Ey, printR j s q (L.map (·.p)) = (Ty, Ey) := ⟨_, _, rfl⟩
          have HTY := hide hTY
          obtain ⟨n0, n1, n2, _⟩ := HD.out.boxes
          have CP := hide (print_any19 wr j s q _ L (HT.out.below HD.out.low) (by have := HD.out.low.size; omega) (play_own HD.out.inr hLl.symm (by rw [hLl]; unfold maxLen; omega) (HSI.out wr HD.out.low)))
          clear e1 e2 hTY
          go_wp2_with fail
          refine CP.out.mono ?_
          rintro e w11 ⟨b11, he⟩
          rw [HTY.out] at he
          simp only [] at he
          subst he
          have D11 := hide (HD.out.later b11)
          clear b11 CP k3 k7 kt n0 n1 n2
          obtain ⟨k3, k7, kt⟩ := D11.out.cells
          obtain ⟨_, _, _, n0, n1, n2⟩ := D11.out.boxes
          have hpt : PlayIn w11 (.slice ta l.length tc) L := by
            refine ⟨⟨ta, tc, by rw [hLl], by rw [hLl]; unfold maxLen; omega, ?_⟩, HSI.out w11 D11.out.low⟩
            by_cases h0 : l.length = 0
            · exact .inl (List.eq_nil_of_length_eq_zero (by omega))
            · obtain ⟨gt, et⟩ := D11.out.form (by omega)
              have htr := D11.out.tr
              rw [et] at htr
              have hp2 := play_own (e := []) (by rw [List.append_nil]; exact htr) hLl.symm (by rw [hLl]; unfold maxLen; omega) (HSI.out w11 D11.out.low)
              obtain ⟨⟨a', c', ee, _, hh⟩, _⟩ := hp2
              simp only [Value.slice.injEq] at ee
              obtain ⟨rfl, _, rfl⟩ := ee
              rw [et]
              exact hh
          have CR := hide (refPrint_any19 w11 j s q _ L hpt)
          clear hpt
          go_wp2_with fail
          refine CR.out.mono ?_
          rintro e w12 ⟨b12, he⟩
          rw [HTY.out] at he
          simp only [] at he
          subst he
          have HF := hide (D11.out.low.trans (b12.mono D11.out.low.size))
          clear b12 CR
          go_wp2_with fail
          go_ret
          exact ⟨rfl, HF.out⟩
end Go.Proofs.YtpfbfkjmdlogcaaDoor.scriptWrites
