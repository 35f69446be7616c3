/-
  The walk of the reader's step.
-/
import Derived.Test.YteaccpolmmkclaaDoorHeaA
namespace Go.Proofs.YteaccpolmmkclaaDoor
open Go.RowKit

def RStepPost (W : World) (rb : Nat) (j s q : Int) (sv : Value) (hd : Bool) (n : Int) (B : Nat) (l : List Sq) (r : Except Int StepP) (e : Ending) (w' : World) : Prop :=
  Kept (fun i => i = rb ∨ sv.ownBlock = some i) W w' ∧ match r with | .ok p => e = .returned (.tuple #[]) ∧ ∃ sv' dv kv, RdBox w' rb j s q sv' hd n ∧ StepsAt w' B sv' (l ++ [⟨p, dv, kv⟩]) ∧ (sv'.ownBlock = sv.ownBlock ∨ ∀ g, sv'.ownBlock = some g → W.heap.size ≤ g) ∧ (∀ g, dv.ownBlock = some g → W.heap.size ≤ g) ∧ (∀ g, kv.ownBlock = some g → W.heap.size ≤ g) | .error c => e = pan c ∧ RdBox w' rb j s q sv hd n
theorem kind_range (x : Tx) : 0 ≤ kindP x ∧ kindP x ≤ 7 := by
  unfold kindP
  repeat' split
  all_goals omega
theorem rd_later {W w' : World} {rb : Nat} {j s q : Int} {sv : Value} {hd : Bool} {n : Int} (h : RdBox W rb j s q sv hd n) (b0 : Below W.heap.size W w') : RdBox w' rb j s q sv hd n := (b0.block rb h.cells.2.2.2.2.2.2.2).trans h

set_option maxHeartbeats 2000000 in
set_option maxRecDepth 1000000 in
theorem rstep_word (W : World) (rb : Nat) (x : ByteArray) (v : Value) (ss : List ByteArray) (j s q : Int) (sv : Value) (hd : Bool) (n : Int) (B : Nat) (l : List Sq) (T : Tabs W) (hw : WordsV W v ss) (hr : RdBox W rb j s q sv hd n) (hk : kindP x.data.toList = 0) :
    Calls Tryd.prog 32 #[.pointer (some ⟨rb, 0, none⟩), .string x, v] W (RStepPost W rb j s q sv hd n B l (.error 191)) := by
  obtain ⟨av, cv, rfl, _⟩ := hw
  obtain ⟨ml, hml⟩ : ∃ ml, ss.length = ml := ⟨_, rfl⟩
  rw [hml]
  clear hml
  have B0 : Below W.heap.size W (W.alloc (.cells #[.slice av ml cv] 72)) := (Below.refl _ W).alloc (Nat.le_refl _) _
  have CK := hide (kindOf_any x _ (T.below B0))
  rw [hk] at CK
  have HR := hide hr
  have HB0 := hide B0
  clear T hr hk B0
  go_enter Tryd.func32, Tryd.ntmps32
  go_wp2_with (go_at_call 49
               refine CK.out.mono ?_
               rintro e w1 ⟨rfl, b1⟩
               have HB1 := hide (HB0.out.trans (b1.mono HB0.out.size))
               clear b1)
  exact ⟨rfl, Kept.ofBelow HB1.out, rfl, rd_later HR.out HB1.out⟩
set_option maxHeartbeats 2000000 in
set_option maxRecDepth 1000000 in
theorem rstep_many (W : World) (rb : Nat) (x : ByteArray) (v : Value) (ss : List ByteArray) (j s q : Int) (sv : Value) (hd : Bool) (n : Int) (B : Nat) (l : List Sq) (T : Tabs W) (hw : WordsV W v ss) (hr : RdBox W rb j s q sv hd n) (hst : StepsAt W B sv l) (hk : kindP x.data.toList ≠ 0) (hl : l.length = 4000) :
    Calls Tryd.prog 32 #[.pointer (some ⟨rb, 0, none⟩), .string x, v] W (RStepPost W rb j s q sv hd n B l (.error 194)) := by
  obtain ⟨av, cv, rfl, _⟩ := hw
  obtain ⟨ml, hml⟩ : ∃ ml, ss.length = ml := ⟨_, rfl⟩
  rw [hml]
  obtain ⟨as9, cs9, rfl⟩ := hst.form
  rw [hl] at hr ⊢
  have B0 : Below W.heap.size W (W.alloc (.cells #[.slice av ml cv] 72)) := (Below.refl _ W).alloc (Nat.le_refl _) _
  have CK := hide (kindOf_any x _ (T.below B0))
  obtain ⟨kk, hkk⟩ : ∃ kk, kindP x.data.toList = kk := ⟨_, rfl⟩
  rw [hkk] at CK hk
  have hkb : (kk == 0) = false := by simpa using hk
  have HR := hide hr
  have HB0 := hide B0
  clear T hr hk B0 hkk hl hst hml
  go_enter Tryd.func32, Tryd.ntmps32
  go_wp2_with (go_at_call 49
               refine CK.out.mono ?_
               rintro e w1 ⟨rfl, b1⟩
               have b2 := HB0.out.trans (b1.mono HB0.out.size)
               have HB1 := hide b2
               have HR1 := rd_later HR.out b2
               obtain ⟨_, _, _, y3, _, _, _, yl⟩ := HR1.cells
               clear b1 b2 HR1)
  exact ⟨rfl, Kept.ofBelow HB1.out, rfl, rd_later HR.out HB1.out⟩
set_option maxHeartbeats 4000000 in
set_option maxRecDepth 1000000 in
theorem rstep_bad (W : World) (rb : Nat) (x : ByteArray) (v : Value) (ss : List ByteArray) (j s q : Int) (sv : Value) (hd : Bool) (n : Int) (B : Nat) (l : List Sq) (T : Tabs W) (h6 : 6 ≤ W.heap.size) (hw : WordsV W v ss) (hr : RdBox W rb j s q sv hd n) (hst : StepsAt W B sv l) (hk : kindP x.data.toList ≠ 0) (hl : l.length < 4000) (hsl : ss.length ≤ 1048576) (hss : ∀ y ∈ ss, y.size ≤ 1073741823) (hn : stepK (kindP x.data.toList) (tl ss) = none) :
    Calls Tryd.prog 32 #[.pointer (some ⟨rb, 0, none⟩), .string x, v] W (RStepPost W rb j s q sv hd n B l (.error 192)) := by
  have HW0 := hide hw.box
  obtain ⟨av, cv, rfl, _⟩ := hw
  obtain ⟨as9, cs9, rfl⟩ := hst.form
  have HST := hide hst
  obtain ⟨ml, hml⟩ : ∃ ml, ss.length = ml := ⟨_, rfl⟩
  rw [hml] at HW0 ⊢
  obtain ⟨nl, hnl⟩ : ∃ nl, l.length = nl := ⟨_, rfl⟩
  rw [hnl] at hr HST hl ⊢
  have HNL := hide hnl
  have hnb : ((nl : Int) == 4000) = false := by rw [beq_eq_false_iff_ne]; omega
  generalize hw0 : W.alloc (.cells #[.slice av ml cv] 72) = w0 at HW0
  have B0 : Below W.heap.size W w0 := by rw [← hw0]; exact (Below.refl _ W).alloc (Nat.le_refl _) _
  have CK := hide (kindOf_any x w0 (T.below B0))
  obtain ⟨kk, hkk⟩ : ∃ kk, kindP x.data.toList = kk := ⟨_, rfl⟩
  have hkr := kind_range x.data.toList
  rw [hkk] at CK hk hkr hn
  have hkb : (kk == 0) = false := by simpa using hk
  have HR := hide hr
  have HB0 := hide B0
  obtain ⟨wb, hwb⟩ : ∃ wb, W.heap.size = wb := ⟨_, rfl⟩
  rw [hwb] at HW0
  have HWB := hide hwb
  have HT := hide T
  have hz0 := B0.size
  have CS0 : Hid (∀ X : World, Below w0.heap.size w0 X → Calls Tryd.prog 50 #[.pointer (some ⟨wb, 0, none⟩), .int .i64 kk] X (StepOut X wb kk (tl ss))) := fun X hX => step_all X wb ss kk (by omega) ((HT.out.below HB0.out).below hX) (by omega) (HW0.out.later hX) hsl hss
  have hrl := hr.cells.2.2.2.2.2.2.2
  clear T hr hk B0 hkk hst hml hnl
  go_enter Tryd.func32, Tryd.ntmps32
  go_wp2_with fail
  refine CK.out.mono ?_
  rintro e w1 ⟨rfl, b1⟩
  have b2 := HB0.out.trans (b1.mono HB0.out.size)
  have HB1 := hide b1
  have HB2 := hide b2
  have HR1 := rd_later HR.out b2
  obtain ⟨_, _, _, y3, _, _, yf, yl⟩ := HR1.cells
  have y3f := yf 3
  have RD1 := hide HR1
  clear b1 b2 HR1 yf
  go_upto_region 6 with fail
  have sq : w1.drew.cell? ⟨rb, 3, none⟩ = some (.slice as9 nl cs9) := y3
  refine wp_region_held_drew (S := fun X => X.cell? ⟨rb, 3, none⟩ = some (.slice as9 nl cs9)) (by kernel_rfl) sq (fun _ => ?_)
  refine H_take (i := 0) (v := .pointer (some ⟨rb, 0, none⟩)) (some 20) rfl rfl (by kernel_rfl) (by kernel_rfl) (by kernel_rfl) (fun _ _ _ h => h) rfl (fun X hX => ?_) sq ?_
  · simp [go_sem]
  simp only [Act.put, List.setIfInBounds_toArray, List.set_cons_zero, List.set_cons_succ]
  refine H_take (i := 1) (v := .pointer (some ⟨rb, 0, none⟩)) (some 21) rfl rfl (by kernel_rfl) (by kernel_rfl) (by kernel_rfl) (fun _ _ _ h => h) rfl (fun X hX => ?_) sq ?_
  · simp [go_sem]
  simp only [Act.put, List.setIfInBounds_toArray, List.set_cons_zero, List.set_cons_succ]
  refine H_take (i := 2) (v := .pointer (some ⟨rb, 0, none⟩)) (some 22) rfl rfl (by kernel_rfl) (by kernel_rfl) (by kernel_rfl) (fun _ _ _ h => h) rfl (fun X hX => ?_) sq ?_
  · simp [go_sem]
  simp only [Act.put, List.setIfInBounds_toArray, List.set_cons_zero, List.set_cons_succ]
  refine H_take (i := 3) (v := .pointer (some ⟨rb, 0, none⟩)) (some 23) rfl rfl (by kernel_rfl) (by kernel_rfl) (by kernel_rfl) (fun _ _ _ h => h) rfl (fun X hX => ?_) sq ?_
  · simp [go_sem]
  simp only [Act.put, List.setIfInBounds_toArray, List.set_cons_zero, List.set_cons_succ]
  refine H_take (i := 4) (v := .pointer (some ⟨rb, 3, none⟩)) (some 24) rfl rfl (by kernel_rfl) (by kernel_rfl) (by kernel_rfl) (fun _ _ _ h => h) rfl (fun X hX => ?_) sq ?_
  · simp [go_sem]
  simp only [Act.put, List.setIfInBounds_toArray, List.set_cons_zero, List.set_cons_succ]
  refine H_take (i := 5) (v := .slice as9 nl cs9) (some 25) rfl rfl (by kernel_rfl) (by kernel_rfl) (by kernel_rfl) (fun _ _ _ h => h) rfl (fun X hX => ?_) sq ?_
  · exact run_load1 rfl rfl Tryd.isAgg29 hX
  simp only [Act.put, List.setIfInBounds_toArray, List.set_cons_zero, List.set_cons_succ]
  refine H_take (i := 6) (v := .int .i64 kk) (some 26) rfl rfl (by kernel_rfl) (by kernel_rfl) (by kernel_rfl) (fun _ _ _ h => h) rfl (fun X hX => ?_) sq ?_
  · simp [go_sem]
  simp only [Act.put, List.setIfInBounds_toArray, List.set_cons_zero, List.set_cons_succ]
  refine H_pan (i := 7) (f := 50) (args := #[.pointer (some ⟨wb, 0, none⟩), .int .i64 kk]) rfl (by kernel_rfl) rfl (by simp [go_sem]) ((CS0.out _ (HB1.out.drew)).mono ?_)
  rintro e w5 ⟨k5, h5⟩
  rcases h5 with ⟨p, _, _, hp, _⟩ | ⟨_, rfl⟩
  · rw [hn] at hp
    cases hp
  refine ⟨_, rfl, rfl, ?_, rfl, ?_⟩
  · exact (Kept.ofBelow (HB2.out.drew)).step k5 (fun i hi e => by omega)
  · exact RdBox.kept (show RdBox w1.drew rb j s q _ hd n from RD1.out) k5 (by omega)
theorem st_call {W w1 w5 : World} {B wb : Nat} {sv : Value} {l : List Sq} (h1 : StepsAt w1 B sv l) (h : StepsAt W B sv l) (hwb : W.heap.size = wb) (hk : Kept (fun i => i = wb) w1 w5) : StepsAt w5 B sv l :=
  h1.kept hk (fun g hg e => by have := (h.1.lt g hg).2; omega) (fun q hq => ⟨fun g hg e => by have := ((h.2 q hq).1.lt g hg).2; omega, fun g hg e => by have := ((h.2 q hq).2.lt g hg).2; omega⟩)
theorem row5_form {w : World} {B e sz n : Nat} {v : Value} {xs : List Value} (h : w.ownsRow B e sz v n xs) : ∃ a c, v = .slice a n c := by
  rcases h.2 with ⟨rfl, h0⟩ | ⟨g, cap, cur, rfl, _⟩
  · exact ⟨none, 0, by rw [h0]⟩
  · exact ⟨_, _, rfl⟩
theorem rd_not {w : World} {rb : Nat} {j s q : Int} {sv v : Value} {hd : Bool} {n : Int} {B m : Nat} {xs : List Value} (h : RdBox w rb j s q sv hd n) (ho : w.ownsRow B 40 5 v m xs) : v.ownBlock ≠ some rb := by
  intro e
  rcases ho.2 with ⟨rfl, _⟩ | ⟨g, cap, cur, rfl, _, hg, _⟩
  · cases e
  · simp only [Value.ownBlock, Option.some.injEq] at e
    unfold RdBox at h
    rw [e, h] at hg
    simp at hg
theorem rd_grown {w5 w6 : World} {rb : Nat} {j s q : Int} {sv : Value} {hd : Bool} {n : Int} {B : Nat} {l : List Sq} (h : RdBox w5 rb j s q sv hd n) (st : StepsAt w5 B sv l) (o : Obj) (hg : (w5.alloc o).grownBy w6 sv.ownBlock) : RdBox w6 rb j s q sv hd n := by
  have hl := h.cells.2.2.2.2.2.2.2
  have e : (w5.alloc o).heap[rb]? = w5.heap[rb]? := heap_alloc_old w5 _ hl
  exact ((hg.block rb (by simp; omega) (fun e => rd_not h st.1 e.symm)).trans e).trans h
theorem own_alloc {w : World} {B e sz n : Nat} {v : Value} {xs : List Value} (h : w.ownsRow B e sz v n xs) (o : Obj) : (w.alloc o).ownsRow B e sz v n xs := World.ownsRow.alloc h o
theorem src_step (w : World) (p : StepP) (dv kv : Value) (k : Int) (hk : p.kind = k) : ∃ a, (some (⟨w.heap.size, 0, none⟩ : Addr)) = some a ∧ ∀ j u, (flatS [⟨p, dv, kv⟩])[j]? = some u → (w.alloc (.cells #[.int .i64 k, .int .i64 p.conn, dv, .int .i64 p.brk, kv] 40)).cell? (a.add j) = some u := by
  refine ⟨_, rfl, fun j u hj => ?_⟩
  have e : flatS [(⟨p, dv, kv⟩ : Sq)] = [.int .i64 p.kind, .int .i64 p.conn, dv, .int .i64 p.brk, kv] := rfl
  rw [e, hk] at hj
  have hb := heap_alloc_new w (.cells #[.int .i64 k, .int .i64 p.conn, dv, .int .i64 p.brk, kv] 40)
  have : (w.alloc (.cells #[.int .i64 k, .int .i64 p.conn, dv, .int .i64 p.brk, kv] 40)).cell? ⟨w.heap.size, j, none⟩ = some u := by
    simp only [World.cell?, hb]
    simpa using hj
  cases j with
  | zero => simpa [Addr.add] using this
  | succ j => simpa [Addr.add] using this
theorem row_of_type {w : World} {B e n : Nat} {v : Value} {xs : List Value} (h : w.ownsRow B e 1 v n xs) {g : Nat} (hg : v.ownBlock = some g) : ∃ cur, w.heap[g]? = some (.cells cur e (0, 0)) := by
  rcases h.2 with ⟨rfl, _⟩ | ⟨g', cap, cur, rfl, _, hc, _⟩
  · cases hg
  · cases hg
    exact ⟨cur, hc⟩
theorem row5_type {w : World} {B e n : Nat} {v : Value} {xs : List Value} (h : w.ownsRow B e 5 v n xs) {g : Nat} (hg : v.ownBlock = some g) : ∃ cur, w.heap[g]? = some (.cells cur e (0, 0)) := by
  rcases h.2 with ⟨rfl, _⟩ | ⟨g', cap, cur, rfl, _, hc, _⟩
  · cases hg
  · cases hg
    exact ⟨cur, hc⟩
theorem rstep_done {W w1 w5 w6 : World} {rb wb : Nat} {j s q : Int} {sv : Value} {hd : Bool} {n : Int} {B : Nat} {l : List Sq} {p : StepP} {dv kv v6 : Value} (b2 : Below W.heap.size W w1) (hwb : W.heap.size = wb) (k5 : Kept (fun i => i = wb) w1 w5) (hr : RdBox w6 rb j s q sv hd n) (st : StepsAt w5 B sv l) (o1 : Own w5 B dv p.data) (o2 : OwnI w5 B kv p.keep) (o : Obj)
    (ho : w6.ownsRow B 40 5 v6 (l ++ [(⟨p, dv, kv⟩ : Sq)]).length (flatS (l ++ [(⟨p, dv, kv⟩ : Sq)]))) (hg : (w5.alloc o).grownBy w6 sv.ownBlock) (hv : v6.ownBlock = sv.ownBlock ∨ v6.ownBlock = some (w5.alloc o).heap.size) (hn1 : ∀ g, dv.ownBlock = some g → w1.heap.size ≤ g) (hn2 : ∀ g, kv.ownBlock = some g → w1.heap.size ≤ g) :
    RStepPost W rb j s q sv hd n B l (.ok p) (.returned (.tuple #[])) (w6.setCell ⟨rb, 3, none⟩ v6) := by
  have kg : Kept (fun i => sv.ownBlock = some i) (w5.alloc o) w6 := Kept.ofGrown hg (fun g e => e)
  have ka : Kept (fun i => sv.ownBlock = some i) w5 w6 := (Kept.ofBelow ((Below.refl _ w5).alloc (Nat.le_refl _) o)).trans kg
  have ks : Kept (fun i => i = rb) w6 (w6.setCell ⟨rb, 3, none⟩ v6) := Kept.setCell _ _ _ _ _ rfl
  have nsv : ∀ g, sv.ownBlock = some g → ∃ cur, w5.heap[g]? = some (.cells cur 40 (0, 0)) := fun g e => row5_type st.1 e
  have n8 : ∀ (v : Value) (x : List UInt8), Own w5 B v x → ∀ g, v.ownBlock = some g → ¬ sv.ownBlock = some g := fun v x h g e e2 => by
    obtain ⟨c1, h1⟩ := row_of_type h e
    obtain ⟨c2, h2⟩ := nsv g e2
    rw [h1] at h2
    simp at h2
  have n64 : ∀ (v : Value) (x : List Int), OwnI w5 B v x → ∀ g, v.ownBlock = some g → ¬ sv.ownBlock = some g := fun v x h g e e2 => by
    obtain ⟨c1, h1⟩ := row_of_type h e
    obtain ⟨c2, h2⟩ := nsv g e2
    rw [h1] at h2
    simp at h2
  have r8 : ∀ (v : Value) (x : List UInt8), Own w6 B v x → ∀ g, v.ownBlock = some g → ¬ g = rb := fun v x h g e e2 => by
    obtain ⟨c1, h1⟩ := row_of_type h e
    have h2 := hr
    unfold RdBox at h2
    rw [e2, h2] at h1
    simp at h1
  have r64 : ∀ (v : Value) (x : List Int), OwnI w6 B v x → ∀ g, v.ownBlock = some g → ¬ g = rb := fun v x h g e e2 => by
    obtain ⟨c1, h1⟩ := row_of_type h e
    have h2 := hr
    unfold RdBox at h2
    rw [e2, h2] at h1
    simp at h1
  have nr6 := rd_not hr ho
  refine ⟨?_, rfl, v6, dv, kv, (set_cells hr 3 v6).1, ⟨⟨ho.1, ?_⟩, fun x hx => ?_⟩, ?_, fun g hg => Nat.le_trans b2.size (hn1 g hg), fun g hg => Nat.le_trans b2.size (hn2 g hg)⟩
  · refine (((Kept.ofBelow b2).step k5 (fun i hi e => by omega)).trans (ka.mono (fun i _ e => .inr e))).trans (ks.mono (fun i _ e => .inl e))
  · rcases ho.2 with h0 | ⟨g, cap, cur, rfl, hB, hgg, rest⟩
    · exact .inl h0
    · exact .inr ⟨g, cap, cur, rfl, hB, (ks.block g (Array.getElem?_eq_some_iff.1 hgg).1 (fun e => nr6 (congrArg some e))).trans hgg, rest⟩
  · have both : Own w5 B x.dv x.p.data ∧ OwnI w5 B x.kv x.p.keep := by
      rcases List.mem_append.1 hx with hx | hx
      · exact st.2 x hx
      · have hx2 := List.mem_singleton.1 hx
        subst hx2
        exact ⟨o1, o2⟩
    have s1 : Own w6 B x.dv x.p.data := Kept.own ka both.1 (n8 _ _ both.1)
    have s2 : OwnI w6 B x.kv x.p.keep := Kept.own ka both.2 (n64 _ _ both.2)
    exact ⟨Kept.own ks s1 (r8 _ _ s1), Kept.own ks s2 (r64 _ _ s2)⟩
  · rcases hv with e | e
    · exact .inl e
    · refine .inr (fun g hg => ?_)
      rw [e] at hg
      simp at hg
      have h1 := b2.size
      have h2 := k5.size
      omega
set_option maxHeartbeats 4000000 in
set_option maxRecDepth 1000000 in
theorem rstep_ok (W : World) (rb : Nat) (x : ByteArray) (v : Value) (ss : List ByteArray) (j s q : Int) (sv : Value) (hd : Bool) (n : Int) (B : Nat) (l : List Sq) (T : Tabs W) (h6 : 6 ≤ W.heap.size) (hw : WordsV W v ss) (hr : RdBox W rb j s q sv hd n) (hst : StepsAt W B sv l) (hB : B ≤ W.heap.size) (hk : kindP x.data.toList ≠ 0) (hl : l.length < 4000) (hsl : ss.length ≤ 1048576) (hss : ∀ y ∈ ss, y.size ≤ 1073741823) (p : StepP) (hn : stepK (kindP x.data.toList) (tl ss) = some p) :
    Calls Tryd.prog 32 #[.pointer (some ⟨rb, 0, none⟩), .string x, v] W (RStepPost W rb j s q sv hd n B l (.ok p)) := by
  have HW0 := hide hw.box
  obtain ⟨av, cv, rfl, _⟩ := hw
  obtain ⟨as9, cs9, rfl⟩ := hst.form
  have HST := hide hst
  obtain ⟨ml, hml⟩ : ∃ ml, ss.length = ml := ⟨_, rfl⟩
  rw [hml] at HW0 ⊢
  obtain ⟨nl, hnl⟩ : ∃ nl, l.length = nl := ⟨_, rfl⟩
  rw [hnl] at hr HST hl ⊢
  have HNL := hide hnl
  have hnb : ((nl : Int) == 4000) = false := by rw [beq_eq_false_iff_ne]; omega
  generalize hw0 : W.alloc (.cells #[.slice av ml cv] 72) = w0 at HW0
  have B0 : Below W.heap.size W w0 := by rw [← hw0]; exact (Below.refl _ W).alloc (Nat.le_refl _) _
  have CK := hide (kindOf_any x w0 (T.below B0))
  obtain ⟨kk, hkk⟩ : ∃ kk, kindP x.data.toList = kk := ⟨_, rfl⟩
  have hkr := kind_range x.data.toList
  rw [hkk] at CK hk hkr hn
  have hkb : (kk == 0) = false := by simpa using hk
  have HR := hide hr
  have HB0 := hide B0
  obtain ⟨wb, hwb⟩ : ∃ wb, W.heap.size = wb := ⟨_, rfl⟩
  rw [hwb] at HW0
  have HWB := hide hwb
  have HT := hide T
  have hz0 := B0.size
  have CS0 : Hid (∀ X : World, Below w0.heap.size w0 X → Calls Tryd.prog 50 #[.pointer (some ⟨wb, 0, none⟩), .int .i64 kk] X (StepOut X wb kk (tl ss))) := fun X hX => step_all X wb ss kk (by omega) ((HT.out.below HB0.out).below hX) (by omega) (HW0.out.later hX) hsl hss
  have hrl := hr.cells.2.2.2.2.2.2.2
  clear T hr hk B0 hkk hst hml hnl
  go_enter Tryd.func32, Tryd.ntmps32
  go_wp2_with fail
  refine CK.out.mono ?_
  rintro e w1 ⟨rfl, b1⟩
  have b2 := HB0.out.trans (b1.mono HB0.out.size)
  have HB1 := hide b1
  have HB2 := hide b2
  have HR1 := rd_later HR.out b2
  obtain ⟨_, _, _, y3, _, _, yf, yl⟩ := HR1.cells
  have y3f := yf 3
  have RD1 := hide HR1
  clear b1 b2 HR1 yf
  go_upto_region 6 with fail
  have ST1 := hide (HST.out.kept (P := fun _ => False) (Kept.ofBelow HB2.out) (fun _ _ h => h) (fun _ _ => ⟨fun _ _ h => h, fun _ _ h => h⟩))
  have hz2 := HB2.out.size
  have hnl2 : nl < 4000 := hl
  go_region_law (first
    | (go_simp
       go_at_call 50
       refine (CS0.out _ (by first | exact HB1.out.drew | exact HB1.out)).mono ?_
       rintro e w5 ⟨k5, h5⟩
       rcases h5 with ⟨p', dv, kv, hp, hpk, rfl, o1, o2⟩ | ⟨hp, _⟩
       rotate_left
       · exact absurd (hn.symm.trans hp) (by simp)
       obtain rfl : p' = p := by have := hn.symm.trans hp; simp at this; exact this.symm
       have R5 := RdBox.kept (show RdBox w1.drew rb j s q _ hd n from RD1.out) k5 (by omega)
       obtain ⟨_, _, _, y35, _, _, yf5, yl5⟩ := R5.cells
       have y3f5 := yf5 3
       have K5 : Hid (Kept (fun i => i = wb) w1 w5) := ⟨k5.os, k5.tape, k5.output, k5.size, k5.block⟩
       have HR5 := hide R5
       have ST5 := hide (st_call ST1.out HST.out HWB.out K5.out)
       have O5 : Hid (Own w5 B dv p'.data ∧ OwnI w5 B kv p'.keep ∧ p'.kind = kk ∧ (∀ g, dv.ownBlock = some g → w1.heap.size ≤ g) ∧ ∀ g, kv.ownBlock = some g → w1.heap.size ≤ g) := ⟨o1.mono (show B ≤ w1.heap.size by omega), o2.mono (show B ≤ w1.heap.size by omega), hpk, fun g hg => (o1.lt g hg).1, fun g hg => (o2.lt g hg).1⟩
       obtain ⟨da, dc, hdv, _⟩ := o1.shape
       obtain ⟨ka, kc, hkv, _⟩ := o2.shape
       subst hdv hkv
       have hz5 := k5.size
       clear k5 o1 o2 hp hpk R5 yf5)
    | (refine step_steps rfl (.tmp 25) (.tmp 28) rfl _ B (.slice as9 nl cs9) l (by first | rfl | simp [Act.eval, Act.put]) (own_alloc ST5.out.1 _) (some ⟨w5.heap.size, 0, none⟩) 1 ⟨p', .slice da p'.data.length dc, .slice ka p'.keep.length kc⟩ (by first | rfl | simp [Act.eval, Act.put]) (src_step w5 p' _ _ kk O5.out.2.2.1) (by intro u hu; simp [flatS, sqCells] at hu; rcases hu with rfl | rfl | rfl | rfl | rfl <;> rfl) (by have := HNL.out; omega) (by rw [World.size_alloc]; have h9 : w1.heap.size ≤ w5.heap.size := hz5; omega) ?_
       intro v6 w6 ho6 hg6 hv6
       obtain ⟨va6, vc6, hv6e⟩ := row5_form ho6
       rw [List.length_append, HNL.out] at hv6e
       simp only [List.length_cons, List.length_nil, Nat.zero_add] at hv6e
       subst hv6e
       have R6 := rd_grown HR5.out ST5.out _ hg6
       obtain ⟨_, _, _, y36, _, _, yf6, yl6⟩ := R6.cells
       have y3f6 := yf6 3
       have HR6 := hide R6
       have HO6 := hide (And.intro ho6 (And.intro hg6 hv6))
       clear ho6 hg6 hv6 R6 yf6))
  all_goals (
    go_wp2_with fail
    go_end0
    exact rstep_done HB2.out HWB.out K5.out HR6.out ST5.out O5.out.1 O5.out.2.1 _ HO6.out.1 HO6.out.2.1 HO6.out.2.2 O5.out.2.2.2.1 O5.out.2.2.2.2)
end Go.Proofs.YteaccpolmmkclaaDoor
