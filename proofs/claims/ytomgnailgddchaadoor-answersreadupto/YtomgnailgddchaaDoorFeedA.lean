/-
  The walk of Feed.
-/
import Derived.Test.YtomgnailgddchaaDoorRdr
import Derived.Test.YtomgnailgddchaaDoorJC
import Derived.Test.YtomgnailgddchaaDoorJO
import Derived.Deep.CutRange
namespace Go.Proofs.YtomgnailgddchaaDoor
open Go.RowKit Go.Sort


/-- A reader's blocks. -/
def Mine (rb : Nat) (v : Value) (k : Nat) : Prop := k = rb ∨ v.ownBlock = some k
/-- A reader stands in memory as it should when A came and g bytes of it are told. -/
def RdAt (w : World) (rb : Nat) (v : Value) (A : List UInt8) (g : Nat) : Prop :=
  ∃ s : Rd, RdBox w rb v s.gone s.whole s.look s.spoilt ∧ Own w 0 v s.came ∧ Inv A g s ∧ s.whole ≤ s.look ∧ s.look ≤ A.length + 4294967295 ∧ s.came.length ≤ A.length ∧ ∀ k, Mine rb v k → 5 ≤ k
def Went (w : World) (rb : Nat) (v : Value) (A : List UInt8) (g : Nat) (w' : World) : Prop := ∃ v', RdAt w' rb v' A g ∧ Kept (Mine rb v) w w' ∧ ∀ k, Mine rb v' k → Mine rb v k ∨ w.heap.size ≤ k

theorem RdBox.alloc {w : World} {rb : Nat} {v : Value} {g wh lk sp : Nat} (h : RdBox w rb v g wh lk sp) (o : Obj) : RdBox (w.alloc o) rb v g wh lk sp := alloc_heap h
theorem Own.alloc {w : World} {B : Nat} {v : Value} {l : List UInt8} (h : Own w B v l) (o : Obj) : Own (w.alloc o) B v l := h.below ((Below.refl _ w).alloc (Nat.le_refl _) o)
theorem Kept.alloc {P : Nat → Prop} {w w' : World} (h : Kept P w w') (o : Obj) : Kept P w (w'.alloc o) := h.trans (Kept.ofBelow ((Below.refl _ w').alloc (Nat.le_refl _) o))

set_option maxHeartbeats 2000000 in
set_option maxRecDepth 1000000 in
theorem feed_spoilt (w : World) (rb : Nat) (v : Value) (g wh lk sp : Nat) (a : Option Addr) (n c : Nat) (h : RdBox w rb v g wh lk sp) (hs : 0 < sp) :
    Calls Tryd.prog 17 #[.pointer (some ⟨rb, 0, none⟩), .slice a n c] w fun x w' => x = .returned (.tuple #[]) ∧ w' = w := by
  obtain ⟨k0, k1, k2, k3, k4⟩ := h.cell
  have hlt := h.lt
  have hs2 : (0 : Int) < (sp : Int) := by omega
  clear h
  go_enter Tryd.func17, Tryd.ntmps17
  go_wp2_with fail
  exact bodyPost_ret (results_none rfl _ _ _) rfl ⟨rfl, rfl⟩

theorem feedStart {w w1 : World} {rb : Nat} {v v' : Value} {g wh lk sp : Nat} {l m : List UInt8} (h : RdBox w rb v g wh lk sp) (ho : Own w 0 v l) (h5 : ∀ k, Mine rb v k → 5 ≤ k) (o1 : Own w1 0 v' (l ++ m)) (gr : w.grownBy w1 v.ownBlock) (hat : v'.ownBlock = v.ownBlock ∨ v'.ownBlock = some w.heap.size) :
    RdBox w1 rb v g wh lk sp ∧ RdBox (w1.setCell ⟨rb, 0, none⟩ v') rb v' g wh lk sp ∧ Own (w1.setCell ⟨rb, 0, none⟩ v') 0 v' (l ++ m) ∧ Kept (Mine rb v) w (w1.setCell ⟨rb, 0, none⟩ v') ∧ (∀ k, Mine rb v' k → Mine rb v k ∨ w.heap.size ≤ k) ∧ (∀ k, Mine rb v' k → 5 ≤ k) := by
  have K1 : Kept (fun k => v.ownBlock = some k) w w1 := Kept.ofGrown gr (fun _ h => h)
  have b1 := h.kept K1 (fun e => ho.apart h rb e rfl)
  have hrb := h5 rb (.inl rfl)
  have hlt := h.lt
  have hnew : ∀ k, Mine rb v' k → Mine rb v k ∨ w.heap.size ≤ k := by
    rintro k (rfl | hk)
    · exact .inl (.inl rfl)
    · rcases hat with e | e
      · exact .inl (.inr (e.symm.trans hk))
      · rw [e] at hk; cases hk; exact .inr (Nat.le_refl _)
  refine ⟨b1, b1.set.1 v', o1.kept (setK w1 rb 0 v') (o1.apart b1), (K1.mono (fun _ _ h => Or.inr h)).trans ((setK w1 rb 0 v').mono (fun _ _ h => Or.inl h)), hnew, fun k hk => ?_⟩
  rcases hnew k hk with h | h
  · exact h5 k h
  · omega
set_option maxHeartbeats 4000000 in
set_option maxRecDepth 1000000 in
theorem feed_good (w : World) (rb : Nat) (v : Value) (s : Rd) (A b : List UInt8) (g : Nat) (a : Option Addr) (c : Nat) (hbox : RdBox w rb v s.gone s.whole s.look s.spoilt) (hown : Own w 0 v s.came) (hinv : Inv A g s) (hwl : s.whole ≤ s.look) (hll : s.look ≤ A.length + 4294967295) (hcl : s.came.length ≤ A.length) (h5 : ∀ k, Mine rb v k → 5 ≤ k) (hs : s.spoilt = 0)
    (hb : IsBytes w a c b) (hA : (A ++ b).length ≤ 4294967296) (hT : Tabs w) :
    Calls Tryd.prog 17 #[.pointer (some ⟨rb, 0, none⟩), .slice a b.length c] w fun x w' => x = .returned (.tuple #[]) ∧ Went w rb v (A ++ b) g w' := by
  have M0 := hinv.start hs b
  have hrb5 := h5 rb (.inl rfl)
  rw [hs] at hbox
  obtain ⟨k0, k1, k2, k3, k4⟩ := hbox.cell
  have f0 := hbox.free 0
  have hlt := hbox.lt
  have h50 : 5 ≤ w.heap.size := by omega
  have hAl : A.length + b.length ≤ 4294967296 := by rw [List.length_append] at hA; exact hA
  obtain ⟨av, cv, e0, _, _⟩ := hown.slice
  subst e0
  obtain ⟨C, hC⟩ : ∃ C, C = s.came ++ b := ⟨_, rfl⟩
  obtain ⟨n, hn⟩ : ∃ n, n = C.length := ⟨_, rfl⟩
  have hnl : n ≤ 4294967296 := by
    rw [hn, hC, List.length_append]
    omega
  have hnA : n ≤ A.length + b.length := by
    rw [hn, hC, List.length_append]
    omega
  rw [← hC] at M0
  have hg0 : s.gone ≤ s.whole := by have := hinv.whole; omega
  obtain ⟨gone, hgone⟩ : ∃ gone, gone = s.gone := ⟨_, rfl⟩
  have hsp : Mid (A ++ b) g ⟨C, gone, s.whole, s.look, 0⟩ (scan A).1 := by rw [hgone, ← hs]; exact M0
  have HX := hide hbox
  have HO := hide hown
  have HB := hide hb
  have H5 := hide h5
  have HT := hide hT
  have HM0 := hide hsp
  have HC := hide hC
  have HN := hide hn
  have HG := hide hgone
  clear hbox hown hb h5 hT M0 hinv hsp hC hn hgone
  go_enter Tryd.func17, Tryd.ntmps17
  go_wp2_with (first
    | (refine wpList_append8 rfl (.tmp 15) (.tmp 16) rfl 0 (.slice av s.came.length cv) s.came rfl HO.out a c b rfl HB.out (by omega) (Nat.zero_le _) ?_
       intro v' w1 o1 gr1 _ hat _
       rw [← HC.out] at o1
       obtain ⟨a1, c1, e1, hI1, hnn1⟩ := o1.slice
       rw [← HN.out] at e1
       subst e1
       have HFA := hide (feedStart (m := b) HX.out HO.out H5.out (by rw [← HC.out]; exact o1) gr1 hat)
       rw [← HC.out] at HFA
       have hI1b := hI1.1
       have hI1c := hI1.2.1
       have bx1 := HFA.out.1
       have j0 := bx1.cell.1
       have jf0 := bx1.free 0
       have jlt := bx1.lt
       clear o1 gr1 hat bx1 hI1 hnn1))
  obtain ⟨_, HBX, HOX, HKX, HNEW, HFIV⟩ := HFA.out
  have HNEW := hide HNEW
  have HFIV := hide HFIV
  rw [← HG.out] at HBX
  have hc1 : c1 ≤ 9223372036854775807 := by unfold maxLen at hI1c; omega
  have hnc : n ≤ c1 := by rw [HN.out]; exact hI1b
  go_loopg [4] (2 * n + 2) (fun gk _ wr => ∃ (W L kk : Nat), 2 * (n - W) + (if L < n then 1 else 0) ≤ gk ∧ W ≤ L ∧ W ≤ n ∧ gone ≤ W ∧ L ≤ A.length + b.length + 4294967295 ∧ Hid (RdBox wr rb (.slice a1 n c1) gone W L 0) ∧ Hid (Own wr 0 (.slice a1 n c1) C) ∧ Hid (Mid (A ++ b) g ⟨C, gone, W, L, 0⟩ kk) ∧ Hid (Kept (Mine rb (.slice av s.came.length cv)) w wr))
  case atStart =>
    refine ⟨s.whole, s.look, (scan A).1, by split <;> omega, hwl, ?_, by rw [HG.out]; exact hg0, by omega, HBX, HOX, HM0.out, HKX⟩
    have := HM0.out.fits
    rw [← HN.out] at this
    exact this
  case round =>
    obtain ⟨W, L, kk, hgk, hWL, hWn, hgW, hLb, BX, OX, MX, KX⟩ := hrel
    obtain ⟨k0, k1, k2, k3, k4⟩ := BX.out.cell
    have f2 := BX.out.free 2
    have f3 := BX.out.free 3
    have f4 := BX.out.free 4
    have hltr := BX.out.lt
    by_cases hL : L < n
    · have hWc : W < c1 := by omega
      have hckb : (c1 == W) = false := by rw [beq_eq_false_iff_ne]; omega
      have h5r : 5 ≤ wr.heap.size := by omega
      have TR : Tabs wr := HT.out.kept KX.out (fun j hj hm => by have := H5.out j hm; omega)
      obtain ⟨R, hR⟩ : ∃ R, R = readP ((A ++ b).drop kk) := ⟨_, rfl⟩
      have RC : Hid (∀ X, Below wr.heap.size wr X → Calls Tryd.prog 33 #[.slice (a1.map (fun x => x.add W)) (n - W) (c1 - W)] X fun x w' => ∃ r p e a' c', (r, p, e) = R ∧ x = .returned (.tuple #[rpV r (.slice a' r.body.length c'), .agg #[.slice (a1.map (fun x => x.add W)) (n - W) (c1 - W), .int .i64 (p : Int), .int .i64 (e : Int)]]) ∧ Below X.heap.size X w') := by
        intro X hX
        obtain ⟨a2, c2, e2, hI2, _⟩ := OX.out.slice
        rw [← HN.out] at e2
        cases e2
        have hl : (C.drop W).length = n - W := by rw [List.length_drop, ← HN.out]
        have := read_any X (a1.map (fun x => x.add W)) (c1 - W) (C.drop W) ((hI2.map W (by rw [← HN.out]; exact hWn)).below hX) (by rw [hl]; omega) (TR.below hX) (by have := hX.size; omega)
        rw [hl, MX.out.tail, ← hR] at this
        exact this.mono fun x w' ⟨r, p, e, a', c', h1, h2, h3, h4⟩ => ⟨r, p, e, a', c', h1, h2, h4⟩
      have HR := hide hR
      have hpb : R.2.1 ≤ (A ++ b).length + 4294967295 := by
        rw [hR]
        have := read_bound ((A ++ b).drop kk)
        rw [List.length_drop] at this
        omega
      rw [List.length_append] at hpb
      have he3 : R.2.2 ≤ 2 := by rw [hR]; exact read_three _
      clear hR TR
      go_wp2_with fail
      go_region
      go_wp2_with fail
      have HBW : Hid (Below wr.heap.size wr wr.drew.drew) := (Below.refl _ wr).drew.drew
      go_cut [4, 5] from 20 to 77 (fun s4 s5 wx => ∃ (b4 b5 : Nat) (r : Rp) (p e : Nat), s4 = .pointer (some ⟨b4, 0, none⟩) ∧ s5 = .pointer (some ⟨b5, 0, none⟩) ∧ Hid ((r, p, e) = R) ∧ Hid (wx.heap[b5]? = some (.cells #[.slice (a1.map (fun x => x.add W)) (n - W) (c1 - W), .int .i64 (p : Int), .int .i64 (e : Int)] 70 (0, 0))) ∧ Hid (Below wr.heap.size wr wx) ∧ Hid (wr.heap.size ≤ b5))
      case first =>
        refine wp_region_any mixed ?_
        refine A_take (i := 0) (v := (.pointer (some ⟨rb, 0, none⟩))) (some 31) rfl rfl (by kernel_rfl) (by kernel_rfl) (by kernel_rfl) (fun _ _ _ h => h) (.inl ⟨rfl, fun w => ?_⟩) ?_
        · simp [go_sem]
        refine A_take (i := 1) (v := (.pointer (some ⟨rb, 0, none⟩))) (some 32) rfl rfl (by kernel_rfl) (by kernel_rfl) (by kernel_rfl) (fun _ _ _ h => h) (.inl ⟨rfl, fun w => ?_⟩) ?_
        · simp [go_sem]
        refine A_take (i := 2) (v := (.pointer (some ⟨rb, 0, none⟩))) (some 33) rfl rfl (by kernel_rfl) (by kernel_rfl) (by kernel_rfl) (fun _ _ _ h => h) (.inl ⟨rfl, fun w => ?_⟩) ?_
        · simp [go_sem]
        refine A_take (i := 4) (v := (.pointer (some ⟨rb, 0, none⟩))) (some 35) rfl rfl (by kernel_rfl) (by kernel_rfl) (by kernel_rfl) (fun _ _ _ h => h) (.inl ⟨rfl, fun w => ?_⟩) ?_
        · simp [go_sem]
        refine A_take (i := 5) (v := (.pointer (some ⟨rb, 0, none⟩))) (some 36) rfl rfl (by kernel_rfl) (by kernel_rfl) (by kernel_rfl) (fun _ _ _ h => h) (.inl ⟨rfl, fun w => ?_⟩) ?_
        · simp [go_sem]
        refine A_take (i := 6) (v := (.pointer (some ⟨rb, 2, none⟩))) (some 37) rfl rfl (by kernel_rfl) (by kernel_rfl) (by kernel_rfl) (fun _ _ _ h => h) (.inl ⟨rfl, fun w => ?_⟩) ?_
        · simp [go_sem]
        refine C_take (i := 3) (v := (.slice a1 n c1)) (Cl := Below wr.heap.size wr) (D := [8, 9, 10, 11, 12, 15, 16]) (E := [7, 13, 14]) (some 34) rfl rfl (by kernel_rfl) (fun j hj oj ho => ?_) (fun _ _ _ h => h) HBW.out ⟨rfl, fun X hX => ?_⟩ ?_
        · have hj2 : j = 7 ∨ j = 13 ∨ j = 14 := by simpa using hj
          rcases hj2 with rfl | rfl | rfl
          · cases ho
            exact stays_loadC rfl Tryd.isAgg3
          · cases ho
            exact stays_allocC rfl Tryd.zeroValue45
          · cases ho
            exact stays_allocC rfl Tryd.zeroValue70
        · have hcx := (hX.cell (p := ⟨rb, 0, none⟩) hltr).trans k0
          simp [go_sem, hcx]
        refine C_take (i := 7) (v := (.int .i64 (W : Int))) (Cl := Below wr.heap.size wr) (D := [8, 9, 10, 11, 12, 15, 16]) (E := [13, 14]) (some 38) rfl rfl (by kernel_rfl) (fun j hj oj ho => ?_) (fun _ _ _ h => h) HBW.out ⟨rfl, fun X hX => ?_⟩ ?_
        · have hj2 : j = 13 ∨ j = 14 := by simpa using hj
          rcases hj2 with rfl | rfl
          · cases ho
            exact stays_allocC rfl Tryd.zeroValue45
          · cases ho
            exact stays_allocC rfl Tryd.zeroValue70
        · have hcx := (hX.cell (p := ⟨rb, 2, none⟩) hltr).trans k2
          simp [go_sem, hcx]
        refine A_take (i := 8) (v := (.slice (a1.map (fun x => x.add W)) (n - W) (c1 - W))) (some 39) rfl rfl (by kernel_rfl) (by kernel_rfl) (by kernel_rfl) (fun _ _ _ h => h) (.inl ⟨rfl, fun w => ?_⟩) ?_
        · simp [go_sem]
          rw [if_pos hWn, if_neg (show ¬ c1 = W by omega)]
        have HBc : Below wr.heap.size wr wr.drew.drew := HBW.out
        refine wpAny_all (rs := [9, 13, 14]) (by kernel_rfl) (by decide) (fun i hi => ?_)
        have hi2 : i = 9 ∨ i = 13 ∨ i = 14 := by simpa using hi
        rcases hi2 with rfl | rfl | rfl
        · refine D_call (f := 33) (args := #[(.slice (a1.map (fun x => x.add W)) (n - W) (c1 - W))]) (some 40) rfl rfl rfl ?_ ((RC.out _ HBc).mono ?_)
          · simp [go_sem]
          rintro x w2 ⟨r, p, e, a', c', hr, rfl, B2⟩
          refine ⟨_, rfl, ?_⟩
          have hsz := HBc.size
          have HBc := HBc.trans (B2.mono HBc.size)
          have hszw := B2.size
          clear B2
          refine A_take (i := 10) (v := (.tuple #[(rpV r (.slice a' r.body.length c')), (.agg #[(.slice (a1.map (fun x => x.add W)) (n - W) (c1 - W)), .int .i64 (p : Int), .int .i64 (e : Int)])])) (some 30) rfl rfl (by kernel_rfl) (by kernel_rfl) (by kernel_rfl) (fun _ _ _ h => h) (.inl ⟨rfl, fun w => ?_⟩) ?_
          · simp [go_sem]
          refine A_take (i := 11) (v := (rpV r (.slice a' r.body.length c'))) (some 41) rfl rfl (by kernel_rfl) (by kernel_rfl) (by kernel_rfl) (fun _ _ _ h => h) (.inl ⟨rfl, fun w => ?_⟩) ?_
          · simp [go_sem]
          refine A_take (i := 12) (v := (.agg #[(.slice (a1.map (fun x => x.add W)) (n - W) (c1 - W)), .int .i64 (p : Int), .int .i64 (e : Int)])) (some 42) rfl rfl (by kernel_rfl) (by kernel_rfl) (by kernel_rfl) (fun _ _ _ h => h) (.inl ⟨rfl, fun w => ?_⟩) ?_
          · simp [go_sem]
          refine wpAny_all (rs := [13, 14]) (by kernel_rfl) (by decide) (fun i hi => ?_)
          have hi2 : i = 13 ∨ i = 14 := by simpa using hi
          rcases hi2 with rfl | rfl
          · refine D_alloc (some 4) 45 #[.int .i64 0, .int .i64 0, .int .i64 0, .string ⟨#[]⟩, .slice none 0 0] rfl rfl rfl rfl Tryd.zeroValue45 rfl (fun b4 Y4 g4 BY4 l4 => ?_)
            have hsz4 := HBc.size
            have l4w : wr.heap.size ≤ b4 := Nat.le_trans hsz4 l4
            have HBc := HBc.trans (BY4.mono HBc.size)
            clear BY4
            refine wpAny_all (rs := [14]) (by kernel_rfl) (by decide) (fun i hi => ?_)
            obtain rfl : i = 14 := by simpa using hi
            · refine D_alloc (some 5) 70 #[.slice none 0 0, .int .i64 0, .int .i64 0] rfl rfl rfl rfl Tryd.zeroValue70 rfl (fun b5 Y5 g5 BY5 l5 => ?_)
              have hsz5 := HBc.size
              have l5w : wr.heap.size ≤ b5 := Nat.le_trans hsz5 l5
              have l4x := (Array.getElem?_eq_some_iff.1 g4).1
              have g4 := (BY5.block _ l4x).trans g4
              have HBc := HBc.trans (BY5.mono HBc.size)
              clear BY5
              have hne45 : b4 ≠ b5 := by omega
              have q40 := cells_at g4 (i := 0) rfl
              have q41 := cells_at g4 (i := 1) rfl
              have q42 := cells_at g4 (i := 2) rfl
              have q43 := cells_at g4 (i := 3) rfl
              have q44 := cells_at g4 (i := 4) rfl
              have z4 : ∀ i, Y5.frozen? ⟨b4, i, none⟩ = false := fun i => by simp [World.frozen?, g4]
              refine wpAny_all (rs := [15]) (by kernel_rfl) (by decide) (fun i hi => ?_)
              obtain rfl : i = 15 := by simpa using hi
              refine D_skip (w' := ((((Y5.setCell ⟨b4, 0, none⟩ (.int .i64 r.kind)).setCell ⟨b4, 1, none⟩ (.int .i64 r.id)).setCell ⟨b4, 2, none⟩ (.int .i64 r.num)).setCell ⟨b4, 3, none⟩ (.string ⟨r.tube.toArray⟩)).setCell ⟨b4, 4, none⟩ (.slice a' r.body.length c')) rfl rfl rfl ?_ ?_
              · simp [go_sem, rpV, q40, q41, q42, q43, q44, z4]
              obtain ⟨g6, g7⟩ := set5 g4 (.int .i64 r.kind) (.int .i64 r.id) (.int .i64 r.num) (.string ⟨r.tube.toArray⟩) (.slice a' r.body.length c')
              have g8 := (g7.block b5 (Array.getElem?_eq_some_iff.1 g5).1 (fun e => hne45 (Option.some.inj e).symm)).trans g5
              have B6 := HBc.grown g7 HBc.size (fun k hk => by cases hk; omega)
              obtain ⟨Z6, hZ6⟩ : ∃ Z6, Z6 = ((((Y5.setCell ⟨b4, 0, none⟩ (.int .i64 r.kind)).setCell ⟨b4, 1, none⟩ (.int .i64 r.id)).setCell ⟨b4, 2, none⟩ (.int .i64 r.num)).setCell ⟨b4, 3, none⟩ (.string ⟨r.tube.toArray⟩)).setCell ⟨b4, 4, none⟩ (.slice a' r.body.length c') := ⟨_, rfl⟩
              rw [← hZ6] at g8 B6 ⊢
              clear hZ6 g6 g7 q40 q41 q42 q43 q44 z4
              have q50 := cells_at g8 (i := 0) rfl
              have q51 := cells_at g8 (i := 1) rfl
              have q52 := cells_at g8 (i := 2) rfl
              have z5 : ∀ i, Z6.frozen? ⟨b5, i, none⟩ = false := fun i => by simp [World.frozen?, g8]
              refine wpAny_all (rs := [16]) (by kernel_rfl) (by decide) (fun i hi => ?_)
              obtain rfl : i = 16 := by simpa using hi
              refine D_skip (w' := ((Z6.setCell ⟨b5, 0, none⟩ (.slice (a1.map (fun x => x.add W)) (n - W) (c1 - W))).setCell ⟨b5, 1, none⟩ (.int .i64 (p : Int))).setCell ⟨b5, 2, none⟩ (.int .i64 (e : Int))) rfl rfl rfl ?_ ?_
              · simp [go_sem, q50, q51, q52, z5]
              obtain ⟨g9, g10⟩ := set3 g8 (.slice (a1.map (fun x => x.add W)) (n - W) (c1 - W)) (.int .i64 (p : Int)) (.int .i64 (e : Int))
              have B7 := B6.grown g10 B6.size (fun k hk => by cases hk; omega)
              refine wpAny_done (by kernel_rfl) ?_ _
              dsimp only [Act.put]
              simp only [List.setIfInBounds_toArray, List.set_cons_succ, List.set_cons_zero]
              go_wp2_with fail
              go_meet
              exact ⟨b4, b5, r, p, e, rfl, rfl, hr, g9, B7, l5w⟩
          · refine D_alloc (some 5) 70 #[.slice none 0 0, .int .i64 0, .int .i64 0] rfl rfl rfl rfl Tryd.zeroValue70 rfl (fun b5 Y5 g5 BY5 l5 => ?_)
            have hsz5 := HBc.size
            have l5w : wr.heap.size ≤ b5 := Nat.le_trans hsz5 l5
            have HBc := HBc.trans (BY5.mono HBc.size)
            clear BY5
            refine wpAny_all (rs := [13]) (by kernel_rfl) (by decide) (fun i hi => ?_)
            obtain rfl : i = 13 := by simpa using hi
            · refine D_alloc (some 4) 45 #[.int .i64 0, .int .i64 0, .int .i64 0, .string ⟨#[]⟩, .slice none 0 0] rfl rfl rfl rfl Tryd.zeroValue45 rfl (fun b4 Y4 g4 BY4 l4 => ?_)
              have hsz4 := HBc.size
              have l4w : wr.heap.size ≤ b4 := Nat.le_trans hsz4 l4
              have l5x := (Array.getElem?_eq_some_iff.1 g5).1
              have g5 := (BY4.block _ l5x).trans g5
              have HBc := HBc.trans (BY4.mono HBc.size)
              clear BY4
              have hne45 : b4 ≠ b5 := by omega
              have q40 := cells_at g4 (i := 0) rfl
              have q41 := cells_at g4 (i := 1) rfl
              have q42 := cells_at g4 (i := 2) rfl
              have q43 := cells_at g4 (i := 3) rfl
              have q44 := cells_at g4 (i := 4) rfl
              have z4 : ∀ i, Y4.frozen? ⟨b4, i, none⟩ = false := fun i => by simp [World.frozen?, g4]
              refine wpAny_all (rs := [15]) (by kernel_rfl) (by decide) (fun i hi => ?_)
              obtain rfl : i = 15 := by simpa using hi
              refine D_skip (w' := ((((Y4.setCell ⟨b4, 0, none⟩ (.int .i64 r.kind)).setCell ⟨b4, 1, none⟩ (.int .i64 r.id)).setCell ⟨b4, 2, none⟩ (.int .i64 r.num)).setCell ⟨b4, 3, none⟩ (.string ⟨r.tube.toArray⟩)).setCell ⟨b4, 4, none⟩ (.slice a' r.body.length c')) rfl rfl rfl ?_ ?_
              · simp [go_sem, rpV, q40, q41, q42, q43, q44, z4]
              obtain ⟨g6, g7⟩ := set5 g4 (.int .i64 r.kind) (.int .i64 r.id) (.int .i64 r.num) (.string ⟨r.tube.toArray⟩) (.slice a' r.body.length c')
              have g8 := (g7.block b5 (Array.getElem?_eq_some_iff.1 g5).1 (fun e => hne45 (Option.some.inj e).symm)).trans g5
              have B6 := HBc.grown g7 HBc.size (fun k hk => by cases hk; omega)
              obtain ⟨Z6, hZ6⟩ : ∃ Z6, Z6 = ((((Y4.setCell ⟨b4, 0, none⟩ (.int .i64 r.kind)).setCell ⟨b4, 1, none⟩ (.int .i64 r.id)).setCell ⟨b4, 2, none⟩ (.int .i64 r.num)).setCell ⟨b4, 3, none⟩ (.string ⟨r.tube.toArray⟩)).setCell ⟨b4, 4, none⟩ (.slice a' r.body.length c') := ⟨_, rfl⟩
              rw [← hZ6] at g8 B6 ⊢
              clear hZ6 g6 g7 q40 q41 q42 q43 q44 z4
              have q50 := cells_at g8 (i := 0) rfl
              have q51 := cells_at g8 (i := 1) rfl
              have q52 := cells_at g8 (i := 2) rfl
              have z5 : ∀ i, Z6.frozen? ⟨b5, i, none⟩ = false := fun i => by simp [World.frozen?, g8]
              refine wpAny_all (rs := [16]) (by kernel_rfl) (by decide) (fun i hi => ?_)
              obtain rfl : i = 16 := by simpa using hi
              refine D_skip (w' := ((Z6.setCell ⟨b5, 0, none⟩ (.slice (a1.map (fun x => x.add W)) (n - W) (c1 - W))).setCell ⟨b5, 1, none⟩ (.int .i64 (p : Int))).setCell ⟨b5, 2, none⟩ (.int .i64 (e : Int))) rfl rfl rfl ?_ ?_
              · simp [go_sem, q50, q51, q52, z5]
              obtain ⟨g9, g10⟩ := set3 g8 (.slice (a1.map (fun x => x.add W)) (n - W) (c1 - W)) (.int .i64 (p : Int)) (.int .i64 (e : Int))
              have B7 := B6.grown g10 B6.size (fun k hk => by cases hk; omega)
              refine wpAny_done (by kernel_rfl) ?_ _
              dsimp only [Act.put]
              simp only [List.setIfInBounds_toArray, List.set_cons_succ, List.set_cons_zero]
              go_wp2_with fail
              go_meet
              exact ⟨b4, b5, r, p, e, rfl, rfl, hr, g9, B7, l5w⟩
        · refine D_alloc (some 4) 45 #[.int .i64 0, .int .i64 0, .int .i64 0, .string ⟨#[]⟩, .slice none 0 0] rfl rfl rfl rfl Tryd.zeroValue45 rfl (fun b4 Y4 g4 BY4 l4 => ?_)
          have hsz4 := HBc.size
          have l4w : wr.heap.size ≤ b4 := Nat.le_trans hsz4 l4
          have HBc := HBc.trans (BY4.mono HBc.size)
          clear BY4
          refine wpAny_all (rs := [9, 14]) (by kernel_rfl) (by decide) (fun i hi => ?_)
          have hi2 : i = 9 ∨ i = 14 := by simpa using hi
          rcases hi2 with rfl | rfl
          · refine D_call (f := 33) (args := #[(.slice (a1.map (fun x => x.add W)) (n - W) (c1 - W))]) (some 40) rfl rfl rfl ?_ ((RC.out _ HBc).mono ?_)
            · simp [go_sem]
            rintro x w2 ⟨r, p, e, a', c', hr, rfl, B2⟩
            refine ⟨_, rfl, ?_⟩
            have hsz := HBc.size
            have HBc := HBc.trans (B2.mono HBc.size)
            have l4x := (Array.getElem?_eq_some_iff.1 g4).1
            have g4 := (B2.block _ l4x).trans g4
            have hszw := B2.size
            clear B2
            refine A_take (i := 10) (v := (.tuple #[(rpV r (.slice a' r.body.length c')), (.agg #[(.slice (a1.map (fun x => x.add W)) (n - W) (c1 - W)), .int .i64 (p : Int), .int .i64 (e : Int)])])) (some 30) rfl rfl (by kernel_rfl) (by kernel_rfl) (by kernel_rfl) (fun _ _ _ h => h) (.inl ⟨rfl, fun w => ?_⟩) ?_
            · simp [go_sem]
            refine A_take (i := 11) (v := (rpV r (.slice a' r.body.length c'))) (some 41) rfl rfl (by kernel_rfl) (by kernel_rfl) (by kernel_rfl) (fun _ _ _ h => h) (.inl ⟨rfl, fun w => ?_⟩) ?_
            · simp [go_sem]
            refine A_take (i := 12) (v := (.agg #[(.slice (a1.map (fun x => x.add W)) (n - W) (c1 - W)), .int .i64 (p : Int), .int .i64 (e : Int)])) (some 42) rfl rfl (by kernel_rfl) (by kernel_rfl) (by kernel_rfl) (fun _ _ _ h => h) (.inl ⟨rfl, fun w => ?_⟩) ?_
            · simp [go_sem]
            refine wpAny_all (rs := [14]) (by kernel_rfl) (by decide) (fun i hi => ?_)
            obtain rfl : i = 14 := by simpa using hi
            · refine D_alloc (some 5) 70 #[.slice none 0 0, .int .i64 0, .int .i64 0] rfl rfl rfl rfl Tryd.zeroValue70 rfl (fun b5 Y5 g5 BY5 l5 => ?_)
              have hsz5 := HBc.size
              have l5w : wr.heap.size ≤ b5 := Nat.le_trans hsz5 l5
              have l4x := (Array.getElem?_eq_some_iff.1 g4).1
              have g4 := (BY5.block _ l4x).trans g4
              have HBc := HBc.trans (BY5.mono HBc.size)
              clear BY5
              have hne45 : b4 ≠ b5 := by omega
              have q40 := cells_at g4 (i := 0) rfl
              have q41 := cells_at g4 (i := 1) rfl
              have q42 := cells_at g4 (i := 2) rfl
              have q43 := cells_at g4 (i := 3) rfl
              have q44 := cells_at g4 (i := 4) rfl
              have z4 : ∀ i, Y5.frozen? ⟨b4, i, none⟩ = false := fun i => by simp [World.frozen?, g4]
              refine wpAny_all (rs := [15]) (by kernel_rfl) (by decide) (fun i hi => ?_)
              obtain rfl : i = 15 := by simpa using hi
              refine D_skip (w' := ((((Y5.setCell ⟨b4, 0, none⟩ (.int .i64 r.kind)).setCell ⟨b4, 1, none⟩ (.int .i64 r.id)).setCell ⟨b4, 2, none⟩ (.int .i64 r.num)).setCell ⟨b4, 3, none⟩ (.string ⟨r.tube.toArray⟩)).setCell ⟨b4, 4, none⟩ (.slice a' r.body.length c')) rfl rfl rfl ?_ ?_
              · simp [go_sem, rpV, q40, q41, q42, q43, q44, z4]
              obtain ⟨g6, g7⟩ := set5 g4 (.int .i64 r.kind) (.int .i64 r.id) (.int .i64 r.num) (.string ⟨r.tube.toArray⟩) (.slice a' r.body.length c')
              have g8 := (g7.block b5 (Array.getElem?_eq_some_iff.1 g5).1 (fun e => hne45 (Option.some.inj e).symm)).trans g5
              have B6 := HBc.grown g7 HBc.size (fun k hk => by cases hk; omega)
              obtain ⟨Z6, hZ6⟩ : ∃ Z6, Z6 = ((((Y5.setCell ⟨b4, 0, none⟩ (.int .i64 r.kind)).setCell ⟨b4, 1, none⟩ (.int .i64 r.id)).setCell ⟨b4, 2, none⟩ (.int .i64 r.num)).setCell ⟨b4, 3, none⟩ (.string ⟨r.tube.toArray⟩)).setCell ⟨b4, 4, none⟩ (.slice a' r.body.length c') := ⟨_, rfl⟩
              rw [← hZ6] at g8 B6 ⊢
              clear hZ6 g6 g7 q40 q41 q42 q43 q44 z4
              have q50 := cells_at g8 (i := 0) rfl
              have q51 := cells_at g8 (i := 1) rfl
              have q52 := cells_at g8 (i := 2) rfl
              have z5 : ∀ i, Z6.frozen? ⟨b5, i, none⟩ = false := fun i => by simp [World.frozen?, g8]
              refine wpAny_all (rs := [16]) (by kernel_rfl) (by decide) (fun i hi => ?_)
              obtain rfl : i = 16 := by simpa using hi
              refine D_skip (w' := ((Z6.setCell ⟨b5, 0, none⟩ (.slice (a1.map (fun x => x.add W)) (n - W) (c1 - W))).setCell ⟨b5, 1, none⟩ (.int .i64 (p : Int))).setCell ⟨b5, 2, none⟩ (.int .i64 (e : Int))) rfl rfl rfl ?_ ?_
              · simp [go_sem, q50, q51, q52, z5]
              obtain ⟨g9, g10⟩ := set3 g8 (.slice (a1.map (fun x => x.add W)) (n - W) (c1 - W)) (.int .i64 (p : Int)) (.int .i64 (e : Int))
              have B7 := B6.grown g10 B6.size (fun k hk => by cases hk; omega)
              refine wpAny_done (by kernel_rfl) ?_ _
              dsimp only [Act.put]
              simp only [List.setIfInBounds_toArray, List.set_cons_succ, List.set_cons_zero]
              go_wp2_with fail
              go_meet
              exact ⟨b4, b5, r, p, e, rfl, rfl, hr, g9, B7, l5w⟩
          · refine D_alloc (some 5) 70 #[.slice none 0 0, .int .i64 0, .int .i64 0] rfl rfl rfl rfl Tryd.zeroValue70 rfl (fun b5 Y5 g5 BY5 l5 => ?_)
            have hsz5 := HBc.size
            have l5w : wr.heap.size ≤ b5 := Nat.le_trans hsz5 l5
            have l4x := (Array.getElem?_eq_some_iff.1 g4).1
            have g4 := (BY5.block _ l4x).trans g4
            have HBc := HBc.trans (BY5.mono HBc.size)
            clear BY5
            refine wpAny_all (rs := [9]) (by kernel_rfl) (by decide) (fun i hi => ?_)
            obtain rfl : i = 9 := by simpa using hi
            · refine D_call (f := 33) (args := #[(.slice (a1.map (fun x => x.add W)) (n - W) (c1 - W))]) (some 40) rfl rfl rfl ?_ ((RC.out _ HBc).mono ?_)
              · simp [go_sem]
              rintro x w2 ⟨r, p, e, a', c', hr, rfl, B2⟩
              refine ⟨_, rfl, ?_⟩
              have hsz := HBc.size
              have HBc := HBc.trans (B2.mono HBc.size)
              have l4x := (Array.getElem?_eq_some_iff.1 g4).1
              have g4 := (B2.block _ l4x).trans g4
              have l5x := (Array.getElem?_eq_some_iff.1 g5).1
              have g5 := (B2.block _ l5x).trans g5
              have hszw := B2.size
              clear B2
              refine A_take (i := 10) (v := (.tuple #[(rpV r (.slice a' r.body.length c')), (.agg #[(.slice (a1.map (fun x => x.add W)) (n - W) (c1 - W)), .int .i64 (p : Int), .int .i64 (e : Int)])])) (some 30) rfl rfl (by kernel_rfl) (by kernel_rfl) (by kernel_rfl) (fun _ _ _ h => h) (.inl ⟨rfl, fun w => ?_⟩) ?_
              · simp [go_sem]
              refine A_take (i := 11) (v := (rpV r (.slice a' r.body.length c'))) (some 41) rfl rfl (by kernel_rfl) (by kernel_rfl) (by kernel_rfl) (fun _ _ _ h => h) (.inl ⟨rfl, fun w => ?_⟩) ?_
              · simp [go_sem]
              refine A_take (i := 12) (v := (.agg #[(.slice (a1.map (fun x => x.add W)) (n - W) (c1 - W)), .int .i64 (p : Int), .int .i64 (e : Int)])) (some 42) rfl rfl (by kernel_rfl) (by kernel_rfl) (by kernel_rfl) (fun _ _ _ h => h) (.inl ⟨rfl, fun w => ?_⟩) ?_
              · simp [go_sem]
              have hne45 : b4 ≠ b5 := by omega
              have q40 := cells_at g4 (i := 0) rfl
              have q41 := cells_at g4 (i := 1) rfl
              have q42 := cells_at g4 (i := 2) rfl
              have q43 := cells_at g4 (i := 3) rfl
              have q44 := cells_at g4 (i := 4) rfl
              have z4 : ∀ i, w2.frozen? ⟨b4, i, none⟩ = false := fun i => by simp [World.frozen?, g4]
              refine wpAny_all (rs := [15]) (by kernel_rfl) (by decide) (fun i hi => ?_)
              obtain rfl : i = 15 := by simpa using hi
              refine D_skip (w' := ((((w2.setCell ⟨b4, 0, none⟩ (.int .i64 r.kind)).setCell ⟨b4, 1, none⟩ (.int .i64 r.id)).setCell ⟨b4, 2, none⟩ (.int .i64 r.num)).setCell ⟨b4, 3, none⟩ (.string ⟨r.tube.toArray⟩)).setCell ⟨b4, 4, none⟩ (.slice a' r.body.length c')) rfl rfl rfl ?_ ?_
              · simp [go_sem, rpV, q40, q41, q42, q43, q44, z4]
              obtain ⟨g6, g7⟩ := set5 g4 (.int .i64 r.kind) (.int .i64 r.id) (.int .i64 r.num) (.string ⟨r.tube.toArray⟩) (.slice a' r.body.length c')
              have g8 := (g7.block b5 (Array.getElem?_eq_some_iff.1 g5).1 (fun e => hne45 (Option.some.inj e).symm)).trans g5
              have B6 := HBc.grown g7 HBc.size (fun k hk => by cases hk; omega)
              obtain ⟨Z6, hZ6⟩ : ∃ Z6, Z6 = ((((w2.setCell ⟨b4, 0, none⟩ (.int .i64 r.kind)).setCell ⟨b4, 1, none⟩ (.int .i64 r.id)).setCell ⟨b4, 2, none⟩ (.int .i64 r.num)).setCell ⟨b4, 3, none⟩ (.string ⟨r.tube.toArray⟩)).setCell ⟨b4, 4, none⟩ (.slice a' r.body.length c') := ⟨_, rfl⟩
              rw [← hZ6] at g8 B6 ⊢
              clear hZ6 g6 g7 q40 q41 q42 q43 q44 z4
              have q50 := cells_at g8 (i := 0) rfl
              have q51 := cells_at g8 (i := 1) rfl
              have q52 := cells_at g8 (i := 2) rfl
              have z5 : ∀ i, Z6.frozen? ⟨b5, i, none⟩ = false := fun i => by simp [World.frozen?, g8]
              refine wpAny_all (rs := [16]) (by kernel_rfl) (by decide) (fun i hi => ?_)
              obtain rfl : i = 16 := by simpa using hi
              refine D_skip (w' := ((Z6.setCell ⟨b5, 0, none⟩ (.slice (a1.map (fun x => x.add W)) (n - W) (c1 - W))).setCell ⟨b5, 1, none⟩ (.int .i64 (p : Int))).setCell ⟨b5, 2, none⟩ (.int .i64 (e : Int))) rfl rfl rfl ?_ ?_
              · simp [go_sem, q50, q51, q52, z5]
              obtain ⟨g9, g10⟩ := set3 g8 (.slice (a1.map (fun x => x.add W)) (n - W) (c1 - W)) (.int .i64 (p : Int)) (.int .i64 (e : Int))
              have B7 := B6.grown g10 B6.size (fun k hk => by cases hk; omega)
              refine wpAny_done (by kernel_rfl) ?_ _
              dsimp only [Act.put]
              simp only [List.setIfInBounds_toArray, List.set_cons_succ, List.set_cons_zero]
              go_wp2_with fail
              go_meet
              exact ⟨b4, b5, r, p, e, rfl, rfl, hr, g9, B7, l5w⟩
        · refine D_alloc (some 5) 70 #[.slice none 0 0, .int .i64 0, .int .i64 0] rfl rfl rfl rfl Tryd.zeroValue70 rfl (fun b5 Y5 g5 BY5 l5 => ?_)
          have hsz5 := HBc.size
          have l5w : wr.heap.size ≤ b5 := Nat.le_trans hsz5 l5
          have HBc := HBc.trans (BY5.mono HBc.size)
          clear BY5
          refine wpAny_all (rs := [9, 13]) (by kernel_rfl) (by decide) (fun i hi => ?_)
          have hi2 : i = 9 ∨ i = 13 := by simpa using hi
          rcases hi2 with rfl | rfl
          · refine D_call (f := 33) (args := #[(.slice (a1.map (fun x => x.add W)) (n - W) (c1 - W))]) (some 40) rfl rfl rfl ?_ ((RC.out _ HBc).mono ?_)
            · simp [go_sem]
            rintro x w2 ⟨r, p, e, a', c', hr, rfl, B2⟩
            refine ⟨_, rfl, ?_⟩
            have hsz := HBc.size
            have HBc := HBc.trans (B2.mono HBc.size)
            have l5x := (Array.getElem?_eq_some_iff.1 g5).1
            have g5 := (B2.block _ l5x).trans g5
            have hszw := B2.size
            clear B2
            refine A_take (i := 10) (v := (.tuple #[(rpV r (.slice a' r.body.length c')), (.agg #[(.slice (a1.map (fun x => x.add W)) (n - W) (c1 - W)), .int .i64 (p : Int), .int .i64 (e : Int)])])) (some 30) rfl rfl (by kernel_rfl) (by kernel_rfl) (by kernel_rfl) (fun _ _ _ h => h) (.inl ⟨rfl, fun w => ?_⟩) ?_
            · simp [go_sem]
            refine A_take (i := 11) (v := (rpV r (.slice a' r.body.length c'))) (some 41) rfl rfl (by kernel_rfl) (by kernel_rfl) (by kernel_rfl) (fun _ _ _ h => h) (.inl ⟨rfl, fun w => ?_⟩) ?_
            · simp [go_sem]
            refine A_take (i := 12) (v := (.agg #[(.slice (a1.map (fun x => x.add W)) (n - W) (c1 - W)), .int .i64 (p : Int), .int .i64 (e : Int)])) (some 42) rfl rfl (by kernel_rfl) (by kernel_rfl) (by kernel_rfl) (fun _ _ _ h => h) (.inl ⟨rfl, fun w => ?_⟩) ?_
            · simp [go_sem]
            refine wpAny_all (rs := [13]) (by kernel_rfl) (by decide) (fun i hi => ?_)
            obtain rfl : i = 13 := by simpa using hi
            · refine D_alloc (some 4) 45 #[.int .i64 0, .int .i64 0, .int .i64 0, .string ⟨#[]⟩, .slice none 0 0] rfl rfl rfl rfl Tryd.zeroValue45 rfl (fun b4 Y4 g4 BY4 l4 => ?_)
              have hsz4 := HBc.size
              have l4w : wr.heap.size ≤ b4 := Nat.le_trans hsz4 l4
              have l5x := (Array.getElem?_eq_some_iff.1 g5).1
              have g5 := (BY4.block _ l5x).trans g5
              have HBc := HBc.trans (BY4.mono HBc.size)
              clear BY4
              have hne45 : b4 ≠ b5 := by omega
              have q40 := cells_at g4 (i := 0) rfl
              have q41 := cells_at g4 (i := 1) rfl
              have q42 := cells_at g4 (i := 2) rfl
              have q43 := cells_at g4 (i := 3) rfl
              have q44 := cells_at g4 (i := 4) rfl
              have z4 : ∀ i, Y4.frozen? ⟨b4, i, none⟩ = false := fun i => by simp [World.frozen?, g4]
              refine wpAny_all (rs := [15]) (by kernel_rfl) (by decide) (fun i hi => ?_)
              obtain rfl : i = 15 := by simpa using hi
              refine D_skip (w' := ((((Y4.setCell ⟨b4, 0, none⟩ (.int .i64 r.kind)).setCell ⟨b4, 1, none⟩ (.int .i64 r.id)).setCell ⟨b4, 2, none⟩ (.int .i64 r.num)).setCell ⟨b4, 3, none⟩ (.string ⟨r.tube.toArray⟩)).setCell ⟨b4, 4, none⟩ (.slice a' r.body.length c')) rfl rfl rfl ?_ ?_
              · simp [go_sem, rpV, q40, q41, q42, q43, q44, z4]
              obtain ⟨g6, g7⟩ := set5 g4 (.int .i64 r.kind) (.int .i64 r.id) (.int .i64 r.num) (.string ⟨r.tube.toArray⟩) (.slice a' r.body.length c')
              have g8 := (g7.block b5 (Array.getElem?_eq_some_iff.1 g5).1 (fun e => hne45 (Option.some.inj e).symm)).trans g5
              have B6 := HBc.grown g7 HBc.size (fun k hk => by cases hk; omega)
              obtain ⟨Z6, hZ6⟩ : ∃ Z6, Z6 = ((((Y4.setCell ⟨b4, 0, none⟩ (.int .i64 r.kind)).setCell ⟨b4, 1, none⟩ (.int .i64 r.id)).setCell ⟨b4, 2, none⟩ (.int .i64 r.num)).setCell ⟨b4, 3, none⟩ (.string ⟨r.tube.toArray⟩)).setCell ⟨b4, 4, none⟩ (.slice a' r.body.length c') := ⟨_, rfl⟩
              rw [← hZ6] at g8 B6 ⊢
              clear hZ6 g6 g7 q40 q41 q42 q43 q44 z4
              have q50 := cells_at g8 (i := 0) rfl
              have q51 := cells_at g8 (i := 1) rfl
              have q52 := cells_at g8 (i := 2) rfl
              have z5 : ∀ i, Z6.frozen? ⟨b5, i, none⟩ = false := fun i => by simp [World.frozen?, g8]
              refine wpAny_all (rs := [16]) (by kernel_rfl) (by decide) (fun i hi => ?_)
              obtain rfl : i = 16 := by simpa using hi
              refine D_skip (w' := ((Z6.setCell ⟨b5, 0, none⟩ (.slice (a1.map (fun x => x.add W)) (n - W) (c1 - W))).setCell ⟨b5, 1, none⟩ (.int .i64 (p : Int))).setCell ⟨b5, 2, none⟩ (.int .i64 (e : Int))) rfl rfl rfl ?_ ?_
              · simp [go_sem, q50, q51, q52, z5]
              obtain ⟨g9, g10⟩ := set3 g8 (.slice (a1.map (fun x => x.add W)) (n - W) (c1 - W)) (.int .i64 (p : Int)) (.int .i64 (e : Int))
              have B7 := B6.grown g10 B6.size (fun k hk => by cases hk; omega)
              refine wpAny_done (by kernel_rfl) ?_ _
              dsimp only [Act.put]
              simp only [List.setIfInBounds_toArray, List.set_cons_succ, List.set_cons_zero]
              go_wp2_with fail
              go_meet
              exact ⟨b4, b5, r, p, e, rfl, rfl, hr, g9, B7, l5w⟩
          · refine D_alloc (some 4) 45 #[.int .i64 0, .int .i64 0, .int .i64 0, .string ⟨#[]⟩, .slice none 0 0] rfl rfl rfl rfl Tryd.zeroValue45 rfl (fun b4 Y4 g4 BY4 l4 => ?_)
            have hsz4 := HBc.size
            have l4w : wr.heap.size ≤ b4 := Nat.le_trans hsz4 l4
            have l5x := (Array.getElem?_eq_some_iff.1 g5).1
            have g5 := (BY4.block _ l5x).trans g5
            have HBc := HBc.trans (BY4.mono HBc.size)
            clear BY4
            refine wpAny_all (rs := [9]) (by kernel_rfl) (by decide) (fun i hi => ?_)
            obtain rfl : i = 9 := by simpa using hi
            · refine D_call (f := 33) (args := #[(.slice (a1.map (fun x => x.add W)) (n - W) (c1 - W))]) (some 40) rfl rfl rfl ?_ ((RC.out _ HBc).mono ?_)
              · simp [go_sem]
              rintro x w2 ⟨r, p, e, a', c', hr, rfl, B2⟩
              refine ⟨_, rfl, ?_⟩
              have hsz := HBc.size
              have HBc := HBc.trans (B2.mono HBc.size)
              have l4x := (Array.getElem?_eq_some_iff.1 g4).1
              have g4 := (B2.block _ l4x).trans g4
              have l5x := (Array.getElem?_eq_some_iff.1 g5).1
              have g5 := (B2.block _ l5x).trans g5
              have hszw := B2.size
              clear B2
              refine A_take (i := 10) (v := (.tuple #[(rpV r (.slice a' r.body.length c')), (.agg #[(.slice (a1.map (fun x => x.add W)) (n - W) (c1 - W)), .int .i64 (p : Int), .int .i64 (e : Int)])])) (some 30) rfl rfl (by kernel_rfl) (by kernel_rfl) (by kernel_rfl) (fun _ _ _ h => h) (.inl ⟨rfl, fun w => ?_⟩) ?_
              · simp [go_sem]
              refine A_take (i := 11) (v := (rpV r (.slice a' r.body.length c'))) (some 41) rfl rfl (by kernel_rfl) (by kernel_rfl) (by kernel_rfl) (fun _ _ _ h => h) (.inl ⟨rfl, fun w => ?_⟩) ?_
              · simp [go_sem]
              refine A_take (i := 12) (v := (.agg #[(.slice (a1.map (fun x => x.add W)) (n - W) (c1 - W)), .int .i64 (p : Int), .int .i64 (e : Int)])) (some 42) rfl rfl (by kernel_rfl) (by kernel_rfl) (by kernel_rfl) (fun _ _ _ h => h) (.inl ⟨rfl, fun w => ?_⟩) ?_
              · simp [go_sem]
              have hne45 : b4 ≠ b5 := by omega
              have q40 := cells_at g4 (i := 0) rfl
              have q41 := cells_at g4 (i := 1) rfl
              have q42 := cells_at g4 (i := 2) rfl
              have q43 := cells_at g4 (i := 3) rfl
              have q44 := cells_at g4 (i := 4) rfl
              have z4 : ∀ i, w2.frozen? ⟨b4, i, none⟩ = false := fun i => by simp [World.frozen?, g4]
              refine wpAny_all (rs := [15]) (by kernel_rfl) (by decide) (fun i hi => ?_)
              obtain rfl : i = 15 := by simpa using hi
              refine D_skip (w' := ((((w2.setCell ⟨b4, 0, none⟩ (.int .i64 r.kind)).setCell ⟨b4, 1, none⟩ (.int .i64 r.id)).setCell ⟨b4, 2, none⟩ (.int .i64 r.num)).setCell ⟨b4, 3, none⟩ (.string ⟨r.tube.toArray⟩)).setCell ⟨b4, 4, none⟩ (.slice a' r.body.length c')) rfl rfl rfl ?_ ?_
              · simp [go_sem, rpV, q40, q41, q42, q43, q44, z4]
              obtain ⟨g6, g7⟩ := set5 g4 (.int .i64 r.kind) (.int .i64 r.id) (.int .i64 r.num) (.string ⟨r.tube.toArray⟩) (.slice a' r.body.length c')
              have g8 := (g7.block b5 (Array.getElem?_eq_some_iff.1 g5).1 (fun e => hne45 (Option.some.inj e).symm)).trans g5
              have B6 := HBc.grown g7 HBc.size (fun k hk => by cases hk; omega)
              obtain ⟨Z6, hZ6⟩ : ∃ Z6, Z6 = ((((w2.setCell ⟨b4, 0, none⟩ (.int .i64 r.kind)).setCell ⟨b4, 1, none⟩ (.int .i64 r.id)).setCell ⟨b4, 2, none⟩ (.int .i64 r.num)).setCell ⟨b4, 3, none⟩ (.string ⟨r.tube.toArray⟩)).setCell ⟨b4, 4, none⟩ (.slice a' r.body.length c') := ⟨_, rfl⟩
              rw [← hZ6] at g8 B6 ⊢
              clear hZ6 g6 g7 q40 q41 q42 q43 q44 z4
              have q50 := cells_at g8 (i := 0) rfl
              have q51 := cells_at g8 (i := 1) rfl
              have q52 := cells_at g8 (i := 2) rfl
              have z5 : ∀ i, Z6.frozen? ⟨b5, i, none⟩ = false := fun i => by simp [World.frozen?, g8]
              refine wpAny_all (rs := [16]) (by kernel_rfl) (by decide) (fun i hi => ?_)
              obtain rfl : i = 16 := by simpa using hi
              refine D_skip (w' := ((Z6.setCell ⟨b5, 0, none⟩ (.slice (a1.map (fun x => x.add W)) (n - W) (c1 - W))).setCell ⟨b5, 1, none⟩ (.int .i64 (p : Int))).setCell ⟨b5, 2, none⟩ (.int .i64 (e : Int))) rfl rfl rfl ?_ ?_
              · simp [go_sem, q50, q51, q52, z5]
              obtain ⟨g9, g10⟩ := set3 g8 (.slice (a1.map (fun x => x.add W)) (n - W) (c1 - W)) (.int .i64 (p : Int)) (.int .i64 (e : Int))
              have B7 := B6.grown g10 B6.size (fun k hk => by cases hk; omega)
              refine wpAny_done (by kernel_rfl) ?_ _
              dsimp only [Act.put]
              simp only [List.setIfInBounds_toArray, List.set_cons_succ, List.set_cons_zero]
              go_wp2_with fail
              go_meet
              exact ⟨b4, b5, r, p, e, rfl, rfl, hr, g9, B7, l5w⟩
      case rest =>
        obtain ⟨b4, b5, r, p, e, rfl, rfl, HP, HG5, HBX2, HL5⟩ := hcut
        have bx2 : RdBox wc rb _ gone W L 0 := (HBX2.out.block rb hltr).trans BX.out
        obtain ⟨j0, j1, j2, j3, j4⟩ := bx2.cell
        have ff2 := bx2.free 2
        have ff3 := bx2.free 3
        have ff4 := bx2.free 4
        have hlt2 := bx2.lt
        have t1 := cells_at HG5.out (i := 1) rfl
        have t2 := cells_at HG5.out (i := 2) rfl
        have hlt5 := (Array.getElem?_eq_some_iff.1 HG5.out).1
        have hne5 : rb ≠ b5 := by have := HL5.out; omega
        have BX2 := hide bx2
        have OX2 := hide (OX.out.below HBX2.out)
        have KX2 := hide (KX.out.trans (Kept.ofBelow HBX2.out))
        have hp2 : p ≤ A.length + b.length + 4294967295 := by have hp := HP.out; rw [← hp] at hpb; exact hpb
        have he32 : e ≤ 2 := by have hp := HP.out; rw [← hp] at he3; exact he3
        have HRP : Hid (readP ((A ++ b).drop kk) = (r, p, e)) := by show _ = _; rw [← HR.out]; exact HP.out.symm
        clear bx2 k0 k1 k2 k3 k4 f2 f3 f4 RC HBW
        have hp3 : W + p ≤ n + 4294967295 := by
          have h1 := read_bound ((A ++ b).drop kk)
          rw [← MX.out.tail] at h1
          have h2 : readP (List.drop W C) = (r, p, e) := by rw [MX.out.tail]; exact HRP.out
          rw [h2, List.length_drop, ← HN.out] at h1
          have h3 : p ≤ n - W + 4294967295 := h1
          omega
        have HPN : Hid (W + p ≤ n + 4294967295) := hp3
        have HS3 : Hid (RdBox (wc.setCell ⟨rb, 3, none⟩ (.int .i64 ((W : Int) + (p : Int)))) rb (.slice a1 n c1) gone W (W + p) 0 ∧ Own (wc.setCell ⟨rb, 3, none⟩ (.int .i64 ((W : Int) + (p : Int)))) 0 (.slice a1 n c1) C ∧ Kept (Mine rb (.slice av s.came.length cv)) w (wc.setCell ⟨rb, 3, none⟩ (.int .i64 ((W : Int) + (p : Int))))) := by
          rw [← Int.natCast_add]
          exact ⟨BX2.out.set.2.2.2.1 (W + p), OX2.out.kept (setK _ _ _ _) (OX2.out.apart BX2.out), KX2.out.trans ((setK _ _ _ _).mono (fun _ _ h => Or.inl h))⟩
        by_cases he0 : e = 0
        · subst he0
          have hg2 := read_good ((A ++ b).drop kk) (by rw [HRP.out])
          have M2 := MX.out.good (by rw [HRP.out])
          rw [HRP.out] at hg2 M2
          have hfit := M2.fits
          have hfit : W + p ≤ C.length := hfit
          rw [← HN.out] at hfit
          have hg3 : 2 ≤ p := hg2.1
          have HM2 := hide M2
          clear hg2 M2
          go_wp2_with fail
          go_region
          go_wp2_with fail
          go_roundg (2 * (n - (W + p)) + (if W + p < n then 1 else 0))
          case measure => rw [if_pos hL] at hgk; split <;> omega
          case rel =>
            obtain ⟨z1, z2, z3⟩ := HS3.out
            refine ⟨W + p, W + p, kk + p, Nat.le_refl _, Nat.le_refl _, hfit, by omega, by have := HPN.out; omega, ?_, ?_, HM2.out, ?_⟩
            · have := z1.set.2.2.1 (W + p)
              rw [Int.natCast_add] at this
              exact this
            · exact z2.kept (setK _ _ _ _).drew (z2.apart z1)
            · exact (z3.trans ((setK _ _ _ _).mono (fun _ _ h => Or.inl h))).drew
        by_cases he2 : e = 2
        · subst he2
          have HK : Hid (∀ Y : World, Y = ((wc.setCell ⟨rb, 3, none⟩ (.int .i64 ((W : Int) + (p : Int)))).setCell ⟨rb, 4, none⟩ (.int .i64 ((p : Int) + 1))).drew → Calls Tryd.prog 27 #[.pointer (some ⟨rb, 0, none⟩), .int .i64 (W : Int)] Y fun x w' => x = .returned (.tuple #[]) ∧ Went w rb (.slice av s.came.length cv) (A ++ b) g w') := by
            intro Y hY
            obtain ⟨z1, z2, z3⟩ := HS3.out
            have y1 : RdBox Y rb (.slice a1 n c1) gone W (W + p) (p + 1) := by
              rw [hY]
              have := z1.set.2.2.2.2 (p + 1)
              rw [show ((p + 1 : Nat) : Int) = (p : Int) + 1 by omega] at this
              exact this
            have y2 : Own Y 0 (.slice a1 n c1) C := by rw [hY]; exact z2.kept (setK _ _ _ _).drew (z2.apart z1)
            have y3 : Kept (Mine rb (.slice av s.came.length cv)) w Y := by rw [hY]; exact (z3.trans ((setK _ _ _ _).mono (fun _ _ h => Or.inl h))).drew
            have hWC : W ≤ C.length := by rw [← HN.out]; exact hWn
            refine (keep_any Y rb _ C gone W (W + p) (p + 1) W y1 y2 hgW hWC hgW (by omega) (by rw [← HN.out]; omega) (by omega) (by have := HPN.out; omega)).mono ?_
            rintro x w3 ⟨rfl, v', b3, o3, K3⟩
            have M2 := MX.out.wrong (by rw [HRP.out]) (W + p - gone)
            rw [HRP.out] at M2
            have hYs := y3.size
            refine ⟨rfl, v', ⟨⟨(C.drop gone).take (W - gone), 0, W - gone, W + p - gone, p + 1⟩, b3, o3.mono (Nat.zero_le _), M2, by show W - gone ≤ W + p - gone; omega, ?_, ?_, ?_⟩, y3.trans (K3.mono (fun _ _ h => Or.inl h)), ?_⟩
            · show W + p - gone ≤ _
              rw [List.length_append]
              have := HPN.out
              omega
            · show ((C.drop gone).take (W - gone)).length ≤ _
              rw [List.length_append, List.length_take]
              omega
            · rintro k (rfl | hk)
              · exact hrb5
              · have := (o3.old k hk).1
                omega
            · rintro k (rfl | hk)
              · exact .inl (.inl rfl)
              · have := (o3.old k hk).1
                exact .inr (by omega)
          go_wp2_with fail
          go_region
          go_wp2_with (first
            | (go_at_call 27
               refine (HK.out _ rfl).mono ?_
               rintro x w3 ⟨rfl, HWENT⟩
               have HWE := hide HWENT
               clear HWENT))
          exact bodyPost_ret (results_none rfl _ _ _) rfl ⟨rfl, HWE.out⟩
        · obtain rfl : e = 1 := by omega
          obtain ⟨M2, hM2⟩ := MX.out.short (by rw [HRP.out])
          rw [HRP.out] at M2 hM2
          have hM3 : C.length ≤ W + p := hM2
          rw [← HN.out] at hM3
          have HM2 := hide M2
          clear M2 hM2
          go_wp2_with fail
          go_region
          go_wp2_with fail
          go_roundg (2 * (n - W) + (if W + p < n then 1 else 0))
          case measure => rw [if_pos hL] at hgk; rw [if_neg (show ¬ W + p < n by omega)]; omega
          case rel =>
            obtain ⟨z1, z2, z3⟩ := HS3.out
            exact ⟨W, W + p, kk, Nat.le_refl _, by omega, hWn, hgW, by have := HPN.out; omega, z1, z2, HM2.out, z3.drew⟩
    · go_wp2_with (first | go_region)
      have hend := MX.out.end (by show C.length ≤ L; rw [← HN.out]; omega)
      exact bodyPost_end (results_none rfl _ _ _) rfl ⟨rfl, .slice a1 n c1, ⟨⟨C, gone, W, L, 0⟩, BX.out, OX.out, hend, hWL, by rw [List.length_append]; omega, by rw [List.length_append, ← HN.out]; omega, HFIV.out⟩, ⟨KX.out.os, KX.out.tape, KX.out.output, KX.out.size, KX.out.block⟩, HNEW.out⟩
/-- Feed: what came is more. -/
theorem feed_any (w : World) (rb : Nat) (v : Value) (A b : List UInt8) (g : Nat) (a : Option Addr) (c : Nat) (h : RdAt w rb v A g) (hb : IsBytes w a c b) (hA : (A ++ b).length ≤ 4294967296) (hT : Tabs w) :
    Calls Tryd.prog 17 #[.pointer (some ⟨rb, 0, none⟩), .slice a b.length c] w fun x w' => x = .returned (.tuple #[]) ∧ Went w rb v (A ++ b) g w' := by
  obtain ⟨s, h1, h2, h3, h4, h5, h6, h7⟩ := h
  by_cases hs : s.spoilt = 0
  · exact feed_good w rb v s A b g a c h1 h2 h3 h4 h5 h6 h7 hs hb hA hT
  · refine (feed_spoilt w rb v s.gone s.whole s.look s.spoilt a b.length c h1 (by omega)).mono ?_
    rintro x w' ⟨rfl, rfl⟩
    exact ⟨rfl, v, ⟨s, h1, h2, h3.more hs b, h4, by rw [List.length_append]; omega, by rw [List.length_append]; omega, h7⟩, Kept.refl _ _, fun k hk => .inl hk⟩
end Go.Proofs.YtomgnailgddchaaDoor
