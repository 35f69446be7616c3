/-
  NextA, NextB.
-/
import Derived.Test.YtomgnailgddchaaDoorFeedA
import Derived.Test.YtomgnailgddchaaDoorJO
namespace Go.Proofs.YtomgnailgddchaaDoor
open Go.RowKit Go.Sort

theorem results_three {fn : Func} {p u v : Tmp} (h : fn.results = #[.cell p 45, .tmp u, .tmp v]) (tmps : Array Value) (w : World) (g : Nat) (cs : Array Value) (hs : cs.size = 5)
    (hp : tmps.getD p undef = .pointer (some ⟨g, 0, none⟩)) (h1 : w.heap[g]? = some (.cells cs 45 (0, 0))) :
    (results fn tmps).run Tryd.prog w = .ok (.tuple #[.agg cs, tmps.getD u undef, tmps.getD v undef]) w := by
  have l1 := run_loadVar_row (P := Tryd.prog) w g 45 45 cs (0, 0) _ h1 Tryd.underlying45 rfl (by rw [hs]; kernel_rfl)
  have hp' : tmps[p]?.getD undef = .pointer (some ⟨g, 0, none⟩) := by simpa using hp
  simp only [results, h]
  simp [Result.andThen, hp', asAddr, l1]

set_option maxHeartbeats 2000000 in
set_option maxRecDepth 1000000 in
theorem next_none (w : World) (rb : Nat) (v : Value) (g lk sp : Nat) (h : RdBox w rb v g g lk sp) :
    Calls Tryd.prog 18 #[.pointer (some ⟨rb, 0, none⟩)] w fun x w' => x = .returned (.tuple #[rpV rp0 (.slice none 0 0), .bool false, .int .i64 (if 0 < sp then 82 else 0)]) ∧ Below w.heap.size w w' := by
  obtain ⟨k0, k1, k2, k3, k4⟩ := h.cell
  have hlt := h.lt
  clear h
  by_cases hs : 0 < sp
  · have hs2 : (0 : Int) < (sp : Int) := by omega
    rw [if_pos hs]
    go_enter Tryd.func18, Tryd.ntmps18
    go_wp2_with fail
    go_region
    go_wp2_with fail
    refine bodyPost_ret (results_three rfl _ _ w.heap.size _ rfl rfl (heap_alloc_new w _)) rfl ⟨rfl, ((Below.refl _ w).alloc (Nat.le_refl _) _).drew⟩
  · obtain rfl : sp = 0 := by omega
    rw [if_neg hs]
    go_enter Tryd.func18, Tryd.ntmps18
    go_wp2_with fail
    go_region
    go_wp2_with fail
    refine bodyPost_ret (results_three rfl _ _ w.heap.size _ rfl rfl (heap_alloc_new w _)) rfl ⟨rfl, ((Below.refl _ w).alloc (Nat.le_refl _) _).drew⟩
/-- As Went, and what the reader has behind it is no block of a value. -/
def WentB (w : World) (rb : Nat) (v : Value) (A : List UInt8) (g : Nat) (w' : World) (bv : Value) : Prop := ∃ v', RdAt w' rb v' A g ∧ Kept (Mine rb v) w w' ∧ (∀ k, Mine rb v' k → Mine rb v k ∨ w.heap.size ≤ k) ∧ ∀ k, bv.ownBlock = some k → ¬ Mine rb v' k
theorem WentB.went {w w' : World} {rb : Nat} {v bv : Value} {A : List UInt8} {g : Nat} (h : WentB w rb v A g w' bv) : Went w rb v A g w' := by
  obtain ⟨v', h1, h2, h3, _⟩ := h
  exact ⟨v', h1, h2, h3⟩

set_option maxHeartbeats 4000000 in
set_option maxRecDepth 1000000 in
theorem next_some (w : World) (rb : Nat) (v : Value) (s : Rd) (A : List UInt8) (g : Nat) (hbox : RdBox w rb v s.gone s.whole s.look s.spoilt) (hown : Own w 0 v s.came) (hinv : Inv A g s) (hwl : s.whole ≤ s.look) (hll : s.look ≤ A.length + 4294967295) (hcl : s.came.length ≤ A.length) (h5 : ∀ k, Mine rb v k → 5 ≤ k) (hlt : g < (scan A).1)
    (hA : A.length ≤ 4294967296) (hT : Tabs w) :
    Calls Tryd.prog 18 #[.pointer (some ⟨rb, 0, none⟩)] w fun x w' => ∃ a' c', x = .returned (.tuple #[rpV (readP (A.drop g)).1 (.slice a' (readP (A.drop g)).1.body.length c'), .bool true, .int .i64 0]) ∧ Own w' w.heap.size (.slice a' (readP (A.drop g)).1.body.length c') (readP (A.drop g)).1.body ∧ WentB w rb v A (g + (readP (A.drop g)).2.1) w' (.slice a' (readP (A.drop g)).1.body.length c') := by
  have N0 := hinv.next hlt
  have hrb5 := h5 rb (.inl rfl)
  have hwn := hinv.fits
  have hgw : s.gone < s.whole := by have := hinv.whole; omega
  obtain ⟨av, cv, e0, hI, _⟩ := hown.slice
  subst e0
  obtain ⟨n, hn⟩ : ∃ n, n = s.came.length := ⟨_, rfl⟩
  obtain ⟨gone, hgone⟩ : ∃ x, x = s.gone := ⟨_, rfl⟩
  obtain ⟨W, hW⟩ : ∃ x, x = s.whole := ⟨_, rfl⟩
  obtain ⟨lk, hlk⟩ : ∃ x, x = s.look := ⟨_, rfl⟩
  obtain ⟨sp, hsp⟩ : ∃ x, x = s.spoilt := ⟨_, rfl⟩
  rw [← hn, ← hgone, ← hW, ← hlk, ← hsp] at hbox
  rw [← hn] at hcl hwn
  rw [← hgone, ← hW] at hgw
  rw [← hW] at hwn
  have hIc := hI.1
  rw [← hn] at hIc
  have hcm : cv ≤ 9223372036854775807 := by have h2 := hI.2.1; unfold maxLen at h2; omega
  obtain ⟨R, hR⟩ : ∃ R, R = readP (A.drop g) := ⟨_, rfl⟩
  rw [← hR] at N0 ⊢
  obtain ⟨k0, k1, k2, k3, k4⟩ := hbox.cell
  have hlt0 := hbox.lt
  have HX := hide hbox
  have HO := hide hown
  have HT := hide hT
  have HN := hide hn
  have HNX := hide N0
  have HRR := hide hR
  have HEQ := hide (And.intro hgone (And.intro hW (And.intro hlk hsp)))
  clear hbox hown hT hinv N0 hn hgone hW hlk hsp hR hI
  go_enter Tryd.func18, Tryd.ntmps18
  have hne : ((gone : Int) == (W : Int)) = false := by rw [beq_eq_false_iff_ne]; omega
  go_wp2_with fail
  go_region
  go_wp2_with fail
  obtain ⟨wr, hwr⟩ : ∃ wr, wr = (w.alloc (.cells #[.int .i64 0, .int .i64 0, .int .i64 0, .string ⟨#[]⟩, .slice none 0 0] 45)).drew := ⟨_, rfl⟩
  rw [← hwr]
  have B0 : Below w.heap.size w wr := by rw [hwr]; exact ((Below.refl _ w).alloc (Nat.le_refl _) _).drew
  have hsz0 : wr.heap.size = w.heap.size + 1 := by rw [hwr]; simp
  have RES : RepAt wr w.heap.size 0 0 0 [] (.slice none 0 0) := by rw [hwr]; exact heap_alloc_new w _
  have bxr : RdBox wr rb (.slice av n cv) gone W lk sp := (B0.block rb hlt0).trans HX.out
  obtain ⟨j0, j1, j2, j3, j4⟩ := bxr.cell
  have hltr := bxr.lt
  have OXr := HO.out.below B0
  have TR := HT.out.below B0
  have h5r : 5 ≤ wr.heap.size := by omega
  have RC : Hid (∀ X, Below wr.heap.size wr X → Calls Tryd.prog 33 #[.slice (av.map (fun x => x.add gone)) (W - gone) (cv - gone)] X fun x w' => ∃ r p e a' c', (r, p, e) = R ∧ x = .returned (.tuple #[rpV r (.slice a' r.body.length c'), .agg #[.slice (av.map (fun x => x.add gone)) (W - gone) (cv - gone), .int .i64 (p : Int), .int .i64 (e : Int)]]) ∧ IsBytes w' a' c' r.body ∧ Below X.heap.size X w') := by
    intro X hX
    obtain ⟨a2, c2, e2, hI2, _⟩ := OXr.slice
    cases e2
    obtain ⟨q1, q2, q3, q4⟩ := HEQ.out
    have hl : ((s.came.drop gone).take (W - gone)).length = W - gone := by rw [List.length_take, List.length_drop, ← HN.out]; omega
    have := read_any X (av.map (fun x => x.add gone)) (cv - gone) ((s.came.drop gone).take (W - gone)) (((hI2.map gone (by rw [← HN.out]; omega)).take (W - gone)).below hX) (by rw [hl]; omega) (TR.below hX) (by have := hX.size; omega)
    have hrd := HNX.out.2.1
    rw [← q1, ← q2] at hrd
    rw [hl, hrd] at this
    exact this.mono fun x w' ⟨r, p, e, a', c', h1, h2, h3, h4⟩ => ⟨r, p, e, a', c', h1, h2, h3, h4⟩
  have HBW : Hid (Below wr.heap.size wr wr.drew) := (Below.refl _ wr).drew
  have HRES := hide RES
  have BXR := hide bxr
  have OXR := hide OXr
  have HB0 := hide B0
  have hWcv : W ≤ cv := by omega
  clear RES bxr OXr B0 TR k0 k1 k2 k3 k4 hwr
  go_cut [5, 6] from 23 to 39 (fun s5 s6 wx => ∃ (b5 b6 : Nat) (r : Rp) (p e : Nat) (a' : Option Addr) (c' : Nat), s5 = .pointer (some ⟨b5, 0, none⟩) ∧ s6 = .pointer (some ⟨b6, 0, none⟩) ∧ Hid ((r, p, e) = R) ∧ Hid (wx.heap[b5]? = some (.cells #[.int .i64 r.kind, .int .i64 r.id, .int .i64 r.num, .string ⟨r.tube.toArray⟩, .slice a' r.body.length c'] 45 (0, 0))) ∧ Hid (wx.heap[b6]? = some (.cells #[.slice (av.map (fun x => x.add gone)) (W - gone) (cv - gone), .int .i64 (p : Int), .int .i64 (e : Int)] 70 (0, 0))) ∧ Hid (IsBytes wx a' c' r.body) ∧ Hid (Below wr.heap.size wr wx) ∧ Hid (wr.heap.size ≤ b5) ∧ Hid (wr.heap.size ≤ b6) ∧ Hid (b5 ≠ b6))
  case first =>
    refine wp_region_any mixed ?_
    refine A_take (i := 0) (v := (.pointer (some ⟨rb, 0, none⟩))) (some 24) rfl rfl (by kernel_rfl) (by kernel_rfl) (by kernel_rfl) (fun _ _ _ h => h) (.inl ⟨rfl, fun w => ?_⟩) ?_
    · simp [go_sem]
    refine A_take (i := 1) (v := (.pointer (some ⟨rb, 0, none⟩))) (some 25) rfl rfl (by kernel_rfl) (by kernel_rfl) (by kernel_rfl) (fun _ _ _ h => h) (.inl ⟨rfl, fun w => ?_⟩) ?_
    · simp [go_sem]
    refine A_take (i := 2) (v := (.pointer (some ⟨rb, 0, none⟩))) (some 26) rfl rfl (by kernel_rfl) (by kernel_rfl) (by kernel_rfl) (fun _ _ _ h => h) (.inl ⟨rfl, fun w => ?_⟩) ?_
    · simp [go_sem]
    refine A_take (i := 4) (v := (.pointer (some ⟨rb, 0, none⟩))) (some 28) rfl rfl (by kernel_rfl) (by kernel_rfl) (by kernel_rfl) (fun _ _ _ h => h) (.inl ⟨rfl, fun w => ?_⟩) ?_
    · simp [go_sem]
    refine A_take (i := 5) (v := (.pointer (some ⟨rb, 0, none⟩))) (some 29) rfl rfl (by kernel_rfl) (by kernel_rfl) (by kernel_rfl) (fun _ _ _ h => h) (.inl ⟨rfl, fun w => ?_⟩) ?_
    · simp [go_sem]
    refine A_take (i := 6) (v := (.pointer (some ⟨rb, 1, none⟩))) (some 30) rfl rfl (by kernel_rfl) (by kernel_rfl) (by kernel_rfl) (fun _ _ _ h => h) (.inl ⟨rfl, fun w => ?_⟩) ?_
    · simp [go_sem]
    refine A_take (i := 8) (v := (.pointer (some ⟨rb, 0, none⟩))) (some 32) rfl rfl (by kernel_rfl) (by kernel_rfl) (by kernel_rfl) (fun _ _ _ h => h) (.inl ⟨rfl, fun w => ?_⟩) ?_
    · simp [go_sem]
    refine A_take (i := 9) (v := (.pointer (some ⟨rb, 0, none⟩))) (some 33) rfl rfl (by kernel_rfl) (by kernel_rfl) (by kernel_rfl) (fun _ _ _ h => h) (.inl ⟨rfl, fun w => ?_⟩) ?_
    · simp [go_sem]
    refine A_take (i := 10) (v := (.pointer (some ⟨rb, 2, none⟩))) (some 34) rfl rfl (by kernel_rfl) (by kernel_rfl) (by kernel_rfl) (fun _ _ _ h => h) (.inl ⟨rfl, fun w => ?_⟩) ?_
    · simp [go_sem]
    refine C_take (i := 3) (v := (.slice av n cv)) (Cl := Below wr.heap.size wr) (D := [12, 13, 14, 15, 16, 19, 20]) (E := [7, 11, 17, 18]) (some 27) rfl rfl (by kernel_rfl) (fun j hj oj ho => ?_) (fun _ _ _ h => h) HBW.out ⟨rfl, fun X hX => ?_⟩ ?_
    · have hj2 : j = 7 ∨ j = 11 ∨ j = 17 ∨ j = 18 := by simpa using hj
      rcases hj2 with rfl | rfl | rfl | rfl
      · cases ho
        exact stays_loadC rfl Tryd.isAgg3
      · cases ho
        exact stays_loadC rfl Tryd.isAgg3
      · cases ho
        exact stays_allocC rfl Tryd.zeroValue45
      · cases ho
        exact stays_allocC rfl Tryd.zeroValue70
    · have hcx := (hX.cell (p := ⟨rb, 0, none⟩) hltr).trans j0
      simp [go_sem, hcx]
    refine C_take (i := 7) (v := (.int .i64 (gone : Int))) (Cl := Below wr.heap.size wr) (D := [12, 13, 14, 15, 16, 19, 20]) (E := [11, 17, 18]) (some 31) rfl rfl (by kernel_rfl) (fun j hj oj ho => ?_) (fun _ _ _ h => h) HBW.out ⟨rfl, fun X hX => ?_⟩ ?_
    · have hj2 : j = 11 ∨ j = 17 ∨ j = 18 := by simpa using hj
      rcases hj2 with rfl | rfl | rfl
      · cases ho
        exact stays_loadC rfl Tryd.isAgg3
      · cases ho
        exact stays_allocC rfl Tryd.zeroValue45
      · cases ho
        exact stays_allocC rfl Tryd.zeroValue70
    · have hcx := (hX.cell (p := ⟨rb, 1, none⟩) hltr).trans j1
      simp [go_sem, hcx]
    refine C_take (i := 11) (v := (.int .i64 (W : Int))) (Cl := Below wr.heap.size wr) (D := [12, 13, 14, 15, 16, 19, 20]) (E := [17, 18]) (some 35) rfl rfl (by kernel_rfl) (fun j hj oj ho => ?_) (fun _ _ _ h => h) HBW.out ⟨rfl, fun X hX => ?_⟩ ?_
    · have hj2 : j = 17 ∨ j = 18 := by simpa using hj
      rcases hj2 with rfl | rfl
      · cases ho
        exact stays_allocC rfl Tryd.zeroValue45
      · cases ho
        exact stays_allocC rfl Tryd.zeroValue70
    · have hcx := (hX.cell (p := ⟨rb, 2, none⟩) hltr).trans j2
      simp [go_sem, hcx]
    refine A_take (i := 12) (v := (.slice (av.map (fun x => x.add gone)) (W - gone) (cv - gone))) (some 36) rfl rfl (by kernel_rfl) (by kernel_rfl) (by kernel_rfl) (fun _ _ _ h => h) (.inl ⟨rfl, fun w => ?_⟩) ?_
    · simp [go_sem]
      rw [if_pos hWcv, if_pos (show gone ≤ W by omega), if_neg (show ¬ cv = gone by omega)]
    have HBc : Below wr.heap.size wr wr.drew := HBW.out
    refine wpAny_all (rs := [13, 17, 18]) (by kernel_rfl) (by decide) (fun i hi => ?_)
    have hi2 : i = 13 ∨ i = 17 ∨ i = 18 := by simpa using hi
    rcases hi2 with rfl | rfl | rfl
    · refine D_call (f := 33) (args := #[(.slice (av.map (fun x => x.add gone)) (W - gone) (cv - gone))]) (some 37) rfl rfl rfl ?_ ((RC.out _ HBc).mono ?_)
      · simp [go_sem]
      rintro x w2 ⟨r, p, e, a', c', hr, rfl, hby, B2⟩
      refine ⟨_, rfl, ?_⟩
      have hsz := HBc.size
      have HBc := HBc.trans (B2.mono HBc.size)
      have hszw := B2.size
      clear B2
      refine A_take (i := 14) (v := (.tuple #[(rpV r (.slice a' r.body.length c')), (.agg #[(.slice (av.map (fun x => x.add gone)) (W - gone) (cv - gone)), .int .i64 (p : Int), .int .i64 (e : Int)])])) (some 23) rfl rfl (by kernel_rfl) (by kernel_rfl) (by kernel_rfl) (fun _ _ _ h => h) (.inl ⟨rfl, fun w => ?_⟩) ?_
      · simp [go_sem]
      refine A_take (i := 15) (v := (rpV r (.slice a' r.body.length c'))) (some 38) rfl rfl (by kernel_rfl) (by kernel_rfl) (by kernel_rfl) (fun _ _ _ h => h) (.inl ⟨rfl, fun w => ?_⟩) ?_
      · simp [go_sem]
      refine A_take (i := 16) (v := (.agg #[(.slice (av.map (fun x => x.add gone)) (W - gone) (cv - gone)), .int .i64 (p : Int), .int .i64 (e : Int)])) (some 39) rfl rfl (by kernel_rfl) (by kernel_rfl) (by kernel_rfl) (fun _ _ _ h => h) (.inl ⟨rfl, fun w => ?_⟩) ?_
      · simp [go_sem]
      refine wpAny_all (rs := [17, 18]) (by kernel_rfl) (by decide) (fun i hi => ?_)
      have hi2 : i = 17 ∨ i = 18 := by simpa using hi
      rcases hi2 with rfl | rfl
      · refine D_alloc (some 5) 45 #[.int .i64 0, .int .i64 0, .int .i64 0, .string ⟨#[]⟩, .slice none 0 0] rfl rfl rfl rfl Tryd.zeroValue45 rfl (fun b5 Y5 g5 BY5 l5 => ?_)
        have hsz5 := HBc.size
        have l5w : wr.heap.size ≤ b5 := Nat.le_trans hsz5 l5
        have hby := hby.below BY5
        have HBc := HBc.trans (BY5.mono HBc.size)
        clear BY5
        refine wpAny_all (rs := [18]) (by kernel_rfl) (by decide) (fun i hi => ?_)
        obtain rfl : i = 18 := by simpa using hi
        · refine D_alloc (some 6) 70 #[.slice none 0 0, .int .i64 0, .int .i64 0] rfl rfl rfl rfl Tryd.zeroValue70 rfl (fun b6 Y6 g6 BY6 l6 => ?_)
          have hsz6 := HBc.size
          have l6w : wr.heap.size ≤ b6 := Nat.le_trans hsz6 l6
          have l5x := (Array.getElem?_eq_some_iff.1 g5).1
          have g5 := (BY6.block _ l5x).trans g5
          have hby := hby.below BY6
          have HBc := HBc.trans (BY6.mono HBc.size)
          clear BY6
          have hne56 : b5 ≠ b6 := by omega
          have q50 := cells_at g5 (i := 0) rfl
          have q51 := cells_at g5 (i := 1) rfl
          have q52 := cells_at g5 (i := 2) rfl
          have q53 := cells_at g5 (i := 3) rfl
          have q54 := cells_at g5 (i := 4) rfl
          have z5 : ∀ i, Y6.frozen? ⟨b5, i, none⟩ = false := fun i => by simp [World.frozen?, g5]
          refine wpAny_all (rs := [19]) (by kernel_rfl) (by decide) (fun i hi => ?_)
          obtain rfl : i = 19 := by simpa using hi
          refine D_skip (w' := ((((Y6.setCell ⟨b5, 0, none⟩ (.int .i64 r.kind)).setCell ⟨b5, 1, none⟩ (.int .i64 r.id)).setCell ⟨b5, 2, none⟩ (.int .i64 r.num)).setCell ⟨b5, 3, none⟩ (.string ⟨r.tube.toArray⟩)).setCell ⟨b5, 4, none⟩ (.slice a' r.body.length c')) rfl rfl rfl ?_ ?_
          · simp [go_sem, rpV, q50, q51, q52, q53, q54, z5]
          obtain ⟨h6, h7⟩ := set5 g5 (.int .i64 r.kind) (.int .i64 r.id) (.int .i64 r.num) (.string ⟨r.tube.toArray⟩) (.slice a' r.body.length c')
          have g8 := (h7.block b6 (Array.getElem?_eq_some_iff.1 g6).1 (fun e => hne56 (Option.some.inj e).symm)).trans g6
          have B6 := HBc.grown h7 HBc.size (fun k hk => by cases hk; omega)
          have K6 : Kept (fun k => k = b5) Y6 _ := Kept.ofGrown h7 (fun g e => (Option.some.inj e).symm)
          have y6 := hby.kept K6 (hby.notRep (rb := b5) (k := 0) (id := 0) (num := 0) (tube := []) g5 ⟨_, _, _, rfl⟩)
          obtain ⟨Z6, hZ6⟩ : ∃ Z6, Z6 = ((((Y6.setCell ⟨b5, 0, none⟩ (.int .i64 r.kind)).setCell ⟨b5, 1, none⟩ (.int .i64 r.id)).setCell ⟨b5, 2, none⟩ (.int .i64 r.num)).setCell ⟨b5, 3, none⟩ (.string ⟨r.tube.toArray⟩)).setCell ⟨b5, 4, none⟩ (.slice a' r.body.length c') := ⟨_, rfl⟩
          rw [← hZ6] at g8 B6 h6 y6 ⊢
          clear hZ6 h7 q50 q51 q52 q53 q54 z5 K6
          have q60 := cells_at g8 (i := 0) rfl
          have q61 := cells_at g8 (i := 1) rfl
          have q62 := cells_at g8 (i := 2) rfl
          have z6 : ∀ i, Z6.frozen? ⟨b6, i, none⟩ = false := fun i => by simp [World.frozen?, g8]
          refine wpAny_all (rs := [20]) (by kernel_rfl) (by decide) (fun i hi => ?_)
          obtain rfl : i = 20 := by simpa using hi
          refine D_skip (w' := ((Z6.setCell ⟨b6, 0, none⟩ (.slice (av.map (fun x => x.add gone)) (W - gone) (cv - gone))).setCell ⟨b6, 1, none⟩ (.int .i64 (p : Int))).setCell ⟨b6, 2, none⟩ (.int .i64 (e : Int))) rfl rfl rfl ?_ ?_
          · simp [go_sem, q60, q61, q62, z6]
          obtain ⟨g9, g10⟩ := set3 g8 (.slice (av.map (fun x => x.add gone)) (W - gone) (cv - gone)) (.int .i64 (p : Int)) (.int .i64 (e : Int))
          have B7 := B6.grown g10 B6.size (fun k hk => by cases hk; omega)
          have K7 : Kept (fun k => k = b6) Z6 _ := Kept.ofGrown g10 (fun g e => (Option.some.inj e).symm)
          have y7 := y6.kept K7 (y6.not (tb := b6) (a := none) (n := 0) (c := 0) (p := 0) (e := 0) g8)
          have h9 := (K7.block b5 (Array.getElem?_eq_some_iff.1 h6).1 (fun e => hne56 e)).trans h6
          refine wpAny_done (by kernel_rfl) ?_ _
          dsimp only [Act.put]
          simp only [List.setIfInBounds_toArray, List.set_cons_succ, List.set_cons_zero]
          go_wp2_with fail
          go_meet
          exact ⟨b5, b6, r, p, e, a', c', rfl, rfl, hr, h9, g9, y7, B7, l5w, l6w, hne56⟩
      · refine D_alloc (some 6) 70 #[.slice none 0 0, .int .i64 0, .int .i64 0] rfl rfl rfl rfl Tryd.zeroValue70 rfl (fun b6 Y6 g6 BY6 l6 => ?_)
        have hsz6 := HBc.size
        have l6w : wr.heap.size ≤ b6 := Nat.le_trans hsz6 l6
        have hby := hby.below BY6
        have HBc := HBc.trans (BY6.mono HBc.size)
        clear BY6
        refine wpAny_all (rs := [17]) (by kernel_rfl) (by decide) (fun i hi => ?_)
        obtain rfl : i = 17 := by simpa using hi
        · refine D_alloc (some 5) 45 #[.int .i64 0, .int .i64 0, .int .i64 0, .string ⟨#[]⟩, .slice none 0 0] rfl rfl rfl rfl Tryd.zeroValue45 rfl (fun b5 Y5 g5 BY5 l5 => ?_)
          have hsz5 := HBc.size
          have l5w : wr.heap.size ≤ b5 := Nat.le_trans hsz5 l5
          have l6x := (Array.getElem?_eq_some_iff.1 g6).1
          have g6 := (BY5.block _ l6x).trans g6
          have hby := hby.below BY5
          have HBc := HBc.trans (BY5.mono HBc.size)
          clear BY5
          have hne56 : b5 ≠ b6 := by omega
          have q50 := cells_at g5 (i := 0) rfl
          have q51 := cells_at g5 (i := 1) rfl
          have q52 := cells_at g5 (i := 2) rfl
          have q53 := cells_at g5 (i := 3) rfl
          have q54 := cells_at g5 (i := 4) rfl
          have z5 : ∀ i, Y5.frozen? ⟨b5, i, none⟩ = false := fun i => by simp [World.frozen?, g5]
          refine wpAny_all (rs := [19]) (by kernel_rfl) (by decide) (fun i hi => ?_)
          obtain rfl : i = 19 := by simpa using hi
          refine D_skip (w' := ((((Y5.setCell ⟨b5, 0, none⟩ (.int .i64 r.kind)).setCell ⟨b5, 1, none⟩ (.int .i64 r.id)).setCell ⟨b5, 2, none⟩ (.int .i64 r.num)).setCell ⟨b5, 3, none⟩ (.string ⟨r.tube.toArray⟩)).setCell ⟨b5, 4, none⟩ (.slice a' r.body.length c')) rfl rfl rfl ?_ ?_
          · simp [go_sem, rpV, q50, q51, q52, q53, q54, z5]
          obtain ⟨h6, h7⟩ := set5 g5 (.int .i64 r.kind) (.int .i64 r.id) (.int .i64 r.num) (.string ⟨r.tube.toArray⟩) (.slice a' r.body.length c')
          have g8 := (h7.block b6 (Array.getElem?_eq_some_iff.1 g6).1 (fun e => hne56 (Option.some.inj e).symm)).trans g6
          have B6 := HBc.grown h7 HBc.size (fun k hk => by cases hk; omega)
          have K6 : Kept (fun k => k = b5) Y5 _ := Kept.ofGrown h7 (fun g e => (Option.some.inj e).symm)
          have y6 := hby.kept K6 (hby.notRep (rb := b5) (k := 0) (id := 0) (num := 0) (tube := []) g5 ⟨_, _, _, rfl⟩)
          obtain ⟨Z6, hZ6⟩ : ∃ Z6, Z6 = ((((Y5.setCell ⟨b5, 0, none⟩ (.int .i64 r.kind)).setCell ⟨b5, 1, none⟩ (.int .i64 r.id)).setCell ⟨b5, 2, none⟩ (.int .i64 r.num)).setCell ⟨b5, 3, none⟩ (.string ⟨r.tube.toArray⟩)).setCell ⟨b5, 4, none⟩ (.slice a' r.body.length c') := ⟨_, rfl⟩
          rw [← hZ6] at g8 B6 h6 y6 ⊢
          clear hZ6 h7 q50 q51 q52 q53 q54 z5 K6
          have q60 := cells_at g8 (i := 0) rfl
          have q61 := cells_at g8 (i := 1) rfl
          have q62 := cells_at g8 (i := 2) rfl
          have z6 : ∀ i, Z6.frozen? ⟨b6, i, none⟩ = false := fun i => by simp [World.frozen?, g8]
          refine wpAny_all (rs := [20]) (by kernel_rfl) (by decide) (fun i hi => ?_)
          obtain rfl : i = 20 := by simpa using hi
          refine D_skip (w' := ((Z6.setCell ⟨b6, 0, none⟩ (.slice (av.map (fun x => x.add gone)) (W - gone) (cv - gone))).setCell ⟨b6, 1, none⟩ (.int .i64 (p : Int))).setCell ⟨b6, 2, none⟩ (.int .i64 (e : Int))) rfl rfl rfl ?_ ?_
          · simp [go_sem, q60, q61, q62, z6]
          obtain ⟨g9, g10⟩ := set3 g8 (.slice (av.map (fun x => x.add gone)) (W - gone) (cv - gone)) (.int .i64 (p : Int)) (.int .i64 (e : Int))
          have B7 := B6.grown g10 B6.size (fun k hk => by cases hk; omega)
          have K7 : Kept (fun k => k = b6) Z6 _ := Kept.ofGrown g10 (fun g e => (Option.some.inj e).symm)
          have y7 := y6.kept K7 (y6.not (tb := b6) (a := none) (n := 0) (c := 0) (p := 0) (e := 0) g8)
          have h9 := (K7.block b5 (Array.getElem?_eq_some_iff.1 h6).1 (fun e => hne56 e)).trans h6
          refine wpAny_done (by kernel_rfl) ?_ _
          dsimp only [Act.put]
          simp only [List.setIfInBounds_toArray, List.set_cons_succ, List.set_cons_zero]
          go_wp2_with fail
          go_meet
          exact ⟨b5, b6, r, p, e, a', c', rfl, rfl, hr, h9, g9, y7, B7, l5w, l6w, hne56⟩
    · refine D_alloc (some 5) 45 #[.int .i64 0, .int .i64 0, .int .i64 0, .string ⟨#[]⟩, .slice none 0 0] rfl rfl rfl rfl Tryd.zeroValue45 rfl (fun b5 Y5 g5 BY5 l5 => ?_)
      have hsz5 := HBc.size
      have l5w : wr.heap.size ≤ b5 := Nat.le_trans hsz5 l5
      have HBc := HBc.trans (BY5.mono HBc.size)
      clear BY5
      refine wpAny_all (rs := [13, 18]) (by kernel_rfl) (by decide) (fun i hi => ?_)
      have hi2 : i = 13 ∨ i = 18 := by simpa using hi
      rcases hi2 with rfl | rfl
      · refine D_call (f := 33) (args := #[(.slice (av.map (fun x => x.add gone)) (W - gone) (cv - gone))]) (some 37) rfl rfl rfl ?_ ((RC.out _ HBc).mono ?_)
        · simp [go_sem]
        rintro x w2 ⟨r, p, e, a', c', hr, rfl, hby, B2⟩
        refine ⟨_, rfl, ?_⟩
        have hsz := HBc.size
        have HBc := HBc.trans (B2.mono HBc.size)
        have l5x := (Array.getElem?_eq_some_iff.1 g5).1
        have g5 := (B2.block _ l5x).trans g5
        have hszw := B2.size
        clear B2
        refine A_take (i := 14) (v := (.tuple #[(rpV r (.slice a' r.body.length c')), (.agg #[(.slice (av.map (fun x => x.add gone)) (W - gone) (cv - gone)), .int .i64 (p : Int), .int .i64 (e : Int)])])) (some 23) rfl rfl (by kernel_rfl) (by kernel_rfl) (by kernel_rfl) (fun _ _ _ h => h) (.inl ⟨rfl, fun w => ?_⟩) ?_
        · simp [go_sem]
        refine A_take (i := 15) (v := (rpV r (.slice a' r.body.length c'))) (some 38) rfl rfl (by kernel_rfl) (by kernel_rfl) (by kernel_rfl) (fun _ _ _ h => h) (.inl ⟨rfl, fun w => ?_⟩) ?_
        · simp [go_sem]
        refine A_take (i := 16) (v := (.agg #[(.slice (av.map (fun x => x.add gone)) (W - gone) (cv - gone)), .int .i64 (p : Int), .int .i64 (e : Int)])) (some 39) rfl rfl (by kernel_rfl) (by kernel_rfl) (by kernel_rfl) (fun _ _ _ h => h) (.inl ⟨rfl, fun w => ?_⟩) ?_
        · simp [go_sem]
        refine wpAny_all (rs := [18]) (by kernel_rfl) (by decide) (fun i hi => ?_)
        obtain rfl : i = 18 := by simpa using hi
        · refine D_alloc (some 6) 70 #[.slice none 0 0, .int .i64 0, .int .i64 0] rfl rfl rfl rfl Tryd.zeroValue70 rfl (fun b6 Y6 g6 BY6 l6 => ?_)
          have hsz6 := HBc.size
          have l6w : wr.heap.size ≤ b6 := Nat.le_trans hsz6 l6
          have l5x := (Array.getElem?_eq_some_iff.1 g5).1
          have g5 := (BY6.block _ l5x).trans g5
          have hby := hby.below BY6
          have HBc := HBc.trans (BY6.mono HBc.size)
          clear BY6
          have hne56 : b5 ≠ b6 := by omega
          have q50 := cells_at g5 (i := 0) rfl
          have q51 := cells_at g5 (i := 1) rfl
          have q52 := cells_at g5 (i := 2) rfl
          have q53 := cells_at g5 (i := 3) rfl
          have q54 := cells_at g5 (i := 4) rfl
          have z5 : ∀ i, Y6.frozen? ⟨b5, i, none⟩ = false := fun i => by simp [World.frozen?, g5]
          refine wpAny_all (rs := [19]) (by kernel_rfl) (by decide) (fun i hi => ?_)
          obtain rfl : i = 19 := by simpa using hi
          refine D_skip (w' := ((((Y6.setCell ⟨b5, 0, none⟩ (.int .i64 r.kind)).setCell ⟨b5, 1, none⟩ (.int .i64 r.id)).setCell ⟨b5, 2, none⟩ (.int .i64 r.num)).setCell ⟨b5, 3, none⟩ (.string ⟨r.tube.toArray⟩)).setCell ⟨b5, 4, none⟩ (.slice a' r.body.length c')) rfl rfl rfl ?_ ?_
          · simp [go_sem, rpV, q50, q51, q52, q53, q54, z5]
          obtain ⟨h6, h7⟩ := set5 g5 (.int .i64 r.kind) (.int .i64 r.id) (.int .i64 r.num) (.string ⟨r.tube.toArray⟩) (.slice a' r.body.length c')
          have g8 := (h7.block b6 (Array.getElem?_eq_some_iff.1 g6).1 (fun e => hne56 (Option.some.inj e).symm)).trans g6
          have B6 := HBc.grown h7 HBc.size (fun k hk => by cases hk; omega)
          have K6 : Kept (fun k => k = b5) Y6 _ := Kept.ofGrown h7 (fun g e => (Option.some.inj e).symm)
          have y6 := hby.kept K6 (hby.notRep (rb := b5) (k := 0) (id := 0) (num := 0) (tube := []) g5 ⟨_, _, _, rfl⟩)
          obtain ⟨Z6, hZ6⟩ : ∃ Z6, Z6 = ((((Y6.setCell ⟨b5, 0, none⟩ (.int .i64 r.kind)).setCell ⟨b5, 1, none⟩ (.int .i64 r.id)).setCell ⟨b5, 2, none⟩ (.int .i64 r.num)).setCell ⟨b5, 3, none⟩ (.string ⟨r.tube.toArray⟩)).setCell ⟨b5, 4, none⟩ (.slice a' r.body.length c') := ⟨_, rfl⟩
          rw [← hZ6] at g8 B6 h6 y6 ⊢
          clear hZ6 h7 q50 q51 q52 q53 q54 z5 K6
          have q60 := cells_at g8 (i := 0) rfl
          have q61 := cells_at g8 (i := 1) rfl
          have q62 := cells_at g8 (i := 2) rfl
          have z6 : ∀ i, Z6.frozen? ⟨b6, i, none⟩ = false := fun i => by simp [World.frozen?, g8]
          refine wpAny_all (rs := [20]) (by kernel_rfl) (by decide) (fun i hi => ?_)
          obtain rfl : i = 20 := by simpa using hi
          refine D_skip (w' := ((Z6.setCell ⟨b6, 0, none⟩ (.slice (av.map (fun x => x.add gone)) (W - gone) (cv - gone))).setCell ⟨b6, 1, none⟩ (.int .i64 (p : Int))).setCell ⟨b6, 2, none⟩ (.int .i64 (e : Int))) rfl rfl rfl ?_ ?_
          · simp [go_sem, q60, q61, q62, z6]
          obtain ⟨g9, g10⟩ := set3 g8 (.slice (av.map (fun x => x.add gone)) (W - gone) (cv - gone)) (.int .i64 (p : Int)) (.int .i64 (e : Int))
          have B7 := B6.grown g10 B6.size (fun k hk => by cases hk; omega)
          have K7 : Kept (fun k => k = b6) Z6 _ := Kept.ofGrown g10 (fun g e => (Option.some.inj e).symm)
          have y7 := y6.kept K7 (y6.not (tb := b6) (a := none) (n := 0) (c := 0) (p := 0) (e := 0) g8)
          have h9 := (K7.block b5 (Array.getElem?_eq_some_iff.1 h6).1 (fun e => hne56 e)).trans h6
          refine wpAny_done (by kernel_rfl) ?_ _
          dsimp only [Act.put]
          simp only [List.setIfInBounds_toArray, List.set_cons_succ, List.set_cons_zero]
          go_wp2_with fail
          go_meet
          exact ⟨b5, b6, r, p, e, a', c', rfl, rfl, hr, h9, g9, y7, B7, l5w, l6w, hne56⟩
      · refine D_alloc (some 6) 70 #[.slice none 0 0, .int .i64 0, .int .i64 0] rfl rfl rfl rfl Tryd.zeroValue70 rfl (fun b6 Y6 g6 BY6 l6 => ?_)
        have hsz6 := HBc.size
        have l6w : wr.heap.size ≤ b6 := Nat.le_trans hsz6 l6
        have l5x := (Array.getElem?_eq_some_iff.1 g5).1
        have g5 := (BY6.block _ l5x).trans g5
        have HBc := HBc.trans (BY6.mono HBc.size)
        clear BY6
        refine wpAny_all (rs := [13]) (by kernel_rfl) (by decide) (fun i hi => ?_)
        obtain rfl : i = 13 := by simpa using hi
        · refine D_call (f := 33) (args := #[(.slice (av.map (fun x => x.add gone)) (W - gone) (cv - gone))]) (some 37) rfl rfl rfl ?_ ((RC.out _ HBc).mono ?_)
          · simp [go_sem]
          rintro x w2 ⟨r, p, e, a', c', hr, rfl, hby, B2⟩
          refine ⟨_, rfl, ?_⟩
          have hsz := HBc.size
          have HBc := HBc.trans (B2.mono HBc.size)
          have l5x := (Array.getElem?_eq_some_iff.1 g5).1
          have g5 := (B2.block _ l5x).trans g5
          have l6x := (Array.getElem?_eq_some_iff.1 g6).1
          have g6 := (B2.block _ l6x).trans g6
          have hszw := B2.size
          clear B2
          refine A_take (i := 14) (v := (.tuple #[(rpV r (.slice a' r.body.length c')), (.agg #[(.slice (av.map (fun x => x.add gone)) (W - gone) (cv - gone)), .int .i64 (p : Int), .int .i64 (e : Int)])])) (some 23) rfl rfl (by kernel_rfl) (by kernel_rfl) (by kernel_rfl) (fun _ _ _ h => h) (.inl ⟨rfl, fun w => ?_⟩) ?_
          · simp [go_sem]
          refine A_take (i := 15) (v := (rpV r (.slice a' r.body.length c'))) (some 38) rfl rfl (by kernel_rfl) (by kernel_rfl) (by kernel_rfl) (fun _ _ _ h => h) (.inl ⟨rfl, fun w => ?_⟩) ?_
          · simp [go_sem]
          refine A_take (i := 16) (v := (.agg #[(.slice (av.map (fun x => x.add gone)) (W - gone) (cv - gone)), .int .i64 (p : Int), .int .i64 (e : Int)])) (some 39) rfl rfl (by kernel_rfl) (by kernel_rfl) (by kernel_rfl) (fun _ _ _ h => h) (.inl ⟨rfl, fun w => ?_⟩) ?_
          · simp [go_sem]
          have hne56 : b5 ≠ b6 := by omega
          have q50 := cells_at g5 (i := 0) rfl
          have q51 := cells_at g5 (i := 1) rfl
          have q52 := cells_at g5 (i := 2) rfl
          have q53 := cells_at g5 (i := 3) rfl
          have q54 := cells_at g5 (i := 4) rfl
          have z5 : ∀ i, w2.frozen? ⟨b5, i, none⟩ = false := fun i => by simp [World.frozen?, g5]
          refine wpAny_all (rs := [19]) (by kernel_rfl) (by decide) (fun i hi => ?_)
          obtain rfl : i = 19 := by simpa using hi
          refine D_skip (w' := ((((w2.setCell ⟨b5, 0, none⟩ (.int .i64 r.kind)).setCell ⟨b5, 1, none⟩ (.int .i64 r.id)).setCell ⟨b5, 2, none⟩ (.int .i64 r.num)).setCell ⟨b5, 3, none⟩ (.string ⟨r.tube.toArray⟩)).setCell ⟨b5, 4, none⟩ (.slice a' r.body.length c')) rfl rfl rfl ?_ ?_
          · simp [go_sem, rpV, q50, q51, q52, q53, q54, z5]
          obtain ⟨h6, h7⟩ := set5 g5 (.int .i64 r.kind) (.int .i64 r.id) (.int .i64 r.num) (.string ⟨r.tube.toArray⟩) (.slice a' r.body.length c')
          have g8 := (h7.block b6 (Array.getElem?_eq_some_iff.1 g6).1 (fun e => hne56 (Option.some.inj e).symm)).trans g6
          have B6 := HBc.grown h7 HBc.size (fun k hk => by cases hk; omega)
          have K6 : Kept (fun k => k = b5) w2 _ := Kept.ofGrown h7 (fun g e => (Option.some.inj e).symm)
          have y6 := hby.kept K6 (hby.notRep (rb := b5) (k := 0) (id := 0) (num := 0) (tube := []) g5 ⟨_, _, _, rfl⟩)
          obtain ⟨Z6, hZ6⟩ : ∃ Z6, Z6 = ((((w2.setCell ⟨b5, 0, none⟩ (.int .i64 r.kind)).setCell ⟨b5, 1, none⟩ (.int .i64 r.id)).setCell ⟨b5, 2, none⟩ (.int .i64 r.num)).setCell ⟨b5, 3, none⟩ (.string ⟨r.tube.toArray⟩)).setCell ⟨b5, 4, none⟩ (.slice a' r.body.length c') := ⟨_, rfl⟩
          rw [← hZ6] at g8 B6 h6 y6 ⊢
          clear hZ6 h7 q50 q51 q52 q53 q54 z5 K6
          have q60 := cells_at g8 (i := 0) rfl
          have q61 := cells_at g8 (i := 1) rfl
          have q62 := cells_at g8 (i := 2) rfl
          have z6 : ∀ i, Z6.frozen? ⟨b6, i, none⟩ = false := fun i => by simp [World.frozen?, g8]
          refine wpAny_all (rs := [20]) (by kernel_rfl) (by decide) (fun i hi => ?_)
          obtain rfl : i = 20 := by simpa using hi
          refine D_skip (w' := ((Z6.setCell ⟨b6, 0, none⟩ (.slice (av.map (fun x => x.add gone)) (W - gone) (cv - gone))).setCell ⟨b6, 1, none⟩ (.int .i64 (p : Int))).setCell ⟨b6, 2, none⟩ (.int .i64 (e : Int))) rfl rfl rfl ?_ ?_
          · simp [go_sem, q60, q61, q62, z6]
          obtain ⟨g9, g10⟩ := set3 g8 (.slice (av.map (fun x => x.add gone)) (W - gone) (cv - gone)) (.int .i64 (p : Int)) (.int .i64 (e : Int))
          have B7 := B6.grown g10 B6.size (fun k hk => by cases hk; omega)
          have K7 : Kept (fun k => k = b6) Z6 _ := Kept.ofGrown g10 (fun g e => (Option.some.inj e).symm)
          have y7 := y6.kept K7 (y6.not (tb := b6) (a := none) (n := 0) (c := 0) (p := 0) (e := 0) g8)
          have h9 := (K7.block b5 (Array.getElem?_eq_some_iff.1 h6).1 (fun e => hne56 e)).trans h6
          refine wpAny_done (by kernel_rfl) ?_ _
          dsimp only [Act.put]
          simp only [List.setIfInBounds_toArray, List.set_cons_succ, List.set_cons_zero]
          go_wp2_with fail
          go_meet
          exact ⟨b5, b6, r, p, e, a', c', rfl, rfl, hr, h9, g9, y7, B7, l5w, l6w, hne56⟩
    · refine D_alloc (some 6) 70 #[.slice none 0 0, .int .i64 0, .int .i64 0] rfl rfl rfl rfl Tryd.zeroValue70 rfl (fun b6 Y6 g6 BY6 l6 => ?_)
      have hsz6 := HBc.size
      have l6w : wr.heap.size ≤ b6 := Nat.le_trans hsz6 l6
      have HBc := HBc.trans (BY6.mono HBc.size)
      clear BY6
      refine wpAny_all (rs := [13, 17]) (by kernel_rfl) (by decide) (fun i hi => ?_)
      have hi2 : i = 13 ∨ i = 17 := by simpa using hi
      rcases hi2 with rfl | rfl
      · refine D_call (f := 33) (args := #[(.slice (av.map (fun x => x.add gone)) (W - gone) (cv - gone))]) (some 37) rfl rfl rfl ?_ ((RC.out _ HBc).mono ?_)
        · simp [go_sem]
        rintro x w2 ⟨r, p, e, a', c', hr, rfl, hby, B2⟩
        refine ⟨_, rfl, ?_⟩
        have hsz := HBc.size
        have HBc := HBc.trans (B2.mono HBc.size)
        have l6x := (Array.getElem?_eq_some_iff.1 g6).1
        have g6 := (B2.block _ l6x).trans g6
        have hszw := B2.size
        clear B2
        refine A_take (i := 14) (v := (.tuple #[(rpV r (.slice a' r.body.length c')), (.agg #[(.slice (av.map (fun x => x.add gone)) (W - gone) (cv - gone)), .int .i64 (p : Int), .int .i64 (e : Int)])])) (some 23) rfl rfl (by kernel_rfl) (by kernel_rfl) (by kernel_rfl) (fun _ _ _ h => h) (.inl ⟨rfl, fun w => ?_⟩) ?_
        · simp [go_sem]
        refine A_take (i := 15) (v := (rpV r (.slice a' r.body.length c'))) (some 38) rfl rfl (by kernel_rfl) (by kernel_rfl) (by kernel_rfl) (fun _ _ _ h => h) (.inl ⟨rfl, fun w => ?_⟩) ?_
        · simp [go_sem]
        refine A_take (i := 16) (v := (.agg #[(.slice (av.map (fun x => x.add gone)) (W - gone) (cv - gone)), .int .i64 (p : Int), .int .i64 (e : Int)])) (some 39) rfl rfl (by kernel_rfl) (by kernel_rfl) (by kernel_rfl) (fun _ _ _ h => h) (.inl ⟨rfl, fun w => ?_⟩) ?_
        · simp [go_sem]
        refine wpAny_all (rs := [17]) (by kernel_rfl) (by decide) (fun i hi => ?_)
        obtain rfl : i = 17 := by simpa using hi
        · refine D_alloc (some 5) 45 #[.int .i64 0, .int .i64 0, .int .i64 0, .string ⟨#[]⟩, .slice none 0 0] rfl rfl rfl rfl Tryd.zeroValue45 rfl (fun b5 Y5 g5 BY5 l5 => ?_)
          have hsz5 := HBc.size
          have l5w : wr.heap.size ≤ b5 := Nat.le_trans hsz5 l5
          have l6x := (Array.getElem?_eq_some_iff.1 g6).1
          have g6 := (BY5.block _ l6x).trans g6
          have hby := hby.below BY5
          have HBc := HBc.trans (BY5.mono HBc.size)
          clear BY5
          have hne56 : b5 ≠ b6 := by omega
          have q50 := cells_at g5 (i := 0) rfl
          have q51 := cells_at g5 (i := 1) rfl
          have q52 := cells_at g5 (i := 2) rfl
          have q53 := cells_at g5 (i := 3) rfl
          have q54 := cells_at g5 (i := 4) rfl
          have z5 : ∀ i, Y5.frozen? ⟨b5, i, none⟩ = false := fun i => by simp [World.frozen?, g5]
          refine wpAny_all (rs := [19]) (by kernel_rfl) (by decide) (fun i hi => ?_)
          obtain rfl : i = 19 := by simpa using hi
          refine D_skip (w' := ((((Y5.setCell ⟨b5, 0, none⟩ (.int .i64 r.kind)).setCell ⟨b5, 1, none⟩ (.int .i64 r.id)).setCell ⟨b5, 2, none⟩ (.int .i64 r.num)).setCell ⟨b5, 3, none⟩ (.string ⟨r.tube.toArray⟩)).setCell ⟨b5, 4, none⟩ (.slice a' r.body.length c')) rfl rfl rfl ?_ ?_
          · simp [go_sem, rpV, q50, q51, q52, q53, q54, z5]
          obtain ⟨h6, h7⟩ := set5 g5 (.int .i64 r.kind) (.int .i64 r.id) (.int .i64 r.num) (.string ⟨r.tube.toArray⟩) (.slice a' r.body.length c')
          have g8 := (h7.block b6 (Array.getElem?_eq_some_iff.1 g6).1 (fun e => hne56 (Option.some.inj e).symm)).trans g6
          have B6 := HBc.grown h7 HBc.size (fun k hk => by cases hk; omega)
          have K6 : Kept (fun k => k = b5) Y5 _ := Kept.ofGrown h7 (fun g e => (Option.some.inj e).symm)
          have y6 := hby.kept K6 (hby.notRep (rb := b5) (k := 0) (id := 0) (num := 0) (tube := []) g5 ⟨_, _, _, rfl⟩)
          obtain ⟨Z6, hZ6⟩ : ∃ Z6, Z6 = ((((Y5.setCell ⟨b5, 0, none⟩ (.int .i64 r.kind)).setCell ⟨b5, 1, none⟩ (.int .i64 r.id)).setCell ⟨b5, 2, none⟩ (.int .i64 r.num)).setCell ⟨b5, 3, none⟩ (.string ⟨r.tube.toArray⟩)).setCell ⟨b5, 4, none⟩ (.slice a' r.body.length c') := ⟨_, rfl⟩
          rw [← hZ6] at g8 B6 h6 y6 ⊢
          clear hZ6 h7 q50 q51 q52 q53 q54 z5 K6
          have q60 := cells_at g8 (i := 0) rfl
          have q61 := cells_at g8 (i := 1) rfl
          have q62 := cells_at g8 (i := 2) rfl
          have z6 : ∀ i, Z6.frozen? ⟨b6, i, none⟩ = false := fun i => by simp [World.frozen?, g8]
          refine wpAny_all (rs := [20]) (by kernel_rfl) (by decide) (fun i hi => ?_)
          obtain rfl : i = 20 := by simpa using hi
          refine D_skip (w' := ((Z6.setCell ⟨b6, 0, none⟩ (.slice (av.map (fun x => x.add gone)) (W - gone) (cv - gone))).setCell ⟨b6, 1, none⟩ (.int .i64 (p : Int))).setCell ⟨b6, 2, none⟩ (.int .i64 (e : Int))) rfl rfl rfl ?_ ?_
          · simp [go_sem, q60, q61, q62, z6]
          obtain ⟨g9, g10⟩ := set3 g8 (.slice (av.map (fun x => x.add gone)) (W - gone) (cv - gone)) (.int .i64 (p : Int)) (.int .i64 (e : Int))
          have B7 := B6.grown g10 B6.size (fun k hk => by cases hk; omega)
          have K7 : Kept (fun k => k = b6) Z6 _ := Kept.ofGrown g10 (fun g e => (Option.some.inj e).symm)
          have y7 := y6.kept K7 (y6.not (tb := b6) (a := none) (n := 0) (c := 0) (p := 0) (e := 0) g8)
          have h9 := (K7.block b5 (Array.getElem?_eq_some_iff.1 h6).1 (fun e => hne56 e)).trans h6
          refine wpAny_done (by kernel_rfl) ?_ _
          dsimp only [Act.put]
          simp only [List.setIfInBounds_toArray, List.set_cons_succ, List.set_cons_zero]
          go_wp2_with fail
          go_meet
          exact ⟨b5, b6, r, p, e, a', c', rfl, rfl, hr, h9, g9, y7, B7, l5w, l6w, hne56⟩
      · refine D_alloc (some 5) 45 #[.int .i64 0, .int .i64 0, .int .i64 0, .string ⟨#[]⟩, .slice none 0 0] rfl rfl rfl rfl Tryd.zeroValue45 rfl (fun b5 Y5 g5 BY5 l5 => ?_)
        have hsz5 := HBc.size
        have l5w : wr.heap.size ≤ b5 := Nat.le_trans hsz5 l5
        have l6x := (Array.getElem?_eq_some_iff.1 g6).1
        have g6 := (BY5.block _ l6x).trans g6
        have HBc := HBc.trans (BY5.mono HBc.size)
        clear BY5
        refine wpAny_all (rs := [13]) (by kernel_rfl) (by decide) (fun i hi => ?_)
        obtain rfl : i = 13 := by simpa using hi
        · refine D_call (f := 33) (args := #[(.slice (av.map (fun x => x.add gone)) (W - gone) (cv - gone))]) (some 37) rfl rfl rfl ?_ ((RC.out _ HBc).mono ?_)
          · simp [go_sem]
          rintro x w2 ⟨r, p, e, a', c', hr, rfl, hby, B2⟩
          refine ⟨_, rfl, ?_⟩
          have hsz := HBc.size
          have HBc := HBc.trans (B2.mono HBc.size)
          have l5x := (Array.getElem?_eq_some_iff.1 g5).1
          have g5 := (B2.block _ l5x).trans g5
          have l6x := (Array.getElem?_eq_some_iff.1 g6).1
          have g6 := (B2.block _ l6x).trans g6
          have hszw := B2.size
          clear B2
          refine A_take (i := 14) (v := (.tuple #[(rpV r (.slice a' r.body.length c')), (.agg #[(.slice (av.map (fun x => x.add gone)) (W - gone) (cv - gone)), .int .i64 (p : Int), .int .i64 (e : Int)])])) (some 23) rfl rfl (by kernel_rfl) (by kernel_rfl) (by kernel_rfl) (fun _ _ _ h => h) (.inl ⟨rfl, fun w => ?_⟩) ?_
          · simp [go_sem]
          refine A_take (i := 15) (v := (rpV r (.slice a' r.body.length c'))) (some 38) rfl rfl (by kernel_rfl) (by kernel_rfl) (by kernel_rfl) (fun _ _ _ h => h) (.inl ⟨rfl, fun w => ?_⟩) ?_
          · simp [go_sem]
          refine A_take (i := 16) (v := (.agg #[(.slice (av.map (fun x => x.add gone)) (W - gone) (cv - gone)), .int .i64 (p : Int), .int .i64 (e : Int)])) (some 39) rfl rfl (by kernel_rfl) (by kernel_rfl) (by kernel_rfl) (fun _ _ _ h => h) (.inl ⟨rfl, fun w => ?_⟩) ?_
          · simp [go_sem]
          have hne56 : b5 ≠ b6 := by omega
          have q50 := cells_at g5 (i := 0) rfl
          have q51 := cells_at g5 (i := 1) rfl
          have q52 := cells_at g5 (i := 2) rfl
          have q53 := cells_at g5 (i := 3) rfl
          have q54 := cells_at g5 (i := 4) rfl
          have z5 : ∀ i, w2.frozen? ⟨b5, i, none⟩ = false := fun i => by simp [World.frozen?, g5]
          refine wpAny_all (rs := [19]) (by kernel_rfl) (by decide) (fun i hi => ?_)
          obtain rfl : i = 19 := by simpa using hi
          refine D_skip (w' := ((((w2.setCell ⟨b5, 0, none⟩ (.int .i64 r.kind)).setCell ⟨b5, 1, none⟩ (.int .i64 r.id)).setCell ⟨b5, 2, none⟩ (.int .i64 r.num)).setCell ⟨b5, 3, none⟩ (.string ⟨r.tube.toArray⟩)).setCell ⟨b5, 4, none⟩ (.slice a' r.body.length c')) rfl rfl rfl ?_ ?_
          · simp [go_sem, rpV, q50, q51, q52, q53, q54, z5]
          obtain ⟨h6, h7⟩ := set5 g5 (.int .i64 r.kind) (.int .i64 r.id) (.int .i64 r.num) (.string ⟨r.tube.toArray⟩) (.slice a' r.body.length c')
          have g8 := (h7.block b6 (Array.getElem?_eq_some_iff.1 g6).1 (fun e => hne56 (Option.some.inj e).symm)).trans g6
          have B6 := HBc.grown h7 HBc.size (fun k hk => by cases hk; omega)
          have K6 : Kept (fun k => k = b5) w2 _ := Kept.ofGrown h7 (fun g e => (Option.some.inj e).symm)
          have y6 := hby.kept K6 (hby.notRep (rb := b5) (k := 0) (id := 0) (num := 0) (tube := []) g5 ⟨_, _, _, rfl⟩)
          obtain ⟨Z6, hZ6⟩ : ∃ Z6, Z6 = ((((w2.setCell ⟨b5, 0, none⟩ (.int .i64 r.kind)).setCell ⟨b5, 1, none⟩ (.int .i64 r.id)).setCell ⟨b5, 2, none⟩ (.int .i64 r.num)).setCell ⟨b5, 3, none⟩ (.string ⟨r.tube.toArray⟩)).setCell ⟨b5, 4, none⟩ (.slice a' r.body.length c') := ⟨_, rfl⟩
          rw [← hZ6] at g8 B6 h6 y6 ⊢
          clear hZ6 h7 q50 q51 q52 q53 q54 z5 K6
          have q60 := cells_at g8 (i := 0) rfl
          have q61 := cells_at g8 (i := 1) rfl
          have q62 := cells_at g8 (i := 2) rfl
          have z6 : ∀ i, Z6.frozen? ⟨b6, i, none⟩ = false := fun i => by simp [World.frozen?, g8]
          refine wpAny_all (rs := [20]) (by kernel_rfl) (by decide) (fun i hi => ?_)
          obtain rfl : i = 20 := by simpa using hi
          refine D_skip (w' := ((Z6.setCell ⟨b6, 0, none⟩ (.slice (av.map (fun x => x.add gone)) (W - gone) (cv - gone))).setCell ⟨b6, 1, none⟩ (.int .i64 (p : Int))).setCell ⟨b6, 2, none⟩ (.int .i64 (e : Int))) rfl rfl rfl ?_ ?_
          · simp [go_sem, q60, q61, q62, z6]
          obtain ⟨g9, g10⟩ := set3 g8 (.slice (av.map (fun x => x.add gone)) (W - gone) (cv - gone)) (.int .i64 (p : Int)) (.int .i64 (e : Int))
          have B7 := B6.grown g10 B6.size (fun k hk => by cases hk; omega)
          have K7 : Kept (fun k => k = b6) Z6 _ := Kept.ofGrown g10 (fun g e => (Option.some.inj e).symm)
          have y7 := y6.kept K7 (y6.not (tb := b6) (a := none) (n := 0) (c := 0) (p := 0) (e := 0) g8)
          have h9 := (K7.block b5 (Array.getElem?_eq_some_iff.1 h6).1 (fun e => hne56 e)).trans h6
          refine wpAny_done (by kernel_rfl) ?_ _
          dsimp only [Act.put]
          simp only [List.setIfInBounds_toArray, List.set_cons_succ, List.set_cons_zero]
          go_wp2_with fail
          go_meet
          exact ⟨b5, b6, r, p, e, a', c', rfl, rfl, hr, h9, g9, y7, B7, l5w, l6w, hne56⟩
  case rest =>
    obtain ⟨b5, b6, r, p, e, a', c', rfl, rfl, HP, HG5, HG6, HBY, HBX2, HL5, HL6, HNE⟩ := hcut
    have hRR : R = (r, p, e) := HP.out.symm
    obtain ⟨h00, h01, h02, h03⟩ := HNX.out
    rw [hRR] at h00 h02 h03
    have hbl : r.body.length ≤ 4294967295 := by
      have h1 := read_put (b := A.drop g) (by rw [← HRR.out, hRR]; exact h00)
      rw [← HRR.out, hRR] at h1
      have h2 := right_facts (r := r) h1.2
      have h3 := table r.kind.toNat (by have := h2.1; have := h2.2.1; omega)
      have h4 := h2.2.2.2.2.2.2.1
      have h4 : (r.body.length : Int) ≤ boOf r.kind.toNat := h4
      omega
    have hgp : gone + p ≤ W := by
      obtain ⟨q1, q2, q3, q4⟩ := HEQ.out
      rw [q1, q2]
      exact h02
    have HI3 := hide h03
    have HBL := hide hbl
    have n1 : rb ≠ b5 := by have := HL5.out; omega
    have n2 : rb ≠ b6 := by have := HL6.out; omega
    have n3 : w.heap.size ≠ b5 := by have := HL5.out; omega
    have n4 : w.heap.size ≠ b6 := by have := HL6.out; omega
    have n5 : rb ≠ w.heap.size := by omega
    have n6 : b5 ≠ b6 := HNE.out
    have t4 := cells_at HG5.out (i := 4) rfl
    have tl5 := (Array.getElem?_eq_some_iff.1 HG5.out).1
    clear h00 h01 h02 h03 hbl RC HBW j0 j1 j2 j3 j4
    go_wp2_with (first
      | (go_at_call 34
         refine (copyOf_any a' c' r.body _ HBY.out (by have := HBL.out; omega)).mono ?_
         rintro x w3 ⟨a3, c3, rfl, o3, B3⟩
         have g5 := (B3.block b5 tl5).trans HG5.out
         have g6 := (B3.block b6 (Array.getElem?_eq_some_iff.1 HG6.out).1).trans HG6.out
         have BX3 := hide (HBX2.out.trans (B3.mono HBX2.out.size))
         have O3 := hide o3
         have G5 := hide g5
         have G6 := hide g6
         have bx3 : RdBox w3 rb _ gone W lk sp := (BX3.out.block rb hltr).trans BXR.out
         have RES3 : RepAt w3 w.heap.size 0 0 0 [] (.slice none 0 0) := (BX3.out.block w.heap.size (by omega)).trans HRES.out
         have BXR3 := hide bx3
         have HRES3 := hide RES3
         have u4 := cells_at g5 (i := 4) rfl
         have uf4 : w3.frozen? ⟨b5, 4, none⟩ = false := by simp [World.frozen?, g5]
         have ul5 := (Array.getElem?_eq_some_iff.1 g5).1
         clear o3 B3 g5 g6 bx3 RES3))
    obtain ⟨W4, hW4⟩ : ∃ W4, W4 = w3.setCell ⟨b5, 4, none⟩ (.slice a3 r.body.length c3) := ⟨_, rfl⟩
    rw [← hW4]
    have K4 : Kept (fun k => k = b5) w3 W4 := by rw [hW4]; exact setK _ _ _ _
    have g5 : W4.heap[b5]? = some (.cells #[.int .i64 r.kind, .int .i64 r.id, .int .i64 r.num, .string ⟨r.tube.toArray⟩, .slice a3 r.body.length c3] 45 (0, 0)) := by rw [hW4, (set_cells G5.out 4 _).1]; simp
    have g6 := (K4.block b6 (Array.getElem?_eq_some_iff.1 G6.out).1 (fun e => n6 e.symm)).trans G6.out
    have bx4 := BXR3.out.kept K4 (fun e => n1 e)
    have RES4 := HRES3.out.kept K4 (fun e => n3 e)
    have B4 : Below wr.heap.size wr W4 := BX3.out.grown (by rw [hW4]; exact (set_cells G5.out 4 _).2) BX3.out.size (fun k hk => by cases hk; exact HL5.out)
    have o4 : Own W4 w.heap.size (.slice a3 r.body.length c3) r.body := (O3.out.kept K4 (fun k hk e => by have := (O3.out.old k hk).1; have e : k = b5 := e; have := tl5; omega)).mono (by have := HBX2.out.size; omega)
    have OX4 := OXR.out.below B4
    have ho3 := O3.out.old
    have HO4 := hide o4
    have HOX4 := hide OX4
    have G5 := hide g5
    have HBX4 := hide bx4
    have HRES4 := hide RES4
    have HB4 := hide B4
    have HOLD : Hid (∀ k, Value.ownBlock (.slice a3 r.body.length c3) = some k → wr.heap.size ≤ k ∧ k ≠ b5) := fun k hk => by have := (ho3 k hk).1; have := HBX2.out.size; exact ⟨by omega, by omega⟩
    obtain ⟨m0, m1, m2, m3, m4⟩ := bx4.cell
    have mf1 := bx4.free 1
    have ml := bx4.lt
    have p1 := cells_at g6 (i := 1) rfl
    have pl := (Array.getElem?_eq_some_iff.1 g6).1
    have HK1 : Hid (∀ Y, Y = (W4.setCell ⟨rb, 1, none⟩ (.int .i64 ((gone : Int) + (p : Int)))) → RdBox Y rb (.slice av n cv) (gone + p) W lk sp ∧ Own Y 0 (.slice av n cv) s.came ∧ Own Y w.heap.size (.slice a3 r.body.length c3) r.body ∧ Y.heap[b5]? = some (.cells #[.int .i64 r.kind, .int .i64 r.id, .int .i64 r.num, .string ⟨r.tube.toArray⟩, .slice a3 r.body.length c3] 45 (0, 0)) ∧ RepAt Y w.heap.size 0 0 0 [] (.slice none 0 0) ∧ Kept (Mine rb (.slice av n cv)) w Y) := by
      intro Y hY
      have KY : Kept (fun k => k = rb) W4 Y := by rw [hY]; exact setK _ _ _ _
      refine ⟨?_, (by rw [HN.out]; exact HOX4.out.kept KY (HOX4.out.apart HBX4.out)), HO4.out.kept KY (HO4.out.apart HBX4.out), (KY.block b5 (Array.getElem?_eq_some_iff.1 G5.out).1 (fun e => n1 e.symm)).trans G5.out, HRES4.out.kept KY (fun e => n5 e.symm), ((Kept.ofBelow (P := Mine rb (.slice av n cv)) HB0.out).trans (Kept.ofBelow HB4.out)).trans (KY.mono (fun _ _ h => Or.inl h))⟩
      rw [hY]
      have := HBX4.out.set.2.1 (gone + p)
      rw [Int.natCast_add] at this
      exact this
    clear hW4 K4 g5 g6 bx4 RES4 B4 o4 OX4 ho3 u4 uf4 ul5
    have hEQ := HEQ.out
    obtain ⟨q1, q2, q3, q4⟩ := hEQ
    have hlkW : W ≤ lk := by rw [q2, q3]; exact hwl
    have hlkb : lk ≤ 8589934592 := by rw [q3]; omega
    have HQ := hide (And.intro q1 (And.intro q2 (And.intro q3 q4)))
    have HI9 : Hid (Inv A (g + p) ⟨s.came, gone + p, W, lk, sp⟩) := by
      have := HI3.out
      show Inv A (g + p) ⟨s.came, gone + p, W, lk, sp⟩
      rw [q1, q2, q3, q4]
      exact this
    have HLA : Hid (lk ≤ A.length + 4294967295) := by show lk ≤ _; rw [q3]; exact hll
    have HH5 : Hid (∀ k, Mine rb (.slice av n cv) k → 5 ≤ k) := by rw [HN.out]; exact h5
    clear q1 q2 q3 q4
    by_cases hkp : n - (gone + p) ≤ gone + p
    · go_wp2_with fail
      go_region
      go_wp2_with fail
      go_region
      go_wp2_with fail
      obtain ⟨y1, y2, y3, y4, y5, y6⟩ := HK1.out _ rfl
      refine (keep_any (W4.setCell ⟨rb, 1, none⟩ (.int .i64 ((gone : Int) + (p : Int)))).drew.drew rb (.slice av n cv) s.came (gone + p) W lk sp n y1 y2 (by omega) (by rw [HN.out]; exact Nat.le_refl _) hgp (by omega) (by rw [← HN.out]; omega) (by omega) (by omega)).mono ?_
      rintro x w6 ⟨rfl, v9, b9, o9', K6⟩
      have hYs : wr.heap.size ≤ W4.heap.size := HB4.out.size
      have g5e := (K6.block b5 (Array.getElem?_eq_some_iff.1 y4).1 (fun e => n1 e.symm)).trans y4
      have RESe := RepAt.kept (w := (W4.setCell ⟨rb, 1, none⟩ (.int .i64 ((gone : Int) + (p : Int)))).drew.drew) y5 K6 (fun e => n5 e.symm)
      have o3e := Own.kept (w := (W4.setCell ⟨rb, 1, none⟩ (.int .i64 ((gone : Int) + (p : Int)))).drew.drew) y3 K6 (fun k hk e => by have := (HOLD.out k hk).1; have e : k = rb := e; omega)
      have o9 := o9'.mono (Nat.zero_le _)
      have h9 : ∀ k, v9.ownBlock = some k → k ≠ w.heap.size := fun k hk e => by have h := (o9'.old k hk).1; have h : (W4.setCell ⟨rb, 1, none⟩ (.int .i64 ((gone : Int) + (p : Int)))).drew.drew.heap.size ≤ k := h; simp at h; omega
      have i9 := HI9.out.keep
      obtain ⟨s9, hs9⟩ : ∃ s9 : Rd, s9 = ⟨(s.came.drop (gone + p)).take (n - (gone + p)), 0, W - (gone + p), lk - (gone + p), sp⟩ := ⟨_, rfl⟩
      have i9 : Inv A (g + p) s9 := by rw [hs9, HN.out]; exact i9
      have b9 : RdBox w6 rb v9 s9.gone s9.whole s9.look s9.spoilt := by rw [hs9]; exact b9
      have o9 : Own w6 0 v9 s9.came := by rw [hs9]; exact o9
      have w9 : s9.whole ≤ s9.look := by rw [hs9]; show W - (gone + p) ≤ lk - (gone + p); omega
      have l9 : s9.look ≤ A.length + 4294967295 := by rw [hs9]; show lk - (gone + p) ≤ _; have := HLA.out; omega
      have m9 : s9.came.length ≤ A.length := by rw [hs9]; show ((s.came.drop (gone + p)).take (n - (gone + p))).length ≤ _; rw [List.length_take]; omega
      have f9 : ∀ k, Mine rb v9 k → 5 ≤ k := by
        rintro k (rfl | hk)
        · exact hrb5
        · have h := (o9'.old k hk).1
          have h : (W4.setCell ⟨rb, 1, none⟩ (.int .i64 ((gone : Int) + (p : Int)))).drew.drew.heap.size ≤ k := h
          simp at h
          omega
      have x9 : ∀ k, Mine rb v9 k → Mine rb (.slice av s.came.length cv) k ∨ w.heap.size ≤ k := by
        rintro k (rfl | hk)
        · exact .inl (.inl rfl)
        · have h := (o9'.old k hk).1
          have h : (W4.setCell ⟨rb, 1, none⟩ (.int .i64 ((gone : Int) + (p : Int)))).drew.drew.heap.size ≤ k := h
          simp at h
          exact .inr (by omega)
      have K9 : Kept (Mine rb (.slice av s.came.length cv)) w w6 := by
        rw [← HN.out]
        exact y6.drew.drew.trans (K6.mono (fun _ _ h => Or.inl h))
      have P9 : ∀ k, Value.ownBlock (.slice a3 r.body.length c3) = some k → ¬ Mine rb v9 k := by
        rintro k hk (e | hm)
        · have := (HOLD.out k hk).1
          omega
        · have h := (o9'.old k hm).1
          have h : (W4.setCell ⟨rb, 1, none⟩ (.int .i64 ((gone : Int) + (p : Int)))).drew.drew.heap.size ≤ k := h
          have h2 := (Own.old y3 k hk).2
          simp at h h2
          omega
      clear y1 y2 y3 y4 y5 y6 K6 o9' hs9
      have d0 := cells_at g5e (i := 0) rfl
      have d1 := cells_at g5e (i := 1) rfl
      have d2 := cells_at g5e (i := 2) rfl
      have d3 := cells_at g5e (i := 3) rfl
      have d4 := cells_at g5e (i := 4) rfl
      have dl := (Array.getElem?_eq_some_iff.1 g5e).1
      have r0 := cells_at (w := w6) (show w6.heap[w.heap.size]? = _ from RESe) (i := 0) rfl
      have r1 := cells_at (w := w6) (show w6.heap[w.heap.size]? = _ from RESe) (i := 1) rfl
      have r2 := cells_at (w := w6) (show w6.heap[w.heap.size]? = _ from RESe) (i := 2) rfl
      have r3 := cells_at (w := w6) (show w6.heap[w.heap.size]? = _ from RESe) (i := 3) rfl
      have r4 := cells_at (w := w6) (show w6.heap[w.heap.size]? = _ from RESe) (i := 4) rfl
      have rl := (Array.getElem?_eq_some_iff.1 (show w6.heap[w.heap.size]? = _ from RESe)).1
      have rf : ∀ i, w6.frozen? ⟨w.heap.size, i, none⟩ = false := fun i => by simp [World.frozen?, show w6.heap[w.heap.size]? = _ from RESe]
      have rf0 := rf 0
      have rf1 := rf 1
      have rf2 := rf 2
      have rf3 := rf 3
      have rf4 := rf 4
      obtain ⟨f5, f6⟩ := set5 (show w6.heap[w.heap.size]? = _ from RESe) (.int .i64 r.kind) (.int .i64 r.id) (.int .i64 r.num) (.string ⟨r.tube.toArray⟩) (.slice a3 r.body.length c3)
      have KF : Kept (fun k => k = w.heap.size) w6 _ := Kept.ofGrown f6 (fun g e => (Option.some.inj e).symm)
      have HF5 := hide f5
      have HKF := hide KF
      clear f5 f6 KF rf
      go_wp2_with fail
      refine bodyPost_ret (results_three rfl _ _ w.heap.size _ rfl rfl HF5.out) rfl ?_
      rw [hRR]
      refine ⟨a3, c3, rfl, o3e.kept HKF.out (fun k hk e => by have := (HOLD.out k hk).1; have e : k = w.heap.size := e; omega), v9, ⟨s9, b9.kept HKF.out (fun e => n5 e), o9.kept HKF.out (fun k hk e => h9 k hk e), i9, w9, l9, m9, f9⟩, K9.step HKF.out (fun k hk e => absurd hk (by have e : k = w.heap.size := e; omega)), x9, P9⟩
    · have hkb : decide ((n : Int) - ((gone : Int) + (p : Int)) ≤ (gone : Int) + (p : Int)) = false := by rw [decide_eq_false_iff_not]; omega
      go_wp2_with fail
      go_region
      go_wp2_with fail
      go_region
      obtain ⟨y1, y2, y3, y4, y5, y6⟩ := HK1.out _ rfl
      obtain ⟨W5, hW5⟩ : ∃ W5, W5 = (W4.setCell ⟨rb, 1, none⟩ (.int .i64 ((gone : Int) + (p : Int)))).drew.drew := ⟨_, rfl⟩
      rw [← hW5]
      have g5z : W5.heap[b5]? = (W4.setCell ⟨rb, 1, none⟩ (.int .i64 ((gone : Int) + (p : Int)))).heap[b5]? := by rw [hW5]; rfl
      have g5e := g5z.trans y4
      clear g5z
      have RESe : RepAt W5 w.heap.size 0 0 0 [] (.slice none 0 0) := by rw [hW5]; exact y5
      have o3e : Own W5 w.heap.size (.slice a3 r.body.length c3) r.body := by rw [hW5]; exact y3
      obtain ⟨s9, hs9⟩ : ∃ s9 : Rd, s9 = ⟨s.came, gone + p, W, lk, sp⟩ := ⟨_, rfl⟩
      obtain ⟨v9, hv9⟩ : ∃ v9 : Value, v9 = .slice av n cv := ⟨_, rfl⟩
      have i9 : Inv A (g + p) s9 := by rw [hs9]; exact HI9.out
      have b9 : RdBox W5 rb v9 s9.gone s9.whole s9.look s9.spoilt := by rw [hs9, hv9, hW5]; exact y1
      have o9 : Own W5 0 v9 s9.came := by rw [hs9, hv9, hW5]; exact y2
      have h9 : ∀ k, v9.ownBlock = some k → k ≠ w.heap.size := fun k hk e => by
        rw [hv9, HN.out] at hk
        have := (HO.out.old k hk).2
        omega
      have w9 : s9.whole ≤ s9.look := by rw [hs9]; exact hlkW
      have l9 : s9.look ≤ A.length + 4294967295 := by rw [hs9]; exact HLA.out
      have m9 : s9.came.length ≤ A.length := by rw [hs9]; show s.came.length ≤ _; rw [← HN.out]; exact hcl
      have f9 : ∀ k, Mine rb v9 k → 5 ≤ k := by rw [hv9]; exact HH5.out
      have x9 : ∀ k, Mine rb v9 k → Mine rb (.slice av s.came.length cv) k ∨ w.heap.size ≤ k := by rw [hv9, HN.out]; exact fun k hk => .inl hk
      have K9 : Kept (Mine rb (.slice av s.came.length cv)) w W5 := by rw [← HN.out, hW5]; exact y6.drew.drew
      have P9 : ∀ k, Value.ownBlock (.slice a3 r.body.length c3) = some k → ¬ Mine rb v9 k := by
        rintro k hk (e | hm)
        · have := (HOLD.out k hk).1
          omega
        · rw [hv9, HN.out] at hm
          have h := (HO.out.old k hm).2
          have h2 := (HOLD.out k hk).1
          omega
      clear y1 y2 y3 y4 y5 y6 hs9 hW5 hv9
      have d0 := cells_at g5e (i := 0) rfl
      have d1 := cells_at g5e (i := 1) rfl
      have d2 := cells_at g5e (i := 2) rfl
      have d3 := cells_at g5e (i := 3) rfl
      have d4 := cells_at g5e (i := 4) rfl
      have dl := (Array.getElem?_eq_some_iff.1 g5e).1
      have r0 := cells_at (w := W5) (show W5.heap[w.heap.size]? = _ from RESe) (i := 0) rfl
      have r1 := cells_at (w := W5) (show W5.heap[w.heap.size]? = _ from RESe) (i := 1) rfl
      have r2 := cells_at (w := W5) (show W5.heap[w.heap.size]? = _ from RESe) (i := 2) rfl
      have r3 := cells_at (w := W5) (show W5.heap[w.heap.size]? = _ from RESe) (i := 3) rfl
      have r4 := cells_at (w := W5) (show W5.heap[w.heap.size]? = _ from RESe) (i := 4) rfl
      have rl := (Array.getElem?_eq_some_iff.1 (show W5.heap[w.heap.size]? = _ from RESe)).1
      have rf : ∀ i, W5.frozen? ⟨w.heap.size, i, none⟩ = false := fun i => by simp [World.frozen?, show W5.heap[w.heap.size]? = _ from RESe]
      have rf0 := rf 0
      have rf1 := rf 1
      have rf2 := rf 2
      have rf3 := rf 3
      have rf4 := rf 4
      obtain ⟨f5, f6⟩ := set5 (show W5.heap[w.heap.size]? = _ from RESe) (.int .i64 r.kind) (.int .i64 r.id) (.int .i64 r.num) (.string ⟨r.tube.toArray⟩) (.slice a3 r.body.length c3)
      have KF : Kept (fun k => k = w.heap.size) W5 _ := Kept.ofGrown f6 (fun g e => (Option.some.inj e).symm)
      have HF5 := hide f5
      have HKF := hide KF
      clear f5 f6 KF rf
      go_wp2_with fail
      refine bodyPost_ret (results_three rfl _ _ w.heap.size _ rfl rfl HF5.out) rfl ?_
      rw [hRR]
      refine ⟨a3, c3, rfl, o3e.kept HKF.out (fun k hk e => by have := (HOLD.out k hk).1; have e : k = w.heap.size := e; omega), v9, ⟨s9, b9.kept HKF.out (fun e => n5 e), o9.kept HKF.out (fun k hk e => h9 k hk e), i9, w9, l9, m9, f9⟩, K9.step HKF.out (fun k hk e => absurd hk (by have e : k = w.heap.size := e; omega)), x9, P9⟩
end Go.Proofs.YtomgnailgddchaaDoor

namespace Go.Proofs.YtomgnailgddchaaDoor
open Go.RowKit

theorem RdAt.below {w w' : World} {rb : Nat} {v : Value} {A : List UInt8} {g : Nat} (h : RdAt w rb v A g) (hb : Below w.heap.size w w') : RdAt w' rb v A g := by
  obtain ⟨s, h1, h2, h3, h4, h5, h6, h7⟩ := h
  exact ⟨s, (hb.block rb h1.lt).trans h1, h2.below hb, h3, h4, h5, h6, h7⟩
/-- What Next tells. -/
def NextPost (w : World) (rb : Nat) (v : Value) (A : List UInt8) (g : Nat) (x : Ending) (w' : World) : Prop :=
  (g < (scan A).1 ∧ ∃ a' c', x = .returned (.tuple #[rpV (readP (A.drop g)).1 (.slice a' (readP (A.drop g)).1.body.length c'), .bool true, .int .i64 0]) ∧ Own w' w.heap.size (.slice a' (readP (A.drop g)).1.body.length c') (readP (A.drop g)).1.body ∧ WentB w rb v A (g + (readP (A.drop g)).2.1) w' (.slice a' (readP (A.drop g)).1.body.length c')) ∨
  (g = (scan A).1 ∧ x = .returned (.tuple #[rpV rp0 (.slice none 0 0), .bool false, .int .i64 (if 0 < (scan A).2 then 82 else 0)]) ∧ Went w rb v A g w')
theorem next_any (w : World) (rb : Nat) (v : Value) (A : List UInt8) (g : Nat) (h : RdAt w rb v A g) (hA : A.length ≤ 4294967296) (hT : Tabs w) :
    Calls Tryd.prog 18 #[.pointer (some ⟨rb, 0, none⟩)] w (NextPost w rb v A g) := by
  have h' := h
  obtain ⟨s, h1, h2, h3, h4, h5, h6, h7⟩ := h
  by_cases hlt : g < (scan A).1
  · refine (next_some w rb v s A g h1 h2 h3 h4 h5 h6 h7 hlt hA hT).mono ?_
    rintro x w' ⟨a', c', rfl, o, W⟩
    exact .inl ⟨hlt, a', c', rfl, o, W⟩
  · have hle := h3.bd.le
    have hw : s.whole = s.gone := by have := h3.whole; omega
    rw [hw] at h1
    refine (next_none w rb v s.gone s.look s.spoilt h1).mono ?_
    rintro x w' ⟨rfl, hb⟩
    exact .inr ⟨by omega, by rw [h3.spoilt], v, h'.below hb, Kept.ofBelow hb, fun k hk => .inl hk⟩
theorem new_rd (w : World) (h5 : 5 ≤ w.heap.size) :
    Calls Tryd.prog 6 #[] w fun x w' => x = .returned (.pointer (some ⟨w.heap.size, 0, none⟩)) ∧ RdAt w' w.heap.size (.slice none 0 0) [] 0 ∧ Below w.heap.size w w' := by
  refine (new_any w).mono ?_
  rintro x w' ⟨rfl, hb, hB⟩
  refine ⟨rfl, ⟨⟨[], 0, 0, 0, 0⟩, hb, Own.nil _ _, ?_, Nat.le_refl _, by simp, by simp, ?_⟩, hB⟩
  · exact Inv.nil
  · rintro k (rfl | hk)
    · exact h5
    · cases hk
theorem held_rd (w : World) (rb : Nat) (v : Value) (A : List UInt8) (g : Nat) (h : RdAt w rb v A g) (hA : A.length ≤ 4294967296) :
    Calls Tryd.prog 19 #[.pointer (some ⟨rb, 0, none⟩)] w fun x w' => x = .returned (.int .i64 ((heldN A g : Nat) : Int)) ∧ ∃ q, w' = w.drewN q := by
  obtain ⟨s, h1, h2, h3, h4, h5, h6, h7⟩ := h
  obtain ⟨av, cv, rfl, _⟩ := h2.shape
  have hle := scan_le A
  have hw := h3.whole
  have hf := h3.fits
  refine (held_any w rb av s.came.length cv s.gone s.whole s.look s.spoilt h1 (by omega) (by omega) (by rw [h3.spoilt]; omega)).mono ?_
  rintro x w' ⟨rfl, q, rfl⟩
  exact ⟨by rw [h3.heldN], q, rfl⟩
end Go.Proofs.YtomgnailgddchaaDoor
