/-
  The walk of loaded. (Written by genlod.py.)
-/
import Derived.Test.YtnpofjeiamjioaaLnX
import Derived.Test.YtnpofjeiamjioaaLoadW
import Derived.Test.YtnpofjeiamjioaaRLoad
import Derived.Test.YtnpofjeiamjioaaDkA
namespace Go.Proofs.Ytnpofjeiamjioaa
open Go.RowKit Go.Maps

theorem info_pair : (Try.prog.info? 33).map (·.size) = some 2 := by kernel_rfl
theorem under_pair : Try.prog.underlying 33 = some (.struct (Try.prog.fieldsOf 33)) := by kernel_rfl
theorem results_cell_tmp_row {P : Program} {fn : Func} {p q : Tmp} {ty : TypeId} (h : fn.results = #[.cell p ty, .tmp q]) (tmps : Array Value) (w : World) (g : Nat) (t : TypeId) (cs : Array Value) (fr : Nat × Nat) (d : TypeDesc) (v : Value)
    (hp : tmps.getD p undef = .pointer (some ⟨g, 0, none⟩)) (hq : tmps.getD q undef = v) (hg : w.heap[g]? = some (.cells cs t fr))
    (hu : P.underlying ty = some d) (hd : (match d with | .struct _ | .array _ _ => true | _ => false) = true) (hi : (P.info? ty).map (·.size) = some cs.size) :
    (results fn tmps).run P w = .ok (.tuple #[.agg cs, v]) w := by
  have hp' : tmps[p]?.getD undef = .pointer (some ⟨g, 0, none⟩) := by simpa using hp
  have hq' : tmps[q]?.getD undef = v := by simpa using hq
  simp [results, h, hp', hq', asAddr, run_loadVar_row w g t ty cs fr d hg hu hd hi]
/-- What lend leaves, told so as it is wanted. -/
def LendQ (w : World) (R : List Rf) (e : Ending) (w' : World) : Prop :=
  Below w.heap.size w w' ∧ ∃ (ga ca : Nat) (da : Option Addr) (dc : Nat) (Q : List Ln), e = .returned (.agg #[.slice (some ⟨ga, 0, none⟩) (R.length + 1) ca, .slice da R.length dc]) ∧ LentAt w' w.heap.size (.slice (some ⟨ga, 0, none⟩) (R.length + 1) ca) (.slice da R.length dc) Q ∧ Q.map (·.r) = R ∧
    R.length + 1 ≤ ca ∧ ca ≤ maxLen ∧ IsRaw w' (some ⟨ga, 0, none⟩) ca R ∧ WpAt w' w.heap.size w'.heap.size ga (.slice da R.length dc) Q
theorem lend_anyQ (w : World) (a : Option Addr) (c : Nat) (R : List Rf) (h : IsRaw w a c R) (hn : R.length ≤ 1048576) (ht : totR R ≤ 1073741823) :
    Calls Try.prog 36 #[.slice a R.length c] w (LendQ w R) := by
  refine (lend_any w a c R h hn ht).mono ?_
  rintro e w' ⟨b, av, dv, Q, rfl, hl, hq⟩
  have hf : ∀ x ∈ Q, rawFits x.r := fun x hx => h.2.2.1 x.r (by rw [← hq]; exact List.mem_map_of_mem hx)
  have hlen : Q.length = R.length := by rw [← hq, List.length_map]
  obtain ⟨g1, c1, e1, n1, m1, raw1, _⟩ := hl.raw hf
  obtain ⟨g2, c2, e2, _, _, wp2⟩ := hl.wp (Nat.le_refl _)
  rw [e1] at e2
  simp only [Value.slice.injEq, Option.some.injEq, Addr.mk.injEq, and_true] at e2
  obtain ⟨rfl, _⟩ := e2
  obtain ⟨da, dc, ed, _⟩ := row_shape hl.rd
  rw [hlen] at e1 n1 ed
  subst e1
  subst ed
  rw [hq] at raw1
  exact ⟨b, g1, c1, da, dc, Q, rfl, hl, hq, n1, m1, raw1, wp2⟩
theorem RfAt.monoB {w : World} {B B' rb : Nat} {q : Int} {fv : Value} {F : List (Fl × Value)} (h : RfAt w B rb q fv F) (hB : B' ≤ B) : RfAt w B' rb q fv F :=
  ⟨h.box, h.row.monoR hB, fun p hp => (h.own p hp).mono hB⟩
theorem RfAt.rge {w : World} {B rb : Nat} {q : Int} {fv : Value} {F : List (Fl × Value)} (h : RfAt w B rb q fv F) (hB : B ≤ rb) {g : Nat} (hg : RM rb fv F g) : B ≤ g := by
  rcases hg with rfl | e | ⟨p, hp, e⟩
  · exact hB
  · exact (h.row.lt g e).1
  · exact ((h.own p hp).lt g e).1
/-- What loaded answers. -/
def LoadedP (q : Int) (R : List Rf) (w : World) (e : Ending) (w' : World) : Prop :=
  Below w.heap.size w w' ∧ ((chk q R ≠ 0 ∧ e = .returned (.tuple #[.agg #[.pointer none, .pointer none], .bool true])) ∨
    (chk q R = 0 ∧ ∃ db mb vs rb fv F, e = .returned (.tuple #[.agg #[.pointer (some ⟨db, 0, none⟩), .pointer (some ⟨rb, 0, none⟩)], .bool true]) ∧ Pr w' w.heap.size db mb q (R.map cook) vs rb fv F))
set_option linter.unusedSimpArgs false in
set_option maxHeartbeats 4000000 in
set_option maxRecDepth 1000000 in
theorem loaded_any (w : World) (q : Int) (a : Option Addr) (c : Nat) (R : List Rf) (h : IsRaw w a c R) (hn : R.length ≤ 1048576) (ht : totR R ≤ 1073741823) (hd : ∀ x ∈ R, x.data.length ≤ 1073741823) :
    Calls Try.prog 14 #[.int .i64 q, .slice a R.length c] w (LoadedP q R w) := by
  have HH := hideR h
  have HD := hideR hd
  obtain ⟨w0, hw0⟩ : ∃ w0, w0 = w.alloc (.cells #[.pointer none, .pointer none] 33) := ⟨_, rfl⟩
  have b0 : Below w.heap.size w w0 := by rw [hw0]; exact (Below.refl _ w).alloc (Nat.le_refl _) _
  have x0 : w0.heap[w.heap.size]? = some (.cells #[.pointer none, .pointer none] 33 (0, 0)) := by rw [hw0]; exact heap_alloc_new w _
  have z0 : w0.heap.size = w.heap.size + 1 := by rw [hw0]; simp
  have CL := hideR (lend_anyQ w0 a c R (h.below b0) hn ht)
  have H0 := hideR (And.intro b0 (And.intro x0 z0))
  have HT := hideR ht
  obtain ⟨N, hN⟩ : ∃ N, N = R.length := ⟨_, rfl⟩
  have HN := hideR hN
  rw [← hN] at hn ⊢
  unfold LendQ at CL
  rw [← hN] at CL
  clear h hd b0 x0 z0 hN ht
  by_cases hz : chk q R = 0
  · have HZ := hideR hz
    clear hz
    go_enter Try.func14, Try.ntmps14
    go_upto_region 1 with fail
    rw [← hw0]
    clear hw0
    go_upto_region 2 with (go_at_call 36
                           refine CL.out.mono ?_
                           rintro e w1 ⟨b1, ga, ca, da, dc, Q, rfl, l1, l2, l3, l4, l5, l6⟩
                           have H1 := hideR (And.intro b1 (And.intro l1 (And.intro l2 (And.intro l5 l6))))
                           have hca : (N : Int) ≤ (ca : Int) ∧ (ca : Int) ≤ 9223372036854775807 ∧ N + 1 ≤ ca ∧ ca ≤ maxLen := by unfold maxLen at l4 ⊢; omega
                           clear b1 l1 l2 l3 l4 l5 l6)
    obtain ⟨c1, c2, c3, c4⟩ := hca
    have C4 := hideR (And.intro c3 c4)
    clear c4
    obtain ⟨w2, hw2⟩ : ∃ w2, w2 = w1.alloc (.cells #[.slice (some ⟨ga, 0, none⟩) (N + 1) ca, .slice da N dc] 79) := ⟨_, rfl⟩
    rw [← hw2]
    have b2 : Below w1.heap.size w1 w2 := by rw [hw2]; exact (Below.refl _ w1).alloc (Nat.le_refl _) _
    have z2 : w2.heap.size = w1.heap.size + 1 := by rw [hw2]; simp
    have x2 : w2.heap[w1.heap.size]? = some (.cells #[.slice (some ⟨ga, 0, none⟩) (N + 1) ca, .slice da N dc] 79 (0, 0)) := by rw [hw2]; exact heap_alloc_new w1 _
    have H2 := hideR (And.intro b2 (And.intro z2 x2))
    have k0 : w2.cell? ⟨w1.heap.size, 0, none⟩ = some (.slice (some ⟨ga, 0, none⟩) (N + 1) ca) := by simp [World.cell?, x2]
    have LD := hideR (load_any q (some ⟨ga, 0, none⟩) ca R w2 (H1.out.2.2.2.1.below b2) (by have := HT.out; omega))
    rw [← HN.out] at LD
    have i0 : (0 : Int) ≤ (N : Int) := by omega
    have i2 : (N : Int) ≤ ((N + 1 : Nat) : Int) := by omega
    have i3 : (N : Int) ≤ (N : Int) + 1 := by omega
    clear hw2 b2 z2 x2 c3
    go_upto_region 3 with (go_at_call 23
                           refine LD.out.mono ?_
                           rintro e w3 ⟨b3, hc⟩
                           rcases hc with ⟨h1, _⟩ | ⟨_, db, mb, vs, rfl, d3, m3⟩
                           · exact absurd HZ.out h1
                           have D3 := hideR (And.intro d3 m3)
                           have B3 := hideR b3
                           clear d3 m3 b3)
    have hb12 := H1.out.1.size
    have LR := hideR (refLoad_any q a c R w3 (HH.out.below (H0.out.1.trans ((H1.out.1.trans ((H2.out.1.trans (B3.out.mono H2.out.1.size)).mono hb12)).mono H0.out.1.size))) HT.out (by have := HN.out; omega))
    rw [← HN.out] at LR
    clear k0
    go_upto_region 4 with (go_at_call 37
                           refine LR.out.mono ?_
                           rintro e w4 ⟨b4, hc⟩
                           rcases hc with ⟨h1, _⟩ | ⟨_, rb, fv, F, rfl, r0, r1, r2⟩
                           · exact absurd HZ.out h1
                           have R4 := hideR (And.intro r0 (And.intro r1 r2))
                           have B4 := hideR b4
                           clear r0 r1 r2 b4)
    have b24 : Below w2.heap.size w2 w4 := B3.out.trans (B4.out.mono B3.out.size)
    have b14 : Below w1.heap.size w1 w4 := H2.out.1.trans (b24.mono H2.out.1.size)
    have b04 : Below w0.heap.size w0 w4 := H1.out.1.trans (b14.mono H1.out.1.size)
    have bw4 : Below w.heap.size w w4 := H0.out.1.trans (b04.mono H0.out.1.size)
    have x4 := (b24.block _ (Array.getElem?_eq_some_iff.1 H2.out.2.2).1).trans H2.out.2.2
    have l4 : LentAt w4 w0.heap.size (.slice (some ⟨ga, 0, none⟩) (N + 1) ca) (.slice da N dc) Q := ⟨row_keptR (P := fun _ => False) H1.out.2.1.ra (Kept.ofBelow b14) (fun _ _ h => h), row_keptR (P := fun _ => False) H1.out.2.1.rd (Kept.ofBelow b14) (fun _ _ h => h), fun x hx => (H1.out.2.1.own x hx).below b14, H1.out.2.1.ap⟩
    have LS := hideR (lstill_any w4 w0.heap.size _ _ Q a c R l4 H1.out.2.2.1 (HH.out.below bw4))
    rw [← HN.out] at LS
    have H4 := hideR (And.intro bw4 (And.intro b04 (And.intro b14 (And.intro b24 x4))))
    obtain ⟨k0, k1⟩ : w4.cell? ⟨w1.heap.size, 0, none⟩ = some (.slice (some ⟨ga, 0, none⟩) (N + 1) ca) ∧ w4.cell? ⟨w1.heap.size, 1, none⟩ = some (.slice da N dc) := by simp [World.cell?, x4]
    clear b24 b14 b04 bw4 x4 l4
    skip
    go_upto_region 5 with (go_at_call 38
                           refine LS.out.mono ?_
                           rintro e w5 ⟨rfl, b5⟩
                           have B5 := hideR b5
                           clear b5)
    clear k0 k1
    have x5 := (B5.out.block _ (Array.getElem?_eq_some_iff.1 H4.out.2.2.2.2).1).trans H4.out.2.2.2.2
    obtain ⟨k0, k1⟩ : w5.cell? ⟨w1.heap.size, 0, none⟩ = some (.slice (some ⟨ga, 0, none⟩) (N + 1) ca) ∧ w5.cell? ⟨w1.heap.size, 1, none⟩ = some (.slice da N dc) := by simp [World.cell?, x5]
    have b15 : Below w1.heap.size w1 w5 := H4.out.2.2.1.trans (B5.out.mono H4.out.2.2.1.size)
    have hql : Q.length = N := by rw [HN.out, ← H1.out.2.2.1, List.length_map]
    have wp5 := H1.out.2.2.2.2.kept (Kept.ofBelow (P := fun _ => False) b15) (fun _ _ _ e => e)
    have LW := hideR (wipe_any w5 w0.heap.size w1.heap.size ga ca (.slice da N dc) Q wp5 b15.size (by have := C4.out.1; omega) C4.out.2 (by omega) (fun x hx => HD.out x.r (by rw [← H1.out.2.2.1]; exact List.mem_map_of_mem hx)))
    rw [hql] at LW
    have HB15 := hideR b15
    clear b15 wp5 hql x5
    go_upto_region 6 with (go_at_call 39
                           refine LW.out.mono ?_
                           rintro e w6 ⟨rfl, k6⟩
                           have K6 := hideR k6
                           clear k6)
    clear k0 k1
    have hs1 := H0.out.1.size
    have zz0 := H0.out.2.2
    have hs2 := H1.out.1.size
    have hs15 := HB15.out.size
    have hlt := (Array.getElem?_eq_some_iff.1 H0.out.2.1).1
    have x6 : w6.heap[w.heap.size]? = some (.cells #[.pointer none, .pointer none] 33 (0, 0)) := (K6.out.block _ (by omega) (fun e => by have := e.1; omega)).trans ((HB15.out.block _ (by omega)).trans ((H1.out.1.block _ hlt).trans H0.out.2.1))
    have bw6 : Below w.heap.size w w6 := H4.out.1.trans ((B5.out.mono H4.out.1.size).trans (K6.out.below (by omega) (fun k hk e => by have := e.1; omega)))
    have X6 := hideR (And.intro x6 bw6)
    clear x6 bw6
    go_wp2_with (refine wpList_store_row rfl 33 (.tmp 4) (.tmp 49) rfl w.heap.size #[.pointer (some ⟨db, 0, none⟩), .pointer (some ⟨rb, 0, none⟩)] rfl rfl 33 #[.pointer none, .pointer none] X6.out.1 info_pair rfl (by simp [Value.oneCell']) ?_)
    refine bodyPost_ret (results_cell_tmp_row rfl _ _ w.heap.size 33 _ (0, 0) _ (.bool true) rfl rfl (setRow_heap _ _ _ _ _ _ X6.out.1) under_pair rfl info_pair) rfl ?_
    have k7 : Kept (fun g => g = w.heap.size) w6 (w6.setRow w.heap.size #[.pointer (some ⟨db, 0, none⟩), .pointer (some ⟨rb, 0, none⟩)]) := ⟨rfl, rfl, rfl, by simp [World.setRow], fun k _ hk => setRow_other w6 _ k _ hk⟩
    refine ⟨X6.out.2.trans (k7.below X6.out.2.size (fun j hj e => by omega)), .inr ⟨HZ.out, db, mb, vs, rb, fv, F, rfl, ?_⟩⟩
    obtain ⟨d3, m3⟩ := D3.out
    obtain ⟨r0, r1, r2⟩ := R4.out
    have z2 := H2.out.2.1
    have hs3 := B3.out.size
    have pr4 : Pr w4 w.heap.size db mb q (R.map cook) vs rb fv F := ⟨d3.kept (P := fun _ => False) (Kept.ofBelow B4.out) (fun _ _ e => e), r1.monoB (by omega), r2, fun g e e2 => by
      have h1 := d3.lt e
      have h2 := r1.rge r0 e2
      omega, fun g e => by
      rcases e with e | e
      · have := m3 g e; omega
      · have := r1.rge r0 e; omega⟩
    have lo : ∀ g, PM db mb (R.map cook) vs rb fv F g → w1.heap.size < g := fun g e => by
      rcases e with e | e
      · have := m3 g e; omega
      · have := r1.rge r0 e; omega
    exact ((pr4.later B5.out).kept K6.out (fun g e e2 => by have := lo g e; have := e2.2; omega)).kept k7 (fun g e e2 => by have := lo g e; omega)
  · have HZ := hideR hz
    clear hz
    go_enter Try.func14, Try.ntmps14
    go_upto_region 1 with fail
    rw [← hw0]
    clear hw0
    go_upto_region 2 with (go_at_call 36
                           refine CL.out.mono ?_
                           rintro e w1 ⟨b1, ga, ca, da, dc, Q, rfl, l1, l2, l3, l4, l5, l6⟩
                           have H1 := hideR (And.intro b1 (And.intro l1 (And.intro l2 (And.intro l5 l6))))
                           have hca : (N : Int) ≤ (ca : Int) ∧ (ca : Int) ≤ 9223372036854775807 ∧ N + 1 ≤ ca ∧ ca ≤ maxLen := by unfold maxLen at l4 ⊢; omega
                           clear b1 l1 l2 l3 l4 l5 l6)
    obtain ⟨c1, c2, c3, c4⟩ := hca
    have C4 := hideR (And.intro c3 c4)
    clear c4
    obtain ⟨w2, hw2⟩ : ∃ w2, w2 = w1.alloc (.cells #[.slice (some ⟨ga, 0, none⟩) (N + 1) ca, .slice da N dc] 79) := ⟨_, rfl⟩
    rw [← hw2]
    have b2 : Below w1.heap.size w1 w2 := by rw [hw2]; exact (Below.refl _ w1).alloc (Nat.le_refl _) _
    have z2 : w2.heap.size = w1.heap.size + 1 := by rw [hw2]; simp
    have x2 : w2.heap[w1.heap.size]? = some (.cells #[.slice (some ⟨ga, 0, none⟩) (N + 1) ca, .slice da N dc] 79 (0, 0)) := by rw [hw2]; exact heap_alloc_new w1 _
    have H2 := hideR (And.intro b2 (And.intro z2 x2))
    have k0 : w2.cell? ⟨w1.heap.size, 0, none⟩ = some (.slice (some ⟨ga, 0, none⟩) (N + 1) ca) := by simp [World.cell?, x2]
    have LD := hideR (load_any q (some ⟨ga, 0, none⟩) ca R w2 (H1.out.2.2.2.1.below b2) (by have := HT.out; omega))
    rw [← HN.out] at LD
    have i0 : (0 : Int) ≤ (N : Int) := by omega
    have i2 : (N : Int) ≤ ((N + 1 : Nat) : Int) := by omega
    have i3 : (N : Int) ≤ (N : Int) + 1 := by omega
    clear hw2 b2 z2 x2 c3
    go_upto_region 3 with (go_at_call 23
                           refine LD.out.mono ?_
                           rintro e w3 ⟨b3, hc⟩
                           rcases hc with ⟨_, rfl⟩ | ⟨h1, _⟩
                           case inr => exact absurd h1 HZ.out
                           have B3 := hideR b3
                           clear b3)
    have hb12 := H1.out.1.size
    have LR := hideR (refLoad_any q a c R w3 (HH.out.below (H0.out.1.trans ((H1.out.1.trans ((H2.out.1.trans (B3.out.mono H2.out.1.size)).mono hb12)).mono H0.out.1.size))) HT.out (by have := HN.out; omega))
    rw [← HN.out] at LR
    clear k0
    go_upto_region 4 with (go_at_call 37
                           refine LR.out.mono ?_
                           rintro e w4 ⟨b4, hc⟩
                           rcases hc with ⟨_, rfl⟩ | ⟨h1, _⟩
                           case inr => exact absurd h1 HZ.out
                           have B4 := hideR b4
                           clear b4)
    have b24 : Below w2.heap.size w2 w4 := B3.out.trans (B4.out.mono B3.out.size)
    have b14 : Below w1.heap.size w1 w4 := H2.out.1.trans (b24.mono H2.out.1.size)
    have b04 : Below w0.heap.size w0 w4 := H1.out.1.trans (b14.mono H1.out.1.size)
    have bw4 : Below w.heap.size w w4 := H0.out.1.trans (b04.mono H0.out.1.size)
    have x4 := (b24.block _ (Array.getElem?_eq_some_iff.1 H2.out.2.2).1).trans H2.out.2.2
    have l4 : LentAt w4 w0.heap.size (.slice (some ⟨ga, 0, none⟩) (N + 1) ca) (.slice da N dc) Q := ⟨row_keptR (P := fun _ => False) H1.out.2.1.ra (Kept.ofBelow b14) (fun _ _ h => h), row_keptR (P := fun _ => False) H1.out.2.1.rd (Kept.ofBelow b14) (fun _ _ h => h), fun x hx => (H1.out.2.1.own x hx).below b14, H1.out.2.1.ap⟩
    have LS := hideR (lstill_any w4 w0.heap.size _ _ Q a c R l4 H1.out.2.2.1 (HH.out.below bw4))
    rw [← HN.out] at LS
    have H4 := hideR (And.intro bw4 (And.intro b04 (And.intro b14 (And.intro b24 x4))))
    obtain ⟨k0, k1⟩ : w4.cell? ⟨w1.heap.size, 0, none⟩ = some (.slice (some ⟨ga, 0, none⟩) (N + 1) ca) ∧ w4.cell? ⟨w1.heap.size, 1, none⟩ = some (.slice da N dc) := by simp [World.cell?, x4]
    clear b24 b14 b04 bw4 x4 l4
    obtain ⟨Z, hZ⟩ : ∃ Z, Z = chk q R := ⟨_, rfl⟩
    have hzz : Z ≠ 0 := by rw [hZ]; exact HZ.out
    rw [← hZ]
    have hzb : (Z == 0) = false := by simp [hzz]
    have HZZ := hideR hZ
    clear hZ
    go_upto_region 5 with (go_at_call 38
                           refine LS.out.mono ?_
                           rintro e w5 ⟨rfl, b5⟩
                           have B5 := hideR b5
                           clear b5)
    clear k0 k1
    have x5 := (B5.out.block _ (Array.getElem?_eq_some_iff.1 H4.out.2.2.2.2).1).trans H4.out.2.2.2.2
    obtain ⟨k0, k1⟩ : w5.cell? ⟨w1.heap.size, 0, none⟩ = some (.slice (some ⟨ga, 0, none⟩) (N + 1) ca) ∧ w5.cell? ⟨w1.heap.size, 1, none⟩ = some (.slice da N dc) := by simp [World.cell?, x5]
    have b15 : Below w1.heap.size w1 w5 := H4.out.2.2.1.trans (B5.out.mono H4.out.2.2.1.size)
    have hql : Q.length = N := by rw [HN.out, ← H1.out.2.2.1, List.length_map]
    have wp5 := H1.out.2.2.2.2.kept (Kept.ofBelow (P := fun _ => False) b15) (fun _ _ _ e => e)
    have LW := hideR (wipe_any w5 w0.heap.size w1.heap.size ga ca (.slice da N dc) Q wp5 b15.size (by have := C4.out.1; omega) C4.out.2 (by omega) (fun x hx => HD.out x.r (by rw [← H1.out.2.2.1]; exact List.mem_map_of_mem hx)))
    rw [hql] at LW
    have HB15 := hideR b15
    clear b15 wp5 hql x5
    go_upto_region 6 with (go_at_call 39
                           refine LW.out.mono ?_
                           rintro e w6 ⟨rfl, k6⟩
                           have K6 := hideR k6
                           clear k6)
    clear k0 k1
    have hs1 := H0.out.1.size
    have zz0 := H0.out.2.2
    have hs2 := H1.out.1.size
    have hs15 := HB15.out.size
    have hlt := (Array.getElem?_eq_some_iff.1 H0.out.2.1).1
    have x6 : w6.heap[w.heap.size]? = some (.cells #[.pointer none, .pointer none] 33 (0, 0)) := (K6.out.block _ (by omega) (fun e => by have := e.1; omega)).trans ((HB15.out.block _ (by omega)).trans ((H1.out.1.block _ hlt).trans H0.out.2.1))
    have bw6 : Below w.heap.size w w6 := H4.out.1.trans ((B5.out.mono H4.out.1.size).trans (K6.out.below (by omega) (fun k hk e => by have := e.1; omega)))
    have X6 := hideR (And.intro x6 bw6)
    clear x6 bw6
    go_wp2_with (refine wpList_store_row rfl 33 (.tmp 4) (.tmp 49) rfl w.heap.size #[.pointer none, .pointer none] rfl rfl 33 #[.pointer none, .pointer none] X6.out.1 info_pair rfl (by simp [Value.oneCell']) ?_)
    refine bodyPost_ret (results_cell_tmp_row rfl _ _ w.heap.size 33 _ (0, 0) _ (.bool true) rfl rfl (setRow_heap _ _ _ _ _ _ X6.out.1) under_pair rfl info_pair) rfl ?_
    have k7 : Kept (fun g => g = w.heap.size) w6 (w6.setRow w.heap.size #[.pointer none, .pointer none]) := ⟨rfl, rfl, rfl, by simp [World.setRow], fun k _ hk => setRow_other w6 _ k _ hk⟩
    refine ⟨X6.out.2.trans (k7.below X6.out.2.size (fun j hj e => by omega)), .inl ⟨HZ.out, rfl⟩⟩
end Go.Proofs.Ytnpofjeiamjioaa
