/-
  The walk of the desk's clone.
-/
import Derived.Test.YtccpaapbgdpghaaDrawQ
import Derived.Test.YtccpaapbgdpghaaCloneI
import Derived.Test.YtccpaapbgdpghaaFromI
import Derived.Test.YtccpaapbgdpghaaPick
import Derived.Test.YtccpaapbgdpghaaNest
namespace Go.Proofs.Ytccpaapbgdpghaa
open Go.RowKit

theorem alike_view {C R : List Stand} {T H : List Int} (h : Alike R T H) (hv : view C = view R) : Alike C T H := by
  have h1 : (view C).map Prod.fst = (view R).map Prod.fst := by rw [hv]
  have h2 : (view C).map Prod.snd = (view R).map Prod.snd := by rw [hv]
  simp only [view, List.map_map] at h1 h2
  exact ⟨h1.trans h.tk, h2.trans h.vs⟩
set_option maxHeartbeats 4000000 in
set_option maxRecDepth 1000000 in
theorem clone_dk (w0 w : World) (db N i : Nat) (at_ : Int) (P : List Pq) (L K : List Ref3) (vl vk : Value) (p : Pq) (h : DkAt w0 w db P L vl K vk N) (hL : L ≠ []) (hK : K.length ≤ 4) (hi : P[i]? = some p) (hN : N ≤ 1048576) (hat : -9223372036854775808 ≤ at_ ∧ at_ ≤ 9223372036854775807) :
    Calls Try.prog 24 #[.pointer (some ⟨db, 0, none⟩), .agg #[.pointer (some ⟨p.qb, 0, none⟩), .pointer (some ⟨p.rb, 0, none⟩)], .int .i64 at_] w fun e w' => e = .returned (.bool true) ∧ DkN w0 db (N + 1) w' := by
  have hnn := fun w p => q_not_nilI w p
  obtain ⟨W1, hW1⟩ : ∃ W1, W1 = w.alloc (.cells #[.pointer (some ⟨p.qb, 0, none⟩), .pointer (some ⟨p.rb, 0, none⟩)] 36) := ⟨_, rfl⟩
  have b1 : Below w.heap.size w W1 := by rw [hW1]; exact (Below.refl _ w).alloc (Nat.le_refl _) _
  obtain ⟨bp, hbp⟩ : ∃ bp, bp = w.heap.size := ⟨_, rfl⟩
  have x1 : W1.heap[bp]? = some (.cells #[.pointer (some ⟨p.qb, 0, none⟩), .pointer (some ⟨p.rb, 0, none⟩)] 36 (0, 0)) := by rw [hW1, hbp]; exact heap_alloc_new w _
  have p0 : W1.cell? ⟨bp, 0, none⟩ = some (.pointer (some ⟨p.qb, 0, none⟩)) := by simp [World.cell?, x1]
  have few := h.prs.few i p hi
  have h1 := h.later b1
  have e1 := h1.prs.each i p hi
  have CL := hideR (cloneI W1 p.qb p.mb p.g p.R e1.q (by omega) (by omega) e1.al.ints)
  have H1 := hideR (And.intro h1 (And.intro e1 (And.intro few (And.intro x1 b1))))
  have HBP := hideR hbp
  clear h h1 e1 few x1 b1 hbp
  go_enter Try.func24, Try.ntmps24
  go_upto_region 1 with fail
  rw [← hW1, ← HBP.out]
  clear hW1
  go_wp2_with fail
  refine CL.out.mono ?_
  rintro e W2 ⟨qc, mc, C, rfl, q2, v2, b2, f2⟩
  obtain ⟨h1, e1, few, x1, b1⟩ := H1.out
  have x2 := (b2.block _ (Array.getElem?_eq_some_iff.1 x1).1).trans x1
  have p1 : W2.cell? ⟨bp, 1, none⟩ = some (.pointer (some ⟨p.rb, 0, none⟩)) := by simp [World.cell?, x2]
  have e2 := e1.below b2
  have CR := hideR (refCloneQ w0.heap.size W2 p.rb p.g p.vt p.vh p.T p.H e2.r (by rw [e2.al.lenT]; omega) (by rw [e2.al.lenH]; omega))
  have H2 := hideR (And.intro q2 (And.intro v2 (And.intro b2 (And.intro f2 e2))))
  clear h1 e1 few x1 b1 q2 v2 b2 f2 e2 x2 p0 CL
  go_wp2_with fail
  refine CR.out.mono ?_
  rintro e W3 ⟨b3, rfl, vt2, vh2, r3⟩
  have H3 := hideR (And.intro b3 r3)
  clear b3 r3
  obtain ⟨rc, hrc⟩ : ∃ rc, rc = W2.heap.size := ⟨_, rfl⟩
  rw [← hrc]
  have HRC := hideR hrc
  clear hrc
  obtain ⟨nb, hnb⟩ : ∃ nb, nb = W3.heap.size := ⟨_, rfl⟩
  obtain ⟨W5, hW5⟩ : ∃ W5, W5 = W3.alloc (.cells #[.pointer (some ⟨qc, 0, none⟩), .pointer (some ⟨rc, 0, none⟩)] 36) := ⟨_, rfl⟩
  have b5 : Below W3.heap.size W3 W5 := by rw [hW5]; exact (Below.refl _ W3).alloc (Nat.le_refl _) _
  have x5 : W5.heap[nb]? = some (.cells #[.pointer (some ⟨qc, 0, none⟩), .pointer (some ⟨rc, 0, none⟩)] 36 (0, 0)) := by rw [hW5, hnb]; exact heap_alloc_new W3 _
  have HN := hideR (And.intro hnb hW5)
  clear hnb hW5
  obtain ⟨p2, hp2⟩ : ∃ p2 : Pq, p2 = ⟨qc, mc, rc, p.g, C, vt2, vh2, p.T, p.H⟩ := ⟨_, rfl⟩
  have D5 : DkAt w0 W5 db (P ++ [p2]) L vl K vk N := by
    obtain ⟨h1, e1, few, x1, b1⟩ := H1.out
    obtain ⟨q2, v2, b2, f2, e2⟩ := H2.out
    obtain ⟨b3, r3⟩ := H3.out
    have hrc := HRC.out
    have b35 : Below W2.heap.size W2 W5 := b3.trans (b5.mono b3.size)
    have b15 : Below W1.heap.size W1 W5 := b2.trans (b35.mono b2.size)
    have r5 := r3.below b5
    have hz := b2.size
    have h0 := h1.bel.size
    refine h1.addP b15 ?_ ?_ (fun k hk => ?_)
    · rw [hp2]
      exact ⟨q2.keptQ (P := fun _ => False) (Kept.ofBelow b35) (fun _ _ h => h), ⟨by rw [hrc]; exact r5.box, Nums.monoQ r5.rt (by omega), Nums.monoQ r5.rh (by omega), r5.ap, by show w0.heap.size ≤ rc; omega⟩, alike_view e1.al v2⟩
    · rw [hp2]
      have hlen : C.length = p.R.length := by have := congrArg List.length v2; simpa [view] using this
      refine ⟨?_, few.2⟩
      show C.length ≤ N
      omega
    · rw [hp2] at hk
      rcases hk with hk | hk
      · exact f2 k hk
      · have hk : RMine rc vt2 vh2 k := hk
        rw [hrc] at hk
        have := r3.base hk
        omega
  have hin : LIn (P ++ [p2]) (qc, rc, P.length) := ⟨p2, by simp, by rw [hp2], by rw [hp2]⟩
  obtain ⟨al, cl, hvl⟩ := D5.rl.form
  rw [List.length_map] at hvl
  subst hvl
  have kd : W5.cell? ⟨db, 0, none⟩ = some (.slice al L.length cl) := by simp [World.cell?, D5.box]
  have hcl := D5.cl
  have HD := hideR (And.intro D5 (And.intro hin (And.intro x5 hK)))
  have HLN := hideR hL
  clear D5 hin x5 hp2 b5 hK hL
  go_upto_region 5 with fail
  rw [← HN.out.2, ← HN.out.1]
  by_cases hlt : L.length < 4
  · have t4 : (L.length : Int) < 4 := by omega
    go_upto_region 6 with fail
    clear kd
    have hd : DkAt w0 W5.drew db (P ++ [p2]) L (.slice al L.length cl) K vk N := HD.out.1.later ⟨rfl, rfl, rfl, Nat.le_refl _, fun _ _ => rfl⟩
    have hx : W5.drew.heap[nb]? = some (.cells #[.pointer (some ⟨qc, 0, none⟩), .pointer (some ⟨rc, 0, none⟩)] 36 (0, 0)) := HD.out.2.2.1
    refine wp_region_any mixed ?_
    refine A_take (i := 0) (v := .pointer (some ⟨db, 0, none⟩)) (some 25) rfl rfl (by kernel_rfl) (by kernel_rfl) (by kernel_rfl) (fun _ _ _ h => h) (.inl ⟨rfl, fun w => ?_⟩) ?_
    · simp [go_sem]
    simp only [Act.put, List.setIfInBounds_toArray, List.set_cons_zero, List.set_cons_succ]
    refine A_take (i := 1) (v := .pointer (some ⟨db, 0, none⟩)) (some 26) rfl rfl (by kernel_rfl) (by kernel_rfl) (by kernel_rfl) (fun _ _ _ h => h) (.inl ⟨rfl, fun w => ?_⟩) ?_
    · simp [go_sem]
    simp only [Act.put, List.setIfInBounds_toArray, List.set_cons_zero, List.set_cons_succ]
    refine A_take (i := 2) (v := .pointer (some ⟨db, 0, none⟩)) (some 27) rfl rfl (by kernel_rfl) (by kernel_rfl) (by kernel_rfl) (fun _ _ _ h => h) (.inl ⟨rfl, fun w => ?_⟩) ?_
    · simp [go_sem]
    simp only [Act.put, List.setIfInBounds_toArray, List.set_cons_zero, List.set_cons_succ]
    refine A_take (i := 3) (v := .pointer (some ⟨db, 0, none⟩)) (some 28) rfl rfl (by kernel_rfl) (by kernel_rfl) (by kernel_rfl) (fun _ _ _ h => h) (.inl ⟨rfl, fun w => ?_⟩) ?_
    · simp [go_sem]
    simp only [Act.put, List.setIfInBounds_toArray, List.set_cons_zero, List.set_cons_succ]
    refine C_take (i := 5) (v := .agg #[.pointer (some ⟨qc, 0, none⟩), .pointer (some ⟨rc, 0, none⟩)]) (Cl := fun X => X.heap[nb]? = some (.cells #[.pointer (some ⟨qc, 0, none⟩), .pointer (some ⟨rc, 0, none⟩)] 36 (0, 0))) (D := [6, 7, 8, 9, 10]) (E := [4]) (some 30) rfl rfl (by kernel_rfl) (fun j hj oj ho => ?_) (fun _ _ _ h => h) hx ⟨rfl, fun X hX => ?_⟩ ?_
    · obtain rfl : j = 4 := by simpa using hj
      cases ho
      exact stays_loadC rfl Try.isAgg25
    · exact run_loadRow rfl rfl hX Try.underlying36 rfl rfl
    simp only [Act.put, List.setIfInBounds_toArray, List.set_cons_zero, List.set_cons_succ]
    refine wpAny_all (rs := [4, 6]) (by kernel_rfl) (by decide) (fun i hi => ?_)
    have hi2 : i = 4 ∨ i = 6 := by simpa using hi
    rcases hi2 with rfl | rfl
    · refine D_value (v := .slice al L.length cl) (w' := W5.drew) (some 29) rfl rfl rfl ?_ ?_
      · have kb := hd.box
        have kc : (W5.drew).cell? ⟨db, 0, none⟩ = some (.slice al L.length cl) := by simp only [World.cell?, kb]; simp
        exact run_load1 rfl rfl Try.isAgg25 kc
      simp only [Act.put, List.setIfInBounds_toArray, List.set_cons_zero, List.set_cons_succ]
      refine wpAny_all (rs := [6]) (by kernel_rfl) (by decide) (fun i hi => ?_)
      obtain rfl : i = 6 := by simpa using hi
      refine D_value (v := .slice (some ⟨W5.heap.size, 0, none⟩) 1 1) (w' := W5.drew.alloc (.cells #[.pointer (some ⟨qc, 0, none⟩), .pointer (some ⟨rc, 0, none⟩)] 36)) (some 31) rfl rfl rfl (run_made rfl Try.underlying25 info_pairQ _ _ rfl (by kernel_rfl)) ?_
      simp only [Act.put, List.setIfInBounds_toArray, List.set_cons_zero, List.set_cons_succ]
      have ha : DkAt w0 (W5.drew.alloc (.cells #[.pointer (some ⟨qc, 0, none⟩), .pointer (some ⟨rc, 0, none⟩)] 36)) db (P ++ [p2]) L (.slice al L.length cl) K vk N := hd.later ((Below.refl _ W5.drew).alloc (Nat.le_refl _) _)
      refine wpAny_all (rs := [7]) (by kernel_rfl) (by decide) (fun i hi => ?_)
      obtain rfl : i = 7 := by simpa using hi
      refine D_push (some 32) rfl rfl rfl (.tmp 29) (.tmp 31) 25 36 (.agg #[.pointer none, .pointer none]) rfl Try.underlying25 info_pairQ rfl w0.heap.size (.slice al L.length cl) (L.map lval) rfl ha.rl (lval (qc, rc, P.length)) W5.heap.size rfl (heap_alloc_new W5.drew _) rfl rfl (by rw [List.length_map]; omega) ha.bel.size ?_
      intro v6 W6 r6 k6
      obtain ⟨d7, bx6⟩ := ha.putL (L' := L ++ [(qc, rc, P.length)]) k6 (by rw [List.map_append]; exact r6) (fun x hx => by
        rcases List.mem_append.1 hx with hx | hx
        · exact ha.il x hx
        · obtain rfl : x = (qc, rc, P.length) := by simpa using hx
          exact HD.out.2.1) (by simp; omega)
      obtain ⟨a6, c6, hv6⟩ := r6.form
      subst hv6
      simp only [Act.put, List.setIfInBounds_toArray, List.set_cons_zero, List.set_cons_succ]
      refine A_take (i := 8) (v := .pointer (some ⟨db, 0, none⟩)) (some 33) rfl rfl (by kernel_rfl) (by kernel_rfl) (by kernel_rfl) (fun _ _ _ h => h) (.inl ⟨rfl, fun w => ?_⟩) ?_
      · simp [go_sem]
      simp only [Act.put, List.setIfInBounds_toArray, List.set_cons_zero, List.set_cons_succ]
      refine A_take (i := 9) (v := .pointer (some ⟨db, 0, none⟩)) (some 34) rfl rfl (by kernel_rfl) (by kernel_rfl) (by kernel_rfl) (fun _ _ _ h => h) (.inl ⟨rfl, fun w => ?_⟩) ?_
      · simp [go_sem]
      simp only [Act.put, List.setIfInBounds_toArray, List.set_cons_zero, List.set_cons_succ]
      refine wpAny_all (rs := [10]) (by kernel_rfl) (by decide) (fun i hi => ?_)
      obtain rfl : i = 10 := by simpa using hi
      refine D_skip rfl rfl rfl (run_storeP rfl rfl rfl (u := .slice al L.length cl) (by simp only [World.cell?, bx6]; simp) (by simp only [World.frozen?, bx6]; simp)) ?_
      refine wpAny_done (by kernel_rfl) ?_ _
      have D7 := hideR d7
      clear d7 bx6 r6 k6 ha
      go_wp2_with fail
      go_ret
      exact ⟨rfl, DkN.mk' (D7.out.mono (Nat.le_succ N)) (by simp) HD.out.2.2.2⟩
    · refine D_value (v := .slice (some ⟨W5.heap.size, 0, none⟩) 1 1) (w' := W5.drew.alloc (.cells #[.pointer (some ⟨qc, 0, none⟩), .pointer (some ⟨rc, 0, none⟩)] 36)) (some 31) rfl rfl rfl (run_made rfl Try.underlying25 info_pairQ _ _ rfl (by kernel_rfl)) ?_
      simp only [Act.put, List.setIfInBounds_toArray, List.set_cons_zero, List.set_cons_succ]
      refine wpAny_all (rs := [4]) (by kernel_rfl) (by decide) (fun i hi => ?_)
      obtain rfl : i = 4 := by simpa using hi
      have hb : DkAt w0 (W5.drew.alloc (.cells #[.pointer (some ⟨qc, 0, none⟩), .pointer (some ⟨rc, 0, none⟩)] 36)) db (P ++ [p2]) L (.slice al L.length cl) K vk N := hd.later ((Below.refl _ W5.drew).alloc (Nat.le_refl _) _)
      refine D_value (v := .slice al L.length cl) (w' := (W5.drew.alloc (.cells #[.pointer (some ⟨qc, 0, none⟩), .pointer (some ⟨rc, 0, none⟩)] 36))) (some 29) rfl rfl rfl ?_ ?_
      · have kb := hb.box
        have kc : ((W5.drew.alloc (.cells #[.pointer (some ⟨qc, 0, none⟩), .pointer (some ⟨rc, 0, none⟩)] 36))).cell? ⟨db, 0, none⟩ = some (.slice al L.length cl) := by simp only [World.cell?, kb]; simp
        exact run_load1 rfl rfl Try.isAgg25 kc
      simp only [Act.put, List.setIfInBounds_toArray, List.set_cons_zero, List.set_cons_succ]
      clear hb
      have ha : DkAt w0 (W5.drew.alloc (.cells #[.pointer (some ⟨qc, 0, none⟩), .pointer (some ⟨rc, 0, none⟩)] 36)) db (P ++ [p2]) L (.slice al L.length cl) K vk N := hd.later ((Below.refl _ W5.drew).alloc (Nat.le_refl _) _)
      refine wpAny_all (rs := [7]) (by kernel_rfl) (by decide) (fun i hi => ?_)
      obtain rfl : i = 7 := by simpa using hi
      refine D_push (some 32) rfl rfl rfl (.tmp 29) (.tmp 31) 25 36 (.agg #[.pointer none, .pointer none]) rfl Try.underlying25 info_pairQ rfl w0.heap.size (.slice al L.length cl) (L.map lval) rfl ha.rl (lval (qc, rc, P.length)) W5.heap.size rfl (heap_alloc_new W5.drew _) rfl rfl (by rw [List.length_map]; omega) ha.bel.size ?_
      intro v6 W6 r6 k6
      obtain ⟨d7, bx6⟩ := ha.putL (L' := L ++ [(qc, rc, P.length)]) k6 (by rw [List.map_append]; exact r6) (fun x hx => by
        rcases List.mem_append.1 hx with hx | hx
        · exact ha.il x hx
        · obtain rfl : x = (qc, rc, P.length) := by simpa using hx
          exact HD.out.2.1) (by simp; omega)
      obtain ⟨a6, c6, hv6⟩ := r6.form
      subst hv6
      simp only [Act.put, List.setIfInBounds_toArray, List.set_cons_zero, List.set_cons_succ]
      refine A_take (i := 8) (v := .pointer (some ⟨db, 0, none⟩)) (some 33) rfl rfl (by kernel_rfl) (by kernel_rfl) (by kernel_rfl) (fun _ _ _ h => h) (.inl ⟨rfl, fun w => ?_⟩) ?_
      · simp [go_sem]
      simp only [Act.put, List.setIfInBounds_toArray, List.set_cons_zero, List.set_cons_succ]
      refine A_take (i := 9) (v := .pointer (some ⟨db, 0, none⟩)) (some 34) rfl rfl (by kernel_rfl) (by kernel_rfl) (by kernel_rfl) (fun _ _ _ h => h) (.inl ⟨rfl, fun w => ?_⟩) ?_
      · simp [go_sem]
      simp only [Act.put, List.setIfInBounds_toArray, List.set_cons_zero, List.set_cons_succ]
      refine wpAny_all (rs := [10]) (by kernel_rfl) (by decide) (fun i hi => ?_)
      obtain rfl : i = 10 := by simpa using hi
      refine D_skip rfl rfl rfl (run_storeP rfl rfl rfl (u := .slice al L.length cl) (by simp only [World.cell?, bx6]; simp) (by simp only [World.frozen?, bx6]; simp)) ?_
      refine wpAny_done (by kernel_rfl) ?_ _
      have D7 := hideR d7
      clear d7 bx6 r6 k6 ha
      go_wp2_with fail
      go_ret
      exact ⟨rfl, DkN.mk' (D7.out.mono (Nat.le_succ N)) (by simp) HD.out.2.2.2⟩
  · have t4 : ¬ (L.length : Int) < 4 := by omega
    have hL4 : L.length = 4 := by omega
    have HL4 := hideR hL4
    go_upto_region 7 with fail
    clear kd
    have hd : DkAt w0 W5.drew db (P ++ [p2]) L (.slice al L.length cl) K vk N := HD.out.1.later ⟨rfl, rfl, rfl, Nat.le_refl _, fun _ _ => rfl⟩
    have HD2 := hideR hd
    have sq : (fun X : World => X.heap[db]? = some (.cells #[.slice al L.length cl, vk] 28 (0, 0)) ∧ X.heap[nb]? = some (.cells #[.pointer (some ⟨qc, 0, none⟩), .pointer (some ⟨rc, 0, none⟩)] 36 (0, 0))) W5.drew := ⟨hd.box, HD.out.2.2.1⟩
    clear hd
    refine wp_region_held_drew (S := fun X => X.heap[db]? = some (.cells #[.slice al L.length cl, vk] 28 (0, 0)) ∧ X.heap[nb]? = some (.cells #[.pointer (some ⟨qc, 0, none⟩), .pointer (some ⟨rc, 0, none⟩)] 36 (0, 0))) mixed sq (fun _ => ?_)
    refine H_take (i := 0) (v := .pointer (some ⟨db, 0, none⟩)) (some 35) rfl rfl (by kernel_rfl) (by kernel_rfl) (by kernel_rfl) (fun _ _ _ h => h) rfl (fun X hX => ?_) sq ?_
    · simp [go_sem]
    simp only [Act.put, List.setIfInBounds_toArray, List.set_cons_zero, List.set_cons_succ]
    refine H_take (i := 1) (v := .pointer (some ⟨db, 0, none⟩)) (some 36) rfl rfl (by kernel_rfl) (by kernel_rfl) (by kernel_rfl) (fun _ _ _ h => h) rfl (fun X hX => ?_) sq ?_
    · simp [go_sem]
    simp only [Act.put, List.setIfInBounds_toArray, List.set_cons_zero, List.set_cons_succ]
    refine H_take (i := 2) (v := .pointer (some ⟨db, 0, none⟩)) (some 37) rfl rfl (by kernel_rfl) (by kernel_rfl) (by kernel_rfl) (fun _ _ _ h => h) rfl (fun X hX => ?_) sq ?_
    · simp [go_sem]
    simp only [Act.put, List.setIfInBounds_toArray, List.set_cons_zero, List.set_cons_succ]
    refine H_take (i := 3) (v := .slice al L.length cl) (some 38) rfl rfl (by kernel_rfl) (by kernel_rfl) (by kernel_rfl) (fun _ _ _ h => h) rfl (fun X hX => ?_) sq ?_
    · exact run_load1 rfl rfl Try.isAgg25 (by simp only [World.cell?, hX.1]; simp)
    simp only [Act.put, List.setIfInBounds_toArray, List.set_cons_zero, List.set_cons_succ]
    refine H_take (i := 4) (v := .int .i64 at_) (some 39) rfl rfl (by kernel_rfl) (by kernel_rfl) (by kernel_rfl) (fun _ _ _ h => h) rfl (fun X hX => ?_) sq ?_
    · simp [go_sem]
    simp only [Act.put, List.setIfInBounds_toArray, List.set_cons_zero, List.set_cons_succ]
    refine H_take (i := 6) (v := .agg #[.pointer (some ⟨qc, 0, none⟩), .pointer (some ⟨rc, 0, none⟩)]) (some 41) rfl rfl (by kernel_rfl) (by kernel_rfl) (by kernel_rfl) (fun _ _ _ h => h) rfl (fun X hX => ?_) sq ?_
    · exact run_loadRow rfl rfl hX.2 Try.underlying36 rfl rfl
    simp only [Act.put, List.setIfInBounds_toArray, List.set_cons_zero, List.set_cons_succ]
    refine H_call (i := 5) (f := 16) (args := #[.int .i64 at_, .int .i64 (4 : Nat)]) (some 40) rfl rfl (by kernel_rfl) rfl (by simp [go_sem]) ((pick_any W5.drew at_ 4 hat (by omega) (by omega)).mono ?_)
    rintro e W6 ⟨⟨r, hr4, rfl⟩, rfl⟩
    refine ⟨_, rfl, sq, ?_⟩
    simp only [Act.put, List.setIfInBounds_toArray, List.set_cons_zero, List.set_cons_succ]
    obtain ⟨y, hy⟩ : ∃ y, (L.map lval)[r]? = some y := ⟨_, List.getElem?_eq_getElem (by rw [List.length_map]; omega)⟩
    obtain ⟨gl, off, rfl, hgl, hrg, hth, _⟩ := HD2.out.rl.range hy
    have hput := HD2.out.rl.put (k := r) (by rw [List.length_map]; omega) (lval (qc, rc, P.length))
    have ri : (r : Int) < (L.length : Int) := by omega
    refine H_take (i := 7) (v := .pointer (some ⟨gl, off + 2 * r, none⟩)) (some 42) rfl rfl (by kernel_rfl) (by kernel_rfl) (by kernel_rfl) (fun _ _ _ h => h) rfl (fun X hX => ?_) sq ?_
    · simp [go_sem, ri]
    simp only [Act.put, List.setIfInBounds_toArray, List.set_cons_zero, List.set_cons_succ]
    obtain ⟨hgB, cg, hcg⟩ := HD2.out.rl.block (g := gl) rfl
    have hglt : gl < nb := by
      obtain ⟨_, c1, hc1⟩ := H1.out.1.rl.block (g := gl) rfl
      have l1 := (Array.getElem?_eq_some_iff.1 hc1).1
      have l2 := H2.out.2.2.1.size
      have l3 := H3.out.1.size
      have l4 := HN.out.1
      omega
    have hgd : gl ≠ db := fun e => by rw [e, HD2.out.box] at hcg; simp at hcg
    have sq2 : (fun X : World => X.heap[db]? = some (.cells #[.slice (some ⟨gl, off, none⟩) L.length cl, vk] 28 (0, 0)) ∧ X.heap[nb]? = some (.cells #[.pointer (some ⟨qc, 0, none⟩), .pointer (some ⟨rc, 0, none⟩)] 36 (0, 0))) (W5.drew.setCells gl (off + 2 * r) [.pointer (some ⟨qc, 0, none⟩), .pointer (some ⟨rc, 0, none⟩)]) := ⟨(hput.2.block db (Array.getElem?_eq_some_iff.1 sq.1).1 (fun e => hgd e.symm)).trans sq.1, (hput.2.block nb (Array.getElem?_eq_some_iff.1 sq.2).1 (fun e => by omega)).trans sq.2⟩
    have d7 := HD2.out.putIn (L' := L.set r (qc, rc, P.length)) (hput.2.mono (fun k _ e => by rw [e]; rfl)) (by rw [List.map_set]; exact hput.1) (fun x hx => by
      rcases List.mem_or_eq_of_mem_set hx with hx | rfl
      · exact HD.out.1.il x hx
      · exact HD.out.2.1) (by rw [List.length_set]; omega)
    have D7 := hideR d7
    clear d7 hput hrg hcg
    refine H_skip (i := 8) (w' := W5.drew.setCells gl (off + 2 * r) [.pointer (some ⟨qc, 0, none⟩), .pointer (some ⟨rc, 0, none⟩)]) rfl rfl (by kernel_rfl) rfl (run_storeMid rfl rfl rfl hth rfl (by simp [Value.oneCell'])) sq2 ?_
    refine wpAnyH_done (by kernel_rfl) ?_ _
    go_wp2_with fail
    go_ret
    exact ⟨rfl, DkN.mk' (D7.out.mono (Nat.le_succ N)) (fun e => HLN.out (by simpa using congrArg List.length e)) HD.out.2.2.2⟩
end Go.Proofs.Ytccpaapbgdpghaa
