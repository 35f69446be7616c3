/-
  The walks of 'settle' and 'drop'.
-/
import Derived.Test.YtkjjinccnaphpaaSinkT
namespace Go.Proofs.Ytkjjinccnaphpaa
open Go.RowKit

set_option maxHeartbeats 4000000 in
set_option maxRecDepth 1000000 in
theorem settleT {f : FuncId} {caps : Array Value} {lt : Int × Int → Int × Int → Bool} {ok : Int × Int → Prop} {Fr : Nat → Prop} {St : Nat → World → Prop} (A : AskerT f caps lt ok Fr St)
    (w : World) (hb mb : Nat) (v : Value) (last : Int) (R : List (Int × Int × Int)) (p n : Nat) (h : HeapAtT w hb v mb f caps last R) (hp : p < R.length) (hst : St n w) (hok : ∀ r ∈ R, ok r.2) (hfr : ∀ k, Mine hb v mb k → ¬ Fr k) (hR : R.length ≤ 1073741824) :
    Calls Try.prog 43 #[.pointer (some ⟨hb, 0, none⟩), .int .i64 (p : Int)] w fun e w' => e = .returned (.tuple #[]) ∧
      HeapAtT w' hb v mb f caps last (settleL lt R p n).1 ∧ St (settleL lt R p n).2 w' ∧ Kept (fun k => Mine hb v mb k ∨ Fr k) w w' := by
  have HA : Hid (AskerT f caps lt ok Fr St) := A
  have HO : Hid (∀ r ∈ R, ok r.2) := hok
  have HF : Hid (∀ k, Mine hb v mb k → ¬ Fr k) := hfr
  have HC := riseT A w hb mb v last R p n h hp hst hok hfr hR
  clear A h hst hok hfr
  by_cases hd : (riseL lt p R p n).2.1 ≠ p
  · rw [decide_eq_true hd] at HC
    have HCH : Hid (Calls Try.prog 34 #[.pointer (some ⟨hb, 0, none⟩), .int .i64 (p : Int)] w _) := HC
    clear HC
    go_enter Try.func43, Try.ntmps43
    go_wp2_with fail
    refine HCH.out.mono ?_
    rintro e w1 ⟨rfl, h1, s1, k1⟩
    have H1 : Hid (HeapAtT w1 hb v mb f caps last (settleL lt R p n).1 ∧ St (settleL lt R p n).2 w1 ∧ Kept (fun k => Mine hb v mb k ∨ Fr k) w w1) := by
      unfold settleL
      rw [if_pos hd]
      exact ⟨h1, s1, k1⟩
    clear h1 s1 k1
    go_wp2_with fail
    go_end0
    exact ⟨rfl, H1.out⟩
  · rw [decide_eq_false hd] at HC
    have HCH : Hid (Calls Try.prog 34 #[.pointer (some ⟨hb, 0, none⟩), .int .i64 (p : Int)] w _) := HC
    have HL : Hid ((riseL lt p R p n).1.length = R.length) := riseL_length lt p R p n
    clear HC
    go_enter Try.func43, Try.ntmps43
    go_wp2_with fail
    refine HCH.out.mono ?_
    rintro e w1 ⟨rfl, h1, s1, k1⟩
    have H1 : Hid (HeapAtT w1 hb v mb f caps last (riseL lt p R p n).1 ∧ St (riseL lt p R p n).2.2 w1 ∧ Kept (fun k => Mine hb v mb k ∨ Fr k) w w1) := ⟨h1, s1, k1⟩
    clear h1 s1 k1
    go_wp2_with fail
    refine (sinkT HA.out w1 hb mb v last (riseL lt p R p n).1 p (riseL lt p R p n).2.2 H1.out.1 (by rw [HL.out]; exact hp) H1.out.2.1 (fun r hr => HO.out r (mem_riseL _ _ _ _ hr)) HF.out (by rw [HL.out]; exact hR)).mono ?_
    rintro e w2 ⟨rfl, h2, s2, k2⟩
    rw [HL.out] at h2 s2
    have H2 : Hid (HeapAtT w2 hb v mb f caps last (settleL lt R p n).1 ∧ St (settleL lt R p n).2 w2 ∧ Kept (fun k => Mine hb v mb k ∨ Fr k) w w2) := by
      unfold settleL
      rw [if_neg hd]
      exact ⟨h2, s2, H1.out.2.2.trans k2⟩
    clear h2 s2 k2
    go_wp2_with fail
    go_end0
    exact ⟨rfl, H2.out⟩

theorem flatT_take (R : List (Int × Int × Int)) (k : Nat) (hk : k ≤ R.length) : (flatT R).take (k * 3) = flatT (R.take k) := by
  have h1 : flatT R = flatT (R.take k) ++ flatT (R.drop k) := by rw [← flatT_append, List.take_append_drop]
  have h2 : (flatT (R.take k)).length = k * 3 := by rw [flatT_length, List.length_take, Nat.min_eq_left hk]
  rw [h1, ← h2, List.take_left]

theorem cutT {w1 w2 : World} {hb mb rb cap e : Nat} {f : FuncId} {caps : Array Value} {last : Int} {R1 : List (Int × Int × Int)} {g : Int → Option Int} (h : HeapAtT w1 hb (.slice (some ⟨rb, 0, none⟩) R1.length cap) mb f caps last R1) (hl : R1.length = e + 1) (hg : w1.grownBy w2 (some mb))
    (ht : Tab w2 mb e g) (hs : Sits g (R1.take e)) (z : Int × Int × Int) :
    HeapAtT ((putT w2 rb e z).setCell ⟨hb, 1, none⟩ (.slice (some ⟨rb, 0, none⟩) e cap)) hb (.slice (some ⟨rb, 0, none⟩) e cap) mb f caps last (R1.take e) ∧ Kept (Mine hb (.slice (some ⟨rb, 0, none⟩) R1.length cap) mb) w1 ((putT w2 rb e z).setCell ⟨hb, 1, none⟩ (.slice (some ⟨rb, 0, none⟩) e cap)) ∧
      w2.cell? ⟨hb, 1, none⟩ = some (.slice (some ⟨rb, 0, none⟩) R1.length cap) ∧ (∀ k, w2.frozen? ⟨rb, k, none⟩ = false) ∧ w2.frozen? ⟨hb, 1, none⟩ = false ∧ hb ≠ rb ∧ (∀ k u, w1.cell? ⟨rb, k, none⟩ = some u → w2.cell? ⟨rb, k, none⟩ = some u) := by
  obtain ⟨r, hr⟩ : ∃ r, R1[e]? = some r := ⟨_, List.getElem?_eq_getElem (by omega)⟩
  obtain ⟨rb', cap', cur, hv, hcell, h1, h2, h3, h4⟩ := h.shape hr
  simp only [Value.slice.injEq, Option.some.injEq, Addr.mk.injEq] at hv
  obtain ⟨⟨rfl, _⟩, _, rfl⟩ := hv
  obtain ⟨box, _, ⟨g1, ht1, _⟩, fit⟩ := h
  obtain ⟨es, clock, hmap⟩ := ht1.map
  have hhr : hb ≠ rb := fun e => by subst e; rw [box] at hcell; simp at hcell
  have hmr : mb ≠ rb := fun e => by subst e; rw [hmap] at hcell; simp at hcell
  have hmh : mb ≠ hb := fun e => by subst e; rw [hmap] at box; simp at box
  have box2 := (hg.block hb (Array.getElem?_eq_some_iff.1 box).1 (fun e => hmh (Option.some.inj e).symm)).trans box
  have hcell2 := (hg.block rb (Array.getElem?_eq_some_iff.1 hcell).1 (fun e => hmr (Option.some.inj e).symm)).trans hcell
  obtain ⟨⟨cur', p1, p2, p3⟩, p4⟩ := putT_row hcell2 h1 h3 h4 (i := e) (by omega) z
  have box3 := (p4.block hb (Array.getElem?_eq_some_iff.1 box2).1 (fun e => hhr (Option.some.inj e))).trans box2
  have ht3 : Tab (putT w2 rb e z) mb e g := ht.block (p4.block mb ht.lt (fun e => hmr (Option.some.inj e)))
  obtain ⟨c1, c2⟩ := set_cells box3 1 (.slice (some ⟨rb, 0, none⟩) e cap)
  have hte : (R1.take e).length = e := by rw [List.length_take]; omega
  refine ⟨⟨by rw [c1]; simp, ⟨by rw [flatT_length, hte], .inr ⟨rb, cap, cur', by rw [hte], Nat.zero_le _, (c2.block rb (Array.getElem?_eq_some_iff.1 p1).1 (fun e => hhr (Option.some.inj e).symm)).trans p1, by omega, h2, p2, ?_⟩⟩, ⟨g, ?_, hs⟩, fun r hr => fit r (List.mem_of_mem_take hr)⟩, ?_, ?_, ?_, ?_, hhr, ?_⟩
  · rw [hte, ← flatT_take R1 e (by omega)]
    have h5 : cur'.toList.take (e * 3) = (cur'.toList.take (R1.length * 3)).take (e * 3) := by rw [List.take_take, Nat.min_eq_left (by omega)]
    rw [h5, p3, flatT_take _ e (by simp; omega), flatT_take _ e (by omega), List.take_set_of_le (Nat.le_refl _)]
  · rw [hte]
    exact ht3.block (c2.block mb ht3.lt (fun e => hmh (Option.some.inj e)))
  · exact ((Kept.ofGrown hg (fun k e => .inr (.inr (Option.some.inj e).symm))).trans (Kept.ofGrown p4 (fun k e => .inr (.inl e)))).trans (Kept.ofGrown c2 (fun k e => .inl (Option.some.inj e).symm))
  · simp [World.cell?, box2]
  · intro k; simp [World.frozen?, hcell2]
  · simp [World.frozen?, box2]
  · intro k u hu; exact (World.cell?_of_block (hg.block rb (Array.getElem?_eq_some_iff.1 hcell).1 (fun e => hmr (Option.some.inj e).symm))).trans hu

set_option maxHeartbeats 4000000 in
set_option maxRecDepth 1000000 in
theorem dropT {f : FuncId} {caps : Array Value} {lt : Int × Int → Int × Int → Bool} {ok : Int × Int → Prop} {Fr : Nat → Prop} {St : Nat → World → Prop} (A : AskerT f caps lt ok Fr St)
    (w : World) (hb mb : Nat) (v : Value) (last : Int) (R : List (Int × Int × Int)) (p n : Nat) (h : HeapAtT w hb v mb f caps last R) (hp : p < R.length) (hst : St n w) (hok : ∀ r ∈ R, ok r.2) (hfr : ∀ k, Mine hb v mb k → ¬ Fr k) (hR : R.length ≤ 1073741824) :
    Calls Try.prog 40 #[.pointer (some ⟨hb, 0, none⟩), .int .i64 (p : Int)] w fun e w' => e = .returned (.tuple #[]) ∧
      ∃ v', HeapAtT w' hb v' mb f caps last (dropL lt R p n).1 ∧ St (dropL lt R p n).2 w' ∧ Kept (fun k => Mine hb v mb k ∨ Fr k) w w' ∧ v'.ownBlock = v.ownBlock := by
  obtain ⟨rp, hrp⟩ : ∃ r, R[p]? = some r := ⟨_, List.getElem?_eq_getElem hp⟩
  obtain ⟨e, he⟩ : ∃ e, e + 1 = R.length := ⟨R.length - 1, by omega⟩
  obtain ⟨re, hre⟩ : ∃ r, R[e]? = some r := ⟨_, List.getElem?_eq_getElem (by omega)⟩
  obtain ⟨rb, cap, cur0, rfl, hg0, hcap, hcm, _, _⟩ := h.shape hrp
  have k1 : w.cell? ⟨hb, 1, none⟩ = some (.slice (some ⟨rb, 0, none⟩) R.length cap) := by simp [World.cell?, h.box]
  have eq1 : (R.length : Int) - 1 = (e : Int) := by omega
  have HA : Hid (AskerT f caps lt ok Fr St) := A
  have HH : Hid (HeapAtT w hb (.slice (some ⟨rb, 0, none⟩) R.length cap) mb f caps last R) := h
  have HS : Hid (St n w) := hst
  have HO : Hid (∀ r ∈ R, ok r.2) := hok
  have HF : Hid (∀ k, Mine hb (.slice (some ⟨rb, 0, none⟩) R.length cap) mb k → ¬ Fr k) := hfr
  have HX : Hid (R[p]? = some rp ∧ R[e]? = some re ∧ e + 1 = R.length ∧ R.length ≤ cap ∧ cap ≤ maxLen) := ⟨hrp, hre, he, hcap, hcm⟩
  clear A h hst hok hfr hrp hre hg0 hcm
  go_enter Try.func40, Try.ntmps40
  go_wp2_with fail
  refine (swapT w hb mb _ f caps last R p e rp re HH.out HX.out.1 HX.out.2.1 hR).mono ?_
  rintro x w1 ⟨rfl, hh1, hk1⟩
  obtain ⟨R1, hR1⟩ : ∃ R1, R1 = swapL R p e := ⟨_, rfl⟩
  rw [← hR1] at hh1
  have hl1 : R1.length = e + 1 := by rw [hR1, swapL_length, HX.out.2.2.1]
  have hr1 : R1[e]? = some rp := by rw [hR1, swapL_get HX.out.1 HX.out.2.1]; simp
  have hv1 : ∃ cur, w1.heap[rb]? = some (.cells cur 66 (0, 0)) ∧ cur.size = cap * 3 ∧ cur.toList.take (R1.length * 3) = flatT R1 := by
    obtain ⟨rb', cap', cur, h1, h2, _, _, h3, h4⟩ := hh1.shape hr1
    simp only [Value.slice.injEq, Option.some.injEq, Addr.mk.injEq] at h1
    obtain ⟨⟨rfl, _⟩, _, rfl⟩ := h1
    exact ⟨cur, h2, h3, h4⟩
  obtain ⟨cur, hg1, hs1, ht1⟩ := hv1
  have c0 := row_cellT hg1 ht1 hr1 0 _ rfl
  rw [Nat.add_zero] at c0
  have m1 : w1.cell? ⟨hb, 1, none⟩ = some (.slice (some ⟨rb, 0, none⟩) R.length cap) := by simp [World.cell?, hh1.box]
  have m2 : w1.cell? ⟨hb, 2, none⟩ = some (.map (some mb)) := by simp [World.cell?, hh1.box]
  have iE : (e : Int) < (R.length : Int) := by omega
  obtain ⟨g, htab, hsits⟩ := hh1.tab
  rw [hl1] at htab
  have HT : Hid (Tab w1 mb (e + 1) g) := htab
  have SI : Hid (Sits (delAt g rp.1) (R1.take e) ∧ (g rp.1).isSome = true) := ⟨hsits.cut hl1 hr1, hsits.has hr1⟩
  have HR1 : Hid (R1 = swapL R p e ∧ R1.length = e + 1) := ⟨hR1, hl1⟩
  have HG1 : Hid (w1.heap[rb]? = some (.cells cur 66 (0, 0)) ∧ cur.size = cap * 3 ∧ cur.toList.take (R1.length * 3) = flatT R1) := ⟨hg1, hs1, ht1⟩
  have HH1 : Hid (HeapAtT w1 hb (.slice (some ⟨rb, 0, none⟩) R.length cap) mb f caps last R1) := hh1
  have HK1 : Hid (Kept (Mine hb (.slice (some ⟨rb, 0, none⟩) R.length cap) mb) w w1) := hk1
  have hwf : (Lit.int .i64 rp.1).wf = true := HH.out.fit rp (List.mem_of_getElem? HX.out.1)
  have cs : ∀ k, k < 3 → ∃ u, w1.cell? ⟨rb, e * 3 + k, none⟩ = some u := fun k hk => by
    have : (cellsT rp)[k]? = some ((cellsT rp)[k]'hk) := List.getElem?_eq_getElem hk
    exact ⟨_, row_cellT hg1 ht1 hr1 k _ this⟩
  have CS : Hid (∀ k, k < 3 → ∃ u, w1.cell? ⟨rb, e * 3 + k, none⟩ = some u) := cs
  clear hR1 hl1 hr1 hg1 hs1 ht1 htab hsits hh1 hk1 cs k1
  obtain ⟨t1, t2⟩ := rp
  go_wp2_with fail
  refine wp_tail 12 mixed (by kernel_rfl) ?_
  simp only [List.take_succ_cons, List.take_zero, List.drop_succ_cons, List.drop_zero]
  repeat still_step
  refine wpStill_nil ?_
  refine wpList_strike rfl (.tmp 18) (.tmp 26) rfl mb (e + 1) g _ rfl rfl HT.out hwf ?_
  intro w2 ht2 hg2
  rw [if_pos SI.out.2, Nat.add_sub_cancel] at ht2
  have hx1 : R1.length = R.length := by rw [HR1.out.2, HX.out.2.2.1]
  have hh1 := HH1.out
  rw [← hx1] at hh1
  obtain ⟨h3, k3, y1, y2, y3, y4, y5⟩ := cutT hh1 HR1.out.2 (grown_of_drew hg2) ht2 SI.out.1 (0, (0, 0))
  rw [hx1] at y1 k3
  obtain ⟨u0, x0⟩ := CS.out 0 (by decide)
  obtain ⟨u1, x1⟩ := CS.out 1 (by decide)
  obtain ⟨u2, x2⟩ := CS.out 2 (by decide)
  have z0 := y5 _ _ x0
  have z1 := y5 _ _ x1
  have z2 := y5 _ _ x2
  rw [Nat.add_zero] at z0
  have f0 := y2 (e * 3)
  have f1 := y2 (e * 3 + 1)
  have f2 := y2 (e * 3 + 2)
  obtain ⟨w3, hw3⟩ : ∃ w3, w3 = (putT w2 rb e (0, (0, 0))).setCell ⟨hb, 1, none⟩ (.slice (some ⟨rb, 0, none⟩) e cap) := ⟨_, rfl⟩
  rw [← hw3] at h3 k3
  have H3 : Hid (HeapAtT w3 hb (.slice (some ⟨rb, 0, none⟩) e cap) mb f caps last (R1.take e)) := h3
  have K3 : Hid (Kept (Mine hb (.slice (some ⟨rb, 0, none⟩) R.length cap) mb) w w3) := HK1.out.trans k3
  have iC : (e : Int) ≤ (cap : Int) := by omega
  have DL : Hid (dropL lt R p n = if p < e then settleL lt (R1.take e) p n else (R1.take e, n)) := (show _ = _ by unfold dropL; rw [show R.length - 1 = e by omega, ← HR1.out.1])
  have S3 : Hid (St n w3) := HA.out.keep n w w3 HS.out K3.out.size (fun k hk hF => K3.out.block k hk (fun hM => HF.out k hM hF))
  unfold putT at hw3
  simp only [] at hw3
  clear h3 k3 hh1 x0 x1 x2 y2 y5 ht2 hg2 hx1 m1 m2 c0
  by_cases hpe : p < e
  · have hpi : (p : Int) < (e : Int) := by omega
    go_wp2_with fail
    rw [← hw3]
    refine (settleT HA.out w3 hb mb _ last (R1.take e) p n H3.out (by rw [List.length_take, HR1.out.2]; omega) S3.out (fun r hr => HO.out r (mem_swapL (HR1.out.1 ▸ List.mem_of_mem_take hr))) (fun k hk => HF.out k hk) (by rw [List.length_take]; omega)).mono ?_
    rintro x w4 ⟨rfl, h4, s4, k4⟩
    have H4 : Hid (HeapAtT w4 hb (.slice (some ⟨rb, 0, none⟩) e cap) mb f caps last (dropL lt R p n).1 ∧ St (dropL lt R p n).2 w4 ∧ Kept (fun k => Mine hb (.slice (some ⟨rb, 0, none⟩) R.length cap) mb k ∨ Fr k) w w4) := by
      rw [DL.out, if_pos hpe]
      exact ⟨h4, s4, (K3.out.mono (fun _ _ h => .inl h)).trans k4⟩
    clear h4 s4 k4
    go_wp2_with fail
    go_end0
    exact ⟨rfl, _, H4.out.1, H4.out.2.1, H4.out.2.2, rfl⟩
  · have hpi : ¬ (p : Int) < (e : Int) := by omega
    go_wp2_with fail
    rw [← hw3]
    go_end0
    refine ⟨rfl, .slice (some ⟨rb, 0, none⟩) e cap, ?_⟩
    rw [DL.out, if_neg hpe]
    exact ⟨H3.out, S3.out, K3.out.mono (fun _ _ h => .inl h), rfl⟩

end Go.Proofs.Ytkjjinccnaphpaa
