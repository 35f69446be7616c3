/-
  The walks of 'settle', 'drop', Pop, Remove.
-/
import Derived.Test.YtdgepinpabiabaaSinkS
import Derived.Test.YtdgepinpabiabaaSmallS
namespace Go.Proofs.Ytdgepinpabiabaa
open Go.RowKit

set_option maxHeartbeats 4000000 in
set_option maxRecDepth 1000000 in
theorem settleS {f : FuncId} {caps : Array Value} {lt : ByteArray → ByteArray → Bool} {ok : ByteArray → Prop} {Fr : Nat → Prop} {St : Nat → World → Prop} (A : AskerS f caps lt ok Fr St)
    (w : World) (hb mb : Nat) (v : Value) (last : Int) (R : List (Int × ByteArray)) (p n : Nat) (h : HeapAtS w hb v mb f caps last R) (hp : p < R.length) (hst : St n w) (hok : ∀ r ∈ R, ok r.2) (hfr : ∀ k, Mine hb v mb k → ¬ Fr k) (hR : R.length ≤ 1073741824) :
    Calls Try.prog 78 #[.pointer (some ⟨hb, 0, none⟩), .int .i64 (p : Int)] w fun e w' => e = .returned (.tuple #[]) ∧
      HeapAtS w' hb v mb f caps last (settleL lt R p n).1 ∧ St (settleL lt R p n).2 w' ∧ Kept (fun k => Mine hb v mb k ∨ Fr k) w w' := by
  have HA : Hid (AskerS f caps lt ok Fr St) := A
  have HO : Hid (∀ r ∈ R, ok r.2) := hok
  have HF : Hid (∀ k, Mine hb v mb k → ¬ Fr k) := hfr
  have HC := riseS A w hb mb v last R p n h hp hst hok hfr hR
  clear A h hst hok hfr
  by_cases hd : (riseL lt p R p n).2.1 ≠ p
  · rw [decide_eq_true hd] at HC
    have HCH : Hid (Calls Try.prog 54 #[.pointer (some ⟨hb, 0, none⟩), .int .i64 (p : Int)] w _) := HC
    clear HC
    go_enter Try.func78, Try.ntmps78
    go_wp2_with fail
    refine HCH.out.mono ?_
    rintro e w1 ⟨rfl, h1, s1, k1⟩
    have H1 : Hid (HeapAtS w1 hb v mb f caps last (settleL lt R p n).1 ∧ St (settleL lt R p n).2 w1 ∧ Kept (fun k => Mine hb v mb k ∨ Fr k) w w1) := by
      unfold settleL
      rw [if_pos hd]
      exact ⟨h1, s1, k1⟩
    clear h1 s1 k1
    go_wp2_with fail
    go_end0
    exact ⟨rfl, H1.out⟩
  · rw [decide_eq_false hd] at HC
    have HCH : Hid (Calls Try.prog 54 #[.pointer (some ⟨hb, 0, none⟩), .int .i64 (p : Int)] w _) := HC
    have HL : Hid ((riseL lt p R p n).1.length = R.length) := riseL_length lt p R p n
    clear HC
    go_enter Try.func78, Try.ntmps78
    go_wp2_with fail
    refine HCH.out.mono ?_
    rintro e w1 ⟨rfl, h1, s1, k1⟩
    have H1 : Hid (HeapAtS w1 hb v mb f caps last (riseL lt p R p n).1 ∧ St (riseL lt p R p n).2.2 w1 ∧ Kept (fun k => Mine hb v mb k ∨ Fr k) w w1) := ⟨h1, s1, k1⟩
    clear h1 s1 k1
    go_wp2_with fail
    refine (sinkS HA.out w1 hb mb v last (riseL lt p R p n).1 p (riseL lt p R p n).2.2 H1.out.1 (by rw [HL.out]; exact hp) H1.out.2.1 (fun r hr => HO.out r (mem_riseL _ _ _ _ hr)) HF.out (by rw [HL.out]; exact hR)).mono ?_
    rintro e w2 ⟨rfl, h2, s2, k2⟩
    rw [HL.out] at h2 s2
    have H2 : Hid (HeapAtS w2 hb v mb f caps last (settleL lt R p n).1 ∧ St (settleL lt R p n).2 w2 ∧ Kept (fun k => Mine hb v mb k ∨ Fr k) w w2) := by
      unfold settleL
      rw [if_neg hd]
      exact ⟨h2, s2, H1.out.2.2.trans k2⟩
    clear h2 s2 k2
    go_wp2_with fail
    go_end0
    exact ⟨rfl, H2.out⟩

theorem flatS_take (R : List (Int × ByteArray)) (k : Nat) (hk : k ≤ R.length) : (flatS R).take (k * 2) = flatS (R.take k) := by
  have h1 : flatS R = flatS (R.take k) ++ flatS (R.drop k) := by rw [← flatS_append, List.take_append_drop]
  have h2 : (flatS (R.take k)).length = k * 2 := by rw [flatS_length, List.length_take, Nat.min_eq_left hk]
  rw [h1, ← h2, List.take_left]

theorem cutS {w1 w2 : World} {hb mb rb cap e : Nat} {f : FuncId} {caps : Array Value} {last : Int} {R1 : List (Int × ByteArray)} {g : Int → Option Int} (h : HeapAtS w1 hb (.slice (some ⟨rb, 0, none⟩) R1.length cap) mb f caps last R1) (hl : R1.length = e + 1) (hg : w1.grownBy w2 (some mb))
    (ht : Tab w2 mb e g) (hs : Sits g (R1.take e)) (z : Int × ByteArray) :
    HeapAtS ((putS w2 rb e z).setCell ⟨hb, 1, none⟩ (.slice (some ⟨rb, 0, none⟩) e cap)) hb (.slice (some ⟨rb, 0, none⟩) e cap) mb f caps last (R1.take e) ∧ Kept (Mine hb (.slice (some ⟨rb, 0, none⟩) R1.length cap) mb) w1 ((putS w2 rb e z).setCell ⟨hb, 1, none⟩ (.slice (some ⟨rb, 0, none⟩) e cap)) ∧
      w2.cell? ⟨hb, 1, none⟩ = some (.slice (some ⟨rb, 0, none⟩) R1.length cap) ∧ (∀ k, w2.frozen? ⟨rb, k, none⟩ = false) ∧ w2.frozen? ⟨hb, 1, none⟩ = false ∧ hb ≠ rb ∧ (∀ k u, w1.cell? ⟨rb, k, none⟩ = some u → w2.cell? ⟨rb, k, none⟩ = some u) := by
  obtain ⟨r, hr⟩ : ∃ r, R1[e]? = some r := ⟨_, List.getElem?_eq_getElem (by omega)⟩
  obtain ⟨rb', cap', cur, hv, hcell, h1, h2, h3, h4⟩ := h.shape hr
  simp only [Value.slice.injEq, Option.some.injEq, Addr.mk.injEq] at hv
  obtain ⟨⟨rfl, _⟩, _, rfl⟩ := hv
  obtain ⟨box, _, ⟨g1, ht1, _⟩, fit⟩ := h
  obtain ⟨es, clock, hmap⟩ := ht1.map
  have hhr : hb ≠ rb := fun e => by subst e; rw [box] at hcell; simp at hcell
  have hmr : mb ≠ rb := fun e => by subst e; rw [hmap] at hcell; simp at hcell
  have hmh : mb ≠ hb := fun e => by subst e; rw [hmap] at box; simp at box
  have box2 := (hg.block hb (Array.getElem?_eq_some_iff.1 box).1 (fun e => hmh (Option.some.inj e).symm)).trans box
  have hcell2 := (hg.block rb (Array.getElem?_eq_some_iff.1 hcell).1 (fun e => hmr (Option.some.inj e).symm)).trans hcell
  obtain ⟨⟨cur', p1, p2, p3⟩, p4⟩ := putS_row hcell2 h1 h3 h4 (i := e) (by omega) z
  have box3 := (p4.block hb (Array.getElem?_eq_some_iff.1 box2).1 (fun e => hhr (Option.some.inj e))).trans box2
  have ht3 : Tab (putS w2 rb e z) mb e g := ht.block (p4.block mb ht.lt (fun e => hmr (Option.some.inj e)))
  obtain ⟨c1, c2⟩ := set_cells box3 1 (.slice (some ⟨rb, 0, none⟩) e cap)
  have hte : (R1.take e).length = e := by rw [List.length_take]; omega
  refine ⟨⟨by rw [c1]; simp, ⟨by rw [flatS_length, hte], .inr ⟨rb, cap, cur', by rw [hte], Nat.zero_le _, (c2.block rb (Array.getElem?_eq_some_iff.1 p1).1 (fun e => hhr (Option.some.inj e).symm)).trans p1, by omega, h2, p2, ?_⟩⟩, ⟨g, ?_, hs⟩, fun r hr => fit r (List.mem_of_mem_take hr)⟩, ?_, ?_, ?_, ?_, hhr, ?_⟩
  · rw [hte, ← flatS_take R1 e (by omega)]
    have h5 : cur'.toList.take (e * 2) = (cur'.toList.take (R1.length * 2)).take (e * 2) := by rw [List.take_take, Nat.min_eq_left (by omega)]
    rw [h5, p3, flatS_take _ e (by simp; omega), flatS_take _ e (by omega), List.take_set_of_le (Nat.le_refl _)]
  · rw [hte]
    exact ht3.block (c2.block mb ht3.lt (fun e => hmh (Option.some.inj e)))
  · exact ((Kept.ofGrown hg (fun k e => .inr (.inr (Option.some.inj e).symm))).trans (Kept.ofGrown p4 (fun k e => .inr (.inl e)))).trans (Kept.ofGrown c2 (fun k e => .inl (Option.some.inj e).symm))
  · simp [World.cell?, box2]
  · intro k; simp [World.frozen?, hcell2]
  · simp [World.frozen?, box2]
  · intro k u hu; exact (World.cell?_of_block (hg.block rb (Array.getElem?_eq_some_iff.1 hcell).1 (fun e => hmr (Option.some.inj e).symm))).trans hu

set_option maxHeartbeats 4000000 in
set_option maxRecDepth 1000000 in
theorem dropS {f : FuncId} {caps : Array Value} {lt : ByteArray → ByteArray → Bool} {ok : ByteArray → Prop} {Fr : Nat → Prop} {St : Nat → World → Prop} (A : AskerS f caps lt ok Fr St)
    (w : World) (hb mb : Nat) (v : Value) (last : Int) (R : List (Int × ByteArray)) (p n : Nat) (h : HeapAtS w hb v mb f caps last R) (hp : p < R.length) (hst : St n w) (hok : ∀ r ∈ R, ok r.2) (hfr : ∀ k, Mine hb v mb k → ¬ Fr k) (hR : R.length ≤ 1073741824) :
    Calls Try.prog 56 #[.pointer (some ⟨hb, 0, none⟩), .int .i64 (p : Int)] w fun e w' => e = .returned (.tuple #[]) ∧
      ∃ v', HeapAtS w' hb v' mb f caps last (dropL lt R p n).1 ∧ St (dropL lt R p n).2 w' ∧ Kept (fun k => Mine hb v mb k ∨ Fr k) w w' ∧ v'.ownBlock = v.ownBlock := by
  obtain ⟨rp, hrp⟩ : ∃ r, R[p]? = some r := ⟨_, List.getElem?_eq_getElem hp⟩
  obtain ⟨e, he⟩ : ∃ e, e + 1 = R.length := ⟨R.length - 1, by omega⟩
  obtain ⟨re, hre⟩ : ∃ r, R[e]? = some r := ⟨_, List.getElem?_eq_getElem (by omega)⟩
  obtain ⟨rb, cap, cur0, rfl, hg0, hcap, hcm, _, _⟩ := h.shape hrp
  have k1 : w.cell? ⟨hb, 1, none⟩ = some (.slice (some ⟨rb, 0, none⟩) R.length cap) := by simp [World.cell?, h.box]
  have eq1 : (R.length : Int) - 1 = (e : Int) := by omega
  have HA : Hid (AskerS f caps lt ok Fr St) := A
  have HH : Hid (HeapAtS w hb (.slice (some ⟨rb, 0, none⟩) R.length cap) mb f caps last R) := h
  have HS : Hid (St n w) := hst
  have HO : Hid (∀ r ∈ R, ok r.2) := hok
  have HF : Hid (∀ k, Mine hb (.slice (some ⟨rb, 0, none⟩) R.length cap) mb k → ¬ Fr k) := hfr
  have HX : Hid (R[p]? = some rp ∧ R[e]? = some re ∧ e + 1 = R.length ∧ R.length ≤ cap ∧ cap ≤ maxLen) := ⟨hrp, hre, he, hcap, hcm⟩
  clear A h hst hok hfr hrp hre hg0 hcm
  go_enter Try.func56, Try.ntmps56
  go_wp2_with fail
  refine (swapS w hb mb _ f caps last R p e rp re HH.out HX.out.1 HX.out.2.1 hR).mono ?_
  rintro x w1 ⟨rfl, hh1, hk1⟩
  obtain ⟨R1, hR1⟩ : ∃ R1, R1 = swapL R p e := ⟨_, rfl⟩
  rw [← hR1] at hh1
  have hl1 : R1.length = e + 1 := by rw [hR1, swapL_length, HX.out.2.2.1]
  have hr1 : R1[e]? = some rp := by rw [hR1, swapL_get HX.out.1 HX.out.2.1]; simp
  have hv1 : ∃ cur, w1.heap[rb]? = some (.cells cur 96 (0, 0)) ∧ cur.size = cap * 2 ∧ cur.toList.take (R1.length * 2) = flatS R1 := by
    obtain ⟨rb', cap', cur, h1, h2, _, _, h3, h4⟩ := hh1.shape hr1
    simp only [Value.slice.injEq, Option.some.injEq, Addr.mk.injEq] at h1
    obtain ⟨⟨rfl, _⟩, _, rfl⟩ := h1
    exact ⟨cur, h2, h3, h4⟩
  obtain ⟨cur, hg1, hs1, ht1⟩ := hv1
  have c0 := row_cellS hg1 ht1 hr1 0 _ rfl
  rw [Nat.add_zero] at c0
  have m1 : w1.cell? ⟨hb, 1, none⟩ = some (.slice (some ⟨rb, 0, none⟩) R.length cap) := by simp [World.cell?, hh1.box]
  have m2 : w1.cell? ⟨hb, 2, none⟩ = some (.map (some mb)) := by simp [World.cell?, hh1.box]
  have iE : (e : Int) < (R.length : Int) := by omega
  obtain ⟨g, htab, hsits⟩ := hh1.tab
  rw [hl1] at htab
  have HT : Hid (Tab w1 mb (e + 1) g) := htab
  have SI : Hid (Sits (delAt g rp.1) (R1.take e) ∧ (g rp.1).isSome = true) := ⟨hsits.cut hl1 hr1, hsits.has hr1⟩
  have HR1 : Hid (R1 = swapL R p e ∧ R1.length = e + 1) := ⟨hR1, hl1⟩
  have HG1 : Hid (w1.heap[rb]? = some (.cells cur 96 (0, 0)) ∧ cur.size = cap * 2 ∧ cur.toList.take (R1.length * 2) = flatS R1) := ⟨hg1, hs1, ht1⟩
  have HH1 : Hid (HeapAtS w1 hb (.slice (some ⟨rb, 0, none⟩) R.length cap) mb f caps last R1) := hh1
  have HK1 : Hid (Kept (Mine hb (.slice (some ⟨rb, 0, none⟩) R.length cap) mb) w w1) := hk1
  have hwf : (Lit.int .i64 rp.1).wf = true := HH.out.fit rp (List.mem_of_getElem? HX.out.1)
  have cs : ∀ k, k < 2 → ∃ u, w1.cell? ⟨rb, e * 2 + k, none⟩ = some u := fun k hk => by
    have : (cellsS rp)[k]? = some ((cellsS rp)[k]'hk) := List.getElem?_eq_getElem hk
    exact ⟨_, row_cellS hg1 ht1 hr1 k _ this⟩
  have CS : Hid (∀ k, k < 2 → ∃ u, w1.cell? ⟨rb, e * 2 + k, none⟩ = some u) := cs
  clear hR1 hl1 hr1 hg1 hs1 ht1 htab hsits hh1 hk1 cs k1
  obtain ⟨t1, t2⟩ := rp
  go_wp2_with fail
  refine wp_tail 12 mixed (by kernel_rfl) ?_
  simp only [List.take_succ_cons, List.take_zero, List.drop_succ_cons, List.drop_zero]
  repeat still_step
  refine wpStill_nil ?_
  refine wpList_strike rfl (.tmp 18) (.tmp 26) rfl mb (e + 1) g _ rfl rfl HT.out hwf ?_
  intro w2 ht2 hg2
  rw [if_pos SI.out.2, Nat.add_sub_cancel] at ht2
  have hx1 : R1.length = R.length := by rw [HR1.out.2, HX.out.2.2.1]
  have hh1 := HH1.out
  rw [← hx1] at hh1
  obtain ⟨h3, k3, y1, y2, y3, y4, y5⟩ := cutS hh1 HR1.out.2 (grown_of_drew hg2) ht2 SI.out.1 (0, (⟨#[]⟩ : ByteArray))
  rw [hx1] at y1 k3
  obtain ⟨u0, x0⟩ := CS.out 0 (by decide)
  obtain ⟨u1, x1⟩ := CS.out 1 (by decide)
  
  have z0 := y5 _ _ x0
  have z1 := y5 _ _ x1
  
  rw [Nat.add_zero] at z0
  have f0 := y2 (e * 2)
  have f1 := y2 (e * 2 + 1)
  
  obtain ⟨w3, hw3⟩ : ∃ w3, w3 = (putS w2 rb e (0, (⟨#[]⟩ : ByteArray))).setCell ⟨hb, 1, none⟩ (.slice (some ⟨rb, 0, none⟩) e cap) := ⟨_, rfl⟩
  rw [← hw3] at h3 k3
  have H3 : Hid (HeapAtS w3 hb (.slice (some ⟨rb, 0, none⟩) e cap) mb f caps last (R1.take e)) := h3
  have K3 : Hid (Kept (Mine hb (.slice (some ⟨rb, 0, none⟩) R.length cap) mb) w w3) := HK1.out.trans k3
  have iC : (e : Int) ≤ (cap : Int) := by omega
  have DL : Hid (dropL lt R p n = if p < e then settleL lt (R1.take e) p n else (R1.take e, n)) := (show _ = _ by unfold dropL; rw [show R.length - 1 = e by omega, ← HR1.out.1])
  have S3 : Hid (St n w3) := HA.out.keep n w w3 HS.out K3.out.size (fun k hk hF => K3.out.block k hk (fun hM => HF.out k hM hF))
  unfold putS at hw3
  simp only [] at hw3
  clear h3 k3 hh1 x0 x1  y2 y5 ht2 hg2 hx1 m1 m2 c0
  by_cases hpe : p < e
  · have hpi : (p : Int) < (e : Int) := by omega
    go_wp2_with fail
    rw [← hw3]
    refine (settleS HA.out w3 hb mb _ last (R1.take e) p n H3.out (by rw [List.length_take, HR1.out.2]; omega) S3.out (fun r hr => HO.out r (mem_swapL (HR1.out.1 ▸ List.mem_of_mem_take hr))) (fun k hk => HF.out k hk) (by rw [List.length_take]; omega)).mono ?_
    rintro x w4 ⟨rfl, h4, s4, k4⟩
    have H4 : Hid (HeapAtS w4 hb (.slice (some ⟨rb, 0, none⟩) e cap) mb f caps last (dropL lt R p n).1 ∧ St (dropL lt R p n).2 w4 ∧ Kept (fun k => Mine hb (.slice (some ⟨rb, 0, none⟩) R.length cap) mb k ∨ Fr k) w w4) := by
      rw [DL.out, if_pos hpe]
      exact ⟨h4, s4, (K3.out.mono (fun _ _ h => .inl h)).trans k4⟩
    clear h4 s4 k4
    go_wp2_with fail
    go_end0
    exact ⟨rfl, _, H4.out.1, H4.out.2.1, H4.out.2.2, rfl⟩
  · have hpi : ¬ (p : Int) < (e : Int) := by omega
    go_wp2_with fail
    rw [← hw3]
    go_end0
    refine ⟨rfl, .slice (some ⟨rb, 0, none⟩) e cap, ?_⟩
    rw [DL.out, if_neg hpe]
    exact ⟨H3.out, S3.out, K3.out.mono (fun _ _ h => .inl h), rfl⟩

/-- The first row is taken out. -/
def popL {α : Type} (lt : α → α → Bool) (R : List (Int × α)) (n : Nat) : List (Int × α) × Nat := if R.length = 0 then (R, n) else dropL lt R 0 n

set_option maxHeartbeats 4000000 in
set_option maxRecDepth 1000000 in
theorem popS {f : FuncId} {caps : Array Value} {lt : ByteArray → ByteArray → Bool} {ok : ByteArray → Prop} {Fr : Nat → Prop} {St : Nat → World → Prop} (A : AskerS f caps lt ok Fr St)
    (w : World) (hb mb : Nat) (v : Value) (last : Int) (R : List (Int × ByteArray)) (n : Nat) (h : HeapAtS w hb v mb f caps last R) (hst : St n w) (hok : ∀ r ∈ R, ok r.2) (hfr : ∀ k, Mine hb v mb k → ¬ Fr k) (hR : R.length ≤ 1073741824) :
    Calls Try.prog 22 #[.pointer (some ⟨hb, 0, none⟩)] w fun e w' => e = .returned (topOfS R) ∧
      ∃ v', HeapAtS w' hb v' mb f caps last (popL lt R n).1 ∧ St (popL lt R n).2 w' ∧ Kept (fun k => Mine hb v mb k ∨ Fr k) w w' ∧ v'.ownBlock = v.ownBlock := by
  have HA : Hid (AskerS f caps lt ok Fr St) := A
  have HH : Hid (HeapAtS w hb v mb f caps last R) := h
  have HS : Hid (St n w) := hst
  have HO : Hid (∀ r ∈ R, ok r.2) := hok
  have HF : Hid (∀ k, Mine hb v mb k → ¬ Fr k) := hfr
  have HT := topS w hb mb v f caps last R h
  clear A h hst hok hfr
  cases R with
  | nil =>
    have HTH : Hid (Calls Try.prog 57 #[.pointer (some ⟨hb, 0, none⟩)] w fun e w' => e = .returned (.tuple #[.int .i64 0, .string ByteArray.empty, .bool false]) ∧ Below w.heap.size w w') := HT
    clear HT
    go_enter Try.func22, Try.ntmps22
    go_wp2_with fail
    refine HTH.out.mono ?_
    rintro e w1 ⟨rfl, hB⟩
    have HB : Hid (Below w.heap.size w w1) := hB
    clear hB
    go_wp2_with fail
    go_ret3
    refine ⟨rfl, v, HH.out.kept (Kept.ofBelow (P := fun _ => False) HB.out) (fun _ _ h => h), HA.out.keep n w w1 HS.out HB.out.size (fun k hk _ => HB.out.block k hk), Kept.ofBelow HB.out, rfl⟩
  | cons r R =>
    obtain ⟨r1, r2⟩ := r
    have HTH : Hid (Calls Try.prog 57 #[.pointer (some ⟨hb, 0, none⟩)] w fun e w' => e = .returned (.tuple #[.int .i64 r1, valS r2, .bool true]) ∧ Below w.heap.size w w') := HT
    clear HT
    go_enter Try.func22, Try.ntmps22
    go_wp2_with fail
    refine HTH.out.mono ?_
    rintro e w1 ⟨rfl, hB⟩
    have HB : Hid (Below w.heap.size w w1) := hB
    clear hB
    go_wp2_with fail
    refine (dropS HA.out w1 hb mb v last ((r1, r2) :: R) 0 n (HH.out.kept (Kept.ofBelow (P := fun _ => False) HB.out) (fun _ _ h => h)) (by simp) (HA.out.keep n w w1 HS.out HB.out.size (fun k hk _ => HB.out.block k hk)) HO.out HF.out hR).mono ?_
    rintro e w2 ⟨rfl, v', h2, s2, k2, hv⟩
    have H2 : Hid (HeapAtS w2 hb v' mb f caps last (popL lt ((r1, r2) :: R) n).1 ∧ St (popL lt ((r1, r2) :: R) n).2 w2 ∧ Kept (fun k => Mine hb v mb k ∨ Fr k) w w2 ∧ v'.ownBlock = v.ownBlock) := ⟨h2, s2, (Kept.ofBelow HB.out).trans k2, hv⟩
    clear h2 s2 k2 hv
    go_wp2_with fail
    go_ret3
    exact ⟨rfl, v', H2.out⟩

set_option maxHeartbeats 4000000 in
set_option maxRecDepth 1000000 in
theorem removeS_no {f : FuncId} {caps : Array Value} (w : World) (hb mb : Nat) (v : Value) (last : Int) (R : List (Int × ByteArray)) (t : Int) (h : HeapAtS w hb v mb f caps last R) (ht : (Lit.int .i64 t).wf = true) (hn : R.find? (fun r => r.1 = t) = none) :
    Calls Try.prog 20 #[.pointer (some ⟨hb, 0, none⟩), .int .i64 t] w fun e w' => e = .returned (.tuple #[.string ByteArray.empty, .bool false]) ∧ Below w.heap.size w w' := by
  have HG := getS w hb mb v f caps last R t h ht
  unfold getOfS at HG
  rw [hn] at HG
  have HGH : Hid (Calls Try.prog 55 #[.pointer (some ⟨hb, 0, none⟩), .int .i64 t] w fun e w' => e = .returned (.tuple #[.string ByteArray.empty, .bool false]) ∧ Below w.heap.size w w') := HG
  clear HG h hn
  go_enter Try.func20, Try.ntmps20
  go_wp2_with fail
  refine HGH.out.mono ?_
  rintro e w1 ⟨rfl, hB⟩
  have HB : Hid (Below w.heap.size w w1) := hB
  clear hB
  go_wp2_with fail
  go_ret2
  exact ⟨rfl, HB.out⟩

set_option maxHeartbeats 4000000 in
set_option maxRecDepth 1000000 in
theorem removeS {f : FuncId} {caps : Array Value} {lt : ByteArray → ByteArray → Bool} {ok : ByteArray → Prop} {Fr : Nat → Prop} {St : Nat → World → Prop} (A : AskerS f caps lt ok Fr St)
    (w : World) (hb mb : Nat) (v : Value) (last : Int) (R : List (Int × ByteArray)) (i n : Nat) (r : Int × ByteArray) (h : HeapAtS w hb v mb f caps last R) (hi : R[i]? = some r) (hst : St n w) (hok : ∀ r ∈ R, ok r.2) (hfr : ∀ k, Mine hb v mb k → ¬ Fr k) (hR : R.length ≤ 1073741824) :
    Calls Try.prog 20 #[.pointer (some ⟨hb, 0, none⟩), .int .i64 r.1] w fun e w' => e = .returned (.tuple #[valS r.2, .bool true]) ∧
      ∃ v', HeapAtS w' hb v' mb f caps last (dropL lt R i n).1 ∧ St (dropL lt R i n).2 w' ∧ Kept (fun k => Mine hb v mb k ∨ Fr k) w w' ∧ v'.ownBlock = v.ownBlock := by
  have hwf := h.fit r (List.mem_of_getElem? hi)
  obtain ⟨g, htab, hs⟩ := h.tab
  have hgi := hs.1 i r hi
  have hf : R.find? (fun x => x.1 = r.1) = some r := by
    rcases hs.find r.1 with ⟨h1, _⟩ | ⟨j, r', h1, h2, h3, h4⟩
    · rw [h1] at hgi; cases hgi
    · have := hs.inj h2 hi h3
      subst this
      rw [hi] at h2; cases h2
      exact h4
  have HG := getS w hb mb v f caps last R r.1 h hwf
  unfold getOfS at HG
  rw [hf] at HG
  obtain ⟨r1, r2⟩ := r
  have HGH : Hid (Calls Try.prog 55 #[.pointer (some ⟨hb, 0, none⟩), .int .i64 r1] w fun e w' => e = .returned (.tuple #[valS r2, .bool true]) ∧ Below w.heap.size w w') := HG
  have HA : Hid (AskerS f caps lt ok Fr St) := A
  have HH : Hid (HeapAtS w hb v mb f caps last R) := h
  have HS : Hid (St n w) := hst
  have HO : Hid (∀ r ∈ R, ok r.2) := hok
  have HF : Hid (∀ k, Mine hb v mb k → ¬ Fr k) := hfr
  have HI : Hid (i < R.length ∧ g r1 = some (i : Int)) := ⟨(List.getElem?_eq_some_iff.1 hi).1, hgi⟩
  have HTB : Hid (Tab w mb R.length g) := htab
  clear HG A h hst hok hfr hs hf hi hgi htab
  go_enter Try.func20, Try.ntmps20
  go_wp2_with fail
  refine HGH.out.mono ?_
  rintro e w1 ⟨rfl, hB⟩
  have HB : Hid (Below w.heap.size w w1) := hB
  have HH1 : Hid (HeapAtS w1 hb v mb f caps last R) := HH.out.kept (Kept.ofBelow (P := fun _ => False) hB) (fun _ _ h => h)
  have HT1 : Hid (Tab w1 mb R.length g) := HTB.out.block (hB.block mb HTB.out.lt)
  have k2 : w1.cell? ⟨hb, 2, none⟩ = some (.map (some mb)) := by simp [World.cell?, HH1.out.box]
  clear hB
  go_wp2_with (at_lookup; refine wpList_look1 rfl _ _ rfl mb R.length g r1 rfl rfl HT1.out hwf ?_; rw [HI.out.2]; simp only [Option.getD_some])
  refine (dropS HA.out w1 hb mb v last R i n HH1.out HI.out.1 (HA.out.keep n w w1 HS.out HB.out.size (fun k hk _ => HB.out.block k hk)) HO.out HF.out hR).mono ?_
  rintro e w2 ⟨rfl, v', h2, s2, k2', hv⟩
  have H2 : Hid (HeapAtS w2 hb v' mb f caps last (dropL lt R i n).1 ∧ St (dropL lt R i n).2 w2 ∧ Kept (fun k => Mine hb v mb k ∨ Fr k) w w2 ∧ v'.ownBlock = v.ownBlock) := ⟨h2, s2, (Kept.ofBelow HB.out).trans k2', hv⟩
  clear h2 s2 k2' hv
  go_wp2_with fail
  go_ret2
  exact ⟨rfl, v', H2.out⟩
end Go.Proofs.Ytdgepinpabiabaa
