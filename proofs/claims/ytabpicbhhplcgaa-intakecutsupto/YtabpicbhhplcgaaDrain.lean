/-
  The walk of 'drain'.
-/
import Derived.Test.YtabpicbhhplcgaaReader
import Derived.Deep.RegionWith
import Derived.Deep.Cut
import Derived.Deep.CutRange
namespace Go.Proofs.Ytabpicbhhplcgaa
open Go.RowKit

/-- As the loop finds it. -/
def Rnd (w : World) (rb ib : Nat) (asz : Option Addr) (csz : Nat) (sz : List Int) (v : Value) (s : In) (n : Nat) (vi : Value) (P : List (Told × Value)) (gk : Nat) (wr : World) : Prop :=
  ∃ v1 s1 n1 vi1 P1, RdAt wr rb ib asz csz sz v1 s1 n1 vi1 (P ++ P1) ∧ (∀ i2 s2 n2, Drains sz s1 n1 i2 s2 n2 → Drains sz s n (P1.map (·.1) ++ i2) s2 n2) ∧ Turned w wr rb ib v vi P v1 vi1 (P ++ P1) ∧ mu s1 ≤ gk ∧ s1.Fit ∧ s1.held.length ≤ s.held.length ∧ P1.length + mu s1 ≤ mu s ∧ n1 ≤ n + P1.length
/-- What drain leaves. -/
def Drained (w : World) (rb ib : Nat) (asz : Option Addr) (csz : Nat) (sz : List Int) (v : Value) (s : In) (n : Nat) (vi : Value) (P : List (Told × Value)) (w' : World) : Prop :=
  ∃ v1 s1 n1 vi1 P1, RdAt w' rb ib asz csz sz v1 s1 n1 vi1 (P ++ P1) ∧ Drains sz s n (P1.map (·.1)) s1 n1 ∧ Turned w w' rb ib v vi P v1 vi1 (P ++ P1) ∧ s1.Fit ∧ s1.held.length ≤ s.held.length ∧ P1.length + mu s1 ≤ mu s + 1 ∧ n1 ≤ n + P1.length

set_option maxHeartbeats 8000000 in
set_option maxRecDepth 1000000 in
theorem drain_any (w : World) (rb ib : Nat) (asz : Option Addr) (csz : Nat) (sz : List Int) (v : Value) (s : In) (n : Nat) (vi : Value) (P : List (Told × Value)) (h : RdAt w rb ib asz csz sz v s n vi P) (hs : s.Fit) (hz : IsInts w asz csz sz) (hza : ∀ b o, asz = some ⟨b, o, none⟩ → sz ≠ [] → ¬ RMine rb ib v vi P b) (hm : MaxAt w) (h0 : ¬ RMine rb ib v vi P 0) (hP : P.length + mu s ≤ 16777216) (hn : n ≤ 16777216) :
    Calls Try.prog 19 #[.pointer (some ⟨rb, 0, none⟩)] w fun e w' => e = .returned (.tuple #[]) ∧ Drained w rb ib asz csz sz v s n vi P w' := by
  have HR : Hid (Rnd w rb ib asz csz sz v s n vi P (mu s) w) := ⟨v, s, n, vi, [], by simpa using h, fun i2 s2 n2 hd => by simpa using hd, by simpa using Turned.refl w rb ib v vi P, Nat.le_refl _, hs, Nat.le_refl _, by simp, by simp⟩
  have HZ : Hid (IsInts w asz csz sz) := hz
  have HZA : Hid (∀ b o, asz = some ⟨b, o, none⟩ → sz ≠ [] → ¬ RMine rb ib v vi P b) := hza
  have HM : Hid (MaxAt w) := hm
  have hib0 : 0 ≠ ib := fun e => h0 (.inr (.inl (.inl e)))
  have hzl : sz.length ≤ csz := hz.1
  have hzm : csz ≤ 9223372036854775807 := by have := hz.2.1; unfold maxLen at this; omega
  have H0 : Hid (¬ RMine rb ib v vi P 0) := h0
  clear h hs hz hza hm h0
  go_enter Try.func19, Try.ntmps19
  go_wp2
  go_loopg [] (mu s) (fun gk wr => Rnd w rb ib asz csz sz v s n vi P gk wr)
  case atStart => exact HR.out
  case round =>
    obtain ⟨v1, s1, n1, vi1, P1, hrd, hdr, htu, hmu, hfit, hheld, hcnt, hn1⟩ := hrel
    obtain ⟨avi, cvi, rfl⟩ : ∃ a c, vi1 = .slice a (P ++ P1).length c := by
      rcases hrd.row.2 with ⟨rfl, e⟩ | ⟨g, cap, cur, rfl, _⟩
      · exact ⟨none, 0, by rw [e]⟩
      · exact ⟨_, _, rfl⟩
    obtain ⟨N, hN⟩ : ∃ N, N = (P ++ P1).length := ⟨_, rfl⟩
    rw [← hN] at hrd htu
    have hNl : N ≤ 16777216 := by rw [hN, List.length_append]; omega
    have k0 : wr.cell? ⟨rb, 0, none⟩ = some (.pointer (some ⟨ib, 0, none⟩)) := by simp [World.cell?, hrd.box]
    have hltr : rb < wr.heap.size := hrd.lt rb (.inl rfl)
    have HRD : Hid (RdAt wr rb ib asz csz sz v1 s1 n1 (.slice avi N cvi) (P ++ P1) ∧ Turned w wr rb ib v vi P v1 (.slice avi N cvi) (P ++ P1)) := ⟨hrd, htu⟩
    have HD : Hid (∀ i2 s2 n2, Drains sz s1 n1 i2 s2 n2 → Drains sz s n (P1.map (·.1) ++ i2) s2 n2) := hdr
    have HF : Hid (s1.Fit ∧ s1.held.length ≤ s.held.length ∧ N = (P ++ P1).length ∧ mu s1 ≤ gk) := ⟨hfit, hheld, hN, hmu⟩
    have HM1 : Hid (MaxAt wr) := HM.out.kept htu.1 H0.out
    clear hrd hdr htu hfit hheld HR hN hmu
    go_wp2_with fail
    refine (next_any wr ib v1 s1 HRD.out.1.inat HF.out.1 HM1.out hib0).mono ?_
    rintro e w3 ⟨vb, rfl, own3, W3⟩
    obtain ⟨v3, hrd3, htu3, hap3⟩ := HRD.out.1.went W3
    obtain ⟨ab, cb, hvb, is3, _⟩ := own3.slice
    obtain ⟨lb, hlb⟩ : ∃ lb, lb = s1.next.1.body.length := ⟨_, rfl⟩
    rw [← hlb] at hvb
    subst hvb
    obtain ⟨kd, hkd⟩ : ∃ kd, kd = s1.next.1.kind := ⟨_, rfl⟩
    obtain ⟨tx, htx⟩ : ∃ tx : ByteArray, tx = ⟨s1.next.1.text.toArray⟩ := ⟨_, rfl⟩
    have HIT : Hid (itemV s1.next.1.kind s1.next.1.text (.slice ab lb cb) = .agg #[.int .i64 kd, .string tx, .slice ab lb cb] ∧ (s1.next.1.kind != 0) = (kd != 0) ∧ cellsI (s1.next.1, .slice ab lb cb) = [.int .i64 kd, .string tx, .slice ab lb cb]) := ⟨by unfold itemV; rw [hkd, htx], by rw [hkd], by unfold cellsI; rw [hkd, htx]⟩
    rw [HIT.out.1, HIT.out.2.1]
    obtain ⟨w4, hw4⟩ : ∃ w4, w4 = w3.alloc (.cells #[.int .i64 kd, .string tx, .slice ab lb cb] 54) := ⟨_, rfl⟩
    have B4 : Below w3.heap.size w3 w4 := by rw [hw4]; exact (Below.refl _ w3).alloc (Nat.le_refl _) _
    have r4 : w4.heap[w3.heap.size]? = some (.cells #[.int .i64 kd, .string tx, .slice ab lb cb] 54 (0, 0)) := by rw [hw4]; exact heap_alloc_last _ _
    obtain ⟨hrd4, htu4⟩ := hrd3.below B4
    have HW4 : Hid (w4 = w3.alloc (.cells #[.int .i64 kd, .string tx, .slice ab lb cb] 54)) := hw4
    have HR4 : Hid (RdAt w4 rb ib asz csz sz v3 s1.next.2 n1 (.slice avi N cvi) (P ++ P1) ∧ Turned wr w4 rb ib v1 (.slice avi N cvi) (P ++ P1) v3 (.slice avi N cvi) (P ++ P1)) := ⟨hrd4, htu3.trans htu4⟩
    have HO4 : Hid (Own w4 0 (.slice ab lb cb) s1.next.1.body ∧ (∀ k, Value.ownBlock (.slice ab lb cb) = some k → ¬ Mine ib v3 k) ∧ ∀ k, Value.ownBlock (.slice ab lb cb) = some k → wr.heap.size ≤ k) := ⟨(own3.mono (Nat.zero_le _)).below B4, fun k hk => hap3 k hk (own3.old k hk).1, fun k hk => (own3.old k hk).1⟩
    have HX4 : Hid (w4.heap[w3.heap.size]? = some (.cells #[.int .i64 kd, .string tx, .slice ab lb cb] 54 (0, 0))) := r4
    have HKD : Hid (kd = s1.next.1.kind) := hkd
    have hs34 : w4.heap.size = w3.heap.size + 1 := by rw [hw4]; simp
    have hltx : w3.heap.size < w4.heap.size := by omega
    have hsz3 := W3.went.kept.size
    clear own3 W3 hrd3 htu3 hap3 is3 hlb hkd htx hw4 B4 r4 hrd4 htu4 hs34
    by_cases hk0 : kd = 0
    · have hkb : (kd != 0) = false := by simp [hk0]
      rw [hkb]
      have HDD : Hid (Drained w rb ib asz csz sz v s n vi P w4) := by
        refine ⟨v3, s1.next.2, n1, .slice avi N cvi, P1, HR4.out.1, ?_, HRD.out.2.trans HR4.out.2, (next_fit HF.out.1).1, Nat.le_trans (next_fit HF.out.1).2 HF.out.2.1, by have h1 := (next_fit HF.out.1).2; have h2 : mu s1.next.2 ≤ 2 * s1.next.2.held.length + 1 := (by unfold mu; split <;> omega); have h3 : 2 * s1.held.length ≤ mu s1 := (by unfold mu; omega); omega, hn1⟩
        have := HD.out [] s1.next.2 n1 ⟨by rw [← HKD.out]; exact hk0, rfl, rfl⟩
        simpa using this
      clear hk0
      go_upto_region 1 with fail
      rw [← HW4.out]
      go_wp2
      refine bodyPost_ret (results_none rfl _ _ _) rfl ?_
      exact ⟨rfl, HDD.out⟩
    · have hkb : (kd != 0) = true := by simp [hk0]
      rw [hkb]
      have p0 : w4.cell? ⟨w3.heap.size, 0, none⟩ = some (.int .i64 kd) := by simp [World.cell?, HX4.out]
      have p1 : w4.cell? ⟨w3.heap.size, 1, none⟩ = some (.string tx) := by simp [World.cell?, HX4.out]
      have p2 : w4.cell? ⟨w3.heap.size, 2, none⟩ = some (.slice ab lb cb) := by simp [World.cell?, HX4.out]
      have j3 : w4.cell? ⟨rb, 3, none⟩ = some (.slice avi N cvi) := by simp [World.cell?, HR4.out.1.box]
      have f3 : w4.frozen? ⟨rb, 3, none⟩ = false := by simp [World.frozen?, HR4.out.1.box]
      have hlt4 : rb < w4.heap.size := HR4.out.1.lt rb (.inl rfl)
      go_upto_region 2 with fail
      rw [← HW4.out]
      clear k0
      go_region_law (refine step_items rfl (.tmp 18) (.tmp 20) rfl w4 (.slice avi N cvi) (P ++ P1) (s1.next.1, .slice ab lb cb) [.int .i64 kd, .string tx, .slice ab lb cb] HIT.out.2.2 N HF.out.2.2.1 HR4.out.1.row (by have := HF.out.2.2.1; omega) rfl (by simp [Act.eval]) (by simp [Act.eval]) ?_; intro g cap w5 hown hgrow hat; obtain ⟨rd5, K5, N5, c3, f5, hlt5⟩ := HR4.out.1.push hown hgrow (hat.imp id (fun e k hk => by cases hk; exact e)) HO4.out.1 HO4.out.2.1 wr (by omega) HO4.out.2.2)
      all_goals (
        obtain ⟨w6, hw6⟩ : ∃ w6, w6 = w5.setCell ⟨rb, 3, none⟩ (.slice (some ⟨g, 0, none⟩) (N + 1) cap) := ⟨_, rfl⟩
        rw [← hw6] at rd5 K5
        have HRD6 : Hid (RdAt w6 rb ib asz csz sz v3 s1.next.2 n1 (.slice (some ⟨g, 0, none⟩) (N + 1) cap) ((P ++ P1) ++ [(s1.next.1, .slice ab lb cb)])) := rd5
        have HT6 : Hid (Turned wr w6 rb ib v1 (.slice avi N cvi) (P ++ P1) v3 (.slice (some ⟨g, 0, none⟩) (N + 1) cap) ((P ++ P1) ++ [(s1.next.1, .slice ab lb cb)])) := by
          refine ⟨HR4.out.2.1.step K5 (fun j hj e => (HR4.out.2.2 j e).elim id (fun e => by omega)), fun j hj => ?_⟩
          rcases N5 j hj with e | e
          · exact HR4.out.2.2 j e
          · exact .inr e
        have x6 : w6.heap[w3.heap.size]? = some (.cells #[.int .i64 kd, .string tx, .slice ab lb cb] 54 (0, 0)) := by
          refine (K5.block w3.heap.size hltx ?_).trans HX4.out
          rintro (e | e | e | ⟨q, hq, e⟩)
          · have := HRD.out.1.lt rb (.inl rfl); omega
          · exact HR4.out.1.inat.otherT HX4.out (by decide) (by decide) e
          · have := HRD.out.1.lt w3.heap.size (.inr (.inr (.inl e))); omega
          · have := HRD.out.1.lt w3.heap.size (.inr (.inr (.inr ⟨q, hq, e⟩))); omega
        have q0 : w6.cell? ⟨w3.heap.size, 0, none⟩ = some (.int .i64 kd) := by simp [World.cell?, x6]
        have b0 : w6.cell? ⟨rb, 0, none⟩ = some (.pointer (some ⟨ib, 0, none⟩)) := by simp [World.cell?, rd5.box]
        have b1 : w6.cell? ⟨rb, 1, none⟩ = some (.slice asz sz.length csz) := by simp [World.cell?, rd5.box]
        have b2 : w6.cell? ⟨rb, 2, none⟩ = some (.int .i64 n1) := by simp [World.cell?, rd5.box]
        have f2 : w6.frozen? ⟨rb, 2, none⟩ = false := by simp [World.frozen?, rd5.box]
        have hlt6 : rb < w6.heap.size := rd5.lt rb (.inl rfl)
        have HW6 : Hid (w6 = w5.setCell ⟨rb, 3, none⟩ (.slice (some ⟨g, 0, none⟩) (N + 1) cap)) := hw6
        have HKN : Hid (s1.next.1.kind ≠ 0) := by rw [← HKD.out]; exact hk0
        have hn1l : n1 ≤ 33554432 := by omega
        clear hown hgrow hat K5 N5 hw6 x6 rd5 hk0
        rw [← HW6.out]
        clear c3 f5 hlt5 p0 p1 p2 j3 f3
        by_cases hk1 : kd = 1
        · have e1 : (kd == 1) = true := by simp [hk1]
          have HK1 : Hid (s1.next.1.kind = 1) := by rw [← HKD.out]; exact hk1
          clear hk1
          by_cases hln : n1 < sz.length
          · have hlni : (n1 : Int) < (sz.length : Int) := by omega
            obtain ⟨m, hzm1⟩ : ∃ m, sz[n1]? = some m := ⟨_, List.getElem?_eq_getElem hln⟩
            obtain ⟨bz, oz, rfl, cz⟩ : ∃ bz oz, asz = some ⟨bz, oz, none⟩ ∧ w6.cell? ⟨bz, oz + n1, none⟩ = some (.int .i64 m) := by
              rcases HZ.out.2.2.2 with e | ⟨bz, oz, e, hbz, hc⟩
              · rw [e] at hln; simp at hln
              · exact ⟨bz, oz, e, (HRD.out.2.trans HT6.out).1.cell (HZA.out bz oz e (fun e => by rw [e] at hln; simp at hln)) (hc n1 m hzm1)⟩
            have HSZ : Hid (sz[n1]? = some m) := hzm1
            clear hzm1
            go_upto_region 4 with fail
            go_quiet (fail)
            all_goals (
              obtain ⟨w7, hw7⟩ : ∃ w7, w7 = w6.drewN nq := ⟨_, rfl⟩
              rw [← hw7]
              have B7 : Below w6.heap.size w6 w7 := by rw [hw7]; exact below_drewN (Below.refl _ w6) nq
              obtain ⟨rd7, tu7⟩ := HRD6.out.below B7
              have d0 : w7.cell? ⟨rb, 0, none⟩ = some (.pointer (some ⟨ib, 0, none⟩)) := by simp [World.cell?, rd7.box]
              have d1 : w7.cell? ⟨rb, 1, none⟩ = some (.slice (some ⟨bz, oz, none⟩) sz.length csz) := by simp [World.cell?, rd7.box]
              have d2 : w7.cell? ⟨rb, 2, none⟩ = some (.int .i64 n1) := by simp [World.cell?, rd7.box]
              have dz : w7.cell? ⟨bz, oz + n1, none⟩ = some (.int .i64 m) := by rw [hw7]; exact cz
              have hlt7 : rb < w7.heap.size := rd7.lt rb (.inl rfl)
              have HRD7 : Hid (RdAt w7 rb ib (some ⟨bz, oz, none⟩) csz sz v3 s1.next.2 n1 (.slice (some ⟨g, 0, none⟩) (N + 1) cap) ((P ++ P1) ++ [(s1.next.1, .slice ab lb cb)]) ∧ Turned w6 w7 rb ib v3 (.slice (some ⟨g, 0, none⟩) (N + 1) cap) ((P ++ P1) ++ [(s1.next.1, .slice ab lb cb)]) v3 (.slice (some ⟨g, 0, none⟩) (N + 1) cap) ((P ++ P1) ++ [(s1.next.1, .slice ab lb cb)])) := ⟨rd7, tu7⟩
              have HM7 : Hid (MaxAt w7) := HM.out.kept ((HRD.out.2.trans HT6.out).trans tu7).1 H0.out
              clear hw7 B7 rd7 tu7 b0 b1 b2 f2 cz q0
              go_upto_region 5 with fail
              refine wp_tail 14 mixed (by kernel_rfl) ?_
              simp only [List.take_succ_cons, List.take_zero, List.drop_succ_cons, List.drop_zero]
              repeat still_step
              refine wpStill_nil ?_
              go_wp2_with fail
              refine (Body_any w7.drew ib v3 s1.next.2 m HRD7.out.1.inat (next_fit HF.out.1).1 HM7.out hib0).mono ?_
              rintro e w8 ⟨rfl, W8⟩
              have HW8 : Hid (Went w7 ib v3 (s1.next.2.body m) w8) := (by obtain ⟨v8, g1, g2, g3⟩ := W8; exact ⟨v8, g1, ⟨g2.os, g2.tape, g2.output, g2.size, g2.block⟩, g3⟩)
              clear W8
              all_goals (
                obtain ⟨v8, rd8, tu8, _⟩ := HRD7.out.1.went HW8.out.x
                obtain ⟨rd9, tu9⟩ := rd8.lines (n1 + 1)
                have y2 : w8.cell? ⟨rb, 2, none⟩ = some (.int .i64 n1) := by simp [World.cell?, rd8.box]
                have z2 : w8.frozen? ⟨rb, 2, none⟩ = false := by simp [World.frozen?, rd8.box]
                have hlt8 : rb < w8.heap.size := rd8.lt rb (.inl rfl)
                obtain ⟨w9, hw9⟩ : ∃ w9, w9 = w8.setCell ⟨rb, 2, none⟩ (.int .i64 ((n1 + 1 : Nat) : Int)) := ⟨_, rfl⟩
                rw [← hw9] at rd9 tu9
                have HR9 : Hid (RdAt w9 rb ib (some ⟨bz, oz, none⟩) csz sz v8 (s1.next.2.body m) (n1 + 1) (.slice (some ⟨g, 0, none⟩) (N + 1) cap) ((P ++ P1) ++ [(s1.next.1, .slice ab lb cb)]) ∧ Turned w6 w9 rb ib v3 (.slice (some ⟨g, 0, none⟩) (N + 1) cap) ((P ++ P1) ++ [(s1.next.1, .slice ab lb cb)]) v8 (.slice (some ⟨g, 0, none⟩) (N + 1) cap) ((P ++ P1) ++ [(s1.next.1, .slice ab lb cb)])) := ⟨rd9, (HRD7.out.2.trans tu8).trans tu9⟩
                have HW9 : Hid (w8.setCell ⟨rb, 2, none⟩ (.int .i64 ((n1 : Int) + 1)) = w9) := by show _ = _; rw [hw9]; simp
                clear rd8 tu8 rd9 tu9 hw9
                have HRN : Hid (Rnd w rb ib (some ⟨bz, oz, none⟩) csz sz v s n vi P (mu (s1.next.2.body m)) w9) := by
                  have haf : after sz s1.next n1 = ((s1.next.2.body m), n1 + 1) := by unfold after; rw [if_pos HK1.out, HSZ.out]
                  obtain ⟨a1, a2, a3⟩ := after_fit (sz := sz) (n := n1) HF.out.1 HKN.out
                  rw [haf] at a1 a2 a3
                  simp only [] at a1 a2 a3
                  refine ⟨v8, (s1.next.2.body m), n1 + 1, _, P1 ++ [(s1.next.1, .slice ab lb cb)], by rw [← List.append_assoc]; exact HR9.out.1, fun i2 s2 n2 hd => ?_, by rw [← List.append_assoc]; exact (HRD.out.2.trans HT6.out).trans HR9.out.2, Nat.le_refl _, a1, Nat.le_trans a2 HF.out.2.1, by simp; omega, by simp; omega⟩
                  have := HD.out (s1.next.1 :: i2) s2 n2 ⟨rfl, HKN.out, by rw [haf]; exact hd⟩
                  simpa using this
                have hlm : mu (s1.next.2.body m) < gk := by
                  have haf : after sz s1.next n1 = ((s1.next.2.body m), n1 + 1) := by unfold after; rw [if_pos HK1.out, HSZ.out]
                  obtain ⟨_, _, a3⟩ := after_fit (sz := sz) (n := n1) HF.out.1 HKN.out
                  rw [haf] at a3
                  simp only [] at a3
                  have := HF.out.2.2.2
                  omega
                go_upto_region 6 with fail
                clear d0 d1 d2 dz
                go_wp2
                rw [HW9.out]
                go_roundg (mu (s1.next.2.body m))
                case measure => exact hlm
                case rel => exact HRN.out))
          · have hlni : ¬ (n1 : Int) < (sz.length : Int) := by omega
            have HSZ : Hid (sz[n1]? = none) := List.getElem?_eq_none (by omega)
            go_upto_region 4 with fail
            go_quiet (fail)
            all_goals (
              obtain ⟨w7, hw7⟩ : ∃ w7, w7 = w6.drewN nq := ⟨_, rfl⟩
              rw [← hw7]
              have B7 : Below w6.heap.size w6 w7 := by rw [hw7]; exact below_drewN (Below.refl _ w6) nq
              obtain ⟨rd7, tu7⟩ := HRD6.out.below B7
              have d2 : w7.cell? ⟨rb, 2, none⟩ = some (.int .i64 n1) := by simp [World.cell?, rd7.box]
              have z2 : w7.frozen? ⟨rb, 2, none⟩ = false := by simp [World.frozen?, rd7.box]
              have hlt7 : rb < w7.heap.size := rd7.lt rb (.inl rfl)
              obtain ⟨rd9, tu9⟩ := rd7.lines (n1 + 1)
              obtain ⟨w9, hw9⟩ : ∃ w9, w9 = w7.setCell ⟨rb, 2, none⟩ (.int .i64 ((n1 + 1 : Nat) : Int)) := ⟨_, rfl⟩
              rw [← hw9] at rd9 tu9
              have HR9 : Hid (RdAt w9 rb ib asz csz sz v3 s1.next.2 (n1 + 1) (.slice (some ⟨g, 0, none⟩) (N + 1) cap) ((P ++ P1) ++ [(s1.next.1, .slice ab lb cb)]) ∧ Turned w6 w9 rb ib v3 (.slice (some ⟨g, 0, none⟩) (N + 1) cap) ((P ++ P1) ++ [(s1.next.1, .slice ab lb cb)]) v3 (.slice (some ⟨g, 0, none⟩) (N + 1) cap) ((P ++ P1) ++ [(s1.next.1, .slice ab lb cb)])) := ⟨rd9, tu7.trans tu9⟩
              have HW9 : Hid (w7.setCell ⟨rb, 2, none⟩ (.int .i64 ((n1 : Int) + 1)) = w9) := by show _ = _; rw [hw9]; simp
              clear rd7 tu7 rd9 tu9 hw9 hw7 B7 b0 b1 b2 f2 q0
              have HRN : Hid (Rnd w rb ib asz csz sz v s n vi P (mu s1.next.2) w9) := by
                have haf : after sz s1.next n1 = (s1.next.2, n1 + 1) := by unfold after; rw [if_pos HK1.out, HSZ.out]
                obtain ⟨a1, a2, a3⟩ := after_fit (sz := sz) (n := n1) HF.out.1 HKN.out
                rw [haf] at a1 a2 a3
                simp only [] at a1 a2 a3
                refine ⟨v3, s1.next.2, n1 + 1, _, P1 ++ [(s1.next.1, .slice ab lb cb)], by rw [← List.append_assoc]; exact HR9.out.1, fun i2 s2 n2 hd => ?_, by rw [← List.append_assoc]; exact (HRD.out.2.trans HT6.out).trans HR9.out.2, Nat.le_refl _, a1, Nat.le_trans a2 HF.out.2.1, by simp; omega, by simp; omega⟩
                have := HD.out (s1.next.1 :: i2) s2 n2 ⟨rfl, HKN.out, by rw [haf]; exact hd⟩
                simpa using this
              have hlm : mu s1.next.2 < gk := by
                have haf : after sz s1.next n1 = (s1.next.2, n1 + 1) := by unfold after; rw [if_pos HK1.out, HSZ.out]
                obtain ⟨_, _, a3⟩ := after_fit (sz := sz) (n := n1) HF.out.1 HKN.out
                rw [haf] at a3
                simp only [] at a3
                have := HF.out.2.2.2
                omega
              go_wp2
              rw [HW9.out]
              go_roundg (mu s1.next.2)
              case measure => exact hlm
              case rel => exact HRN.out)
        · have e1 : (kd == 1) = false := by simpa using hk1
          have HK1 : Hid (s1.next.1.kind ≠ 1) := by rw [← HKD.out]; exact hk1
          clear hk1
          have HRN : Hid (Rnd w rb ib asz csz sz v s n vi P (mu s1.next.2) w6) := by
            have haf : after sz s1.next n1 = (s1.next.2, n1) := by unfold after; rw [if_neg HK1.out]
            obtain ⟨a1, a2, a3⟩ := after_fit (sz := sz) (n := n1) HF.out.1 HKN.out
            rw [haf] at a1 a2 a3
            simp only [] at a1 a2 a3
            refine ⟨v3, s1.next.2, n1, _, P1 ++ [(s1.next.1, .slice ab lb cb)], by rw [← List.append_assoc]; exact HRD6.out, fun i2 s2 n2 hd => ?_, by rw [← List.append_assoc]; exact HRD.out.2.trans HT6.out, Nat.le_refl _, a1, Nat.le_trans a2 HF.out.2.1, by simp; omega, by simp; omega⟩
            have := HD.out (s1.next.1 :: i2) s2 n2 ⟨rfl, HKN.out, by rw [haf]; exact hd⟩
            simpa using this
          have hlm : mu s1.next.2 < gk := by
            obtain ⟨_, _, a3⟩ := after_fit (sz := sz) (n := n1) HF.out.1 HKN.out
            rw [show after sz s1.next n1 = (s1.next.2, n1) by unfold after; rw [if_neg HK1.out]] at a3
            simp only [] at a3
            have := HF.out.2.2.2
            omega
          go_wp2
          go_roundg (mu s1.next.2)
          case measure => exact hlm
          case rel => exact HRN.out)
end Go.Proofs.Ytabpicbhhplcgaa
