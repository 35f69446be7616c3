/-
  The iterator of All.
-/
import Derived.Test.YtccpaapbgdpghaaLineI
import Derived.Test.YtccpaapbgdpghaaTold
import Derived.Shelf.Abstract
import Derived.Shelf.RegionOpen
import Derived.OwnWalkIn
import Derived.TacticsInMore
import Derived.LoopNIn
import Derived.LoopIn
import Derived.Sort.LoopGhostIn
namespace Go.Proofs.Ytccpaapbgdpghaa
open Go.RowKit

/-- What an iterator goes by stays: the rows of places, and of each place its ticket and its thing. -/
structure KpI (W W' : World) : Prop where
  size : W.heap.size ≤ W'.heap.size
  rows : ∀ (k : Nat) (c : Array Value), W.heap[k]? = some (.cells c 57 (0, 0)) → W'.heap[k]? = W.heap[k]?
  places : ∀ (k : Nat) (c : Array Value), W.heap[k]? = some (.cells c 73 (0, 0)) → ∃ c' : Array Value, W'.heap[k]? = some (.cells c' 73 (0, 0)) ∧ c'[0]? = c[0]? ∧ c'[1]? = c[1]?
theorem KpI.refl (W : World) : KpI W W := ⟨Nat.le_refl _, fun _ _ _ => rfl, fun _ c h => ⟨c, h, rfl, rfl⟩⟩
theorem KpI.trans {A B C : World} (h : KpI A B) (k : KpI B C) : KpI A C :=
  ⟨Nat.le_trans h.size k.size, fun i c hc => (k.rows i c ((h.rows i c hc).trans hc)).trans (h.rows i c hc), fun i c hc => by
    obtain ⟨c1, h1, h2, h3⟩ := h.places i c hc
    obtain ⟨c2, k1, k2, k3⟩ := k.places i c1 h1
    exact ⟨c2, k1, k2.trans h2, k3.trans h3⟩⟩
theorem KpI.ofBelow {A C : World} (h : Below A.heap.size A C) : KpI A C :=
  ⟨h.size, fun k _ hc => h.block k (Array.getElem?_eq_some_iff.1 hc).1, fun k c hc => ⟨c, (h.block k (Array.getElem?_eq_some_iff.1 hc).1).trans hc, rfl, rfl⟩⟩
theorem KpI.ofKept {P : Nat → Prop} {A C : World} (h : Kept P A C) (hP : ∀ k c t, A.heap[k]? = some (.cells c t (0, 0)) → t = 57 ∨ t = 73 → ¬ P k) : KpI A C :=
  ⟨h.size, fun k c hc => h.block k (Array.getElem?_eq_some_iff.1 hc).1 (hP k c _ hc (.inl rfl)), fun k c hc => ⟨c, (h.block k (Array.getElem?_eq_some_iff.1 hc).1 (hP k c _ hc (.inr rfl))).trans hc, rfl, rfl⟩⟩
theorem KpI.put (W : World) (l : Nat) (o o' : Obj) (hl : W.heap[l]? = some o) (ho : o.isCells = false) : KpI W (W.putObj l o') := by
  have hne : ∀ k c t, W.heap[k]? = some (.cells c t (0, 0)) → k ≠ l := fun k c t hc e => by
    subst e
    rw [hl] at hc
    obtain rfl := Option.some.inj hc
    cases ho
  refine ⟨by simp [World.putObj], fun k c hc => World.putObj_heap_other (hne k c _ hc), fun k c hc => ⟨c, (World.putObj_heap_other (hne k c _ hc)).trans hc, rfl, rfl⟩⟩

/-- The box that an iterator of All holds. -/
def boxedI (w : World) (cb qb : Nat) : Prop := w.heap[cb]? = some (.cells #[.pointer (some ⟨qb, 0, none⟩)] 29 (0, 0))

attribute [local go_sem] Oper.semAt_some
set_option maxHeartbeats 2000000 in
set_option maxRecDepth 1000000 in
theorem all1_toldI (n cb qb mb : Nat) (given : Int) (R : List Stand) (w : World) (h : QueueAtI w qb mb given R) (hbx : boxedI w cb qb) (hR : R.length ≤ 1073741824) (hvs : ∀ r ∈ R, ∃ x : Int, r.v = .int .i64 x) :
    SeqTold Fence.wide n Try.prog 26 #[.pointer (some ⟨cb, 0, none⟩)] (fun x : Stand => #[.int .i64 x.tk, x.v]) KpI (fun pre x _ _ => R[pre.length]? = some x) (fun xs => xs = R) (fun pre => pre <+: R) R.length w := by
  intro id J Jx W hW hJ hJx hY h0
  have c0 : W.cell? ⟨cb, 0, none⟩ = some (.pointer (some ⟨qb, 0, none⟩)) := by
    refine (hW.cell (p := ⟨cb, 0, none⟩) (Array.getElem?_eq_some_iff.1 hbx).1).trans ?_
    unfold boxedI at hbx
    simp [World.cell?, hbx]
  have hq : QueueAtI W qb mb given R := h.below hW
  have HROW := rowI W qb mb given R hq hR
  have HRH : Hid (Calls Try.prog 27 #[.pointer (some ⟨qb, 0, none⟩)] W fun e w' => ∃ v, e = .returned v ∧ w'.ownsRow W.heap.size 57 1 v R.length (ptrs R) ∧ Below W.heap.size W w') := HROW
  have HQ : Hid (QueueAtI W qb mb given R) := hq
  have HJ : Hid (AbidesFrom W.heap.size J) := hJ
  have HJX : Hid (AbidesFrom W.heap.size Jx) := hJx
  have HY : Hid (∀ pre x A W1, J pre A → Below A.heap.size A W1 → R[pre.length]? = some x → pre.length < R.length → YieldAt Fence.wide (n - 1) Try.prog id #[.int .i64 x.tk, x.v] W1 fun e W' =>
      (e = .returned (.bool true) ∧ J (pre ++ [x]) W' ∧ KpI W1 W') ∨ (e = .returned (.bool false) ∧ Jx (pre ++ [x]) W')) := hY
  have H0 : Hid (J [] W) := h0
  clear h hbx hq HROW hJ hJx hY h0
  refine callsIn_of_wp Try.func26 rfl trivial ?_ rfl
  simp only [Try.ntmps26, List.size_toArray, List.length_cons, List.length_nil, Nat.reduceAdd, Nat.reduceSub, Array.replicate_succ, Array.replicate_zero, List.push_toArray, List.append_toArray, List.nil_append, List.cons_append]
  gi_wp2
  refine ⟨trivial, fun h => (by cases h), ?_⟩
  refine (callsIn_wide.2 HRH.out).mono ?_
  rintro e wA ⟨v, rfl, hown, hB⟩
  obtain ⟨av, cv, rfl⟩ : ∃ a c, v = .slice a R.length c := by
    rcases hown.2 with ⟨rfl, h0⟩ | ⟨g, cap, cur, rfl, _⟩
    · exact ⟨none, 0, by rw [h0]⟩
    · exact ⟨_, _, rfl⟩
  have HJA : Hid (J [] wA) := HJ.out [] W wA none H0.out ⟨hB.os, hB.tape, hB.output, hB.size, fun k hk _ => hB.block k hk⟩ (fun r e => by cases e)
  have HOWN : Hid (wA.ownsRow W.heap.size 57 1 (.slice av R.length cv) R.length (ptrs R)) := hown
  have HBA : Hid (Below W.heap.size W wA) := hB
  clear hown hB
  gi_wp2
  gi_loopw [8] (fun i wr => ∃ k : Nat, i = .int .i64 (k : Int) ∧ k ≤ R.length ∧ Hid (J (R.take k) wr) ∧ Hid (KpI wA wr)) (fun i _ => R.length - (intOf i).toNat)
  case atStart => exact ⟨0, rfl, Nat.zero_le _, HJA, KpI.refl _⟩
  case round =>
    obtain ⟨k, rfl, hk, HJK, HKP⟩ := hrel
    by_cases hkn : k < R.length
    · have t1 : (k : Int) < (R.length : Int) := by omega
      obtain ⟨r, hr⟩ : ∃ r, R[k]? = some r := ⟨_, List.getElem?_eq_getElem hkn⟩
      have hrm := List.mem_of_getElem? hr
      have hown := HOWN.out
      rcases hown.2 with ⟨_, h0⟩ | ⟨g, cap, cur, hv, hg0, hg, h1, h2, h3, h4⟩
      · omega
      simp only [Value.slice.injEq] at hv
      obtain ⟨rfl, _, rfl⟩ := hv
      have hgw : wr.heap[g]? = some (.cells cur 57 (0, 0)) := (HKP.out.rows g cur hg).trans hg
      have ck : wr.cell? ⟨g, k, none⟩ = some (.pointer (some ⟨r.blk, 0, none⟩)) := by
        have h5 : (ptrs R)[k]? = some (.pointer (some ⟨r.blk, 0, none⟩)) := by simp [ptrs, hr]
        rw [← h4, List.getElem?_take_of_lt (by omega)] at h5
        simpa [World.cell?, hgw] using h5
      obtain ⟨A, B, hAB⟩ : ∃ A B, R = A ++ r :: B := List.append_of_mem hrm
      have hs := HQ.out.link.seg
      have hpl : ∃ c, wA.heap[r.blk]? = some (.cells c 73 (0, 0)) ∧ c[0]? = some (.int .i64 r.tk) ∧ c[1]? = some r.v := by
        rw [hAB, seg_append] at hs
        exact ⟨_, (HBA.out.block _ (Array.getElem?_eq_some_iff.1 hs.2.1).1).trans hs.2.1, rfl, rfl⟩
      obtain ⟨c, hc, hc0, hc1⟩ := hpl
      obtain ⟨c', hc', e0, e1⟩ := HKP.out.places _ _ hc
      have d0 : wr.cell? ⟨r.blk, 0, none⟩ = some (.int .i64 r.tk) := by simp [World.cell?, hc', e0, hc0]
      have d1 : wr.cell? ⟨r.blk, 1, none⟩ = some r.v := by simp [World.cell?, hc', e1, hc1]
      have hv := hvs r hrm
      have HR : Hid (R[k]? = some r) := hr
      obtain ⟨rb, rt, rv⟩ := r
      simp only [] at hv d0 d1 ck
      clear hown hg hgw h2 h3 h4 hAB hs hc hc0 hc1 hc' e0 e1 hr hrm hg0
      obtain ⟨x0, rfl⟩ := hv
      gi_wp2
      refine wide_tail 9 mixed (by kernel_rfl) (by kernel_rfl) ?_
      simp only [List.take_succ_cons, List.take_zero, List.drop_succ_cons, List.drop_zero]
      repeat still_step
      refine wpStill_nil ?_
      have htk : (R.take k).length = k := by rw [List.length_take]; omega
      obtain ⟨fn, tmps, assign, body, hy, hRd⟩ := HY.out (R.take k) ⟨rb, rt, .int .i64 x0⟩ wr wr.drew HJK.out (Below.refl _ wr).drew (by rw [htk]; exact HR.out) (by rw [htk]; exact hkn)
      have HTK : Hid (R.take k ++ [⟨rb, rt, .int .i64 x0⟩] = R.take (k + 1)) := by
        show _ = _
        rw [List.take_add_one, HR.out]
        rfl
      dsimp only at hy
      clear htk
      gi_wp2
      refine ⟨fun h => (by cases h), ?_⟩
      refine hRd.mono ?_
      rintro e W3 (⟨rfl, hJ3, hk3⟩ | ⟨rfl, hJx3⟩)
      · have HJ3 : Hid (J (R.take (k + 1)) W3) := HTK.out ▸ hJ3
        have HK3 : Hid (KpI wr W3) := ⟨hk3.size, hk3.rows, hk3.places⟩
        clear hJ3 hk3 hy hRd
        gi_wp2
        go_roundw
        case rel => exact ⟨k + 1, by go_num, by omega, HJ3, HKP.out.trans HK3.out⟩
        case measure => simp [intOf]; omega
      · have HJX3 : Hid (Jx (R.take (k + 1)) W3) := HTK.out ▸ hJx3
        clear hJx3 hy hRd
        gi_wp2
        refine bodyPost_ret (results_none rfl _ _ _) rfl ?_
        exact ⟨⟨_, rfl⟩, .inr ⟨_, List.take_prefix _ _, HJX3.out⟩⟩
    · have t1 : ¬ (k : Int) < (R.length : Int) := by omega
      obtain rfl : k = R.length := by omega
      have HJR : Hid (J R wr) := by have := HJK.out; rwa [List.take_length] at this
      gi_wp2
      refine bodyPost_end (results_none rfl _ _ _) rfl ?_
      exact ⟨⟨_, rfl⟩, by first | exact .inl HJR.out | exact .inl ⟨_, rfl, HJR.out⟩⟩
end Go.Proofs.Ytccpaapbgdpghaa
