/-
  The iterator of All.
-/
import Derived.Test.YthjaehibndmehaaRowed
import Derived.Test.YthjaehibndmehaaTold
import Derived.Shelf.Abstract
import Derived.Shelf.RegionOpen
import Derived.OwnWalkIn
import Derived.TacticsInMore
import Derived.LoopNIn
import Derived.LoopIn
import Derived.Sort.LoopGhostIn
namespace Go.Proofs.Ythjaehibndmehaa
open Go.RowKit

/-- What an iterator goes by stays: the rows. -/
structure Kp (W W' : World) : Prop where
  size : W.heap.size ≤ W'.heap.size
  rows : ∀ (k : Nat) (c : Array Value), W.heap[k]? = some (.cells c 72 (0, 0)) → W'.heap[k]? = W.heap[k]?
theorem Kp.refl (W : World) : Kp W W := ⟨Nat.le_refl _, fun _ _ _ => rfl⟩
theorem Kp.trans {A B C : World} (h : Kp A B) (k : Kp B C) : Kp A C :=
  ⟨Nat.le_trans h.size k.size, fun i c hc => (k.rows i c ((h.rows i c hc).trans hc)).trans (h.rows i c hc)⟩
theorem Kp.ofBelow {A C : World} (h : Below A.heap.size A C) : Kp A C :=
  ⟨h.size, fun k _ hc => h.block k (Array.getElem?_eq_some_iff.1 hc).1⟩
theorem Kp.ofKept {P : Nat → Prop} {A C : World} (h : Kept P A C) (hP : ∀ k c, A.heap[k]? = some (.cells c 72 (0, 0)) → ¬ P k) : Kp A C :=
  ⟨h.size, fun k c hc => h.block k (Array.getElem?_eq_some_iff.1 hc).1 (hP k c hc)⟩
theorem Kp.put (W : World) (l : Nat) (o o' : Obj) (hl : W.heap[l]? = some o) (ho : o.isCells = false) : Kp W (W.putObj l o') := by
  refine ⟨by simp [World.putObj], fun k c hc => World.putObj_heap_other (fun e => ?_)⟩
  subst e
  rw [hl] at hc
  obtain rfl := Option.some.inj hc
  cases ho
theorem RowsAt.kp {W W' : World} {g : Nat} {S : List RowT} {c : Array Value} (h : RowsAt W g S) (hk : Kp W W') (hg : W.heap[g]? = some (.cells c 72 (0, 0))) : RowsAt W' g S := fun i r hr =>
  ⟨(World.cell?_of_block (hk.rows g c hg)).trans (h i r hr).1, (World.cell?_of_block (hk.rows g c hg)).trans (h i r hr).2⟩

/-- The box that an iterator of All holds. -/
def boxed (w : World) (cb b : Nat) : Prop := w.heap[cb]? = some (.cells #[.pointer (some ⟨b, 0, none⟩)] 25 (0, 0))
/-- What an iterator of All is. -/
def allV (cb : Nat) : Value := .func (.func 38) #[] #[.pointer (some ⟨cb, 0, none⟩)]

set_option maxHeartbeats 400000 in
set_option maxRecDepth 1000000 in
theorem all_any (w : World) (b : Nat) : Calls Try.prog 20 #[.pointer (some ⟨b, 0, none⟩)] w fun e w' => e = .returned (allV w.heap.size) ∧ boxed w' w.heap.size b ∧ Below w.heap.size w w' := by
  go_enter Try.func20, Try.ntmps20
  go_wp2_with fail
  go_ret
  exact ⟨rfl, (MapKept.heap_alloc w _).1, (Below.refl _ w).alloc (Nat.le_refl _) _⟩

attribute [local go_sem] Oper.semAt_some
set_option maxHeartbeats 2000000 in
set_option maxRecDepth 1000000 in
theorem all_told (n0 cb b mb n : Nat) (g : Text → Option Int) (S : List RowT) (w : World) (h : BookAt w b mb n g) (hbx : boxed w cb b) (hn : n ≤ 1073741823) (hS : Listed g S) :
    SeqTold Fence.wide n0 Try.prog 38 #[.pointer (some ⟨cb, 0, none⟩)] (fun x : RowT => #[encStr x.1, .int .i64 x.2]) Kp (fun pre x _ _ => S[pre.length]? = some x) (fun xs => xs = S) (fun pre => pre <+: S) S.length w := by
  intro id J Jx W hW hJ hJx hY h0
  have c0 : W.cell? ⟨cb, 0, none⟩ = some (.pointer (some ⟨b, 0, none⟩)) := by
    refine (hW.cell (p := ⟨cb, 0, none⟩) (Array.getElem?_eq_some_iff.1 hbx).1).trans ?_
    unfold boxed at hbx
    simp [World.cell?, hbx]
  have hq : BookAt W b mb n g := h.below hW
  have HRH : Hid (Calls Try.prog 39 #[.pointer (some ⟨b, 0, none⟩)] W fun e w' => ∃ (gb cap : Nat), e = .returned (.slice (some ⟨gb, 0, none⟩) S.length cap) ∧ RowsAt w' gb S ∧ (∃ cur', w'.heap[gb]? = some (.cells cur' 72 (0, 0))) ∧ Below W.heap.size W w') := by
    refine (rows_any W b mb n g hq hn).mono ?_
    rintro e w' ⟨gb, cap, S', rfl, hl, _, hr, _, _, ht, hb⟩
    obtain rfl := hl.unique hS
    exact ⟨gb, cap, rfl, hr, ht, hb⟩
  have HJ : Hid (AbidesFrom W.heap.size J) := hJ
  have HJX : Hid (AbidesFrom W.heap.size Jx) := hJx
  have HY : Hid (∀ pre x A W1, J pre A → Below A.heap.size A W1 → S[pre.length]? = some x → pre.length < S.length → YieldAt Fence.wide (n0 - 1) Try.prog id #[encStr x.1, .int .i64 x.2] W1 fun e W' =>
      (e = .returned (.bool true) ∧ J (pre ++ [x]) W' ∧ Kp W1 W') ∨ (e = .returned (.bool false) ∧ Jx (pre ++ [x]) W')) := hY
  have H0 : Hid (J [] W) := h0
  have hSn : S.length ≤ 1073741823 := by
    obtain ⟨S', h1, h2, _⟩ := h.listed
    rw [hS.unique h1, h2]
    exact hn
  clear h hbx hq hJ hJx hY h0
  refine callsIn_of_wp Try.func38 rfl trivial ?_ rfl
  simp only [Try.ntmps38, List.size_toArray, List.length_cons, List.length_nil, Nat.reduceAdd, Nat.reduceSub, Array.replicate_succ, Array.replicate_zero, List.push_toArray, List.append_toArray, List.nil_append, List.cons_append]
  gi_wp2
  refine ⟨trivial, fun h => (by cases h), ?_⟩
  refine (callsIn_wide.2 HRH.out).mono ?_
  rintro e wA ⟨gb, cap, rfl, hrow, hty, hB⟩
  have HJA : Hid (J [] wA) := HJ.out [] W wA none H0.out ⟨hB.os, hB.tape, hB.output, hB.size, fun k hk _ => hB.block k hk⟩ (fun r e => by cases e)
  have HROW : Hid (RowsAt wA gb S) := hrow
  have HTY : Hid (∃ cur', wA.heap[gb]? = some (.cells cur' 72 (0, 0))) := hty
  clear hrow hty hB
  gi_wp2
  gi_loopw [8] (fun i wr => ∃ k : Nat, i = .int .i64 (k : Int) ∧ k ≤ S.length ∧ Hid (J (S.take k) wr) ∧ Hid (Kp wA wr)) (fun i _ => S.length - (intOf i).toNat)
  case atStart => exact ⟨0, rfl, Nat.zero_le _, HJA, Kp.refl _⟩
  case round =>
    obtain ⟨k, rfl, hk, HJK, HKP⟩ := hrel
    by_cases hkn : k < S.length
    · have t1 : (k : Int) < (S.length : Int) := by omega
      obtain ⟨r, hr⟩ : ∃ r, S[k]? = some r := ⟨_, List.getElem?_eq_getElem hkn⟩
      obtain ⟨cur, hcur⟩ := HTY.out
      obtain ⟨d0, d1⟩ := (HROW.out.kp HKP.out hcur) k r hr
      have HR : Hid (S[k]? = some r) := hr
      obtain ⟨rt, rc⟩ := r
      simp only [] at d0 d1
      clear hr hcur
      have htk : (S.take k).length = k := by rw [List.length_take]; omega
      obtain ⟨fn, tmps, assign, body, hy, hRd⟩ := HY.out (S.take k) (rt, rc) wr (wr.alloc (.cells #[.string ⟨rt.toArray⟩, .int .i64 rc] 72)) HJK.out ((Below.refl _ wr).alloc (Nat.le_refl _) _) (by rw [htk]; exact HR.out) (by rw [htk]; exact hkn)
      have HTK : Hid (S.take k ++ [(rt, rc)] = S.take (k + 1)) := by
        show _ = _
        rw [List.take_add_one, HR.out]
        rfl
      dsimp only at hy
      clear htk
      gi_wp2
      refine ⟨fun h => (by cases h), ?_⟩
      refine hRd.mono ?_
      rintro e W3 (⟨rfl, hJ3, hk3⟩ | ⟨rfl, hJx3⟩)
      · have HJ3 : Hid (J (S.take (k + 1)) W3) := HTK.out ▸ hJ3
        have HK3 : Hid (Kp wr W3) := (Kp.ofBelow ((Below.refl _ wr).alloc (Nat.le_refl _) _)).trans hk3
        clear hJ3 hk3 hy hRd
        gi_wp2
        go_roundw
        case rel => exact ⟨k + 1, by go_num, by omega, HJ3, HKP.out.trans HK3.out⟩
        case measure => simp [intOf]; omega
      · have HJX3 : Hid (Jx (S.take (k + 1)) W3) := HTK.out ▸ hJx3
        clear hJx3 hy hRd
        gi_wp2
        refine bodyPost_ret (results_none rfl _ _ _) rfl ?_
        exact ⟨⟨_, rfl⟩, .inr ⟨_, List.take_prefix _ _, HJX3.out⟩⟩
    · have t1 : ¬ (k : Int) < (S.length : Int) := by omega
      obtain rfl : k = S.length := by omega
      have HJR : Hid (J S wr) := by have := HJK.out; rwa [List.take_length] at this
      gi_wp2
      refine bodyPost_end (results_none rfl _ _ _) rfl ?_
      exact ⟨⟨_, rfl⟩, by first | exact .inl HJR.out | exact .inl ⟨_, rfl, HJR.out⟩⟩
end Go.Proofs.Ythjaehibndmehaa
