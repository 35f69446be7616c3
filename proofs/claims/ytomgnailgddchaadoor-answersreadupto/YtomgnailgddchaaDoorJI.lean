/-
  RQC, RQD.
-/
import Derived.Test.YtomgnailgddchaaDoorRQB
namespace Go.Proofs.YtomgnailgddchaaDoor
open Go.RowKit Go.Sort

def dc0 : Dc := ⟨[], [], false, rp0, 0, 0, false⟩
theorem ownsNil (w : World) (e sz : Nat) : w.ownsRow 0 e sz (.slice none 0 0) 0 [] := ⟨by simp, .inl ⟨rfl, rfl⟩⟩
set_option maxHeartbeats 4000000 in
set_option maxRecDepth 1000000 in
theorem refNew8_any (w : World) : Calls Tryd.prog 7 #[] w fun e w' => e = .returned (.pointer (some ⟨w.heap.size, 0, none⟩)) ∧ RcAt w' w.heap.size (.slice none 0 0) (.slice none 0 0) (.slice none 0 0) [] dc0 ∧ Below w.heap.size w w' := by
  go_enter Tryd.func7, Tryd.ntmps7
  go_wp2_with fail
  go_ret
  refine ⟨rfl, ⟨heap_alloc_new _ _, Own.nil _ _, Own.nil _ _, ownsNil _ _ _, rfl, fun p hp => (by cases hp), fun k e => (by cases e), fun k e => (by cases e)⟩, (Below.refl _ w).alloc (Nat.le_refl _) _⟩
set_option maxHeartbeats 4000000 in
set_option maxRecDepth 1000000 in
theorem refHeld8_any (w : World) (rb : Nat) (vl vn vb : Value) (P : List PO) (d : Dc) (h : RcAt w rb vl vn vb P d) : Calls Tryd.prog 23 #[.pointer (some ⟨rb, 0, none⟩)] w fun e w' => e = .returned (.int .i64 (d.cnt : Int)) ∧ w' = w := by
  obtain ⟨_, _, _, _, _, c9, _⟩ := h.box.cell
  have hlt := h.box.lt
  clear h
  go_enter Tryd.func23, Tryd.ntmps23
  go_wp2_with fail
  go_ret
  exact ⟨rfl, rfl⟩
end Go.Proofs.YtomgnailgddchaaDoor

namespace Go.Proofs.YtomgnailgddchaaDoor
open Go.RowKit Go.Sort

theorem results_ctt_row {P : Program} {fn : Func} {p u v : Tmp} {ty : TypeId} (h : fn.results = #[.cell p ty, .tmp u, .tmp v]) (tmps : Array Value) (w : World) (g : Nat) (t : TypeId) (cs : Array Value) (fr : Nat × Nat) (d : TypeDesc)
    (hp : tmps.getD p undef = .pointer (some ⟨g, 0, none⟩)) (hg : w.heap[g]? = some (.cells cs t fr)) (hu : P.underlying ty = some d) (hd : (match d with | .struct _ | .array _ _ => true | _ => false) = true) (hi : (P.info? ty).map (·.size) = some cs.size) :
    (results fn tmps).run P w = .ok (.tuple #[.agg cs, tmps.getD u undef, tmps.getD v undef]) w := by
  have hp' : tmps[p]?.getD undef = .pointer (some ⟨g, 0, none⟩) := by simpa using hp
  simp only [results, h]
  simp [Result.andThen, hp', asAddr, run_loadVar_row w g t ty cs fr d hg hu hd hi]
set_option maxHeartbeats 4000000 in
set_option maxRecDepth 1000000 in
theorem next_noneD (w : World) (rb : Nat) (vl vn vb : Value) (P : List PO) (d : Dc) (h : RcAt w rb vl vn vb P d) (hL : d.L = []) : Calls Tryd.prog 24 #[.pointer (some ⟨rb, 0, none⟩)] w fun e w' => e = .returned (.tuple #[rpV rp0 (.slice none 0 0), .bool false, .int .i64 (if d.bad = true then 82 else 0)]) ∧ Below w.heap.size w w' := by
  obtain ⟨c0, _, _, _, _, _, c10⟩ := h.box.cell
  have hlt := h.box.lt
  have hP : P = [] := by
    have := h.list
    rw [hL] at this
    simpa using this.symm
  have hrow := h.row
  rw [hP] at hrow
  obtain ⟨al, kl, el⟩ : ∃ al kl, vl = .slice al 0 kl := by
    rcases hrow.2 with ⟨rfl, _⟩ | ⟨g, cap, cur, rfl, _⟩
    · exact ⟨_, _, rfl⟩
    · exact ⟨_, _, rfl⟩
  subst el
  clear h hrow hL hP
  cases hb : d.bad with
  | true =>
    rw [hb] at c10
    clear hb
    go_enter Tryd.func24, Tryd.ntmps24
    go_wp2_with fail
    refine bodyPost_ret (results_ctt_row rfl _ _ w.heap.size 45 _ (0, 0) _ rfl (heap_alloc_new _ _) Tryd.underlying45 rfl (by kernel_rfl)) rfl ?_
    exact ⟨rfl, (Below.refl _ w).alloc (Nat.le_refl _) _⟩
  | false =>
    rw [hb] at c10
    clear hb
    go_enter Tryd.func24, Tryd.ntmps24
    go_wp2_with fail
    refine bodyPost_ret (results_ctt_row rfl _ _ w.heap.size 45 _ (0, 0) _ rfl (heap_alloc_new _ _) Tryd.underlying45 rfl (by kernel_rfl)) rfl ?_
    exact ⟨rfl, (Below.refl _ w).alloc (Nat.le_refl _) _⟩
end Go.Proofs.YtomgnailgddchaaDoor
