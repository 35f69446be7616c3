/-
  Layer 9: for the walk of YamlDict: lists of pairs that stay as they are.
-/
import Derived.Test.YtimgjbjibkljhaaYCopyP
import Derived.Test.YtimgjbjibkljhaaYAmong
import Derived.Test.YtimgjbjibkljhaaLanesP
import Derived.Deep.MidRow
namespace Go.Proofs.Ytimgjbjibkljhaa
open Go.RowKit
theorem WnP.ofIs {w : World} {a : Option Addr} {c : Nat} {ts : List BP} (us : List (Nat × Obj)) (h : IsPairs w a c ts) : WnP w us a c ts := fun _ hb _ => h.below hb
theorem WnP.more {w : World} {a : Option Addr} {c : Nat} {ts : List BP} {us vs : List (Nat × Obj)} (h : WnP w us a c ts) (hs : ∀ p ∈ us, p ∈ vs) : WnP w vs a c ts := fun X hb hX => h X hb (fun p hp => hX p (hs p hp))
/-- A list of ours is one block. -/
theorem prs_block {W : World} {B g m c : Nat} {ts : List BP} (h : Prs W B (.slice (some ⟨g, 0, none⟩) m c) ts) : ∃ o, W.heap[g]? = some o ∧ B ≤ g ∧ ∀ X : World, X.heap[g]? = some o → Prs X B (.slice (some ⟨g, 0, none⟩) m c) ts := by
  rcases h.2 with ⟨hv, _⟩ | ⟨g', cap, cur, hv, hB, hg, rest⟩
  · cases hv
  · have hv' := hv
    simp only [Value.slice.injEq, Option.some.injEq, Addr.mk.injEq, and_true] at hv'
    obtain ⟨rfl, _, rfl⟩ := hv'
    exact ⟨_, hg, hB, fun X hX => ⟨h.1, .inr ⟨g, _, cur, hv, hB, hX, rest⟩⟩⟩
theorem wnP_block {w : World} {B g c : Nat} {ts : List BP} {o : Obj} {us : List (Nat × Obj)} (h : ∀ X : World, X.heap[g]? = some o → Prs X B (.slice (some ⟨g, 0, none⟩) ts.length c) ts) (hl : ts.length ≤ 140737488355328) (hu : (g, o) ∈ us) : WnP w us (some ⟨g, 0, none⟩) c ts := fun X _ hX => by
  obtain ⟨a, c', e, hI⟩ := (h X (hX _ hu)).is hl
  cases e
  exact hI
theorem two_one {x y : ByteArray} : ∀ v ∈ [Value.string x, Value.string y], v.oneCell' = true := by
  intro v hv
  rcases List.mem_cons.1 hv with rfl | hv
  · rfl
  · obtain rfl := List.mem_singleton.1 hv
    rfl
/-- What a region's store leaves. -/
theorem H_skip {P : Program} {ops : Array Oper} {Q : Exit → Act → World → Prop} {md : Region.Mode} {S : World → Prop} {i : Nat} {o : Oper} {fuel : Nat} {listed : Array Bool} {a : Act} {w w' : World} (hi : ops[i]? = some o) (hd : o.dst = none) (hr : Region.ready md ops listed = [i])
    (hg : Region.wanted o (yielded ops a.tmps) = true) (hx : (execOp a.eval o).run P w = .ok .skip w') (hS : S w')
    (h : wpAnyH P md ops Q S fuel (listed.setIfInBounds i true) a w') : wpAnyH P md ops Q S (fuel + 1) listed a w := by
  refine wpAnyH_all hr (by simp) (fun j hj => ?_)
  obtain rfl : j = i := by simpa using hj
  unfold wpOp
  simp only [hi, hg, if_true, Oper.wp, hx, Oper.upon, hd, Act.put]
  exact .inl ⟨hS, h⟩
theorem run_loadP {o : Oper} {a : Act} {w : World} {x : Operand} {b i : Nat} {p : BP} (ho : o.op = .load 41 x) (hx : a.eval x = .pointer (some ⟨b, i, none⟩)) (h0 : w.cell? ⟨b, i, none⟩ = some (.string p.1)) (h1 : w.cell? ⟨b, i + 1, none⟩ = some (.string p.2)) :
    (execOp a.eval o).run Try.prog w = .ok (.value (.agg #[.string p.1, .string p.2])) w := by
  have h := run_loadAt_mid (P := Try.prog) w b i 41 [.string p.1, .string p.2] _ (fun j v hv => by
    match j, hv with
    | 0, hv => simp at hv; subst hv; exact h0
    | 1, hv => simp at hv; subst hv; exact h1) Try.underlying41 rfl (by kernel_rfl)
  unfold execOp
  simp only [ho, hx, h, Sem.run_bind, Sem.run_pure, Result.andThen_ok]
theorem run_storeP {o : Oper} {a : Act} {w : World} {x y : Operand} {b i : Nat} {p : BP} {u0 u1 : Value} (ho : o.op = .store 41 x y) (hx : a.eval x = .pointer (some ⟨b, i, none⟩)) (hy : a.eval y = .agg #[.string p.1, .string p.2]) (h0 : w.cell? ⟨b, i, none⟩ = some u0) (h1 : w.cell? ⟨b, i + 1, none⟩ = some u1) (hf : ∀ m, w.frozen? ⟨b, m, none⟩ = false) :
    (execOp a.eval o).run Try.prog w = .ok .skip ((w.setCell ⟨b, i, none⟩ (.string p.1)).setCell ⟨b, i + 1, none⟩ (.string p.2)) := by
  have h := run_storeAt_mid (P := Try.prog) w b i 41 #[.string p.1, .string p.2] (fun j hj => by
    match j, hj with
    | 0, _ => exact ⟨by rw [Nat.add_zero, h0]; rfl, hf _⟩
    | 1, _ => exact ⟨by rw [h1]; rfl, hf _⟩) (by kernel_rfl) (all_oneCell_toArray (cs := [.string p.1, .string p.2]) (fun v hv => by rcases List.mem_cons.1 hv with rfl | hv; rfl; rcases List.mem_cons.1 hv with rfl | hv; rfl; cases hv))
  unfold execOp
  simp only [ho, hx, hy, h, Sem.run_bind, Sem.run_pure, Result.andThen_ok]
  rfl
theorem run_indexP {o : Oper} {a : Act} {w : World} {k g i n c : Nat} {x y : Operand} (ho : o.op = .indexAddr 37 x y) (hx : a.eval x = .slice (some ⟨g, i, none⟩) n c) (hy : a.eval y = .int .i64 (k : Int)) (hk : k < n) : (execOp a.eval o).run Try.prog w = .ok (.value (.pointer (some ⟨g, i + k * 2, none⟩))) w := by
  have i1 : (0 : Int) ≤ (k : Int) := by omega
  have i2 : (k : Int) < (n : Int) := by omega
  simp only [execOp, ho, hx, hy]
  go_simp
end Go.Proofs.Ytimgjbjibkljhaa
