/-
  The statement FrameTold: the frame round its walk.
-/
import Derived.Test.YtjbmolclagmecaaBase
import Derived.Test.YtjbmolclagmecaaWalkTold2
import Derived.Lib.SmallJoins
namespace Go.Proofs.Ytjbmolclagmecaa.frameTold
open Go.ChangeShapes Go.WideShapes Go.ChangeAt Go.RowKit

theorem array6 {α : Type} {cs : Array α} (h : cs.size = 6) : ∃ c0 c1 c2 c3 c4 c5, cs = #[c0, c1, c2, c3, c4, c5] := by
  obtain ⟨l⟩ := cs
  match l, h with
  | [c0, c1, c2, c3, c4, c5], _ => exact ⟨c0, c1, c2, c3, c4, c5, rfl⟩

theorem u32_bounds {n : Int} (h : (Lit.int .u32 n).wf = true) : 0 ≤ n ∧ n ≤ 4294967295 := by
  simpa [Lit.wf, IntKind.min, IntKind.max, IntKind.signed, IntKind.bits] using h

theorem opened {H : Type} {enc : TypeId × Value → H} {W : World} {base : Nat} {v : Value} {d : DataW H} {p : List MemPlace} (hv : Value.okWide Try.prog W .any base 47 v) (h : DataW.Trod enc Try.prog W 0 (fun _ => true) true 47 v d p) :
    ∃ (f q : Int) (a : Option Addr) (c : Nat) (l : List UInt8) (s : Bool) (m b : Int), v = .agg #[.int .i64 f, .int .i64 q, .slice a l.length c, .bool s, .int .i64 m, .int .u32 b] ∧ (Lit.int .i64 f).wf = true ∧ (Lit.int .i64 q).wf = true ∧ IsBytes W a c l ∧ (Lit.int .i64 m).wf = true ∧ (Lit.int .u32 b).wf = true := by
  obtain ⟨cs, rfl, hsz⟩ := okWide_struct Try.underlying47 hv
  obtain ⟨c0, c1, c2, c3, c4, c5, rfl⟩ := array6 (hsz.trans (by kernel_rfl))
  obtain ⟨fuel, hf⟩ := h
  obtain ⟨xs, n, _, _, _, hlen, hfs⟩ := DataW.trod_struct Try.underlying47 hf
  have each : ∀ (i : Nat), i < 6 → ∃ y, xs[i]? = some y := fun i hi => ⟨_, List.getElem?_eq_getElem (by rw [hlen]; exact hi)⟩
  obtain ⟨y0, e0⟩ := each 0 (by decide)
  obtain ⟨y1, e1⟩ := each 1 (by decide)
  obtain ⟨y2, e2⟩ := each 2 (by decide)
  obtain ⟨y3, e3⟩ := each 3 (by decide)
  obtain ⟨y4, e4⟩ := each 4 (by decide)
  obtain ⟨y5, e5⟩ := each 5 (by decide)
  have z3 : Try.prog.cellsOf 3 = 1 := by kernel_rfl
  have z4 : Try.prog.cellsOf 4 = 1 := by kernel_rfl
  have z22 : Try.prog.cellsOf 22 = 1 := by kernel_rfl
  have z45 : Try.prog.cellsOf 45 = 1 := by kernel_rfl
  have t0 : DataW.trod enc Try.prog W 0 (fun _ => true) true n 3 [c0] = some y0 := by simpa [Value.cells, z3] using (hfs 0 _ rfl).trans e0
  have t1 : DataW.trod enc Try.prog W 0 (fun _ => true) true n 3 [c1] = some y1 := by simpa [Value.cells, z3] using (hfs 1 _ rfl).trans e1
  have t2 : DataW.trod enc Try.prog W 0 (fun _ => true) true n 22 [c2] = some y2 := by simpa [Value.cells, z22] using (hfs 2 _ rfl).trans e2
  have t3 : DataW.trod enc Try.prog W 0 (fun _ => true) true n 4 [c3] = some y3 := by simpa [Value.cells, z4] using (hfs 3 _ rfl).trans e3
  have t4 : DataW.trod enc Try.prog W 0 (fun _ => true) true n 3 [c4] = some y4 := by simpa [Value.cells, z3] using (hfs 4 _ rfl).trans e4
  have t5 : DataW.trod enc Try.prog W 0 (fun _ => true) true n 45 [c5] = some y5 := by simpa [Value.cells, z45] using (hfs 5 _ rfl).trans e5
  clear hfs
  obtain ⟨f, hc0, _, w0⟩ := DataW.trod_int Try.underlying3 t0
  obtain ⟨q, hc1, _, w1⟩ := DataW.trod_int Try.underlying3 t1
  obtain ⟨a, len, cap, hc2⟩ := Go.Joins.slice_form Try.underlying22 t2
  obtain ⟨s, hc3, _⟩ := DataW.trod_bool Try.underlying4 t3
  obtain ⟨m, hc4, _, w4⟩ := DataW.trod_int Try.underlying3 t4
  obtain ⟨b, hc5, _, w5⟩ := DataW.trod_int Try.underlying45 t5
  simp only [List.cons.injEq, and_true] at hc0 hc1 hc2 hc3 hc4 hc5
  subst hc0 hc1 hc2 hc3 hc4 hc5
  obtain ⟨l, rfl, his, _⟩ := open_bytes (d := y2.1) (p := y2.2) t2
  exact ⟨f, q, a, cap, l, s, m, b, rfl, w0, w1, his.1, w4, w5⟩

theorem contract (H : Type) (enc : TypeId × Value → H) (W : World) (base : Nat) (args : Array Value) (ds gs : List (DataW H)) (before : List MemPlace)
    (hval : ∀ (j : Nat) t v, Try.f8.params[j]? = some t → args[j]? = some v → Value.okWide Try.prog W .any base t v)
    (hW : DataW.Whole enc Try.prog Try.f8.params.toList Rows.frameToldSpec.vars false W args.toList ds gs before) :
    Calls Try.prog 8 args W fun e W' => ∃ v, e = .returned v ∧ Rows.frameToldSpec.post enc Try.prog Try.f8 false true false false W args v W' := by
  have hW' := hW
  obtain ⟨p, q, hA0, hV, rfl, hfz, hnd⟩ := hW
  have hA : DataW.TrodAll enc Try.prog W 0 (fun _ => true) true Try.f8.params.toList args.toList ds p := hA0
  rw [Try.params8] at hA hval
  obtain ⟨v0, vs0, d0, ds0, p0, q0, hargs, rfl, rfl, h0, r0⟩ := trodAll_cons hA
  obtain ⟨rfl, rfl, rfl⟩ := trodAll_nil r0
  obtain rfl : args = #[v0] := by cases args; simp_all
  obtain ⟨rfl, rfl⟩ := trodVars_none hV
  have k0 := h0
  have lt0 : ∀ x ∈ p0, x.block < W.heap.size := by obtain ⟨m, hm⟩ := k0; exact DataW.trod_lt m _ _ _ hm
  obtain ⟨f, q, a, c, l, s, m, b, rfl, wf, wq, his, wm, wb⟩ := opened (hval 0 47 v0 rfl rfl) h0
  clear hA0
  refine (walk f q a c l s m b W (int_bounds wf) (int_bounds wq) his (int_bounds wm) (u32_bounds wb)).mono fun e W' ⟨he, bel⟩ => ?_
  subst he
  exact ⟨_, rfl, _, _, _, [], _, [], hW', trodAll_cons_mk (shut_bool Try.underlying4 _) trodAll_mk0, (trodAll_cons_mk (Below.trod laidOut (by kernel_rfl) (of_decide_eq_true (by kernel_rfl)) k0 bel lt0) trodAll_mk0), rfl, bel.frame _, fun h => by cases h⟩

set_option maxRecDepth 100000 in
theorem lifted (os : Os) (started : os.Started) (H : Type) (enc : TypeId × Value → H) :
    ReturnsInHanded {} Try.checked os 8 .any (Rows.frameToldSpec.pre6 enc Try.prog Try.f8 Rows.frameToldRow.domain false) (Rows.frameToldSpec.post enc Try.prog Try.f8 false true false false) := by
  refine returnsInHanded_of_change (C := Try.checked) own started (by kernel_rfl) Try.func8
    (ChangeSpec.witness6 (enc := enc) (C := Try.checked) false ⟨#[], #[.agg #[.int .i64 0, .int .i64 0, .slice none 0 0, .bool false, .int .i64 0, .int .u32 0]], []⟩ 8 (by kernel_rfl) (by kernel_rfl) (by kernel_rfl) (by kernel_rfl)) ?_
  intro W base args ds gs before hval hW _ _
  exact contract H enc W base args ds gs before hval hW

/-- The statement. -/
theorem said : Rows.FrameToldSaid :=
  OpenClaim.holds_of_wide 8 Try.f8 rfl rfl rfl rfl rfl rfl rfl ⟨rfl, rfl, rfl, rfl, rfl⟩ rfl rfl rfl rfl rfl (by kernel_rfl) Try.func8 (by kernel_rfl)
    (of_decide_eq_true (by kernel_rfl)) (by unfold Func.isWrapper; first | (rw [if_pos (by decide +kernel)]; kernel_rfl) | (rw [if_neg (by decide +kernel)]; exact ⟨rfl, rfl⟩))
    (fun os started H enc _ => lifted os started H enc)
end Go.Proofs.Ytjbmolclagmecaa.frameTold
