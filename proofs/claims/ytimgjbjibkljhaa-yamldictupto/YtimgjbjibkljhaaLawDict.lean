/-
  The statement YamlDict (second form): the frame round its walk.
-/
import Derived.Test.YtimgjbjibkljhaaBasePairs
import Derived.Test.YtimgjbjibkljhaaWalkNames
import Derived.Test.YtimgjbjibkljhaaWalkDict
import Derived.JoinedCond
import Derived.Test.YtimgjbjibkljhaaCondShaped
namespace Go.Proofs.Ytimgjbjibkljhaa.yamlDict
open Go.ChangeShapes Go.WideShapes Go.ChangeAt Go.RowKit

theorem dictL_length : ∀ ts : List BP, (dictL (ts.map un)).length = 4 + (ts.map (fun y : BP => 3 + y.1.size + y.2.size)).sum
  | [] => by simp [dictL, pairsL, headL]
  | x :: r => by
    have ih := dictL_length r
    have h1 : x.1.data.toList.length = x.1.size := by simp
    have h2 : x.2.data.toList.length = x.2.size := by simp
    simp [dictL, pairsL, pairL, headL, un] at ih ⊢
    omega
theorem len_sum (ts : List BP) : ts.length ≤ (ts.map (fun y : BP => 3 + y.1.size + y.2.size)).sum := by
  induction ts with
  | nil => simp
  | cons x r ih => simp only [List.length_cons, List.map_cons, List.sum_cons]; omega
theorem mem_sum {α : Type} (f : α → Nat) {p : α} : ∀ {ts : List α}, p ∈ ts → f p ≤ (ts.map f).sum
  | x :: r, h => by
    rcases List.mem_cons.1 h with rfl | h
    · simp
    · have := mem_sum f h
      simp only [List.map_cons, List.sum_cons]
      omega
theorem set_sum {α : Type} (f : α → Nat) : ∀ (ts : List α) (k : Nat) (p : α), ((ts.set k p).map f).sum ≤ (ts.map f).sum + f p
  | [], k, p => by simp
  | x :: r, 0, p => by simp only [List.set_cons_zero, List.map_cons, List.sum_cons]; omega
  | x :: r, k + 1, p => by
    have := set_sum f r k p
    simp only [List.set_cons_succ, List.map_cons, List.sum_cons]
    omega

set_option maxRecDepth 100000 in
theorem contract (H : Type) (enc : TypeId × Value → H) (W : World) (base : Nat) (args : Array Value) (ds gs : List (DataW H)) (before : List MemPlace)
    (hval : ∀ (j : Nat) t v, Try.f4.params[j]? = some t → args[j]? = some v → Value.okWide Try.prog W .any base t v)
    (hW : DataW.Whole enc Try.prog Try.f4.params.toList Rows.yamlDictSpec.vars false W args.toList ds gs before) (hk : Rows.uptoSmall H (ds ++ gs) = true) (hM : MaxAt W) :
    Calls Try.prog 4 args W fun e W' => ∃ v, e = .returned v ∧ Rows.yamlDictSpec.post enc Try.prog Try.f4 false true false false W args v W' := by
  have hW' := hW
  obtain ⟨p, q, hA0, hV, rfl, hfz, hnd⟩ := hW
  have hA : DataW.TrodAll enc Try.prog W 0 (fun _ => true) true Try.f4.params.toList args.toList ds p := hA0
  rw [Try.params4] at hA hval
  obtain ⟨v0, vs0, d0, ds0, p0, q0, hargs, rfl, rfl, h0, r0⟩ := trodAll_cons hA
  obtain ⟨v1, vs1, d1, ds1, p1, q1, rfl, rfl, rfl, h1, r1⟩ := trodAll_cons r0
  obtain ⟨v2, vs2, d2, ds2, p2, q2, rfl, rfl, rfl, h2, r2⟩ := trodAll_cons r1
  obtain ⟨rfl, rfl, rfl⟩ := trodAll_nil r2
  obtain rfl : args = #[v0, v1, v2] := by cases args; simp_all
  obtain ⟨rfl, rfl⟩ := trodVars_none hV
  obtain ⟨a0, len0, cap0, rfl⟩ := okWide_slice Try.underlying37 (hval 0 37 v0 rfl rfl)
  have k0 := h0
  have lt0 : ∀ x ∈ p0, x.block < W.heap.size := by obtain ⟨m, hm⟩ := k0; exact DataW.trod_lt m _ _ _ hm
  obtain ⟨x0, rfl, f0, b0⟩ : ∃ l : List BP, l.length = len0 ∧ ((l.length ≤ 140737488355328 → IsPairs W a0 cap0 l) ∧ (a0 = none → cap0 = 0)) ∧ (l.map (fun y : BP => 3 + y.1.size + y.2.size)).sum + 1 ≤ Rows.uptoBulk d0 := by
    obtain ⟨fuel, hf⟩ := h0
    exact open_pairs hf
  obtain ⟨x1, rfl, rfl, rfl, f1⟩ := open_int Try.underlying3 (hval 1 3 v1 rfl rfl) h1
  have g1 := int_bounds f1
  obtain ⟨x2, rfl, rfl, rfl, f2⟩ := open_int Try.underlying3 (hval 2 3 v2 rfl rfl) h2
  have g2 := int_bounds f2
  clear hA0
  have hk := of_decide_eq_true hk
  simp only [List.append_nil, Rows.uptoBulkAll] at hk
  have hln := len_sum x0
  refine (walk a0 cap0 x0 x1 x2 W (f0.1 (by omega)) (by omega) (by rw [dictL_length]; omega) (fun k p hp => by rw [dictL_length]; have := set_sum (fun y : BP => 3 + y.1.size + y.2.size) x0 k p; have := mem_sum (fun y : BP => 3 + y.1.size + y.2.size) hp; omega) hM).mono fun e W' ⟨he, bel⟩ => ?_
  subst he
  exact ⟨_, rfl, _, _, _, [], _, [], hW', trodAll_cons_mk (shut_bool Try.underlying4 _) trodAll_mk0, (trodAll_cons_mk (Below.trod laidOut (by kernel_rfl) (of_decide_eq_true (by kernel_rfl)) k0 bel lt0) (trodAll_cons_mk (shut_int Try.underlying3 f1) (trodAll_cons_mk (shut_int Try.underlying3 f2) trodAll_mk0))), rfl, bel.frame _, fun h => by cases h⟩

set_option maxRecDepth 100000 in
theorem lifted (os : Os) (started : os.Started) (H : Type) (enc : TypeId × Value → H) (F : Stop.Interp) :
    ReturnsInHanded {} Try.checked os 4 .any ((Rows.OpenSpec.upto Rows.yamlDictSpec).pre6 enc Try.prog Try.f4 Rows.yamlDictUptoRow.domain false) (((Rows.OpenSpec.upto Rows.yamlDictSpec).at F).post enc Try.prog Try.f4 false true false false) := by
  refine handed_cond_shaped (C := Try.checked) (s := Rows.OpenSpec.upto Rows.yamlDictSpec) (k := Rows.uptoSmall) rfl own started (by kernel_rfl) Try.func4
    (OpenSpec.witness (enc := enc) (C := Try.checked) (s := Rows.OpenSpec.upto Rows.yamlDictSpec) (k := Rows.uptoSmall) rfl false ⟨#[], #[.slice none 0 0, .int .i64 0, .int .i64 0], []⟩ 8 (by kernel_rfl) (by kernel_rfl) (by kernel_rfl)
      (x := ([.nil, .lit (.int .i64 0), .lit (.int .i64 0)], [], [])) (by kernel_rfl) rfl (by kernel_rfl)) ?_
  intro W base args ds gs before hval hW hk hsh
  exact contract H enc W base args ds gs before hval hW hk (maxAt_of hsh)

/-- The statement. -/
theorem said : Rows.YamlDictUptoSaid :=
  OpenClaim.holds_of_cond 4 Try.f4 rfl rfl rfl rfl rfl rfl rfl ⟨rfl, rfl, rfl, rfl, rfl⟩ rfl rfl rfl rfl rfl (by kernel_rfl) Try.func4 (by kernel_rfl)
    (of_decide_eq_true (by kernel_rfl)) (by unfold Func.isWrapper; first | (rw [if_pos (by decide +kernel)]; kernel_rfl) | (rw [if_neg (by decide +kernel)]; exact ⟨rfl, rfl⟩))
    (fun os started H enc _ F => lifted os started H enc F)
end Go.Proofs.Ytimgjbjibkljhaa.yamlDict
