/-
  Layer 9: copy of pairs onto a list of the call's own.
-/
import Derived.Test.YtimgjbjibkljhaaYLentQ
import Derived.Test.YtimgjbjibkljhaaYCopy
namespace Go.Proofs.Ytimgjbjibkljhaa
open Go.RowKit
theorem run_copy_two (w : World) (dT sT ty elem : TypeId) (g o dLen dCap : Nat) (a : Addr) (sLen sCap : Nat) (cur : Array Value) (t : TypeId) (cs : List Value)
    (hu : Try.prog.underlying dT = some (.slice elem)) (hs : (Try.prog.info? elem).map (·.size) = some 2)
    (hg : w.heap[g]? = some (.cells cur t (0, 0))) (hn : cs.length = Nat.min sLen dLen * 2)
    (hsrc : ∀ j v, cs[j]? = some v → w.cell? (a.add j) = some v) (hfit : o + cs.length ≤ cur.size) (h1 : ∀ v ∈ cs, v.oneCell' = true) :
    (Builtin.copy_ #[dT, sT] ty #[.slice (some ⟨g, o, none⟩) dLen dCap, .slice (some a) sLen sCap]).run Try.prog w =
      .ok (goInt (Nat.min sLen dLen)) (w.setRow g (cur.toList.take o ++ cs ++ cur.toList.drop (o + cs.length)).toArray) := by
  have hl := run_loadCells_list (P := Try.prog) w a cs hsrc
  have hst := run_storeCells_at Try.prog g o t cs 0 cur w hg (by simpa using hfit) h1
  cases hq : Try.prog.info? elem with
  | none => simp [hq] at hs
  | some i =>
    have hi : i.size = 2 := by simpa [hq] using hs
    simp [Builtin.copy_, run_underlying hu, Builtin.lenOf, Builtin.firstCells, sizeOf, typeInfo, hq, hi, ← hn, hl, hst]
theorem run_copy_two0 (w : World) (dT sT ty elem : TypeId) (g o dCap : Nat) (a : Option Addr) (sCap : Nat)
    (hu : Try.prog.underlying dT = some (.slice elem)) (hs : (Try.prog.info? elem).map (·.size) = some 2) :
    (Builtin.copy_ #[dT, sT] ty #[.slice (some ⟨g, o, none⟩) 0 dCap, .slice a 0 sCap]).run Try.prog w = .ok (goInt 0) w := by
  cases hq : Try.prog.info? elem with
  | none => simp [hq] at hs
  | some i =>
    cases a <;> simp [Builtin.copy_, run_underlying hu, Builtin.lenOf, Builtin.firstCells, sizeOf, typeInfo, hq, storeCells, loadCells, loadCellsFrom]
/-- 'copy'. -/
theorem wpList_copyP {w : World} {ops : Array Oper} {rest : List Oper} {o : Oper} {a : Act} {Q : Exit → Act → World → Prop} (hgd : o.guard = none) (d s : Operand)
    (ho : o.op = .call { callee := .builtin .copy, args := #[d, s], argTypes := #[37, 37] })
    (B g dc n : Nat) (ts tail us : List BP) (hnt : ts.length = n) (hd : a.eval d = .slice (some ⟨g, 0, none⟩) n dc) (hown : Prs w B (.slice (some ⟨g, 0, none⟩) (ts ++ tail).length dc) (ts ++ tail)) (ad : Option Addr) (c : Nat) (hnu : us.length = n) (hs : a.eval s = .slice ad n c) (hm : IsPairs w ad c us)
    (h : ∀ (r : Int) w', Prs w' B (.slice (some ⟨g, 0, none⟩) (us ++ tail).length dc) (us ++ tail) → Kept (fun k => k = g) w w' → wpList Try.prog ops Q rest (a.put o.dst (goInt r)) w') : wpList Try.prog ops Q (o :: rest) a w := by
  subst hnt
  have hsz : (Try.prog.info? 41).map (·.size) = some 2 := by kernel_rfl
  refine wpList_plain hgd fun K hK => ?_
  by_cases h0 : us = []
  · have h1 : ts.length = 0 := by rw [← hnu, h0]; rfl
    obtain rfl : ts = [] := List.eq_nil_of_length_eq_zero h1
    subst h0
    have hr := run_copy_two0 w 37 37 o.type 41 g 0 dc ad c Try.underlying37 hsz
    unfold Oper.wp
    simp at hd hs
    simp [execOp, ho, resolve, invoke, builtin, hd, hs, hr, Result.andThen]
    exact hK _ _ (h 0 w hown (Kept.refl _ w))
  · rcases hown.2 with ⟨hv, _⟩ | ⟨g', cap, cur, hv, hB, hg, hnc, hcm, hcs, htake⟩
    · cases hv
    · simp only [Value.slice.injEq, Option.some.injEq, Addr.mk.injEq, and_true] at hv
      obtain ⟨rfl, _, rfl⟩ := hv
      obtain ⟨sa, rfl, hsrc⟩ := hm.src.resolve_left (fun e => h0 (List.eq_nil_of_length_eq_zero e.2))
      have hlen : (ts ++ tail).length = ts.length + tail.length := List.length_append
      have hu2 : (twos us).length = ts.length * 2 := by rw [twos_length, hnu]
      have hr := run_copy_two w 37 37 o.type 41 g 0 ts.length dc sa ts.length c cur 41 (twos us) Try.underlying37 hsz hg (by rw [hu2]; simp) hsrc (by rw [hu2, hcs]; omega) (twos_one us)
      have hul : (us ++ tail).length = (ts ++ tail).length := by simp [hnu]
      have ht : cur.toList.take ((ts ++ tail).length * 2) = twos (ts ++ tail) := htake
      have hfin : Prs (w.setRow g (cur.toList.take 0 ++ twos us ++ cur.toList.drop (0 + (twos us).length)).toArray) B (.slice (some ⟨g, 0, none⟩) (us ++ tail).length dc) (us ++ tail) := by
        refine ⟨twos_length _, .inr ⟨g, dc, _, rfl, hB, setRow_heap w g cur _ _ _ hg, by rw [hul]; exact hnc, hcm, ?_, ?_⟩⟩
        · simp only [List.size_toArray, List.take_zero, List.nil_append, List.length_append, hu2, List.length_drop, Array.length_toList, Nat.zero_add]
          omega
        · rw [hul]
          simp only [List.take_zero, List.nil_append, Nat.zero_add]
          rw [List.take_append, hu2, List.take_of_length_le (by rw [hu2]; omega), List.take_drop, show ts.length * 2 + ((ts ++ tail).length * 2 - ts.length * 2) = (ts ++ tail).length * 2 by omega, ht, twos_append, twos_append, ← twos_length ts, List.drop_left]
      unfold Oper.wp execOp
      simp only [ho, resolve, invoke, builtin, Sem.run_bind, Sem.run_pure, Result.andThen_ok, List.map_toArray, List.map_cons, List.map_nil, hd, hs, hr]
      exact hK _ _ (h _ _ hfin ⟨rfl, rfl, rfl, by simp [World.setRow], fun q _ hq => setRow_other w g q _ hq⟩)
end Go.Proofs.Ytimgjbjibkljhaa
