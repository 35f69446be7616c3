/-
  Layer 9: pairs put behind pairs; pairsLent.
-/
import Derived.Test.YtimgjbjibkljhaaYLent
import Derived.Test.YtimgjbjibkljhaaYStill
import Derived.Test.YtimgjbjibkljhaaReadD
import Derived.Test.YtimgjbjibkljhaaKeepsG
namespace Go.Proofs.Ytimgjbjibkljhaa
open Go.RowKit

theorem twos_inv : ∀ (ps : List BP) (j : Nat) (u : Value), (twos ps)[j]? = some u → ∃ i p, ps[i]? = some p ∧ ((j = i * 2 ∧ u = .string p.1) ∨ (j = i * 2 + 1 ∧ u = .string p.2))
  | [], j, u, h => by simp [twos] at h
  | q :: ps, 0, u, h => ⟨0, q, rfl, .inl ⟨rfl, by simp [twos, two] at h; exact h.symm⟩⟩
  | q :: ps, 1, u, h => ⟨0, q, rfl, .inr ⟨rfl, by simp [twos, two] at h; exact h.symm⟩⟩
  | q :: ps, j + 2, u, h => by
    have h2 : (twos ps)[j]? = some u := h
    obtain ⟨i, p, hp, hj⟩ := twos_inv ps j u h2
    refine ⟨i + 1, p, by simpa using hp, ?_⟩
    rcases hj with ⟨rfl, e⟩ | ⟨rfl, e⟩
    · exact .inl ⟨by omega, e⟩
    · exact .inr ⟨by omega, e⟩
theorem IsPairs.src {w : World} {a : Option Addr} {c : Nat} {ps : List BP} (h : IsPairs w a c ps) : (a = none ∧ ps.length = 0) ∨ ∃ ad, a = some ad ∧ ∀ j u, (twos ps)[j]? = some u → w.cell? (ad.add j) = some u := by
  rcases h.2.2 with h0 | ⟨b, o, rfl, _, hc⟩
  · cases a with
    | none => exact .inl ⟨rfl, by rw [h0]; rfl⟩
    | some p => exact .inr ⟨p, rfl, fun j u hj => by rw [h0] at hj; simp [twos] at hj⟩
  · refine .inr ⟨_, rfl, fun j u hu => ?_⟩
    obtain ⟨i, p, hp, hj⟩ := twos_inv ps j u hu
    have := hc i p hp
    rw [Go.WideShapes.add_plain]
    rcases hj with ⟨rfl, rfl⟩ | ⟨rfl, rfl⟩
    · exact this.1
    · exact this.2
theorem twos_one (ps : List BP) : ∀ u ∈ twos ps, u.oneCell' = true := by
  intro u hu
  obtain ⟨j, hj⟩ := List.mem_iff_getElem?.1 hu
  obtain ⟨i, p, _, h⟩ := twos_inv ps j u hj
  rcases h with ⟨_, rfl⟩ | ⟨_, rfl⟩ <;> rfl
theorem twos_append (ps qs : List BP) : twos (ps ++ qs) = twos ps ++ twos qs := by simp [twos]
theorem run_appendP (w : World) (B : Nat) (ty : TypeId) (v : Value) (ps qs : List BP) (a : Option Addr) (c n : Nat) (hn : n = qs.length) (h : Prs w B v ps) (hu : IsPairs w a c qs) (hl : ps.length + qs.length ≤ 1073741824) (hB : B ≤ w.heap.size) :
    ∃ v' w', (Builtin.append_ #[37, 37] ty #[v, .slice a n c]).run Try.prog w = .ok v' w' ∧ Prs w' B v' (ps ++ qs) ∧ w.grownBy w' v.ownBlock := by
  subst hn
  obtain ⟨i9, hi, hz0, hz1, hz2⟩ := info_parts info_pair
  obtain ⟨v', w', hr, h2, h3, _⟩ := run_append_keepsG (P := Try.prog) w 2 B 37 ty 41 i9 (.agg #[.string ⟨#[]⟩, .string ⟨#[]⟩]) Try.underlying37 hi hz0 hz1 rfl v ps.length (twos ps) h a qs.length c (twos qs) (twos_length qs) hu.src (twos_one qs) (by unfold maxLen; omega) (by rw [hz2]; omega) hB
  refine ⟨v', w', hr, ?_, h3⟩
  unfold Prs
  rw [List.length_append, twos_append]
  exact h2
theorem wpList_appendP {w : World} {ops : Array Oper} {rest : List Oper} {o : Oper} {a : Act} {Q : Exit → Act → World → Prop} (hgd : o.guard = none) (s x : Operand)
    (ho : o.op = .call { callee := .builtin .append, args := #[s, x], argTypes := #[37, 37] })
    (B : Nat) (v : Value) (ts us : List BP) (hs : a.eval s = v) (h : Prs w B v ts) (ad : Option Addr) (c n : Nat) (hn : n = us.length) (hx : a.eval x = .slice ad n c) (hu : IsPairs w ad c us) (hl : ts.length + us.length ≤ 1073741824) (hB : B ≤ w.heap.size)
    (k : ∀ v' w', Prs w' B v' (ts ++ us) → w.grownBy w' v.ownBlock → wpList Try.prog ops Q rest (a.put o.dst v') w') : wpList Try.prog ops Q (o :: rest) a w := by
  refine wpList_plain hgd fun K hK => ?_
  obtain ⟨v', w', hr, h2, h3⟩ := run_appendP w B o.type v ts us ad c n hn h hu hl hB
  unfold Oper.wp execOp
  simp only [ho, resolve, invoke, builtin, Sem.run_bind, Sem.run_pure, Result.andThen_ok, List.map_toArray, List.map_cons, List.map_nil, hs, hx, hr]
  exact hK _ _ (k v' w' h2 h3)
theorem two_newP (w : World) : IsPairs (w.alloc (.cells #[.string bh.1, .string bh.2, .string bh.1, .string bh.2] 41)) (some ⟨w.heap.size, 0, none⟩) 2 [bh, bh] := by
  refine ⟨by decide, by decide, .inr ⟨w.heap.size, 0, rfl, by simp, fun j x hj => ?_⟩⟩
  rw [Nat.zero_add, cell_of_row _ _ (j * 2) _ _ (0, 0) (heap_alloc_new w _), cell_of_row _ _ (j * 2 + 1) _ _ (0, 0) (heap_alloc_new w _)]
  match j, hj with
  | 0, hj => simp at hj; subst hj; exact ⟨rfl, rfl⟩
  | 1, hj => simp at hj; subst hj; exact ⟨rfl, rfl⟩
end Go.Proofs.Ytimgjbjibkljhaa
