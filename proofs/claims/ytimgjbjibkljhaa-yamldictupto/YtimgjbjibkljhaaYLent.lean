/-
  Layer 9: lent and round.
-/
import Derived.Test.YtimgjbjibkljhaaYListM
import Derived.Test.YtimgjbjibkljhaaReadL
namespace Go.Proofs.Ytimgjbjibkljhaa
open Go.RowKit

theorem IsStrs.src {w : World} {a : Option Addr} {c : Nat} {ts : List ByteArray} (h : IsStrs w a c ts) : (a = none ∧ ts.length = 0) ∨ (∃ ad, a = some ad ∧ ∀ j u, (ts.map Value.string)[j]? = some u → w.cell? (ad.add j) = some u) ∨ ts = [] := by
  rcases h.2.2 with h0 | ⟨b, o, rfl, _, hc⟩
  · exact .inr (.inr h0)
  · refine .inr (.inl ⟨_, rfl, fun j u hu => ?_⟩)
    rw [List.getElem?_map] at hu
    cases hx : ts[j]? with
    | none => rw [hx] at hu; cases hu
    | some x =>
      rw [hx] at hu
      have := hc j x hx
      simp only [Option.map_some, Option.some.injEq] at hu
      rw [← hu]
      cases j with
      | zero => simpa [Addr.add] using this
      | succ j => simpa [Addr.add] using this
theorem strs_one (ts : List ByteArray) : ∀ u ∈ ts.map Value.string, u.oneCell' = true := by
  intro u hu
  obtain ⟨x, _, rfl⟩ := List.mem_map.1 hu
  rfl
/-- Texts put behind texts. -/
theorem run_appendT (w : World) (B : Nat) (ty : TypeId) (v : Value) (ts us : List ByteArray) (a : Option Addr) (c n : Nat) (hn : n = us.length) (h : Strs w B v ts) (hu : IsStrs w a c us) (hl : ts.length + us.length ≤ 4294967296) (hB : B ≤ w.heap.size) :
    ∃ v' w', (Builtin.append_ #[22, 22] ty #[v, .slice a n c]).run Try.prog w = .ok v' w' ∧ Strs w' B v' (ts ++ us) ∧ w.grownBy w' v.ownBlock := by
  subst hn
  obtain ⟨i9, hi, hz0, hz1, hz2⟩ := info_parts info_string
  have src : (a = none ∧ us.length = 0) ∨ ∃ ad, a = some ad ∧ ∀ j u, (us.map Value.string)[j]? = some u → w.cell? (ad.add j) = some u := by
    rcases hu.src with h | h | h
    · exact .inl h
    · exact .inr h
    · cases a with
      | none => exact .inl ⟨rfl, by rw [h]; rfl⟩
      | some p => exact .inr ⟨p, rfl, fun j u hj => by rw [h] at hj; simp at hj⟩
  obtain ⟨v', w', hr, h2, h3, _⟩ := run_append_keeps (P := Try.prog) w B 22 ty 9 i9 (.string ⟨#[]⟩) Try.underlying22 hi hz0 hz1 rfl v ts.length (ts.map Value.string) h a us.length c (us.map Value.string) (by simp) src (strs_one us) (by unfold maxLen; omega) (by rw [hz2]; omega) hB
  refine ⟨v', w', hr, ?_, h3⟩
  unfold Strs
  rw [List.length_append, List.map_append]
  exact h2
theorem wpList_appendT {w : World} {ops : Array Oper} {rest : List Oper} {o : Oper} {a : Act} {Q : Exit → Act → World → Prop} (hgd : o.guard = none) (s x : Operand)
    (ho : o.op = .call { callee := .builtin .append, args := #[s, x], argTypes := #[22, 22] })
    (B : Nat) (v : Value) (ts us : List ByteArray) (hs : a.eval s = v) (h : Strs w B v ts) (ad : Option Addr) (c n : Nat) (hn : n = us.length) (hx : a.eval x = .slice ad n c) (hu : IsStrs w ad c us) (hl : ts.length + us.length ≤ 4294967296) (hB : B ≤ w.heap.size)
    (k : ∀ v' w', Strs w' B v' (ts ++ us) → w.grownBy w' v.ownBlock → wpList Try.prog ops Q rest (a.put o.dst v') w') : wpList Try.prog ops Q (o :: rest) a w := by
  refine wpList_plain hgd fun K hK => ?_
  obtain ⟨v', w', hr, h2, h3⟩ := run_appendT w B o.type v ts us ad c n hn h hu hl hB
  unfold Oper.wp execOp
  simp only [ho, resolve, invoke, builtin, Sem.run_bind, Sem.run_pure, Result.andThen_ok, List.map_toArray, List.map_cons, List.map_nil, hs, hx, hr]
  exact hK _ _ (k v' w' h2 h3)
theorem two_new (w : World) : IsStrs (w.alloc (.cells #[.string bs, .string bs] 9)) (some ⟨w.heap.size, 0, none⟩) 2 [bs, bs] := by
  refine ⟨by decide, by unfold maxLen; decide, .inr ⟨w.heap.size, 0, rfl, by simp, fun j x hj => ?_⟩⟩
  rw [Nat.zero_add, cell_of_row _ _ j _ _ (0, 0) (heap_alloc_new w _)]
  match j, hj with
  | 0, hj => simp at hj; subst hj; rfl
  | 1, hj => simp at hj; subst hj; rfl
set_option maxHeartbeats 2000000 in
set_option maxRecDepth 1000000 in
theorem lent_any (a : Option Addr) (c : Nat) (ts : List ByteArray) (w : World) (h : IsStrs w a c ts) (hl : ts.length ≤ 1073741823) :
    Calls Try.prog 10 #[.slice a ts.length c] w fun e w' => ∃ g c', e = .returned (.slice (some ⟨g, 0, none⟩) ts.length c') ∧ Strs w' w.heap.size (.slice (some ⟨g, 0, none⟩) (ts ++ [bs, bs]).length c') (ts ++ [bs, bs]) ∧ Below w.heap.size w w' := by
  obtain ⟨n, hn⟩ : ∃ n, n = ts.length := ⟨_, rfl⟩
  have HI := hideY h
  have HN := hideY hn
  rw [← hn] at hl ⊢
  clear h hn
  go_enter Try.func10, Try.ntmps10
  go_upto_region 2 with (refine wpList_appendT rfl (.const (.slice none 0 0)) (.tmp 4) rfl w.heap.size (.slice none 0 0) [] ts rfl (World.ownsRow_nil _ _ _ _) a c n HN.out rfl HI.out (by have := HN.out; simp; omega) (Nat.le_refl _) ?_; intro v1 w1 s1 g1; have S1 := hideY (And.intro s1 (below_ofN g1)); clear s1 g1)
  obtain ⟨w2, hw2⟩ : ∃ w2, w2 = w1.alloc (.cells #[.string bs, .string bs] 9) := ⟨_, rfl⟩
  have B2 : Below w1.heap.size w1 w2 := by rw [hw2]; exact (Below.refl _ w1).alloc (Nat.le_refl _) _
  have T2 : IsStrs w2 (some ⟨w1.heap.size, 0, none⟩) 2 [bs, bs] := by rw [hw2]; exact two_new w1
  have HT2 := hideY (And.intro T2 B2)
  have HW2 := hideY hw2
  clear T2 B2 hw2
  go_upto_region 3 with (rw [show w1.alloc (.cells #[.string ⟨#[98, 101, 104, 105, 110, 100]⟩, .string ⟨#[98, 101, 104, 105, 110, 100]⟩] 9) = w2 from HW2.out.symm]; refine wpList_appendT rfl (.tmp 6) (.tmp 7) rfl w.heap.size v1 ([] ++ ts) [bs, bs] rfl (S1.out.1.below HT2.out.2) (some ⟨w1.heap.size, 0, none⟩) 2 2 rfl rfl HT2.out.1 (by have := HN.out; simp; omega) (Nat.le_trans S1.out.2.size HT2.out.2.size) ?_; intro v3 w3 s3 g3; have S3 := hideY (And.intro s3 g3); clear s3 g3)
  have B3 : Hid (Below w.heap.size w w3) := (S1.out.2.trans (HT2.out.2.mono S1.out.2.size)).grown S3.out.2 (Nat.le_trans S1.out.2.size HT2.out.2.size) (fun g hg => (World.ownsRow.lt S1.out.1 g hg).1)
  have S4 : Hid (Strs w3 w.heap.size v3 (ts ++ [bs, bs])) := by have := S3.out.1; rwa [List.nil_append] at this
  have SH : Hid (∃ g c', v3 = .slice (some ⟨g, 0, none⟩) (n + 2) c' ∧ n + 2 ≤ c' ∧ c' ≤ maxLen) := by
    rcases S4.out.2 with ⟨_, h0⟩ | ⟨g, cap, cur, e, _, _, h1, h2, _⟩
    · simp at h0
    · exact ⟨g, cap, by rw [e, HN.out]; simp, by have := HN.out; simp at h1; omega, h2⟩
  obtain ⟨g, c', e3, hc1, hc2⟩ := SH.out
  subst e3
  unfold maxLen at hc2
  have j1 : (0 : Int) ≤ (n : Int) := by omega
  have j2 : (n : Int) ≤ (c' : Int) := by omega
  clear S1 S3 SH HT2 HW2
  go_wp2_with fail
  go_ret
  exact ⟨g, c', rfl, by have h4 := S4.out; rw [HN.out] at h4; simpa using h4, B3.out⟩
end Go.Proofs.Ytimgjbjibkljhaa
