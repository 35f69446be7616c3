/-
  Draw, KeepsG, CopyOf.
-/
import Derived.Orders
import Derived.WalkKit
import Derived.Below
import Derived.Test.YtomgnailgddchaaDoorJA
import Derived.Test.YtomgnailgddchaaDoorRdr
import Derived.OwnWalk
import Derived.Deep.OwnRows
import Derived.Laws.CopyOwn
namespace Go.Proofs.YtomgnailgddchaaDoor
open Go.RowKit

section
variable {P : Program} {ops : Array Oper} {Q : Exit → Act → World → Prop} {md : Region.Mode}

/-- It yields v in each world of the class. -/
def YieldsC (P : Program) (ops : Array Oper) (Cl : World → Prop) (o : Oper) (v : Value) (a : Act) : Prop :=
  Region.wanted o (yielded ops a.tmps) = true ∧ ∀ w, Cl w → (execOp a.eval o).run P w = .ok (.value v) w
/-- It yields a value, and leads from a world of the class to one. -/
def Stays (P : Program) (Cl : World → Prop) (o : Oper) : Prop :=
  ∀ (a : Act) (w : World), Cl w → ∀ n w', (execOp a.eval o).run P w = .ok n w' → (∃ u, n = .value u) ∧ Cl w'

theorem YieldsC.of_same {Cl : World → Prop} {o : Oper} {v : Value} {a a' : Act} (hy : YieldsC P ops Cl o v a) (he : execOp a'.eval o = execOp a.eval o)
    (hw : Region.wanted o (yielded ops a'.tmps) = Region.wanted o (yielded ops a.tmps)) : YieldsC P ops Cl o v a' := by
  unfold YieldsC at *
  rw [he, hw]
  exact hy
theorem YieldsC.wpOp {Cl : World → Prop} {i : Nat} {o : Oper} {v : Value} {a : Act} (hi : ops[i]? = some o) (hy : YieldsC P ops Cl o v a)
    {K : Act → World → Prop} {w : World} (hC : Cl w) (h : K (a.put o.dst v) w) : wpOp P ops Q i K a w := by
  unfold Go.wpOp
  simp only [hi]
  simp only [hy.1, if_true, Oper.wp, hy.2 w hC, Oper.upon]
  exact .inl h
theorem wpOp_putC {Cl : World → Prop} {j : Nat} {oi oj : Oper} {v : Value} (hj : ops[j]? = some oj) (hap : oi.apart ops oj = true)
    (hsi : ∀ cs b, oi.op ≠ .select cs b) (hsj : ∀ cs b, oj.op ≠ .select cs b)
    (hQ : ∀ c a w, Q (.panic c) (a.put oi.dst v) w → Q (.panic c) a w) (hst : Stays P Cl oj) {K : Act → World → Prop} {a : Act} {w : World} (hC : Cl w)
    (hy : YieldsC P ops Cl oi v a) (h : wpOp P ops Q j K (a.put oi.dst v) w) :
    wpOp P ops Q j (fun a' w' => YieldsC P ops Cl oi v a' ∧ Cl w' ∧ K (a'.put oi.dst v) w') a w := by
  obtain ⟨h1, h2, h3⟩ := Oper.apart_spec hap
  have keep : ∀ u, YieldsC P ops Cl oi v (a.put oj.dst u) := fun u => hy.of_same (execOp_put oi hsi a oj.dst u h3) (wanted_put oi a oj.dst u h3)
  have hst := hst a w hC
  unfold wpOp at *
  simp only [hj] at *
  rw [wanted_put oj a oi.dst v h1] at h
  split
  · rename_i hw
    simp only [hw, if_true] at h
    rcases h with h | ⟨hasks, hlets⟩
    case inr => exact .inr ⟨by unfold Oper.asks at *; rw [execOp_put oj hsj a oi.dst v h1] at hasks; exact hasks, hlets⟩
    refine .inl ?_
    unfold Oper.wp at *
    rw [execOp_put oj hsj a oi.dst v h1] at h
    generalize (execOp a.eval oj).run P w = r at *
    cases r with
    | ok n w' =>
      obtain ⟨⟨u, rfl⟩, hC'⟩ := hst n w' rfl
      simp only [Oper.upon] at h ⊢
      exact ⟨keep u, hC', by rw [← Act.put_comm a v u h2]; exact h⟩
    | halt x w' =>
      cases x <;> simp only [Oper.upon] at h ⊢
      case panic u => exact hQ _ _ _ h
  · rename_i hw
    simp only [hw] at h
    exact ⟨keep _, hC, by rw [← Act.put_comm a v undef h2]; exact h⟩

/-- D: what waits for i, at whatever remove. -/
theorem wpAny_firstC {Cl : World → Prop} {D : Nat → Bool} {i : Nat} {oi : Oper} {v : Value} (hi : ops[i]? = some oi) (hsel : ∀ (j : Nat) (o : Oper) cs b, ops[j]? = some o → o.op ≠ .select cs b)
    (hQ : ∀ c a w, Q (.panic c) (a.put oi.dst v) w → Q (.panic c) a w)
    (hD : ∀ j oj, ops[j]? = some oj → D j = true → j ≠ i → ∃ e ∈ oj.after, Region.binds md e = true ∧ (D e.on = true ∨ e.on = i)) :
    ∀ (fuel : Nat) (listed : Array Bool) (a : Act) (w : World),
      (∀ j oj, ops[j]? = some oj → j ≠ i → D j = false → listed.getD j true = false → oi.apart ops oj = true ∧ Stays P Cl oj) →
      (∀ j, D j = true → listed.getD j false = false) → i ∈ Region.ready md ops listed → Cl w → YieldsC P ops Cl oi v a →
      wpAny P md ops Q fuel (listed.setIfInBounds i true) (a.put oi.dst v) w → wpAny P md ops Q (fuel + 1) listed a w := by
  intro fuel
  induction fuel with
  | zero =>
    intro listed a w _ _ hr hC hy H
    refine ⟨fun h => (by rw [h] at hr; cases hr), fun j hj => ?_⟩
    by_cases hji : j = i
    · subst hji; exact hy.wpOp hi hC H
    · have := ready_mono hj hji
      rw [H.1] at this
      cases this
  | succ fuel ih =>
    intro listed a w hfree hun hr hC hy H
    refine ⟨fun h => (by rw [h] at hr; cases hr), fun j hj => ?_⟩
    by_cases hji : j = i
    · subst hji; exact hy.wpOp hi hC H
    · have h1 := H.2 j (ready_mono hj hji)
      obtain ⟨hjun, oj, hoj, hall⟩ := mem_ready.1 hj
      have hiun : listed.getD i false = false := by
        have h0 := (mem_ready.1 hr).1
        rcases Nat.lt_or_ge i listed.size with h' | h'
        · simp [h'] at h0 ⊢; exact h0
        · simp [Array.getElem?_eq_none h']
      have hDj : D j = false := by
        cases hd : D j with
        | false => rfl
        | true =>
          obtain ⟨e, he, hb, hde⟩ := hD j oj hoj hd hji
          have h2 := hall e he hb
          rcases hde with hde | hde
          · rw [hun _ hde] at h2; cases h2
          · rw [hde, hiun] at h2; cases h2
      obtain ⟨hap, hst⟩ := hfree j oj hoj hji hDj hjun
      have h2 := wpOp_putC hoj hap (fun cs b => hsel i oi cs b hi) (fun cs b => hsel j oj cs b hoj) hQ hst hC hy h1
      have hfree' : ∀ k ok, ops[k]? = some ok → k ≠ i → D k = false → (listed.setIfInBounds j true).getD k true = false → oi.apart ops ok = true ∧ Stays P Cl ok := fun k ok hk hki hdk hku => by
        refine hfree k ok hk hki hdk ?_
        by_cases hjk : j = k
        · subst hjk; exact hjun
        · rw [getD_set_ne true hjk] at hku; exact hku
      have hun' : ∀ k, D k = true → (listed.setIfInBounds j true).getD k false = false := fun k hk => by
        have hjk : j ≠ k := fun e => by rw [e, hk] at hDj; cases hDj
        rw [getD_set_ne false hjk]
        exact hun k hk
      refine wpOp_mono (fun a' w' h3 => ih (listed.setIfInBounds j true) a' w' hfree' hun' (ready_mono hr (Ne.symm hji)) h3.2.1 h3.1 ?_) h2
      rw [Array.setIfInBounds_comm _ _ hji]
      exact h3.2.2
theorem stays_load (o : Oper) (ty : TypeId) (x : Operand) (ho : o.op = .load ty x) (hagg : ∀ w, (isAgg ty).run P w = .ok false w) (a : Act) (w : World) (n : Next) (w' : World) (h : (execOp a.eval o).run P w = .ok n w') : (∃ u, n = .value u) ∧ w' = w := by
  simp only [execOp, ho] at h
  have hl : ∀ v w1, (Instr.loadAt ty (a.eval x)).run P w = .ok v w1 → w1 = w := by
    intro v w1 h1
    unfold Instr.loadAt at h1
    generalize a.eval x = y at h1
    rcases y with _ | _ | _ | _ | _ | _ | _ | _ | _ | _ | _ | _ | _ | _ | _
    all_goals try (simp [Instr.sureAddr] at h1; done)
    all_goals rename_i p
    all_goals (cases p with
      | none => simp [Instr.sureAddr] at h1
      | some q =>
        simp [Instr.sureAddr, loadVar, hagg, load] at h1
        unfold Sem.run at h1
        revert h1
        cases hc : w.cell? q with
        | some u => intro h1; simp at h1; exact h1.2.symm
        | none =>
          intro h1
          simp only at h1
          split at h1
          · simp at h1; exact h1.2.symm
          · cases h1)
  simp [Result.andThen] at h
  cases hr : (Instr.loadAt ty (a.eval x)).run P w with
  | ok v w1 =>
    rw [hr] at h
    simp at h
    exact ⟨⟨v, h.1.symm⟩, h.2 ▸ hl v w1 hr⟩
  | halt hh w1 => rw [hr] at h; cases h
theorem stays_alloc (o : Oper) (ty : TypeId) (ho : o.op = .alloc ty) (z : Value) (hz : ∀ w, (zeroValue ty).run P w = .ok z w) (a : Act) (w : World) (n : Next) (w' : World) (h : (execOp a.eval o).run P w = .ok n w') : (∃ u, n = .value u) ∧ w' = w.alloc (.cells z.cells ty) := by
  simp only [execOp, ho] at h
  simp [Instr.alloc, Result.andThen, hz, newVar, newRow, newObj] at h
  have e : Sem.run P (Sem.new (Obj.cells z.cells ty) Sem.pure) w = .ok w.heap.size (w.alloc (.cells z.cells ty)) := rfl
  rw [e] at h
  simp at h
  exact ⟨⟨_, h.1.symm⟩, h.2.symm⟩
theorem stays_loadC {Cl : World → Prop} {o : Oper} {ty : TypeId} {x : Operand} (ho : o.op = .load ty x) (hagg : ∀ w, (isAgg ty).run P w = .ok false w) : Stays P Cl o := fun a w hC n w' h => by
  obtain ⟨h1, h2⟩ := stays_load o ty x ho hagg a w n w' h
  exact ⟨h1, by rw [h2]; exact hC⟩
theorem stays_allocC {w0 : World} {o : Oper} {ty : TypeId} {z : Value} (ho : o.op = .alloc ty) (hz : ∀ w, (zeroValue ty).run P w = .ok z w) : Stays P (Below w0.heap.size w0) o := fun a w hC n w' h => by
  obtain ⟨h1, h2⟩ := stays_alloc o ty ho z hz a w n w' h
  exact ⟨h1, by rw [h2]; exact hC.alloc hC.size _⟩

/-- Is what i needs so? D: what waits for i at whatever remove; E: what may come before it. -/
def checkC (md : Region.Mode) (ops : Array Oper) (D E : List Nat) (listed : Array Bool) (i : Nat) : Bool :=
  Region.noSelect ops && (Region.ready md ops listed).contains i && listed.size == ops.size && (List.range ops.size).all fun j => match ops[j]?, ops[i]? with
    | some oj, some oi => (!(D.contains j) || (!(listed.getD j false) && (j == i || oj.after.any (fun e => Region.binds md e && (D.contains e.on || e.on == i))))) &&
        (j == i || D.contains j || listed.getD j true || (oi.apart ops oj && E.contains j))
    | _, _ => false
theorem C_step {Cl : World → Prop} {D E : List Nat} {i : Nat} {oi : Oper} {v : Value} {fuel : Nat} {listed : Array Bool} {a : Act} {w : World} (hi : ops[i]? = some oi) (hc : checkC md ops D E listed i = true)
    (hE : ∀ j ∈ E, ∀ oj, ops[j]? = some oj → Stays P Cl oj) (hQ : ∀ c a w, Q (.panic c) (a.put oi.dst v) w → Q (.panic c) a w) (hC : Cl w) (hy : YieldsC P ops Cl oi v a)
    (h : wpAny P md ops Q fuel (listed.setIfInBounds i true) (a.put oi.dst v) w) : wpAny P md ops Q (fuel + 1) listed a w := by
  simp only [checkC, Bool.and_eq_true, beq_iff_eq] at hc
  obtain ⟨⟨⟨h1, h2⟩, h3⟩, h4⟩ := hc
  have all : ∀ j oj, ops[j]? = some oj → (D.contains j = true → listed.getD j false = false ∧ (j = i ∨ ∃ e ∈ oj.after, Region.binds md e = true ∧ (D.contains e.on = true ∨ e.on = i))) ∧ (j = i ∨ D.contains j = true ∨ listed.getD j true = true ∨ (oi.apart ops oj = true ∧ E.contains j = true)) := by
    intro j oj hj
    have hlt := (Array.getElem?_eq_some_iff.1 hj).1
    have := List.all_eq_true.1 h4 j (List.mem_range.2 hlt)
    simp only [hj, hi, Bool.and_eq_true, Bool.or_eq_true, Bool.not_eq_true', beq_iff_eq] at this
    obtain ⟨g1, g2⟩ := this
    refine ⟨fun hd => ?_, ?_⟩
    · rcases g1 with g1 | ⟨g1, g3⟩
      · rw [hd] at g1; cases g1
      · refine ⟨g1, ?_⟩
        rcases g3 with g3 | g3
        · exact .inl g3
        · obtain ⟨e, he, hb⟩ := Array.any_eq_true'.1 g3
          simp only [Bool.and_eq_true, Bool.or_eq_true, beq_iff_eq] at hb
          exact .inr ⟨e, he, hb⟩
    · rcases g2 with ((g2 | g2) | g2) | g2
      · exact .inl g2
      · exact .inr (.inl g2)
      · exact .inr (.inr (.inl g2))
      · exact .inr (.inr (.inr g2))
  refine wpAny_firstC (Cl := Cl) (D := fun j => D.contains j) hi (Region.noSelect_spec h1) hQ (fun j oj hj hd hne => ?_) fuel listed a w (fun j oj hj hne hd hun => ?_) (fun j hd => ?_) (by simpa using h2) hC hy h
  · rcases (all j oj hj).1 hd with ⟨_, g | g⟩
    · exact absurd g hne
    · exact g
  · rcases (all j oj hj).2 with g | g | g | g
    · exact absurd g hne
    · rw [show D.contains j = false from hd] at g; cases g
    · rw [hun] at g; cases g
    · exact ⟨g.1, hE j (by simpa using g.2) oj hj⟩
  · cases hj : ops[j]? with
    | some oj => exact ((all j oj hj).1 hd).1
    | none =>
      have : ops.size ≤ j := Array.getElem?_eq_none_iff.1 hj
      simp [Array.getElem?_eq_none (show listed.size ≤ j by omega)]
theorem op_alloc {i : Nat} {o : Oper} {a : Act} {w : World} {K : Act → World → Prop} (T : TypeId) (cs : Array Value) {z : Value} (hi : ops[i]? = some o) (hg : Region.wanted o (yielded ops a.tmps) = true) (ho : o.op = .alloc T) (hz : ∀ w, (zeroValue T).run P w = .ok z w) (hcs : z.cells = cs)
    (h : ∀ b w', w'.heap[b]? = some (.cells cs T (0, 0)) → Below w.heap.size w w' → w.heap.size ≤ b → K (a.put o.dst (.pointer (some ⟨b, 0, none⟩))) w') : wpOp P ops Q i K a w := by
  have hr : (execOp a.eval o).run P w = .ok (.value (.pointer (some ⟨w.heap.size, 0, none⟩))) (w.alloc (.cells z.cells T)) := by
    simp only [execOp, ho]
    simp [Instr.alloc, Result.andThen, hz, newVar, newRow, newObj]
    rfl
  unfold wpOp
  simp only [hi, hg, if_true, Oper.wp, hr, Oper.upon]
  refine .inl (h _ _ ?_ ((Below.refl _ w).alloc (Nat.le_refl _) _) (Nat.le_refl _))
  rw [hcs]
  show (w.heap.push _)[w.heap.size]? = _
  simp
theorem op_value {i : Nat} {o : Oper} {a : Act} {w w' : World} {v : Value} {K : Act → World → Prop} (hi : ops[i]? = some o) (hg : Region.wanted o (yielded ops a.tmps) = true) (hr : (execOp a.eval o).run P w = .ok (.value v) w') (h : K (a.put o.dst v) w') : wpOp P ops Q i K a w := by
  unfold wpOp
  simp only [hi, hg, if_true, Oper.wp, hr, Oper.upon]
  exact .inl h
theorem op_skip {i : Nat} {o : Oper} {a : Act} {w w' : World} {K : Act → World → Prop} (hi : ops[i]? = some o) (hg : Region.wanted o (yielded ops a.tmps) = true) (hr : (execOp a.eval o).run P w = .ok .skip w') (h : K (a.put o.dst undef) w') : wpOp P ops Q i K a w := by
  unfold wpOp
  simp only [hi, hg, if_true, Oper.wp, hr, Oper.upon]
  exact .inl h
theorem op_call {i f : Nat} {args : Array Value} {o : Oper} {a : Act} {w : World} {K : Act → World → Prop} (hi : ops[i]? = some o) (hg : Region.wanted o (yielded ops a.tmps) = true) (hr : (execOp a.eval o).run P w = .ok (.enter f args) w) (h : Calls P f args w fun e w'' => ∃ v, e = .returned v ∧ K (a.put o.dst v) w'') : wpOp P ops Q i K a w := by
  unfold wpOp
  simp only [hi, hg, if_true, Oper.wp, hr, Oper.upon]
  refine .inl (Calls.mono h ?_)
  rintro e w'' ⟨v, rfl, hK⟩
  exact hK
/-! The same with the slot written out. -/
theorem A_take {i : Nat} {oi : Oper} {v : Value} {fuel : Nat} {listed : Array Bool} {a : Act} {w : World} (d : Option Tmp) (hi : ops[i]? = some oi) (hd : oi.dst = d)
    (hs : Region.noSelect ops = true) (hf : Region.free md ops listed i = true) (hr : (Region.ready md ops listed).contains i = true)
    (hQ : ∀ c a w, Q (.panic c) (a.put oi.dst v) w → Q (.panic c) a w) (hy : Yields P ops oi v a)
    (h : wpAny P md ops Q fuel (listed.setIfInBounds i true) (a.put d v) w) : wpAny P md ops Q (fuel + 1) listed a w := by
  subst hd
  exact wpAny_take hi hs hf hr hQ hy h
theorem C_take {Cl : World → Prop} {D E : List Nat} {i : Nat} {oi : Oper} {v : Value} {fuel : Nat} {listed : Array Bool} {a : Act} {w : World} (d : Option Tmp) (hi : ops[i]? = some oi) (hd : oi.dst = d) (hc : checkC md ops D E listed i = true)
    (hE : ∀ j ∈ E, ∀ oj, ops[j]? = some oj → Stays P Cl oj) (hQ : ∀ c a w, Q (.panic c) (a.put oi.dst v) w → Q (.panic c) a w) (hC : Cl w) (hy : YieldsC P ops Cl oi v a)
    (h : wpAny P md ops Q fuel (listed.setIfInBounds i true) (a.put d v) w) : wpAny P md ops Q (fuel + 1) listed a w := by
  subst hd
  exact C_step hi hc hE hQ hC hy h
theorem D_alloc {i : Nat} {o : Oper} {a : Act} {w : World} {K : Act → World → Prop} (d : Option Tmp) (T : TypeId) (cs : Array Value) {z : Value} (hi : ops[i]? = some o) (hd : o.dst = d) (hg : Region.wanted o (yielded ops a.tmps) = true) (ho : o.op = .alloc T) (hz : ∀ w, (zeroValue T).run P w = .ok z w) (hcs : z.cells = cs)
    (h : ∀ b w', w'.heap[b]? = some (.cells cs T (0, 0)) → Below w.heap.size w w' → w.heap.size ≤ b → K (a.put d (.pointer (some ⟨b, 0, none⟩))) w') : wpOp P ops Q i K a w := by
  subst hd
  exact op_alloc T cs hi hg ho hz hcs h
theorem D_skip {i : Nat} {o : Oper} {a : Act} {w w' : World} {K : Act → World → Prop} (hi : ops[i]? = some o) (hd : o.dst = none) (hg : Region.wanted o (yielded ops a.tmps) = true) (hr : (execOp a.eval o).run P w = .ok .skip w') (h : K a w') : wpOp P ops Q i K a w :=
  op_skip hi hg hr (by rw [hd]; exact h)
theorem D_call {i f : Nat} {args : Array Value} {o : Oper} {a : Act} {w : World} {K : Act → World → Prop} (d : Option Tmp) (hi : ops[i]? = some o) (hd : o.dst = d) (hg : Region.wanted o (yielded ops a.tmps) = true) (hr : (execOp a.eval o).run P w = .ok (.enter f args) w) (h : Calls P f args w fun e w'' => ∃ v, e = .returned v ∧ K (a.put d v) w'') : wpOp P ops Q i K a w := by
  subst hd
  exact op_call hi hg hr h
end
end Go.Proofs.YtomgnailgddchaaDoor

namespace Go.Proofs.YtomgnailgddchaaDoor
open Go.RowKit

theorem run_append_keepsG {P : Program} (w : World) (size : Nat) (base : Nat) (t ty e : TypeId) (i : TypeInfo) (z : Value) (ht : P.underlying t = some (.slice e)) (hi : P.info? e = some i) (hz : i.zero = some z)
    (hsize : i.size = size) (hzs : z.cells.size = size) (v : Value) (n : Nat) (xs : List Value) (hown : w.ownsRow base e size v n xs)
    (a : Option Addr) (m c : Nat) (news : List Value) (hl : news.length = m * size) (hnews : (a = none ∧ m = 0) ∨ ∃ ad, a = some ad ∧ ∀ j u, news[j]? = some u → w.cell? (ad.add j) = some u) (h1 : ∀ u ∈ news, u.oneCell' = true)
    (h63 : n + m ≤ maxLen) (hbytes : (n + m) * i.bytes ≤ 140737488355328) (hbase : base ≤ w.heap.size) :
    ∃ v' w', (Builtin.append_ #[t, t] ty #[v, .slice a m c]).run P w = .ok v' w' ∧ w'.ownsRow base e size v' (n + m) (xs ++ news) ∧ w.grownBy w' v.ownBlock ∧ (∀ (b0 : Nat) (u : Value) (m' : Nat) (ys : List Value), w.ownsRow b0 e size u m' ys → (u.ownBlock = v.ownBlock → m' ≤ n) → w'.ownsRow b0 e size u m' ys) ∧
      (v'.ownBlock = v.ownBlock ∨ v'.ownBlock = some w.heap.size) ∧ (v' = .slice none 0 0 ↔ v = .slice none 0 0 ∧ m = 0) := by
  have hsmall : n + m ≤ 9223372036854775807 := by simp only [maxLen] at h63; omega
  rcases hnews with ⟨rfl, rfl⟩ | ⟨ad, rfl, hnews⟩
  · obtain rfl : news = [] := List.eq_nil_of_length_eq_zero (by rw [hl]; simp)
    refine ⟨v, w, ?_, by simpa using hown, ⟨rfl, rfl, rfl, Nat.le_refl _, fun _ _ _ => rfl⟩, fun _ _ _ _ h _ => h, .inl rfl, by simp⟩
    rcases hown.2 with ⟨rfl, rfl⟩ | ⟨g, cap, cur, rfl, hbg, hg, hnc, hcm, hcs, htake⟩
    · simp [Builtin.append_, run_underlying ht, sizeOf, typeInfo, hi, Builtin.lenOf, Builtin.firstCells]
    · have hr := run_append_room_src (P := P) w t t ty e i ht hi g 0 n cap (.slice none 0 c) 0 [] (Src.ofNil w ht c) (by omega) (by simp) (by simp)
      simpa [World.setCells] using hr
  · have hlen : (xs ++ news).length = (n + m) * size := by rw [List.length_append, hown.1, hl, Nat.add_mul]
    have grown : ∀ (old : Nat), old < n + m → ∀ (row : Option Nat),
        (w.drew.alloc (.cells (xs.toArray ++ news.toArray ++ Builtin.zeroCells z.cells (grownCap w (n + m) old e - (n + m))) e)).ownsRow base e size
          (.slice (some ⟨w.heap.size, 0, none⟩) (n + m) (grownCap w (n + m) old e)) (n + m) (xs ++ news) ∧
        w.grownBy (w.drew.alloc (.cells (xs.toArray ++ news.toArray ++ Builtin.zeroCells z.cells (grownCap w (n + m) old e - (n + m))) e)) row := by
      intro old ho row
      have hge := grownCap_ge w (n + m) old e
      have hcm : grownCap w (n + m) old e ≤ maxLen := grownCap_le_maxLen w (n + m) old e h63
      refine ⟨⟨hlen, .inr ⟨w.heap.size, _, _, rfl, hbase, heap_alloc_new w.drew _, hge, hcm, ?_, ?_⟩⟩, ⟨rfl, rfl, rfl, by simp, fun k hk _ => heap_alloc_old w.drew _ hk⟩⟩
      · simp only [Array.size_append, List.size_toArray, size_zeroCells, hzs, hown.1, hl]
        rw [← Nat.add_mul, ← Nat.add_mul]
        congr 1
        omega
      · simp only [Array.toList_append, List.append_assoc]
        rw [← List.append_assoc, ← hlen]
        exact List.take_left
    rcases hown.2 with ⟨rfl, rfl⟩ | ⟨g, cap, cur, rfl, hbg, hg, hnc, hcm, hcs, htake⟩
    · have hx : xs = [] := List.eq_nil_of_length_eq_zero (by have := hown.1; simpa using this)
      subst hx
      by_cases hm : m = 0
      · subst hm
        obtain rfl : news = [] := List.eq_nil_of_length_eq_zero (by rw [hl]; simp)
        refine ⟨.slice none 0 0, w, ?_, World.ownsRow_nil w base e size, ⟨rfl, rfl, rfl, Nat.le_refl _, fun _ _ _ => rfl⟩, fun _ _ _ _ h _ => h, .inl rfl, by simp⟩
        simp [Builtin.append_, run_underlying ht, sizeOf, typeInfo, hi, Builtin.lenOf, Builtin.firstCells, loadCells, loadCellsFrom]
      · have hr := run_append_nil (P := P) w t ty e i z ht hi hz ad m c news (by rw [hsize, hl]) hnews (by omega) (by omega) (by have hb := hbytes; simp only [Nat.zero_add] at hb; omega)
        have hgr := grown 0 (by omega) (Value.ownBlock (.slice none 0 0))
        simp only [Nat.zero_add, List.nil_append, Array.empty_append] at hgr ⊢
        have hgn := grown 0 (by omega) none
        simp only [Nat.zero_add, List.nil_append, Array.empty_append] at hgn
        exact ⟨_, _, hr, hgr.1, hgr.2, fun _ u _ _ h _ => h.kept hgn.2 (by cases hu : u.ownBlock <;> simp), .inr rfl, by simp [hm]⟩
    · by_cases hroom : n + m ≤ cap
      · have hfit : n * i.size + news.length ≤ cur.size := by rw [hl, hcs, hsize, ← Nat.add_mul]; exact Nat.mul_le_mul_right _ hroom
        have hr := run_append_room (P := P) w t ty e i ht hi g n cap cur hg ad m c news (by rw [hsize, hl]) hnews h1 hroom hfit
        rw [hsize] at hr
        have htl : (cur.toList.take (n * size)).length = n * size := by rw [htake, hown.1]
        refine ⟨_, _, hr, ⟨hlen, .inr ⟨g, cap, _, rfl, hbg, setRow_heap w g cur _ e _ hg, hroom, hcm, ?_, ?_⟩⟩, ⟨rfl, rfl, rfl, by simp, fun k _ hk => setRow_other w g k _ (fun e => hk (by simp [Value.ownBlock, e]))⟩,
          ?_, .inl rfl, by simp⟩
        · rw [hsize] at hfit
          simp only [List.size_toArray, List.length_append, List.length_take, List.length_drop, Array.length_toList]
          omega
        · rw [htake, ← hlen]
          exact List.take_left
        · intro b0 u m' ys h hle
          refine ⟨h.1, ?_⟩
          rcases h.2 with h0 | ⟨g', cap', cur', rfl, hb', hg', hnc', hcm', hcs', htake'⟩
          · exact .inl h0
          · by_cases hgg : g' = g
            · subst hgg
              rw [hg] at hg'
              simp only [Option.some.injEq, Obj.cells.injEq, and_true] at hg'
              obtain rfl := hg'
              refine .inr ⟨g', cap', _, rfl, hb', setRow_heap w g' cur _ e _ hg, hnc', hcm', ?_, ?_⟩
              · rw [hsize] at hfit
                rw [← hcs']
                simp only [List.size_toArray, List.length_append, List.length_take, List.length_drop, Array.length_toList]
                omega
              · have hmn := Nat.mul_le_mul_right size (hle rfl)
                rw [List.append_assoc]
                simp only []
                rw [List.take_append_of_le_length (by omega), List.take_take, Nat.min_eq_left hmn, htake']
            · exact .inr ⟨g', cap', cur', rfl, hb', (setRow_other w g g' _ hgg).trans hg', hnc', hcm', hcs', htake'⟩
      · have holds : ∀ j u, xs[j]? = some u → w.cell? ((⟨g, 0, none⟩ : Addr).add j) = some u := hown.cells (g := g) rfl
        have hr := run_append_grow (P := P) w t ty e i z ht hi hz ⟨g, 0, none⟩ n cap xs (by rw [hsize]; exact hown.1) holds ad m c news (by rw [hsize, hl]) hnews (by omega) (by omega) (growslice_fits (by omega) hbytes)
        have hgr := grown cap (by omega) (Value.ownBlock (.slice (some ⟨g, 0, none⟩) n cap))
        have hgn := grown cap (by omega) none
        exact ⟨_, _, hr, hgr.1, hgr.2, fun _ u _ _ h _ => h.kept hgn.2 (by cases hu : u.ownBlock <;> simp), .inr rfl, by simp⟩


end Go.Proofs.YtomgnailgddchaaDoor

namespace Go.Proofs.YtomgnailgddchaaDoor
open Go.RowKit Go.Sort

theorem made_row (w : World) (n : Nat) : ByteRow (w.alloc (.cells (madeCells #[.int .u8 0] n) 5)) 5 w.heap.size (List.replicate n 0) := by
  refine (heap_alloc_new w _).trans ?_
  congr 2
  apply Array.ext'
  simp [madeCells, u8s, Nat.mod_one, List.map_const']
theorem IsBytes.source {w : World} {a : Option Addr} {c : Nat} {l : List UInt8} (h : IsBytes w a c l) (hn : 0 < l.length) : ∃ ad, a = some ad ∧ ∀ j v, (u8s l)[j]? = some v → w.cell? (ad.add j) = some v := by
  rcases h.2.2 with h0 | ⟨b, o, ha, _, hc⟩
  · rw [h0] at hn; cases hn
  · refine ⟨_, ha, fun j v hv => ?_⟩
    rw [u8s_get] at hv
    cases hx : l[j]? with
    | none => rw [hx] at hv; cases hv
    | some x =>
      rw [hx] at hv
      have := hc j x hx
      simp only [Option.map_some, Option.some.injEq] at hv
      rw [← hv]
      cases j with
      | zero => simpa [Addr.add] using this
      | succ j => simpa [Addr.add] using this
set_option maxHeartbeats 1000000 in
set_option maxRecDepth 1000000 in
theorem copyOf_any (a : Option Addr) (c : Nat) (l : List UInt8) (w : World) (hl : IsBytes w a c l) (hb : l.length ≤ 140737488355000) :
    Calls Tryd.prog 34 #[.slice a l.length c] w fun e w' => ∃ a' c', e = .returned (.slice a' l.length c') ∧ Own w' w.heap.size (.slice a' l.length c') l ∧ Below w.heap.size w w' := by
  obtain ⟨i8, hi, hz0, hz1, hz2⟩ := info_parts info_u8
  have HL := hide hl
  clear hl
  obtain ⟨n, hn⟩ : ∃ n, l.length = n := ⟨_, rfl⟩
  rw [hn] at hb ⊢
  have HN := hide hn
  clear hn
  by_cases h0 : n = 0
  · subst h0
    have hnil : l = [] := List.length_eq_zero_iff.1 HN.out
    have HNIL := hide hnil
    clear hnil
    go_enter Tryd.func34, Tryd.ntmps34
    go_wp2_with fail
    go_ret
    refine ⟨none, 0, rfl, ?_, Below.refl _ _⟩
    rw [HNIL.out]
    exact Own.nil w _
  · have h1 : ((n : Int) == 0) = false := by rw [beq_eq_false_iff_ne]; omega
    go_enter Tryd.func34, Tryd.ntmps34
    go_wp2_with (first
      | (refine wpList_make_row _ rfl (.tmp 8) (.tmp 8) 34 rfl 5 i8 (.int .u8 0) Tryd.underlying34 hi hz0 hz1 rfl .i64 .i64 n rfl rfl (by rw [hz2]; omega) (by omega) ?_)
      | (refine wpList_copy_splice rfl (.tmp 10) (.tmp 11) 34 34 rfl 5 Tryd.underlying34 (by kernel_rfl) _ _ _ _ _ _ rfl rfl w.heap.size 0 _ 5 (made_row w n) (u8s l) (by rw [u8s_length, HN.out]; simp [Nat.min_def]) (fun _ => ⟨rfl, (HL.out.below ((Below.refl _ w).alloc (Nat.le_refl _) _)).source (by rw [HN.out]; have := ‹0 < (u8s l).length›; rw [u8s_length, HN.out] at this; exact this)⟩) (by rw [u8s_length, u8s_length, HN.out]; simp) (u8s_one l) w.heap.size w ((Below.refl _ w).alloc (Nat.le_refl _) _) (Nat.le_refl _) ?_; intro w1 HG1 HB1))
    go_ret
    refine ⟨_, _, rfl, ?_, HB1⟩
    have e : splice (List.replicate n (0 : UInt8)) 0 l = l := by
      unfold splice
      simp [HN.out]
    have hg : w1.heap[w.heap.size]? = some (.cells (u8s l).toArray 5 (0, 0)) := by
      rw [HG1.out, u8s_splice, e]
    refine ⟨by rw [u8s_length]; omega, .inr ⟨w.heap.size, n, _, by rw [HN.out], Nat.le_refl _, hg, by rw [HN.out]; exact Nat.le_refl _, by unfold maxLen; omega, ?_, ?_⟩⟩
    · simp [u8s, HN.out]
    · rw [List.take_of_length_le (by simp [u8s, HN.out])]
end Go.Proofs.YtomgnailgddchaaDoor
