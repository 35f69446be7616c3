/-
  A heap of things that rise, and what HeapStays does to it.
-/
import Derived.Test.YtdjjjjlgdhbemaaOrderT
import Derived.Test.YtdjjjjlgdhbemaaPopsCT
import Derived.Test.YtdjjjjlgdhbemaaChangeT
import Derived.Test.YtdjjjjlgdhbemaaSmallCT
import Derived.Test.YtdjjjjlgdhbemaaShown
import Derived.Laws.StructEq
namespace Go.Proofs.Ytdjjjjlgdhbemaa
open Go.RowKit

/-- A heap that was made here. -/
structure Way (w0 w : World) (hb mb : Nat) (v : Value) (last : Int) (R : List RowI) : Prop where
  h : HeapAtT w hb v mb 24 #[] last R
  base : ∀ k, Mine hb v mb k → w0.heap.size ≤ k
  bel : Below w0.heap.size w0 w
  le : ∀ r ∈ R, r.1 ≤ last
theorem Way.below {w0 w w' : World} {hb mb : Nat} {v : Value} {last : Int} {R : List RowI} (h : Way w0 w hb mb v last R) (hb' : Below w.heap.size w w') : Way w0 w' hb mb v last R :=
  ⟨h.h.kept (Kept.ofBelow (P := fun _ => False) hb') (fun _ _ h => h), h.base, h.bel.trans (hb'.mono h.bel.size), h.le⟩
theorem Way.notInt {w0 w : World} {hb mb : Nat} {v : Value} {last : Int} {R : List RowI} (h : Way w0 w hb mb v last R) {B : Nat} {u : Value} {l : List Int} (hu : Nums w B u l) {g : Nat} (hg : u.ownBlock = some g) : ¬ Mine hb v mb g := by
  obtain ⟨cur, hc, _⟩ := hu.block hg
  rintro (rfl | e | rfl)
  · rw [h.h.box] at hc; simp at hc
  · rcases h.h.row.2 with ⟨rfl, _⟩ | ⟨rb, cap, cur', rfl, _, hc', _⟩
    · cases e
    · cases e; rw [hc'] at hc; simp at hc
  · obtain ⟨gg, ht, _⟩ := h.h.tab
    obtain ⟨es, clock, hm⟩ := ht.map
    rw [hm] at hc; simp at hc
theorem Way.notCells {w0 w : World} {hb mb : Nat} {v : Value} {last : Int} {R : List RowI} (h : Way w0 w hb mb v last R) {k : Nat} {c : Array Value} {t : TypeId} (hc : w.heap[k]? = some (.cells c t (0, 0))) (h1 : t ≠ 62) (h2 : t ≠ 70) : ¬ Mine hb v mb k := by
  rintro (rfl | e | rfl)
  · rw [h.h.box] at hc; simp at hc; exact h1 hc.2.symm
  · rcases h.h.row.2 with ⟨rfl, _⟩ | ⟨rb, cap, cur', rfl, _, hc', _⟩
    · cases e
    · cases e; rw [hc'] at hc; simp at hc; exact h2 hc.2.symm
  · obtain ⟨gg, ht, _⟩ := h.h.tab
    obtain ⟨es, clock, hm⟩ := ht.map
    rw [hm] at hc; simp at hc
theorem Way.nums {w0 w w' : World} {hb mb : Nat} {v : Value} {last : Int} {R : List RowI} (h : Way w0 w hb mb v last R) {B : Nat} {u : Value} {l : List Int} (hu : Nums w B u l) (hk : Kept (fun k => Mine hb v mb k ∨ False) w w') : Nums w' B u l :=
  hk.own hu (fun _ e hM => h.notInt hu e (hM.resolve_right id))
theorem Way.belowK {w0 w w' : World} {hb mb : Nat} {v : Value} {last : Int} {R : List RowI} (h : Way w0 w hb mb v last R) (hk : Kept (fun k => Mine hb v mb k ∨ False) w w') : Below w0.heap.size w0 w' :=
  h.bel.trans (hk.below h.bel.size (fun k hk hM => by have := h.base k (hM.resolve_right id); omega))

theorem pushW {w0 w : World} {hb mb : Nat} {v : Value} {last : Int} {R : List RowI} (h : Way w0 w hb mb v last R) (x : Int × Int) (hR : R.length ≤ 1073741823) (hl : 0 ≤ last ∧ last ≤ 4611686018427387904) :
    Calls Try.prog 13 #[.pointer (some ⟨hb, 0, none⟩), valT x] w fun e w' => e = .returned (.int .i64 (last + 1)) ∧ ∃ v' R', Way w0 w' hb mb v' (last + 1) R' ∧ R'.length = R.length + 1 := by
  refine (pushT rising_asks w hb mb v last R x 0 h.h trivial (fun _ _ => trivial) trivial (fun _ _ h => h) hR hl.1 hl.2 h.le).mono ?_
  rintro e w' ⟨rfl, v', h1, _, k1, m1⟩
  refine ⟨rfl, v', _, ⟨h1, fun k hk => ?_, h.belowK k1, fun r hr => ?_⟩, by rw [riseL_length, List.length_append]; rfl⟩
  · rcases m1 k hk with h2 | h2
    · exact h.base k h2
    · exact Nat.le_trans h.bel.size h2
  · rcases List.mem_append.1 ((mem_rise _ _ _ _).1 hr) with hr | hr
    · have := h.le r hr; omega
    · simp at hr; rw [hr]; exact Int.le_refl _
/-- What Remove or Change of the row n has left. -/
structure Left (R R' : List RowI) (n : Int) (last : Int) : Prop where
  others : ∀ r : RowI, r.1 ≠ n → (r ∈ R' ↔ r ∈ R)
  len : R'.length ≤ R.length
theorem removeW {w0 w : World} {hb mb : Nat} {v : Value} {last : Int} {R : List RowI} (h : Way w0 w hb mb v last R) (i : Nat) (r : RowI) (hi : R[i]? = some r) (hR : R.length ≤ 1073741823) :
    Calls Try.prog 17 #[.pointer (some ⟨hb, 0, none⟩), .int .i64 r.1] w fun e w' => e = .returned (.tuple #[valT r.2, .bool true]) ∧ ∃ v' R', Way w0 w' hb mb v' last R' ∧ Left R R' r.1 last ∧ R'.find? (fun q => q.1 = r.1) = none ∧ Kept (fun k => Mine hb v mb k ∨ False) w w' := by
  refine (removeT rising_asks w hb mb v last R i 0 r h.h hi trivial (fun _ _ => trivial) (fun _ _ h => h) (by omega)).mono ?_
  rintro e w' ⟨rfl, v', h1, _, k1, m1⟩
  have hm := fun x : RowI => mem_drop (lt := upB) (n := 0) (x := x) h.h.once hi
  refine ⟨rfl, v', _, ⟨h1, fun k hk => h.base k ?_, h.belowK k1, fun q hq => h.le q ((hm q).1 hq).1⟩, ⟨fun q hq => ?_, by rw [drop_length]; omega⟩, ?_, k1⟩
  · rcases hk with hk | hk | hk
    · exact .inl hk
    · exact .inr (.inl (m1 ▸ hk))
    · exact .inr (.inr hk)
  · rw [hm q]
    exact ⟨fun h => h.1, fun h => ⟨h, hq⟩⟩
  · rw [List.find?_eq_none]
    intro q hq
    have := ((hm q).1 hq).2
    simpa using this
theorem changeW {w0 w : World} {hb mb : Nat} {v : Value} {last : Int} {R : List RowI} (h : Way w0 w hb mb v last R) (i : Nat) (r : RowI) (x : Int × Int) (hi : R[i]? = some r) (hR : R.length ≤ 1073741823) :
    Calls Try.prog 18 #[.pointer (some ⟨hb, 0, none⟩), .int .i64 r.1, valT x] w fun e w' => e = .returned (.bool true) ∧ ∃ R', Way w0 w' hb mb v last R' ∧ Left R R' r.1 last ∧ R'.find? (fun q => q.1 = r.1) = some (r.1, x) ∧ Kept (fun k => Mine hb v mb k ∨ False) w w' := by
  refine (changeT rising_asks w hb mb v last R i 0 r x h.h hi trivial (fun _ _ => trivial) trivial (fun _ _ h => h) (by omega)).mono ?_
  rintro e w' ⟨rfl, h1, _, k1⟩
  have hil := (List.getElem?_eq_some_iff.1 hi).1
  have hm : ∀ q : RowI, q ∈ (changeL upB R i (r.1, x) 0).1 ↔ q ∈ R.set i (r.1, x) := fun q => by
    unfold changeL
    exact mem_settle
  have ho := h1.once
  have hin : (r.1, x) ∈ (changeL upB R i (r.1, x) 0).1 := (hm _).2 (List.mem_iff_getElem?.2 ⟨i, by simp [hil]⟩)
  have hot : ∀ q : RowI, q.1 ≠ r.1 → (q ∈ R.set i (r.1, x) ↔ q ∈ R) := fun q hq => by
    constructor
    · intro hx
      obtain ⟨j, hj⟩ := List.mem_iff_getElem?.1 hx
      by_cases e : i = j
      · subst e
        rw [List.getElem?_set_self hil] at hj
        cases hj
        exact absurd rfl hq
      · rw [List.getElem?_set_ne e] at hj
        exact List.mem_of_getElem? hj
    · intro hx
      obtain ⟨j, hj⟩ := List.mem_iff_getElem?.1 hx
      have e : i ≠ j := fun e => by subst e; rw [hi] at hj; cases hj; exact hq rfl
      exact List.mem_iff_getElem?.2 ⟨j, by rw [List.getElem?_set_ne e]; exact hj⟩
  refine ⟨rfl, _, ⟨h1, h.base, h.belowK k1, fun q hq => ?_⟩, ⟨fun q hq => by rw [hm q, hot q hq], ?_⟩, ?_, k1⟩
  · by_cases e : q.1 = r.1
    · rw [e]; exact h.le r (List.mem_of_getElem? hi)
    · exact h.le q ((hot q e).1 ((hm q).1 hq))
  · unfold changeL
    rw [settle_length]
    simp
  · cases hf : (changeL upB R i (r.1, x) 0).1.find? (fun q => q.1 = r.1) with
    | none =>
      have := List.find?_eq_none.1 hf _ hin
      simp at this
    | some q =>
      have h2 := List.find?_some hf
      have h3 := ho.same (List.mem_of_find?_eq_some hf) hin (by simpa using h2)
      rw [h3]
theorem neq_thing (w : World) (a b : Int) : (binOp .neq 27 (.agg #[.int .i64 a, .int .i64 b]) (.agg #[.int .i64 a, .int .i64 b])).run Try.prog w = .ok (.bool false) w := by
  have u3 := Try.underlying3
  have a3 := Try.isAgg3
  have z3 := Try.sizeOf3
  have hS : Try.prog.underlying 27 = some (.struct (Try.prog.fieldsOf 27)) := by kernel_rfl
  have hp : Try.prog.stoodInHeld 27 = false := by kernel_rfl
  rw [run_neq_struct, show (10000 : Nat) = 9999 + 1 from rfl, run_equalIn_agg w 9999 27 _ _ hS hp]
  simp only [Program.fieldsOf, Try.underlying27]
  go_simp
end Go.Proofs.Ytdjjjjlgdhbemaa
