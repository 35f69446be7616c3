/-
  What a crash leaves.
-/
import Derived.Test.YtnpofjeiamjioaaRefusesKit
namespace Go.Proofs.Ytnpofjeiamjioaa
open Go.RowKit Go.Maps

theorem crash_length (keep : List Int) (L : List Fl) : (crash keep L).length = L.length := part_length _ _ _
theorem crash_get (keep : List Int) (L : List Fl) (i : Nat) (f : Fl) (hf : L[i]? = some f) : (crash keep L)[i]? = some (crashed f (keep.getD i 0)) := by
  rw [crash, part_get, hf]
  have := (List.getElem?_eq_some_iff.1 hf).1
  simp [this]
/-- A file all of which is safe is left as it is. -/
theorem crashed_safe {f : Fl} (h : f.safe = f.data.length) (x : Int) : crashed f x = f := by
  have hk : kept f x = 0 := by
    unfold kept
    rw [h]
    simp
  unfold crashed
  rw [hk, Nat.add_zero, h, List.take_length, ← h]
theorem crash_safe (keep : List Int) (L : List Fl) (h : ∀ f ∈ L, f.safe = f.data.length) : crash keep L = L := by
  apply List.ext_getElem?
  intro i
  cases hf : L[i]? with
  | none => rw [crash, part_get, hf]; rfl
  | some f => rw [crash_get keep L i f hf, crashed_safe (h f (List.mem_of_getElem? hf))]
theorem crash_all_safe {q : Int} {L : List Fl} (hR : Right q L) (keep : List Int) : ∀ f ∈ crash keep L, f.safe = f.data.length := by
  intro g hg
  obtain ⟨i, hi⟩ := List.mem_iff_getElem?.1 hg
  cases hf : L[i]? with
  | none =>
    rw [crash, part_get, hf] at hi
    cases hi
  | some f =>
    rw [crash_get keep L i f hf] at hi
    obtain rfl := Option.some.inj hi
    exact (crashed_ok (hR.ok f (List.mem_of_getElem? hf)).1 _).1.symm
/-- A file and what a crash left of it. -/
theorem crash_two {q : Int} {L : List Fl} (hR : Right q L) (keep : List Int) {i : Nat} {f g : Fl} (hf : L[i]? = some f) (hg : (crash keep L)[i]? = some g) :
    g.num = f.num ∧ g.safe = g.data.length ∧ f.data.take g.data.length = g.data ∧ g.data.take f.safe = f.data.take f.safe ∧ f.safe ≤ g.data.length ∧ f.safe ≤ f.data.length := by
  have hs := (hR.ok f (List.mem_of_getElem? hf)).1
  rw [crash_get keep L i f hf] at hg
  obtain rfl := Option.some.inj hg
  have h1 := crashed_ok hs (keep.getD i 0)
  have hk := kept_le f (keep.getD i 0) hs
  refine ⟨rfl, h1.1.symm, ?_, ?_, ?_, hs⟩
  · rw [h1.1]
    rfl
  · simp only [crashed]
    rw [List.take_take, Nat.min_eq_left (by omega)]
  · rw [h1.1]
    simp only [crashed]
    omega
theorem total_take (L : List Fl) (k : Nat) (f : Fl) (h : L[k]? = some f) : total (L.take (k + 1)) = total (L.take k) + f.data.length := by
  unfold total
  rw [List.take_add_one, h]
  simp
theorem total_take_le (L : List Fl) (k : Nat) : total (L.take k) ≤ total L := by
  have h : total L = total (L.take k) + total (L.drop k) := by unfold total; rw [← List.sum_append, ← List.map_append, List.take_append_drop]
  omega
/-- A list of files, read at a place. -/
theorem listGet {w : World} {lo : Nat} {a : Option Addr} {n c : Nat} {P : List (Fl × Nat)} (h : ListAt w lo (.slice a n c) P) {i : Nat} {f : Fl} (hf : (P.map (·.1))[i]? = some f) :
    ∃ b g, a = some ⟨b, 0, none⟩ ∧ n ≤ c ∧ c ≤ maxLen ∧ w.cell? ⟨b, i * 3, none⟩ = some (.int .i64 f.num) ∧ w.cell? ⟨b, i * 3 + 1, none⟩ = some (.slice (some ⟨g, 0, none⟩) f.data.length f.data.length) ∧ w.cell? ⟨b, i * 3 + 2, none⟩ = some (.int .i64 (f.safe : Int)) ∧ ByteRow w 5 g f.data := by
  rw [List.getElem?_map] at hf
  obtain ⟨⟨f', g⟩, hp, rfl⟩ := Option.map_eq_some_iff.1 hf
  obtain ⟨a', c', hv, h1, h2, hcell⟩ := h.cells
  simp only [Value.slice.injEq] at hv
  obtain ⟨rfl, rfl, rfl⟩ := hv
  obtain ⟨b, hb, _, k0, k1, k2, hr⟩ := hcell i _ hp
  exact ⟨b, g, hb, h2, h1, k0, k1, k2, hr⟩
end Go.Proofs.Ytnpofjeiamjioaa
