/-
  RPure, RNew.
-/
import Derived.Test.YtnpofjeiamjioaaRDk
namespace Go.Proofs.Ytnpofjeiamjioaa

/-- The place of a file that is there, and of one that is not. -/
theorem plP_spec : ∀ (L : List Fl) (n : Int), Rising L →
    ((plP L n).2 = true → ∃ f, look L n = some f ∧ L[(plP L n).1]? = some f) ∧ ((plP L n).2 = false → look L n = none) ∧ (plP L n).1 ≤ L.length
  | [], n, _ => ⟨fun h => by simp [plP] at h, fun _ => rfl, by simp [plP]⟩
  | x :: r, n, h => by
    obtain ⟨h1, h2, h3⟩ := plP_spec r n h.tail
    by_cases hx : n ≤ x.num
    · rw [plP, if_pos hx]
      refine ⟨fun e => ?_, fun e => ?_, by simp⟩
      · have e : x.num = n := by simpa using e
        exact ⟨x, by rw [look_cons, if_pos e], rfl⟩
      · have e : ¬ x.num = n := by simpa using e
        rw [look_cons, if_neg e]
        cases hl : look r n with
        | none => rfl
        | some f =>
          have hm := look_mem hl
          have := h.head f hm.1
          omega
    · rw [plP, if_neg hx]
      refine ⟨fun e => ?_, fun e => ?_, by simp; omega⟩
      · obtain ⟨f, a, b⟩ := h1 e
        exact ⟨f, by rw [look_cons, if_neg (by omega)]; exact a, by simpa using b⟩
      · rw [look_cons, if_neg (by omega)]
        exact h2 e
theorem ins_new : ∀ (L : List Fl) (f : Fl), Rising L → (plP L f.num).2 = false → ins L f = L.take (plP L f.num).1 ++ f :: L.drop (plP L f.num).1
  | [], f, _, _ => by simp [ins, plP]
  | x :: r, f, h, hp => by
    by_cases hx : f.num ≤ x.num
    · rw [plP, if_pos hx] at hp
      have hne : ¬ x.num = f.num := by simpa using hp
      rw [plP, if_pos hx, ins, if_pos (by omega)]
      simp
    · rw [plP, if_neg hx] at hp
      have ih := ins_new r f h.tail hp
      rw [plP, if_neg hx, ins, if_neg (by omega), if_neg (by omega), ih]
      simp
theorem ins_old : ∀ (L : List Fl) (f : Fl), Rising L → (plP L f.num).2 = true → ins L f = L.set (plP L f.num).1 f
  | [], f, _, hp => by simp [plP] at hp
  | x :: r, f, h, hp => by
    by_cases hx : f.num ≤ x.num
    · rw [plP, if_pos hx] at hp
      have he : x.num = f.num := by simpa using hp
      rw [plP, if_pos hx, ins, if_neg (by omega), if_pos he.symm]
      simp
    · rw [plP, if_neg hx] at hp
      have ih := ins_old r f h.tail hp
      rw [plP, if_neg hx, ins, if_neg (by omega), if_neg (by omega), ih]
      simp
theorem del_nobody {L : List Fl} {n : Int} (h : ∀ f ∈ L, f.num ≠ n) : del L n = L := by
  unfold del
  rw [List.filter_eq_self]
  intro f hf
  have := h f hf
  simpa using this
theorem del_old : ∀ (L : List Fl) (n : Int), Rising L → (plP L n).2 = true → del L n = L.take (plP L n).1 ++ L.drop ((plP L n).1 + 1)
  | [], n, _, hp => by simp [plP] at hp
  | x :: r, n, h, hp => by
    by_cases hx : n ≤ x.num
    · rw [plP, if_pos hx] at hp
      have he : x.num = n := by simpa using hp
      rw [plP, if_pos hx]
      have hd : del (x :: r) n = del r n := by
        unfold del
        rw [List.filter_cons, if_neg (by simp [he])]
      rw [hd, del_nobody (fun f hf e => by have := h.head f hf; omega)]
      simp
    · rw [plP, if_neg hx] at hp
      have ih := del_old r n h.tail hp
      have hd : del (x :: r) n = x :: del r n := by
        unfold del
        rw [List.filter_cons, if_pos (by simp; omega)]
      rw [plP, if_neg hx, hd, ih]
      simp
end Go.Proofs.Ytnpofjeiamjioaa

namespace Go.Proofs.Ytnpofjeiamjioaa
open Go.RowKit

theorem numbered_any11 (w : World) (n : Int) : Calls Try.prog 56 #[.int .i64 n] w fun e w' => e = .returned (.bool (decide (1 ≤ n) && decide (n ≤ 1099511627776))) ∧ w' = w := by
  by_cases h1 : 1 ≤ n
  · by_cases h2 : n ≤ 1099511627776
    · have e : (decide (1 ≤ n) && decide (n ≤ 1099511627776)) = true := by simp [h1, h2]
      rw [e]
      clear e
      go_enter Try.func56, Try.ntmps56
      go_wp2_with fail
      go_ret
      exact ⟨rfl, rfl⟩
    · have e : (decide (1 ≤ n) && decide (n ≤ 1099511627776)) = false := by simp [h2]
      rw [e]
      clear e
      go_enter Try.func56, Try.ntmps56
      go_wp2_with fail
      go_ret
      exact ⟨rfl, rfl⟩
  · have e : (decide (1 ≤ n) && decide (n ≤ 1099511627776)) = false := by simp [h1]
    rw [e]
    clear e
    go_enter Try.func56, Try.ntmps56
    go_wp2_with fail
    go_ret
    exact ⟨rfl, rfl⟩
theorem new_no11 (w : World) (q : Int) (h : q < 1024 ∨ 67108864 < q) : Calls Try.prog 8 #[.int .i64 q] w fun e w' => e = .returned (.tuple #[.pointer none, .int .i64 110]) ∧ w' = w := by
  by_cases h1 : q < 1024
  · clear h
    go_enter Try.func8, Try.ntmps8
    go_wp2_with fail
    go_ret2
    exact ⟨rfl, rfl⟩
  · have h2 : 67108864 < q := by omega
    clear h
    go_enter Try.func8, Try.ntmps8
    go_wp2_with fail
    go_ret2
    exact ⟨rfl, rfl⟩
theorem new_yes11 (w : World) (q : Int) (h1 : 1024 ≤ q) (h2 : q ≤ 67108864) : Calls Try.prog 8 #[.int .i64 q] w fun e w' => e = .returned (.tuple #[.pointer (some ⟨w.heap.size, 0, none⟩), .int .i64 0]) ∧ Below w.heap.size w w' ∧ RfAt w' (w.heap.size + 1) w.heap.size q (.slice none 0 0) [] := by
  have n1 : ¬ q < 1024 := by omega
  have n2 : ¬ 67108864 < q := by omega
  go_enter Try.func8, Try.ntmps8
  go_wp2_with fail
  go_ret2
  exact ⟨rfl, (Below.refl _ w).alloc (Nat.le_refl _) _, heap_alloc_new w _, World.ownsRow_nil _ _ _ _, fun p hp => by simp at hp⟩
end Go.Proofs.Ytnpofjeiamjioaa
