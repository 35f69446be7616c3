/-
  A record and its numbers as values; small walks: within, onlyIf, bounds, CheckConfig, fieldsOf.
-/
import Derived.Test.YtjnjaojafimfeaaKit
import Derived.Test.YtjnjaojafimfeaaPlainRec
import Derived.Laws.Rows
import Derived.Deep.WholeRow
import Derived.Deep.MidRow
import Derived.ChangeKeysEq
import Derived.Laws.StructEq
namespace Go.Proofs.Ytjnjaojafimfeaa
open Go.RowKit

/-- The sixteen numbers in cells. -/
def numsA (n : Nat → Int) : Array Value := #[.int .i64 (n 0), .int .i64 (n 1), .int .i64 (n 2), .int .i64 (n 3), .int .i64 (n 4), .int .i64 (n 5), .int .i64 (n 6), .int .i64 (n 7), .int .i64 (n 8), .int .i64 (n 9), .int .i64 (n 10), .int .i64 (n 11), .int .i64 (n 12), .int .i64 (n 13), .int .i64 (n 14), .int .i64 (n 15)]
/-- A record in cells. -/
def recA (r : Rec) (b : Value) : Array Value := #[.int .i64 r.kind, .int .i64 (r.num 0), .int .i64 (r.num 1), .int .i64 (r.num 2), .int .i64 (r.num 3), .int .i64 (r.num 4), .int .i64 (r.num 5), .int .i64 (r.num 6), .int .i64 (r.num 7), .int .i64 (r.num 8), .int .i64 (r.num 9), .int .i64 (r.num 10), .int .i64 (r.num 11), .int .i64 (r.num 12), .int .i64 (r.num 13), .int .i64 (r.num 14), .int .i64 (r.num 15), .string ⟨r.tube.toArray⟩, b]
theorem numsA_list (n : Nat → Int) : numsA n = ((List.range 16).map fun f => Value.int .i64 (n f)).toArray := rfl
theorem numsA_size (n : Nat → Int) : (numsA n).size = 16 := rfl
theorem recA_size (r : Rec) (b : Value) : (recA r b).size = 19 := rfl
theorem numsA_get (n : Nat → Int) (f : Nat) (h : f < 16) : (numsA n)[f]? = some (.int .i64 (n f)) := by
  rw [numsA_list]
  simp [h]
theorem numsA_set (n : Nat → Int) (f : Nat) (x : Int) : (numsA n).setIfInBounds f (.int .i64 x) = numsA (upd n f x) := by
  apply Array.ext_getElem?
  intro g
  rw [Array.getElem?_setIfInBounds]
  by_cases hg : g < 16
  · rw [numsA_get n g hg, numsA_get (upd n f x) g hg]
    by_cases hfg : f = g
    · subst hfg
      simp [numsA_size, hg, upd]
    · have : ¬ g = f := fun e => hfg e.symm
      rw [if_neg hfg]
      simp [upd, this]
  · have h1 : (numsA n)[g]? = none := by simp [numsA_size]; omega
    have h2 : (numsA (upd n f x))[g]? = none := by simp [numsA_size]; omega
    rw [h1, h2]
    split
    · rw [if_neg (by rw [numsA_size]; omega)]
    · rfl
theorem numsA_congr {n m : Nat → Int} (h : ∀ f, f < 16 → n f = m f) : numsA n = numsA m := by
  unfold numsA
  rw [h 0 (by decide), h 1 (by decide), h 2 (by decide), h 3 (by decide), h 4 (by decide), h 5 (by decide), h 6 (by decide), h 7 (by decide), h 8 (by decide), h 9 (by decide), h 10 (by decide), h 11 (by decide), h 12 (by decide), h 13 (by decide), h 14 (by decide), h 15 (by decide)]
theorem info_nums : (Try.prog.info? 53).map (·.size) = some 16 := by kernel_rfl
theorem info_rec : (Try.prog.info? 34).map (·.size) = some 19 := by kernel_rfl

/-! ### Two arrays compared -/

theorem info_int : (Try.prog.info? 3).map (fun i => (i.zero, i.size, i.bytes)) = some (some (.int .i64 0), 1, 8) := by kernel_rfl
theorem cells_int : Try.prog.cellsOf 3 = 1 := by kernel_rfl
theorem part0 (n : Nat → Int) (w : World) : (part 3 (numsA n) 0).run Try.prog w = .ok (.int .i64 (n 0)) w := by kernel_rfl
theorem part1 (n : Nat → Int) (w : World) : (part 3 (numsA n) 1).run Try.prog w = .ok (.int .i64 (n 1)) w := by kernel_rfl
theorem part2 (n : Nat → Int) (w : World) : (part 3 (numsA n) 2).run Try.prog w = .ok (.int .i64 (n 2)) w := by kernel_rfl
theorem part3 (n : Nat → Int) (w : World) : (part 3 (numsA n) 3).run Try.prog w = .ok (.int .i64 (n 3)) w := by kernel_rfl
theorem part4 (n : Nat → Int) (w : World) : (part 3 (numsA n) 4).run Try.prog w = .ok (.int .i64 (n 4)) w := by kernel_rfl
theorem part5 (n : Nat → Int) (w : World) : (part 3 (numsA n) 5).run Try.prog w = .ok (.int .i64 (n 5)) w := by kernel_rfl
theorem part6 (n : Nat → Int) (w : World) : (part 3 (numsA n) 6).run Try.prog w = .ok (.int .i64 (n 6)) w := by kernel_rfl
theorem part7 (n : Nat → Int) (w : World) : (part 3 (numsA n) 7).run Try.prog w = .ok (.int .i64 (n 7)) w := by kernel_rfl
theorem part8 (n : Nat → Int) (w : World) : (part 3 (numsA n) 8).run Try.prog w = .ok (.int .i64 (n 8)) w := by kernel_rfl
theorem part9 (n : Nat → Int) (w : World) : (part 3 (numsA n) 9).run Try.prog w = .ok (.int .i64 (n 9)) w := by kernel_rfl
theorem part10 (n : Nat → Int) (w : World) : (part 3 (numsA n) 10).run Try.prog w = .ok (.int .i64 (n 10)) w := by kernel_rfl
theorem part11 (n : Nat → Int) (w : World) : (part 3 (numsA n) 11).run Try.prog w = .ok (.int .i64 (n 11)) w := by kernel_rfl
theorem part12 (n : Nat → Int) (w : World) : (part 3 (numsA n) 12).run Try.prog w = .ok (.int .i64 (n 12)) w := by kernel_rfl
theorem part13 (n : Nat → Int) (w : World) : (part 3 (numsA n) 13).run Try.prog w = .ok (.int .i64 (n 13)) w := by kernel_rfl
theorem part14 (n : Nat → Int) (w : World) : (part 3 (numsA n) 14).run Try.prog w = .ok (.int .i64 (n 14)) w := by kernel_rfl
theorem part15 (n : Nat → Int) (w : World) : (part 3 (numsA n) 15).run Try.prog w = .ok (.int .i64 (n 15)) w := by kernel_rfl
theorem part_int (n : Nat → Int) (f : Nat) (hf : f < 16) (w : World) : (part 3 (numsA n) f).run Try.prog w = .ok (.int .i64 (n f)) w := by
  have h : f = 0 ∨ f = 1 ∨ f = 2 ∨ f = 3 ∨ f = 4 ∨ f = 5 ∨ f = 6 ∨ f = 7 ∨ f = 8 ∨ f = 9 ∨ f = 10 ∨ f = 11 ∨ f = 12 ∨ f = 13 ∨ f = 14 ∨ f = 15 := by omega
  rcases h with rfl | rfl | rfl | rfl | rfl | rfl | rfl | rfl | rfl | rfl | rfl | rfl | rfl | rfl | rfl | rfl
  · exact part0 n w
  · exact part1 n w
  · exact part2 n w
  · exact part3 n w
  · exact part4 n w
  · exact part5 n w
  · exact part6 n w
  · exact part7 n w
  · exact part8 n w
  · exact part9 n w
  · exact part10 n w
  · exact part11 n w
  · exact part12 n w
  · exact part13 n w
  · exact part14 n w
  · exact part15 n w
theorem items_nums (n m : Nat → Int) (w : World) : ∀ (is : List Nat), (∀ f, f ∈ is → f < 16) → (Op.eqItems 9999 3 1 (numsA n) (numsA m) is).run Try.prog w = .ok (is.all fun f => n f == m f) w
  | [], _ => by simp [Op.eqItems]
  | f :: is, h => by
    have ih := items_nums n m w is (fun g hg => h g (by simp [hg]))
    have hf := h f (by simp)
    have e : (Op.equalIn 9999 3 (.int .i64 (n f)) (.int .i64 (m f))).run Try.prog w = .ok (n f == m f) w := run_equalIn_int (P := Try.prog) w 9998 3 .i64 .i64 (n f) (m f) Try.underlying3
    simp only [Op.eqItems, Nat.mul_one, Sem.run_bind, part_int n f hf w, part_int m f hf w, Result.andThen_ok, e, List.all_cons]
    by_cases hq : n f = m f
    · simp [hq, ih]
    · simp [hq]
theorem neq_nums (n m : Nat → Int) (w : World) : (binOp .neq 53 (.agg (numsA n)) (.agg (numsA m))).run Try.prog w = .ok (.bool (!(List.range 16).all fun f => n f == m f)) w := by
  obtain ⟨i, hi, _⟩ := info_parts info_int
  rw [run_neq_struct, run_equalIn_array w 9999 (numsA n) (numsA m) Try.underlying53 hi, cells_int, items_nums n m w _ (fun f hf => by simpa using hf)]
  rfl
theorem equal_zero (n : Nat → Int) (w : World) : (Op.equalIn 10000 53 (.agg (numsA n)) (.agg #[.int .i64 0, .int .i64 0, .int .i64 0, .int .i64 0, .int .i64 0, .int .i64 0, .int .i64 0, .int .i64 0, .int .i64 0, .int .i64 0, .int .i64 0, .int .i64 0, .int .i64 0, .int .i64 0, .int .i64 0, .int .i64 0])).run Try.prog w = .ok (zeroB n) w := by
  obtain ⟨i, hi, _⟩ := info_parts info_int
  have := run_equalIn_array (P := Try.prog) w 9999 (numsA n) (numsA fun _ => 0) Try.underlying53 hi
  rw [cells_int, items_nums n (fun _ => 0) w _ (fun f hf => by simpa using hf)] at this
  exact this
end Go.Proofs.Ytjnjaojafimfeaa
