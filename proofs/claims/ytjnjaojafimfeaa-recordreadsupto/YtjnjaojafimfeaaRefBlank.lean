/-
  The document's blank.
-/
import Derived.Test.YtjnjaojafimfeaaRefPure
namespace Go.Proofs.Ytjnjaojafimfeaa
open Go.RowKit

theorem cpart0 (n : Nat → Int) (w : World) : (part 3 (cntA n) 0).run Try.prog w = .ok (.int .i64 (n 11)) w := by kernel_rfl
theorem cpart1 (n : Nat → Int) (w : World) : (part 3 (cntA n) 1).run Try.prog w = .ok (.int .i64 (n 12)) w := by kernel_rfl
theorem cpart2 (n : Nat → Int) (w : World) : (part 3 (cntA n) 2).run Try.prog w = .ok (.int .i64 (n 13)) w := by kernel_rfl
theorem cpart3 (n : Nat → Int) (w : World) : (part 3 (cntA n) 3).run Try.prog w = .ok (.int .i64 (n 14)) w := by kernel_rfl
theorem cpart4 (n : Nat → Int) (w : World) : (part 3 (cntA n) 4).run Try.prog w = .ok (.int .i64 (n 15)) w := by kernel_rfl
theorem cpart_int (n : Nat → Int) (f : Nat) (hf : f < 5) (w : World) : (part 3 (cntA n) f).run Try.prog w = .ok (.int .i64 (n (11 + f))) w := by
  have h : f = 0 ∨ f = 1 ∨ f = 2 ∨ f = 3 ∨ f = 4 := by omega
  rcases h with rfl | rfl | rfl | rfl | rfl
  · exact cpart0 n w
  · exact cpart1 n w
  · exact cpart2 n w
  · exact cpart3 n w
  · exact cpart4 n w
theorem cnt_fields : ((Try.prog.fieldsOf 29).toList.all fun f => f.name != "_" && (f.type == 3) && decide (f.offset < 5)) = true := by kernel_rfl
theorem cnt_under : Try.prog.underlying 29 = some (.struct (Try.prog.fieldsOf 29)) := by kernel_rfl
theorem cnt_held : Try.prog.stoodInHeld 29 = false := by kernel_rfl
theorem cnt_all (n : Nat → Int) : ((Try.prog.fieldsOf 29).toList.all fun f => n (11 + f.offset) == 0) = ((n 11 == 0) && ((n 12 == 0) && ((n 13 == 0) && ((n 14 == 0) && ((n 15 == 0) && true))))) := by kernel_rfl
theorem eq_fields (n : Nat → Int) (w : World) : ∀ fs : List Field, (fs.all fun f => f.name != "_" && (f.type == 3) && decide (f.offset < 5)) = true → (Op.eqFields 9999 (cntA n) (cntA fun _ => 0) fs).run Try.prog w = .ok (fs.all fun f => n (11 + f.offset) == 0) w
  | [], _ => by simp [Op.eqFields]
  | f :: fs, h => by
    rw [List.all_cons, Bool.and_eq_true] at h
    have ih := eq_fields n w fs h.2
    obtain ⟨⟨h1, h2⟩, h3⟩ : (f.name ≠ "_" ∧ f.type = 3) ∧ f.offset < 5 := by simpa using h.1
    have e : (Op.equalIn 9999 3 (.int .i64 (n (11 + f.offset))) (.int .i64 0)).run Try.prog w = .ok (n (11 + f.offset) == 0) w := run_equalIn_int (P := Try.prog) w 9998 3 .i64 .i64 _ _ Try.underlying3
    simp only [Op.eqFields, h1, h2, ne_eq, not_false_eq_true, if_true, Sem.run_bind, cpart_int n f.offset h3 w, cpart_int (fun _ => 0) f.offset h3 w, Result.andThen_ok, e, List.all_cons]
    by_cases hq : n (11 + f.offset) = 0
    · simp [hq, ih]
    · simp [hq]
theorem eq_cnt (n : Nat → Int) (w : World) : (Op.equalIn 10000 29 (.agg (cntA n)) (.agg (cntA fun _ => 0))).run Try.prog w = .ok (cnt0 n) w := by
  rw [run_equalIn_struct w 9999 29 _ _ cnt_under cnt_held, eq_fields n w _ cnt_fields, cnt_all]
  simp [cnt0, Bool.and_assoc]

set_option maxHeartbeats 2000000 in
set_option maxRecDepth 1000000 in
theorem blank_any (r : Rec) (a : Option Addr) (m c : Nat) (w : World) : Calls Try.prog 32 #[.agg (jobA r (.slice a m c))] w fun e w' => e = .returned (.bool (blankB r m)) ∧ Below w.heap.size w w' := by
  have CS : Hid (∀ W, Calls Try.prog 35 #[.agg #[.int .i64 0, .int .i64 0, .int .i64 0, .int .i64 (r.num 6), .int .i64 (r.num 7), .int .i64 0, .int .i64 0, .int .i64 0, .int .i64 (r.num 11), .int .i64 (r.num 12), .int .i64 (r.num 13), .int .i64 (r.num 14), .int .i64 (r.num 15), .string ⟨r.tube.toArray⟩, .slice a m c]] W fun e w' => e = .returned (.bool (shortB r m)) ∧ Below W.heap.size W w') := fun W => short_any ⟨r.kind, fun f => if f = 6 then r.num 6 else if f = 7 then r.num 7 else if f < 11 then 0 else r.num f, r.tube⟩ a m c W
  have heq := eq_cnt r.num
  unfold cntA at heq
  unfold jobA
  have B0 : Hid (∀ o, Below w.heap.size w (w.alloc o)) := fun o => (Below.refl _ w).alloc (Nat.le_refl _) _
  obtain ⟨sb, hsb⟩ : ∃ sb, sb = shortB r m := ⟨_, rfl⟩
  obtain ⟨cb, hcb⟩ : ∃ cb, cb = cnt0 r.num := ⟨_, rfl⟩
  rw [← hsb] at CS
  rw [← hcb] at heq
  have HE : Hid (blankB r m = ((r.num 3 == 0) && (r.num 4 == 0) && (r.num 5 == 0) && (r.num 8 == 0) && (r.num 9 == 0) && (r.num 10 == 0) && cb && sb)) := by show blankB r m = _; rw [hsb, hcb]; rfl
  clear hsb hcb
  go_enter Try.func32, Try.ntmps32
  go_wp2_with (first
    | (go_at_call 35
       refine (CS.out _).mono ?_
       rintro e w2 ⟨rfl, B2⟩
       have BX2 : Hid (Below w.heap.size w w2) := below_box B2
       clear B2))
  all_goals go_ret
  all_goals refine ⟨?_, by first | exact BX2.out | exact B0.out _⟩
  all_goals rw [HE.out]
  all_goals simp_all
end Go.Proofs.Ytjnjaojafimfeaa
