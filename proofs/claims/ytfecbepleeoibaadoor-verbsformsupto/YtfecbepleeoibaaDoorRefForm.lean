/-
  The walks of the document's forms, Form, has, between.
-/
import Derived.Test.YtfecbepleeoibaaDoorRefName
namespace Go.Proofs.YtfecbepleeoibaaDoor
open Go.RowKit Go.Lib

/-- A field's letter. -/
def letterOf (f : Nat) : UInt8 := ([0, 105, 112, 100, 114, 110, 116] : List UInt8).getD f 0
def formL (k : Nat) : List UInt8 := (formOf k).map letterOf
theorem has_letter : ∀ k, k < 26 → ∀ f, f < 7 → (formL k).contains (letterOf f) = (formOf k).contains f := by decide
def formsA : Array Value := ((List.range 26).map fun k => Value.string ⟨(formL k).toArray⟩).toArray
theorem formsA_at (k : Nat) (hk : k < 26) : formsA[k]? = some (.string ⟨(formL k).toArray⟩) := by
  simp [formsA, hk]
set_option maxHeartbeats 1000000 in
set_option maxRecDepth 1000000 in
theorem refForms_any (w : World) :
    Calls Tryd.prog 47 #[] w fun e w' => e = .returned (.slice (some ⟨w.heap.size, 0, none⟩) 26 26) ∧ w' = w.alloc (.cells formsA 9) := by
  go_enter Tryd.func47, Tryd.ntmps47
  go_wp2_with fail
  go_ret
  exact ⟨rfl, by kernel_rfl⟩
theorem refForms_use (w : World) : Calls Tryd.prog 47 #[] w fun e w' => e = .returned (.slice (some ⟨w.heap.size, 0, none⟩) 26 26) ∧ Below w.heap.size w w' ∧ ∀ k, k < 26 → w'.cell? ⟨w.heap.size, k, none⟩ = some (.string ⟨(formL k).toArray⟩) :=
  (refForms_any w).mono fun _ _ ⟨he, hw⟩ => ⟨he, hw ▸ (Below.refl _ w).alloc (Nat.le_refl _) _, fun k hk => hw ▸ cells_at (heap_alloc_new _ _) (formsA_at k hk)⟩
set_option maxHeartbeats 1000000 in
set_option maxRecDepth 1000000 in
theorem refForm_any (k : Nat) (hk : k < 26) (w : World) :
    Calls Tryd.prog 29 #[.int .i64 k] w fun e w' => e = .returned (.string ⟨(formL k).toArray⟩) ∧ Below w.heap.size w w' := by
  have i1 : (0 : Int) ≤ (k : Int) := by omega
  have i2 : (k : Int) < 26 := by omega
  go_enter Tryd.func29, Tryd.ntmps29
  go_wp2_with (go_at_call 47; refine (refForms_use _).mono ?_; rintro e w1 ⟨rfl, B1, C1⟩; have hc := C1 k (by omega); have HB1 := hide B1; clear B1 C1)
  go_ret
  exact ⟨rfl, HB1.out⟩
theorem refForm_int (kind : Int) (k : Nat) (hkk : kind = k) (hk : k < 26) (w : World) :
    Calls Tryd.prog 29 #[.int .i64 kind] w fun e w' => e = .returned (.string ⟨(formL k).toArray⟩) ∧ Below w.heap.size w w' := by
  subst hkk
  exact refForm_any k hk w

theorem has_step (l : List UInt8) (x : UInt8) (j : Nat) (hj : j < (⟨l.toArray⟩ : ByteArray).size) (hn : ¬ (⟨l.toArray⟩ : ByteArray)[j].toNat = x.toNat) (h : (l.take j).contains x = false) : (l.take (j + 1)).contains x = false := by
  have hl : j < l.length := hj
  have he : ¬ x = l[j] := fun e => hn (by rw [e]; rfl)
  rw [List.take_succ_eq_append_getElem hl]
  simp only [List.contains_eq_mem, List.mem_append, List.mem_singleton, decide_eq_false_iff_not] at h ⊢
  exact fun hh => hh.elim h he
theorem has_here (l : List UInt8) (x : UInt8) (j : Nat) (hj : j < (⟨l.toArray⟩ : ByteArray).size) (hn : (⟨l.toArray⟩ : ByteArray)[j].toNat = x.toNat) : l.contains x = true := by
  have hl : j < l.length := hj
  have he : l[j] = x := UInt8.toNat_inj.1 hn
  simp only [List.contains_eq_mem, decide_eq_true_eq]
  rw [← he]
  exact List.getElem_mem hl
set_option maxHeartbeats 1000000 in
set_option maxRecDepth 1000000 in
theorem has_any (k : Nat) (hk : k < 26) (x : UInt8) (w : World) :
    Calls Tryd.prog 54 #[.int .i64 k, .int .u8 x.toNat] w fun e w' => e = .returned (.bool ((formL k).contains x)) ∧ Below w.heap.size w w' := by
  obtain ⟨l, hl⟩ : ∃ l, formL k = l := ⟨_, rfl⟩
  have hF := fun w => refForm_any k hk w
  rw [hl] at hF
  have HF := hide hF
  have hll : l.length ≤ 4 := by rw [← hl]; unfold formL; rw [List.length_map]; exact form_len k hk
  rw [hl]
  clear hl hF
  obtain ⟨s, hs⟩ : ∃ s : ByteArray, s = ⟨l.toArray⟩ := ⟨_, rfl⟩
  rw [← hs] at HF
  have hsz : s.size ≤ 4 := by rw [hs]; exact hll
  have HSL := hide hs
  clear hs
  go_enter Tryd.func54, Tryd.ntmps54
  go_wp2_with (go_at_call 29; refine (HF.out _).mono ?_; rintro e w1 ⟨rfl, B1⟩; have HB1 := hide B1; clear B1)
  go_loopg [6] s.size (fun gk i wr => ∃ j : Nat, i = .int .i64 j ∧ j ≤ s.size ∧ s.size - j ≤ gk ∧ wr = w1 ∧ Hid ((l.take j).contains x = false))
  case atStart => exact ⟨0, rfl, by omega, by omega, rfl, (by simp : (l.take 0).contains x = false)⟩
  case round =>
    obtain ⟨j, rfl, hj, hgk, hwr, HA⟩ := hrel
    subst hwr
    by_cases hp : j < s.size
    · by_cases hx : s[j].toNat = x.toNat
      · have HX := hide hx
        have hxb : ((s[j].toNat : Int) == (x.toNat : Int)) = true := by rw [hx]; simp
        clear hx
        go_wp2_with fail
        go_ret
        refine ⟨?_, HB1.out⟩
        have := HSL.out
        subst this
        rw [has_here l x j hp HX.out]
        rfl
      · have HX := hide hx
        have hxb : ((s[j].toNat : Int) == (x.toNat : Int)) = false := by rw [beq_eq_false_iff_ne]; omega
        clear hx
        go_wp2_with fail
        go_roundg (s.size - (j + 1))
        case measure => omega
        case rel =>
          refine ⟨j + 1, by go_num, by omega, Nat.le_refl _, rfl, ?_⟩
          have := HSL.out
          subst this
          exact has_step l x j hp HX.out HA.out
    · go_wp2_with fail
      go_ret
      refine ⟨?_, HB1.out⟩
      have h := HA.out
      have := HSL.out
      rw [List.take_of_length_le (by have : s.size = l.length := by rw [this]; rfl
                                     omega)] at h
      rw [h]
      rfl

/-- May a number stand in a field? -/
def betweenB (k : Nat) (x : UInt8) (n least most : Int) : Bool := if (formL k).contains x then decide (least ≤ n) && decide (n ≤ most) else n == 0
set_option maxHeartbeats 1000000 in
set_option maxRecDepth 1000000 in
theorem between_any (k : Nat) (hk : k < 26) (x : UInt8) (n least most : Int) (w : World) :
    Calls Tryd.prog 53 #[.int .i64 k, .int .u8 x.toNat, .int .i64 n, .int .i64 least, .int .i64 most] w fun e w' => e = .returned (.bool (betweenB k x n least most)) ∧ Below w.heap.size w w' := by
  have hH := fun w => has_any k hk x w
  obtain ⟨b, hb⟩ : ∃ b, betweenB k x n least most = b := ⟨_, rfl⟩
  rw [hb]
  unfold betweenB at hb
  have HB := hide hb
  clear hb
  cases hc : (formL k).contains x
  · rw [hc] at hH HB
    have HH := hide hH
    clear hH hc
    go_enter Tryd.func53, Tryd.ntmps53
    go_wp2_with (go_at_call 54; refine (HH.out _).mono ?_; rintro e w1 ⟨rfl, B1⟩; have HB1 := hide B1; clear B1)
    go_ret
    exact ⟨by rw [← HB.out]; rfl, HB1.out⟩
  · rw [hc] at hH HB
    have HH := hide hH
    clear hH hc
    go_enter Tryd.func53, Tryd.ntmps53
    go_wp2_with (go_at_call 54; refine (HH.out _).mono ?_; rintro e w1 ⟨rfl, B1⟩; have HB1 := hide B1; clear B1)
    all_goals go_ret
    all_goals refine ⟨?_, HB1.out⟩
    all_goals rw [← HB.out, if_pos trivial]
    all_goals rename_i h
    · rw [decide_eq_true (show least ≤ n by omega)]
      rfl
    · rw [decide_eq_false (show ¬ least ≤ n by omega)]
      rfl
end Go.Proofs.YtfecbepleeoibaaDoor
