/-
  RAns1, RAns2.
-/
import Derived.Test.YtienggblpmkjjaaDoorCheckA
import Derived.Test.YtienggblpmkjjaaDoorRAnsW
import Derived.Test.YtienggblpmkjjaaDoorRefValid
import Derived.Deep.LoopGhost
import Derived.Deep.QuietTactic
import Derived.BigQuiet
import Derived.Deep.RegionWith
namespace Go.Proofs.YtienggblpmkjjaaDoor
open Go.RowKit Go.Sort

def fieldsR (k : Int) : List UInt8 := if k = 1 then [73] else if k = 2 then [84] else if k = 3 ∨ k = 12 then [73, 66] else if k = 10 ∨ k = 13 then [78] else if k = 16 then [66] else []
def mostR (k : Int) (x : UInt8) : Int := if x = 73 then 1099511627776 else if x = 66 ∧ k ≠ 16 then 65535 else 4294967295
def leastR (x : UInt8) : Int := if x = 73 then 1 else 0
def fieldV (r : Rp) (x : UInt8) : Int := if x = 73 then r.id else if x = 78 then r.num else r.body.length
theorem fields_short (k : Int) : (fieldsR k).length ≤ 2 := by
  unfold fieldsR
  repeat' split
  all_goals simp

set_option maxHeartbeats 4000000 in
set_option maxRecDepth 1000000 in
theorem refFields_any (k : Int) (w : World) : Calls Tryd.prog 40 #[.int .i64 k] w fun e w' => e = .returned (.string ⟨(fieldsR k).toArray⟩) ∧ w' = w := by
  by_cases h : k = 1 ∨ k = 2 ∨ k = 3 ∨ k = 10 ∨ k = 12 ∨ k = 13 ∨ k = 16
  · rcases h with rfl | rfl | rfl | rfl | rfl | rfl | rfl
    all_goals go_enter Tryd.func40, Tryd.ntmps40
    all_goals go_wp2_with fail
    all_goals go_ret
    all_goals exact ⟨rfl, rfl⟩
  · have hf : fieldsR k = [] := by
      unfold fieldsR
      rw [if_neg (by omega), if_neg (by omega), if_neg (by omega), if_neg (by omega), if_neg (by omega)]
    have b1 : (k == 1) = false := beq_eq_false_iff_ne.2 (by omega)
    have b2 : (k == 2) = false := beq_eq_false_iff_ne.2 (by omega)
    have b3 : (k == 3) = false := beq_eq_false_iff_ne.2 (by omega)
    have b4 : (k == 10) = false := beq_eq_false_iff_ne.2 (by omega)
    have b5 : (k == 12) = false := beq_eq_false_iff_ne.2 (by omega)
    have b6 : (k == 13) = false := beq_eq_false_iff_ne.2 (by omega)
    have b7 : (k == 16) = false := beq_eq_false_iff_ne.2 (by omega)
    rw [hf]
    clear h hf
    go_enter Tryd.func40, Tryd.ntmps40
    go_wp2_with fail
    go_ret
    exact ⟨rfl, rfl⟩

theorem has_step (l : List UInt8) (x : UInt8) (j : Nat) (hj : j < (⟨l.toArray⟩ : ByteArray).size) (hn : ¬ (⟨l.toArray⟩ : ByteArray)[j].toNat = x.toNat) (h : (l.take j).contains x = false) : (l.take (j + 1)).contains x = false := by
  have hl : j < l.length := hj
  have he : ¬ x = l[j] := fun e => hn (by rw [e]; rfl)
  rw [List.take_succ_eq_append_getElem hl]
  simp only [List.contains_eq_mem, List.mem_append, List.mem_singleton, decide_eq_false_iff_not] at h ⊢
  exact fun hh => hh.elim h he
theorem has_here (l : List UInt8) (x : UInt8) (j : Nat) (hj : j < (⟨l.toArray⟩ : ByteArray).size) (hn : (⟨l.toArray⟩ : ByteArray)[j].toNat = x.toNat) : l.contains x = true := by
  have hl : j < l.length := hj
  have he : l[j] = x := UInt8.toNat_inj.1 hn
  simp only [List.contains_eq_mem, decide_eq_true_eq]
  rw [← he]
  exact List.getElem_mem hl
def hasR (k : Int) (x : UInt8) : Bool := (fieldsR k).contains x
set_option maxHeartbeats 1000000 in
set_option maxRecDepth 1000000 in
theorem refHas_any (k : Int) (x : UInt8) (w : World) :
    Calls Tryd.prog 43 #[.int .i64 k, .int .u8 x.toNat] w fun e w' => e = .returned (.bool (hasR k x)) ∧ w' = w := by
  unfold hasR
  obtain ⟨l, hl⟩ : ∃ l, fieldsR k = l := ⟨_, rfl⟩
  have hF := fun w => refFields_any k w
  rw [hl] at hF
  have HF := hide hF
  have hll : l.length ≤ 2 := by rw [← hl]; exact fields_short k
  rw [hl]
  clear hl hF
  obtain ⟨s, hs⟩ : ∃ s : ByteArray, s = ⟨l.toArray⟩ := ⟨_, rfl⟩
  rw [← hs] at HF
  have hsz : s.size ≤ 2 := by rw [hs]; exact hll
  have HSL := hide hs
  clear hs
  go_enter Tryd.func43, Tryd.ntmps43
  go_wp2_with (go_at_call 40; refine (HF.out _).mono ?_; rintro e w1 ⟨rfl, rfl⟩)
  go_loopg [6] s.size (fun gk i wr => ∃ j : Nat, i = .int .i64 j ∧ j ≤ s.size ∧ s.size - j ≤ gk ∧ wr = w1 ∧ Hid ((l.take j).contains x = false))
  case atStart => exact ⟨0, rfl, by omega, by omega, rfl, (by simp : (l.take 0).contains x = false)⟩
  case round =>
    obtain ⟨j, rfl, hj, hgk, hwr, HA⟩ := hrel
    subst hwr
    by_cases hp : j < s.size
    · by_cases hx : s[j].toNat = x.toNat
      · have HX := hide hx
        have hxb : ((s[j].toNat : Int) == (x.toNat : Int)) = true := by rw [hx]; simp
        clear hx
        go_wp2_with fail
        go_ret
        refine ⟨?_, rfl⟩
        have := HSL.out
        subst this
        rw [has_here l x j hp HX.out]
        rfl
      · have HX := hide hx
        have hxb : ((s[j].toNat : Int) == (x.toNat : Int)) = false := by rw [beq_eq_false_iff_ne]; omega
        clear hx
        go_wp2_with fail
        go_roundg (s.size - (j + 1))
        case measure => omega
        case rel =>
          refine ⟨j + 1, by go_num, by omega, Nat.le_refl _, rfl, ?_⟩
          have := HSL.out
          subst this
          exact has_step l x j hp HX.out HA.out
    · go_wp2_with fail
      go_ret
      refine ⟨?_, rfl⟩
      have h := HA.out
      have := HSL.out
      rw [List.take_of_length_le (by have : s.size = l.length := by rw [this]; rfl
                                     omega)] at h
      rw [h]
      rfl

set_option maxHeartbeats 1000000 in
set_option maxRecDepth 1000000 in
theorem refMost_any (k : Int) (x : UInt8) (hx : x = 73 ∨ x = 78 ∨ x = 66) (w : World) :
    Calls Tryd.prog 56 #[.int .i64 k, .int .u8 x.toNat] w fun e w' => e = .returned (.int .i64 (mostR k x)) ∧ w' = w := by
  rcases hx with rfl | rfl | rfl
  · go_enter Tryd.func56, Tryd.ntmps56
    go_wp2_with fail
    go_ret
    exact ⟨rfl, rfl⟩
  · go_enter Tryd.func56, Tryd.ntmps56
    go_wp2_with fail
    go_ret
    exact ⟨rfl, rfl⟩
  · by_cases hk : k = 16
    · subst hk
      go_enter Tryd.func56, Tryd.ntmps56
      go_wp2_with fail
      go_ret
      exact ⟨rfl, rfl⟩
    · have hm : mostR k 66 = 65535 := by unfold mostR; rw [if_neg (by decide), if_pos ⟨rfl, hk⟩]
      have hb : (k != 16) = true := by simpa using hk
      rw [hm]
      clear hk hm
      go_enter Tryd.func56, Tryd.ntmps56
      go_wp2_with fail
      go_ret
      exact ⟨rfl, rfl⟩
set_option maxHeartbeats 1000000 in
set_option maxRecDepth 1000000 in
theorem refLeast_any (x : UInt8) (hx : x = 73 ∨ x = 78 ∨ x = 66) (w : World) :
    Calls Tryd.prog 55 #[.int .u8 x.toNat] w fun e w' => e = .returned (.int .i64 (leastR x)) ∧ w' = w := by
  rcases hx with rfl | rfl | rfl
  all_goals go_enter Tryd.func55, Tryd.ntmps55
  all_goals go_wp2_with fail
  all_goals go_ret
  all_goals exact ⟨rfl, rfl⟩
set_option maxHeartbeats 1000000 in
set_option maxRecDepth 1000000 in
theorem refField_any (r : Rp) (a : Option Addr) (c : Nat) (x : UInt8) (hx : x = 73 ∨ x = 78 ∨ x = 66) (w : World) :
    Calls Tryd.prog 42 #[rpV r (.slice a r.body.length c), .int .u8 x.toNat] w fun e w' => e = .returned (.int .i64 (fieldV r x)) ∧ Below w.heap.size w w' := by
  unfold rpV
  rcases hx with rfl | rfl | rfl
  all_goals go_enter Tryd.func42, Tryd.ntmps42
  all_goals go_wp2_with fail
  all_goals go_ret
  all_goals exact ⟨rfl, (Below.refl _ w).alloc (Nat.le_refl _) _⟩
end Go.Proofs.YtienggblpmkjjaaDoor

namespace Go.Proofs.YtienggblpmkjjaaDoor
open Go.RowKit Go.Sort

def fieldB (r : Rp) (x : UInt8) : Bool := if hasR r.kind x then decide (leastR x ≤ fieldV r x) && decide (fieldV r x ≤ mostR r.kind x) else fieldV r x == 0
def tubeB (r : Rp) : Bool := if hasR r.kind 84 then validB r.tube else r.tube.isEmpty
theorem kinds {k : Int} (hk : 1 ≤ k ∧ k ≤ 23) : k = 1 ∨ k = 2 ∨ k = 3 ∨ k = 4 ∨ k = 5 ∨ k = 6 ∨ k = 7 ∨ k = 8 ∨ k = 9 ∨ k = 10 ∨ k = 11 ∨ k = 12 ∨ k = 13 ∨ k = 14 ∨ k = 15 ∨ k = 16 ∨ k = 17 ∨ k = 18 ∨ k = 19 ∨ k = 20 ∨ k = 21 ∨ k = 22 ∨ k = 23 := by omega
theorem table_has {k : Int} (hk : 1 ≤ k ∧ k ≤ 23) : (hasR k 73 = decide (0 < idOf k.toNat)) ∧ (hasR k 78 = decide (0 < nuOf k.toNat)) ∧ (hasR k 66 = decide (0 < boOf k.toNat)) ∧ hasR k 84 = tuOf k.toNat ∧
    (0 < idOf k.toNat → mostR k 73 = idOf k.toNat) ∧ (0 < nuOf k.toNat → mostR k 78 = nuOf k.toNat) ∧ (0 < boOf k.toNat → mostR k 66 = boOf k.toNat) ∧ 0 ≤ idOf k.toNat ∧ 0 ≤ nuOf k.toNat ∧ 0 ≤ boOf k.toNat := by
  rcases kinds hk with rfl | rfl | rfl | rfl | rfl | rfl | rfl | rfl | rfl | rfl | rfl | rfl | rfl | rfl | rfl | rfl | rfl | rfl | rfl | rfl | rfl | rfl | rfl
  all_goals decide
theorem field_num {n m l : Int} {b : Bool} (hb : b = decide (0 < m)) (hm : 0 ≤ m) (hl : l = 0 ∨ l = 1) {M : Int} (hM : 0 < m → M = m) : (if b = true then decide (l ≤ n) && decide (n ≤ M) else n == 0) = (decide (min m l ≤ n) && decide (n ≤ m)) := by
  subst hb
  by_cases h : 0 < m
  · rw [if_pos (by simpa using h), hM h, show min m l = l by omega]
  · obtain rfl : m = 0 := by omega
    rw [if_neg (by simp), show min (0 : Int) l = 0 by omega]
    rw [Bool.eq_iff_iff]
    simp only [beq_iff_eq, Bool.and_eq_true, decide_eq_true_eq]
    omega
theorem ref_right (r : Rp) (hk : 1 ≤ r.kind ∧ r.kind ≤ 23) : rightB r = (fieldB r 73 && fieldB r 78 && fieldB r 66 && tubeB r) := by
  obtain ⟨h1, h2, h3, h4, m1, m2, m3, z1, z2, z3⟩ := table_has hk
  have e1 : fieldB r 73 = (decide (min (idOf r.kind.toNat) 1 ≤ r.id) && decide (r.id ≤ idOf r.kind.toNat)) := by
    have := field_num (n := r.id) (l := 1) h1 z1 (.inr rfl) m1
    unfold fieldB
    exact this
  have e2 : fieldB r 78 = (decide (min (nuOf r.kind.toNat) 0 ≤ r.num) && decide (r.num ≤ nuOf r.kind.toNat)) := by
    have := field_num (n := r.num) (l := 0) h2 z2 (.inl rfl) m2
    unfold fieldB
    exact this
  have e3 : fieldB r 66 = (decide (min (boOf r.kind.toNat) 0 ≤ (r.body.length : Int)) && decide ((r.body.length : Int) ≤ boOf r.kind.toNat)) := by
    have := field_num (n := (r.body.length : Int)) (l := 0) h3 z3 (.inl rfl) m3
    unfold fieldB
    exact this
  rw [e1, e2, e3, right_nums hk]
  unfold numsB tubeB
  rw [h4, show min (nuOf r.kind.toNat) 0 = 0 by omega, show min (boOf r.kind.toNat) 0 = 0 by omega, decide_eq_true (show (0 : Int) ≤ (r.body.length : Int) by omega)]
  simp only [Bool.true_and, Bool.and_assoc]
def letter (j : Nat) : UInt8 := ([73, 78, 66] : List UInt8).getD j 0
/-- The first j fields are as they may be. -/
def firstB (r : Rp) (j : Nat) : Bool := ((List.range j).all fun i => fieldB r (letter i))
theorem first_succ (r : Rp) (j : Nat) : firstB r (j + 1) = (firstB r j && fieldB r (letter j)) := by
  unfold firstB
  rw [List.range_succ, List.all_append]
  simp

theorem check_of (r : Rp) (hk : 1 ≤ r.kind ∧ r.kind ≤ 23) : checkE r = if firstB r 3 && tubeB r then 0 else 81 := by
  have : rightB r = (firstB r 3 && tubeB r) := by
    rw [ref_right r hk]
    simp [firstB, List.range_succ, letter, Bool.and_assoc]
  unfold checkE
  rw [if_pos hk, this]
theorem first_bad (r : Rp) (j : Nat) (hj : j < 3) (h : fieldB r (letter j) = false) : firstB r 3 = false := by
  unfold firstB
  rw [Bool.eq_false_iff]
  intro h2
  have := (List.all_eq_true.1 h2) j (by simp; omega)
  simp [h] at this
theorem word_some {k : Int} (hk : 1 ≤ k ∧ k ≤ 23) : (wrdR k).length ≠ 0 := by
  rcases kinds hk with rfl | rfl | rfl | rfl | rfl | rfl | rfl | rfl | rfl | rfl | rfl | rfl | rfl | rfl | rfl | rfl | rfl | rfl | rfl | rfl | rfl | rfl | rfl
  all_goals decide

set_option maxHeartbeats 4000000 in
set_option maxRecDepth 1000000 in
theorem refCheck_any (w : World) (r : Rp) (a : Option Addr) (c : Nat) :
    Calls Tryd.prog 38 #[rpV r (.slice a r.body.length c)] w fun x w' => x = .returned (.int .i64 (checkE r)) ∧ Below w.heap.size w w' := by
  by_cases hk : 1 ≤ r.kind ∧ r.kind ≤ 23
  · have CE := hide (check_of r hk)
    obtain ⟨x0, l0, hs⟩ : ∃ x0 l0, wrdR r.kind = x0 :: l0 := by
      cases h : wrdR r.kind with
      | nil => exact absurd (by rw [h]; rfl) (word_some hk)
      | cons x l => exact ⟨x, l, rfl⟩
    have CW : Hid (∀ w, Calls Tryd.prog 39 #[.int .i64 r.kind] w fun e w' => e = .returned (.string ⟨(x0 :: l0).toArray⟩) ∧ Below w.heap.size w w') := by
      rw [← hs]
      exact fun w => refWord_any r.kind w
    have CF : Hid (∀ (x : UInt8), x = 73 ∨ x = 78 ∨ x = 66 → ∀ w, Calls Tryd.prog 42 #[.agg #[.int .i64 r.kind, .int .i64 r.id, .int .i64 r.num, .string ⟨r.tube.toArray⟩, .slice a r.body.length c], .int .u8 x.toNat] w fun e w' => e = .returned (.int .i64 (fieldV r x)) ∧ Below w.heap.size w w') := fun x hx w => refField_any r a c x hx w
    have CH : Hid (∀ (x : UInt8) (w : World), Calls Tryd.prog 43 #[.int .i64 r.kind, .int .u8 x.toNat] w fun e w' => e = .returned (.bool (hasR r.kind x)) ∧ ∃ m, w' = w.drewN m) := fun x w => (refHas_any r.kind x w).mono fun _ _ ⟨h1, h2⟩ => ⟨h1, 0, h2⟩
    have CL : Hid (∀ (x : UInt8), x = 73 ∨ x = 78 ∨ x = 66 → ∀ w : World, Calls Tryd.prog 55 #[.int .u8 x.toNat] w fun e w' => e = .returned (.int .i64 (leastR x)) ∧ ∃ m, w' = w.drewN m) := fun x hx w => (refLeast_any x hx w).mono fun _ _ ⟨h1, h2⟩ => ⟨h1, 0, h2⟩
    have CM : Hid (∀ (x : UInt8), x = 73 ∨ x = 78 ∨ x = 66 → ∀ w : World, Calls Tryd.prog 56 #[.int .i64 r.kind, .int .u8 x.toNat] w fun e w' => e = .returned (.int .i64 (mostR r.kind x)) ∧ ∃ m, w' = w.drewN m) := fun x hx w => (refMost_any r.kind x hx w).mono fun _ _ ⟨h1, h2⟩ => ⟨h1, 0, h2⟩
    have CV : Hid (∀ w : World, Calls Tryd.prog 57 #[.string ⟨r.tube.toArray⟩] w fun e w' => e = .returned (.bool (validB r.tube)) ∧ w' = w) := fun w => refValid_any ⟨r.tube.toArray⟩ w
    have FV : Hid (∀ x, fieldB r x = if hasR r.kind x then decide (leastR x ≤ fieldV r x) && decide (fieldV r x ≤ mostR r.kind x) else fieldV r x == 0) := fun x => rfl
    have TV : Hid (tubeB r = if hasR r.kind 84 then validB r.tube else r.tube.isEmpty) := rfl
    have FSC : Hid (∀ j, firstB r (j + 1) = (firstB r j && fieldB r (letter j))) := first_succ r
    have FB : Hid (∀ j, j < 3 → fieldB r (letter j) = false → firstB r 3 = false) := first_bad r
    have F0 : Hid (firstB r 0 = true) := rfl
    unfold rpV
    clear hk hs
    obtain ⟨w0, hw0⟩ : ∃ w0, w0 = w.alloc (.cells #[.int .i64 r.kind, .int .i64 r.id, .int .i64 r.num, .string ⟨r.tube.toArray⟩, .slice a r.body.length c] 24) := ⟨_, rfl⟩
    obtain ⟨pb, hpb⟩ : ∃ pb, pb = w.heap.size := ⟨_, rfl⟩
    have B0 : Hid (Below w.heap.size w w0) := by rw [hw0]; exact (Below.refl _ w).alloc (Nat.le_refl _) _
    have G0 : Hid (w0.heap[pb]? = some (.cells #[.int .i64 r.kind, .int .i64 r.id, .int .i64 r.num, .string ⟨r.tube.toArray⟩, .slice a r.body.length c] 24 (0, 0))) := by rw [hw0, hpb]; exact heap_alloc_new _ _
    have HW0 := hide (And.intro hw0 hpb)
    clear hw0 hpb
    generalize r.kind = k at *
    generalize r.id = id at *
    generalize r.num = num at *
    generalize r.body.length = bl at *
    go_enter Tryd.func38, Tryd.ntmps38
    go_upto_region 1 with fail
    rw [← HW0.out.1, ← HW0.out.2]
    clear HW0
    have c0 := cells_at G0.out (i := 0) rfl
    simp only [List.getElem_toArray, List.getElem_cons_zero] at c0
    go_upto_region 3 with (go_at_call 39; refine (CW.out _).mono ?_; rintro e w1 ⟨rfl, b1⟩; have B1 := hide b1; clear b1)
    obtain ⟨t, ht⟩ : ∃ t : ByteArray, t = ⟨#[73, 78, 66]⟩ := ⟨_, rfl⟩
    have htz : t.size = 3 := by rw [ht]; rfl
    have HTL : Hid (∀ (j : Nat) (h : j < t.size), t[j] = letter j ∧ (t[j] = 73 ∨ t[j] = 78 ∨ t[j] = 66)) := by
      intro j h
      subst ht
      rw [htz] at h
      have : j = 0 ∨ j = 1 ∨ j = 2 := by omega
      rcases this with rfl | rfl | rfl
      · exact ⟨rfl, .inl rfl⟩
      · exact ⟨rfl, .inr (.inl rfl)⟩
      · exact ⟨rfl, .inr (.inr rfl)⟩
    have G1 : Hid (w1.heap[pb]? = some (.cells #[.int .i64 k, .int .i64 id, .int .i64 num, .string ⟨r.tube.toArray⟩, .slice a bl c] 24 (0, 0))) := (B1.out.block pb (cell_lt c0)).trans G0.out
    have B01 : Hid (Below w.heap.size w w1) := B0.out.trans (B1.out.mono B0.out.size)
    clear c0 B1 B0 G0 CW
    go_wp2_with fail
    rw [← ht]
    clear ht
    go_loopw [4] (fun i wr => ∃ j : Nat, j ≤ 3 ∧ i = .int .i64 j ∧ Hid (firstB r j = true) ∧ Hid (wr.heap[pb]? = some (.cells #[.int .i64 k, .int .i64 id, .int .i64 num, .string ⟨r.tube.toArray⟩, .slice a bl c] 24 (0, 0))) ∧ Hid (Below w.heap.size w wr)) (fun i _ => 3 - (intOf i).toNat)
    case atStart => exact ⟨0, by omega, rfl, F0, G1, B01⟩
    case round =>
      obtain ⟨j, hj, rfl, FJ, GJ, BJ⟩ := hrel
      have c0 := cells_at GJ.out (i := 0) rfl
      have c1 := cells_at GJ.out (i := 1) rfl
      have c2 := cells_at GJ.out (i := 2) rfl
      have c3 := cells_at GJ.out (i := 3) rfl
      have c4 := cells_at GJ.out (i := 4) rfl
      simp only [List.getElem_toArray, List.getElem_cons_zero, List.getElem_cons_succ] at c0 c1 c2 c3 c4
      have hlt := cell_lt c0
      clear G1 B01 F0
      by_cases hp : j < t.size
      · obtain ⟨hl1, hl2⟩ := HTL.out j hp
        have HL1 := hide hl1
        have CF2 := hide (CF.out t[j] hl2)
        have CH2 := hide (CH.out t[j])
        have CL2 := hide (CL.out t[j] hl2)
        have CM2 := hide (CM.out t[j] hl2)
        have FVJ : Hid (fieldB r (letter j) = if hasR k t[j] then decide (leastR t[j] ≤ fieldV r t[j]) && decide (fieldV r t[j] ≤ mostR k t[j]) else fieldV r t[j] == 0) := by
          rw [hl1]
          exact FV.out _
        clear hl1 hl2 HTL CF CH CL CM FV
        obtain ⟨n, hn⟩ : ∃ n, n = fieldV r t[j] := ⟨_, rfl⟩
        obtain ⟨lo, hlo⟩ : ∃ lo, lo = leastR t[j] := ⟨_, rfl⟩
        obtain ⟨hi, hhi⟩ : ∃ hi, hi = mostR k t[j] := ⟨_, rfl⟩
        obtain ⟨b, hb⟩ : ∃ b, b = hasR k t[j] := ⟨_, rfl⟩
        rw [← hn, ← hlo, ← hhi, ← hb] at FVJ
        rw [← hn] at CF2
        rw [← hlo] at CL2
        rw [← hhi] at CM2
        rw [← hb] at CH2
        clear hn hlo hhi hb
        go_wp2_with fail
        refine wp_tail 4 mixed (by kernel_rfl) ?_
        simp only [List.take_succ_cons, List.take_zero, List.drop_succ_cons, List.drop_zero]
        still_step
        still_step
        still_step
        still_step
        refine wpStill_nil ?_
        go_wp2_with (go_at_call 42; refine (CF2.out _).mono ?_; rintro e w2 ⟨rfl, b2⟩; have B2 : Hid (Below wr.heap.size wr w2) := (Below.refl _ wr).drew.trans b2; have d0 := (B2.out.cell (p := ⟨pb, 0, none⟩) hlt).trans c0; have hlt2 : pb < w2.heap.size := Nat.lt_of_lt_of_le hlt B2.out.size; clear b2)
        have G2 : Hid (w2.heap[pb]? = some (.cells #[.int .i64 k, .int .i64 id, .int .i64 num, .string ⟨r.tube.toArray⟩, .slice a bl c] 24 (0, 0))) := (B2.out.block pb hlt).trans GJ.out
        have BJ2 : Hid (Below w.heap.size w w2) := BJ.out.trans (B2.out.mono BJ.out.size)
        clear c0 c1 c2 c3 c4 hlt GJ BJ B2 CF2
        go_wp2_with fail
        go_quiet ((go_at_call 43; exact Calls.quiet_of (CH2.out _)))
        have G3 : Hid ((w2.drewN nq).heap[pb]? = some (.cells #[.int .i64 k, .int .i64 id, .int .i64 num, .string ⟨r.tube.toArray⟩, .slice a bl c] 24 (0, 0))) := G2.out
        have BJ3 : Hid (Below w.heap.size w (w2.drewN nq)) := below_drewN BJ2.out _
        have d03 : (w2.drewN nq).cell? ⟨pb, 0, none⟩ = some (.int .i64 k) := d0
        clear d0 hlt2 G2 BJ2
        generalize w2.drewN nq = w3 at *
        have hlt3 : pb < w3.heap.size := cell_lt d03
        cases b with
        | false =>
          by_cases hz : n = 0
          · have HB : Hid (fieldB r (letter j) = true) := by rw [FVJ.out, hz]; rfl
            subst hz
            clear FVJ
            go_wp2_with fail
            go_roundw
            case rel => exact ⟨j + 1, by omega, by go_num, by rw [FSC.out, FJ.out, HB.out]; rfl, G3, BJ3⟩
            case measure => simp [intOf]; omega
          · have hz2 : (n != 0) = true := by simpa using hz
            have HB : Hid (fieldB r (letter j) = false) := by show _ = _; rw [FVJ.out]; simpa using hz
            clear FVJ hz
            go_wp2_with fail
            go_ret
            refine ⟨?_, BJ3.out⟩
            rw [CE.out, FB.out j (by omega) HB.out]
            rfl
        | true =>
          by_cases h1 : n < lo
          · have HB : Hid (fieldB r (letter j) = false) := by rw [FVJ.out, if_pos rfl, decide_eq_false (by omega)]; rfl
            have h1b : decide (n < lo) = true := decide_eq_true h1
            clear FVJ h1
            go_wp2_with fail
            go_quiet ((first | (go_at_call 55; exact Calls.quiet_of (CL2.out _)) | (go_at_call 56; exact Calls.quiet_of (CM2.out _))))
            go_wp2_with fail
            go_ret
            refine ⟨?_, below_drewN BJ3.out _⟩
            rw [CE.out, FB.out j (by omega) HB.out]
            rfl
          · have h1b : decide (n < lo) = false := decide_eq_false h1
            by_cases h2 : n > hi
            · have HB : Hid (fieldB r (letter j) = false) := by rw [FVJ.out, if_pos rfl, decide_eq_false (show ¬ n ≤ hi by omega)]; exact Bool.and_false _
              have h2b : decide (n > hi) = true := decide_eq_true h2
              have h3b : decide (hi < n) = true := decide_eq_true h2
              clear FVJ h1 h2
              go_wp2_with fail
              go_quiet ((first | (go_at_call 55; exact Calls.quiet_of (CL2.out _)) | (go_at_call 56; exact Calls.quiet_of (CM2.out _))))
              go_wp2_with fail
              go_ret
              refine ⟨?_, below_drewN BJ3.out _⟩
              rw [CE.out, FB.out j (by omega) HB.out]
              rfl
            · have HB : Hid (fieldB r (letter j) = true) := by rw [FVJ.out, if_pos rfl, decide_eq_true (show lo ≤ n by omega), decide_eq_true (show n ≤ hi by omega)]; rfl
              have h2b : decide (n > hi) = false := decide_eq_false h2
              have h3b : decide (hi < n) = false := decide_eq_false h2
              clear FVJ h1 h2
              go_wp2_with fail
              go_quiet ((first | (go_at_call 55; exact Calls.quiet_of (CL2.out _)) | (go_at_call 56; exact Calls.quiet_of (CM2.out _))))
              go_wp2_with fail
              go_roundw
              case rel => exact ⟨j + 1, by omega, by go_num, by rw [FSC.out, FJ.out, HB.out]; rfl, G3, below_drewN BJ3.out _⟩
              case measure => simp [intOf]; omega
      · obtain rfl : j = 3 := by omega
        have CE2 : Hid (checkE r = if tubeB r then 0 else 81) := by rw [CE.out, FJ.out]; rfl
        clear CE CF CL CM FV FSC FB HTL
        have CH2 := hide (CH.out 84)
        cases hb : hasR k 84 with
        | true =>
          rw [hb] at CH2 TV
          have TV2 : Hid (tubeB r = validB r.tube) := TV.out
          clear hb TV CH
          cases hv : validB r.tube with
          | true =>
            rw [hv] at CV TV2
            clear hv
            go_wp2_with (first
              | (go_at_call 43; refine (CH2.out _).mono ?_; rintro e w2 ⟨rfl, m2, rfl⟩)
              | (go_at_call 57; refine (CV.out _).mono ?_; rintro e w3 ⟨rfl, rfl⟩))
            go_ret
            exact ⟨by rw [CE2.out, TV2.out]; rfl, below_drewN BJ.out _⟩
          | false =>
            rw [hv] at CV TV2
            clear hv
            go_wp2_with (first
              | (go_at_call 43; refine (CH2.out _).mono ?_; rintro e w2 ⟨rfl, m2, rfl⟩)
              | (go_at_call 57; refine (CV.out _).mono ?_; rintro e w3 ⟨rfl, rfl⟩))
            go_ret
            exact ⟨by rw [CE2.out, TV2.out]; rfl, below_drewN BJ.out _⟩
        | false =>
          rw [hb] at CH2 TV
          have TV2 : Hid (tubeB r = r.tube.isEmpty) := TV.out
          clear hb TV CH
          cases hv : r.tube.isEmpty with
          | true =>
            rw [hv] at TV2
            go_wp2_with (go_at_call 43; refine (CH2.out _).mono ?_; rintro e w2 ⟨rfl, m2, rfl⟩)
            go_ret
            exact ⟨by rw [CE2.out, TV2.out]; rfl, below_drewN BJ.out _⟩
          | false =>
            rw [hv] at TV2
            go_wp2_with (go_at_call 43; refine (CH2.out _).mono ?_; rintro e w2 ⟨rfl, m2, rfl⟩)
            go_ret
            exact ⟨by rw [CE2.out, TV2.out]; rfl, below_drewN BJ.out _⟩
  · have HE := hide (checkE_kind hk)
    have CW : Hid (∀ w, Calls Tryd.prog 39 #[.int .i64 r.kind] w fun e w' => e = .returned (.string ⟨#[]⟩) ∧ Below w.heap.size w w') := fun w => by
      have := refWord_any r.kind w
      unfold wrdR at this
      rw [if_neg hk] at this
      exact this
    unfold rpV
    clear hk
    go_enter Tryd.func38, Tryd.ntmps38
    go_wp2_with (go_at_call 39; refine (CW.out _).mono ?_; rintro e w1 ⟨rfl, b1⟩; have B1 := hide b1; clear b1)
    go_ret
    exact ⟨by rw [HE.out]; rfl, ((Below.refl _ w).alloc (Nat.le_refl _) _).trans (B1.out.mono (by simp))⟩
end Go.Proofs.YtienggblpmkjjaaDoor
