/-
  A book in memory, and the walks of its small functions.
-/
import Derived.Test.YthjaehibndmehaaValid
import Derived.Test.YthjaehibndmehaaMapClone
import Derived.Deep.RegionWith
import Derived.Deep.Cut
import Derived.Deep.CutRange
namespace Go.Proofs.Ythjaehibndmehaa
open Go.RowKit Go.Maps

/-- Block b is a book, its map lies in block mb, it has n names: g tells how often each is held. -/
structure BookAt (w : World) (b mb n : Nat) (g : Text → Option Int) : Prop where
  cell : w.cell? ⟨b, 0, none⟩ = some (.map (some mb))
  tab : Tab w mb n g
  pos : ∀ t v, g t = some v → 1 ≤ v
  ok : ∀ t v, g t = some v → validB t = true

theorem BookAt.ne {w : World} {b mb n : Nat} {g : Text → Option Int} (h : BookAt w b mb n g) : b ≠ mb := by
  rintro rfl
  obtain ⟨es, clock, hb⟩ := h.tab.map
  have := h.cell
  simp [World.cell?, hb] at this
theorem BookAt.kept {P : Nat → Prop} {w w' : World} {b mb n : Nat} {g : Text → Option Int} (h : BookAt w b mb n g) (hk : Kept P w w') (hb : ¬ P b) (hP : ¬ P mb) : BookAt w' b mb n g :=
  ⟨hk.cell hb h.cell, h.tab.kept hk hP, h.pos, h.ok⟩
theorem BookAt.below {w w' : World} {b mb n : Nat} {g : Text → Option Int} (h : BookAt w b mb n g) (hk : Below w.heap.size w w') : BookAt w' b mb n g :=
  h.kept (P := fun _ => False) (Kept.ofBelow hk) id id
theorem Tab.below {w w' : World} {mb n : Nat} {g : Text → Option Int} (h : Tab w mb n g) (hk : Below w.heap.size w w') : Tab w' mb n g := h.block (hk.block mb h.lt)

theorem cell_alloc (w : World) (v : Value) (t : TypeId) : (w.alloc (.cells #[v] t)).cell? ⟨w.heap.size, 0, none⟩ = some v := by
  unfold World.cell?
  rw [(MapKept.heap_alloc w _).1]
  rfl
/-- How often a name is held. -/
def held (g : Text → Option Int) (t : Text) : Int := (g t).getD 0
theorem held_nonneg {w : World} {b mb n : Nat} {g : Text → Option Int} (h : BookAt w b mb n g) (t : Text) : 0 ≤ held g t := by
  unfold held
  cases hg : g t with
  | none => simp
  | some v => have := h.pos t v hg; simp; omega
theorem held_zero {w : World} {b mb n : Nat} {g : Text → Option Int} (h : BookAt w b mb n g) (t : Text) : held g t = 0 ↔ g t = none := by
  unfold held
  cases hg : g t with
  | none => simp
  | some v => have := h.pos t v hg; simp; omega
/-- What a book holds when a name is set. -/
def setG (g : Text → Option Int) (t : Text) (u : Int) : Text → Option Int := if u = 0 then delAt g t else putAt g t u
def setN (g : Text → Option Int) (n : Nat) (t : Text) (u : Int) : Nat := if u = 0 then (if (g t).isSome then n - 1 else n) else (if (g t).isSome then n else n + 1)
theorem held_set (g : Text → Option Int) (t x : Text) (u : Int) : held (setG g t u) x = if x = t then u else held g x := by
  unfold held setG
  split
  · rename_i h
    subst h
    unfold delAt
    split <;> rfl
  · unfold putAt
    split <;> rfl
theorem set_pos {g : Text → Option Int} (h : ∀ t v, g t = some v → 1 ≤ v) (t : Text) (u : Int) (hu : 0 ≤ u) : ∀ x v, setG g t u x = some v → 1 ≤ v := by
  intro x v
  unfold setG
  split
  · unfold delAt
    split
    · intro h; cases h
    · exact h x v
  · unfold putAt
    split
    · intro e; cases e; omega
    · exact h x v

theorem set_ok {g : Text → Option Int} (h : ∀ t v, g t = some v → validB t = true) (t : Text) (u : Int) (ht : validB t = true) : ∀ x v, setG g t u x = some v → validB x = true := by
  intro x v
  unfold setG
  split
  · unfold delAt
    split
    · intro h; cases h
    · exact h x v
  · unfold putAt
    split
    · rename_i e
      intro _
      rw [e]
      exact ht
    · exact h x v
theorem valid_size {s : ByteArray} (h : validB s.data.toList = true) : s.size ≤ 200 := by
  unfold validB at h
  simp only [Bool.and_eq_true, decide_eq_true_eq] at h
  have := h.1.1.2
  simpa using this

set_option maxHeartbeats 400000 in
set_option maxRecDepth 1000000 in
theorem new_any (w : World) : Calls Try.prog 11 #[] w fun e w' => ∃ b mb, e = .returned (.pointer (some ⟨b, 0, none⟩)) ∧ BookAt w' b mb 0 (fun _ => none) ∧ Below w.heap.size w w' ∧ w.heap.size ≤ b ∧ w.heap.size ≤ mb := by
  have hmm := @run_makeMap Try.prog
  go_enter Try.func11, Try.ntmps11
  go_wp2_with fail
  go_ret
  have hk : Below w.heap.size w ((w.alloc (.map #[] 0)).alloc (.cells #[.map (some w.heap.size)] 60)) := ((Below.refl _ w).alloc (Nat.le_refl _) _).alloc (by simp) _
  have hk2 : Below (w.alloc (.map #[] 0)).heap.size (w.alloc (.map #[] 0)) ((w.alloc (.map #[] 0)).alloc (.cells #[.map (some w.heap.size)] 60)) := (Below.refl _ _).alloc (Nat.le_refl _) _
  exact ⟨_, w.heap.size, rfl, ⟨by rw [show w.heap.size + 1 = (w.alloc (.map #[] 0)).heap.size by simp]; exact cell_alloc _ _ _, (Tab.made w).below hk2, (fun _ _ h => by cases h), (fun _ _ h => by cases h)⟩, hk, by omega, Nat.le_refl _⟩

set_option maxHeartbeats 400000 in
set_option maxRecDepth 1000000 in
theorem text_any (s : ByteArray) (w : World) (hs : s.size ≤ 281474976710656) : Calls Try.prog 47 #[.string s] w fun e w' => e = .returned (.string s) ∧ Below w.heap.size w w' := by
  go_enter Try.func47, Try.ntmps47
  go_wp2_with fail
  refine (Try.stringslite_Clone s _ hs).mono ?_
  rintro e w1 ⟨rfl, B1⟩
  have HB : Hid (Below w.heap.size w w1) := B1
  clear B1
  go_wp2_with fail
  go_ret
  exact ⟨rfl, HB.out⟩

set_option maxHeartbeats 400000 in
set_option maxRecDepth 1000000 in
theorem count_any (w : World) (b mb n : Nat) (g : Text → Option Int) (s : ByteArray) (h : BookAt w b mb n g) (hs : s.size ≤ maxLen) :
    Calls Try.prog 22 #[.pointer (some ⟨b, 0, none⟩), .string s] w fun e w' => e = .returned (.int .i64 (held g s.data.toList)) ∧ w' = w := by
  have hc := h.cell
  have HT : Hid (Tab w mb n g) := h.tab
  clear h
  go_enter Try.func22, Try.ntmps22
  go_wp2_with (first | (at_lookup; refine wpList_look1 rfl _ _ rfl mb n g s rfl rfl HT.out hs ?_))
  go_ret
  exact ⟨rfl, rfl⟩

set_option maxHeartbeats 400000 in
set_option maxRecDepth 1000000 in
theorem len_any (w : World) (b mb n : Nat) (g : Text → Option Int) (h : BookAt w b mb n g) :
    Calls Try.prog 26 #[.pointer (some ⟨b, 0, none⟩)] w fun e w' => e = .returned (.int .i64 (n : Int)) ∧ w' = w := by
  have hc := h.cell
  have HT : Hid (Tab w mb n g) := h.tab
  clear h
  go_enter Try.func26, Try.ntmps26
  go_wp2_with (first | (at_len; refine wpList_lens rfl _ rfl mb n g rfl HT.out ?_))
  go_ret
  exact ⟨rfl, rfl⟩

set_option maxHeartbeats 1000000 in
set_option maxRecDepth 1000000 in
theorem set_any (w : World) (b mb n : Nat) (g : Text → Option Int) (s : ByteArray) (u : Int) (h : BookAt w b mb n g) (hv : validB s.data.toList = true) (hn : n < maxLen) (hu : 0 ≤ u) (hu2 : u ≤ 9223372036854775807) :
    Calls Try.prog 40 #[.pointer (some ⟨b, 0, none⟩), .string s, .int .i64 u] w fun e w' => e = .returned (.int .i64 u) ∧ BookAt w' b mb (setN g n s.data.toList u) (setG g s.data.toList u) ∧ Kept (fun k => k = mb) w w' := by
  have hc := h.cell
  have hb := cell_lt hc
  simp only [] at hb
  have hs : s.size ≤ 281474976710656 := by have := valid_size hv; omega
  have hsm : s.size ≤ maxLen := by unfold maxLen; omega
  have HT : Hid (Tab w mb n g) := h.tab
  have HB : Hid (BookAt w b mb n g) := h
  have HV : Hid (validB s.data.toList = true) := hv
  clear h hv
  by_cases hz : u = 0
  · subst hz
    go_enter Try.func40, Try.ntmps40
    go_wp2_with (first | (at_delete; refine wpList_strike rfl _ _ rfl mb n g s rfl rfl HT.out hsm ?_; intro w1 ht1 hg1))
    go_ret
    have hk : Kept (fun k => k = mb) w w1 := Kept.ofGrown hg1 (fun g hg => by cases hg; rfl)
    exact ⟨rfl, ⟨hk.cell HB.out.ne hc, ht1, set_pos HB.out.pos _ 0 (Int.le_refl _), set_ok HB.out.ok _ 0 HV.out⟩, hk⟩
  · have hzb : (u == 0) = false := by simpa using hz
    go_enter Try.func40, Try.ntmps40
    go_upto_region 3 with fail
    go_cut [14] from 15 to 20 (fun _ wx => ∃ w1, Below w.heap.size w w1 ∧ Hid (Tab wx mb (if (g s.data.toList).isSome then n else n + 1) (putAt g s.data.toList u) ∧ w1.grownBy wx (some mb)))
    case first =>
      go_region_with (first
        | (go_at_call 47
           refine (text_any s _ hs).mono ?_
           rintro e wa ⟨rfl, Ba⟩
           have Bb : Below w.heap.size w wa := by first | exact (Below.refl _ w).drew.trans Ba | exact Ba
           have x0 : wa.cell? ⟨b, 0, none⟩ = _ := (Bb.cell (p := ⟨b, 0, none⟩) hb).trans hc
           have HBb : Hid (Below w.heap.size w wa) := Bb
           obtain ⟨w1, hrun, ht1, hg1⟩ := (HT.out.below Bb).put_run s u hn hsm (WalkArith.wf_i64 (by omega))
           have H1 : Hid (Tab w1 mb (if (g s.data.toList).isSome then n else n + 1) (putAt g s.data.toList u) ∧ wa.grownBy w1 (some mb)) := ⟨ht1, hg1⟩
           clear Ba Bb ht1 hg1))
      all_goals (go_wp2_with fail; go_meet)
      all_goals exact ⟨_, HBb.out, H1⟩
    case rest =>
      obtain ⟨w1, B1, H1⟩ := hcut
      have HB1 : Hid (Below w.heap.size w w1) := B1
      clear B1
      go_wp2_with fail
      go_ret
      have hk : Kept (fun k => k = mb) w wc := (Kept.ofBelow HB1.out).trans (Kept.ofGrown H1.out.2 (fun g hg => by cases hg; rfl))
      have e1 : setN g n s.data.toList u = if (g s.data.toList).isSome then n else n + 1 := by unfold setN; rw [if_neg hz]
      have e2 : setG g s.data.toList u = putAt g s.data.toList u := by unfold setG; rw [if_neg hz]
      exact ⟨rfl, ⟨hk.cell HB.out.ne hc, by rw [e1, e2]; exact H1.out.1, set_pos HB.out.pos _ u hu, set_ok HB.out.ok _ u HV.out⟩, hk⟩

/-- Hold, as the world sees it. -/
def holdE (g : Text → Option Int) (t : Text) : Ending := if validB t then .returned (.tuple #[.int .i64 (held g t + 1), .int .i64 0]) else .returned (.tuple #[.int .i64 0, .int .i64 50])
def holdG (g : Text → Option Int) (t : Text) : Text → Option Int := if validB t then setG g t (held g t + 1) else g
def holdN (g : Text → Option Int) (n : Nat) (t : Text) : Nat := if validB t then setN g n t (held g t + 1) else n
set_option maxHeartbeats 1000000 in
set_option maxRecDepth 1000000 in
theorem hold_any (w : World) (b mb n : Nat) (g : Text → Option Int) (s : ByteArray) (h : BookAt w b mb n g) (hsm : s.size ≤ maxLen) (hn : n < maxLen) (hu : held g s.data.toList < 9223372036854775807) :
    Calls Try.prog 23 #[.pointer (some ⟨b, 0, none⟩), .string s] w fun e w' => e = holdE g s.data.toList ∧ BookAt w' b mb (holdN g n s.data.toList) (holdG g s.data.toList) ∧ Kept (fun k => k = mb) w w' := by
  have HB : Hid (BookAt w b mb n g) := h
  have h0 := held_nonneg h s.data.toList
  clear h
  unfold holdE holdG holdN
  generalize hc : held g s.data.toList = c at hu h0
  have HC : Hid (held g s.data.toList = c) := hc
  clear hc
  cases hv : validB s.data.toList
  · go_enter Try.func23, Try.ntmps23
    go_wp2_with (first | (go_at_call 9; refine (valid_any s _).mono ?_; rintro e w' ⟨rfl, hw'⟩; obtain rfl := hw'.symm; rw [hv]))
    go_ret2
    exact ⟨rfl, HB.out, Kept.refl _ _⟩
  · go_enter Try.func23, Try.ntmps23
    go_wp2_with (first
      | (go_at_call 9; refine (valid_any s _).mono ?_; rintro e w' ⟨rfl, hw'⟩; obtain rfl := hw'.symm; rw [hv])
      | (go_at_call 22; refine (count_any _ b mb n g s HB.out hsm).mono ?_; rintro e w' ⟨rfl, hw'⟩; obtain rfl := hw'.symm; rw [HC.out])
      | (go_at_call 40; refine (set_any _ b mb n g s (c + 1) HB.out hv hn (by omega) (by omega)).mono ?_; rintro e w2 ⟨rfl, b2, k2⟩
         have B2 : Hid (BookAt w2 b mb (setN g n s.data.toList (c + 1)) (setG g s.data.toList (c + 1)) ∧ Kept (fun k => k = mb) w w2) := ⟨b2, k2⟩
         clear b2 k2))
    go_ret2
    exact ⟨rfl, B2.out.1, B2.out.2⟩

def dropE (g : Text → Option Int) (t : Text) : Ending := if held g t = 0 then .returned (.tuple #[.int .i64 0, .bool false]) else .returned (.tuple #[.int .i64 (held g t - 1), .bool true])
def dropG (g : Text → Option Int) (t : Text) : Text → Option Int := if held g t = 0 then g else setG g t (held g t - 1)
def dropN (g : Text → Option Int) (n : Nat) (t : Text) : Nat := if held g t = 0 then n else setN g n t (held g t - 1)
set_option maxHeartbeats 1000000 in
set_option maxRecDepth 1000000 in
theorem drop_any (w : World) (b mb n : Nat) (g : Text → Option Int) (s : ByteArray) (h : BookAt w b mb n g) (hsm : s.size ≤ maxLen) (hn : n < maxLen) (hu : held g s.data.toList ≤ 9223372036854775807) :
    Calls Try.prog 24 #[.pointer (some ⟨b, 0, none⟩), .string s] w fun e w' => e = dropE g s.data.toList ∧ BookAt w' b mb (dropN g n s.data.toList) (dropG g s.data.toList) ∧ Kept (fun k => k = mb) w w' := by
  have HB : Hid (BookAt w b mb n g) := h
  have h0 := held_nonneg h s.data.toList
  clear h
  unfold dropE dropG dropN
  generalize hc : held g s.data.toList = c at hu h0
  have HC : Hid (held g s.data.toList = c) := hc
  clear hc
  by_cases hz : c = 0
  · rw [if_pos hz, if_pos hz, if_pos hz]
    subst hz
    go_enter Try.func24, Try.ntmps24
    go_wp2_with (first | (go_at_call 22; refine (count_any _ b mb n g s HB.out hsm).mono ?_; rintro e w' ⟨rfl, hw'⟩; obtain rfl := hw'.symm; rw [HC.out]))
    go_ret2
    exact ⟨rfl, HB.out, Kept.refl _ _⟩
  · rw [if_neg hz, if_neg hz, if_neg hz]
    have hzb : (c == 0) = false := by simpa using hz
    have HVD : Hid (validB s.data.toList = true) := by
      cases hg : g s.data.toList with
      | none => exact absurd (((held_zero HB.out _).2 hg).symm.trans HC.out).symm hz
      | some v => exact HB.out.ok _ v hg
    go_enter Try.func24, Try.ntmps24
    go_wp2_with (first
      | (go_at_call 22; refine (count_any _ b mb n g s HB.out hsm).mono ?_; rintro e w' ⟨rfl, hw'⟩; obtain rfl := hw'.symm; rw [HC.out])
      | (go_at_call 40; refine (set_any _ b mb n g s (c - 1) HB.out HVD.out hn (by omega) (by omega)).mono ?_; rintro e w2 ⟨rfl, b2, k2⟩
         have B2 : Hid (BookAt w2 b mb (setN g n s.data.toList (c - 1)) (setG g s.data.toList (c - 1)) ∧ Kept (fun k => k = mb) w w2) := ⟨b2, k2⟩
         clear b2 k2))
    go_ret2
    exact ⟨rfl, B2.out.1, B2.out.2⟩

set_option maxHeartbeats 400000 in
set_option maxRecDepth 1000000 in
theorem clone_any (w : World) (b mb n : Nat) (g : Text → Option Int) (h : BookAt w b mb n g) :
    Calls Try.prog 13 #[.pointer (some ⟨b, 0, none⟩)] w fun e w' => ∃ b2 mb2, e = .returned (.pointer (some ⟨b2, 0, none⟩)) ∧ BookAt w' b2 mb2 n g ∧ Below w.heap.size w w' ∧ w.heap.size ≤ b2 ∧ w.heap.size ≤ mb2 := by
  have hc := h.cell
  have HT : Hid (Tab w mb n g) := h.tab
  have HP : Hid ((∀ t v, g t = some v → 1 ≤ v) ∧ ∀ t v, g t = some v → validB t = true) := ⟨h.pos, h.ok⟩
  clear h
  go_enter Try.func13, Try.ntmps13
  go_wp2_with (first
      | (go_at_call 28; refine (mapClone _ mb n g HT.out).mono ?_; rintro e w1 ⟨rfl, t1, b1, s1⟩
         have H1 : Hid (Tab w1 w.heap.size n g ∧ Below w.heap.size w w1 ∧ w1.heap.size = w.heap.size + 1) := ⟨t1, b1, s1⟩
         clear t1 b1 s1))
  go_ret
  have hk2 : Below w1.heap.size w1 (w1.alloc (.cells #[.map (some w.heap.size)] 60)) := (Below.refl _ _).alloc (Nat.le_refl _) _
  exact ⟨_, w.heap.size, rfl, ⟨cell_alloc _ _ _, H1.out.1.below hk2, HP.out.1, HP.out.2⟩, H1.out.2.1.alloc (by have := H1.out.2.2; omega) _, by have := H1.out.2.2; omega, Nat.le_refl _⟩
end Go.Proofs.Ythjaehibndmehaa
