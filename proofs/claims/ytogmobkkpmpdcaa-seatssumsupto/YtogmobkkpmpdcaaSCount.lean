/-
  count, with the question of Waiting.
-/
import Derived.Test.YtogmobkkpmpdcaaSFirst
import Derived.Maps.RangeWalk
namespace Go.Proofs.Ytogmobkkpmpdcaa
open Go.RowKit Go.Maps
/-- Does a connection wait, and watch the tube? -/
def waitsB (x : Cn) (t : List UInt8) : Bool := (x.tk != 0) && decide (0 < held x.g t)
set_option maxHeartbeats 2000000 in
set_option maxRecDepth 1000000 in
theorem waiting1_any (t : ByteArray) (bt : Nat) (w : World) (lab : Nat → Int) (i : Int) (x : Cn) (h : CnAt w lab i x) (hb : w.heap[bt]? = some (.cells #[.string t] 9 (0, 0))) (ht : t.size ≤ maxLen) :
    Calls Try.prog 38 #[ptrV x.blk, ptrV bt] w fun e w' => e = .returned (.bool (waitsB x t.data.toList)) ∧ w' = w := by
  have CW : Hid (Calls Try.prog 39 #[ptrV x.blk] w fun e w' => e = .returned (.bool (x.tk != 0)) ∧ w' = w) := waits_any w lab i x h
  have CC : Hid (Calls Try.prog 37 #[ptrV x.blk, .string t] w fun e w' => e = .returned (.bool (decide (0 < held x.g t.data.toList))) ∧ w' = w) := watches_any t w lab i x h ht
  have c0 : w.cell? ⟨bt, 0, none⟩ = some (.string t) := by simp [World.cell?, hb]
  unfold waitsB
  clear h hb
  cases hz : (x.tk != 0) with
  | false =>
    rw [hz] at CW
    clear hz
    go_enter Try.func38, Try.ntmps38
    go_wp2_with (go_at_call 39; refine CW.out.mono ?_; rintro e w1 ⟨rfl, hw'⟩; obtain rfl := hw'.symm)
    go_ret
    exact ⟨rfl, rfl⟩
  | true =>
    rw [hz] at CW
    clear hz
    go_enter Try.func38, Try.ntmps38
    go_wp2_with (first
      | (go_at_call 39; refine CW.out.mono ?_; rintro e w1 ⟨rfl, hw'⟩; obtain rfl := hw'.symm)
      | (go_at_call 37; refine CC.out.mono ?_; rintro e w1 ⟨rfl, hw'⟩; obtain rfl := hw'.symm))
    go_ret
    exact ⟨rfl, rfl⟩
/-- Whom a range over the connections has come by. -/
structure Seen (S : Sx) (left : Lit → Bool) (ss : List Int) : Prop where
  nod : ss.Nodup
  mem : ∀ i, i ∈ ss ↔ (S.F i).isSome = true ∧ left (keyI i) = false
theorem Seen.step {S : Sx} {left : Lit → Bool} {ss : List Int} (h : Seen S left ss) {x : Int} (hx : (S.F x).isSome = true) (hl : left (keyI x) = true) : Seen S (fun z => left z && !z.sameKey (keyI x)) (ss ++ [x]) := by
  have hno : x ∉ ss := fun hm => by rw [((h.mem x).1 hm).2] at hl; cases hl
  refine ⟨List.nodup_append.2 ⟨h.nod, by simp, fun a ha b hb e => ?_⟩, fun i => ?_⟩
  · rw [List.mem_singleton.1 hb] at e
    exact hno (e ▸ ha)
  · rw [List.mem_append, List.mem_singleton, h.mem i]
    by_cases e : i = x
    · subst e
      simp [hx, Lit.sameKey]
    · have : (keyI i).sameKey (keyI x) = false := by simpa [Lit.sameKey] using e
      simp [this, e]
def cntB (S : Sx) (p : Cn → Bool) (ss : List Int) : Nat := (ss.filter (fun i => (S.F i).any p)).length
theorem cntB_snoc (S : Sx) (p : Cn → Bool) (ss : List Int) {i : Int} {x : Cn} (hx : S.F i = some x) : cntB S p (ss ++ [i]) = if p x then cntB S p ss + 1 else cntB S p ss := by
  unfold cntB
  rw [List.filter_append, List.length_append]
  cases hp : p x with
  | true => rw [List.filter_cons_of_pos (by simp [hx, hp])]; simp
  | false => rw [List.filter_cons_of_neg (by simp [hx, hp])]; simp
theorem cntB_le (S : Sx) (p : Cn → Bool) (ss : List Int) : cntB S p ss ≤ ss.length := List.length_filter_le _ _
set_option maxHeartbeats 4000000 in
set_option maxRecDepth 1000000 in
theorem scount_any (t : ByteArray) (bt : Nat) (B : Nat) (w : World) (lab : Nat → Int) (sb : Nat) (S : Sx) (h : SAt B w lab sb S) (hbt : w.heap[bt]? = some (.cells #[.string t] 9 (0, 0))) (ht : t.size ≤ maxLen) (hN : S.nn ≤ 1000000000) :
    Calls Try.prog 34 #[ptrV sb, .func (.func 38) #[] #[ptrV bt]] w fun e w' => ∃ ss : List Int, e = .returned (.int .i64 (cntB S (fun x => waitsB x t.data.toList) ss : Nat)) ∧ (ss.Nodup ∧ ∀ i, i ∈ ss ↔ (S.F i).isSome = true) ∧ Below w.heap.size w w' := by
  have HS : Hid (SAt B w lab sb S) := h
  have c0 := h.cell0.1
  have slt := h.lt
  obtain ⟨D, hown, hsz, hat⟩ := h.tab
  have HO : Hid (w.ownsMap Try.prog 3 heldElemI S.mb S.nn D) := hown
  have HZ : Hid (Maps.size D = S.nn) := hsz
  have HG : Hid (∀ i : Int, has D (keyI i) = ((S.F i).map (fun x => ptrV x.blk)).isSome ∧ ∀ v, (S.F i).map (fun x => ptrV x.blk) = some v → ∀ d, D.atKey (keyI i) d = .held v) := hat
  have HBT : Hid (w.heap[bt]? = some (.cells #[.string t] 9 (0, 0))) := hbt
  have hml : S.mb < w.heap.size := hown.lt
  clear h hown hsz hat hbt
  go_enter Try.func34, Try.ntmps34
  go_wp2_with (at_range; refine wpList_range_own _ rfl _ 47 rfl 3 57 keyedI Try.underlying47 _ S.mb S.nn _ rfl HO.out ?_; intro w0 hrg0 hg0 hs0)
  go_frame
  have HS0 : Hid (w0.heap.size = w.heap.size + 1) := hs0
  clear hs0
  go_loopw [5] (fun v wr => ∃ (left : Lit → Bool) (cnt : Nat) (ss : List Int), v = .int .i64 (cntB S (fun x => waitsB x t.data.toList) ss : Nat) ∧ wr.ranges Try.prog 3 heldElemI S.mb w.heap.size S.nn D left cnt ∧ ss.length + cnt ≤ S.nn ∧ Seen S left ss ∧ Below w.heap.size w wr)
    (fun _ wr => wr.rangeLeft S.mb w.heap.size)
  case atStart =>
    refine ⟨_, _, [], rfl, hrg0, by rw [HZ.out]; simp, ⟨List.nodup_nil, fun i => ?_⟩, (Below.refl _ _).grown hg0 (Nat.le_refl _) (fun j hj => by cases hj)⟩
    rw [(HG.out i).1, Option.isSome_map]
    simp only [List.not_mem_nil, false_iff]
    rintro ⟨h1, h2⟩
    rw [h1] at h2
    cases h2
  case round =>
    obtain ⟨left, cnt, ss, rfl, hrg, hcs, hsn, hbl⟩ := hrel
    have HSN : Hid (Seen S left ss) := hsn
    have HBW : Hid (Below w.heap.size w wr) := hbl
    have HRG : Hid (wr.ranges Try.prog 3 heldElemI S.mb w.heap.size S.nn D left cnt) := hrg
    have hcb := cntB_le S (fun x => waitsB x t.data.toList) ss
    obtain ⟨c0', hc0'⟩ : ∃ c, c = cntB S (fun x => waitsB x t.data.toList) ss := ⟨_, rfl⟩
    have HC : Hid (c0' = cntB S (fun x => waitsB x t.data.toList) ss) := hc0'
    rw [← hc0'] at hcb ⊢
    clear hsn hbl hrg hrg0 hg0 hc0'
    go_wp2_with (at_next; refine wpList_next_ranges _ rfl _ rfl 3 keyedI heldElemI (Value.int .i64) (fun v : Value => v) (fun key kl hk => by obtain ⟨x, hx, _⟩ := Maps.keyOf_int_inv Try.underlying3 hk; exact ⟨x, hx⟩) (fun v y _ => ⟨v, rfl⟩) S.mb w.heap.size S.nn _ _ _ rfl HRG.out ?_ ?_)
    · intro hc1 hl0
      have HL0 : Hid (∀ kl, left kl = false) := hl0
      clear hl0
      go_wp2_with fail
      go_ret
      refine ⟨ss, by rw [HC.out]; rfl, ⟨HSN.out.nod, fun i => ?_⟩, HBW.out⟩
      rw [HSN.out.mem i]
      simp [HL0.out]
    · intro x v kl yd yp w2 cnt2 hkey hlk hv hat hrg2 hlt hg2 hs2 hen
      obtain ⟨x', ex, rfl, hxl⟩ := Maps.keyOf_int_inv Try.underlying3 hkey
      cases ex
      have hy : yd = .held v := by
        have : some ((.held v, []) : DataW Value × List MemPlace) = some (yd, yp) := hv
        cases this
        rfl
      have hF : ∃ X, S.F x = some X ∧ v = ptrV X.blk := by
        have h1 := has_true_of_atKey hat
        rw [show has D (Lit.int .i64 x) = has D (keyI x) from rfl, (HG.out x).1, Option.isSome_map] at h1
        obtain ⟨X, hX⟩ := Option.isSome_iff_exists.1 h1
        refine ⟨X, hX, ?_⟩
        have h2 := (HG.out x).2 (ptrV X.blk) (by rw [hX]; rfl) (.held v)
        have h3 := hat (.held v)
        rw [hy] at h3
        have h4 := h2.symm.trans h3
        simpa using h4.symm
      obtain ⟨X, hX, rfl⟩ := hF
      have B2 : Below w.heap.size w w2 := HBW.out.grown hg2 HBW.out.size (fun j hj => by cases hj; exact Nat.le_refl _)
      have SN2 : Hid (Seen S (fun z => left z && !z.sameKey (Lit.int .i64 x)) (ss ++ [x])) := HSN.out.step (by rw [hX]; rfl) hlk
      have HE : Hid (cntB S (fun x => waitsB x t.data.toList) (ss ++ [x]) = if waitsB X t.data.toList then c0' + 1 else c0') := by
        have := cntB_snoc S (fun x => waitsB x t.data.toList) ss hX
        rw [← HC.out] at this
        exact this
      have CW : Hid (Calls Try.prog 38 #[ptrV X.blk, ptrV bt] w2 fun e w' => e = .returned (.bool (waitsB X t.data.toList)) ∧ w' = w2) :=
        waiting1_any t bt w2 lab x X ((HS.out.each x X hX).kept (P := fun _ => False) (Kept.ofBelow (B2.mono (Nat.le_refl _))) (fun _ _ h => h.elim) (fun _ _ => rfl)) ((B2.block bt (Array.getElem?_eq_some_iff.1 HBT.out).1).trans HBT.out) ht
      have HW2 : Hid (w2.ranges Try.prog 3 heldElemI S.mb w.heap.size S.nn D (fun z => left z && !z.sameKey (Lit.int .i64 x)) cnt2 ∧ cnt2 < cnt ∧ Below w.heap.size w w2) := ⟨hrg2, hlt, B2⟩
      have hss : ss.length + 1 ≤ S.nn := by omega
      clear hs2 hrg2 hg2 hat hkey hv hy hxl B2 hX
      cases hq : waitsB X t.data.toList with
      | true =>
        rw [hq] at CW
        have HE2 : Hid (cntB S (fun x => waitsB x t.data.toList) (ss ++ [x]) = c0' + 1) := HE.out.trans (by rw [hq]; rfl)
        clear hq
        go_wp2_with (go_at_call 38; refine CW.out.mono ?_; rintro e w3 ⟨rfl, hw'⟩; obtain rfl := hw'.symm)
        exact ⟨⟨_, cnt2, ss ++ [x], by rw [HE2.out]; go_num, HW2.out.1, by have := HW2.out.2.1; simp; omega, SN2.out, HW2.out.2.2⟩, by rw [HW2.out.1.left_eq, HRG.out.left_eq]; exact HW2.out.2.1⟩
      | false =>
        rw [hq] at CW
        have HE2 : Hid (cntB S (fun x => waitsB x t.data.toList) (ss ++ [x]) = c0') := HE.out.trans (by rw [hq]; rfl)
        clear hq
        go_wp2_with (go_at_call 38; refine CW.out.mono ?_; rintro e w3 ⟨rfl, hw'⟩; obtain rfl := hw'.symm)
        exact ⟨⟨_, cnt2, ss ++ [x], by rw [HE2.out], HW2.out.1, by have := HW2.out.2.1; simp; omega, SN2.out, HW2.out.2.2⟩, by rw [HW2.out.1.left_eq, HRG.out.left_eq]; exact HW2.out.2.1⟩
set_option maxHeartbeats 2000000 in
set_option maxRecDepth 1000000 in
theorem waiting_any (t : ByteArray) (B : Nat) (w : World) (lab : Nat → Int) (sb : Nat) (S : Sx) (h : SAt B w lab sb S) (ht : t.size ≤ maxLen) (hN : S.nn ≤ 1000000000) :
    Calls Try.prog 14 #[ptrV sb, .string t] w fun e w' => ∃ ss : List Int, e = .returned (.int .i64 (cntB S (fun x => waitsB x t.data.toList) ss : Nat)) ∧ (ss.Nodup ∧ ∀ i, i ∈ ss ↔ (S.F i).isSome = true) ∧ Below w.heap.size w w' := by
  obtain ⟨w1, hw1⟩ : ∃ w1, w1 = w.alloc (.cells #[.string t] 9) := ⟨_, rfl⟩
  have B1 : Below w.heap.size w w1 := by rw [hw1]; exact (Below.refl _ w).alloc (Nat.le_refl _) _
  have CC : Hid (Calls Try.prog 34 #[ptrV sb, .func (.func 38) #[] #[ptrV w.heap.size]] w1 fun e w' => ∃ c : Int, e = .returned (.int .i64 c) ∧ (∃ ss : List Int, c = (cntB S (fun x => waitsB x t.data.toList) ss : Nat) ∧ (ss.Nodup ∧ ∀ i, i ∈ ss ↔ (S.F i).isSome = true)) ∧ Below w1.heap.size w1 w') :=
    (scount_any t w.heap.size B w1 lab sb S (h.later B1) (by rw [hw1]; exact heap_alloc_new w _) ht hN).mono fun e w' ⟨ss, h1, h2, h3⟩ => ⟨_, h1, ⟨ss, rfl, h2⟩, h3⟩
  have HW1 : Hid (w1 = w.alloc (.cells #[.string t] 9) ∧ Below w.heap.size w w1) := ⟨hw1, B1⟩
  clear hw1 B1 h
  go_enter Try.func14, Try.ntmps14
  go_wp2_with (go_at_call 34; rw [← HW1.out.1]; refine CC.out.mono ?_; rintro e w2 ⟨c, rfl, h2, b2⟩; have H2 : Hid ((∃ ss : List Int, c = (cntB S (fun x => waitsB x t.data.toList) ss : Nat) ∧ (ss.Nodup ∧ ∀ i, i ∈ ss ↔ (S.F i).isSome = true)) ∧ Below w1.heap.size w1 w2) := ⟨h2, b2⟩; clear h2 b2)
  go_ret
  obtain ⟨⟨ss, e, h2⟩, b2⟩ := H2.out
  exact ⟨ss, by rw [← e]; rfl, h2, HW1.out.2.trans (b2.mono HW1.out.2.size)⟩
end Go.Proofs.Ytogmobkkpmpdcaa
