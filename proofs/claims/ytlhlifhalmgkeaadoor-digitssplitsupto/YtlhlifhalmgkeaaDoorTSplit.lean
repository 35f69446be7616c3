/-
  The walk of the method split.
-/
import Derived.Test.YtlhlifhalmgkeaaDoorTKeep
import Derived.Test.YtlhlifhalmgkeaaDoorRefSplit
namespace Go.Proofs.YtlhlifhalmgkeaaDoor
open Go.RowKit Go.Lib

theorem pieces_count : ∀ (l cur : List UInt8), (pieces l cur).length ≤ l.length + 1
  | [], cur => by simp [pieces]
  | c :: r, cur => by
    rw [pieces]
    split
    · have := pieces_count r []
      simp; omega
    · have := pieces_count r (cur ++ [c])
      simp; omega

/-- What Split answers, whichever way. -/
def splitA (s : ByteArray) : List (List UInt8) := (splitL s.data.toList).getD []
theorem splitA_len (s : ByteArray) : (splitA s).length ≤ s.size + 1 := by
  unfold splitA splitL
  split
  · have := pieces_count s.data.toList []
    have h : s.data.toList.length = s.size := by simp
    simp; omega
  · simp

theorem split_own {s : ByteArray} {w w' : World} {e : Ending} (h : SplitPost s w e w') : Below w.heap.size w w' ∧ ∃ a c l, e = .returned (.tuple #[.slice a l.length c, .bool (splitL s.data.toList).isSome]) ∧ OwnS w' w.heap.size (.slice a l.length c) l ∧ l.map (·.data.toList) = splitA s := by
  obtain ⟨hb, h⟩ := h
  refine ⟨hb, ?_⟩
  rcases h with ⟨h1, rfl⟩ | ⟨ws, g, cap, h1, rfl, _, h2⟩
  · exact ⟨none, 0, [], by rw [h1]; rfl, OwnS.nil _ _, by unfold splitA; rw [h1]; rfl⟩
  · exact ⟨some ⟨g, 0, none⟩, cap, ws, by rw [h1]; rfl, h2, by unfold splitA; rw [h1]; rfl⟩

theorem lists_eq {l m : List ByteArray} (h : l.map (·.data.toList) = m.map (·.data.toList)) : l = m := by
  induction l generalizing m with
  | nil => cases m with
    | nil => rfl
    | cons => simp at h
  | cons x l ih => cases m with
    | nil => simp at h
    | cons y m =>
      simp only [List.map_cons, List.cons.injEq] at h
      rw [ih h.2, WideShapes.bytes_inj h.1]

set_option maxHeartbeats 1000000 in
set_option maxRecDepth 1000000 in
theorem bookSplit_any (s : ByteArray) (w : World) (B : Nat) (lab : Nat → Tag) (Hb : Nat) (fr : Value) (ok : Nat → Nat → Prop) (es : List Ent) (hh : Held w B lab Hb fr ok es) (hB : B ≤ w.heap.size) (hok : ok es.length es.length) (hs : s.size ≤ 1048576) (he : es.length ≤ 65536) :
    Calls Tryd.prog 5 #[.pointer (some ⟨Hb, 0, none⟩), .string s] w fun e w' => e = .returned (.bool true) ∧
      ∃ lab' f, Held w' B lab' Hb fr ok (es ++ [f]) ∧ f.bytes.length ≤ 1048577 ∧ (∀ k, k < w.heap.size → lab' k = lab k) ∧ Kept (Lists lab) w w' := by
  have HH : Hid (Held w B lab Hb fr ok es) := hh
  have HOK : Hid (ok es.length es.length) := hok
  clear hh hok
  obtain ⟨b, hb⟩ : ∃ b, b = (splitL s.data.toList).isSome := ⟨_, rfl⟩
  have HBB : Hid (b = (splitL s.data.toList).isSome) := hb
  clear hb
  go_enter Tryd.func5, Tryd.ntmps5
  go_wp2_with fail
  refine (split_any s w (by omega)).mono ?_
  intro e w1 hp1
  obtain ⟨B1, a1, c1, l1, rfl, own1, hm1⟩ := split_own hp1
  rw [← HBB.out]
  have hz1 := B1.size
  obtain ⟨lab1, hlab1⟩ : ∃ lab1 : Nat → Tag, lab1 = fun k => if k < w.heap.size then lab k else .out es.length := ⟨_, rfl⟩
  have hl1 : ∀ k, k < w.heap.size → lab1 k = lab k := fun k hk => by rw [hlab1]; simp [hk]
  have TV : Hid (Tagged lab1 (.slice a1 l1.length c1) (.out es.length)) := fun g hg => by have := (own1.lt g hg).1; rw [hlab1]; simp only []; rw [if_neg (by omega)]
  have HL1 : Hid (∀ k, k < w.heap.size → lab1 k = lab k) := hl1
  have H1 : Hid (Held w1 B lab1 Hb fr ok es) := (HH.out.relabel hl1).below B1
  have O1 : Hid (OwnS w1 B (.slice a1 l1.length c1) l1) := own1.mono hB
  have HB1 : Hid (Below w.heap.size w w1) := B1
  have HM1 : Hid (l1.map (·.data.toList) = splitA s) := hm1
  have hlen : l1.length ≤ 1048577 := by
    have h1 := congrArg List.length hm1
    rw [List.length_map] at h1
    have := splitA_len s
    omega
  clear hp1 own1 hm1 B1 hl1 hlab1
  go_wp2_with fail
  refine (refSplit_any s w1 (by omega)).mono ?_
  intro e w2 hp2
  obtain ⟨B2, a2, c2, l2, rfl, own2, hm2⟩ := split_own hp2
  rw [← HBB.out]
  obtain rfl : l2 = l1 := lists_eq (hm2.trans HM1.out.symm)
  obtain ⟨a3, c3, h3, is2⟩ := own2.shape
  simp only [Value.slice.injEq] at h3
  obtain ⟨rfl, _, rfl⟩ := h3
  have H2 : Hid (Held w2 B lab1 Hb fr ok es) := H1.out.below B2
  have O2 : Hid (OwnS w2 B (.slice a1 l2.length c1) l2) := O1.out.below B2
  have I2 : Hid (IsStrs w2 a2 c2 l2) := is2
  have HB2 : Hid (Below w.heap.size w w2) := HB1.out.trans (B2.mono hz1)
  clear hp2 own2 hm2 B2 is2 H1 O1 HB1 HM1
  go_wp2_with fail
  have is1 : IsStrs w2 a1 c1 l2 := by
    obtain ⟨_, _, hq, h⟩ := O2.out.shape
    simp only [Value.slice.injEq] at hq
    obtain ⟨rfl, _, rfl⟩ := hq
    exact h
  refine (same_yes _ _ _ _ l2 w2 is1 I2.out).mono ?_
  rintro e w3 ⟨rfl, n3, hW⟩
  have B3 : Below w2.heap.size w2 w3 := by rw [hW]; exact below_drewN (Below.refl _ w2) n3
  have H3 : Hid (Held w3 B lab1 Hb fr ok es) := H2.out.below B3
  have O3 : Hid (OwnS w3 B (.slice a1 l2.length c1) l2) := O2.out.below B3
  have HB3 : Hid (Below w.heap.size w w3) := HB2.out.trans (B3.mono HB2.out.size)
  have hz3 := HB3.out.size
  clear hW B3 H2 O2 I2 is1 HB2
  go_wp2_with fail
  refine (keep_any w3 B lab1 Hb fr ok es a1 c1 l2 H3.out (by omega) O3.out TV.out HOK.out (by omega) (by omega)).mono ?_
  rintro e w4 ⟨rfl, lab4, cw4, hh4, hl4, hk4⟩
  have H4 : Hid (Held w4 B lab4 Hb fr ok (es ++ [⟨.slice a1 l2.length c1, cw4, l2⟩])) := hh4
  have HL4 : Hid (∀ k, k < w3.heap.size → lab4 k = lab1 k) := hl4
  have K4 : Hid (Kept (Lists lab1) w3 w4) := hk4
  clear hh4 hl4 hk4
  cases b
  all_goals
    go_wp2
    go_ret
    refine ⟨rfl, lab4, ⟨.slice a1 l2.length c1, cw4, l2⟩, H4.out, hlen, fun k hk => (HL4.out k (by omega)).trans (HL1.out k hk), (Kept.ofBelow HB3.out : Kept (Lists lab) w _).step K4.out (fun k hk h => ?_)⟩
    unfold Lists at h ⊢
    rwa [HL1.out k hk] at h
end Go.Proofs.YtlhlifhalmgkeaaDoor
