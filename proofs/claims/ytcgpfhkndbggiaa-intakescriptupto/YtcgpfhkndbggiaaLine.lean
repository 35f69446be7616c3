/-
  The walk of tellLine.
-/
import Derived.Test.YtcgpfhkndbggiaaTell
import Derived.Laws.IdiomStrings
import Derived.Lib.SmallJoins
import Derived.Laws.Rows
namespace Go.Proofs.Ytcgpfhkndbggiaa
open Go.RowKit

theorem conv_is {w : World} {a : Option Addr} {c n : Nat} {l : List UInt8} (h : IsBytes w a c l) (hn : l.length = n) : (convert 30 9 (.slice a n c)).run Try.prog w = .ok (.string ⟨l.toArray⟩) w := by
  subst hn
  cases a with
  | none =>
    obtain rfl : l = [] := by
      rcases h.2.2 with h | ⟨_, _, e, _⟩
      · exact h
      · cases e
    exact run_convert_bytes_nil w 30 5 Try.underlying30 Try.underlying5 0 c 9 Try.underlying9
  | some p =>
    refine run_convert_bytes_back w 30 9 5 p c l Try.underlying30 Try.underlying5 Try.underlying9 (fun j hj => ?_)
    rw [h.at j hj, nums_get l j l[j] (List.getElem?_eq_getElem hj)]

/-- A call has left it as s' says, and vb is none of its memory. -/
def WentX (vb : Value) (w : World) (ib : Nat) (v : Value) (s' : In) (w' : World) : Prop := ∃ v', InAt w' ib v' s' ∧ Kept (Mine ib v) w w' ∧ ∀ k, Mine ib v' k → Mine ib v k ∨ (w.heap.size ≤ k ∧ vb.ownBlock ≠ some k)
theorem Went.x {w : World} {ib : Nat} {v : Value} {s' : In} {w' : World} (h : Went w ib v s' w') : WentX (.slice none 0 0) w ib v s' w' := by
  obtain ⟨v', h1, h2, h3⟩ := h
  exact ⟨v', h1, h2, fun k hk => (h3 k hk).imp id (fun h => ⟨h, fun e => by cases e⟩)⟩
theorem WentX.went {vb : Value} {w : World} {ib : Nat} {v : Value} {s' : In} {w' : World} (h : WentX vb w ib v s' w') : Went w ib v s' w' := by
  obtain ⟨v', h1, h2, h3⟩ := h
  exact ⟨v', h1, h2, fun k hk => (h3 k hk).imp id (fun h => h.1)⟩
/-- A block of an item is none of the intake's. -/
theorem InAt.item {w : World} {ib rb : Nat} {v : Value} {s : In} {cs : Array Value} (h : InAt w ib v s) (hr : w.heap[rb]? = some (.cells cs 54 (0, 0))) : ¬ Mine ib v rb := by
  obtain ⟨g, came, hb, ho, _⟩ := h
  rintro (rfl | hk)
  · unfold BoxAt at hb
    rw [hb] at hr
    simp at hr
  · rcases ho.2 with ⟨rfl, _⟩ | ⟨g', cap, cur, rfl, _, hg, _⟩
    · cases hk
    · cases hk
      rw [hg] at hr
      simp at hr
theorem WentX.set {vb : Value} {w w1 : World} {ib rb : Nat} {v : Value} {s : In} {cs : Array Value} (h : WentX vb w ib v s w1) (hrb : w.heap.size ≤ rb) (hr : w1.heap[rb]? = some (.cells cs 54 (0, 0))) (i : Nat) (u : Value) :
    WentX vb w ib v s (w1.setCell ⟨rb, i, none⟩ u) ∧ (w1.setCell ⟨rb, i, none⟩ u).heap[rb]? = some (.cells (cs.setIfInBounds i u) 54 (0, 0)) := by
  obtain ⟨v', h1, h2, h3⟩ := h
  obtain ⟨c1, c2⟩ := set_cells hr i u
  have K : Kept (fun k => k = rb) w1 (w1.setCell ⟨rb, i, none⟩ u) := Kept.setCell _ w1 rb i u rfl
  exact ⟨⟨v', h1.kept K (fun k hk e => by subst e; exact h1.item hr hk), h2.step K (fun j hj e => by omega), h3⟩, c1⟩

theorem WentX.item {vb : Value} {w w1 : World} {ib rb : Nat} {v : Value} {s : In} {x0 x1 x2 : Value} (h : WentX vb w ib v s w1) (hrb : w.heap.size ≤ rb) (hr : w1.heap[rb]? = some (.cells #[x0, x1, x2] 54 (0, 0))) (a b c : Value) :
    WentX vb w ib v s (((w1.setCell ⟨rb, 0, none⟩ a).setCell ⟨rb, 1, none⟩ b).setCell ⟨rb, 2, none⟩ c) ∧ (((w1.setCell ⟨rb, 0, none⟩ a).setCell ⟨rb, 1, none⟩ b).setCell ⟨rb, 2, none⟩ c).heap[rb]? = some (.cells #[a, b, c] 54 (0, 0)) := by
  obtain ⟨h1, r1⟩ := h.set hrb hr 0 a
  obtain ⟨h2, r2⟩ := h1.set hrb r1 1 b
  obtain ⟨h3, r3⟩ := h2.set hrb r2 2 c
  exact ⟨h3, r3⟩

set_option maxHeartbeats 4000000 in
set_option maxRecDepth 1000000 in
theorem tellLine_any (w : World) (ib : Nat) (v : Value) (s : In) (h : InAt w ib v s) (hl : s.held.length ≤ 2147483648) (hm : MaxAt w) :
    Calls Try.prog 39 #[.pointer (some ⟨ib, 0, none⟩)] w fun e w' => e = .returned (itemV s.tellLine.1.kind s.tellLine.1.text (.slice none 0 0)) ∧ s.tellLine.1.body = [] ∧ Went w ib v s.tellLine.2 w' := by
  obtain ⟨g, came, hbox, hown, hg, hheld, hgh⟩ := h
  have hcl : came.length = g + s.held.length := by rw [← hheld]; simp; omega
  have hcl2 : came.length ≤ 4611686018427387904 := by omega
  obtain ⟨w1, hw1⟩ : ∃ w1, w1 = w.alloc (.cells #[.int .i64 0, .string ⟨#[]⟩, .slice none 0 0] 54) := ⟨_, rfl⟩
  have B1 : Below w.heap.size w w1 := by rw [hw1]; exact (Below.refl _ w).alloc (Nat.le_refl _) _
  have hr1 : w1.heap[w.heap.size]? = some (.cells #[.int .i64 0, .string ⟨#[]⟩, .slice none 0 0] 54 (0, 0)) := by rw [hw1]; exact heap_alloc_last _ _
  have hs1 : w1.heap.size = w.heap.size + 1 := by rw [hw1]; simp
  have HX : Hid (BoxAt w1 ib s.most s.stand s.need v g) := hbox.below B1 hbox.lt
  have HO : Hid (Own w1 0 v came) := hown.below B1
  have HM : Hid (MaxAt w1) := hm.below B1 hm.lt
  have HI0 : Hid (InAt w ib v s) := ⟨g, came, hbox, hown, hg, hheld, hgh⟩
  have HH : Hid (came.drop g = s.held) := hheld
  have HC : Hid (came.length = g + s.held.length ∧ g ≤ s.held.length) := ⟨hcl, hgh⟩
  have HB1 : Hid (Below w.heap.size w w1) := B1
  have HR1 : Hid (w1.heap[w.heap.size]? = some (.cells #[.int .i64 0, .string ⟨#[]⟩, .slice none 0 0] 54 (0, 0))) := hr1
  have HS1 : Hid (w1.heap.size = w.heap.size + 1) := hs1
  have HW1 : Hid (w1 = w.alloc (.cells #[.int .i64 0, .string ⟨#[]⟩, .slice none 0 0] 54)) := hw1
  have kc := fun (w : World) (C : Array Value) (n c : Nat) => Lib.run_convert_bytes_const (P := Try.prog) w 30 5 C n c Try.underlying30 Try.underlying5
  clear hbox hown hm hheld hcl hgh B1 hr1 hs1 hw1
  go_enter Try.func39, Try.ntmps39
  go_wp2_with fail
  rw [← HW1.out]
  refine (window_any w1 ib _ _ _ v g came HX.out HO.out hg hcl2).mono ?_
  rintro e w2 ⟨⟨a, c, rfl, hi, ha⟩, n2, hW⟩
  have B2 : Below w1.heap.size w1 w2 := by rw [hW]; exact below_drewN (Below.refl _ w1) n2
  have I2 : IsBytes w2 a c (s.held.take 224) := by rw [HH.out] at hi; rw [hW]; exact hi
  have M2 : MaxAt w2 := by rw [hW]; exact HM.out
  rw [HH.out]
  have HI : Hid (IsBytes w2 a c (s.held.take 224)) := I2
  have HA : Hid (a = none → c = 0) := ha
  have HB2 : Hid (Below w1.heap.size w1 w2) := B2
  have HM2 : Hid (MaxAt w2) := M2
  obtain ⟨L, hL⟩ : ∃ L, L = (s.held.take 224).length := ⟨_, rfl⟩
  have hL2 : L ≤ 224 := by rw [hL]; simp; omega
  rw [← hL]
  have HL : Hid ((s.held.take 224).length = L) := hL.symm
  clear hi ha hW B2 I2 M2 hL
  go_wp2_with fail
  have HC2 := cut_any a (some ⟨w2.heap.size, 0, none⟩) c 2 (s.held.take 224) _ (HI.out.below ((Below.refl _ w2).alloc (Nat.le_refl _) _)) HA.out (ends w2) (by simp; omega) (HM2.out.alloc _)
  rw [HL.out] at HC2
  refine HC2.mono ?_
  rintro e w3 ⟨⟨n, r, rfl, hn⟩, B3⟩
  clear HC2
  have B13 : Below w1.heap.size w1 w3 := HB2.out.trans ((((Below.refl _ w2).alloc (Nat.le_refl _) _).trans (B3.mono (by simp))).mono HB2.out.size)
  have I3 : IsBytes w3 a c (s.held.take 224) := (HI.out.below ((Below.refl _ w2).alloc (Nat.le_refl _) _)).below B3
  have HI3 : Hid (IsBytes w3 a c (s.held.take 224)) := I3
  have HB3 : Hid (Below w1.heap.size w1 w3) := B13
  have hs13 := B13.size
  have hs11 := HS1.out
  clear B3 B13 I3
  cases hf : find (s.held.take 224) with
  | none =>
    have HT : Hid (s.tellLine = (.none, s)) := by
      show s.tellLine = _
      unfold In.tellLine
      rw [show find s.window = none from hf]
    clear hf hn
    have hr3 : w3.heap[w.heap.size]? = _ := (HB3.out.block w.heap.size (by omega)).trans HR1.out
    have c0 : w3.cell? ⟨w.heap.size, 0, none⟩ = some (.int .i64 0) := by simp [World.cell?, hr3]
    have c1 : w3.cell? ⟨w.heap.size, 1, none⟩ = some (.string ⟨#[]⟩) := by simp [World.cell?, hr3]
    have c2 : w3.cell? ⟨w.heap.size, 2, none⟩ = some (.slice none 0 0) := by simp [World.cell?, hr3]
    have f0 : ∀ i, w3.frozen? ⟨w.heap.size, i, none⟩ = false := fun i => by simp [World.frozen?, hr3]
    have f00 := f0 0
    have f01 := f0 1
    have f02 := f0 2
    clear f0
    simp only [Option.isSome_none]
    have hw3 : WentX (.slice none 0 0) w ib v s w3 := Went.x ⟨v, HI0.out.below (HB1.out.trans (HB3.out.mono HB1.out.size)), Kept.ofBelow (HB1.out.trans (HB3.out.mono HB1.out.size)), fun k h => .inl h⟩
    obtain ⟨q1, q2⟩ := hw3.item (Nat.le_refl _) hr3 (.int .i64 0) (.string ⟨#[]⟩) (.slice none 0 0)
    have HQ1 : Hid (WentX (.slice none 0 0) w ib v s (((w3.setCell ⟨w.heap.size, 0, none⟩ (.int .i64 0)).setCell ⟨w.heap.size, 1, none⟩ (.string ⟨#[]⟩)).setCell ⟨w.heap.size, 2, none⟩ (.slice none 0 0))) := q1
    have HQ2 : Hid ((((w3.setCell ⟨w.heap.size, 0, none⟩ (.int .i64 0)).setCell ⟨w.heap.size, 1, none⟩ (.string ⟨#[]⟩)).setCell ⟨w.heap.size, 2, none⟩ (.slice none 0 0)).heap[w.heap.size]? = some (.cells #[.int .i64 0, .string ⟨#[]⟩, .slice none 0 0] 54 (0, 0))) := q2
    clear hr3 hw3 q1 q2
    go_wp2
    refine bodyPost_ret (results_cell_row rfl _ _ w.heap.size 54 _ (0, 0) _ rfl HQ2.out Try.underlying54 rfl (by kernel_rfl)) rfl ?_
    rw [HT.out]
    exact ⟨rfl, rfl, HQ1.out.went⟩
  | some k =>
    have hk := find_room hf
    rw [List.length_take] at hk
    obtain rfl := hn k hf
    have HT : Hid (s.tellLine = (⟨1, s.held.take n, []⟩, { s with held := s.held.drop (n + 2) })) := by
      show s.tellLine = _
      unfold In.tellLine
      rw [show find s.window = some n from hf]
    have hI : IsBytes w3 a c (s.held.take n) := by
      have := HI3.out.take n
      rwa [List.take_take, Nat.min_eq_left (by omega)] at this
    have hcv := conv_is hI (show (s.held.take n).length = n by simp; omega)
    have hnc : n ≤ c := by have := hI.1; simp at this; omega
    have hn2 : (n : Int) + 2 ≤ 224 := by omega
    obtain ⟨w4, hw4⟩ : ∃ w4, w4 = w3.alloc (.cells #[.int .i64 1, .string ⟨(s.held.take n).toArray⟩, .slice none 0 0] 54) := ⟨_, rfl⟩
    have B4 : Below w3.heap.size w3 w4 := by rw [hw4]; exact (Below.refl _ w3).alloc (Nat.le_refl _) _
    have HB4 : Hid (Below w1.heap.size w1 w4) := HB3.out.trans (B4.mono HB3.out.size)
    have HR4 : Hid (w4.heap[w3.heap.size]? = some (.cells #[.int .i64 1, .string ⟨(s.held.take n).toArray⟩, .slice none 0 0] 54 (0, 0))) := by
      show w4.heap[w3.heap.size]? = _
      rw [hw4]; exact heap_alloc_last _ _
    have HS4 : Hid (w4.heap.size = w3.heap.size + 1) := by show w4.heap.size = _; rw [hw4]; simp
    have HW4 : Hid (w4 = w3.alloc (.cells #[.int .i64 1, .string ⟨(s.held.take n).toArray⟩, .slice none 0 0] 54)) := hw4
    have hlt1 : ib < w1.heap.size := HX.out.lt
    have HCN : Hid (n + 2 ≤ s.held.length) := by show n + 2 ≤ _; omega
    clear hf hn hk B4 hw4 hI
    simp only [Option.isSome_some]
    go_wp2_with fail
    rw [← HW4.out]
    have D := drop_any w4 ib _ _ _ v g came (n + 2) (HX.out.below HB4.out hlt1) (HO.out.below HB4.out) (by have := HC.out; have := HCN.out; omega) (by have := HC.out; omega)
    rw [show ((n + 2 : Nat) : Int) = (n : Int) + 2 by omega] at D
    refine D.mono ?_
    clear D
    rintro e w5 ⟨rfl, v5, g5, came5, bx5, ow5, hg5, hd5, hh5, K5, hv5⟩
    have hd : came5.drop g5 = s.held.drop (n + 2) := by rw [hd5, ← HH.out, List.drop_drop]
    have K05 : Kept (Mine ib v) w w5 := ((Kept.ofBelow (HB1.out.trans (HB4.out.mono HB1.out.size))).trans K5).mono (fun k _ e => .inl e)
    have hw5 : WentX (.slice none 0 0) w ib v s.tellLine.2 w5 := by
      rw [HT.out]
      refine Went.x ⟨v5, ⟨g5, came5, bx5, ow5, hg5, hd, ?_⟩, K05, ?_⟩
      · show g5 ≤ (s.held.drop (n + 2)).length
        rw [← hd]; simpa using hh5
      · rintro k (rfl | hk)
        · exact .inl (.inl rfl)
        · rcases hv5 with rfl | hv5
          · exact .inl (.inr hk)
          · exact .inr (by have := hv5 k hk; have := HS4.out; omega)
    have r5 : w5.heap[w3.heap.size]? = _ := (K5.block w3.heap.size (by have := HS4.out; omega) (by omega)).trans HR4.out
    have hr5 : w5.heap[w.heap.size]? = _ := (K5.block w.heap.size (by have := HS4.out; omega) (fun e => by have := HI0.out.lt ib (.inl rfl); omega)).trans ((HB4.out.block w.heap.size (by omega)).trans HR1.out)
    have c0 : w5.cell? ⟨w.heap.size, 0, none⟩ = some (.int .i64 0) := by simp [World.cell?, hr5]
    have c1 : w5.cell? ⟨w.heap.size, 1, none⟩ = some (.string ⟨#[]⟩) := by simp [World.cell?, hr5]
    have c2 : w5.cell? ⟨w.heap.size, 2, none⟩ = some (.slice none 0 0) := by simp [World.cell?, hr5]
    have f0 : ∀ i, w5.frozen? ⟨w.heap.size, i, none⟩ = false := fun i => by simp [World.frozen?, hr5]
    have f00 := f0 0
    have f01 := f0 1
    have f02 := f0 2
    have d0 : w5.cell? ⟨w3.heap.size, 0, none⟩ = some (.int .i64 1) := by simp [World.cell?, r5]
    have d1 : w5.cell? ⟨w3.heap.size, 1, none⟩ = some (.string ⟨(s.held.take n).toArray⟩) := by simp [World.cell?, r5]
    have d2 : w5.cell? ⟨w3.heap.size, 2, none⟩ = some (.slice none 0 0) := by simp [World.cell?, r5]
    obtain ⟨q1, q2⟩ := hw5.item (Nat.le_refl _) hr5 (.int .i64 1) (.string ⟨(s.held.take n).toArray⟩) (.slice none 0 0)
    have HQ1 : Hid (WentX (.slice none 0 0) w ib v s.tellLine.2 (((w5.setCell ⟨w.heap.size, 0, none⟩ (.int .i64 1)).setCell ⟨w.heap.size, 1, none⟩ (.string ⟨(s.held.take n).toArray⟩)).setCell ⟨w.heap.size, 2, none⟩ (.slice none 0 0))) := q1
    have HQ2 : Hid ((((w5.setCell ⟨w.heap.size, 0, none⟩ (.int .i64 1)).setCell ⟨w.heap.size, 1, none⟩ (.string ⟨(s.held.take n).toArray⟩)).setCell ⟨w.heap.size, 2, none⟩ (.slice none 0 0)).heap[w.heap.size]? = some (.cells #[.int .i64 1, .string ⟨(s.held.take n).toArray⟩, .slice none 0 0] 54 (0, 0))) := q2
    clear bx5 ow5 hg5 hd5 hh5 K5 hv5 hd K05 hw5 r5 hr5 f0 q1 q2
    go_wp2
    refine bodyPost_ret (results_cell_row rfl _ _ w.heap.size 54 _ (0, 0) _ rfl HQ2.out Try.underlying54 rfl (by kernel_rfl)) rfl ?_
    rw [HT.out]
    have := HQ1.out.went
    rw [HT.out] at this
    exact ⟨rfl, rfl, this⟩
end Go.Proofs.Ytcgpfhkndbggiaa
