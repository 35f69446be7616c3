/-
  The walk of IntakeCuts.
-/
import Derived.Test.YtabpicbhhplcgaaDrain
import Derived.Test.YtabpicbhhplcgaaAlike
import Derived.Test.YtabpicbhhplcgaaFed
import Derived.Test.YtabpicbhhplcgaaWalkNames
namespace Go.Proofs.Ytabpicbhhplcgaa.intakeCuts
open Go.RowKit

theorem feed_n (w : World) (ib : Nat) (v : Value) (s : In) (a : Option Addr) (c n : Nat) (b : List UInt8) (hn : b.length = n) (h : InAt w ib v s) (hb : IsBytes w a c b) (hl : s.held.length ≤ 2147483648) (hbl : b.length ≤ 2147483648) (hnd : s.need ≤ 4294967297) (hm : MaxAt w) :
    Calls Try.prog 18 #[.pointer (some ⟨ib, 0, none⟩), .slice a n c] w fun e w' => e = .returned (.tuple #[]) ∧ Went w ib v (s.feed b) w' := by
  subst hn
  exact feed_any w ib v s a c b h hb hl hbl hnd hm
/-- A reader that was made here, from block B on. -/
def Side (w wr : World) (rb ib : Nat) (asz : Option Addr) (csz : Nat) (sz : List Int) (v : Value) (s : In) (n : Nat) (vi : Value) (P : List (Told × Value)) : Prop := RdAt wr rb ib asz csz sz v s n vi P ∧ (∀ k, RMine rb ib v vi P k → w.heap.size ≤ k) ∧ s.Fit
theorem Side.step {w wr w' : World} {rb ib : Nat} {asz : Option Addr} {csz : Nat} {sz : List Int} {v v' : Value} {s s' : In} {n n' : Nat} {vi vi' : Value} {P P' : List (Told × Value)} (h : Side w wr rb ib asz csz sz v s n vi P) (hB : Below w.heap.size w wr) (ht : Turned wr w' rb ib v vi P v' vi' P') (hr : RdAt w' rb ib asz csz sz v' s' n' vi' P') (hf : s'.Fit) : Side w w' rb ib asz csz sz v' s' n' vi' P' ∧ Below w.heap.size w w' := by
  refine ⟨⟨hr, fun k hk => ?_, hf⟩, hB.trans (ht.1.below hB.size (fun k hk hm => by have := h.2.1 k hm; omega))⟩
  rcases ht.2 k hk with e | e
  · exact h.2.1 k e
  · have := hB.size; omega
/-- The other one stays. -/
theorem Side.stay {w wr w' : World} {rb ib rb' ib' : Nat} {asz : Option Addr} {csz : Nat} {sz : List Int} {v : Value} {s : In} {n : Nat} {vi : Value} {P : List (Told × Value)} {v1 vi1 v2 vi2 : Value} {P1 P2 : List (Told × Value)} (h : Side w wr rb ib asz csz sz v s n vi P) (ht : Turned wr w' rb' ib' v1 vi1 P1 v2 vi2 P2) (hd : ∀ k, RMine rb ib v vi P k → ¬ RMine rb' ib' v1 vi1 P1 k) : Side w w' rb ib asz csz sz v s n vi P ∧ ∀ k, RMine rb ib v vi P k → ¬ RMine rb' ib' v2 vi2 P2 k := by
  refine ⟨⟨h.1.kept ht.1 hd, h.2.1, h.2.2⟩, fun k hk hm => ?_⟩
  rcases ht.2 k hm with e | e
  · exact hd k hk e
  · have := h.1.lt k hk; omega
theorem Side.went {w wr w' : World} {rb ib : Nat} {asz : Option Addr} {csz : Nat} {sz : List Int} {v : Value} {s s' : In} {n : Nat} {vi : Value} {P : List (Told × Value)} (h : Side w wr rb ib asz csz sz v s n vi P) (hw : Went wr ib v s' w') : ∃ v', RdAt w' rb ib asz csz sz v' s' n vi P ∧ Turned wr w' rb ib v vi P v' vi P := by
  obtain ⟨v', h1, h2, _⟩ := h.1.went hw.x
  exact ⟨v', h1, h2⟩
theorem Side.zero {w wr : World} {rb ib : Nat} {asz : Option Addr} {csz : Nat} {sz : List Int} {v : Value} {s : In} {n : Nat} {vi : Value} {P : List (Told × Value)} (h : Side w wr rb ib asz csz sz v s n vi P) (hm : MaxAt w) : ¬ RMine rb ib v vi P 0 := fun e => by have := h.2.1 0 e; have := hm.lt; omega

theorem rmine_new {rb ib k : Nat} (h : RMine rb ib (.slice none 0 0) (.slice none 0 0) [] k) : k = rb ∨ k = ib := by
  rcases h with e | (e | e) | e | ⟨p, hp, _⟩
  · exact .inl e
  · exact .inr e
  · cases e
  · cases e
  · cases hp
theorem apart_sz {w wr : World} {rb ib : Nat} {asz : Option Addr} {csz : Nat} {sz : List Int} {v : Value} {s : In} {n : Nat} {vi : Value} {P : List (Told × Value)} (h : Side w wr rb ib asz csz sz v s n vi P) (hz : ∀ b o, asz = some ⟨b, o, none⟩ → sz ≠ [] → b < w.heap.size) : ∀ b o, asz = some ⟨b, o, none⟩ → sz ≠ [] → ¬ RMine rb ib v vi P b := fun b o e hne hm => by have := hz b o e hne; have := h.2.1 b hm; omega
theorem ints_below {w w' : World} {a : Option Addr} {c : Nat} {l : List Int} (h : IsInts w a c l) (hb : Below w.heap.size w w') : IsInts w' a c l := by
  obtain ⟨h1, h2, h3, h4⟩ := h
  refine ⟨h1, h2, h3, ?_⟩
  rcases h4 with e | ⟨b, o, e, hbl, hc⟩
  · exact .inl e
  · exact .inr ⟨b, o, e, Nat.lt_of_lt_of_le hbl hb.size, fun j x hj => (hb.cell (p := ⟨b, o + j, none⟩) hbl).trans (hc j x hj)⟩
theorem mu_le (s : In) : mu s ≤ 2 * s.held.length + 1 := by unfold mu; split <;> omega
theorem mu_feed (s : In) (r : List UInt8) : mu (s.feed r) ≤ mu s + 2 * r.length := by
  have h1 : (s.feed r).held.length ≤ s.held.length + r.length := by show (s.held ++ r.drop _).length ≤ _; simp
  unfold mu
  show 2 * (s.feed r).held.length + (if s.stand = 0 then 0 else 1) ≤ _
  split <;> omega
theorem Side.below {w wr w' : World} {rb ib : Nat} {asz : Option Addr} {csz : Nat} {sz : List Int} {v : Value} {s : In} {n : Nat} {vi : Value} {P : List (Told × Value)} (h : Side w wr rb ib asz csz sz v s n vi P) (hb : Below wr.heap.size wr w') : Side w w' rb ib asz csz sz v s n vi P := ⟨(h.1.below hb).1, h.2.1, h.2.2⟩
theorem rd_slice {w : World} {rb ib : Nat} {asz : Option Addr} {csz : Nat} {sz : List Int} {v : Value} {s : In} {n : Nat} {vi : Value} {P : List (Told × Value)} (h : RdAt w rb ib asz csz sz v s n vi P) : ∃ a c, vi = .slice a P.length c ∧ P.length ≤ c := by
  rcases h.row.2 with ⟨rfl, e⟩ | ⟨g, cap, cur, rfl, _, _, h1, _⟩
  · exact ⟨none, 0, by rw [e], by omega⟩
  · exact ⟨_, _, rfl, h1⟩
/-- An item, read. -/
theorem rd_item {w : World} {rb ib : Nat} {asz : Option Addr} {csz : Nat} {sz : List Int} {v : Value} {s : In} {n : Nat} {a : Option Addr} {m c : Nat} {P : List (Told × Value)} (h : RdAt w rb ib asz csz sz v s n (.slice a m c) P) {i : Nat} {p : Told × Value} (hi : P[i]? = some p) :
    ∃ g u cu, a = some ⟨g, 0, none⟩ ∧ g < w.heap.size ∧ w.cell? ⟨g, i * 3, none⟩ = some (.int .i64 p.1.kind) ∧ w.cell? ⟨g, i * 3 + 1, none⟩ = some (.string ⟨p.1.text.toArray⟩) ∧ w.cell? ⟨g, i * 3 + 2, none⟩ = some (.slice u p.1.body.length cu) ∧ IsBytes w u cu p.1.body := by
  have hil := (List.getElem?_eq_some_iff.1 hi).1
  obtain ⟨u, cu, hu, iu, _⟩ := (h.bod p (List.mem_of_getElem? hi)).slice
  rcases h.row.2 with ⟨_, e⟩ | ⟨g, cap, cur, e, _, hg, _⟩
  · omega
  · cases e
    have key : ∀ k x, k < 3 → (cellsI p)[k]? = some x → w.cell? ⟨g, i * 3 + k, none⟩ = some x := fun k x hk hx => by
      have := h.row.cells (g := g) rfl (i * 3 + k) x ((flatI_get P i p hi k hk).trans hx)
      rw [Go.WideShapes.add_plain, Nat.zero_add] at this
      exact this
    exact ⟨g, u, cu, rfl, (Array.getElem?_eq_some_iff.1 hg).1, key 0 _ (by decide) rfl, key 1 _ (by decide) rfl, by have := key 2 p.2 (by decide) rfl; rwa [hu] at this, iu⟩
/-- As the loop finds the two. -/
def Inv (w : World) (ib1 ib2 rb1 rb2 : Nat) (asz : Option Addr) (csz : Nat) (sz : List Int) (mx : Int) (text : List UInt8) (v1 : Value) (s1 : In) (n1 : Nat) (vi1 : Value) (P1 : List (Told × Value)) (k fr : Nat) (wr : World) : Prop :=
  ∃ v2 s2 n2 vi2 P2, Side w wr rb1 ib1 asz csz sz v1 s1 n1 vi1 P1 ∧ Side w wr rb2 ib2 asz csz sz v2 s2 n2 vi2 P2 ∧ (∀ j, RMine rb1 ib1 v1 vi1 P1 j → ¬ RMine rb2 ib2 v2 vi2 P2 j) ∧ Below w.heap.size w wr ∧ s2.held.length ≤ fr ∧ P2.length + mu s2 ≤ 2 * fr + k + 1 ∧ n2 ≤ P2.length ∧
    ∀ i2 s3 n3, Drains sz (s2.feed (text.drop fr)) n2 i2 s3 n3 → Drains sz ((In.new mx).feed text) 0 (P2.map (·.1) ++ i2) s3 n3

set_option maxHeartbeats 8000000 in
set_option maxRecDepth 1000000 in
theorem walk (mx : Int) (a : Option Addr) (c : Nat) (text : List UInt8) (a' : Option Addr) (c' : Nat) (cuts : List Int) (asz : Option Addr) (csz : Nat) (sz : List Int) (w : World) (hx : -9223372036854775808 ≤ mx ∧ mx ≤ 9223372036854775807) (h : IsBytes w a c text ∧ (a = none → c = 0)) (hcu : IsInts w a' c' cuts ∧ (a' = none → c' = 0)) (hsz : IsInts w asz csz sz ∧ (asz = none → csz = 0)) (hb1 : text.length ≤ 1048576) (hb2 : cuts.length ≤ 1048576) (hm : MaxAt w) :
    Calls Try.prog 4 #[.int .i64 mx, .slice a text.length c, .slice a' cuts.length c', .slice asz sz.length csz] w fun e w' => e = .returned (.bool true) ∧ Below w.heap.size w w' := by
  have HM : Hid (MaxAt w) := hm
  have HX : Hid (IsBytes w a c text) := h.1
  have HCU : Hid (IsInts w a' c' cuts) := hcu.1
  have HSZ : Hid (IsInts w asz csz sz) := hsz.1
  have hxc : text.length ≤ c := h.1.1
  have hxm : c ≤ 9223372036854775807 := by have := h.1.2.1; unfold maxLen at this; omega
  have hclc : cuts.length ≤ c' := hcu.1.1
  have HZB : Hid (∀ b o, asz = some ⟨b, o, none⟩ → sz ≠ [] → b < w.heap.size) := fun b o e hne => by
    rcases hsz.1.2.2.2 with e2 | ⟨b2, o2, e2, hb, _⟩
    · exact absurd e2 hne
    · rw [e] at e2; cases e2; exact hb
  clear h hm hcu hsz
  have h0 : 0 ≠ w.heap.size := by have := HM.out.lt; omega
  by_cases hr : mx < 1 ∨ 65535 < mx
  · go_enter Try.func4, Try.ntmps4
    go_wp2_with fail
    refine (shown_any w HM.out).mono ?_
    rintro e w1 ⟨rfl, B1⟩
    have HB1 : Hid (Below w.heap.size w w1) := B1
    clear B1
    go_wp2_with fail
    refine (new_no w1 mx hr).mono ?_
    rintro e w2 ⟨rfl, hW⟩
    have hW := hW.symm
    subst hW
    go_wp2_with fail
    refine (new_no w1 mx hr).mono ?_
    rintro e w2 ⟨rfl, hW⟩
    have hW := hW.symm
    subst hW
    by_cases h1 : mx < 1
    · go_wp2
      go_ret
      exact ⟨rfl, HB1.out⟩
    · have h2 : (65535 : Int) < mx := by omega
      go_wp2
      go_ret
      exact ⟨rfl, HB1.out⟩
  have t1 : ¬ mx < 1 := by omega
  have t2 : ¬ (65535 : Int) < mx := by omega
  go_enter Try.func4, Try.ntmps4
  go_wp2_with fail
  refine (shown_any w HM.out).mono ?_
  rintro e w1 ⟨rfl, B1⟩
  have HB1 : Hid (Below w.heap.size w w1) := B1
  clear B1
  go_wp2_with fail
  refine (new_yes w1 mx (by omega) (by omega)).mono ?_
  rintro e w2 ⟨rfl, hI2, B2⟩
  have hsz1 := HB1.out.size
  have HI2 : Hid (InAt w2 w1.heap.size (.slice none 0 0) (In.new mx) ∧ Below w1.heap.size w1 w2) := ⟨hI2, B2⟩
  clear hI2 B2
  go_wp2_with fail
  refine (new_yes w2 mx (by omega) (by omega)).mono ?_
  rintro e w3 ⟨rfl, hI3, B3⟩
  have hlt12 : w1.heap.size < w2.heap.size := HI2.out.1.lt _ (.inl rfl)
  have HI3 : Hid (InAt w3 w2.heap.size (.slice none 0 0) (In.new mx) ∧ InAt w3 w1.heap.size (.slice none 0 0) (In.new mx) ∧ Below w.heap.size w w3) := ⟨hI3, HI2.out.1.below B3, (HB1.out.trans (HI2.out.2.mono hsz1)).trans (B3.mono (by omega))⟩
  have hlt23 : w2.heap.size < w3.heap.size := hI3.lt _ (.inl rfl)
  clear hI3 B3
  obtain ⟨w5, hw5⟩ : ∃ w5, w5 = (w3.alloc (.cells #[.pointer (some ⟨w1.heap.size, 0, none⟩), .slice asz sz.length csz, .int .i64 0, .slice none 0 0] 49)).alloc (.cells #[.pointer (some ⟨w2.heap.size, 0, none⟩), .slice asz sz.length csz, .int .i64 0, .slice none 0 0] 49) := ⟨_, rfl⟩
  have B5 : Below w3.heap.size w3 w5 := by rw [hw5]; exact ((Below.refl _ w3).alloc (Nat.le_refl _) _).alloc (by simp) _
  have HW5 : Hid (w5 = (w3.alloc (.cells #[.pointer (some ⟨w1.heap.size, 0, none⟩), .slice asz sz.length csz, .int .i64 0, .slice none 0 0] 49)).alloc (.cells #[.pointer (some ⟨w2.heap.size, 0, none⟩), .slice asz sz.length csz, .int .i64 0, .slice none 0 0] 49)) := hw5
  have x1 : w5.heap[w3.heap.size]? = some (.cells #[.pointer (some ⟨w1.heap.size, 0, none⟩), .slice asz sz.length csz, .int .i64 ((0 : Nat) : Int), .slice none 0 0] 49 (0, 0)) := by
    rw [hw5, heap_alloc_old _ _ (by simp)]; exact heap_alloc_last _ _
  have x2 : w5.heap[w3.heap.size + 1]? = some (.cells #[.pointer (some ⟨w2.heap.size, 0, none⟩), .slice asz sz.length csz, .int .i64 ((0 : Nat) : Int), .slice none 0 0] 49 (0, 0)) := by
    rw [hw5]
    have := heap_alloc_last (w3.alloc (.cells #[.pointer (some ⟨w1.heap.size, 0, none⟩), .slice asz sz.length csz, .int .i64 0, .slice none 0 0] 49)) (.cells #[.pointer (some ⟨w2.heap.size, 0, none⟩), .slice asz sz.length csz, .int .i64 0, .slice none 0 0] 49)
    rwa [World.size_alloc] at this
  have hsz3 := HI3.out.2.2.size
  have fitN : (In.new mx).Fit := ⟨by show 0 < 4; omega, by show 0 ≤ 4294967297; omega, by show 0 ≤ 2147483648; omega⟩
  have side1 : Side w w5 w3.heap.size w1.heap.size asz csz sz (.slice none 0 0) (In.new mx) 0 (.slice none 0 0) [] := by
    refine ⟨⟨HI3.out.2.1.below B5, x1, World.ownsRow_nil _ _ _ _, (fun p hp => by cases hp), (fun p hp => by cases hp)⟩, ?_, fitN⟩
    rintro k (rfl | (rfl | e) | e | ⟨p, hp, _⟩)
    · exact hsz3
    · exact hsz1
    · cases e
    · cases e
    · cases hp
  have side2 : Side w w5 (w3.heap.size + 1) w2.heap.size asz csz sz (.slice none 0 0) (In.new mx) 0 (.slice none 0 0) [] := by
    refine ⟨⟨HI3.out.1.below B5, x2, World.ownsRow_nil _ _ _ _, (fun p hp => by cases hp), (fun p hp => by cases hp)⟩, ?_, fitN⟩
    rintro k (rfl | (rfl | e) | e | ⟨p, hp, _⟩)
    · omega
    · omega
    · cases e
    · cases e
    · cases hp
  have disj : ∀ k, RMine w3.heap.size w1.heap.size (.slice none 0 0) (.slice none 0 0) [] k → ¬ RMine (w3.heap.size + 1) w2.heap.size (.slice none 0 0) (.slice none 0 0) [] k := by
    intro k h1 h2
    have g1 := rmine_new h1
    have g2 := rmine_new h2
    omega
  have HS5 : Hid (Side w w5 w3.heap.size w1.heap.size asz csz sz (.slice none 0 0) (In.new mx) 0 (.slice none 0 0) [] ∧ Side w w5 (w3.heap.size + 1) w2.heap.size asz csz sz (.slice none 0 0) (In.new mx) 0 (.slice none 0 0) [] ∧ (∀ k, RMine w3.heap.size w1.heap.size (.slice none 0 0) (.slice none 0 0) [] k → ¬ RMine (w3.heap.size + 1) w2.heap.size (.slice none 0 0) (.slice none 0 0) [] k) ∧ Below w.heap.size w w5) := ⟨side1, side2, disj, HI3.out.2.2.trans (B5.mono hsz3)⟩
  obtain ⟨ib1, hib1⟩ : ∃ ib1, ib1 = w1.heap.size := ⟨_, rfl⟩
  obtain ⟨ib2, hib2⟩ : ∃ ib2, ib2 = w2.heap.size := ⟨_, rfl⟩
  have hne1 : 0 ≠ ib1 := by omega
  have hne2 : 0 ≠ ib2 := by omega
  rw [← hib1, ← hib2] at HS5 HW5
  rw [← hib1, ← hib2]
  clear hw5 B5 x1 x2 side1 side2 disj hib1 hib2 HI3 HI2 fitN
  go_wp2_with fail
  rw [← HW5.out]
  obtain ⟨rb1, hrb1⟩ : ∃ rb1, rb1 = w3.heap.size := ⟨_, rfl⟩
  obtain ⟨rb2, hrb2⟩ : ∃ rb2, rb2 = w3.heap.size + 1 := ⟨_, rfl⟩
  rw [← hrb2, ← hrb1] at HS5
  rw [← hrb2, ← hrb1]
  clear HW5 hrb1 hrb2 hlt12 hlt23 hsz3 hsz1 HB1
  refine (feed_n w5 ib1 (.slice none 0 0) (In.new mx) a c text.length text rfl HS5.out.1.1.inat (HX.out.below HS5.out.2.2.2) (show 0 ≤ 2147483648 by omega) (by omega) (show 0 ≤ 4294967297 by omega) (HM.out.below HS5.out.2.2.2 HM.out.lt)).mono ?_
  rintro e w6 ⟨rfl, W6⟩
  obtain ⟨v6, rd6, tu6⟩ := HS5.out.1.went W6
  obtain ⟨g1, g2⟩ := HS5.out.1.step HS5.out.2.2.2 tu6 rd6 (feed_fit HS5.out.1.2.2 text (show 0 + text.length ≤ 2147483648 by omega)).1
  obtain ⟨g3, g4⟩ := HS5.out.2.1.stay tu6 (fun k h1 h2 => HS5.out.2.2.1 k h2 h1)
  obtain ⟨s6, hs6⟩ : ∃ s6, s6 = (In.new mx).feed text := ⟨_, rfl⟩
  rw [← hs6] at g1
  have HS6 : Hid (Side w w6 rb1 ib1 asz csz sz v6 s6 0 (.slice none 0 0) [] ∧ Side w w6 rb2 ib2 asz csz sz (.slice none 0 0) (In.new mx) 0 (.slice none 0 0) [] ∧ (∀ k, RMine rb2 ib2 (.slice none 0 0) (.slice none 0 0) [] k → ¬ RMine rb1 ib1 v6 (.slice none 0 0) [] k) ∧ Below w.heap.size w w6) := ⟨g1, g3, g4, g2⟩
  have hmu6 : mu s6 ≤ 2097153 := by have h1 := mu_feed (In.new mx) text; have h2 : mu (In.new mx) = 0 := rfl; rw [hs6]; omega
  have HE6 : Hid (s6 = (In.new mx).feed text) := hs6
  clear W6 rd6 tu6 g1 g2 g3 g4 hs6 HS5
  go_wp2_with fail
  refine (drain_any w6 rb1 ib1 asz csz sz v6 s6 0 (.slice none 0 0) [] HS6.out.1.1 HS6.out.1.2.2 (ints_below HSZ.out HS6.out.2.2.2) (apart_sz HS6.out.1 HZB.out) (HM.out.below HS6.out.2.2.2 HM.out.lt) (HS6.out.1.zero HM.out) (by simp; omega) (by omega)).mono ?_
  rintro e w7 ⟨rfl, v7, s7, n7, vi7, P7, rd7, dr7, tu7, fit7, hl7, hc7, hn7⟩
  simp only [List.nil_append] at rd7 tu7
  obtain ⟨g1, g2⟩ := HS6.out.1.step HS6.out.2.2.2 tu7 rd7 fit7
  obtain ⟨g3, g4⟩ := HS6.out.2.1.stay tu7 HS6.out.2.2.1
  have HX7 : Hid (Drains sz ((In.new mx).feed text) 0 (P7.map (·.1)) s7 n7) := by rw [← HE6.out]; exact dr7
  have hP7 : P7.length ≤ 4194304 := by omega
  have HS7 : Hid (Inv w ib1 ib2 rb1 rb2 asz csz sz mx text v7 s7 n7 vi7 P7 0 0 w7) := ⟨.slice none 0 0, In.new mx, 0, .slice none 0 0, [], g1, g3, fun k h1 h2 => g4 k h2 h1, g2, Nat.zero_le _, by show 0 + mu (In.new mx) ≤ _; rw [show mu (In.new mx) = 0 from rfl]; omega, Nat.zero_le _, fun i2 s3 n3 hd => by simpa using hd⟩
  clear rd7 dr7 tu7 fit7 hl7 hc7 hn7 g1 g2 g3 g4 HS6 HE6
  go_wp2
  go_loopg [15, 69] cuts.length (fun gk s15 s69 wr => ∃ k fr : Nat, s15 = .int .i64 fr ∧ s69 = .int .i64 k ∧ k ≤ cuts.length ∧ cuts.length - k ≤ gk ∧ fr ≤ text.length ∧ Hid (Inv w ib1 ib2 rb1 rb2 asz csz sz mx text v7 s7 n7 vi7 P7 k fr wr))
  case atStart => exact ⟨0, 0, rfl, rfl, Nat.zero_le _, Nat.le_refl _, Nat.zero_le _, HS7⟩
  case round =>
    obtain ⟨k, fr, rfl, rfl, hk, hgk, hfr, HI⟩ := hrel
    obtain ⟨v2, s2, n2, vi2, P2, sd1, sd2, hdj, hB, hhl, hcn, hn2, hdr⟩ := HI.out
    by_cases hp : k < cuts.length
    · have hpi : (k : Int) < (cuts.length : Int) := by omega
      obtain ⟨z, hz⟩ : ∃ z, cuts[k]? = some z := ⟨_, List.getElem?_eq_getElem hp⟩
      obtain ⟨bz, oz, rfl, cz⟩ : ∃ bz oz, a' = some ⟨bz, oz, none⟩ ∧ wr.cell? ⟨bz, oz + k, none⟩ = some (.int .i64 z) := by
        rcases HCU.out.2.2.2 with e | ⟨bz, oz, e, hbz, hcc⟩
        · rw [e] at hp; simp at hp
        · exact ⟨bz, oz, e, (hB.cell (p := ⟨bz, oz + k, none⟩) hbz).trans (hcc k z hz)⟩
      by_cases hcf : c = fr
      · subst hcf
        have HS : Hid (Side w wr rb1 ib1 asz csz sz v7 s7 n7 vi7 P7 ∧ Side w wr rb2 ib2 asz csz sz v2 s2 n2 vi2 P2 ∧ (∀ j, RMine rb1 ib1 v7 vi7 P7 j → ¬ RMine rb2 ib2 v2 vi2 P2 j) ∧ Below w.heap.size w wr) := ⟨sd1, sd2, hdj, hB⟩
        have HDR : Hid (∀ i2 s3 n3, Drains sz (s2.feed (text.drop c)) n2 i2 s3 n3 → Drains sz ((In.new mx).feed text) 0 (P2.map (·.1) ++ i2) s3 n3) := hdr
        clear sd1 sd2 hdj hB hdr HI hz HS7
        go_wp2_with fail
        refine (among_any z ((text.length : Int) - (c : Int) + 1) wr (by omega)).mono ?_
        rintro e w3' ⟨rfl, hW⟩
        have hW := hW.symm
        subst hW
        have har := among_range (i := z) (n := (text.length : Int) - (c : Int) + 1) (by omega)
        obtain ⟨j, hj⟩ : ∃ j : Nat, amongI z ((text.length : Int) - (c : Int) + 1) = j := ⟨(amongI z ((text.length : Int) - (c : Int) + 1)).toNat, by omega⟩
        rw [hj] at har
        rw [hj]
        have hjl : c + j ≤ text.length := by omega
        clear hj har
        have HB4 : Hid (IsBytes wr a c text) := HX.out.below HS.out.2.2.2
        go_wp2_with fail
        all_goals (
          refine (feed_n wr ib2 v2 s2 _ _ _ ((text.drop c).take j) (by simp; omega) HS.out.2.1.1.inat (by first | exact HB4.out.seg c j hfr | (rw [show (text.drop c).take j = [] from List.eq_nil_of_length_eq_zero (by simp; omega)]; exact IsBytes.empty _ _ (by unfold maxLen; omega))) (by omega) (by simp; omega) HS.out.2.1.2.2.need (HM.out.below HS.out.2.2.2 HM.out.lt)).mono ?_
          rintro e w4 ⟨rfl, W4⟩
          obtain ⟨v4, rd4, tu4⟩ := HS.out.2.1.went W4
          have hbl : ((text.drop c).take j).length = j := by simp; omega
          obtain ⟨ff1, ff2⟩ := feed_fit HS.out.2.1.2.2 ((text.drop c).take j) (by omega)
          obtain ⟨g1, g2⟩ := HS.out.2.1.step HS.out.2.2.2 tu4 rd4 ff1
          obtain ⟨g3, g4⟩ := HS.out.1.stay tu4 HS.out.2.2.1
          obtain ⟨s4, hs4⟩ : ∃ s4, s4 = s2.feed ((text.drop c).take j) := ⟨_, rfl⟩
          have hmu4 : mu s4 ≤ mu s2 + 2 * j := by rw [hs4]; have := mu_feed s2 ((text.drop c).take j); omega
          rw [← hs4] at g1 ff2
          have hdr4 : ∀ i2 s3 n3, Drains sz (s4.feed (text.drop (c + j))) n2 i2 s3 n3 → Drains sz ((In.new mx).feed text) 0 (P2.map (·.1) ++ i2) s3 n3 := fun i2 s3 n3 hd => by
            refine HDR.out i2 s3 n3 ?_
            rw [hs4, feed_feed] at hd
            rwa [show (text.drop c).take j ++ text.drop (c + j) = text.drop c by rw [← List.drop_drop, List.take_append_drop]] at hd
          have HS4 : Hid (Side w w4 rb1 ib1 asz csz sz v7 s7 n7 vi7 P7 ∧ Side w w4 rb2 ib2 asz csz sz v4 s4 n2 vi2 P2 ∧ (∀ j, RMine rb1 ib1 v7 vi7 P7 j → ¬ RMine rb2 ib2 v4 vi2 P2 j) ∧ Below w.heap.size w w4) := ⟨g3, g1, g4, g2⟩
          have HDR4 : Hid (∀ i2 s3 n3, Drains sz (s4.feed (text.drop (c + j))) n2 i2 s3 n3 → Drains sz ((In.new mx).feed text) 0 (P2.map (·.1) ++ i2) s3 n3) := hdr4
          have hhl4 : s4.held.length ≤ c + j := by omega
          clear W4 rd4 tu4 ff1 ff2 g1 g2 g3 g4 hs4 hdr4 hbl cz
          by_cases hk3 : k % 3 = 2
          · have u1 : ((k : Int) % 3 != 2) = false := by simp; omega
            have u2 : ((k : Int).tmod 3 != 2) = false := by rw [Int.tmod_eq_emod_of_nonneg (by omega)]; exact u1
            have u3 : (k % 3 != 2) = false := by simp [hk3]
            have HN : Hid (Inv w ib1 ib2 rb1 rb2 asz csz sz mx text v7 s7 n7 vi7 P7 (k + 1) (c + j) w4) := ⟨v4, s4, n2, vi2, P2, HS4.out.1, HS4.out.2.1, HS4.out.2.2.1, HS4.out.2.2.2, hhl4, by omega, hn2, HDR4.out⟩
            go_wp2
            go_roundg (cuts.length - (k + 1))
            case measure => omega
            case rel => exact ⟨k + 1, c + j, by go_num, by go_num, by omega, Nat.le_refl _, hjl, HN⟩
          · have u1 : ((k : Int) % 3 != 2) = true := by simp; omega
            have u2 : ((k : Int).tmod 3 != 2) = true := by rw [Int.tmod_eq_emod_of_nonneg (by omega)]; exact u1
            have u3 : (k % 3 != 2) = true := by simp [hk3]
            clear hk3
            go_wp2_with fail
            refine (drain_any w4 rb2 ib2 asz csz sz v4 s4 n2 vi2 P2 HS4.out.2.1.1 HS4.out.2.1.2.2 (ints_below HSZ.out HS4.out.2.2.2) (apart_sz HS4.out.2.1 HZB.out) (HM.out.below HS4.out.2.2.2 HM.out.lt) (HS4.out.2.1.zero HM.out) (by omega) (by omega)).mono ?_
            rintro e w5 ⟨rfl, v5, s5, n5, vi5, P5, rd5, dr5, tu5, fit5, hl5, hc5, hn5⟩
            obtain ⟨g1, g2⟩ := HS4.out.2.1.step HS4.out.2.2.2 tu5 rd5 fit5
            obtain ⟨g3, g4⟩ := HS4.out.1.stay tu5 HS4.out.2.2.1
            have HN : Hid (Inv w ib1 ib2 rb1 rb2 asz csz sz mx text v7 s7 n7 vi7 P7 (k + 1) (c + j) w5) := by
              refine ⟨v5, s5, n5, vi5, P2 ++ P5, g3, g1, g4, g2, by omega, by simp; omega, by simp; omega, fun i2 s6 n6 hd => ?_⟩
              have := HDR4.out _ s6 n6 (Drains.feed (text.drop (c + j)) HS4.out.2.1.2.2.stand dr5 hd)
              simpa using this
            clear rd5 dr5 tu5 fit5 hl5 hc5 hn5 g1 g2 g3 g4
            go_wp2
            go_roundg (cuts.length - (k + 1))
            case measure => omega
            case rel => exact ⟨k + 1, c + j, by go_num, by go_num, by omega, Nat.le_refl _, hjl, HN⟩)
      · skip
        have HS : Hid (Side w wr rb1 ib1 asz csz sz v7 s7 n7 vi7 P7 ∧ Side w wr rb2 ib2 asz csz sz v2 s2 n2 vi2 P2 ∧ (∀ j, RMine rb1 ib1 v7 vi7 P7 j → ¬ RMine rb2 ib2 v2 vi2 P2 j) ∧ Below w.heap.size w wr) := ⟨sd1, sd2, hdj, hB⟩
        have HDR : Hid (∀ i2 s3 n3, Drains sz (s2.feed (text.drop fr)) n2 i2 s3 n3 → Drains sz ((In.new mx).feed text) 0 (P2.map (·.1) ++ i2) s3 n3) := hdr
        clear sd1 sd2 hdj hB hdr HI hz HS7
        go_wp2_with fail
        refine (among_any z ((text.length : Int) - (fr : Int) + 1) wr (by omega)).mono ?_
        rintro e w3' ⟨rfl, hW⟩
        have hW := hW.symm
        subst hW
        have har := among_range (i := z) (n := (text.length : Int) - (fr : Int) + 1) (by omega)
        obtain ⟨j, hj⟩ : ∃ j : Nat, amongI z ((text.length : Int) - (fr : Int) + 1) = j := ⟨(amongI z ((text.length : Int) - (fr : Int) + 1)).toNat, by omega⟩
        rw [hj] at har
        rw [hj]
        have hjl : fr + j ≤ text.length := by omega
        clear hj har
        have HB4 : Hid (IsBytes wr a c text) := HX.out.below HS.out.2.2.2
        go_wp2_with fail
        all_goals (
          refine (feed_n wr ib2 v2 s2 _ _ _ ((text.drop fr).take j) (by simp; omega) HS.out.2.1.1.inat (by first | exact HB4.out.seg fr j hfr | (rw [show (text.drop fr).take j = [] from List.eq_nil_of_length_eq_zero (by simp; omega)]; exact IsBytes.empty _ _ (by unfold maxLen; omega))) (by omega) (by simp; omega) HS.out.2.1.2.2.need (HM.out.below HS.out.2.2.2 HM.out.lt)).mono ?_
          rintro e w4 ⟨rfl, W4⟩
          obtain ⟨v4, rd4, tu4⟩ := HS.out.2.1.went W4
          have hbl : ((text.drop fr).take j).length = j := by simp; omega
          obtain ⟨ff1, ff2⟩ := feed_fit HS.out.2.1.2.2 ((text.drop fr).take j) (by omega)
          obtain ⟨g1, g2⟩ := HS.out.2.1.step HS.out.2.2.2 tu4 rd4 ff1
          obtain ⟨g3, g4⟩ := HS.out.1.stay tu4 HS.out.2.2.1
          obtain ⟨s4, hs4⟩ : ∃ s4, s4 = s2.feed ((text.drop fr).take j) := ⟨_, rfl⟩
          have hmu4 : mu s4 ≤ mu s2 + 2 * j := by rw [hs4]; have := mu_feed s2 ((text.drop fr).take j); omega
          rw [← hs4] at g1 ff2
          have hdr4 : ∀ i2 s3 n3, Drains sz (s4.feed (text.drop (fr + j))) n2 i2 s3 n3 → Drains sz ((In.new mx).feed text) 0 (P2.map (·.1) ++ i2) s3 n3 := fun i2 s3 n3 hd => by
            refine HDR.out i2 s3 n3 ?_
            rw [hs4, feed_feed] at hd
            rwa [show (text.drop fr).take j ++ text.drop (fr + j) = text.drop fr by rw [← List.drop_drop, List.take_append_drop]] at hd
          have HS4 : Hid (Side w w4 rb1 ib1 asz csz sz v7 s7 n7 vi7 P7 ∧ Side w w4 rb2 ib2 asz csz sz v4 s4 n2 vi2 P2 ∧ (∀ j, RMine rb1 ib1 v7 vi7 P7 j → ¬ RMine rb2 ib2 v4 vi2 P2 j) ∧ Below w.heap.size w w4) := ⟨g3, g1, g4, g2⟩
          have HDR4 : Hid (∀ i2 s3 n3, Drains sz (s4.feed (text.drop (fr + j))) n2 i2 s3 n3 → Drains sz ((In.new mx).feed text) 0 (P2.map (·.1) ++ i2) s3 n3) := hdr4
          have hhl4 : s4.held.length ≤ fr + j := by omega
          clear W4 rd4 tu4 ff1 ff2 g1 g2 g3 g4 hs4 hdr4 hbl cz
          by_cases hk3 : k % 3 = 2
          · have u1 : ((k : Int) % 3 != 2) = false := by simp; omega
            have u2 : ((k : Int).tmod 3 != 2) = false := by rw [Int.tmod_eq_emod_of_nonneg (by omega)]; exact u1
            have u3 : (k % 3 != 2) = false := by simp [hk3]
            have HN : Hid (Inv w ib1 ib2 rb1 rb2 asz csz sz mx text v7 s7 n7 vi7 P7 (k + 1) (fr + j) w4) := ⟨v4, s4, n2, vi2, P2, HS4.out.1, HS4.out.2.1, HS4.out.2.2.1, HS4.out.2.2.2, hhl4, by omega, hn2, HDR4.out⟩
            go_wp2
            go_roundg (cuts.length - (k + 1))
            case measure => omega
            case rel => exact ⟨k + 1, fr + j, by go_num, by go_num, by omega, Nat.le_refl _, hjl, HN⟩
          · have u1 : ((k : Int) % 3 != 2) = true := by simp; omega
            have u2 : ((k : Int).tmod 3 != 2) = true := by rw [Int.tmod_eq_emod_of_nonneg (by omega)]; exact u1
            have u3 : (k % 3 != 2) = true := by simp [hk3]
            clear hk3
            go_wp2_with fail
            refine (drain_any w4 rb2 ib2 asz csz sz v4 s4 n2 vi2 P2 HS4.out.2.1.1 HS4.out.2.1.2.2 (ints_below HSZ.out HS4.out.2.2.2) (apart_sz HS4.out.2.1 HZB.out) (HM.out.below HS4.out.2.2.2 HM.out.lt) (HS4.out.2.1.zero HM.out) (by omega) (by omega)).mono ?_
            rintro e w5 ⟨rfl, v5, s5, n5, vi5, P5, rd5, dr5, tu5, fit5, hl5, hc5, hn5⟩
            obtain ⟨g1, g2⟩ := HS4.out.2.1.step HS4.out.2.2.2 tu5 rd5 fit5
            obtain ⟨g3, g4⟩ := HS4.out.1.stay tu5 HS4.out.2.2.1
            have HN : Hid (Inv w ib1 ib2 rb1 rb2 asz csz sz mx text v7 s7 n7 vi7 P7 (k + 1) (fr + j) w5) := by
              refine ⟨v5, s5, n5, vi5, P2 ++ P5, g3, g1, g4, g2, by omega, by simp; omega, by simp; omega, fun i2 s6 n6 hd => ?_⟩
              have := HDR4.out _ s6 n6 (Drains.feed (text.drop (fr + j)) HS4.out.2.1.2.2.stand dr5 hd)
              simpa using this
            clear rd5 dr5 tu5 fit5 hl5 hc5 hn5 g1 g2 g3 g4
            go_wp2
            go_roundg (cuts.length - (k + 1))
            case measure => omega
            case rel => exact ⟨k + 1, fr + j, by go_num, by go_num, by omega, Nat.le_refl _, hjl, HN⟩)
    · have hpi : ¬ (k : Int) < (cuts.length : Int) := by omega
      by_cases hcf : c = fr
      · subst hcf
        have HS : Hid (Side w wr rb1 ib1 asz csz sz v7 s7 n7 vi7 P7 ∧ Side w wr rb2 ib2 asz csz sz v2 s2 n2 vi2 P2 ∧ (∀ j, RMine rb1 ib1 v7 vi7 P7 j → ¬ RMine rb2 ib2 v2 vi2 P2 j) ∧ Below w.heap.size w wr) := ⟨sd1, sd2, hdj, hB⟩
        have HDR : Hid (∀ i2 s3 n3, Drains sz (s2.feed (text.drop c)) n2 i2 s3 n3 → Drains sz ((In.new mx).feed text) 0 (P2.map (·.1) ++ i2) s3 n3) := hdr
        clear sd1 sd2 hdj hB hdr HI HS7
        have HB4 : Hid (IsBytes wr a c text) := HX.out.below HS.out.2.2.2
        go_wp2_with fail
        refine (feed_n wr ib2 v2 s2 _ _ _ (text.drop c) (by simp <;> omega) HS.out.2.1.1.inat (by first | exact HB4.out.map c hfr | (rw [List.drop_eq_nil_of_le (by omega)]; exact IsBytes.empty _ _ (by unfold maxLen; omega))) (by omega) (by simp; omega) HS.out.2.1.2.2.need (HM.out.below HS.out.2.2.2 HM.out.lt)).mono ?_
        rintro e w4 ⟨rfl, W4⟩
        obtain ⟨v4, rd4, tu4⟩ := HS.out.2.1.went W4
        have hbl : (text.drop c).length = text.length - c := by simp
        obtain ⟨ff1, ff2⟩ := feed_fit HS.out.2.1.2.2 (text.drop c) (by omega)
        obtain ⟨g1, g2⟩ := HS.out.2.1.step HS.out.2.2.2 tu4 rd4 ff1
        obtain ⟨g3, g4⟩ := HS.out.1.stay tu4 HS.out.2.2.1
        have hmu4 := mu_feed s2 (text.drop c)
        have HS4 : Hid (Side w w4 rb1 ib1 asz csz sz v7 s7 n7 vi7 P7 ∧ Side w w4 rb2 ib2 asz csz sz v4 (s2.feed (text.drop c)) n2 vi2 P2 ∧ (∀ j, RMine rb1 ib1 v7 vi7 P7 j → ¬ RMine rb2 ib2 v4 vi2 P2 j) ∧ Below w.heap.size w w4) := ⟨g3, g1, g4, g2⟩
        clear W4 rd4 tu4 ff1 ff2 g1 g2 g3 g4
        go_wp2_with fail
        refine (drain_any w4 rb2 ib2 asz csz sz v4 (s2.feed (text.drop c)) n2 vi2 P2 HS4.out.2.1.1 HS4.out.2.1.2.2 (ints_below HSZ.out HS4.out.2.2.2) (apart_sz HS4.out.2.1 HZB.out) (HM.out.below HS4.out.2.2.2 HM.out.lt) (HS4.out.2.1.zero HM.out) (by omega) (by omega)).mono ?_
        rintro e w5 ⟨rfl, v5, s5, n5, vi5, P5, rd5, dr5, tu5, fit5, _, _, _⟩
        obtain ⟨g1, g2⟩ := HS4.out.2.1.step HS4.out.2.2.2 tu5 rd5 fit5
        obtain ⟨g3, g4⟩ := HS4.out.1.stay tu5 HS4.out.2.2.1
        obtain ⟨e1, e2, _⟩ := Drains.one HX7.out (HDR.out _ s5 n5 dr5)
        have HEQ : Hid (P7.map (·.1) = (P2 ++ P5).map (·.1) ∧ s7 = s5) := ⟨by rw [e1]; simp, e2⟩
        obtain ⟨Q, hQ⟩ : ∃ Q, Q = P2 ++ P5 := ⟨_, rfl⟩
        rw [← hQ] at g1 HEQ
        have HS5 : Hid (Side w w5 rb1 ib1 asz csz sz v7 s7 n7 vi7 P7 ∧ Side w w5 rb2 ib2 asz csz sz v5 s5 n5 vi5 Q ∧ Below w.heap.size w w5) := ⟨g3, g1, g2⟩
        clear rd5 dr5 tu5 fit5 g1 g2 g3 g4 e1 e2 hQ
        obtain ⟨q7, c7, hv7, hq7⟩ := rd_slice HS5.out.1.1
        obtain ⟨q5, c5, hv5, hq5⟩ := rd_slice HS5.out.2.1.1
        have hlen : Q.length = P7.length := by have := congrArg List.length HEQ.out.1; simpa using this.symm
        rw [hlen] at hv5 hq5
        subst hv7 hv5
        obtain ⟨M, hM⟩ : ∃ M, M = P7.length := ⟨_, rfl⟩
        rw [← hM] at HS5 hq7 hq5
        have HML : Hid (M = P7.length ∧ M = Q.length) := ⟨hM, by omega⟩
        have i7 : w5.cell? ⟨rb1, 3, none⟩ = some (.slice q7 M c7) := by simp [World.cell?, HS5.out.1.1.box]
        have i5 : w5.cell? ⟨rb2, 3, none⟩ = some (.slice q5 M c5) := by simp [World.cell?, HS5.out.2.1.1.box]
        have hr1 : rb1 < w5.heap.size := HS5.out.1.1.lt rb1 (.inl rfl)
        have hr2 : rb2 < w5.heap.size := HS5.out.2.1.1.lt rb2 (.inl rfl)
        have hMb : M ≤ 4194304 := by rw [hM]; exact hP7
        have hMM : ((M : Int) != (M : Int)) = false := by simp
        obtain ⟨hh, hhh⟩ : ∃ hh, hh = s7.held.length := ⟨_, rfl⟩
        have hHH : ((hh : Int) != (hh : Int)) = false := by simp
        have HQ1 : Hid (∀ n, Calls Try.prog 14 #[.pointer (some ⟨ib1, 0, none⟩)] (w5.drewN n) fun e w' => e = .returned (.int .i64 (hh : Int)) ∧ ∃ q, w' = (w5.drewN n).drewN q) := fun n => by
          have := Held_in (w5.drewN n) ib1 v7 s7 (HS5.out.1.1.inat.drewN n) HS5.out.1.2.2.held
          rwa [← hhh] at this
        have HQ2 : Hid (∀ n, Calls Try.prog 14 #[.pointer (some ⟨ib2, 0, none⟩)] (w5.drewN n) fun e w' => e = .returned (.int .i64 (hh : Int)) ∧ ∃ q, w' = (w5.drewN n).drewN q) := fun n => by
          have := Held_in (w5.drewN n) ib2 v5 s5 (HS5.out.2.1.1.inat.drewN n) HS5.out.2.1.2.2.held
          rwa [← HEQ.out.2, ← hhh] at this
        clear hM hhh hlen
        go_upto_region 24 with fail
        go_big_quiet ((first | (go_at_call_of 14 ib1; exact Calls.quiet_of (HQ1.out _)) | (go_at_call_of 14 ib2; exact Calls.quiet_of (HQ2.out _))))
        obtain ⟨w6, hw6⟩ : ∃ w6, w6 = w5.drewN nq := ⟨_, rfl⟩
        rw [← hw6]
        have B6 : Below w5.heap.size w5 w6 := by rw [hw6]; exact below_drewN (Below.refl _ w5) nq
        have HS6 : Hid (Side w w6 rb1 ib1 asz csz sz v7 s7 n7 (.slice q7 M c7) P7 ∧ Side w w6 rb2 ib2 asz csz sz v5 s5 n5 (.slice q5 M c5) Q ∧ Below w.heap.size w w6) := ⟨HS5.out.1.below B6, HS5.out.2.1.below B6, HS5.out.2.2.trans (B6.mono HS5.out.2.2.size)⟩
        have k7 : w6.cell? ⟨rb1, 3, none⟩ = some (.slice q7 M c7) := by simp [World.cell?, HS6.out.1.1.box]
        have hr6 : rb1 < w6.heap.size := HS6.out.1.1.lt rb1 (.inl rfl)
        clear hw6 B6 i7 i5 hr1 hr2
        go_wp2
        go_loopg [126] M (fun gk s126 wx => ∃ i : Nat, s126 = .int .i64 i ∧ i ≤ M ∧ M - i ≤ gk ∧ Hid (Side w wx rb1 ib1 asz csz sz v7 s7 n7 (.slice q7 M c7) P7 ∧ Side w wx rb2 ib2 asz csz sz v5 s5 n5 (.slice q5 M c5) Q ∧ Below w.heap.size w wx))
        case atStart => exact ⟨0, rfl, Nat.zero_le _, Nat.le_refl _, HS6⟩
        case round =>
          obtain ⟨i, rfl, hi, hgi, HSx⟩ := hrel
          by_cases hiM : i < M
          · have hii : (i : Int) < (M : Int) := by omega
            obtain ⟨p, hpi1⟩ : ∃ p, P7[i]? = some p := ⟨_, List.getElem?_eq_getElem (by have := HML.out; omega)⟩
            obtain ⟨q, hqi1⟩ : ∃ q, Q[i]? = some q := ⟨_, List.getElem?_eq_getElem (by have := HML.out; omega)⟩
            have hpq : p.1 = q.1 := by
              have h1 : (P7.map (·.1))[i]? = some p.1 := by simp [hpi1]
              have h2 : (Q.map (·.1))[i]? = some q.1 := by simp [hqi1]
              rw [HEQ.out.1, h2] at h1
              exact (Option.some.inj h1).symm
            obtain ⟨g1, u1, cu1, rfl, hg1, y10, y11, y12, iu1⟩ := rd_item HSx.out.1.1 hpi1
            obtain ⟨g2, u2, cu2, rfl, hg2, y20, y21, y22, iu2⟩ := rd_item HSx.out.2.1.1 hqi1
            rw [← hpq] at y20 y21 y22 iu2
            obtain ⟨⟨kd, tt, bb⟩, pv⟩ := p
            simp only [] at y10 y11 y12 iu1 y20 y21 y22 iu2
            obtain ⟨tx, htx⟩ : ∃ tx : ByteArray, tx = ⟨tt.toArray⟩ := ⟨_, rfl⟩
            rw [← htx] at y11 y21
            obtain ⟨lb, hlb⟩ : ∃ lb, lb = bb.length := ⟨_, rfl⟩
            rw [← hlb] at y12 y22
            have z7 : wr.cell? ⟨rb1, 3, none⟩ = some (.slice (some ⟨g1, 0, none⟩) M c7) := by simp [World.cell?, HSx.out.1.1.box]
            have z5 : wr.cell? ⟨rb2, 3, none⟩ = some (.slice (some ⟨g2, 0, none⟩) M c5) := by simp [World.cell?, HSx.out.2.1.1.box]
            have hr1 : rb1 < wr.heap.size := HSx.out.1.1.lt rb1 (.inl rfl)
            have hr2 : rb2 < wr.heap.size := HSx.out.2.1.1.lt rb2 (.inl rfl)
            have HIU : Hid (IsBytes wr u1 cu1 bb ∧ IsBytes wr u2 cu2 bb ∧ bb.length = lb) := ⟨iu1, iu2, hlb.symm⟩
            clear hpi1 hqi1 hpq htx hlb iu1 iu2 k7
            go_upto_region 29 with fail
            refine wp_tail 14 mixed (by kernel_rfl) ?_
            simp only [List.take_succ_cons, List.take_zero, List.drop_succ_cons, List.drop_zero]
            repeat still_step
            refine wpStill_nil ?_
            go_wp2_with fail
            obtain ⟨wd, hwd⟩ : ∃ wd, wd = wr.drew := ⟨_, rfl⟩
            have Bd : Below wr.heap.size wr wd := by rw [hwd]; exact (Below.refl _ wr).drew
            rw [← hwd]
            refine (alike_yes kd tx u1 u2 cu1 cu2 lb bb wd (HIU.out.1.below Bd) (HIU.out.2.1.below Bd) HIU.out.2.2).mono ?_
            rintro e w8 ⟨rfl, B8⟩
            have B9 : Below wr.heap.size wr w8 := Bd.trans (B8.mono Bd.size)
            have HS8 : Hid (Side w w8 rb1 ib1 asz csz sz v7 s7 n7 (.slice (some ⟨g1, 0, none⟩) M c7) P7 ∧ Side w w8 rb2 ib2 asz csz sz v5 s5 n5 (.slice (some ⟨g2, 0, none⟩) M c5) Q ∧ Below w.heap.size w w8) := ⟨HSx.out.1.below B9, HSx.out.2.1.below B9, HSx.out.2.2.trans (B9.mono HSx.out.2.2.size)⟩
            clear B8 B9 Bd hwd y10 y11 y12 y20 y21 y22 z7 z5 HIU
            go_wp2
            go_roundg (M - (i + 1))
            case measure => omega
            case rel => exact ⟨i + 1, by go_num, by omega, Nat.le_refl _, HS8⟩
          · have hii : ¬ (i : Int) < (M : Int) := by omega
            go_wp2
            go_ret
            exact ⟨rfl, HSx.out.2.2⟩
      · skip
        have HS : Hid (Side w wr rb1 ib1 asz csz sz v7 s7 n7 vi7 P7 ∧ Side w wr rb2 ib2 asz csz sz v2 s2 n2 vi2 P2 ∧ (∀ j, RMine rb1 ib1 v7 vi7 P7 j → ¬ RMine rb2 ib2 v2 vi2 P2 j) ∧ Below w.heap.size w wr) := ⟨sd1, sd2, hdj, hB⟩
        have HDR : Hid (∀ i2 s3 n3, Drains sz (s2.feed (text.drop fr)) n2 i2 s3 n3 → Drains sz ((In.new mx).feed text) 0 (P2.map (·.1) ++ i2) s3 n3) := hdr
        clear sd1 sd2 hdj hB hdr HI HS7
        have HB4 : Hid (IsBytes wr a c text) := HX.out.below HS.out.2.2.2
        go_wp2_with fail
        refine (feed_n wr ib2 v2 s2 _ _ _ (text.drop fr) (by simp <;> omega) HS.out.2.1.1.inat (by first | exact HB4.out.map fr hfr | (rw [List.drop_eq_nil_of_le (by omega)]; exact IsBytes.empty _ _ (by unfold maxLen; omega))) (by omega) (by simp; omega) HS.out.2.1.2.2.need (HM.out.below HS.out.2.2.2 HM.out.lt)).mono ?_
        rintro e w4 ⟨rfl, W4⟩
        obtain ⟨v4, rd4, tu4⟩ := HS.out.2.1.went W4
        have hbl : (text.drop fr).length = text.length - fr := by simp
        obtain ⟨ff1, ff2⟩ := feed_fit HS.out.2.1.2.2 (text.drop fr) (by omega)
        obtain ⟨g1, g2⟩ := HS.out.2.1.step HS.out.2.2.2 tu4 rd4 ff1
        obtain ⟨g3, g4⟩ := HS.out.1.stay tu4 HS.out.2.2.1
        have hmu4 := mu_feed s2 (text.drop fr)
        have HS4 : Hid (Side w w4 rb1 ib1 asz csz sz v7 s7 n7 vi7 P7 ∧ Side w w4 rb2 ib2 asz csz sz v4 (s2.feed (text.drop fr)) n2 vi2 P2 ∧ (∀ j, RMine rb1 ib1 v7 vi7 P7 j → ¬ RMine rb2 ib2 v4 vi2 P2 j) ∧ Below w.heap.size w w4) := ⟨g3, g1, g4, g2⟩
        clear W4 rd4 tu4 ff1 ff2 g1 g2 g3 g4
        go_wp2_with fail
        refine (drain_any w4 rb2 ib2 asz csz sz v4 (s2.feed (text.drop fr)) n2 vi2 P2 HS4.out.2.1.1 HS4.out.2.1.2.2 (ints_below HSZ.out HS4.out.2.2.2) (apart_sz HS4.out.2.1 HZB.out) (HM.out.below HS4.out.2.2.2 HM.out.lt) (HS4.out.2.1.zero HM.out) (by omega) (by omega)).mono ?_
        rintro e w5 ⟨rfl, v5, s5, n5, vi5, P5, rd5, dr5, tu5, fit5, _, _, _⟩
        obtain ⟨g1, g2⟩ := HS4.out.2.1.step HS4.out.2.2.2 tu5 rd5 fit5
        obtain ⟨g3, g4⟩ := HS4.out.1.stay tu5 HS4.out.2.2.1
        obtain ⟨e1, e2, _⟩ := Drains.one HX7.out (HDR.out _ s5 n5 dr5)
        have HEQ : Hid (P7.map (·.1) = (P2 ++ P5).map (·.1) ∧ s7 = s5) := ⟨by rw [e1]; simp, e2⟩
        obtain ⟨Q, hQ⟩ : ∃ Q, Q = P2 ++ P5 := ⟨_, rfl⟩
        rw [← hQ] at g1 HEQ
        have HS5 : Hid (Side w w5 rb1 ib1 asz csz sz v7 s7 n7 vi7 P7 ∧ Side w w5 rb2 ib2 asz csz sz v5 s5 n5 vi5 Q ∧ Below w.heap.size w w5) := ⟨g3, g1, g2⟩
        clear rd5 dr5 tu5 fit5 g1 g2 g3 g4 e1 e2 hQ
        obtain ⟨q7, c7, hv7, hq7⟩ := rd_slice HS5.out.1.1
        obtain ⟨q5, c5, hv5, hq5⟩ := rd_slice HS5.out.2.1.1
        have hlen : Q.length = P7.length := by have := congrArg List.length HEQ.out.1; simpa using this.symm
        rw [hlen] at hv5 hq5
        subst hv7 hv5
        obtain ⟨M, hM⟩ : ∃ M, M = P7.length := ⟨_, rfl⟩
        rw [← hM] at HS5 hq7 hq5
        have HML : Hid (M = P7.length ∧ M = Q.length) := ⟨hM, by omega⟩
        have i7 : w5.cell? ⟨rb1, 3, none⟩ = some (.slice q7 M c7) := by simp [World.cell?, HS5.out.1.1.box]
        have i5 : w5.cell? ⟨rb2, 3, none⟩ = some (.slice q5 M c5) := by simp [World.cell?, HS5.out.2.1.1.box]
        have hr1 : rb1 < w5.heap.size := HS5.out.1.1.lt rb1 (.inl rfl)
        have hr2 : rb2 < w5.heap.size := HS5.out.2.1.1.lt rb2 (.inl rfl)
        have hMb : M ≤ 4194304 := by rw [hM]; exact hP7
        have hMM : ((M : Int) != (M : Int)) = false := by simp
        obtain ⟨hh, hhh⟩ : ∃ hh, hh = s7.held.length := ⟨_, rfl⟩
        have hHH : ((hh : Int) != (hh : Int)) = false := by simp
        have HQ1 : Hid (∀ n, Calls Try.prog 14 #[.pointer (some ⟨ib1, 0, none⟩)] (w5.drewN n) fun e w' => e = .returned (.int .i64 (hh : Int)) ∧ ∃ q, w' = (w5.drewN n).drewN q) := fun n => by
          have := Held_in (w5.drewN n) ib1 v7 s7 (HS5.out.1.1.inat.drewN n) HS5.out.1.2.2.held
          rwa [← hhh] at this
        have HQ2 : Hid (∀ n, Calls Try.prog 14 #[.pointer (some ⟨ib2, 0, none⟩)] (w5.drewN n) fun e w' => e = .returned (.int .i64 (hh : Int)) ∧ ∃ q, w' = (w5.drewN n).drewN q) := fun n => by
          have := Held_in (w5.drewN n) ib2 v5 s5 (HS5.out.2.1.1.inat.drewN n) HS5.out.2.1.2.2.held
          rwa [← HEQ.out.2, ← hhh] at this
        clear hM hhh hlen
        go_upto_region 24 with fail
        go_big_quiet ((first | (go_at_call_of 14 ib1; exact Calls.quiet_of (HQ1.out _)) | (go_at_call_of 14 ib2; exact Calls.quiet_of (HQ2.out _))))
        obtain ⟨w6, hw6⟩ : ∃ w6, w6 = w5.drewN nq := ⟨_, rfl⟩
        rw [← hw6]
        have B6 : Below w5.heap.size w5 w6 := by rw [hw6]; exact below_drewN (Below.refl _ w5) nq
        have HS6 : Hid (Side w w6 rb1 ib1 asz csz sz v7 s7 n7 (.slice q7 M c7) P7 ∧ Side w w6 rb2 ib2 asz csz sz v5 s5 n5 (.slice q5 M c5) Q ∧ Below w.heap.size w w6) := ⟨HS5.out.1.below B6, HS5.out.2.1.below B6, HS5.out.2.2.trans (B6.mono HS5.out.2.2.size)⟩
        have k7 : w6.cell? ⟨rb1, 3, none⟩ = some (.slice q7 M c7) := by simp [World.cell?, HS6.out.1.1.box]
        have hr6 : rb1 < w6.heap.size := HS6.out.1.1.lt rb1 (.inl rfl)
        clear hw6 B6 i7 i5 hr1 hr2
        go_wp2
        go_loopg [126] M (fun gk s126 wx => ∃ i : Nat, s126 = .int .i64 i ∧ i ≤ M ∧ M - i ≤ gk ∧ Hid (Side w wx rb1 ib1 asz csz sz v7 s7 n7 (.slice q7 M c7) P7 ∧ Side w wx rb2 ib2 asz csz sz v5 s5 n5 (.slice q5 M c5) Q ∧ Below w.heap.size w wx))
        case atStart => exact ⟨0, rfl, Nat.zero_le _, Nat.le_refl _, HS6⟩
        case round =>
          obtain ⟨i, rfl, hi, hgi, HSx⟩ := hrel
          by_cases hiM : i < M
          · have hii : (i : Int) < (M : Int) := by omega
            obtain ⟨p, hpi1⟩ : ∃ p, P7[i]? = some p := ⟨_, List.getElem?_eq_getElem (by have := HML.out; omega)⟩
            obtain ⟨q, hqi1⟩ : ∃ q, Q[i]? = some q := ⟨_, List.getElem?_eq_getElem (by have := HML.out; omega)⟩
            have hpq : p.1 = q.1 := by
              have h1 : (P7.map (·.1))[i]? = some p.1 := by simp [hpi1]
              have h2 : (Q.map (·.1))[i]? = some q.1 := by simp [hqi1]
              rw [HEQ.out.1, h2] at h1
              exact (Option.some.inj h1).symm
            obtain ⟨g1, u1, cu1, rfl, hg1, y10, y11, y12, iu1⟩ := rd_item HSx.out.1.1 hpi1
            obtain ⟨g2, u2, cu2, rfl, hg2, y20, y21, y22, iu2⟩ := rd_item HSx.out.2.1.1 hqi1
            rw [← hpq] at y20 y21 y22 iu2
            obtain ⟨⟨kd, tt, bb⟩, pv⟩ := p
            simp only [] at y10 y11 y12 iu1 y20 y21 y22 iu2
            obtain ⟨tx, htx⟩ : ∃ tx : ByteArray, tx = ⟨tt.toArray⟩ := ⟨_, rfl⟩
            rw [← htx] at y11 y21
            obtain ⟨lb, hlb⟩ : ∃ lb, lb = bb.length := ⟨_, rfl⟩
            rw [← hlb] at y12 y22
            have z7 : wr.cell? ⟨rb1, 3, none⟩ = some (.slice (some ⟨g1, 0, none⟩) M c7) := by simp [World.cell?, HSx.out.1.1.box]
            have z5 : wr.cell? ⟨rb2, 3, none⟩ = some (.slice (some ⟨g2, 0, none⟩) M c5) := by simp [World.cell?, HSx.out.2.1.1.box]
            have hr1 : rb1 < wr.heap.size := HSx.out.1.1.lt rb1 (.inl rfl)
            have hr2 : rb2 < wr.heap.size := HSx.out.2.1.1.lt rb2 (.inl rfl)
            have HIU : Hid (IsBytes wr u1 cu1 bb ∧ IsBytes wr u2 cu2 bb ∧ bb.length = lb) := ⟨iu1, iu2, hlb.symm⟩
            clear hpi1 hqi1 hpq htx hlb iu1 iu2 k7
            go_upto_region 29 with fail
            refine wp_tail 14 mixed (by kernel_rfl) ?_
            simp only [List.take_succ_cons, List.take_zero, List.drop_succ_cons, List.drop_zero]
            repeat still_step
            refine wpStill_nil ?_
            go_wp2_with fail
            obtain ⟨wd, hwd⟩ : ∃ wd, wd = wr.drew := ⟨_, rfl⟩
            have Bd : Below wr.heap.size wr wd := by rw [hwd]; exact (Below.refl _ wr).drew
            rw [← hwd]
            refine (alike_yes kd tx u1 u2 cu1 cu2 lb bb wd (HIU.out.1.below Bd) (HIU.out.2.1.below Bd) HIU.out.2.2).mono ?_
            rintro e w8 ⟨rfl, B8⟩
            have B9 : Below wr.heap.size wr w8 := Bd.trans (B8.mono Bd.size)
            have HS8 : Hid (Side w w8 rb1 ib1 asz csz sz v7 s7 n7 (.slice (some ⟨g1, 0, none⟩) M c7) P7 ∧ Side w w8 rb2 ib2 asz csz sz v5 s5 n5 (.slice (some ⟨g2, 0, none⟩) M c5) Q ∧ Below w.heap.size w w8) := ⟨HSx.out.1.below B9, HSx.out.2.1.below B9, HSx.out.2.2.trans (B9.mono HSx.out.2.2.size)⟩
            clear B8 B9 Bd hwd y10 y11 y12 y20 y21 y22 z7 z5 HIU
            go_wp2
            go_roundg (M - (i + 1))
            case measure => omega
            case rel => exact ⟨i + 1, by go_num, by omega, Nat.le_refl _, HS8⟩
          · have hii : ¬ (i : Int) < (M : Int) := by omega
            go_wp2
            go_ret
            exact ⟨rfl, HSx.out.2.2⟩
end Go.Proofs.Ytabpicbhhplcgaa.intakeCuts
