/-
  The walk of shown.
-/
import Derived.Test.YteaccpolmmkclaaDoorParseS
import Derived.Test.YteaccpolmmkclaaDoorPrintS
import Derived.BigQuiet
import Derived.Deep.QuietTactic
namespace Go.Proofs.YteaccpolmmkclaaDoor
open Go.RowKit

def shT : Tx := [115, 116, 105, 110, 116, 32, 49, 48, 48, 32, 50, 53, 54, 32, 52, 48, 57, 54, 10, 35, 32, 97, 32, 114, 101, 109, 97, 114, 107, 10, 111, 112, 101, 110, 32, 49, 10, 102, 101, 101, 100, 32, 49, 32, 61, 97, 92, 115, 92, 120, 48, 48, 92, 114, 92, 110, 32, 98, 114, 101, 97, 107, 32, 51, 32, 107, 101, 101, 112, 32, 48, 32, 55, 10, 99, 114, 97, 115, 104, 32, 107, 101, 101, 112, 32, 53, 10]
def shT2 : Tx := [115, 116, 105, 110, 116, 32, 49, 48, 48, 32, 50, 53, 54, 32, 52, 48, 57, 54, 10, 84, 105, 99, 107]
def shP1 : StepP := ⟨1, 1, [], 0, []⟩
def shP2 : StepP := ⟨2, 1, [97, 32, 0, 13, 10], 3, [0, 7]⟩
def shP3 : StepP := ⟨6, 0, [], 0, [5]⟩
theorem sh_parse : parseP shT = (⟨true, 100, 256, 4096, [shP1, shP2, shP3]⟩, 0, 0) := by kernel_rfl
theorem sh_parse2 : parseP shT2 = (rd0, 2, 191) := by kernel_rfl
theorem sh_print : printR 100 256 4096 [shP1, shP2, shP3] = (shT.take 19 ++ shT.drop 30, 0) := by kernel_rfl
theorem steps_in {w : World} {B : Nat} {sv : Value} {l : List Sq} (h : StepsAt w B sv l) (hl : l.length ≤ 4000) : PlayIn w sv l := by
  refine ⟨?_, fun q hq => ?_⟩
  · rcases h.1.2 with ⟨rfl, h0⟩ | ⟨g, cap, cur, rfl, _⟩
    · exact ⟨none, 0, by rw [h0], by unfold maxLen; omega, .inl (List.eq_nil_of_length_eq_zero h0)⟩
    · refine ⟨_, _, rfl, by unfold maxLen; omega, .inr ⟨g, 0, rfl, (h.1.lt g rfl).2, fun i x hx => ?_⟩⟩
      have := h.1.cells (g := g) rfl i x hx
      rw [Nat.zero_add]
      cases i with
      | zero => simpa [Addr.add] using this
      | succ i => simpa [Addr.add] using this
  · obtain ⟨h1, h2⟩ := h.2 q hq
    obtain ⟨a, c, e, hb⟩ := h1.shape
    obtain ⟨a2, c2, e2, hi⟩ := h2.shape
    exact ⟨⟨a, c, e, hb⟩, a2, c2, e2, hi⟩
/-- What the first Parse gives. -/
theorem sh_first (W : World) (x : ByteArray) (T : Tabs W) (h6 : 6 ≤ W.heap.size) (hx : x.data.toList = shT) :
    Calls Tryd.prog 5 #[.string x] W fun e w' => Below W.heap.size W w' ∧ ∃ g cap a2 c2 a4 c4, e = .returned (.tuple #[.agg #[.int .i64 100, .int .i64 256, .int .i64 4096, .slice (some ⟨g, 0, none⟩) 3 cap], .int .i64 0, .int .i64 0]) ∧
      (∀ X, Below w'.heap.size w' X → ∃ l, l.length = 3 ∧ l.map (·.p) = [shP1, shP2, shP3] ∧ PlayIn X (.slice (some ⟨g, 0, none⟩) 3 cap) l) ∧
      w'.cell? ⟨g, 5, none⟩ = some (.int .i64 2) ∧ w'.cell? ⟨g, 6, none⟩ = some (.int .i64 1) ∧ w'.cell? ⟨g, 7, none⟩ = some (.slice a2 5 c2) ∧ w'.cell? ⟨g, 8, none⟩ = some (.int .i64 3) ∧ w'.cell? ⟨g, 9, none⟩ = some (.slice a4 2 c4) ∧ IsBytes w' a2 c2 [97, 32, 0, 13, 10] ∧ IsInts w' a4 c4 [0, 7] := by
  refine (parse_any19 W x T h6).mono ?_
  rintro e w' ⟨hb, sv, l, he, hs, hm⟩
  rw [hx, sh_parse] at he hm
  simp only [] at he hm
  have hl3 : l.length = 3 := by have := congrArg List.length hm; simpa using this
  refine ⟨hb, ?_⟩
  have hin := steps_in hs (by omega)
  obtain ⟨⟨a, c, hsv, hml, hcell⟩, hall⟩ := hin
  subst hsv
  rw [hl3] at he
  rcases hcell with h0 | ⟨g, o, e1, hg, hcell⟩
  · rw [h0] at hl3; cases hl3
  subst e1
  have ho : o = 0 := by
    rcases hs.1.2 with ⟨h0, _⟩ | ⟨g', cap, cur, e2, _⟩
    · cases h0
    · cases e2; rfl
  subst ho
  match l, hl3 with
  | [x1, x2, x3], _ =>
    simp only [List.map_cons, List.map_nil, List.cons.injEq, and_true] at hm
    obtain ⟨m1, m2, m3⟩ := hm
    have hx2 := hall x2 (by simp)
    obtain ⟨⟨a2, c2, d2, b2⟩, a4, c4, d4, b4⟩ := hx2
    rw [m2] at d2 b2 d4 b4
    have hc := fun i v (hi : (flatS [x1, x2, x3])[i]? = some v) => hcell i v hi
    have k5 := hc 5 (.int .i64 x2.p.kind) rfl
    have k6 := hc 6 (.int .i64 x2.p.conn) rfl
    have k7 := hc 7 x2.dv rfl
    have k8 := hc 8 (.int .i64 x2.p.brk) rfl
    have k9 := hc 9 x2.kv rfl
    rw [m2] at k5 k6 k8
    rw [d2] at k7
    rw [d4] at k9
    refine ⟨g, c, a2, c2, a4, c4, he, fun X hX => ⟨[x1, x2, x3], rfl, by simp [m1, m2, m3], ?_⟩, k5, k6, k7, k8, k9, b2, b4⟩
    refine ⟨⟨_, c, rfl, hml, .inr ⟨g, 0, rfl, Nat.lt_of_lt_of_le hg hX.size, fun i v hi => (hX.cell (p := ⟨g, 0 + i, none⟩) hg).trans (hcell i v hi)⟩⟩, fun q hq => ?_⟩
    exact (hall q hq).later hX
set_option maxHeartbeats 4000000 in
set_option maxRecDepth 1000000 in
theorem shown_any (W : World) (T : Tabs W) (h6 : 6 ≤ W.heap.size) :
    Calls Tryd.prog 4 #[] W fun e w' => e = .returned (.bool true) ∧ Below W.heap.size W w' := by
  have C1 := hide (fun x hx => sh_first W x T h6 hx)
  have HT := hide T
  clear T
  go_enter Tryd.func4, Tryd.ntmps4
  go_wp2_with fail
  refine (C1.out _ rfl).mono ?_
  generalize hTX : ({ data := ([115, 116, 105, 110, 116, 32, 49, 48, 48, 32, 50, 53, 54, 32, 52, 48, 57, 54, 10, 35, 32, 97, 32, 114, 101, 109, 97, 114, 107, 10, 111, 112, 101, 110, 32, 49, 10, 102, 101, 101, 100, 32, 49].append [32, 61, 97, 92, 115, 92, 120, 48, 48, 92, 114, 92, 110, 32, 98, 114, 101, 97, 107, 32, 51, 32, 107, 101, 101, 112, 32, 48, 32, 55, 10, 99, 114, 97, 115, 104, 32, 107, 101, 101, 112, 32, 53, 10]).toArray } : ByteArray) = TX
  have HX : Hid (TX.data.toList = shT) := by rw [← hTX]; rfl
  clear hTX
  rintro e w1 ⟨b1, g, cap, a2, c2, a4, c4, rfl, hin, k5, k6, k7, k8, k9, hb2, hi4⟩
  have HB1 := hide b1
  have HIN := hide hin
  have HD := hide (And.intro hb2 hi4)
  have hg : g < w1.heap.size := cell_lt k5
  have e5 := fun o => ((Below.refl _ w1).alloc (Nat.le_refl _) o).cell (p := ⟨g, 5, none⟩) hg |>.trans k5
  have e6 := fun o => ((Below.refl _ w1).alloc (Nat.le_refl _) o).cell (p := ⟨g, 6, none⟩) hg |>.trans k6
  have e7 := fun o => ((Below.refl _ w1).alloc (Nat.le_refl _) o).cell (p := ⟨g, 7, none⟩) hg |>.trans k7
  have e8 := fun o => ((Below.refl _ w1).alloc (Nat.le_refl _) o).cell (p := ⟨g, 8, none⟩) hg |>.trans k8
  have e9 := fun o => ((Below.refl _ w1).alloc (Nat.le_refl _) o).cell (p := ⟨g, 9, none⟩) hg |>.trans k9
  clear b1 hin hb2 hi4 k5 k6 k7 k8 k9
  go_wp2_with fail
  generalize hw2 : (w1.alloc (.cells #[.int .i64 100, .int .i64 256, .int .i64 4096, .slice (some ⟨g, 0, none⟩) 3 cap] 31)).alloc (.cells #[.int .i64 2, .int .i64 1, .slice a2 5 c2, .int .i64 3, .slice a4 2 c4] 40) = w2
  have b2 : Below w1.heap.size w1 w2 := by rw [← hw2]; exact ((Below.refl _ w1).alloc (Nat.le_refl _) _).alloc (by simp) _
  have x2 : StepBox w2 (w1.heap.size + 1) 2 1 3 (.slice a2 5 c2) (.slice a4 2 c4) := by
    rw [← hw2]
    have := heap_alloc_new (w1.alloc (.cells #[.int .i64 100, .int .i64 256, .int .i64 4096, .slice (some ⟨g, 0, none⟩) 3 cap] 31)) (.cells #[.int .i64 2, .int .i64 1, .slice a2 5 c2, .int .i64 3, .slice a4 2 c4] 40)
    rwa [World.size_alloc] at this
  obtain ⟨l, hl3, hm, hp⟩ := HIN.out w2 b2
  have HB2 := hide (HB1.out.trans (b2.mono HB1.out.size))
  have hz2 := HB2.out.size
  refine (print_any19 w2 100 256 4096 _ l (HT.out.below HB2.out) (by omega) hp).mono ?_
  rintro e w3 ⟨b3, he⟩
  rw [hm, sh_print] at he
  simp only [] at he
  obtain ⟨PT, hPT⟩ : ∃ PT : ByteArray, (⟨(shT.take 19 ++ shT.drop 30).toArray⟩ : ByteArray) = PT := ⟨_, rfl⟩
  rw [hPT] at he
  have HPT := hide hPT
  subst he
  have HB3 := hide (HB2.out.trans (b3.mono hz2))
  have hz3 := HB3.out.size
  have HX3 : Hid (StepBox w3 (w1.heap.size + 1) 2 1 3 (.slice a2 5 c2) (.slice a4 2 c4)) := x2.kept (P := fun _ => False) (Kept.ofBelow b3) (fun h => h)
  have HD3 := hide (And.intro ((HD.out.1.below b2).below b3) ((HD.out.2.below b2).below b3))
  have C2 : Hid (∀ x : ByteArray, x.data.toList = shT2 → Calls Tryd.prog 5 #[.string x] w3 fun e w' => Below w3.heap.size w3 w' ∧ ∃ a c, e = .returned (.tuple #[.agg #[.int .i64 0, .int .i64 0, .int .i64 0, .slice a 0 c], .int .i64 2, .int .i64 191])) := fun x hx => by
    refine (parse_any19 w3 x (HT.out.below HB3.out) (by omega)).mono ?_
    rintro e w' ⟨hb, sv, l, he, hs, hm⟩
    rw [hx, sh_parse2] at he hm
    have h0 : l = [] := by simpa [rd0] using hm
    subst h0
    obtain ⟨a, c, e1⟩ := hs.form
    rw [e1] at he
    exact ⟨hb, a, c, he⟩
  clear b2 b3 x2 hp hm hl3 hw2 hPT e5 e6 e7 e8 e9 C1
  go_wp2_with fail
  refine (C2.out _ rfl).mono ?_
  rintro e w4 ⟨b4, av, cv, rfl⟩
  have B5 : Below w3.heap.size w3 (w4.alloc (.cells #[.int .i64 0, .int .i64 0, .int .i64 0, .slice av 0 cv] 31)) := b4.alloc b4.size _
  have HB5 := hide (HB3.out.trans (B5.mono hz3))
  have x5 := HX3.out.kept (P := fun _ => False) (Kept.ofBelow B5) (fun h => h)
  obtain ⟨s0, s1, s2, s3, s4, _⟩ := x5.cells
  have HI5 := hide (HD3.out.1.below B5)
  have hi5 := HD3.out.2.below B5
  rcases hi5.2.2 with h0 | ⟨bq, oq, rfl, hbq, hcq⟩
  · cases h0
  have q7 := hcq 1 7 rfl
  clear B5 b4 x5 hi5 hcq
  generalize hw5 : w4.alloc (.cells #[.int .i64 0, .int .i64 0, .int .i64 0, .slice av 0 cv] 31) = w5 at *
  go_wp2_with fail
  clear hw5
  have kv := fun k => conv_is (HI5.out.below (below_drewN (Below.refl _ w5) k)) (show [97, 32, 0, 13, 10].length = 5 from rfl)
  have hTS : TX.size = 87 := by
    have e : TX.data.toList.length = TX.size := by simp
    rw [HX.out] at e
    exact e.symm
  have l1 : (19 : Int) ≤ (TX.size : Int) := by omega
  have l2 : (30 : Int) ≤ (TX.size : Int) := by omega
  obtain ⟨E1, hE1⟩ : ∃ E1, TX.extract 0 19 = E1 := ⟨_, rfl⟩
  obtain ⟨E2, hE2⟩ : ∃ E2, TX.extract 30 TX.size = E2 := ⟨_, rfl⟩
  have hcat : (PT.toList == (E1 ++ E2).toList) = true := by
    rw [ByteArray.toList_eq, ByteArray.toList_eq, beq_iff_eq, ← HPT.out, ByteArray.data_append, Array.toList_append, ← hE1, ← hE2, extract_list, extract_list, HX.out, hTS]
    rfl
  have z1 : E1.size ≤ 87 := by rw [← hE1, ByteArray.size_extract]; omega
  have z2 : E2.size ≤ 87 := by rw [← hE2, ByteArray.size_extract]; omega
  clear hTS
  go_quiet (fail)
  go_wp2_with fail
  go_ret
  exact ⟨rfl, below_drewN HB5.out _⟩
end Go.Proofs.YteaccpolmmkclaaDoor
