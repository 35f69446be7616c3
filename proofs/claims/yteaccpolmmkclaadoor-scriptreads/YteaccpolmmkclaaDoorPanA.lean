/-
  Pan, Tabs.
-/
import Derived.Test.YteaccpolmmkclaaDoorPlA
import Derived.Test.YteaccpolmmkclaaDoorStrs
import Derived.Test.YteaccpolmmkclaaDoorMemA
import Derived.Test.YteaccpolmmkclaaDoorParse
import Derived.Test.YteaccpolmmkclaaDoorIAp
import Derived.Test.YteaccpolmmkclaaDoorPow
namespace Go.Proofs.YteaccpolmmkclaaDoor
open Go.RowKit

theorem hide {p : Prop} (h : p) : Hid p := h
/-- A call that gives up with an error. -/
def pan (c : Int) : Ending := .panicked [{ v := .iface 32 (.int .i64 c), recovered := false }]
abbrev tl (ss : List ByteArray) : List Tx := ss.map (·.data.toList)
/-- The words in the box at wb. -/
def WordsAt (W : World) (wb : Nat) (ss : List ByteArray) : Prop := ∃ a c, W.heap[wb]? = some (.cells #[.slice a ss.length c] 72 (0, 0)) ∧ IsStrs W a c ss ∧ (∀ b o, a = some ⟨b, o, none⟩ → b ≠ wb ∧ ∃ cur, W.heap[b]? = some (.cells cur 9 (0, 0)))
theorem WordsAt.lt {W : World} {wb : Nat} {ss : List ByteArray} (h : WordsAt W wb ss) : wb < W.heap.size := by
  obtain ⟨_, _, h, _⟩ := h
  exact (Array.getElem?_eq_some_iff.1 h).1
theorem WordsAt.later {W W' : World} {wb : Nat} {ss : List ByteArray} (h : WordsAt W wb ss) (hb : Below W.heap.size W W') : WordsAt W' wb ss := by
  have hl := h.lt
  obtain ⟨a, c, h1, h2, h3⟩ := h
  refine ⟨a, c, (hb.block wb hl).trans h1, h2.below hb, fun b o e => ?_⟩
  obtain ⟨h4, cur, h5⟩ := h3 b o e
  exact ⟨h4, cur, (hb.block b (Array.getElem?_eq_some_iff.1 h5).1).trans h5⟩
theorem WordsAt.kept2 {W W' : World} {wb : Nat} {ss : List ByteArray} {P : Nat → Prop} (h : WordsAt W wb ss) (hk : Kept P W W') (h1 : ¬ P wb) (h2 : ∀ b cur, W.heap[b]? = some (.cells cur 9 (0, 0)) → ¬ P b) : WordsAt W' wb ss := by
  have hl := h.lt
  obtain ⟨a, c, g1, ⟨g2, g3, g4⟩, g5⟩ := h
  refine ⟨a, c, (hk.block wb hl h1).trans g1, ⟨g2, g3, ?_⟩, fun b o e => ?_⟩
  · rcases g4 with g4 | ⟨b, o, rfl, hb, hc⟩
    · exact .inl g4
    · obtain ⟨_, cur, h5⟩ := g5 b o rfl
      exact .inr ⟨b, o, rfl, Nat.lt_of_lt_of_le hb hk.size, fun j x hj => hk.cell (h2 b cur h5) (hc j x hj)⟩
  · obtain ⟨h4, cur, h5⟩ := g5 b o e
    exact ⟨h4, cur, (hk.block b (Array.getElem?_eq_some_iff.1 h5).1 (h2 b cur h5)).trans h5⟩
theorem WordsAt.box {W : World} {wb : Nat} {ss : List ByteArray} (h : WordsAt W wb ss) : ∃ a c, W.cell? ⟨wb, 0, none⟩ = some (.slice a ss.length c) ∧ W.frozen? ⟨wb, 0, none⟩ = false ∧ IsStrs W a c ss := by
  obtain ⟨a, c, h1, h2, _⟩ := h
  exact ⟨a, c, by simp [World.cell?, h1], by simp [World.frozen?, h1], h2⟩

set_option maxHeartbeats 1000000 in
set_option maxRecDepth 1000000 in
theorem end_yes (W : World) (wb : Nat) (h : WordsAt W wb []) :
    Calls Tryd.prog 52 #[.pointer (some ⟨wb, 0, none⟩)] W fun e w' => e = .returned (.tuple #[]) ∧ w' = W := by
  obtain ⟨a, c, c0, _, _⟩ := h.box
  go_enter Tryd.func52, Tryd.ntmps52
  go_wp2_with fail
  go_end0
  exact ⟨rfl, rfl⟩
set_option maxHeartbeats 1000000 in
set_option maxRecDepth 1000000 in
theorem end_no (W : World) (wb : Nat) (ss : List ByteArray) (h : WordsAt W wb ss) (hs : ss ≠ []) :
    Calls Tryd.prog 52 #[.pointer (some ⟨wb, 0, none⟩)] W fun e w' => e = pan 192 ∧ w' = W := by
  obtain ⟨a, c, c0, _, _⟩ := h.box
  unfold pan
  have hl : 0 < (ss.length : Int) := by
    cases ss with
    | nil => exact absurd rfl hs
    | cons x r => simp
  go_enter Tryd.func52, Tryd.ntmps52
  go_wp2_with fail
  exact ⟨rfl, rfl, rfl⟩

set_option maxHeartbeats 1000000 in
set_option maxRecDepth 1000000 in
theorem next_no (W : World) (wb : Nat) (h : WordsAt W wb []) :
    Calls Tryd.prog 61 #[.pointer (some ⟨wb, 0, none⟩)] W fun e w' => e = pan 192 ∧ w' = W := by
  obtain ⟨a, c, c0, _, _⟩ := h.box
  unfold pan
  go_enter Tryd.func61, Tryd.ntmps61
  go_wp2_with fail
  exact ⟨rfl, rfl, rfl⟩
set_option maxHeartbeats 1000000 in
set_option maxRecDepth 1000000 in
theorem next_yes (W : World) (wb : Nat) (x : ByteArray) (r : List ByteArray) (h : WordsAt W wb (x :: r)) :
    Calls Tryd.prog 61 #[.pointer (some ⟨wb, 0, none⟩)] W fun e w' => e = .returned (.string x) ∧ WordsAt w' wb r ∧ Kept (fun j => j = wb) W w' := by
  have hlt := h.lt
  obtain ⟨a, c, h1, ⟨h2, h3, h4⟩, h5⟩ := h
  have c0 : W.cell? ⟨wb, 0, none⟩ = some (.slice a (r.length + 1) c) := by simp [World.cell?, h1]
  have f0 : W.frozen? ⟨wb, 0, none⟩ = false := by simp [World.frozen?, h1]
  rcases h4 with h4 | ⟨b, o, rfl, hb, hc⟩
  · cases h4
  have c1 : W.cell? ⟨b, o, none⟩ = some (.string x) := hc 0 x rfl
  obtain ⟨hbw, cur, hcur⟩ := h5 b o rfl
  have hc1 : 1 ≤ c := by simp at h2; omega
  have hr : ¬ (r.length : Int) + 1 = 0 := by omega
  have hrc : r.length + 1 ≤ c := by simpa using h2
  go_enter Tryd.func61, Tryd.ntmps61
  have SH : ∀ a', (r ≠ [] → a' = some ⟨b, o + 1, none⟩) → (∀ b' o', a' = some ⟨b', o', none⟩ → b' = b) → WordsAt (W.setCell ⟨wb, 0, none⟩ (.slice a' r.length (c - 1))) wb r ∧ Kept (fun j => j = wb) W (W.setCell ⟨wb, 0, none⟩ (.slice a' r.length (c - 1))) := fun a' e1 e2 => by
    have hk : Kept (fun j => j = wb) W (W.setCell ⟨wb, 0, none⟩ (.slice a' r.length (c - 1))) := Kept.setCell _ _ _ _ _ rfl
    simp only [List.length_cons] at h2 h3
    refine ⟨⟨a', c - 1, ?_, ⟨by omega, by omega, ?_⟩, fun b' o' e => by rw [e2 b' o' e]; exact ⟨hbw, cur, (hk.block b hb hbw).trans hcur⟩⟩, hk⟩
    · have := (set_cells h1 0 (.slice a' r.length (c - 1))).1
      simpa using this
    · by_cases hr0 : r = []
      · exact .inl hr0
      · refine .inr ⟨b, o + 1, e1 hr0, Nat.lt_of_lt_of_le hb hk.size, fun j y hj => ?_⟩
        have := hc (j + 1) y (by simpa using hj)
        rw [show o + (j + 1) = o + 1 + j by omega] at this
        exact hk.cell hbw this
  have HSH := hide SH
  clear SH h1 h2 h3 h5 hc hcur
  go_wp2_with fail
  all_goals go_ret
  all_goals refine ⟨rfl, ?_⟩
  · have h0 : r = [] := List.eq_nil_of_length_eq_zero (by omega)
    have := HSH.out (some ⟨b, o, none⟩) (fun hn => absurd h0 hn) (fun b' o' e => by cases e; rfl)
    rw [show c - 1 = 0 by omega] at this
    exact this
  · exact HSH.out (some ⟨b, o + 1, none⟩) (fun _ => rfl) (fun b' o' e => by cases e; rfl)

set_option maxHeartbeats 1000000 in
set_option maxRecDepth 1000000 in
theorem has_yes (W : World) (wb : Nat) (x : ByteArray) (r : List ByteArray) (h : WordsAt W wb (x :: r)) :
    Calls Tryd.prog 62 #[.pointer (some ⟨wb, 0, none⟩), .string x] W fun e w' => e = .returned (.bool true) ∧ WordsAt w' wb r ∧ Kept (fun j => j = wb) W w' := by
  have CN := hide (next_yes W wb x r h)
  obtain ⟨a, c, c0, _, _, _, h4⟩ := h.box
  rcases h4 with h4 | ⟨b, o, rfl, hb, hc⟩
  · cases h4
  have c1 : W.cell? ⟨b, o, none⟩ = some (.string x) := hc 0 x rfl
  simp only [List.length_cons] at c0
  have hr : ¬ (r.length : Int) + 1 = 0 := by omega
  clear hc h
  go_enter Tryd.func62, Tryd.ntmps62
  go_wp2_with (go_at_call 61
               refine CN.out.mono ?_
               rintro e w1 ⟨rfl, h1⟩
               have H1 := hide h1
               clear h1)
  go_ret
  exact ⟨rfl, H1.out⟩
set_option maxHeartbeats 1000000 in
set_option maxRecDepth 1000000 in
theorem has_no (W : World) (wb : Nat) (k : ByteArray) (ss : List ByteArray) (h : WordsAt W wb ss) (hn : ∀ x r, ss = x :: r → x.data.toList ≠ k.data.toList) :
    Calls Tryd.prog 62 #[.pointer (some ⟨wb, 0, none⟩), .string k] W fun e w' => e = .returned (.bool false) ∧ w' = W := by
  obtain ⟨a, c, c0, _, _, _, h4⟩ := h.box
  rcases h4 with rfl | ⟨b, o, rfl, hb, hc⟩
  · go_enter Tryd.func62, Tryd.ntmps62
    go_wp2_with fail
    go_ret
    exact ⟨rfl, rfl⟩
  · cases ss with
    | nil =>
      go_enter Tryd.func62, Tryd.ntmps62
      go_wp2_with fail
      go_ret
      exact ⟨rfl, rfl⟩
    | cons x r =>
      have hx := hn x r rfl
      have c1 : W.cell? ⟨b, o, none⟩ = some (.string x) := hc 0 x rfl
      simp only [List.length_cons] at c0
      have hr : ¬ (r.length : Int) + 1 = 0 := by omega
      have hxb : (x.toList == k.toList) = false := by rw [ByteArray.toList_eq, ByteArray.toList_eq]; simpa using hx
      clear hc h hn
      go_enter Tryd.func62, Tryd.ntmps62
      go_wp2_with fail
      go_ret
      exact ⟨rfl, rfl⟩
set_option maxHeartbeats 1000000 in
set_option maxRecDepth 1000000 in
theorem number_any (W : World) (wb : Nat) (x : ByteArray) (r : List ByteArray) (h : WordsAt W wb (x :: r)) :
    Calls Tryd.prog 51 #[.pointer (some ⟨wb, 0, none⟩)] W fun e w' => e = (if parseB x.data.toList maxWord = true then .returned (.int .i64 (parseV x.data.toList maxWord)) else pan 192) ∧ WordsAt w' wb r ∧ Kept (fun j => j = wb) W w' := by
  have CN := hide (next_yes W wb x r h)
  have CP := hide (fun w => parse_any x 4611686018427387903 w (by decide) (by decide))
  obtain ⟨v, hv⟩ : ∃ v, v = parseV x.data.toList 4611686018427387903 := ⟨_, rfl⟩
  obtain ⟨ok, hok⟩ : ∃ ok, ok = parseB x.data.toList 4611686018427387903 := ⟨_, rfl⟩
  show Calls _ _ _ _ fun e w' => e = (if parseB x.data.toList 4611686018427387903 = true then .returned (.int .i64 (parseV x.data.toList 4611686018427387903)) else pan 192) ∧ _
  rw [← hv, ← hok] at CP ⊢
  clear hv hok h
  unfold pan
  cases ok
  · simp only [Bool.false_eq_true, if_false]
    go_enter Tryd.func51, Tryd.ntmps51
    go_wp2_with (first
      | (go_at_call 61
         refine CN.out.mono ?_
         rintro e w1 ⟨rfl, h1⟩
         have H1 := hide h1
         clear h1)
      | (go_at_call 64
         refine (CP.out _).mono ?_
         rintro e w2 ⟨rfl, pos, rfl⟩))
    have hb : Below w1.heap.size w1 (w1.iter x pos) := (Below.refl _ w1).alloc (Nat.le_refl _) _
    exact ⟨rfl, rfl, H1.out.1.later hb, H1.out.2.trans (Kept.ofBelow hb)⟩
  · simp only [if_true]
    go_enter Tryd.func51, Tryd.ntmps51
    go_wp2_with (first
      | (go_at_call 61
         refine CN.out.mono ?_
         rintro e w1 ⟨rfl, h1⟩
         have H1 := hide h1
         clear h1)
      | (go_at_call 64
         refine (CP.out _).mono ?_
         rintro e w2 ⟨rfl, pos, rfl⟩))
    go_ret
    have hb : Below w1.heap.size w1 (w1.iter x pos) := (Below.refl _ w1).alloc (Nat.le_refl _) _
    exact ⟨rfl, H1.out.1.later hb, H1.out.2.trans (Kept.ofBelow hb)⟩
set_option maxHeartbeats 1000000 in
set_option maxRecDepth 1000000 in
theorem number_none (W : World) (wb : Nat) (h : WordsAt W wb []) :
    Calls Tryd.prog 51 #[.pointer (some ⟨wb, 0, none⟩)] W fun e w' => e = pan 192 ∧ w' = W := by
  have CN := hide (next_no W wb h)
  unfold pan at *
  clear h
  go_enter Tryd.func51, Tryd.ntmps51
  go_wp2_with (go_at_call 61
               refine CN.out.mono ?_
               rintro e w1 ⟨rfl, rfl⟩)
  exact ⟨rfl, rfl, rfl⟩
end Go.Proofs.YteaccpolmmkclaaDoor

namespace Go.Proofs.YteaccpolmmkclaaDoor
open Go.RowKit

def formC (s : ByteArray) (a b c d : Bool) : List Value := [.string s, .bool a, .bool b, .bool c, .bool d]
/-- The forms' cells. -/
def formsA : Array Value := #[.string ⟨#[]⟩, .bool false, .bool false, .bool false, .bool false, .string ⟨#[111, 112, 101, 110]⟩, .bool true, .bool false, .bool false, .bool false, .string ⟨#[102, 101, 101, 100]⟩, .bool true, .bool true, .bool true, .bool false, .string ⟨#[104, 97, 110, 103]⟩, .bool true, .bool false, .bool true, .bool false,
  .string ⟨#[116, 105, 99, 107]⟩, .bool false, .bool false, .bool true, .bool false, .string ⟨#[100, 114, 97, 105, 110]⟩, .bool false, .bool false, .bool false, .bool false, .string ⟨#[99, 114, 97, 115, 104]⟩, .bool false, .bool false, .bool false, .bool true, .string ⟨#[115, 116, 97, 114, 116]⟩, .bool false, .bool false, .bool true, .bool false]
def lettersA : Array Value := #[.int .u8 115, .int .u8 32, .int .u8 114, .int .u8 13, .int .u8 110, .int .u8 10, .int .u8 92, .int .u8 92]
structure Tabs (w : World) : Prop where
  forms : ∃ t fz, w.heap[0]? = some (.cells formsA t fz)
  letters : ∃ t fz, w.heap[1]? = some (.cells lettersA t fz)
  max : ∃ m, w.cell? ⟨2, 0, none⟩ = some (.int .i64 m)
  pow : Lib.TabIs Tryd.prog w "internal/strconv.uint64pow10" .u64 Lib.pow10Tab
theorem Tabs.lt {w : World} (h : Tabs w) : 0 < w.heap.size ∧ 1 < w.heap.size ∧ 2 < w.heap.size := by
  obtain ⟨⟨_, _, h1⟩, ⟨_, _, h2⟩, ⟨m, h3⟩, _⟩ := h
  exact ⟨(Array.getElem?_eq_some_iff.1 h1).1, (Array.getElem?_eq_some_iff.1 h2).1, cell_lt h3⟩
theorem Tabs.below {w w' : World} (h : Tabs w) (hb : Below w.heap.size w w') : Tabs w' := by
  have hl := h.lt
  obtain ⟨⟨t1, f1, h1⟩, ⟨t2, f2, h2⟩, ⟨m, h3⟩, h4⟩ := h
  exact ⟨⟨t1, f1, (hb.block _ hl.1).trans h1⟩, ⟨t2, f2, (hb.block _ hl.2.1).trans h2⟩, ⟨m, (hb.cell (p := ⟨2, 0, none⟩) hl.2.2).trans h3⟩, tab_below hb h4⟩
theorem Tabs.keptB {w w' : World} (h : Tabs w) (hb : Below 6 w w') : Tabs w' := by
  obtain ⟨⟨t1, f1, h1⟩, ⟨t2, f2, h2⟩, ⟨m, h3⟩, h4⟩ := h
  exact ⟨⟨t1, f1, (hb.block _ (by decide)).trans h1⟩, ⟨t2, f2, (hb.block _ (by decide)).trans h2⟩, ⟨m, (hb.cell (p := ⟨2, 0, none⟩) (by decide)).trans h3⟩, var?_below hb gPow (by decide) h4⟩
end Go.Proofs.YteaccpolmmkclaaDoor
