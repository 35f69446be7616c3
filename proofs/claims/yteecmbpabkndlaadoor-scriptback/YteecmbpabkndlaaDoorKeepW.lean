/-
  A keep is read.
-/
import Derived.Test.YteecmbpabkndlaaDoorPan
namespace Go.Proofs.YteecmbpabkndlaaDoor
open Go.RowKit

def keepT : ByteArray := ⟨#[107, 101, 101, 112]⟩
def breakT : ByteArray := ⟨#[98, 114, 101, 97, 107]⟩
theorem numsP_append : ∀ (a b : List Tx), numsP (a ++ b) = (numsP a).bind fun x => (numsP b).map fun y => x ++ y
  | [], b => by
    cases h : numsP b <;> simp [numsP, h]
  | x :: a, b => by
    simp only [List.cons_append, numsP, numsP_append a b]
    split
    · cases numsP a <;> cases numsP b <;> simp
    · rfl
theorem OwnI.one (w : World) (B : Nat) (x : Int) (hB : B ≤ w.heap.size) : OwnI (w.alloc (.cells #[.int .i64 x] 3)) B (.slice (some ⟨w.heap.size, 0, none⟩) 1 1) [x] :=
  ⟨by simp, .inr ⟨w.heap.size, 1, #[.int .i64 x], rfl, hB, heap_alloc_new w _, by simp, by simp [maxLen], by simp, by simp⟩⟩
theorem OwnI.keptN {P : Nat → Prop} {w w1 : World} {B : Nat} {v : Value} {l : List Int} (h : Kept P w w1) (ho : OwnI w B v l) (hP : ∀ g, v.ownBlock = some g → ¬ P g) : OwnI w1 B v l := Kept.own h ho hP
theorem OwnI.noStr {W : World} {B : Nat} {v : Value} {l : List Int} (ho : OwnI W B v l) {g : Nat} (hg : v.ownBlock = some g) {cur : Array Value} (hs : W.heap[g]? = some (.cells cur 9 (0, 0))) : False := by
  rcases ho.2 with ⟨rfl, _⟩ | ⟨g', cap, cur', rfl, _, hc, _⟩
  · cases hg
  · simp only [Value.ownBlock, Option.some.injEq] at hg
    rw [hg, hs] at hc
    simp at hc
/-- A row of numbers is not the words' box. -/
theorem WordsAt.ne {W : World} {wb B : Nat} {ss : List ByteArray} {v : Value} {l : List Int} (h : WordsAt W wb ss) (ho : OwnI W B v l) : ∀ g, v.ownBlock = some g → ¬ g = wb := by
  intro g hg e
  obtain ⟨a, c, h1, _⟩ := h
  rcases ho.2 with ⟨rfl, _⟩ | ⟨g', cap, cur, rfl, _, hc, _⟩
  · cases hg
  · cases hg
    have e2 : g' = wb := e
    rw [e2, h1] at hc
    simp only [Option.some.injEq, Obj.cells.injEq] at hc
    have := hc.2.1
    simp at this

set_option maxHeartbeats 1000000 in
set_option maxRecDepth 1000000 in
theorem keep_none (W : World) (wb : Nat) (ss : List ByteArray) (h : WordsAt W wb ss) (hn : hasP keepW (tl ss) = false) :
    Calls Tryd.prog 76 #[.pointer (some ⟨wb, 0, none⟩)] W fun e w' => e = .returned (.slice none 0 0) ∧ w' = W := by
  have CH := hide (has_no W wb keepT ss h (fun x r e hx => by subst e; simp [hasP, hx, keepW, keepT] at hn))
  unfold keepT at CH
  clear h hn
  go_enter Tryd.func76, Tryd.ntmps76
  go_wp2_with (go_at_call 75
               refine CH.out.mono ?_
               rintro e w1 ⟨rfl, rfl⟩)
  go_ret
  exact ⟨rfl, rfl⟩
/-- What a keep with its word answers. -/
def KeepPost (W : World) (wb : Nat) (r : List ByteArray) (e : Ending) (w' : World) : Prop :=
  Kept (fun j => j = wb) W w' ∧ ((∃ l v, l ≠ [] ∧ numsP (tl r) = some l ∧ e = .returned v ∧ OwnI w' W.heap.size v l ∧ WordsAt w' wb []) ∨ ((∀ l, numsP (tl r) = some l → l = []) ∧ e = pan 192))

set_option maxHeartbeats 2000000 in
set_option maxRecDepth 1000000 in
theorem keep_any (W : World) (wb : Nat) (k : ByteArray) (r : List ByteArray) (hk : k = keepT) (h : WordsAt W wb (k :: r)) (hl : r.length ≤ 1048576) :
    Calls Tryd.prog 76 #[.pointer (some ⟨wb, 0, none⟩)] W (KeepPost W wb r) := by
  subst hk
  have CH := hide (has_yes W wb keepT r h)
  have hlw := h.lt
  unfold keepT at CH
  clear h
  cases r with
  | nil =>
    go_enter Tryd.func76, Tryd.ntmps76
    go_wp2_with (first
      | (go_at_call 75
         refine CH.out.mono ?_
         rintro e w1 ⟨rfl, h1, k1⟩
         have CN := hide (number_none w1 wb h1)
         unfold pan at CN
         have K1 := hide k1
         clear h1 k1)
      | (go_at_call 65
         refine CN.out.mono ?_
         rintro e w2 ⟨rfl, rfl⟩))
    exact ⟨rfl, K1.out, .inr ⟨fun l hl => by simp [numsP] at hl; exact hl, rfl⟩⟩
  | cons x r =>
    cases hpx : parseB x.data.toList maxWord
    · have HP : Hid (numsP (tl (x :: r)) = none) := by simp [Hid, numsP, hpx]
      go_enter Tryd.func76, Tryd.ntmps76
      go_wp2_with (first
        | (go_at_call 75
           refine CH.out.mono ?_
           rintro e w1 ⟨rfl, h1, k1⟩
           have CN := hide (number_any w1 wb x r h1)
           rw [hpx] at CN
           unfold pan at CN
           simp only [Bool.false_eq_true, if_false] at CN
           have K1 := hide k1
           clear h1 k1)
        | (go_at_call 65
           refine CN.out.mono ?_
           rintro e w2 ⟨rfl, h2, k2⟩
           have K2 := hide (K1.out.trans k2)
           clear h2 k2))
      exact ⟨rfl, K2.out, .inr ⟨fun l hl => absurd (HP.out.symm.trans hl) (by simp), rfl⟩⟩
    · obtain ⟨n0, hn0⟩ : ∃ n0, parseV x.data.toList maxWord = n0 := ⟨_, rfl⟩
      have HX : Hid (parseB x.data.toList maxWord = true ∧ parseV x.data.toList maxWord = n0) := ⟨hpx, hn0⟩
      go_enter Tryd.func76, Tryd.ntmps76
      go_wp2_with (first
        | (go_at_call 75
           refine CH.out.mono ?_
           rintro e w1 ⟨rfl, h1, k1⟩
           have CN := hide (number_any w1 wb x r h1)
           rw [hpx, hn0] at CN
           simp only [if_true] at CN
           have K1 := hide k1
           clear h1 k1)
        | (go_at_call 65
           refine CN.out.mono ?_
           rintro e w2 ⟨rfl, h2, k2⟩
           have K2 := hide (K1.out.trans k2)
           have H2 := hide h2
           clear h2 k2))
      have hz := K2.out.size
      have al : Below w2.heap.size w2 (w2.alloc (.cells #[.int .i64 n0] 3)) := (Below.refl _ w2).alloc (Nat.le_refl _) _
      have O3 : Hid (OwnI (w2.alloc (.cells #[.int .i64 n0] 3)) W.heap.size (.slice (some ⟨w2.heap.size, 0, none⟩) 1 1) [n0]) := OwnI.one w2 W.heap.size n0 hz
      have H3 := hide (H2.out.later al)
      have K3 : Hid (Kept (fun j => j = wb) W (w2.alloc (.cells #[.int .i64 n0] 3))) := K2.out.trans (Kept.ofBelow al)
      clear al hpx hn0
      go_loopg [3] r.length (fun gk s3 wr => ∃ (done rest : List ByteArray) (l : List Int), r = done ++ rest ∧ rest.length ≤ gk ∧ Hid (numsP (tl (x :: done)) = some l ∧ l ≠ [] ∧ l.length = done.length + 1) ∧ Hid (OwnI wr W.heap.size s3 l) ∧ Hid (WordsAt wr wb rest) ∧ Hid (Kept (fun j => j = wb) W wr))
      case atStart => exact ⟨[], r, [n0], rfl, Nat.le_refl _, ⟨by simp [numsP, HX.out.1, HX.out.2], by simp, rfl⟩, O3, H3, K3⟩
      case round =>
        obtain ⟨done, rest, l, hr, hgk, HL, HO, HW, HK⟩ := hrel
        have HR := hide hr
        have hrl : r.length = done.length + rest.length := by rw [hr]; simp
        have hll : l.length ≤ 1048577 := by have := HL.out.2.2; simp at hl; omega
        obtain ⟨a1, d1, b0, f0, i0⟩ := HW.out.box
        have hz3 := HK.out.size
        clear hr hrl
        cases rest with
        | nil =>
          go_wp2_with fail
          go_ret
          have hd : r = done := by have := HR.out; simpa using this
          exact ⟨HK.out, .inl ⟨l, _, HL.out.2.1, by rw [hd]; exact HL.out.1, rfl, HO.out, HW.out⟩⟩
        | cons y rest =>
          simp only [List.length_cons] at b0 hgk
          have hpos : (0 : Int) < (rest.length : Int) + 1 := by omega
          cases hpy : parseB y.data.toList maxWord
          · have CN := hide (number_any wr wb y rest HW.out)
            rw [hpy] at CN
            unfold pan at CN
            simp only [Bool.false_eq_true, if_false] at CN
            have HP : Hid (numsP (tl (x :: r)) = none) := by
              show numsP (tl (x :: r)) = none
              rw [HR.out]
              have e : tl (x :: (done ++ y :: rest)) = tl (x :: done) ++ tl (y :: rest) := by simp [tl]
              rw [e, numsP_append, HL.out.1]
              simp [numsP, hpy]
            clear hpy
            go_wp2_with (go_at_call 65
                         refine CN.out.mono ?_
                         rintro e w4 ⟨rfl, h4, k4⟩
                         have K4 := hide (HK.out.trans k4)
                         clear h4 k4)
            exact ⟨rfl, K4.out, .inr ⟨fun l hl => absurd (HP.out.symm.trans hl) (by simp), rfl⟩⟩
          · obtain ⟨n1, hn1⟩ : ∃ n1, parseV y.data.toList maxWord = n1 := ⟨_, rfl⟩
            have CN := hide (number_any wr wb y rest HW.out)
            rw [hpy, hn1] at CN
            simp only [if_true] at CN
            have HP : Hid (numsP (tl (x :: (done ++ [y]))) = some (l ++ [n1])) := by
              show numsP (tl (x :: (done ++ [y]))) = some (l ++ [n1])
              have e : tl (x :: (done ++ [y])) = tl (x :: done) ++ tl [y] := by simp [tl]
              rw [e, numsP_append, HL.out.1]
              simp [numsP, hpy, hn1]
            clear hpy hn1
            go_wp2_with (first
              | (go_at_call 65
                 refine CN.out.mono ?_
                 rintro e w4 ⟨rfl, h4, k4⟩
                 have al : Below w4.heap.size w4 (w4.alloc (.cells #[.int .i64 n1] 3)) := (Below.refl _ w4).alloc (Nat.le_refl _) _
                 have O4 : Hid (OwnI (w4.alloc (.cells #[.int .i64 n1] 3)) W.heap.size u3 l) := (HO.out.keptN k4 (HW.out.ne HO.out)).below al
                 have H4 := hide (h4.later al)
                 have K4 : Hid (Kept (fun j => j = wb) W (w4.alloc (.cells #[.int .i64 n1] 3))) := (HK.out.trans k4).trans (Kept.ofBelow al)
                 have hz4 := k4.size
                 clear h4 k4 al)
              | (refine wpList_appendS rfl (.tmp 15) (.tmp 18) rfl W.heap.size u3 l rfl O4.out (some ⟨w4.heap.size, 0, none⟩) 1 [n1] rfl (IsInts.ofNew w4 n1) (by simp; omega) (by simp; omega) ?_
                 intro v5 w5 ho5 hg5 _ _ _
                 have k5 : Kept (fun j => some j = u3.ownBlock) (w4.alloc (.cells #[.int .i64 n1] 3)) w5 := Kept.ofGrown hg5 (fun g e => e.symm)
                 have W5 : Hid (WordsAt w5 wb rest) := H4.out.kept2 k5 (fun e => H4.out.ne O4.out wb e.symm rfl) (fun b cur he e => O4.out.noStr e.symm he)
                 have K5 : Hid (Kept (fun j => j = wb) W w5) := K4.out.step k5 (fun j hj e => by have := (O4.out.lt j e.symm).1; omega)
                 have O5 := hide ho5
                 clear ho5 hg5 k5))
            go_roundg (gk - 1)
            case measure => omega
            case rel => exact ⟨done ++ [y], rest, l ++ [n1], by rw [HR.out]; simp, by omega, ⟨HP.out, by simp, by simp [HL.out.2.2]⟩, O5, W5, K5⟩
end Go.Proofs.YteecmbpabkndlaaDoor
