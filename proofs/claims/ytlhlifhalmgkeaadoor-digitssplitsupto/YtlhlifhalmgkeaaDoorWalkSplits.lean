/-
  The walk of the statement on splitting.
-/
import Derived.Test.YtlhlifhalmgkeaaDoorShown
import Derived.Test.YtlhlifhalmgkeaaDoorTSplit
import Derived.Test.YtlhlifhalmgkeaaDoorTSpoil
namespace Go.Proofs.YtlhlifhalmgkeaaDoor.digitsSplits
open Go.RowKit

/-- What the statement has in memory. -/
def BS (w0 w : World) (Hb first n M : Nat) : Prop :=
  Below w0.heap.size w0 w ∧ ∃ (lab : Nat → Tag) (es : List Ent), Held w w0.heap.size lab Hb (.int .i64 first) (okA first) es ∧ es.length = n ∧ (∀ k, k < w0.heap.size → lab k = .user 0) ∧ (∀ (j : Nat) e, es[j]? = some e → e.bytes.length ≤ M)

theorem BS.start {w0 w1 : World} (h1 : Below w0.heap.size w0 w1) : BS w0 (w1.alloc (.cells #[.slice none 0 0, .slice none 0 0, .int .i64 0] 26)) w1.heap.size 0 0 1048577 := by
  have hz := h1.size
  obtain ⟨vo, vw, hr, _⟩ := Held.start w1 w0.heap.size (fun k => if k = w1.heap.size then .box else .user 0) hz (by simp)
  exact ⟨h1.alloc hz _, _, [], ⟨vo, vw, hr, fun j e he => by simp at he⟩, rfl, fun k hk => if_neg (by omega), fun j e he => by simp at he⟩

theorem BS.split {w0 w : World} {Hb first n M : Nat} (h : BS w0 w Hb first n M) (hM : 1048577 ≤ M) (_hfn : first ≤ n) (hn : n ≤ 65536) (s : ByteArray) (hs : s.size ≤ 1048576) :
    Calls Tryd.prog 5 #[.pointer (some ⟨Hb, 0, none⟩), .string s] w fun e w' => e = .returned (.bool true) ∧ BS w0 w' Hb first (n + 1) M := by
  obtain ⟨hb, lab, es, hh, hl, hu, hbd⟩ := h
  have hz := hb.size
  refine (bookSplit_any s w w0.heap.size lab Hb _ _ es hh hz (.inr rfl) hs (by omega)).mono ?_
  rintro e w' ⟨rfl, lab', f, hh', hf, hl', hk'⟩
  refine ⟨rfl, hb.trans (hk'.below hz (fun k hk hL => ?_)), lab', es ++ [f], hh', by simp [hl], fun k hk => (hl' k (by omega)).trans (hu k hk), fun j e he => ?_⟩
  · unfold Lists at hL
    rw [hu k hk] at hL
    simp at hL
  · by_cases hjl : j < es.length
    · rw [List.getElem?_append_left hjl] at he
      exact hbd j e he
    · rw [List.getElem?_append_right (by omega)] at he
      have hj0 : j - es.length = 0 := by have := (List.getElem?_eq_some_iff.1 he).1; simp at this; omega
      rw [hj0] at he
      simp only [List.getElem?_cons_zero, Option.some.injEq] at he
      rw [← he]
      omega
theorem BS.spoil {w0 w : World} {Hb first n M : Nat} (h : BS w0 w Hb first n M) (hM : M ≤ 1073741824) (hfn : first ≤ n) (hn : n ≤ 65536) :
    Calls Tryd.prog 6 #[.pointer (some ⟨Hb, 0, none⟩)] w fun e w' => e = .returned (.bool true) ∧ BS w0 w' Hb (n + (n - first)) (n + (n - first)) (M + 12) := by
  obtain ⟨hb, lab, es, hh, hl, hu, hbd⟩ := h
  have hz := hb.size
  refine (spoil_any w w0.heap.size lab Hb first M es hh hz (by omega) (by omega) hM hbd).mono ?_
  rintro e w' ⟨rfl, lab', fs, hh', hf, hl', hk', hbd'⟩
  rw [hl] at hf
  refine ⟨rfl, hb.trans (hk'.below hz (fun k hk hn => hn 0 (hu k hk))), lab', fs, ?_, hf, fun k hk => (hl' k (by omega)).trans (hu k hk), hbd'⟩
  rw [hf] at hh'
  exact hh'

set_option maxHeartbeats 1000000 in
set_option maxRecDepth 1000000 in
theorem walk (s r : ByteArray) (w : World) (_hs : s.size ≤ maxLen) (_hr : r.size ≤ maxLen) (htab : Lib.TabIs Tryd.prog w "internal/strconv.uint64pow10" .u64 Lib.pow10Tab) (hk1 : s.size ≤ 1048576) (hk2 : r.size ≤ 1048576) :
    Calls Tryd.prog 3 #[.string s, .string r] w fun e w' => e = .returned (.bool true) ∧ Below w.heap.size w w' := by
  have HT : Hid (Lib.TabIs Tryd.prog w "internal/strconv.uint64pow10" .u64 Lib.pow10Tab) := htab
  clear htab
  go_enter Tryd.func3, Tryd.ntmps3
  go_wp2_with fail
  refine (shown_any _ HT.out).mono ?_
  rintro e w1 ⟨rfl, B1⟩
  have S1 : Hid (BS w (w1.alloc (.cells #[.slice none 0 0, .slice none 0 0, .int .i64 0] 26)) w1.heap.size 0 0 1048577) := BS.start B1
  clear B1
  go_wp2_with fail
  refine (S1.out.split (Nat.le_refl _) (by omega) (by omega) s hk1).mono ?_
  rintro e w2 ⟨rfl, b2⟩
  have S2 : Hid (BS w w2 w1.heap.size 0 1 1048577) := b2
  clear b2 S1
  go_wp2_with fail
  refine (S2.out.split (Nat.le_refl _) (by omega) (by omega) r hk2).mono ?_
  rintro e w3 ⟨rfl, b3⟩
  have S3 : Hid (BS w w3 w1.heap.size 0 2 1048577) := b3
  clear b3 S2
  go_wp2_with fail
  refine (S3.out.split (Nat.le_refl _) (by omega) (by omega) s hk1).mono ?_
  rintro e w4 ⟨rfl, b4⟩
  have S4 : Hid (BS w w4 w1.heap.size 0 3 1048577) := b4
  clear b4 S3
  go_wp2_with fail
  refine (S4.out.split (Nat.le_refl _) (by omega) (by omega) s hk1).mono ?_
  rintro e w5 ⟨rfl, b5⟩
  have S5 : Hid (BS w w5 w1.heap.size 0 4 1048577) := b5
  clear b5 S4
  go_wp2_with fail
  refine (S5.out.spoil (by omega) (by omega) (by omega)).mono ?_
  rintro e w6 ⟨rfl, b6⟩
  have S6 : Hid (BS w w6 w1.heap.size 8 8 1048589) := b6
  clear b6 S5
  go_wp2_with fail
  refine (S6.out.split (by omega) (by omega) (by omega) s hk1).mono ?_
  rintro e w7 ⟨rfl, b7⟩
  have S7 : Hid (BS w w7 w1.heap.size 8 9 1048589) := b7
  clear b7 S6
  go_wp2_with fail
  refine (S7.out.spoil (by omega) (by omega) (by omega)).mono ?_
  rintro e w8 ⟨rfl, b8⟩
  have B8 : Hid (Below w.heap.size w w8) := b8.1
  clear b8 S7
  go_wp2
  go_ret
  exact ⟨rfl, B8.out⟩
end Go.Proofs.YtlhlifhalmgkeaaDoor.digitsSplits
