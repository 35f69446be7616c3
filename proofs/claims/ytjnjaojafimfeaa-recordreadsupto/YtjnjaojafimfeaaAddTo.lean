/-
  The walk of addTo.
-/
import Derived.Test.YtjnjaojafimfeaaNums
namespace Go.Proofs.Ytjnjaojafimfeaa
open Go.RowKit

theorem Own.ofNew1 (w : World) (x : UInt8) : IsBytes (w.alloc (.cells #[.int .u8 (x.toNat : Int)] 5)) (some ⟨w.heap.size, 0, none⟩) 1 [x] :=
  ByteRow.is (show ByteRow _ 5 w.heap.size [x] from heap_alloc_last _ _) 0 1 [x] (fun j y hj => by rw [Nat.zero_add]; exact hj) (by simp) (by unfold maxLen; decide)
theorem low_wrap (n : Int) (i : Nat) : IntKind.u8.wrap (n / 2 ^ (8 * i)) = ((lowB n i).toNat : Int) := by rw [IntKind.wrap_u8, low_nat]

/-- The two blocks that are read lie apart from the bytes that grow. -/
def Aside (v : Value) (nb fb m : Nat) : Prop := ∀ g, v.ownBlock = some g → g ≠ nb ∧ (m = 0 ∨ g ≠ fb)

theorem nums_snoc (n : Nat → Int) (l : List Nat) (j f : Nat) (h : l[j]? = some f) : numsL n (l.take (j + 1)) = numsL n (l.take j) ++ le8 (n f) := by
  have hj := (List.getElem?_eq_some_iff.1 h).1
  have e : l[j] = f := (List.getElem?_eq_some_iff.1 h).2
  rw [List.take_succ_eq_append_getElem hj, e]
  simp [numsL]
theorem low_snoc (n : Int) (i : Nat) : (List.range (i + 1)).map (lowB n) = (List.range i).map (lowB n) ++ [lowB n i] := by
  rw [List.range_succ, List.map_append]
  rfl
/-- What lies about while the bytes grow. -/
structure Adds (w wr : World) (B nb fb : Nat) (n : Nat → Int) (fs : List Nat) (v : Value) (l : List UInt8) : Prop where
  own : Own wr B v l
  below : Below B w wr
  nums : NumsAt wr nb n
  flds : fs.length = 0 ∨ FieldsAt wr fb fs ∧ fb < wr.heap.size
  aside : Aside v nb fb fs.length
theorem Adds.step {w wr w2 : World} {B nb fb : Nat} {n : Nat → Int} {fs : List Nat} {v v' : Value} {l : List UInt8} {x : UInt8} {o : Obj} (h : Adds w wr B nb fb n fs v l) (hB : B ≤ w.heap.size)
    (own : Own w2 B v' (l ++ [x])) (gr : (wr.alloc o).grownBy w2 v.ownBlock) (hv : v'.ownBlock = v.ownBlock ∨ v'.ownBlock = some (wr.alloc o).heap.size) : Adds w w2 B nb fb n fs v' (l ++ [x]) := by
  have hz := h.below.size
  have kk : Kept (fun q => some q = v.ownBlock) (wr.alloc o) w2 := Kept.ofGrown gr (fun g hg => hg.symm)
  have ka : Below wr.heap.size wr (wr.alloc o) := (Below.refl _ wr).alloc (Nat.le_refl _) _
  have hn := h.nums.below ka
  refine ⟨own, (h.below.trans (ka.mono (by omega))).grown gr (by simp; omega) (fun b hb => (h.own.lt b hb).1), ?_, ?_, ?_⟩
  · exact (kk.block nb hn.lt (fun e => (h.aside nb e.symm).1 rfl)).trans hn
  · rcases h.flds with h0 | ⟨h1, h2⟩
    · exact .inl h0
    · by_cases hne : fs.length = 0
      · exact .inl hne
      exact .inr ⟨(h1.below ka).kept kk (fun e => by rcases (h.aside fb e.symm).2 with h0 | h0; exact hne h0; exact h0 rfl), by have := gr.size; simp at this; omega⟩
  · intro g hg
    rcases hv with hv | hv
    · exact h.aside g (hv ▸ hg)
    · rw [hv] at hg
      simp only [World.size_alloc, Option.some.injEq] at hg
      have := h.nums.lt
      rcases h.flds with h0 | ⟨_, h2⟩
      · exact ⟨by omega, .inl h0⟩
      · omega

set_option maxHeartbeats 1000000 in
set_option maxRecDepth 1000000 in
theorem addTo_any (n : Nat → Int) (k : Int) (v : Value) (l : List UInt8) (B : Nat) (w : World) (hB : B ≤ w.heap.size) (own : Own w B v l) (hl : l.length ≤ 1048576) :
    Calls Try.prog 36 #[.agg (numsA n), v, .int .i64 k] w fun e w' => ∃ v', e = .returned v' ∧ Own w' B v' (l ++ numsL n (fieldsL k)) ∧ Below B w w' := by
  have hlen := fields_len k
  obtain ⟨C, hC⟩ : ∃ C, C = numsA n := ⟨_, rfl⟩
  have hsz : C.size = 16 := by rw [hC]; rfl
  have HC : Hid (C = numsA n) := hC
  rw [← hC]
  clear hC
  go_enter Try.func36, Try.ntmps36
  go_wp2_with (first
    | (go_at_call 45; refine (fieldsOf_any _ _).mono ?_; rintro e w1 ⟨fa, rfl, B1, hfa⟩))
  obtain ⟨nb, hnb⟩ : ∃ nb, nb = w.heap.size := ⟨_, rfl⟩
  obtain ⟨fb, hfb⟩ : ∃ fb, fb = (w.alloc (.cells C 53)).heap.size := ⟨_, rfl⟩
  rw [← hfb] at hfa
  have A0 : Hid (Adds w w1 B nb fb n (fieldsL k) v (l ++ numsL n ((fieldsL k).take 0))) := by
    have hlt : ∀ g, v.ownBlock = some g → g < w.heap.size := fun g hg => (own.lt g hg).2
    have hz : fb = w.heap.size + 1 := by rw [hfb]; simp
    refine ⟨?_, ((Below.refl _ w).alloc hB _).trans (B1.mono (by simp; omega)), ?_, ?_, fun g hg => ?_⟩
    · simp only [List.take_zero, numsL, List.flatMap_nil, List.append_nil]
      exact (own.below ((Below.refl _ w).alloc (Nat.le_refl _) _)).below B1
    · rw [hnb]
      exact (B1.block _ (by simp)).trans (by rw [HC.out]; exact heap_alloc_last _ _)
    · rcases hfa with h0 | ⟨_, h1, h2⟩
      · exact .inl h0
      · exact .inr ⟨h1, h2⟩
    · have := hlt g hg
      omega
  have HFA : Hid ((fieldsL k).length = 0 ∨ fa = some ⟨fb, 0, none⟩) := by
    rcases hfa with h0 | ⟨h0, _⟩
    · exact .inl h0
    · exact .inr h0
  rw [← hnb]
  clear hfa hfb own B1 hnb
  go_loopg [1, 13] (fieldsL k).length (fun gk vb i wr => ∃ j : Nat, i = .int .i64 j ∧ j ≤ (fieldsL k).length ∧ (fieldsL k).length - j ≤ gk ∧ Hid (Adds w wr B nb fb n (fieldsL k) vb (l ++ numsL n ((fieldsL k).take j))))
  case atStart => exact ⟨0, rfl, Nat.zero_le _, Nat.le_refl _, A0⟩
  case round =>
    obtain ⟨j, rfl, hj, hgk, HK⟩ := hrel
    by_cases hlt : j < (fieldsL k).length
    · obtain ⟨f, hf, hfm⟩ := field_at hlt
      have hf16 := fields_lt hfm
      rcases HFA.out with h0 | rfl
      · omega
      have hc1 : wr.cell? ⟨fb, j, none⟩ = some (.int .i64 (f : Int)) := by
        rcases HK.out.flds with h0 | ⟨h1, _⟩
        · omega
        · exact h1 j f hf
      have HX : Hid ((fieldsL k)[j]? = some f) := hf
      clear hf
      go_wp2_with fail
      have HI : Hid (Adds w wr B nb fb n (fieldsL k) u1 (l ++ numsL n ((fieldsL k).take j) ++ (List.range 0).map (lowB (n f)))) := by
        show Adds _ _ _ _ _ _ _ _ _
        rw [show (List.range 0).map (lowB (n f)) = [] from rfl, List.append_nil]
        exact HK.out
      clear hc1
      obtain ⟨L, hL⟩ : ∃ L, L = l ++ numsL n ((fieldsL k).take j) := ⟨_, rfl⟩
      have hLl : L.length ≤ 1048776 := by rw [hL, List.length_append, nums_length, List.length_take]; omega
      rw [← hL] at HI
      have HL : Hid (L = l ++ numsL n ((fieldsL k).take j)) := hL
      clear hL HK
      go_loopg [1, 17] 8 (fun gi vb i wr => ∃ q : Nat, i = .int .i64 q ∧ q ≤ 8 ∧ 8 - q ≤ gi ∧ Hid (Adds w wr B nb fb n (fieldsL k) vb (L ++ (List.range q).map (lowB (n f)))))
      case atStart => exact ⟨0, rfl, Nat.zero_le _, Nat.le_refl _, HI⟩
      case round =>
        obtain ⟨q, rfl, hq, hgq, HQ⟩ := hrel
        rename_i wq
        by_cases hq8 : q < 8
        · have hc2 := HQ.out.nums.cell f hf16
          have i1 : (0 : Int) ≤ (f : Int) := by omega
          have i2 : (f : Int) < 16 := by omega
          obtain ⟨x, hx⟩ : ∃ x, x = lowB (n f) q := ⟨_, rfl⟩
          have HXX : Hid (x = lowB (n f) q) := hx
          have hw8 := low_wrap (n f) q
          rw [← hx] at hw8
          clear hx
          have hLq : (L ++ (List.range q).map (lowB (n f))).length ≤ 1048784 := by rw [List.length_append, List.length_map, List.length_range]; omega
          have hBr : B ≤ wr.heap.size := Nat.le_trans hB HQ.out.below.size
          have HLQ : Hid ((L ++ (List.range q).map (lowB (n f))).length ≤ 1048784 ∧ B ≤ wr.heap.size) := ⟨hLq, hBr⟩
          clear hLq hBr
          go_wp2_with (refine wpList_append8 rfl (.tmp 20) (.tmp 28) rfl B u1 (L ++ (List.range q).map (lowB (n f))) rfl (HQ.out.own.below ((Below.refl _ wr).alloc (Nat.le_refl _) _)) (some ⟨wr.heap.size, 0, none⟩) 1 [x] rfl (Own.ofNew1 wr x) (by have := HLQ.out.1; simp only [List.length_cons, List.length_nil]; omega) (by have := HLQ.out.2; simp; omega) ?_; intro v2 w2 own2 gr2 _ hv2 _)
          go_roundg (8 - (q + 1))
          case measure => omega
          case rel => exact ⟨q + 1, by go_num, by omega, Nat.le_refl _, by rw [low_snoc, ← HXX.out, ← List.append_assoc]; exact HQ.out.step hB own2 gr2 hv2⟩
        · obtain rfl : q = 8 := by omega
          have HE : Hid (Adds w wr B nb fb n (fieldsL k) u1 (l ++ numsL n ((fieldsL k).take (j + 1)))) := by
            have := HQ.out
            rw [HL.out] at this
            show Adds _ _ _ _ _ _ _ _ _
            rw [nums_snoc n _ j f HX.out, ← List.append_assoc]
            exact this
          go_wp2_with fail
          go_roundg ((fieldsL k).length - (j + 1))
          case measure => omega
          case rel => exact ⟨j + 1, by go_num, by omega, Nat.le_refl _, HE⟩
    · obtain rfl : j = (fieldsL k).length := by omega
      go_wp2_with fail
      go_ret
      exact ⟨_, rfl, by have := HK.out.own; rwa [List.take_length] at this, HK.out.below⟩
end Go.Proofs.Ytjnjaojafimfeaa
