/-
  What the walk of the words' step leans on.
-/
import Derived.Test.YteecmbpabkndlaaDoorStepW
namespace Go.Proofs.YteecmbpabkndlaaDoor
open Go.RowKit

theorem numOk (W : World) (wb : Nat) (x : ByteArray) (r : List ByteArray) (h : WordsAt W wb (x :: r)) {v : Int} (hp : parseB x.data.toList maxWord = true ∧ parseV x.data.toList maxWord = v) :
    Calls Tryd.prog 65 #[.pointer (some ⟨wb, 0, none⟩)] W fun e w' => e = .returned (.int .i64 v) ∧ WordsAt w' wb r ∧ Kept (fun j => j = wb) W w' := by
  refine (number_any W wb x r h).mono ?_
  rintro e w' ⟨he, h1⟩
  rw [hp.1, if_pos rfl, hp.2] at he
  exact ⟨he, h1⟩
theorem numBad (W : World) (wb : Nat) (x : ByteArray) (r : List ByteArray) (h : WordsAt W wb (x :: r)) (hp : parseB x.data.toList maxWord = false) :
    Calls Tryd.prog 65 #[.pointer (some ⟨wb, 0, none⟩)] W fun e w' => e = pan 192 ∧ Kept (fun j => j = wb) W w' := by
  refine (number_any W wb x r h).mono ?_
  rintro e w' ⟨he, _, h1⟩
  rw [hp, if_neg (by simp)] at he
  exact ⟨he, h1⟩
theorem dataOk (s : ByteArray) (w : World) (T : Tabs w) (hs : s.size ≤ 1073741823) {b : List UInt8} (hd : dataP s.data.toList = some b) :
    Calls Tryd.prog 73 #[.string s] w fun e w' => ∃ a c, e = .returned (.slice a b.length c) ∧ Own w' w.heap.size (.slice a b.length c) b ∧ Below w.heap.size w w' := by
  refine (data_any s w T hs).mono ?_
  rintro e w' ⟨h1, ⟨b', v, h2, rfl, h3⟩ | ⟨h2, _⟩⟩
  · rw [hd] at h2
    cases h2
    obtain ⟨a, c, rfl, _⟩ := h3.shape
    exact ⟨a, c, rfl, h3, h1⟩
  · rw [hd] at h2
    cases h2
theorem dataBad (s : ByteArray) (w : World) (T : Tabs w) (hs : s.size ≤ 1073741823) (hd : dataP s.data.toList = none) :
    Calls Tryd.prog 73 #[.string s] w fun e w' => e = pan 192 ∧ Below w.heap.size w w' := by
  refine (data_any s w T hs).mono ?_
  rintro e w' ⟨h1, ⟨b', v, h2, _⟩ | ⟨_, h3⟩⟩
  · rw [hd] at h2
    cases h2
  · exact ⟨h3, h1⟩
theorem keepOk (W : World) (wb : Nat) (z : ByteArray) (t : List ByteArray) (h : WordsAt W wb (z :: t)) (hz : z = keepT) (hl : t.length ≤ 1048576) {l : List Int} (hn : numsP (tl t) = some l) (hne : l ≠ []) :
    Calls Tryd.prog 76 #[.pointer (some ⟨wb, 0, none⟩)] W fun e w' => ∃ a c, e = .returned (.slice a l.length c) ∧ OwnI w' W.heap.size (.slice a l.length c) l ∧ WordsAt w' wb [] ∧ Kept (fun j => j = wb) W w' := by
  refine (keep_any W wb z t hz h hl).mono ?_
  rintro e w' ⟨h1, ⟨l', v, _, h2, rfl, h3, h4⟩ | ⟨h2, _⟩⟩
  · rw [hn] at h2
    cases h2
    obtain ⟨a, c, rfl, _⟩ := h3.shape
    exact ⟨a, c, rfl, h3, h4, h1⟩
  · exact absurd (h2 l hn) hne
theorem keepBad (W : World) (wb : Nat) (z : ByteArray) (t : List ByteArray) (h : WordsAt W wb (z :: t)) (hz : z = keepT) (hl : t.length ≤ 1048576) (hn : ∀ l, numsP (tl t) = some l → l = []) :
    Calls Tryd.prog 76 #[.pointer (some ⟨wb, 0, none⟩)] W fun e w' => e = pan 192 ∧ Kept (fun j => j = wb) W w' := by
  refine (keep_any W wb z t hz h hl).mono ?_
  rintro e w' ⟨h1, ⟨l', v, hne, h2, _⟩ | ⟨_, h3⟩⟩
  · exact absurd (hn l' h2) hne
  · exact ⟨h3, h1⟩
section
variable {W w : World} {wb fb sb rb : Nat} {bc bd bb bk : Bool} {rest : List ByteArray} {k conn brk : Int} {dv kv : Value} {data : List UInt8} {keep : List Int}
theorem At.tabs (h : At W w wb fb sb rb bc bd bb bk rest k conn brk dv kv data keep) (T : Tabs W ∧ 6 ≤ wb) : Tabs w := T.1.keptB (h.kept.below (B := 6) (by have := h.wl; omega) (fun j hj e => by omega))
theorem At.final (h : At W w wb fb sb rb bc bd bb bk rest k conn brk dv kv data keep) : (w.setRow rb #[.int .i64 k, .int .i64 conn, dv, .int .i64 brk, kv]).heap[rb]? = some (.cells #[.int .i64 k, .int .i64 conn, dv, .int .i64 brk, kv] 44 (0, 0)) ∧ Own (w.setRow rb #[.int .i64 k, .int .i64 conn, dv, .int .i64 brk, kv]) W.heap.size dv data ∧ OwnI (w.setRow rb #[.int .i64 k, .int .i64 conn, dv, .int .i64 brk, kv]) W.heap.size kv keep ∧ Kept (fun j => j = wb) W (w.setRow rb #[.int .i64 k, .int .i64 conn, dv, .int .i64 brk, kv]) := by
  have ks : Kept (fun j => j = rb) w (w.setRow rb #[.int .i64 k, .int .i64 conn, dv, .int .i64 brk, kv]) := ⟨rfl, rfl, rfl, by simp [World.setRow], fun j _ hj => setRow_other w rb j _ hj⟩
  exact ⟨setRow_heap w rb _ _ _ _ h.res, Kept.own ks h.data (own_not_step h.data h.res (by decide)), Kept.own ks h.keep (own_not_step h.keep h.res (by decide)), h.kept.step ks (fun j hj e => by have := h.low; omega)⟩
end
theorem at_start (W : World) (wb : Nat) (ss : List ByteArray) (k : Nat) (x : ByteArray) (bc bd bb bk : Bool) (h : WordsAt W wb ss) : ∃ w0 fb sb rb, ((W.alloc (.cells #[.int .i64 0, .int .i64 0, .slice none 0 0, .int .i64 0, .slice none 0 0] 44)).alloc (.cells #[.string x, .bool bc, .bool bd, .bool bb, .bool bk] 94)).alloc (.cells #[.int .i64 (k : Int), .int .i64 0, .slice none 0 0, .int .i64 0, .slice none 0 0] 44) = w0 ∧ W.heap.size + 1 + 1 = sb ∧ W.heap.size + 1 = fb ∧ W.heap.size = rb ∧ At W w0 wb fb sb rb bc bd bb bk ss (k : Int) 0 0 (.slice none 0 0) (.slice none 0 0) [] [] := by
  refine ⟨_, _, _, _, rfl, rfl, rfl, rfl, ?_⟩
  have b1 : Below W.heap.size W (W.alloc (.cells #[.int .i64 0, .int .i64 0, .slice none 0 0, .int .i64 0, .slice none 0 0] 44)) := (Below.refl _ W).alloc (Nat.le_refl _) _
  generalize h1 : W.alloc (.cells #[.int .i64 0, .int .i64 0, .slice none 0 0, .int .i64 0, .slice none 0 0] 44) = w1 at b1 ⊢
  have z1 : w1.heap.size = W.heap.size + 1 := by rw [← h1]; simp
  have r1 : w1.heap[W.heap.size]? = some (.cells #[.int .i64 0, .int .i64 0, .slice none 0 0, .int .i64 0, .slice none 0 0] 44 (0, 0)) := by rw [← h1]; exact heap_alloc_new W _
  have b2 : Below w1.heap.size w1 (w1.alloc (.cells #[.string x, .bool bc, .bool bd, .bool bb, .bool bk] 94)) := (Below.refl _ w1).alloc (Nat.le_refl _) _
  generalize h2 : w1.alloc (.cells #[.string x, .bool bc, .bool bd, .bool bb, .bool bk] 94) = w2 at b2 ⊢
  have z2 : w2.heap.size = w1.heap.size + 1 := by rw [← h2]; simp
  have r2 : w2.heap[w1.heap.size]? = some (.cells #[.string x, .bool bc, .bool bd, .bool bb, .bool bk] 94 (0, 0)) := by rw [← h2]; exact heap_alloc_new w1 _
  have b3 : Below w2.heap.size w2 (w2.alloc (.cells #[.int .i64 (k : Int), .int .i64 0, .slice none 0 0, .int .i64 0, .slice none 0 0] 44)) := (Below.refl _ w2).alloc (Nat.le_refl _) _
  generalize h3 : w2.alloc (.cells #[.int .i64 (k : Int), .int .i64 0, .slice none 0 0, .int .i64 0, .slice none 0 0] 44) = w3 at b3 ⊢
  have z3 : w3.heap.size = w2.heap.size + 1 := by rw [← h3]; simp
  have r3 : w3.heap[w2.heap.size]? = some (.cells #[.int .i64 (k : Int), .int .i64 0, .slice none 0 0, .int .i64 0, .slice none 0 0] 44 (0, 0)) := by rw [← h3]; exact heap_alloc_new w2 _
  have f3 : w3.heap[W.heap.size + 1]? = some (.cells #[.string x, .bool bc, .bool bd, .bool bb, .bool bk] 94 (0, 0)) := by
    rw [← z1]
    exact (b3.block _ (by omega)).trans r2
  have s3 : w3.heap[W.heap.size]? = some (.cells #[.int .i64 0, .int .i64 0, .slice none 0 0, .int .i64 0, .slice none 0 0] 44 (0, 0)) := (b3.block _ (by omega)).trans ((b2.block _ (by omega)).trans r1)
  rw [z2, z1] at r3
  have hl := h.lt
  exact {
    words := ((h.later b1).later b2).later b3
    form := by simp [World.cell?, f3]
    step := r3
    res := s3
    data := Own.nil _ _
    keep := OwnI.nil _ _
    kept := Kept.ofBelow ((b1.trans (b2.mono (by omega))).trans (b3.mono (by omega)))
    wl := hl
    low := by omega
    ne := by omega
    flt := by omega }
end Go.Proofs.YteecmbpabkndlaaDoor
