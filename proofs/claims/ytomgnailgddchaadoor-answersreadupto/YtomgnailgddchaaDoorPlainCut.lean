/-
  What is told of some bytes, one reply behind the other.
-/
import Derived.Test.YtomgnailgddchaaDoorJC
namespace Go.Proofs.YtomgnailgddchaaDoor

/-- From the place g on the replies l are told, up to the place g'. -/
def Told (b : List UInt8) : Nat → List Rp → Nat → Prop
  | g, [], g' => g' = g
  | g, x :: l, g' => (readP (b.drop g)).2.2 = 0 ∧ (readP (b.drop g)).1 = x ∧ Told b (g + (readP (b.drop g)).2.1) l g'
theorem Told.snoc {b : List UInt8} : ∀ (l : List Rp) (g g' : Nat), Told b g l g' → (readP (b.drop g')).2.2 = 0 → Told b g (l ++ [(readP (b.drop g')).1]) (g' + (readP (b.drop g')).2.1)
  | [], g, g', h, h0 => by
    obtain rfl : g' = g := h
    exact ⟨h0, rfl, rfl⟩
  | x :: l, g, g', h, h0 => ⟨h.1, h.2.1, Told.snoc l _ g' h.2.2 h0⟩
theorem good_lt {b : List UInt8} {g : Nat} (h : (readP (b.drop g)).2.2 = 0) : g < b.length := by
  rcases Nat.lt_or_ge g b.length with h1 | h1
  · exact h1
  · rw [List.drop_eq_nil_of_le h1, read_nil] at h
    cases h
theorem Told.app {A x : List UInt8} : ∀ (l : List Rp) (g g' : Nat), Told A g l g' → Told (A ++ x) g l g'
  | [], _, _, h => h
  | y :: l, g, g', h => by
    have hlt := good_lt h.1
    have e : readP ((A ++ x).drop g) = readP (A.drop g) := by
      rw [List.drop_append_of_le_length (by omega)]
      exact read_ext _ _ (by rw [h.1]; decide)
    refine ⟨by rw [e]; exact h.1, by rw [e]; exact h.2.1, ?_⟩
    rw [e]
    exact Told.app l _ g' h.2.2
/-- A reply that was read has bytes. -/
theorem good_pos {b : List UInt8} (h : (readP b).2.2 = 0) : 0 < (readP b).2.1 ∧ (readP b).2.1 ≤ b.length ∧ (putL (readP b).1).length = (readP b).2.1 := by
  obtain ⟨h1, h2⟩ := read_put h
  have h3 := put_read h2 []
  rw [List.append_nil] at h3
  have hne : putL (readP b).1 ≠ [] := by
    intro e
    rw [e] at h3
    have := congrArg (fun z => z.2.2) h3
    simp only [read_nil] at this
    cases this
  have hl := List.length_pos_iff.2 hne
  have h4 := congrArg List.length h1
  rw [List.length_take] at h4
  have h5 := scan_le b
  rw [scan_good h] at h5
  simp only [] at h5
  omega
/-- Where the end is. -/
theorem end_wrong {b : List UInt8} {g : Nat} (hg : g = (scan b).1) : scan (b.drop g) = (0, (scan b).2) := by rw [hg]; exact scan_rest b
theorem at_end {b : List UInt8} {g : Nat} (hg : g = (scan b).1) : (readP (b.drop g)).2.2 ≠ 0 := scan_zero (by rw [end_wrong hg])
end Go.Proofs.YtomgnailgddchaaDoor
