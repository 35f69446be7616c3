/-
  What a heap of texts holds, without memory.
-/
import Derived.Test.YtdgepinpabiabaaOrder
import Derived.Test.YtdgepinpabiabaaMembers
import Derived.Test.YtdgepinpabiabaaShorter
namespace Go.Proofs.Ytdgepinpabiabaa

def sz (x : ByteArray) : Int := (x.size : Int)
theorem short_sz (x y : ByteArray) : shortB x y = decide (sz x < sz y) := rfl

structure TInv (ss : List ByteArray) (N : Nat) (G : List Bool) (R : List (Int × ByteArray)) : Prop where
  of : ∀ r ∈ R, 1 ≤ r.1 ∧ r.1 ≤ N ∧ ss[(r.1 - 1).toNat]? = some r.2 ∧ G[r.1.toNat]? = some false
  all : ∀ t : Nat, 1 ≤ t → t ≤ N → G[t]? = some false → ∃ r ∈ R, r.1 = t
  hp : Hp sz R

theorem TInv.none (ss : List ByteArray) (G : List Bool) : TInv ss 0 G [] := ⟨fun r h => by (cases h), fun t h1 h2 _ => by omega, fun i r q _ hr => by simp at hr⟩

theorem TInv.push {ss : List ByteArray} {k : Nat} {R : List (Int × ByteArray)} {x : ByteArray} (h : TInv ss k (List.replicate (ss.length + 1) false) R) (hx : ss[k]? = some x) (n : Nat) :
    TInv ss (k + 1) (List.replicate (ss.length + 1) false) (riseL shortB R.length (R ++ [((k : Int) + 1, x)]) R.length n).1 := by
  have hk := (List.getElem?_eq_some_iff.1 hx).1
  refine ⟨fun r hr => ?_, fun t h1 h2 h3 => ?_, push_hp short_sz h.hp _ n⟩
  · rcases List.mem_append.1 ((mem_rise _ _ _ _).1 hr) with hr | hr
    · obtain ⟨a, b, c, d⟩ := h.of r hr
      exact ⟨a, by omega, c, d⟩
    · simp at hr; subst hr
      refine ⟨by simp only []; omega, by simp only []; omega, ?_, ?_⟩
      · simp only []; rw [show ((k : Int) + 1 - 1).toNat = k by omega]; exact hx
      · simp only []; rw [List.getElem?_replicate, if_pos (by omega)]
  · by_cases ht : t = k + 1
    · exact ⟨((k : Int) + 1, x), (mem_rise _ _ _ _).2 (by simp), by rw [ht]; simp⟩
    · obtain ⟨r, hr, e⟩ := h.all t h1 (by omega) h3
      exact ⟨r, (mem_rise _ _ _ _).2 (List.mem_append_left _ hr), e⟩

theorem TInv.drop {ss : List ByteArray} {N : Nat} {G : List Bool} {R : List (Int × ByteArray)} {i : Nat} {r : Int × ByteArray} (h : TInv ss N G R) (ho : Once R) (hi : R[i]? = some r) (n : Nat) :
    TInv ss N (G.set r.1.toNat true) (dropL shortB R i n).1 := by
  have hil := (List.getElem?_eq_some_iff.1 hi).1
  obtain ⟨a, b, c, d⟩ := h.of r (List.mem_of_getElem? hi)
  refine ⟨fun x hx => ?_, fun t h1 h2 h3 => ?_, drop_hp short_sz h.hp hil n⟩
  · obtain ⟨hx, hne⟩ := (mem_drop ho hi).1 hx
    obtain ⟨a', b', c', d'⟩ := h.of x hx
    exact ⟨a', b', c', by rw [List.getElem?_set_ne (by omega)]; exact d'⟩
  · have hne : r.1.toNat ≠ t := by
      intro e
      have := (List.getElem?_eq_some_iff.1 d).1
      rw [e, List.getElem?_set_self (by omega)] at h3
      cases h3
    rw [List.getElem?_set_ne hne] at h3
    obtain ⟨x, hx, e⟩ := h.all t h1 h2 h3
    exact ⟨x, (mem_drop ho hi).2 ⟨hx, by omega⟩, e⟩

/-- The first one. -/
theorem TInv.first {ss : List ByteArray} {N : Nat} {G : List Bool} {R : List (Int × ByteArray)} {r : Int × ByteArray} (h : TInv ss N G R) (ho : Once R) (hr : R[0]? = some r) (n : Nat) :
    ∀ x ∈ (dropL shortB R 0 n).1, sz r.2 < sz x.2 ∨ (sz r.2 = sz x.2 ∧ r.1 < x.1) := fun x hx => by
  obtain ⟨hx, hne⟩ := (mem_drop ho hr).1 hx
  obtain ⟨i, hi⟩ := List.mem_iff_getElem?.1 hx
  have := hp_first h.hp hr i x hi
  unfold L at this
  omega
end Go.Proofs.Ytdgepinpabiabaa
