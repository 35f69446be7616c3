/-
  The library's calls on bytes, in our words.
-/
import Derived.Test.YtimgjbjibkljhaaKit
import Derived.Test.YtimgjbjibkljhaaPlainYaml
import Derived.Test.YtimgjbjibkljhaaShelf
import Derived.Lib.SlBytesRowKit2
namespace Go.Proofs.Ytimgjbjibkljhaa
open Go.RowKit
/-- The library's variable holds some number. -/
def MaxAt (w : World) : Prop := ∃ m, w.cell? ⟨0, 0, none⟩ = some (.int .i64 m)

def nums (l : List UInt8) : List Int := l.map fun x => (x.toNat : Int)
theorem nums_length (l : List UInt8) : (nums l).length = l.length := by simp [nums]
theorem nums_bytes (l : List UInt8) : Lib.bytesOf (nums l) = l := by
  unfold Lib.bytesOf nums
  rw [List.map_map]
  refine (List.map_congr_left fun x _ => ?_).trans (List.map_id l)
  show UInt8.ofNat (x.toNat : Int).toNat = x
  rw [Int.toNat_natCast, UInt8.ofNat_toNat]
theorem nums_range (l : List UInt8) : ∀ x ∈ nums l, 0 ≤ x ∧ x < 256 := by
  intro x hx
  obtain ⟨y, _, rfl⟩ := List.mem_map.1 hx
  have := UInt8.toNat_lt y
  omega
theorem nums_get (l : List UInt8) (i : Nat) (x : UInt8) (h : l[i]? = some x) : (nums l).getD i 0 = (x.toNat : Int) := by simp [nums, List.getD, h]
theorem IsBytes.at {w : World} {p : Addr} {c : Nat} {l : List UInt8} (h : IsBytes w (some p) c l) : ∀ i, i < l.length → w.cell? (p.add i) = some (.int .u8 ((nums l).getD i 0)) := by
  intro i hi
  obtain ⟨x, hx⟩ : ∃ x, l[i]? = some x := ⟨_, List.getElem?_eq_getElem hi⟩
  rcases h.2.2 with rfl | ⟨b, o, e, _, hc⟩
  · simp at hi
  · cases e
    rw [Go.WideShapes.add_plain, nums_get l i x hx]
    exact hc i x hx
theorem IsBytes.in {w : World} {a : Option Addr} {c : Nat} {l : List UInt8} (h : IsBytes w a c l) : Lib.BytesIn w a l.length (nums l) := by
  intro hl
  rcases h.2.2 with rfl | ⟨b, o, rfl, _, hc⟩
  · simp at hl
  · refine ⟨b, o, rfl, fun i hi => ?_⟩
    obtain ⟨x, hx⟩ : ∃ x, l[i]? = some x := ⟨_, List.getElem?_eq_getElem hi⟩
    rw [nums_get l i x hx]
    exact hc i x hx
theorem IsBytes.take {w : World} {a : Option Addr} {c : Nat} {l : List UInt8} (h : IsBytes w a c l) (k : Nat) : IsBytes w a c (l.take k) := by
  obtain ⟨h1, h2, h3⟩ := h
  refine ⟨by simp; omega, h2, ?_⟩
  rcases h3 with rfl | ⟨b, o, rfl, hb, hc⟩
  · exact .inl (by simp)
  · refine .inr ⟨b, o, rfl, hb, fun j x hj => hc j x ?_⟩
    rw [List.getElem?_take] at hj
    split at hj
    · exact hj
    · cases hj
theorem nums_u8s (l : List UInt8) : (nums l).map (Value.int .u8) = u8s l := by simp [nums, u8s]


theorem IsBytes.drop {w : World} {b o c : Nat} {l : List UInt8} (h : IsBytes w (some ⟨b, o, none⟩) c l) (k : Nat) (hk : k ≤ l.length) : IsBytes w (if c = k then some ⟨b, o, none⟩ else some ⟨b, o + k, none⟩) (c - k) (l.drop k) := by
  obtain ⟨h1, h2, h3⟩ := h
  refine ⟨by simp; omega, by omega, ?_⟩
  by_cases hc : c = k
  · left
    exact List.drop_eq_nil_of_le (by omega)
  · rw [if_neg hc]
    rcases h3 with rfl | ⟨b', o', e, hb, hcl⟩
    · left; simp
    · cases e
      refine .inr ⟨b, o + k, rfl, hb, fun j x hj => ?_⟩
      rw [List.getElem?_drop] at hj
      rw [Nat.add_assoc]
      exact hcl _ x hj
theorem IsBytes.addr {w : World} {a : Option Addr} {c : Nat} {l : List UInt8} (h : IsBytes w a c l) (hl : 0 < l.length) : ∃ b o, a = some ⟨b, o, none⟩ := by
  rcases h.2.2 with rfl | ⟨b, o, e, _⟩
  · simp at hl
  · exact ⟨b, o, e⟩
/-- What CutPrefix tells. -/
theorem cutPrefix_any (a a2 : Option Addr) (c c2 : Nat) (l ys : List UInt8) (w : World) (h : IsBytes w a c l) (h2 : IsBytes w a2 c2 ys) (hy : 0 < ys.length) :
    Calls Try.prog 34 #[.slice a l.length c, .slice a2 ys.length c2] w fun e w' => (∃ a' n c', e = .returned (.tuple #[.slice a' n c', .bool (ys.isPrefixOf l)]) ∧ IsBytes w a' c' (if ys.isPrefixOf l then l.drop ys.length else l) ∧ n = (if ys.isPrefixOf l then l.drop ys.length else l).length ∧ (ys.isPrefixOf l = true → ∃ b o, a' = some ⟨b, o, none⟩)) ∧ w' = w := by
  refine (Try.bytes_CutPrefix_all a a2 l.length c ys.length c2 (nums l) (nums ys) w (nums_length l) (nums_length ys) h.1 h.in h2.in).mono ?_
  rintro e w' ⟨rfl, rfl⟩
  refine ⟨?_, rfl⟩
  have e := trimPrefixV_eq (c := c) (ys := nums ys) (nums_length l) h.in
  rw [e, nums_bytes, nums_bytes, nums_length]
  by_cases hs : Lib.hasPrefix l ys = true
  · have hs' : ys.isPrefixOf l = true := hs
    have hle := (List.isPrefixOf_iff_prefix.1 hs').length_le
    obtain ⟨b, o, rfl⟩ := h.addr (by omega)
    rw [if_pos hs]
    simp only [Lib.hasPrefix, hs', if_true]
    refine ⟨_, _, _, rfl, ?_, by simp, fun _ => ?_⟩
    · have := h.drop ys.length hle
      simpa [Go.WideShapes.add_plain] using this
    · split
      · exact ⟨_, _, rfl⟩
      · exact ⟨b, o + ys.length, by simp [Go.WideShapes.add_plain]⟩
  · have hs' : ys.isPrefixOf l = false := Bool.eq_false_iff.2 hs
    rw [if_neg hs]
    simp only [Lib.hasPrefix, hs']
    exact ⟨_, _, _, rfl, by simpa using h, by simp, fun h => by cases h⟩

theorem idx_lo (l sub : Txt) : -1 ≤ Lib.index l sub := Lib.index_ge l sub
/-- Where a text first stands. -/
theorem idx_at : ∀ (l sub : Txt) (i : Nat), Lib.index l sub = (i : Int) → l = l.take i ++ sub ++ l.drop (i + sub.length) ∧ i + sub.length ≤ l.length
  | [], sub, i, h => by
    unfold Lib.index at h
    split at h
    · rename_i hs
      have hs : sub = [] := by simpa using hs
      obtain rfl : i = 0 := by omega
      simp [hs]
    · omega
  | x :: l, sub, i, h => by
    unfold Lib.index at h
    split at h
    · rename_i hp
      obtain rfl : i = 0 := by omega
      obtain ⟨r, hr⟩ := List.isPrefixOf_iff_prefix.1 hp
      rw [← hr]
      simp
    · split at h
      · omega
      · cases i with
        | zero =>
          have := idx_lo l sub
          rename_i hne
          have hne : Lib.index l sub ≠ -1 := by simpa using hne
          omega
        | succ i =>
          obtain ⟨h1, h2⟩ := idx_at l sub i (by omega)
          refine ⟨?_, by simp; omega⟩
          have e : i + 1 + sub.length = (i + sub.length) + 1 := by omega
          rw [e, List.take_succ_cons, List.drop_succ_cons]
          simp only [List.cons_append, List.append_assoc] at h1 ⊢
          rw [← h1]
theorem idx_first : ∀ (k v : Txt), (58 : UInt8) ∉ k → Lib.index (k ++ [58, 32] ++ v) [58, 32] = (k.length : Int)
  | [], v, _ => by simp [Lib.index, List.isPrefixOf]
  | x :: k, v, h => by
    have hx : (58 : UInt8) ≠ x := fun e => h (by simp [e])
    have ih := idx_first k v (fun hm => h (by simp [hm]))
    have hp : List.isPrefixOf [58, 32] (x :: (k ++ [58, 32] ++ v)) = false := by
      simp only [List.isPrefixOf]
      rw [show ((58 : UInt8) == x) = false from beq_eq_false_iff_ne.2 hx]
      rfl
    show Lib.index (x :: (k ++ [58, 32] ++ v)) [58, 32] = _
    unfold Lib.index
    rw [hp, ih]
    have : ¬ ((k.length : Int) == -1) = true := by simp
    rw [if_neg this]
    simp
theorem sep_nums : nums [58, 32] = [58, 32] := by decide
theorem sep_range : ∀ y ∈ ([58, 32] : List Int), 0 ≤ y ∧ y < 256 := by decide
theorem cut_any (b o : Nat) (a2 : Option Addr) (c c2 : Nat) (l : List UInt8) (w : World) (h : IsBytes w (some ⟨b, o, none⟩) c l) (h2 : IsBytes w a2 c2 [58, 32]) (hs : l.length < 4294967281) (hm : MaxAt w) :
    Calls Try.prog 38 #[.slice (some ⟨b, o, none⟩) l.length c, .slice a2 2 c2] w fun e w' => (∃ (k v : List UInt8) (n2 c3 : Nat) (a3 : Option Addr) (fb : Bool), e = .returned (.tuple #[.slice (some ⟨b, o, none⟩) k.length c, .slice a3 n2 c3, .bool fb]) ∧ IsBytes w (some ⟨b, o, none⟩) c k ∧ IsBytes w a3 c3 v ∧ n2 = v.length ∧ (fb = true → l = k ++ [58, 32] ++ v) ∧ k.length + v.length ≤ l.length ∧ ∀ k' v', (58 : UInt8) ∉ k' → l = k' ++ [58, 32] ++ v' → fb = true ∧ k = k' ∧ v = v') ∧ ∃ q, w' = w.drewN q := by
  obtain ⟨m, hm⟩ := hm
  refine (Try.bytes_Cut_all (some ⟨b, o, none⟩) a2 l.length c 2 c2 (nums l) [58, 32] m w (nums_length l) rfl (nums_range l) sep_range h.in (by have := h2.in; rwa [sep_nums] at this) (fun h => by cases h) h.1 hs (by decide) hm).mono ?_
  rintro e w' ⟨rfl, q, rfl⟩
  refine ⟨?_, q, rfl⟩
  rw [nums_bytes, show Lib.bytesOf [58, 32] = [58, 32] from rfl]
  unfold Lib.cutV
  by_cases hi : 0 ≤ Lib.index l [58, 32]
  · obtain ⟨i, hii⟩ : ∃ i : Nat, Lib.index l [58, 32] = (i : Int) := ⟨_, (Int.toNat_of_nonneg hi).symm⟩
    obtain ⟨h1, h3⟩ := idx_at l _ i hii
    simp only [List.length_cons, List.length_nil] at h1 h3
    rw [if_pos hi, hii]
    have ht : (l.take i).length = i := by simp; omega
    refine ⟨l.take i, l.drop (i + 2), l.length - (i + 2), c - (i + 2), (if c = i + 2 then some ⟨b, o, none⟩ else some ⟨b, o + (i + 2), none⟩), true, ?_, h.take i, h.drop (i + 2) (by omega), by simp, fun _ => h1, by simp; omega, fun k' v' hk' he => ?_⟩
    · simp [Lib.fromV, ht, Go.WideShapes.add_plain]
    · have := idx_first k' v' hk'
      rw [← he, hii] at this
      have hki : i = k'.length := by omega
      subst hki
      rw [he]
      simp
  · rw [if_neg hi]
    refine ⟨l, [], 0, 0, none, false, rfl, h, ⟨by simp, by unfold maxLen; omega, .inl rfl⟩, rfl, (fun h => by cases h), by simp, fun k' v' hk' he => ?_⟩
    have := idx_first k' v' hk'
    rw [← he] at this
    omega
end Go.Proofs.Ytimgjbjibkljhaa
