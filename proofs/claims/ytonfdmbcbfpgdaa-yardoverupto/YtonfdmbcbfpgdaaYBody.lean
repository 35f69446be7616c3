/-
  Bodies and texts that are copied.
-/
import Derived.Test.YtonfdmbcbfpgdaaLayX
import Derived.Test.YtonfdmbcbfpgdaaAppend
import Derived.Test.YtonfdmbcbfpgdaaShelf
import Derived.Lib.SlBytesRowKit2
namespace Go.Proofs.Ytonfdmbcbfpgdaa
open Go.RowKit
def nums (l : List UInt8) : List Int := l.map fun x => (x.toNat : Int)
theorem nums_length (l : List UInt8) : (nums l).length = l.length := by simp [nums]
theorem nums_get (l : List UInt8) (i : Nat) (x : UInt8) (h : l[i]? = some x) : (nums l).getD i 0 = (x.toNat : Int) := by simp [nums, List.getD, h]
theorem IsBytes.at {w : World} {p : Addr} {c : Nat} {l : List UInt8} (h : IsBytes w (some p) c l) : ∀ i, i < l.length → w.cell? (p.add i) = some (.int .u8 ((nums l).getD i 0)) := by
  intro i hi
  obtain ⟨x, hx⟩ : ∃ x, l[i]? = some x := ⟨_, List.getElem?_eq_getElem hi⟩
  rcases h.2.2 with rfl | ⟨b, o, e, _, hc⟩
  · simp at hi
  · cases e
    rw [Go.WideShapes.add_plain, nums_get l i x hx]
    exact hc i x hx
theorem nums_u8s (l : List UInt8) : (nums l).map (Value.int .u8) = u8s l := by simp [nums, u8s]
theorem clone_any (a : Option Addr) (c : Nat) (l : List UInt8) (w : World) (h : IsBytes w a c l) (hb : l.length ≤ 140737488355328) :
    Calls Try.prog 39 #[.slice a l.length c] w fun e w' => ∃ v', e = .returned v' ∧ Own w' w.heap.size v' l ∧ Below w.heap.size w w' := by
  cases a with
  | none =>
    obtain rfl : l = [] := by
      rcases h.2.2 with h | ⟨_, _, e, _⟩
      · exact h
      · cases e
    refine (Try.bytes_Clone_nil 0 c w).mono ?_
    rintro e w' ⟨rfl, rfl⟩
    exact ⟨_, rfl, Own.nil _ _, Below.refl _ _⟩
  | some p =>
    refine (Try.bytes_Clone_at p l.length c (nums l) w (nums_length l) hb h.at).mono ?_
    rintro e w' ⟨v', rfl, ho, _, B⟩
    rw [nums_u8s] at ho
    exact ⟨v', rfl, ho, B⟩
set_option maxHeartbeats 400000 in
set_option maxRecDepth 1000000 in
theorem text_any (s : ByteArray) (w : World) (hs : s.size ≤ 281474976710656) : Calls Try.prog 38 #[.string s] w fun e w' => e = .returned (.string s) ∧ Below w.heap.size w w' := by
  go_enter Try.func38, Try.ntmps38
  go_wp2_with fail
  refine (Try.stringslite_Clone s _ hs).mono ?_
  rintro e w1 ⟨rfl, B1⟩
  have HB : Hid (Below w.heap.size w w1) := B1
  clear B1
  go_wp2_with fail
  go_ret
  exact ⟨rfl, HB.out⟩
/-- A copy is a body, its block labelled so. -/
theorem Own.body {w : World} {B : Nat} {v : Value} {l : List UInt8} (h : Own w B v l) (lab : Nat → HK) (hl : ∀ k, B ≤ k → (lab k).1 = 8) : BodyAt w lab v l := by
  obtain ⟨a, c, rfl, hI⟩ := h.shape
  refine ⟨a, c, rfl, hI, ?_⟩
  rcases h.2 with ⟨_, h0⟩ | ⟨g, cap, cur, hv, hB, hg, _⟩
  · exact .inl (List.eq_nil_of_length_eq_zero h0)
  · simp only [Value.slice.injEq] at hv
    obtain ⟨rfl, _, _⟩ := hv
    exact .inr ⟨g, 0, rfl, (Array.getElem?_eq_some_iff.1 hg).1, hl g hB⟩
theorem BodyAt.is {w : World} {lab : Nat → HK} {v : Value} {l : List UInt8} (h : BodyAt w lab v l) : ∃ a c, v = .slice a l.length c ∧ IsBytes w a c l := by
  obtain ⟨a, c, e, hI, _⟩ := h
  exact ⟨a, c, e, hI⟩
/-- A job without a name. -/
def jb0 : Jb := ⟨0, 0, 0, 0, 0, 0, 0, 0, 0, 0, 0, 0, 0, 0, eB⟩
def en0 : En := ⟨jb0, .slice none 0 0, [], 0, 0⟩
theorem zero_ent (w : World) : (zeroValue 71).run Try.prog w = .ok en0.val w := by kernel_rfl
def lookD (L : List En) (i : Int) : En := (lookE L i).getD en0
theorem lookD_val (L : List En) (i : Int) : ((lookE L i).map En.val).getD en0.val = (lookD L i).val := by unfold lookD; cases lookE L i <;> rfl
theorem lookE_mem {L : List En} {i : Int} {e : En} (h : lookE L i = some e) : e ∈ L ∧ e.j.id = i := by
  unfold lookE at h
  exact ⟨List.mem_of_find?_eq_some h, by simpa using List.find?_some h⟩
/-- The body of a job that is there, or of none. -/
theorem YAt.lookBody {w : World} {lab : Nat → HK} {yb : Nat} {Y : Yd} (h : YAt w lab yb Y) (i : Int) : ∃ a c, (lookD Y.L i).bv = .slice a (lookD Y.L i).body.length c ∧ IsBytes w a c (lookD Y.L i).body := by
  unfold lookD
  cases hl : lookE Y.L i with
  | none => exact ⟨none, 0, rfl, by simp [en0], by decide, .inl rfl⟩
  | some e => exact (h.body e (lookE_mem hl).1).is
end Go.Proofs.Ytonfdmbcbfpgdaa
