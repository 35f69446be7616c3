/-
  The walk of Join.
-/
import Derived.Test.YtienggblpmkjjaaDoorWord
import Derived.Test.YtienggblpmkjjaaDoorShelf
import Derived.WalkKit
import Derived.WalkSpells
import Derived.WalkLawsBesides
namespace Go.Proofs.YtienggblpmkjjaaDoor
open Go.RowKit

/-- Can words be joined, and what is their line? -/
def joinB (ws : List (List UInt8)) : Bool := !ws.isEmpty && ws.all wordB
def joinV (ws : List (List UInt8)) : List UInt8 := if joinB ws then Lib.join ws [32] else []

theorem join_no (ws : List (List UInt8)) (x : List UInt8) (h : x ∈ ws) (hx : wordB x = false) : joinB ws = false := by
  have : ws.all wordB = false := List.all_eq_false.2 ⟨x, h, by simp [hx]⟩
  simp [joinB, this]

theorem join_yes (xs : List ByteArray) (k : Nat) (hk : ¬ k < xs.length) (h : ∀ x ∈ xs.take k, wordB x.data.toList = true) :
    joinB (xs.map (·.data.toList)) = decide (0 < xs.length) ∧ joinV (xs.map (·.data.toList)) = Lib.join (xs.map (·.data.toList)) [32] := by
  rw [List.take_of_length_le (by omega)] at h
  have ha : (xs.map (·.data.toList)).all wordB = true := by
    rw [List.all_eq_true]
    intro y hy
    obtain ⟨x, hx, rfl⟩ := List.mem_map.1 hy
    exact h x hx
  have hb : joinB (xs.map (·.data.toList)) = decide (0 < xs.length) := by
    rw [joinB, ha]
    cases xs <;> simp
  refine ⟨hb, ?_⟩
  rw [joinV, hb]
  cases xs with
  | nil => rfl
  | cons a r => rw [if_pos (by simp)]

set_option maxHeartbeats 1000000 in
set_option maxRecDepth 1000000 in
theorem join_any (bk o c : Nat) (xs : List ByteArray) (w : World) (hcells : ∀ (j : Nat) x, xs[j]? = some x → w.cell? ⟨bk, o + j, none⟩ = some (.string x))
    (hbk : bk < w.heap.size) (hN : xs.length ≤ 140737488355328) (hcap : xs.length ≤ c) (hlen : (Lib.join (xs.map (·.data.toList)) [32]).length ≤ 140737488355328) :
    Calls Tryd.prog 36 #[.slice (some ⟨bk, o, none⟩) xs.length c] w fun e w' =>
      e = .returned (.tuple #[.string ⟨(joinV (xs.map (·.data.toList))).toArray⟩, .bool (joinB (xs.map (·.data.toList)))]) ∧ Below w.heap.size w w' := by
  have HC : Hid (∀ (j : Nat) x, xs[j]? = some x → w.cell? ⟨bk, o + j, none⟩ = some (.string x)) := hcells
  clear hcells
  have HL : Hid ((Lib.join (xs.map (·.data.toList)) [32]).length ≤ 140737488355328) := hlen
  clear hlen
  go_enter Tryd.func36, Tryd.ntmps36
  go_wp2
  go_loopw [8] (fun i wr => ∃ k : Nat, k ≤ xs.length ∧ i = .int .i64 k ∧ Below w.heap.size w wr ∧ ∀ x ∈ xs.take k, wordB x.data.toList = true) (fun i _ => xs.length - (intOf i).toNat)
  case atStart => exact ⟨0, Nat.zero_le _, rfl, Below.refl _ _, fun x hx => by simp at hx⟩
  case round =>
    obtain ⟨k, hk, rfl, hb, ha⟩ := hrel
    have HA : Hid (∀ x ∈ xs.take k, wordB x.data.toList = true) := ha
    clear ha
    by_cases hlt : k < xs.length
    · obtain ⟨x, hx⟩ : ∃ x, xs[k]? = some x := ⟨_, List.getElem?_eq_getElem hlt⟩
      have hc : wr.cell? ⟨bk, o + k, none⟩ = some (.string x) := (hb.cell (p := ⟨bk, o + k, none⟩) hbk).trans (HC.out k x hx)
      have HX : Hid (xs[k]? = some x) := hx
      clear hx
      cases hw : wordB x.data.toList
      · have HW : Hid (wordB x.data.toList = false) := hw
        clear hw
        go_wp2_with (go_at_call 52; refine (word_any _ _).mono ?_; rintro e W' ⟨rfl, p, rfl⟩; rw [HW.out])
        go_ret2
        have hj := join_no (xs.map (·.data.toList)) x.data.toList (List.mem_map_of_mem (List.mem_of_getElem? HX.out)) HW.out
        exact ⟨by rw [joinV, hj]; rfl, hb.alloc hb.size _⟩
      · have HW : Hid (wordB x.data.toList = true) := hw
        clear hw
        go_wp2_with (go_at_call 52; refine (word_any _ _).mono ?_; rintro e W' ⟨rfl, p, rfl⟩; rw [HW.out])
        go_roundw
        case rel =>
          refine ⟨k + 1, by omega, by go_num, hb.alloc hb.size _, fun y hy => ?_⟩
          rw [List.take_add_one, HX.out] at hy
          rcases List.mem_append.1 hy with hy | hy
          · exact HA.out y hy
          · simp at hy; subst hy; exact HW.out
        case measure => simp [intOf]; omega
    · have hcw : ∀ (j : Nat) x, xs[j]? = some x → wr.cell? ⟨bk, o + j, none⟩ = some (.string x) := fun j x hj => (hb.cell (p := ⟨bk, o + j, none⟩) hbk).trans (HC.out j x hj)
      have HCW : Hid (∀ (j : Nat) x, xs[j]? = some x → wr.cell? ⟨bk, o + j, none⟩ = some (.string x)) := hcw
      clear hcw
      have hbr : bk < wr.heap.size := Nat.lt_of_lt_of_le hbk hb.size
      go_wp2_with (go_at_call 53; refine (Tryd.strings_Join bk o c xs ⟨#[32]⟩ _ HCW.out hbr hN hcap HL.out).mono ?_; rintro e W' ⟨rfl, hb2⟩)
      go_ret2
      obtain ⟨e1, e2⟩ := join_yes xs k hlt HA.out
      refine ⟨?_, hb.trans (hb2.mono hb.size)⟩
      rw [e1, e2]
      simp

set_option maxHeartbeats 400000 in
set_option maxRecDepth 1000000 in
theorem join_none (a : Option Addr) (c : Nat) (w : World) :
    Calls Tryd.prog 36 #[.slice a 0 c] w fun e w' => e = .returned (.tuple #[.string ⟨(joinV []).toArray⟩, .bool (joinB [])]) ∧ w' = w := by
  go_enter Tryd.func36, Tryd.ntmps36
  go_wp2
  go_loop [8] (fun i => i = .int .i64 0) (fun _ => 0)
  case atStart => rfl
  case round =>
    subst hrel
    go_wp2_with (go_at_call 53; refine (Tryd.strings_Join_none a c ⟨#[32]⟩ _).mono ?_; rintro e W' ⟨rfl, rfl⟩)
    go_ret2
    exact ⟨rfl, rfl⟩
end Go.Proofs.YtienggblpmkjjaaDoor
