/-
  The walk of the document's Join.
-/
import Derived.Test.YtfecbepleeoibaaDoorRefWord
import Derived.Test.YtfecbepleeoibaaDoorJoin
import Derived.Test.YtfecbepleeoibaaDoorStrs
import Derived.Test.YtfecbepleeoibaaDoorBytes
import Derived.Lib.AppendStr
import Derived.Lib.Join
import Derived.Deep.DeepMust
import Derived.Deep.LoopGhost
import Derived.Maps.AppendAt
namespace Go.Proofs.YtfecbepleeoibaaDoor
open Go.RowKit

theorem info_u8 : (Tryd.prog.info? 5).map (fun i => (i.zero, i.size, i.bytes)) = some (some (.int .u8 0), 1, 1) := by kernel_rfl

/-- The line of the first k words. -/
def lineTo (ss : List ByteArray) (k : Nat) : List UInt8 := Lib.join ((ss.take k).map (·.data.toList)) [32]

theorem lineTo_all (ss : List ByteArray) (k : Nat) (h : ss.length ≤ k) : lineTo ss k = Lib.join (ss.map (·.data.toList)) [32] := by
  rw [lineTo, List.take_of_length_le h]
theorem join_snoc (l : List (List UInt8)) (x : List UInt8) (h : l ≠ []) : Lib.join (l ++ [x]) [32] = Lib.join l [32] ++ [32] ++ x := by
  cases l with
  | nil => exact absurd rfl h
  | cons a r => simp [Lib.join_cons, Lib.joinTail]
theorem lineTo_zero (ss : List ByteArray) (x : ByteArray) (h : ss[0]? = some x) : lineTo ss 1 = x.data.toList := by
  cases ss with
  | nil => simp at h
  | cons a r => simp at h; subst h; simp [lineTo, Lib.join_one]
theorem lineTo_succ (ss : List ByteArray) (k : Nat) (x : ByteArray) (hk : 0 < k) (h : ss[k]? = some x) : lineTo ss (k + 1) = lineTo ss k ++ [32] ++ x.data.toList := by
  have hlt : k < ss.length := (List.getElem?_eq_some_iff.1 h).1
  rw [lineTo, List.take_add_one, h, List.map_append]
  refine join_snoc _ _ ?_
  cases ss with
  | nil => simp at hlt
  | cons a r => cases k with
    | zero => omega
    | succ k => simp
theorem lineTo_length (ss : List ByteArray) : ∀ k, (lineTo ss k).length ≤ ss.length + (ss.map ByteArray.size).sum := by
  have key : ∀ (l : List ByteArray), (Lib.join (l.map (·.data.toList)) [32]).length ≤ l.length + (l.map ByteArray.size).sum := by
    intro l
    cases l with
    | nil => simp [Lib.join_nil]
    | cons a r =>
      rw [List.map_cons, Lib.join_cons, List.length_append]
      have : (Lib.joinTail [32] (r.map (·.data.toList))).length ≤ r.length + (r.map ByteArray.size).sum := by
        induction r with
        | nil => simp [Lib.joinTail]
        | cons b r ih =>
          simp only [Lib.joinTail, List.map_cons, List.flatten_cons, List.length_append, List.length_cons, List.sum_cons] at ih ⊢
          have hb : b.data.toList.length = b.size := by simp
          simp only [List.length_nil] at *
          omega
      have ha : a.data.toList.length = a.size := by simp
      simp only [List.length_cons, List.map_cons, List.sum_cons]
      omega
  intro k
  refine Nat.le_trans (key (ss.take k)) ?_
  have h1 : (ss.take k).length ≤ ss.length := by simp; omega
  have h2 : ((ss.take k).map ByteArray.size).sum ≤ (ss.map ByteArray.size).sum := by
    conv => rhs; rw [← List.take_append_drop k ss]
    rw [List.map_append, List.sum_append]
    omega
  omega

theorem le_sum : ∀ (l : List Nat) (x : Nat), x ∈ l → x ≤ l.sum
  | [], x, h => by cases h
  | a :: r, x, h => by
    rw [List.sum_cons]
    rcases List.mem_cons.1 h with h | h
    · omega
    · have := le_sum r x h; omega
theorem strCells_u8s (s : ByteArray) : Lib.strCells s = u8s s.data.toList := rfl
theorem u8s_append (a b : List UInt8) : u8s (a ++ b) = u8s a ++ u8s b := by simp [u8s]
theorem u8s_length (l : List UInt8) : (u8s l).length = l.length := by simp [u8s]

set_option maxHeartbeats 1000000 in
set_option maxRecDepth 1000000 in
theorem refJoin_any (a : Option Addr) (c : Nat) (ss : List ByteArray) (w : World) (h : IsStrs w a c ss) (hsz : ss.length + (ss.map ByteArray.size).sum ≤ 2147483647) :
    Calls Tryd.prog 39 #[.slice a ss.length c] w fun e w' => e = .returned (.tuple #[.string ⟨(joinV (ss.map (·.data.toList))).toArray⟩, .bool (joinB (ss.map (·.data.toList)))]) ∧ Below w.heap.size w w' := by
  obtain ⟨h1, h2, h3⟩ := h
  obtain ⟨i0, hi, hq0, hq1, hq2⟩ := info_parts info_u8
  have hlen : ss.length ≤ 2147483647 := by omega
  rcases h3 with rfl | ⟨b, o, rfl, hb, hc⟩
  · go_enter Tryd.func39, Tryd.ntmps39
    go_wp2
    go_ret2
    exact ⟨rfl, Below.refl _ _⟩
  · by_cases h0 : ss = []
    · subst h0
      go_enter Tryd.func39, Tryd.ntmps39
      go_wp2
      go_ret2
      exact ⟨rfl, Below.refl _ _⟩
    · have hpos : 0 < ss.length := by cases ss with | nil => exact absurd rfl h0 | cons => simp
      have hne : ((ss.length : Int) == 0) = false := beq_zero (by omega)
      have HC : Hid (∀ (j : Nat) x, ss[j]? = some x → w.cell? ⟨b, o + j, none⟩ = some (.string x)) := hc
      have HS : Hid (ss.length + (ss.map ByteArray.size).sum ≤ 2147483647) := hsz
      clear hc hsz h0 h2
      go_enter Tryd.func39, Tryd.ntmps39
      go_wp2
      go_loopw [4, 5] (fun v i wr => ∃ k : Nat, k ≤ ss.length ∧ i = .int .i64 k ∧ wr.ownsRow w.heap.size 5 1 v (lineTo ss k).length (u8s (lineTo ss k)) ∧ Below w.heap.size w wr ∧ (∀ x ∈ ss.take k, wordB x.data.toList = true)) (fun _ i _ => ss.length - (intOf i).toNat)
      case atStart => exact ⟨0, Nat.zero_le _, rfl, World.ownsRow_lit _ _ _ (by omega) (by decide) (by simp), (Below.refl _ _).alloc (Nat.le_refl _) _, fun x hx => by simp at hx⟩
      case round =>
        obtain ⟨k, hk, rfl, hown, hbw, ha⟩ := hrel
        have HA : Hid (∀ x ∈ ss.take k, wordB x.data.toList = true) := ha
        clear ha
        have hll := lineTo_length ss k
        have hsz := HS.out
        have hl1 : (lineTo ss k).length ≤ 2147483647 := by omega
        clear hll hsz
        by_cases hlt : k < ss.length
        · obtain ⟨x, hx⟩ : ∃ x, ss[k]? = some x := ⟨_, List.getElem?_eq_getElem hlt⟩
          have hcx : wr.cell? ⟨b, o + k, none⟩ = some (.string x) := (hbw.cell (p := ⟨b, o + k, none⟩) hb).trans (HC.out k x hx)
          have HX : Hid (ss[k]? = some x) := hx
          have hxz : x.size ≤ 2147483647 := by
            have h1 := List.mem_map_of_mem (f := ByteArray.size) (List.mem_of_getElem? hx)
            have h2 := le_sum _ _ h1
            have := HS.out
            omega
          clear hx
          have hxm : x.size ≤ maxLen := by unfold maxLen; omega
          have HXM : Hid (x.size ≤ maxLen) := hxm
          clear hxm
          cases hw : wordB x.data.toList
          · have HW : Hid (wordB x.data.toList = false) := hw
            clear hw
            go_wp2_with (go_at_call 46; refine (refWord_any _ _ HXM.out).mono ?_; rintro e W' ⟨rfl, hW⟩; have hW := hW.symm; subst hW; rw [HW.out])
            go_ret2
            have hj := join_no (ss.map (·.data.toList)) x.data.toList (List.mem_map_of_mem (List.mem_of_getElem? HX.out)) HW.out
            exact ⟨by rw [joinV, hj]; rfl, hbw⟩
          · have HW : Hid (wordB x.data.toList = true) := hw
            clear hw
            by_cases hk0 : 0 < k
            · have HK : Hid (0 < k) := hk0
              have hkd : decide ((0 : Int) < (k : Int)) = true := by simp; omega
              clear hk0
              go_wp2_with (first
                | (go_at_call 46; refine (refWord_any _ _ HXM.out).mono ?_; rintro e W' ⟨rfl, hW⟩; have hW := hW.symm; subst hW; rw [HW.out])
                | (at_builtin; (refine wpList_append_own _ rfl (.tmp 24) (.tmp 25) 25 rfl w.heap.size 5 i0 (.int .u8 0) 1 1 Tryd.underlying25 hi hq0 hq1 hq2 rfl (by decide) _ _ _ rfl (hown.alloc _) ⟨wr.heap.size, 0, none⟩ 1 1 [.int .u8 32] rfl rfl (cell_one_new _ _ _) (by intro y hy; simp at hy; subst hy; rfl) (by unfold maxLen; omega) (by omega) (by have := hbw.size; simp; omega) ?_; intro v3 w3 hown3 hgrow3 hnil3; have hb3 : Below w.heap.size w w3 := (hbw.alloc hbw.size _).grown hgrow3 (by have := hbw.size; simp; omega) (fun j hj => ((hown.alloc (.cells #[.int .u8 32] 5)).lt j hj).1); have hcx3 : w3.cell? ⟨b, o + k, none⟩ = some (.string x) := (hb3.cell (p := ⟨b, o + k, none⟩) hb).trans (HC.out k x HX.out); clear hcx hgrow3 hnil3))
                | (at_builtin; (refine Lib.wpList_append_own_string _ rfl (.tmp 27) (.tmp 31) 25 9 rfl w.heap.size 5 i0 Tryd.underlying25 Tryd.underlying9 hi hq0 hq1 hq2 _ _ _ rfl hown3 x rfl (by unfold maxLen; omega) (by omega) hb3.size ?_; intro v4 w4 hown4 hgrow4 hnil4)))
              go_roundw
              case rel =>
                have hL := lineTo_succ ss k x HK.out HX.out
                refine ⟨k + 1, by omega, by go_num, ?_, hb3.grown hgrow4 hb3.size (fun j hj => (hown3.lt j hj).1), ?_⟩
                · rw [hL, u8s_append, u8s_append, ← strCells_u8s]
                  have : (lineTo ss k ++ [32] ++ x.data.toList).length = (lineTo ss k).length + 1 + x.size := by simp; omega
                  rw [this]
                  exact hown4
                · intro y hy
                  rw [List.take_add_one, HX.out] at hy
                  rcases List.mem_append.1 hy with hy | hy
                  · exact HA.out y hy
                  · simp at hy; subst hy; exact HW.out
              case measure => simp [intOf]; omega
            · have hkd : decide ((0 : Int) < (k : Int)) = false := by simp; omega
              have HK : Hid (¬ 0 < k) := hk0
              clear hk0
              go_wp2_with (first
                | (go_at_call 46; refine (refWord_any _ _ HXM.out).mono ?_; rintro e W' ⟨rfl, hW⟩; have hW := hW.symm; subst hW; rw [HW.out])
                | (at_builtin; go_must (refine Lib.wpList_append_own_string _ rfl (.tmp 27) (.tmp 31) 25 9 rfl w.heap.size 5 i0 Tryd.underlying25 Tryd.underlying9 hi hq0 hq1 hq2 _ _ _ rfl hown x rfl (by unfold maxLen; omega) (by omega) hbw.size ?_; intro v3 w3 hown3 hgrow3 hnil3)))
              go_roundw
              case rel =>
                obtain rfl : k = 0 := by have := HK.out; omega
                have hL := lineTo_zero ss x HX.out
                refine ⟨0 + 1, by omega, by go_num, ?_, hbw.grown hgrow3 hbw.size (fun j hj => (hown.lt j hj).1), ?_⟩
                · rw [hL, ← strCells_u8s]
                  have : x.data.toList.length = (lineTo ss 0).length + x.size := by simp [lineTo, Lib.join_nil]
                  rw [this]
                  exact hown3
                · intro y hy
                  rw [List.take_add_one, HX.out] at hy
                  rcases List.mem_append.1 hy with hy | hy
                  · exact HA.out y hy
                  · simp at hy; subst hy; exact HW.out
              case measure => simp [intOf]; omega
        · have hconv := conv_own (lineTo ss k) hown
          obtain ⟨e1, e2⟩ := join_yes ss k hlt HA.out
          have HE1 : Hid (joinB (ss.map (·.data.toList)) = decide (0 < ss.length)) := e1
          have HE2 : Hid (joinV (ss.map (·.data.toList)) = Lib.join (ss.map (·.data.toList)) [32]) := e2
          clear e1 e2
          go_wp2
          go_ret2
          refine ⟨?_, hbw⟩
          rw [HE1.out, HE2.out, ← lineTo_all ss k (by omega), decide_eq_true hpos]
          rfl
end Go.Proofs.YtfecbepleeoibaaDoor
