/-
  The walks of 'cut' and 'trimmed'.
-/
import Derived.Test.YtfecbepleeoibaaDoorSame
import Derived.Test.YtfecbepleeoibaaDoorPlainCmd
import Derived.Deep.LoopGhost
namespace Go.Proofs.YtfecbepleeoibaaDoor
open Go.RowKit Go.Lib

/-- The state of the loop at place k. -/
def CutAt (s : ByteArray) (k start : Nat) (acc : List ByteArray) : Prop :=
  (k ≤ s.size ∧ start ≤ k ∧ pieces s.data.toList [] = acc.map (·.data.toList) ++ pieces (s.data.toList.drop k) (s.extract start k).data.toList) ∨ (k = s.size + 1 ∧ pieces s.data.toList [] = acc.map (·.data.toList))
theorem cutAt_zero (s : ByteArray) : CutAt s 0 0 [] := .inl ⟨Nat.zero_le _, Nat.le_refl _, by simp⟩
theorem cutAt_step (s : ByteArray) (k start : Nat) (acc : List ByteArray) (hk : k < s.size) (hb : s[k].toNat ≠ 32) (h : CutAt s k start acc) : CutAt s (k + 1) start acc := by
  rcases h with ⟨h1, h2, h3⟩ | ⟨h1, _⟩
  · refine .inl ⟨by omega, by omega, ?_⟩
    rw [h3, drop_cons s k hk, pieces, if_neg hb, snoc_extract s start k h2 hk]
  · omega
theorem cutAt_word (s : ByteArray) (k start : Nat) (acc : List ByteArray) (hk : k < s.size) (hb : s[k].toNat = 32) (h : CutAt s k start acc) : CutAt s (k + 1) (k + 1) (acc ++ [s.extract start k]) := by
  rcases h with ⟨h1, h2, h3⟩ | ⟨h1, _⟩
  · refine .inl ⟨by omega, Nat.le_refl _, ?_⟩
    rw [h3, drop_cons s k hk, pieces, if_pos hb]
    simp
  · omega
theorem cutAt_last (s : ByteArray) (start : Nat) (acc : List ByteArray) (h : CutAt s s.size start acc) : CutAt s (s.size + 1) (s.size + 1) (acc ++ [s.extract start s.size]) := by
  rcases h with ⟨h1, h2, h3⟩ | ⟨h1, _⟩
  · refine .inr ⟨rfl, ?_⟩
    rw [h3, List.drop_of_length_le (by simp), pieces]
    simp
  · omega

set_option maxHeartbeats 1000000 in
set_option maxRecDepth 1000000 in
theorem cutV_any (s : ByteArray) (w : World) (hs : s.size ≤ 4398046511104) :
    Calls Tryd.prog 21 #[.string s] w fun e w' => Below w.heap.size w w' ∧ ∃ (ws : List ByteArray) (v : Value), e = .returned v ∧ ws.map (·.data.toList) = pieces s.data.toList [] ∧ w'.ownsRow w.heap.size 9 1 v ws.length (ws.map Value.string) := by
  obtain ⟨i9, hi, hz0, hz1, hz2⟩ := info_parts info_string
  go_enter Tryd.func21, Tryd.ntmps21
  go_wp2_with fail
  go_loopw [3, 4, 5] (fun v f i wr => ∃ (k start : Nat) (acc : List ByteArray), i = .int .i64 k ∧ f = .int .i64 start ∧ k ≤ s.size + 1 ∧ start ≤ k ∧ acc.length ≤ start ∧
      wr.ownsRow w.heap.size 9 1 v acc.length (acc.map Value.string) ∧ Below w.heap.size w wr ∧ CutAt s k start acc) (fun _ _ i _ => s.size + 1 - (RowKit.intOf i).toNat)
  case atStart => exact ⟨0, 0, [], rfl, rfl, by omega, by omega, by simp, World.ownsRow_lit _ _ _ (by omega) (by decide) (by simp), (Below.refl _ _).alloc (Nat.le_refl _) _, cutAt_zero s⟩
  case round =>
    obtain ⟨k, start, acc, rfl, rfl, hk, hsk, hal, hown, hbw, hat⟩ := hrel
    have HAT := hide hat
    clear hat
    by_cases hend : k ≤ s.size
    · by_cases hlt : k < s.size
      · have e1 : ((k : Int) == (s.size : Int)) = false := by rw [beq_eq_false_iff_ne]; omega
        by_cases hb : s[k].toNat = 32
        · have HB := hide hb
          have hb' : ((s[k].toNat : Int) == 32) = true := by rw [hb]; rfl
          clear hb
          go_wp2_with (at_builtin; go_must (refine wpList_append_own _ rfl (.tmp 23) (.tmp 28) 39 rfl w.heap.size 9 i9 (.string ⟨#[]⟩) 1 16 Tryd.underlying39 hi hz0 hz1 hz2 rfl (by decide) _ _ _ rfl (hown.alloc _) ⟨wr.heap.size, 0, none⟩ 1 1 [.string (s.extract start k)] rfl rfl (cell_one_new _ _ _) (by intro u hu; simp at hu; subst hu; rfl) (by unfold maxLen; omega) (by omega) (by have := hbw.size; simp; omega) ?_; intro v3 w3 hown3 hgrow3 hnil3))
          go_roundw
          case rel => exact ⟨k + 1, k + 1, acc ++ [s.extract start k], by go_num, by go_num, by omega, Nat.le_refl _, by simp; omega, by rw [List.length_append, List.map_append]; exact hown3, (hbw.alloc hbw.size _).grown hgrow3 (by have := hbw.size; simp; omega) (fun j hj => (hown.lt j hj).1), cutAt_word s k start acc hlt HB.out HAT.out⟩
          case measure => simp [RowKit.intOf]; omega
        · have HB := hide hb
          have hb' : ((s[k].toNat : Int) == 32) = false := by rw [beq_eq_false_iff_ne]; omega
          clear hb
          go_wp2_with fail
          go_roundw
          case rel => exact ⟨k + 1, start, acc, by go_num, rfl, by omega, by omega, hal, hown, hbw, cutAt_step s k start acc hlt HB.out HAT.out⟩
          case measure => simp [RowKit.intOf]; omega
      · obtain rfl : k = s.size := by omega
        go_wp2_with (at_builtin; go_must (refine wpList_append_own _ rfl (.tmp 23) (.tmp 28) 39 rfl w.heap.size 9 i9 (.string ⟨#[]⟩) 1 16 Tryd.underlying39 hi hz0 hz1 hz2 rfl (by decide) _ _ _ rfl (hown.alloc _) ⟨wr.heap.size, 0, none⟩ 1 1 [.string (s.extract start s.size)] rfl rfl (cell_one_new _ _ _) (by intro u hu; simp at hu; subst hu; rfl) (by unfold maxLen; omega) (by omega) (by have := hbw.size; simp; omega) ?_; intro v3 w3 hown3 hgrow3 hnil3))
        go_roundw
        case rel => exact ⟨s.size + 1, s.size + 1, acc ++ [s.extract start s.size], by go_num, by go_num, by omega, Nat.le_refl _, by simp; omega, by rw [List.length_append, List.map_append]; exact hown3, (hbw.alloc hbw.size _).grown hgrow3 (by have := hbw.size; simp; omega) (fun j hj => (hown.lt j hj).1), cutAt_last s start acc HAT.out⟩
        case measure => simp [RowKit.intOf]
    · have hp : pieces s.data.toList [] = acc.map (·.data.toList) := by
        rcases HAT.out with ⟨h1, _⟩ | ⟨_, h3⟩
        · omega
        · exact h3
      have HP := hide hp
      clear hp
      go_wp2_with fail
      go_ret
      exact ⟨hbw, acc, _, rfl, HP.out.symm, hown⟩

def digitB (c : UInt8) : Bool := decide (48 ≤ c.toNat) && decide (c.toNat ≤ 57)
/-- Without the zeros ahead. -/
def strip : List UInt8 → List UInt8
  | [] => []
  | [c] => [c]
  | c :: d :: r => if c = 48 then strip (d :: r) else c :: d :: r
def trimL (l : List UInt8) : List UInt8 := if l.all digitB then strip l else l
theorem strip_zero (l : List UInt8) (h1 : 1 < l.length) (h0 : l.head? = some 48) : strip l = strip (l.drop 1) := by
  match l, h1, h0 with
  | c :: d :: r, _, h0 =>
    obtain rfl : c = 48 := by simpa using h0
    rw [strip, if_pos rfl]
    rfl
theorem strip_stop (l : List UInt8) (h : ¬ (1 < l.length ∧ l.head? = some 48)) : strip l = l := by
  match l, h with
  | [], _ => rfl
  | [c], _ => rfl
  | c :: d :: r, h =>
    rw [strip, if_neg]
    intro e
    exact h ⟨by simp, by simp [e]⟩
theorem digits_step (s : ByteArray) (k : Nat) (h : k < s.size) (ha : (s.data.toList.take k).all digitB = true) (hd : 48 ≤ s[k].toNat ∧ s[k].toNat ≤ 57) : (s.data.toList.take (k + 1)).all digitB = true := by
  rw [take_snoc s k h, List.all_append, ha]
  simp [digitB, hd.1, hd.2]
theorem trim_other (s : ByteArray) (k : Nat) (h : k < s.size) (hd : ¬ (48 ≤ s[k].toNat ∧ s[k].toNat ≤ 57)) : trimL s.data.toList = s.data.toList := by
  unfold trimL
  rw [if_neg]
  intro ha
  have := List.all_eq_true.1 ha s[k] (byte_mem s k h)
  simp [digitB] at this
  exact hd this
theorem head_48 (t : ByteArray) (h : 0 < t.size) (h0 : t[0].toNat = 48) : t.data.toList.head? = some 48 := by
  rw [head_of t h]
  congr 1
  exact UInt8.toNat_inj.1 h0
theorem head_not (t : ByteArray) (h : 0 < t.size) (h0 : t.data.toList.head? = some 48) : t[0].toNat = 48 := by
  rw [head_of t h] at h0
  rw [Option.some.inj h0]
  rfl
set_option maxHeartbeats 1000000 in
set_option maxRecDepth 1000000 in
theorem trimmed_any (s : ByteArray) (w : World) (hs : s.size ≤ maxLen) :
    Calls Tryd.prog 22 #[.string s] w fun e w' => (∃ t : ByteArray, e = .returned (.string t) ∧ t.data.toList = trimL s.data.toList) ∧ w' = w := by
  unfold maxLen at hs
  go_enter Tryd.func22, Tryd.ntmps22
  go_wp2_with fail
  go_loopg [3] s.size (fun gk i wr => ∃ k : Nat, i = .int .i64 k ∧ k ≤ s.size ∧ s.size - k ≤ gk ∧ wr = w ∧ Hid ((s.data.toList.take k).all digitB = true))
  case atStart => exact ⟨0, rfl, by omega, by omega, rfl, (by simp : (s.data.toList.take 0).all digitB = true)⟩
  case round =>
    obtain ⟨k, rfl, hk, hgk, hwr, HA⟩ := hrel
    subst hwr
    by_cases hp : k < s.size
    · have i1 : (0 : Int) ≤ (k : Int) := by omega
      have i2 : (k : Int) < (s.size : Int) := by omega
      by_cases hd : 48 ≤ s[k].toNat ∧ s[k].toNat ≤ 57
      · have HD := hide hd
        have d1 : decide ((s[k].toNat : Int) < 48) = false := decide_eq_false (by omega)
        have d2 : decide ((57 : Int) < (s[k].toNat : Int)) = false := decide_eq_false (by omega)
        have d3 : ¬ ((s[k].toNat : Int) < 48) := by omega
        have d4 : ¬ ((57 : Int) < (s[k].toNat : Int)) := by omega
        clear hd
        go_wp2_with fail
        all_goals first
          | (go_roundg (s.size - (k + 1))
             case measure => omega
             case rel => exact ⟨k + 1, by go_num, by omega, Nat.le_refl _, rfl, digits_step s k hp HA.out HD.out⟩)
          | (exfalso; omega)
      · have HD := hide hd
        clear hd
        go_wp2_with fail
        all_goals first
          | (go_ret
             exact ⟨⟨s, rfl, (trim_other s k hp HD.out).symm⟩, rfl⟩)
          | (exfalso; have := HD.out; omega)
    · have HALL : Hid (s.data.toList.all digitB = true) := by
        have h := HA.out
        rw [List.take_of_length_le (by simp; omega)] at h
        exact h
      go_wp2_with fail
      go_loopg [0] s.size (fun gk v wx => ∃ t : ByteArray, v = .string t ∧ t.size ≤ s.size ∧ t.size ≤ gk ∧ wx = wr ∧ Hid (strip t.data.toList = strip s.data.toList))
      case atStart => exact ⟨s, rfl, Nat.le_refl _, Nat.le_refl _, rfl, rfl⟩
      case round =>
        obtain ⟨t, rfl, ht, hgt, hwr, HS⟩ := hrel
        subst hwr
        by_cases h1 : 1 < t.size
        · have j1 : (1 : Int) < (t.size : Int) := by omega
          have j2 : (0 : Int) < (t.size : Int) := by omega
          have j3 : (1 : Int) ≤ (t.size : Int) := by omega
          by_cases h0 : t[0].toNat = 48
          · have H0 := hide h0
            have hb : ((t[0].toNat : Int) == 48) = true := by rw [h0]; rfl
            clear h0
            go_wp2_with fail
            go_roundg (t.size - 1)
            case measure => omega
            case rel =>
              refine ⟨t.extract 1 t.size, rfl, by simp; omega, by simp, rfl, ?_⟩
              show strip (t.extract 1 t.size).data.toList = strip s.data.toList
              rw [extract_list, List.take_of_length_le (by simp), ← HS.out]
              exact (strip_zero _ (by simpa using h1) (head_48 t (by omega) H0.out)).symm
          · have H0 := hide h0
            have hb : ((t[0].toNat : Int) == 48) = false := by rw [beq_eq_false_iff_ne]; omega
            clear h0
            go_wp2_with fail
            go_ret
            refine ⟨⟨t, rfl, ?_⟩, rfl⟩
            rw [trimL, if_pos HALL.out, ← HS.out, strip_stop _ (fun h => H0.out (head_not t (by omega) h.2))]
        · have j1 : decide ((1 : Int) < (t.size : Int)) = false := decide_eq_false (by omega)
          go_wp2_with fail
          all_goals go_ret
          all_goals refine ⟨⟨t, rfl, ?_⟩, rfl⟩
          all_goals rw [trimL, if_pos HALL.out, ← HS.out, strip_stop _ (fun h => h1 (by simpa using h.1))]
end Go.Proofs.YtfecbepleeoibaaDoor
