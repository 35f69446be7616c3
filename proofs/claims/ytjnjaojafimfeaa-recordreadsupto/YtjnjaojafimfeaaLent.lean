/-
  The walks of 'lent' and 'still'.
-/
import Derived.Test.YtjnjaojafimfeaaMem
import Derived.Deep.LoopGhost
import Derived.Deep.QuietTactic
import Derived.BigQuiet
import Derived.Deep.OwnRows
import Derived.Laws.CopyOwn
namespace Go.Proofs.Ytjnjaojafimfeaa
open Go.RowKit Go.Lib

theorem hide {p : Prop} (h : p) : Hid p := h
theorem info_byte : (Try.prog.info? 5).map (fun i => (i.zero, i.size, i.bytes)) = some (some (.int .u8 0), 1, 1) := by kernel_rfl
def marks (k : Nat) : List UInt8 := List.replicate k 165

theorem made_row (w : World) (n : Nat) : ByteRow (w.alloc (.cells (madeCells #[.int .u8 0] n) 5)) 5 w.heap.size (List.replicate n 0) := by
  refine (heap_alloc_new w _).trans ?_
  congr 2
  apply Array.ext'
  simp [madeCells, u8s, Nat.mod_one, List.map_const']
theorem IsBytes.source {w : World} {a : Option Addr} {c : Nat} {l : List UInt8} (h : IsBytes w a c l) (hn : 0 < l.length) : ∃ ad, a = some ad ∧ ∀ j v, (u8s l)[j]? = some v → w.cell? (ad.add j) = some v := by
  rcases h.2.2 with h0 | ⟨b, o, ha, _, hc⟩
  · rw [h0] at hn; cases hn
  · refine ⟨_, ha, fun j v hv => ?_⟩
    rw [u8s_get] at hv
    cases hx : l[j]? with
    | none => rw [hx] at hv; cases hv
    | some x =>
      rw [hx] at hv
      have := hc j x hx
      simp only [Option.map_some, Option.some.injEq] at hv
      rw [← hv]
      cases j with
      | zero => simpa [Addr.add] using this
      | succ j => simpa [Addr.add] using this
/-- The row while its marks are laid. -/
def lentTo (l : List UInt8) (k : Nat) : List UInt8 := l ++ marks k ++ List.replicate (4 - k) 0
theorem lentTo_set (l : List UInt8) (k : Nat) (hk : k < 4) : (lentTo l k).set (l.length + k) 165 = lentTo l (k + 1) := by
  unfold lentTo marks
  match k, hk with
  | 0, _ => simp [List.replicate]
  | 1, _ => simp [List.replicate]
  | 2, _ => simp [List.replicate]
  | 3, _ => simp [List.replicate]
theorem lentTo_len (l : List UInt8) (k : Nat) (hk : k ≤ 4) : (lentTo l k).length = l.length + 4 := by
  unfold lentTo marks
  simp
  omega

theorem lent_start (l : List UInt8) (n : Nat) (hn : l.length = n) : splice (List.replicate (n + 4) 0) 0 l = lentTo l 0 := by
  unfold splice lentTo marks
  simp [hn]
theorem lentTo_at (l : List UInt8) (k : Nat) (hk : k < 4) : (lentTo l k)[l.length + k]? = some 0 := by
  unfold lentTo marks
  have e : l.length + k - (l ++ List.replicate k (165 : UInt8)).length = 0 := by simp
  rw [List.getElem?_append_right (by simp), e, List.getElem?_replicate_of_lt (by omega)]
set_option maxHeartbeats 1000000 in
set_option maxRecDepth 1000000 in
theorem lent_any (a : Option Addr) (c : Nat) (l : List UInt8) (w : World) (hl : IsBytes w a c l) (hb : l.length ≤ 140737488355000) :
    Calls Try.prog 12 #[.slice a l.length c] w fun e w' => e = .returned (.slice (some ⟨w.heap.size, 0, none⟩) (l.length + 4) (l.length + 4)) ∧ Hid (ByteRow w' 5 w.heap.size (l ++ marks 4)) ∧ Below w.heap.size w w' := by
  obtain ⟨i8, hi, hz0, hz1, hz2⟩ := info_parts info_byte
  have HL := hide hl
  clear hl
  obtain ⟨n, hn⟩ : ∃ n, l.length = n := ⟨_, rfl⟩
  rw [hn] at hb ⊢
  have HN := hide hn
  clear hn
  go_enter Try.func12, Try.ntmps12
  go_wp2_with (first
    | (refine wpList_make_row _ rfl (.tmp 7) (.tmp 7) 30 rfl 5 i8 (.int .u8 0) Try.underlying30 hi hz0 hz1 rfl .i64 .i64 (n + 4) rfl rfl (by rw [hz2]; omega) (by omega) ?_)
    | (refine wpList_copy_splice rfl (.tmp 9) (.tmp 10) 30 30 rfl 5 Try.underlying30 (by kernel_rfl) _ _ _ _ _ _ rfl rfl w.heap.size 0 _ 5 (made_row w (n + 4)) (u8s l) (by rw [u8s_length, HN.out]; simp [Nat.min_def]) (fun _ => ⟨rfl, (HL.out.below ((Below.refl _ w).alloc (Nat.le_refl _) _)).source (by rw [HN.out]; have := ‹0 < (u8s l).length›; rw [u8s_length, HN.out] at this; exact this)⟩) (by rw [u8s_length, u8s_length, HN.out]; simp) (u8s_one l) w.heap.size w ((Below.refl _ w).alloc (Nat.le_refl _) _) (Nat.le_refl _) ?_; intro w1 HG1 HB1))
  have HR1 : Hid (ByteRow w1 5 w.heap.size (lentTo l 0)) := by
    show w1.heap[w.heap.size]? = _
    rw [HG1.out, u8s_splice, lent_start l n HN.out]
  have HB := hide HB1
  clear HG1 HB1
  go_loopg [4] 4 (fun gk i wx => ∃ k : Nat, i = .int .i64 ((n + k : Nat) : Int) ∧ k ≤ 4 ∧ 4 - k ≤ gk ∧ Hid (ByteRow wx 5 w.heap.size (lentTo l k)) ∧ Hid (Below w.heap.size w wx))
  case atStart => exact ⟨0, rfl, by omega, by omega, HR1, HB⟩
  case round =>
    obtain ⟨k, rfl, hk, hgk, HRx, HBx⟩ := hrel
    by_cases hlt : k < 4
    · have hc := HRx.out.cell (n + k) 0 (by rw [← HN.out]; exact lentTo_at l k hlt)
      have hf := HRx.out.frozen (n + k)
      have hs := HRx.out.set (n + k) 165
      have HS := hide hs
      clear hs
      have i1 : (0 : Int) ≤ ((n + k : Nat) : Int) := by omega
      have i2 : ((n + k : Nat) : Int) < ((n + 4 : Nat) : Int) := by omega
      go_wp2_with fail
      go_roundg (3 - k)
      case measure => omega
      case rel =>
        refine ⟨k + 1, by go_num, by omega, by omega, ?_, ?_⟩
        · have h := HS.out.1
          rw [← HN.out, lentTo_set l k hlt, HN.out] at h
          exact h
        · exact HBx.out.grown HS.out.2 (HBx.out.size) (fun j hj => by cases hj; exact Nat.le_refl _)
    · obtain rfl : k = 4 := by omega
      go_wp2_with fail
      go_ret
      refine ⟨rfl, ?_, HBx.out⟩
      have h := HRx.out
      unfold lentTo at h
      rw [List.replicate_zero, List.append_nil] at h
      exact h

theorem below_drewM (B : Nat) (w : World) (n : Nat) : Below B w (w.drewN n) := ⟨rfl, rfl, rfl, Nat.le_refl _, fun _ _ => rfl⟩
set_option maxHeartbeats 4000000 in
set_option maxRecDepth 1000000 in
theorem still_any (a1 : Option Addr) (c1 : Nat) (a2 : Option Addr) (c2 : Nat) (l : List UInt8) (w : World) (h1 : IsBytes w a1 c1 (l ++ marks 4)) (h2 : IsBytes w a2 c2 l) :
    Calls Try.prog 15 #[.slice a1 (l.length + 4) c1, .slice a2 l.length c2] w fun e w' => e = .returned (.bool true) ∧ Below w.heap.size w w' := by
  have hm : c1 ≤ 9223372036854775807 := by have := h1.2.1; unfold maxLen at this; omega
  have hcl : l.length + 4 ≤ c1 := by have := h1.1; simp [marks] at this; omega
  have hcl2 : l.length ≤ c2 := h2.1
  have H1 := hide h1
  have H2 := hide h2
  obtain ⟨b, o, rfl, hb, hcell⟩ : ∃ b o, a1 = some ⟨b, o, none⟩ ∧ b < w.heap.size ∧ ∀ (j : Nat) x, (l ++ marks 4)[j]? = some x → w.cell? ⟨b, o + j, none⟩ = some (.int .u8 (x.toNat : Int)) := by
    rcases h1.2.2 with h | h
    · have := congrArg List.length h; simp [marks] at this
    · exact h
  have HC := hide hcell
  clear h1 h2 hcell
  obtain ⟨n, hn⟩ : ∃ n, l.length = n := ⟨_, rfl⟩
  rw [hn] at hcl hcl2 ⊢
  have HN := hide hn
  clear hn
  go_enter Try.func15, Try.ntmps15
  go_wp2_with fail
  go_loopg [5] (n + 4) (fun gk i wx => ∃ k : Nat, i = .int .i64 k ∧ k ≤ n + 4 ∧ n + 4 - k ≤ gk ∧ Hid (Below w.heap.size w wx))
  case atStart => exact ⟨0, rfl, by omega, by omega, Below.refl _ _⟩
  case round =>
    obtain ⟨k, rfl, hk, hgk, HB⟩ := hrel
    by_cases hlt : k < n + 4
    · by_cases hin : k < n
      · obtain ⟨x, hx⟩ : ∃ x, l[k]? = some x := ⟨_, List.getElem?_eq_getElem (by rw [HN.out]; exact hin)⟩
        have d1 : wr.cell? ⟨b, o + k, none⟩ = some (.int .u8 (x.toNat : Int)) := (HB.out.cell (p := ⟨b, o + k, none⟩) hb).trans (HC.out k x (by rw [List.getElem?_append_left (List.getElem?_eq_some_iff.1 hx).1]; exact hx))
        obtain ⟨b', o', rfl, hb', hc'⟩ : ∃ b o, a2 = some ⟨b, o, none⟩ ∧ b < w.heap.size ∧ ∀ (j : Nat) x, l[j]? = some x → w.cell? ⟨b, o + j, none⟩ = some (.int .u8 (x.toNat : Int)) := by
          rcases H2.out.2.2 with h | h
          · rw [h] at hx; cases hx
          · exact h
        have d2 : wr.cell? ⟨b', o' + k, none⟩ = some (.int .u8 (x.toNat : Int)) := (HB.out.cell (p := ⟨b', o' + k, none⟩) hb').trans (hc' k x hx)
        clear hx hc'
        have g1 : (k : Int) < (n : Int) := by omega
        have g2 : decide ((n : Int) ≤ (k : Int)) = false := decide_eq_false (by omega)
        have g3 : decide (n ≤ k) = false := decide_eq_false (by omega)
        have g4 : (0 : Int) ≤ (k : Int) := by omega
        have g5 : (k : Int) < ((n : Int) + 4) := by omega
        have g6 : (k : Int) < ((n + 4 : Nat) : Int) := by omega
        have g7 : (((x.toNat : Int)) != (x.toNat : Int)) = false := by simp
        go_wp2_with fail
        go_big_quiet (fail)
        go_wp2_with fail
        go_roundg (n + 4 - (k + 1))
        case measure => omega
        case rel => exact ⟨k + 1, by go_num, by omega, Nat.le_refl _, HB.out.trans (below_drewM _ _ _)⟩
      · have d1 : wr.cell? ⟨b, o + k, none⟩ = some (.int .u8 165) := (HB.out.cell (p := ⟨b, o + k, none⟩) hb).trans (HC.out k 165 (by
          rw [List.getElem?_append_right (by rw [HN.out]; omega), marks, List.getElem?_replicate_of_lt (by rw [HN.out]; omega)]))
        have g1 : decide ((k : Int) < (n : Int)) = false := decide_eq_false (by omega)
        have g1' : decide (k < n) = false := decide_eq_false (by omega)
        have g2 : (n : Int) ≤ (k : Int) := by omega
        have g4 : (0 : Int) ≤ (k : Int) := by omega
        have g5 : (k : Int) < ((n : Int) + 4) := by omega
        have g6 : (k : Int) < ((n + 4 : Nat) : Int) := by omega
        go_wp2_with fail
        go_big_quiet (fail)
        go_wp2_with fail
        go_roundg (n + 4 - (k + 1))
        case measure => omega
        case rel => exact ⟨k + 1, by go_num, by omega, Nat.le_refl _, HB.out.trans (below_drewM _ _ _)⟩
    · go_wp2_with fail
      go_ret
      exact ⟨rfl, HB.out⟩
end Go.Proofs.Ytjnjaojafimfeaa
