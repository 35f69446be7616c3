/-
  Layer 13: the whole: its keys, the verbs' names.
-/
import Derived.Test.YthapbnlcodkalaaDoorRefJob
import Derived.Test.YthapbnlcodkalaaDoorFigVals
namespace Go.Proofs.YthapbnlcodkalaaDoor
open Go.RowKit Go.Sort

def verbT : List (List UInt8) := [[], [112, 117, 116], [117, 115, 101], [114, 101, 115, 101, 114, 118, 101], [114, 101, 115, 101, 114, 118, 101, 45, 119, 105, 116, 104, 45, 116, 105, 109, 101, 111, 117, 116], [114, 101, 115, 101, 114, 118, 101, 45, 106, 111, 98], [100, 101, 108, 101, 116, 101], [114, 101, 108, 101, 97, 115, 101], [98, 117, 114, 121], [116, 111, 117, 99, 104], [119, 97, 116, 99, 104], [105, 103, 110, 111, 114, 101], [112, 101, 101, 107], [112, 101, 101, 107, 45, 114, 101, 97, 100, 121], [112, 101, 101, 107, 45, 100, 101, 108, 97, 121, 101, 100], [112, 101, 101, 107, 45, 98, 117, 114, 105, 101, 100], [107, 105, 99, 107], [107, 105, 99, 107, 45, 106, 111, 98], [115, 116, 97, 116, 115, 45, 106, 111, 98], [115, 116, 97, 116, 115, 45, 116, 117, 98, 101], [115, 116, 97, 116, 115], [108, 105, 115, 116, 45, 116, 117, 98, 101, 115], [108, 105, 115, 116, 45, 116, 117, 98, 101, 45, 117, 115, 101, 100], [108, 105, 115, 116, 45, 116, 117, 98, 101, 115, 45, 119, 97, 116, 99, 104, 101, 100], [112, 97, 117, 115, 101, 45, 116, 117, 98, 101], [113, 117, 105, 116]]
def verbOf (k : Nat) : List UInt8 := verbT.getD k []
def nameL (k : Int) : List UInt8 := if 1 ≤ k ∧ k ≤ 25 then verbOf k.toNat else []
theorem cell_block {w : World} {p : Addr} {v : Value} (h : w.cell? p = some v) : p.block < w.heap.size := cell_lt h
/-- What the table of verbs holds. -/
def VTab (w : World) : Prop := ∀ k, k < 26 → w.cell? ⟨0, k * 5, none⟩ = some (.string ⟨(verbOf k).toArray⟩)
theorem VTab.below {w w' : World} {B : Nat} (h : VTab w) (hB : w.heap.size ≤ B) (hb : Below B w w') : VTab w' := fun k hk => (hb.cell (p := ⟨0, k * 5, none⟩) (Nat.lt_of_lt_of_le (cell_block (h k hk)) hB)).trans (h k hk)
set_option maxHeartbeats 400000 in
set_option maxRecDepth 1000000 in
theorem name_any (n : Nat) (hn : 1 ≤ n ∧ n ≤ 25) (w : World) (T : VTab w) :
    Calls Tryd.prog 32 #[.int .i64 (n : Int)] w fun e w' => e = .returned (.string ⟨(verbOf n).toArray⟩) ∧ w' = w := by
  have hc := T n (by omega)
  have i0 : (1 : Int) ≤ (n : Int) := by omega
  have i3 : (n : Int) ≤ 25 := by omega
  have i1 : (0 : Int) ≤ (n : Int) := by omega
  have i2 : (n : Int) < 26 := by omega
  clear T
  go_enter Tryd.func32, Tryd.ntmps32
  go_wp2_with fail
  all_goals go_ret
  all_goals exact ⟨rfl, rfl⟩
def verbsA : Array Value := ((List.range 26).map fun k => Value.string ⟨(verbOf k).toArray⟩).toArray
theorem verbsA_at (k : Nat) (hk : k < 26) : verbsA[k]? = some (.string ⟨(verbOf k).toArray⟩) := by
  simp [verbsA, hk]
set_option maxHeartbeats 1000000 in
set_option maxRecDepth 1000000 in
theorem refVerbs_any (w : World) :
    Calls Tryd.prog 44 #[] w fun e w' => e = .returned (.slice (some ⟨w.heap.size, 0, none⟩) 26 26) ∧ w' = w.alloc (.cells verbsA 9) := by
  go_enter Tryd.func44, Tryd.ntmps44
  go_wp2_with fail
  go_ret
  exact ⟨rfl, by kernel_rfl⟩
theorem refVerbs_use (w : World) : Calls Tryd.prog 44 #[] w fun e w' => e = .returned (.slice (some ⟨w.heap.size, 0, none⟩) 26 26) ∧ Below w.heap.size w w' ∧ ∀ k, k < 26 → w'.cell? ⟨w.heap.size, k, none⟩ = some (.string ⟨(verbOf k).toArray⟩) :=
  (refVerbs_any w).mono fun _ _ ⟨he, hw⟩ => ⟨he, hw ▸ (Below.refl _ w).alloc (Nat.le_refl _) _, fun k hk => by rw [hw, cell_of_row _ _ k verbsA _ (0, 0) (heap_alloc_new _ _)]; exact verbsA_at k hk⟩
set_option maxHeartbeats 1000000 in
set_option maxRecDepth 1000000 in
theorem refName_any (n : Nat) (hn : 1 ≤ n ∧ n ≤ 25) (w : World) :
    Calls Tryd.prog 31 #[.int .i64 (n : Int)] w fun e w' => e = .returned (.string ⟨(verbOf n).toArray⟩) ∧ Below w.heap.size w w' := by
  have i1 : (0 : Int) ≤ (n : Int) := by omega
  have i2 : (n : Int) < 26 := by omega
  have i3 : (1 : Int) ≤ (n : Int) := by omega
  have i4 : (n : Int) ≤ 25 := by omega
  go_enter Tryd.func31, Tryd.ntmps31
  go_wp2_with (go_at_call 44; refine (refVerbs_use _).mono ?_; rintro e w1 ⟨rfl, B1, C1⟩; have hc := C1 n (by omega); have HB1 := hide B1; clear B1 C1)
  all_goals go_ret
  all_goals exact ⟨rfl, HB1.out⟩
def trS (b : Bool) : ByteArray := if b then ⟨#[116, 114, 117, 101]⟩ else ⟨#[102, 97, 108, 115, 101]⟩
set_option maxHeartbeats 1000000 in
set_option maxRecDepth 1000000 in
theorem truth_any (b : Bool) (w : World) : Calls Tryd.prog 33 #[.bool b] w fun e w' => e = .returned (.string (trS b)) ∧ w' = w := by
  cases b
  all_goals
    go_enter Tryd.func33, Tryd.ntmps33
    go_wp2_with fail
    go_ret
    exact ⟨rfl, rfl⟩
def sJt : ByteArray := ⟨#[106, 111, 98, 45, 116, 105, 109, 101, 111, 117, 116, 115]⟩
def sTo : ByteArray := ⟨#[116, 111, 116, 97, 108, 45, 106, 111, 98, 115]⟩
def sMj : ByteArray := ⟨#[109, 97, 120, 45, 106, 111, 98, 45, 115, 105, 122, 101]⟩
def sTu : ByteArray := ⟨#[99, 117, 114, 114, 101, 110, 116, 45, 116, 117, 98, 101, 115]⟩
def sCo : ByteArray := ⟨#[99, 117, 114, 114, 101, 110, 116, 45, 99, 111, 110, 110, 101, 99, 116, 105, 111, 110, 115]⟩
def sPr : ByteArray := ⟨#[99, 117, 114, 114, 101, 110, 116, 45, 112, 114, 111, 100, 117, 99, 101, 114, 115]⟩
def sWo : ByteArray := ⟨#[99, 117, 114, 114, 101, 110, 116, 45, 119, 111, 114, 107, 101, 114, 115]⟩
def sWa : ByteArray := ⟨#[99, 117, 114, 114, 101, 110, 116, 45, 119, 97, 105, 116, 105, 110, 103]⟩
def sTc : ByteArray := ⟨#[116, 111, 116, 97, 108, 45, 99, 111, 110, 110, 101, 99, 116, 105, 111, 110, 115]⟩
def sUp : ByteArray := ⟨#[117, 112, 116, 105, 109, 101]⟩
def sOl : ByteArray := ⟨#[98, 105, 110, 108, 111, 103, 45, 111, 108, 100, 101, 115, 116, 45, 105, 110, 100, 101, 120]⟩
def sNe : ByteArray := ⟨#[98, 105, 110, 108, 111, 103, 45, 99, 117, 114, 114, 101, 110, 116, 45, 105, 110, 100, 101, 120]⟩
def sMi : ByteArray := ⟨#[98, 105, 110, 108, 111, 103, 45, 114, 101, 99, 111, 114, 100, 115, 45, 109, 105, 103, 114, 97, 116, 101, 100]⟩
def sWr : ByteArray := ⟨#[98, 105, 110, 108, 111, 103, 45, 114, 101, 99, 111, 114, 100, 115, 45, 119, 114, 105, 116, 116, 101, 110]⟩
def sMx : ByteArray := ⟨#[98, 105, 110, 108, 111, 103, 45, 109, 97, 120, 45, 115, 105, 122, 101]⟩
def sDr : ByteArray := ⟨#[100, 114, 97, 105, 110, 105, 110, 103]⟩
def cmdW : ByteArray := ⟨#[99, 109, 100, 45]⟩
def cmdK (i : Nat) : ByteArray := cmdW ++ ⟨(verbOf i).toArray⟩
def cmdsP (f : Nat → Int) (k : Nat) : List BP := (List.range k).map fun i => (cmdK (i + 1), prS (f (8 + i)))
theorem cmds_succ (f : Nat → Int) (k : Nat) : cmdsP f (k + 1) = cmdsP f k ++ [(cmdK (k + 1), prS (f (8 + k)))] := by simp [cmdsP, List.range_succ]
theorem cmds_len (f : Nat → Int) (k : Nat) : (cmdsP f k).length = k := by simp [cmdsP]
theorem verb_len : ∀ i, i < 26 → (verbOf i).length ≤ 30 := by decide
def headP (f : Nat → Int) : List BP := sumsP (f 2) (f 3) (f 4) (f 5) (f 6)
def tailP (f : Nat → Int) : List BP := [(sJt, prS (f 33)), (sTo, prS (f 34)), (sMj, prS (f 41)), (sTu, prS (f 36)), (sCo, prS (f 37)), (sPr, prS (f 38)), (sWo, prS (f 39)), (sWa, prS (f 40)), (sTc, prS (f 35)), (sUp, prS (lessI (f 0) (f 1))), (sOl, prS (f 42)), (sNe, prS (f 43)), (sMi, prS (f 44)), (sWr, prS (f 45)), (sMx, prS (f 47))]
def shopP (f : Nat → Int) (dr : Bool) : List BP := headP f ++ cmdsP f 24 ++ tailP f ++ [(sDr, trS dr)]
/-- The whole: its numbers by their cells. -/
structure Sp where
  f : Nat → Int
  dr : Bool
def Sp.cells (s : Sp) : Array Value := ((List.range 48).map (fun k => Value.int .i64 (s.f k)) ++ [Value.bool s.dr]).toArray
def Sp.ok (s : Sp) : Prop := ∀ k, k < 48 → I64 (s.f k)
theorem Sp.size (s : Sp) : s.cells.size = 49 := by simp [Sp.cells]
theorem Sp.at (s : Sp) (k : Nat) (hk : k < 48) : s.cells[k]? = some (.int .i64 (s.f k)) := by
  simp only [Sp.cells, List.getElem?_toArray]
  rw [List.getElem?_append_left (by simpa using hk)]
  simp [hk]
theorem Sp.last (s : Sp) : s.cells[48]? = some (.bool s.dr) := by
  simp only [Sp.cells, List.getElem?_toArray]
  rw [List.getElem?_append_right (by simp)]
  simp
def Sp.pairs (s : Sp) : List BP := shopP s.f s.dr
def Sp.dict (s : Sp) : List UInt8 := if dictE (s.pairs.map un) = 0 then dictL (s.pairs.map un) else []
theorem info_shop : (Tryd.prog.info? 43).map (·.size) = some 49 := by kernel_rfl
theorem cmdK_len (i : Nat) (hi : i < 26) : (cmdK i).size ≤ 40 := by
  have h1 := verb_len i hi
  have h2 : cmdW.size = 4 := rfl
  unfold cmdK
  rw [ByteArray.size_append, h2]
  have : (⟨(verbOf i).toArray⟩ : ByteArray).size = (verbOf i).length := by simp [ByteArray.size]
  omega
theorem Sp.small (s : Sp) (h : s.ok) : (dictL (s.pairs.map un)).length ≤ 20000 := by
  have hp := dict_len 100 s.pairs (fun p hp => ?_)
  · have hl : s.pairs.length = 45 := by simp [Sp.pairs, shopP, headP, sumsP, cmds_len, tailP]
    rw [hl] at hp
    show (headL ++ pairsL (s.pairs.map un)).length ≤ 20000
    rw [List.length_append]
    have : headL.length = 4 := rfl
    omega
  · have g : ∀ k, k < 48 → (prS (s.f k)).size ≤ 21 := fun k hk => prS_len _ (h k hk)
    simp only [Sp.pairs, shopP, headP, List.mem_append] at hp
    rcases hp with ((hp | hp) | hp) | hp
    · simp only [sumsP, List.mem_cons, List.not_mem_nil, or_false] at hp
      rcases hp with rfl | rfl | rfl | rfl | rfl
      · have := g 6 (by decide)
        have : (kUrgent : ByteArray).size ≤ 30 := by decide
        simp only []
        omega
      · have := g 2 (by decide)
        have : (kReady : ByteArray).size ≤ 30 := by decide
        simp only []
        omega
      · have := g 4 (by decide)
        have : (kReserved : ByteArray).size ≤ 30 := by decide
        simp only []
        omega
      · have := g 3 (by decide)
        have : (kDelayed : ByteArray).size ≤ 30 := by decide
        simp only []
        omega
      · have := g 5 (by decide)
        have : (kBuried : ByteArray).size ≤ 30 := by decide
        simp only []
        omega
    · simp only [cmdsP, List.mem_map, List.mem_range] at hp
      obtain ⟨i, hi, rfl⟩ := hp
      have h1 := g (8 + i) (by omega)
      have h2 := cmdK_len (i + 1) (by omega)
      simp only []
      omega
    · simp only [tailP, List.mem_cons, List.not_mem_nil, or_false] at hp
      rcases hp with rfl | rfl | rfl | rfl | rfl | rfl | rfl | rfl | rfl | rfl | rfl | rfl | rfl | rfl | rfl
      · have := g 33 (by decide)
        have : (sJt : ByteArray).size ≤ 30 := by decide
        simp only []
        omega
      · have := g 34 (by decide)
        have : (sTo : ByteArray).size ≤ 30 := by decide
        simp only []
        omega
      · have := g 41 (by decide)
        have : (sMj : ByteArray).size ≤ 30 := by decide
        simp only []
        omega
      · have := g 36 (by decide)
        have : (sTu : ByteArray).size ≤ 30 := by decide
        simp only []
        omega
      · have := g 37 (by decide)
        have : (sCo : ByteArray).size ≤ 30 := by decide
        simp only []
        omega
      · have := g 38 (by decide)
        have : (sPr : ByteArray).size ≤ 30 := by decide
        simp only []
        omega
      · have := g 39 (by decide)
        have : (sWo : ByteArray).size ≤ 30 := by decide
        simp only []
        omega
      · have := g 40 (by decide)
        have : (sWa : ByteArray).size ≤ 30 := by decide
        simp only []
        omega
      · have := g 35 (by decide)
        have : (sTc : ByteArray).size ≤ 30 := by decide
        simp only []
        omega
      · have := prS_len _ (lessI_64 (s.f 0) (s.f 1))
        have : (sUp : ByteArray).size ≤ 30 := by decide
        simp only []
        omega
      · have := g 42 (by decide)
        have : (sOl : ByteArray).size ≤ 30 := by decide
        simp only []
        omega
      · have := g 43 (by decide)
        have : (sNe : ByteArray).size ≤ 30 := by decide
        simp only []
        omega
      · have := g 44 (by decide)
        have : (sMi : ByteArray).size ≤ 30 := by decide
        simp only []
        omega
      · have := g 45 (by decide)
        have : (sWr : ByteArray).size ≤ 30 := by decide
        simp only []
        omega
      · have := g 47 (by decide)
        have : (sMx : ByteArray).size ≤ 30 := by decide
        simp only []
        omega
    · obtain rfl : p = (sDr, trS s.dr) := by simpa using hp
      have : sDr.size = 8 := rfl
      have : (trS s.dr).size ≤ 5 := by unfold trS; split <;> decide
      simp only []
      omega
theorem Sp.dict_le (s : Sp) (h : s.ok) : s.dict.length ≤ 20000 := by
  unfold Sp.dict
  split
  · exact s.small h
  · simp
end Go.Proofs.YthapbnlcodkalaaDoor
