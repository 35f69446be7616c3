/-
  RLn, RLn1, RLn2, RLn3, RLn4, RLn5, RLn6, RLn7.
-/
import Derived.Test.YtpfbfkjmdlogcaaDoorRRight
import Derived.Test.YtpfbfkjmdlogcaaDoorRefA
namespace Go.Proofs.YtpfbfkjmdlogcaaDoor
open Go.RowKit

/-- What line answers: the step's line, or a text that is too long, where the line is. -/
def LinePost (W : World) (L : Tx) (e : Ending) (w' : World) : Prop := Below W.heap.size W w' ∧ ∃ x : ByteArray, e = .returned (.string x) ∧ x.size ≤ 16777216 ∧ (x.data.toList = L ∨ (1048576 < x.size ∧ 1048576 < L.length))
theorem bsz (a : Array UInt8) : (ByteArray.mk a).size = a.size := rfl
theorem dataW_len (l : List UInt8) : (dataW l).length ≤ 4 * l.length + 1 := by
  unfold dataW
  rw [List.length_cons]
  induction l with
  | nil => simp
  | cons z m ih =>
    have := short_len z
    simp only [List.flatMap_cons, List.length_append, List.length_cons] at ih ⊢
    omega
end Go.Proofs.YtpfbfkjmdlogcaaDoor

set_option linter.unusedSimpArgs false
namespace Go.Proofs.YtpfbfkjmdlogcaaDoor
open Go.RowKit

set_option maxHeartbeats 8000000 in
set_option maxRecDepth 1000000 in
theorem ln_100 (W : World) (conn : Int) (data : List UInt8) (ad ak : Option Addr) (cd ck : Nat) (hc : 0 ≤ conn ∧ conn ≤ maxWord) (L : Tx) (hL : L = (wordP 1) ++ (32 :: printL conn) ++ [10]) :
    Calls Tryd.prog 41 #[.agg #[.int .i64 1, .int .i64 conn, .slice ad data.length cd, .int .i64 0, .slice ak 0 ck]] W (LinePost W L) := by
  have HL := hide hL
  have HB : Hid (Below W.heap.size W (W.alloc (.cells #[.int .i64 1, .int .i64 conn, .slice ad data.length cd, .int .i64 0, .slice ak 0 ck] 44))) := (Below.refl _ W).alloc (Nat.le_refl _) _
  have XB : Hid (StepBox (W.alloc (.cells #[.int .i64 1, .int .i64 conn, .slice ad data.length cd, .int .i64 0, .slice ak 0 ck] 44)) W.heap.size 1 conn 0 (.slice ad data.length cd) (.slice ak 0 ck)) := heap_alloc_new W _
  clear hL
  have bal : Below (W.alloc (.cells #[.int .i64 1, .int .i64 conn, .slice ad data.length cd, .int .i64 0, .slice ak 0 ck] 44)).heap.size (W.alloc (.cells #[.int .i64 1, .int .i64 conn, .slice ad data.length cd, .int .i64 0, .slice ak 0 ck] 44)) ((W.alloc (.cells #[.int .i64 1, .int .i64 conn, .slice ad data.length cd, .int .i64 0, .slice ak 0 ck] 44)).alloc (.cells #[.string ⟨#[]⟩, .string ⟨#[111, 112, 101, 110]⟩, .string ⟨#[102, 101, 101, 100]⟩, .string ⟨#[104, 97, 110, 103]⟩, .string ⟨#[116, 105, 99, 107]⟩, .string ⟨#[100, 114, 97, 105, 110]⟩, .string ⟨#[99, 114, 97, 115, 104]⟩, .string ⟨#[115, 116, 97, 114, 116]⟩] 9)) := (Below.refl _ _).alloc (Nat.le_refl _) _
  have X0 := hide (XB.out.kept (P := fun _ => False) (Kept.ofBelow bal) (fun h => h))
  have B0 := hide (HB.out.trans (bal.mono HB.out.size))
  clear bal
  have sc := itoa_short hc.1 hc.2
  go_enter Tryd.func41, Tryd.ntmps41
  go_wp2_with fail
  refine (refPrint_any conn _ (by unfold maxWord at hc; omega) (by unfold maxWord at hc; omega)).mono ?_
  rintro e w1 ⟨rfl, b⟩
  have XB1 := hide (X0.out.kept (P := fun _ => False) (Kept.ofBelow b) (fun h => h))
  have HB1 := hide (B0.out.trans (b.mono B0.out.size))
  clear b
  obtain ⟨a0, a1, a2, a3, a4, _⟩ := XB1.out.cells
  have X1 := XB1
  have B1 := HB1
  go_wp2_with fail
  generalize hS1 : ((⟨#[111, 112, 101, 110]⟩ : ByteArray) ++ (⟨#[32]⟩ : ByteArray)) = S1
  have HS1 : S1.data.toList = [111, 112, 101, 110, 32] := by rw [← hS1]; rfl
  have HS2 := hide HS1
  have zS1 : S1.size = 5 := by rw [← hS1]; rfl
  clear hS1 HS1
  go_loopg [3, 4] 0 (fun gk v i wr => ∃ (x : ByteArray), i = .int .i64 0 ∧ v = .string x ∧ Hid (StepBox wr W.heap.size 1 conn 0 (.slice ad data.length cd) (.slice ak 0 ck)) ∧ Hid (Below W.heap.size W wr) ∧ Hid (x.data.toList = (wordP 1) ++ (32 :: printL conn)) ∧ x.size ≤ 8388608)
  case atStart =>
    refine ⟨_, rfl, rfl, X1, B1, ?_, ?_⟩
    · show _ = _
      simp [ByteArray.data_append, wordP, dataW, HS2.out]
    · first | decide | (simp [ByteArray.size_append, bsz]; omega)
  case round =>
    obtain ⟨x, rfl, rfl, XR, BR, HX, hxs⟩ := hrel
    clear a0 a1 a2 a3 a4
    obtain ⟨a0, a1, a2, a3, a4, _⟩ := XR.out.cells
    go_wp2_with fail
    go_ret
    refine ⟨BR.out, _, rfl, ?_, .inl ?_⟩
    · simp [ByteArray.size_append, bsz]
      omega
    · rw [HL.out]
      simp [ByteArray.data_append, HX.out]
end Go.Proofs.YtpfbfkjmdlogcaaDoor

set_option linter.unusedSimpArgs false
namespace Go.Proofs.YtpfbfkjmdlogcaaDoor
open Go.RowKit

set_option maxHeartbeats 8000000 in
set_option maxRecDepth 1000000 in
theorem ln_200 (W : World) (conn : Int) (data : List UInt8) (ad ak : Option Addr) (cd ck : Nat) (hc : 0 ≤ conn ∧ conn ≤ maxWord) (hd : IsBytes W ad cd data) (hdl : data.length ≤ 1048576) (L : Tx) (hL : L = (wordP 2) ++ (32 :: printL conn) ++ (32 :: dataW data) ++ [10]) :
    Calls Tryd.prog 41 #[.agg #[.int .i64 2, .int .i64 conn, .slice ad data.length cd, .int .i64 0, .slice ak 0 ck]] W (LinePost W L) := by
  have HL := hide hL
  have HB : Hid (Below W.heap.size W (W.alloc (.cells #[.int .i64 2, .int .i64 conn, .slice ad data.length cd, .int .i64 0, .slice ak 0 ck] 44))) := (Below.refl _ W).alloc (Nat.le_refl _) _
  have XB : Hid (StepBox (W.alloc (.cells #[.int .i64 2, .int .i64 conn, .slice ad data.length cd, .int .i64 0, .slice ak 0 ck] 44)) W.heap.size 2 conn 0 (.slice ad data.length cd) (.slice ak 0 ck)) := heap_alloc_new W _
  have HD := hide hd
  clear hd
  clear hL
  have bal : Below (W.alloc (.cells #[.int .i64 2, .int .i64 conn, .slice ad data.length cd, .int .i64 0, .slice ak 0 ck] 44)).heap.size (W.alloc (.cells #[.int .i64 2, .int .i64 conn, .slice ad data.length cd, .int .i64 0, .slice ak 0 ck] 44)) ((W.alloc (.cells #[.int .i64 2, .int .i64 conn, .slice ad data.length cd, .int .i64 0, .slice ak 0 ck] 44)).alloc (.cells #[.string ⟨#[]⟩, .string ⟨#[111, 112, 101, 110]⟩, .string ⟨#[102, 101, 101, 100]⟩, .string ⟨#[104, 97, 110, 103]⟩, .string ⟨#[116, 105, 99, 107]⟩, .string ⟨#[100, 114, 97, 105, 110]⟩, .string ⟨#[99, 114, 97, 115, 104]⟩, .string ⟨#[115, 116, 97, 114, 116]⟩] 9)) := (Below.refl _ _).alloc (Nat.le_refl _) _
  have X0 := hide (XB.out.kept (P := fun _ => False) (Kept.ofBelow bal) (fun h => h))
  have B0 := hide (HB.out.trans (bal.mono HB.out.size))
  clear bal
  have sc := itoa_short hc.1 hc.2
  have sd := dataW_len data
  go_enter Tryd.func41, Tryd.ntmps41
  go_wp2_with fail
  refine (refPrint_any conn _ (by unfold maxWord at hc; omega) (by unfold maxWord at hc; omega)).mono ?_
  rintro e w1 ⟨rfl, b⟩
  have XB1 := hide (X0.out.kept (P := fun _ => False) (Kept.ofBelow b) (fun h => h))
  have HB1 := hide (B0.out.trans (b.mono B0.out.size))
  clear b
  obtain ⟨a0, a1, a2, a3, a4, _⟩ := XB1.out.cells
  have X1 := XB1
  have B1 := HB1
  go_wp2_with fail
  refine (refWritten_any _ ad cd data (HD.out.below B1.out) hdl).mono ?_
  rintro e w2 ⟨rfl, b⟩
  have XB2 := hide (X1.out.kept (P := fun _ => False) (Kept.ofBelow b) (fun h => h))
  have HB2 := hide (B1.out.trans (b.mono B1.out.size))
  clear b
  clear a0 a1 a2 a3 a4
  obtain ⟨a0, a1, a2, a3, a4, _⟩ := XB2.out.cells
  have X2 := XB2
  have B2 := HB2
  go_wp2_with fail
  generalize hS1 : ((⟨#[102, 101, 101, 100]⟩ : ByteArray) ++ (⟨#[32]⟩ : ByteArray)) = S1
  have HS1 : S1.data.toList = [102, 101, 101, 100, 32] := by rw [← hS1]; rfl
  have HS2 := hide HS1
  have zS1 : S1.size = 5 := by rw [← hS1]; rfl
  clear hS1 HS1
  go_loopg [3, 4] 0 (fun gk v i wr => ∃ (x : ByteArray), i = .int .i64 0 ∧ v = .string x ∧ Hid (StepBox wr W.heap.size 2 conn 0 (.slice ad data.length cd) (.slice ak 0 ck)) ∧ Hid (Below W.heap.size W wr) ∧ Hid (x.data.toList = (wordP 2) ++ (32 :: printL conn) ++ (32 :: dataW data)) ∧ x.size ≤ 8388608)
  case atStart =>
    refine ⟨_, rfl, rfl, X2, B2, ?_, ?_⟩
    · show _ = _
      simp [ByteArray.data_append, wordP, dataW, HS2.out]
    · first | decide | (simp [ByteArray.size_append, bsz]; omega)
  case round =>
    obtain ⟨x, rfl, rfl, XR, BR, HX, hxs⟩ := hrel
    clear a0 a1 a2 a3 a4
    obtain ⟨a0, a1, a2, a3, a4, _⟩ := XR.out.cells
    go_wp2_with fail
    go_ret
    refine ⟨BR.out, _, rfl, ?_, .inl ?_⟩
    · simp [ByteArray.size_append, bsz]
      omega
    · rw [HL.out]
      simp [ByteArray.data_append, HX.out]
set_option maxHeartbeats 8000000 in
set_option maxRecDepth 1000000 in
theorem ln_210 (W : World) (conn brk : Int) (data : List UInt8) (ad ak : Option Addr) (cd ck : Nat) (hc : 0 ≤ conn ∧ conn ≤ maxWord) (hd : IsBytes W ad cd data) (hdl : data.length ≤ 1048576) (hb : 0 < brk ∧ brk ≤ maxWord) (L : Tx) (hL : L = (wordP 2) ++ (32 :: printL conn) ++ (32 :: dataW data) ++ ([32, 98, 114, 101, 97, 107, 32] ++ printL brk) ++ [10]) :
    Calls Tryd.prog 41 #[.agg #[.int .i64 2, .int .i64 conn, .slice ad data.length cd, .int .i64 brk, .slice ak 0 ck]] W (LinePost W L) := by
  have HL := hide hL
  have HB : Hid (Below W.heap.size W (W.alloc (.cells #[.int .i64 2, .int .i64 conn, .slice ad data.length cd, .int .i64 brk, .slice ak 0 ck] 44))) := (Below.refl _ W).alloc (Nat.le_refl _) _
  have XB : Hid (StepBox (W.alloc (.cells #[.int .i64 2, .int .i64 conn, .slice ad data.length cd, .int .i64 brk, .slice ak 0 ck] 44)) W.heap.size 2 conn brk (.slice ad data.length cd) (.slice ak 0 ck)) := heap_alloc_new W _
  have HD := hide hd
  clear hd
  clear hL
  have bal : Below (W.alloc (.cells #[.int .i64 2, .int .i64 conn, .slice ad data.length cd, .int .i64 brk, .slice ak 0 ck] 44)).heap.size (W.alloc (.cells #[.int .i64 2, .int .i64 conn, .slice ad data.length cd, .int .i64 brk, .slice ak 0 ck] 44)) ((W.alloc (.cells #[.int .i64 2, .int .i64 conn, .slice ad data.length cd, .int .i64 brk, .slice ak 0 ck] 44)).alloc (.cells #[.string ⟨#[]⟩, .string ⟨#[111, 112, 101, 110]⟩, .string ⟨#[102, 101, 101, 100]⟩, .string ⟨#[104, 97, 110, 103]⟩, .string ⟨#[116, 105, 99, 107]⟩, .string ⟨#[100, 114, 97, 105, 110]⟩, .string ⟨#[99, 114, 97, 115, 104]⟩, .string ⟨#[115, 116, 97, 114, 116]⟩] 9)) := (Below.refl _ _).alloc (Nat.le_refl _) _
  have X0 := hide (XB.out.kept (P := fun _ => False) (Kept.ofBelow bal) (fun h => h))
  have B0 := hide (HB.out.trans (bal.mono HB.out.size))
  clear bal
  have sc := itoa_short hc.1 hc.2
  have sb := itoa_short (show 0 ≤ brk by omega) hb.2
  have sd := dataW_len data
  go_enter Tryd.func41, Tryd.ntmps41
  go_wp2_with fail
  refine (refPrint_any conn _ (by unfold maxWord at hc; omega) (by unfold maxWord at hc; omega)).mono ?_
  rintro e w1 ⟨rfl, b⟩
  have XB1 := hide (X0.out.kept (P := fun _ => False) (Kept.ofBelow b) (fun h => h))
  have HB1 := hide (B0.out.trans (b.mono B0.out.size))
  clear b
  obtain ⟨a0, a1, a2, a3, a4, _⟩ := XB1.out.cells
  have X1 := XB1
  have B1 := HB1
  go_wp2_with fail
  refine (refWritten_any _ ad cd data (HD.out.below B1.out) hdl).mono ?_
  rintro e w2 ⟨rfl, b⟩
  have XB2 := hide (X1.out.kept (P := fun _ => False) (Kept.ofBelow b) (fun h => h))
  have HB2 := hide (B1.out.trans (b.mono B1.out.size))
  clear b
  clear a0 a1 a2 a3 a4
  obtain ⟨a0, a1, a2, a3, a4, _⟩ := XB2.out.cells
  have X2 := XB2
  have B2 := HB2
  go_wp2_with fail
  refine (refPrint_any brk _ (by unfold maxWord at hb; omega) (by unfold maxWord at hb; omega)).mono ?_
  rintro e w3 ⟨rfl, b⟩
  have XB3 := hide (X2.out.kept (P := fun _ => False) (Kept.ofBelow b) (fun h => h))
  have HB3 := hide (B2.out.trans (b.mono B2.out.size))
  clear b
  clear a0 a1 a2 a3 a4
  obtain ⟨a0, a1, a2, a3, a4, _⟩ := XB3.out.cells
  have X3 := XB3
  have B3 := HB3
  go_wp2_with fail
  generalize hS1 : ((⟨#[102, 101, 101, 100]⟩ : ByteArray) ++ (⟨#[32]⟩ : ByteArray)) = S1
  have HS1 : S1.data.toList = [102, 101, 101, 100, 32] := by rw [← hS1]; rfl
  have HS2 := hide HS1
  have zS1 : S1.size = 5 := by rw [← hS1]; rfl
  clear hS1 HS1
  go_loopg [3, 4] 0 (fun gk v i wr => ∃ (x : ByteArray), i = .int .i64 0 ∧ v = .string x ∧ Hid (StepBox wr W.heap.size 2 conn brk (.slice ad data.length cd) (.slice ak 0 ck)) ∧ Hid (Below W.heap.size W wr) ∧ Hid (x.data.toList = (wordP 2) ++ (32 :: printL conn) ++ (32 :: dataW data) ++ ([32, 98, 114, 101, 97, 107, 32] ++ printL brk)) ∧ x.size ≤ 8388608)
  case atStart =>
    refine ⟨_, rfl, rfl, X3, B3, ?_, ?_⟩
    · show _ = _
      simp [ByteArray.data_append, wordP, dataW, HS2.out]
    · first | decide | (simp [ByteArray.size_append, bsz]; omega)
  case round =>
    obtain ⟨x, rfl, rfl, XR, BR, HX, hxs⟩ := hrel
    clear a0 a1 a2 a3 a4
    obtain ⟨a0, a1, a2, a3, a4, _⟩ := XR.out.cells
    go_wp2_with fail
    go_ret
    refine ⟨BR.out, _, rfl, ?_, .inl ?_⟩
    · simp [ByteArray.size_append, bsz]
      omega
    · rw [HL.out]
      simp [ByteArray.data_append, HX.out]
set_option maxHeartbeats 8000000 in
set_option maxRecDepth 1000000 in
theorem ln_211 (W : World) (conn brk : Int) (data : List UInt8) (ad ak : Option Addr) (cd ck : Nat) (ks : List Int) (hI : IsInts W ak ck ks) (hn : ∀ n ∈ ks, 0 ≤ n ∧ n ≤ maxWord) (hke : ks ≠ []) (hc : 0 ≤ conn ∧ conn ≤ maxWord) (hd : IsBytes W ad cd data) (hdl : data.length ≤ 1048576) (hb : 0 < brk ∧ brk ≤ maxWord) (L : Tx) (hL : L = (wordP 2) ++ (32 :: printL conn) ++ (32 :: dataW data) ++ ([32, 98, 114, 101, 97, 107, 32] ++ printL brk) ++ ([32, 107, 101, 101, 112]) ++ ks.flatMap (32 :: printL ·) ++ [10]) :
    Calls Tryd.prog 41 #[.agg #[.int .i64 2, .int .i64 conn, .slice ad data.length cd, .int .i64 brk, .slice ak ks.length ck]] W (LinePost W L) := by
  have HL := hide hL
  have HB : Hid (Below W.heap.size W (W.alloc (.cells #[.int .i64 2, .int .i64 conn, .slice ad data.length cd, .int .i64 brk, .slice ak ks.length ck] 44))) := (Below.refl _ W).alloc (Nat.le_refl _) _
  have XB : Hid (StepBox (W.alloc (.cells #[.int .i64 2, .int .i64 conn, .slice ad data.length cd, .int .i64 brk, .slice ak ks.length ck] 44)) W.heap.size 2 conn brk (.slice ad data.length cd) (.slice ak ks.length ck)) := heap_alloc_new W _
  have HI := hide hI
  have HN := hide hn
  have hkl : ks.length ≤ 9223372036854775807 := by have := hI.2.1; unfold maxLen at this; omega
  have hke1 : 0 < ks.length := List.length_pos_iff.2 hke
  have hke0 : (0 : Int) < (ks.length : Int) := by omega
  clear hI hn hke
  have HD := hide hd
  clear hd
  clear hL
  have bal : Below (W.alloc (.cells #[.int .i64 2, .int .i64 conn, .slice ad data.length cd, .int .i64 brk, .slice ak ks.length ck] 44)).heap.size (W.alloc (.cells #[.int .i64 2, .int .i64 conn, .slice ad data.length cd, .int .i64 brk, .slice ak ks.length ck] 44)) ((W.alloc (.cells #[.int .i64 2, .int .i64 conn, .slice ad data.length cd, .int .i64 brk, .slice ak ks.length ck] 44)).alloc (.cells #[.string ⟨#[]⟩, .string ⟨#[111, 112, 101, 110]⟩, .string ⟨#[102, 101, 101, 100]⟩, .string ⟨#[104, 97, 110, 103]⟩, .string ⟨#[116, 105, 99, 107]⟩, .string ⟨#[100, 114, 97, 105, 110]⟩, .string ⟨#[99, 114, 97, 115, 104]⟩, .string ⟨#[115, 116, 97, 114, 116]⟩] 9)) := (Below.refl _ _).alloc (Nat.le_refl _) _
  have X0 := hide (XB.out.kept (P := fun _ => False) (Kept.ofBelow bal) (fun h => h))
  have B0 := hide (HB.out.trans (bal.mono HB.out.size))
  clear bal
  have sc := itoa_short hc.1 hc.2
  have sb := itoa_short (show 0 ≤ brk by omega) hb.2
  have sd := dataW_len data
  go_enter Tryd.func41, Tryd.ntmps41
  go_wp2_with fail
  refine (refPrint_any conn _ (by unfold maxWord at hc; omega) (by unfold maxWord at hc; omega)).mono ?_
  rintro e w1 ⟨rfl, b⟩
  have XB1 := hide (X0.out.kept (P := fun _ => False) (Kept.ofBelow b) (fun h => h))
  have HB1 := hide (B0.out.trans (b.mono B0.out.size))
  clear b
  obtain ⟨a0, a1, a2, a3, a4, _⟩ := XB1.out.cells
  have X1 := XB1
  have B1 := HB1
  go_wp2_with fail
  refine (refWritten_any _ ad cd data (HD.out.below B1.out) hdl).mono ?_
  rintro e w2 ⟨rfl, b⟩
  have XB2 := hide (X1.out.kept (P := fun _ => False) (Kept.ofBelow b) (fun h => h))
  have HB2 := hide (B1.out.trans (b.mono B1.out.size))
  clear b
  clear a0 a1 a2 a3 a4
  obtain ⟨a0, a1, a2, a3, a4, _⟩ := XB2.out.cells
  have X2 := XB2
  have B2 := HB2
  go_wp2_with fail
  refine (refPrint_any brk _ (by unfold maxWord at hb; omega) (by unfold maxWord at hb; omega)).mono ?_
  rintro e w3 ⟨rfl, b⟩
  have XB3 := hide (X2.out.kept (P := fun _ => False) (Kept.ofBelow b) (fun h => h))
  have HB3 := hide (B2.out.trans (b.mono B2.out.size))
  clear b
  clear a0 a1 a2 a3 a4
  obtain ⟨a0, a1, a2, a3, a4, _⟩ := XB3.out.cells
  have X3 := XB3
  have B3 := HB3
  go_wp2_with fail
  generalize hS1 : ((⟨#[102, 101, 101, 100]⟩ : ByteArray) ++ (⟨#[32]⟩ : ByteArray)) = S1
  have HS1 : S1.data.toList = [102, 101, 101, 100, 32] := by rw [← hS1]; rfl
  have HS2 := hide HS1
  have zS1 : S1.size = 5 := by rw [← hS1]; rfl
  clear hS1 HS1
  go_loopg [3, 4] ks.length (fun gk v i wr => ∃ (j : Nat) (x : ByteArray), i = .int .i64 (j : Int) ∧ v = .string x ∧ ks.length - j ≤ gk ∧ j ≤ ks.length ∧ Hid (StepBox wr W.heap.size 2 conn brk (.slice ad data.length cd) (.slice ak ks.length ck)) ∧ Hid (Below W.heap.size W wr) ∧ Hid (x.data.toList = (wordP 2) ++ (32 :: printL conn) ++ (32 :: dataW data) ++ ([32, 98, 114, 101, 97, 107, 32] ++ printL brk) ++ ([32, 107, 101, 101, 112]) ++ (ks.take j).flatMap (32 :: printL ·)) ∧ x.size ≤ 8388608)
  case atStart =>
    refine ⟨0, _, rfl, rfl, by omega, by omega, X3, B3, ?_, ?_⟩
    · show _ = _
      simp [ByteArray.data_append, wordP, dataW, HS2.out]
    · first | omega | (simp [ByteArray.size_append, bsz]; done) | (simp [ByteArray.size_append, bsz]; omega)
  case round =>
    obtain ⟨j, x, rfl, rfl, hgk, hj, XR, BR, HX, hxs⟩ := hrel
    clear a0 a1 a2 a3 a4
    obtain ⟨a0, a1, a2, a3, a4, _⟩ := XR.out.cells
    by_cases hlt : j < ks.length
    · have tlt : (j : Int) < (ks.length : Int) := by omega
      by_cases hm : x.size ≤ 1048576
      · have tm : (x.size : Int) ≤ 1048576 := by omega
        obtain ⟨y, hy⟩ : ∃ y, ks[j]? = some y := ⟨_, List.getElem?_eq_getElem hlt⟩
        rcases HI.out.2.2 with h0 | ⟨bq, oq, e, hbq, hcq⟩
        · rw [h0] at hlt; simp at hlt
        subst e
        have cy := (BR.out.cell (p := ⟨bq, oq + j, none⟩) hbq).trans (hcq j y hy)
        have hyb := HN.out y (List.mem_of_getElem? hy)
        have sy := itoa_short hyb.1 hyb.2
        have HF := hide (take_flat (32 :: printL ·) ks j y hy)
        clear hy hcq
        go_wp2_with fail
        refine (refPrint_any y wr (by have := hyb.1; omega) (by have := hyb.2; unfold maxWord at this; omega)).mono ?_
        rintro e w8 ⟨rfl, b8⟩
        have X8 := hide (XR.out.kept (P := fun _ => False) (Kept.ofBelow b8) (fun h => h))
        have B8 := hide (BR.out.trans (b8.mono BR.out.size))
        clear b8 cy
        go_wp2_with fail
        go_roundg (ks.length - (j + 1))
        case measure => omega
        case rel =>
          refine ⟨j + 1, x ++ ⟨#[32]⟩ ++ ⟨(printL y).toArray⟩, by go_num, rfl, Nat.le_refl _, hlt, X8, B8, ?_, ?_⟩
          · show _ = _
            rw [HF.out]
            simp [ByteArray.data_append, HX.out]
          · simp [ByteArray.size_append, bsz]
            omega
      · have tm : ¬ (x.size : Int) ≤ 1048576 := by omega
        have hbig : Hid (1048576 < L.length) := by
          have h1 := flat_le (32 :: printL ·) ks j
          have h2 := congrArg List.length HX.out
          rw [List.length_append] at h2
          have h3 : x.data.toList.length = x.size := by simp
          show _ < _
          rw [HL.out]
          simp only [List.length_append, List.length_cons, List.length_nil] at h1 h2 h3 ⊢
          omega
        go_wp2_with fail
        go_ret
        refine ⟨BR.out, _, rfl, ?_, .inr ⟨?_, hbig.out⟩⟩
        · simp [ByteArray.size_append, bsz]
          omega
        · simp [ByteArray.size_append, bsz]
          omega
    · have tlt : ¬ (j : Int) < (ks.length : Int) := by omega
      have e9 : ks.take j = ks := List.take_of_length_le (by omega)
      rw [e9] at HX
      clear e9
      go_wp2_with fail
      go_ret
      refine ⟨BR.out, _, rfl, ?_, .inl ?_⟩
      · simp [ByteArray.size_append, bsz]
        omega
      · rw [HL.out]
        simp [ByteArray.data_append, HX.out]
end Go.Proofs.YtpfbfkjmdlogcaaDoor

set_option linter.unusedSimpArgs false
namespace Go.Proofs.YtpfbfkjmdlogcaaDoor
open Go.RowKit

set_option maxHeartbeats 8000000 in
set_option maxRecDepth 1000000 in
theorem ln_300 (W : World) (conn : Int) (data : List UInt8) (ad ak : Option Addr) (cd ck : Nat) (hc : 0 ≤ conn ∧ conn ≤ maxWord) (L : Tx) (hL : L = (wordP 3) ++ (32 :: printL conn) ++ [10]) :
    Calls Tryd.prog 41 #[.agg #[.int .i64 3, .int .i64 conn, .slice ad data.length cd, .int .i64 0, .slice ak 0 ck]] W (LinePost W L) := by
  have HL := hide hL
  have HB : Hid (Below W.heap.size W (W.alloc (.cells #[.int .i64 3, .int .i64 conn, .slice ad data.length cd, .int .i64 0, .slice ak 0 ck] 44))) := (Below.refl _ W).alloc (Nat.le_refl _) _
  have XB : Hid (StepBox (W.alloc (.cells #[.int .i64 3, .int .i64 conn, .slice ad data.length cd, .int .i64 0, .slice ak 0 ck] 44)) W.heap.size 3 conn 0 (.slice ad data.length cd) (.slice ak 0 ck)) := heap_alloc_new W _
  clear hL
  have bal : Below (W.alloc (.cells #[.int .i64 3, .int .i64 conn, .slice ad data.length cd, .int .i64 0, .slice ak 0 ck] 44)).heap.size (W.alloc (.cells #[.int .i64 3, .int .i64 conn, .slice ad data.length cd, .int .i64 0, .slice ak 0 ck] 44)) ((W.alloc (.cells #[.int .i64 3, .int .i64 conn, .slice ad data.length cd, .int .i64 0, .slice ak 0 ck] 44)).alloc (.cells #[.string ⟨#[]⟩, .string ⟨#[111, 112, 101, 110]⟩, .string ⟨#[102, 101, 101, 100]⟩, .string ⟨#[104, 97, 110, 103]⟩, .string ⟨#[116, 105, 99, 107]⟩, .string ⟨#[100, 114, 97, 105, 110]⟩, .string ⟨#[99, 114, 97, 115, 104]⟩, .string ⟨#[115, 116, 97, 114, 116]⟩] 9)) := (Below.refl _ _).alloc (Nat.le_refl _) _
  have X0 := hide (XB.out.kept (P := fun _ => False) (Kept.ofBelow bal) (fun h => h))
  have B0 := hide (HB.out.trans (bal.mono HB.out.size))
  clear bal
  have sc := itoa_short hc.1 hc.2
  go_enter Tryd.func41, Tryd.ntmps41
  go_wp2_with fail
  refine (refPrint_any conn _ (by unfold maxWord at hc; omega) (by unfold maxWord at hc; omega)).mono ?_
  rintro e w1 ⟨rfl, b⟩
  have XB1 := hide (X0.out.kept (P := fun _ => False) (Kept.ofBelow b) (fun h => h))
  have HB1 := hide (B0.out.trans (b.mono B0.out.size))
  clear b
  obtain ⟨a0, a1, a2, a3, a4, _⟩ := XB1.out.cells
  have X1 := XB1
  have B1 := HB1
  go_wp2_with fail
  generalize hS1 : ((⟨#[104, 97, 110, 103]⟩ : ByteArray) ++ (⟨#[32]⟩ : ByteArray)) = S1
  have HS1 : S1.data.toList = [104, 97, 110, 103, 32] := by rw [← hS1]; rfl
  have HS2 := hide HS1
  have zS1 : S1.size = 5 := by rw [← hS1]; rfl
  clear hS1 HS1
  go_loopg [3, 4] 0 (fun gk v i wr => ∃ (x : ByteArray), i = .int .i64 0 ∧ v = .string x ∧ Hid (StepBox wr W.heap.size 3 conn 0 (.slice ad data.length cd) (.slice ak 0 ck)) ∧ Hid (Below W.heap.size W wr) ∧ Hid (x.data.toList = (wordP 3) ++ (32 :: printL conn)) ∧ x.size ≤ 8388608)
  case atStart =>
    refine ⟨_, rfl, rfl, X1, B1, ?_, ?_⟩
    · show _ = _
      simp [ByteArray.data_append, wordP, dataW, HS2.out]
    · first | decide | (simp [ByteArray.size_append, bsz]; omega)
  case round =>
    obtain ⟨x, rfl, rfl, XR, BR, HX, hxs⟩ := hrel
    clear a0 a1 a2 a3 a4
    obtain ⟨a0, a1, a2, a3, a4, _⟩ := XR.out.cells
    go_wp2_with fail
    go_ret
    refine ⟨BR.out, _, rfl, ?_, .inl ?_⟩
    · simp [ByteArray.size_append, bsz]
      omega
    · rw [HL.out]
      simp [ByteArray.data_append, HX.out]
set_option maxHeartbeats 8000000 in
set_option maxRecDepth 1000000 in
theorem ln_310 (W : World) (conn brk : Int) (data : List UInt8) (ad ak : Option Addr) (cd ck : Nat) (hc : 0 ≤ conn ∧ conn ≤ maxWord) (hb : 0 < brk ∧ brk ≤ maxWord) (L : Tx) (hL : L = (wordP 3) ++ (32 :: printL conn) ++ ([32, 98, 114, 101, 97, 107, 32] ++ printL brk) ++ [10]) :
    Calls Tryd.prog 41 #[.agg #[.int .i64 3, .int .i64 conn, .slice ad data.length cd, .int .i64 brk, .slice ak 0 ck]] W (LinePost W L) := by
  have HL := hide hL
  have HB : Hid (Below W.heap.size W (W.alloc (.cells #[.int .i64 3, .int .i64 conn, .slice ad data.length cd, .int .i64 brk, .slice ak 0 ck] 44))) := (Below.refl _ W).alloc (Nat.le_refl _) _
  have XB : Hid (StepBox (W.alloc (.cells #[.int .i64 3, .int .i64 conn, .slice ad data.length cd, .int .i64 brk, .slice ak 0 ck] 44)) W.heap.size 3 conn brk (.slice ad data.length cd) (.slice ak 0 ck)) := heap_alloc_new W _
  clear hL
  have bal : Below (W.alloc (.cells #[.int .i64 3, .int .i64 conn, .slice ad data.length cd, .int .i64 brk, .slice ak 0 ck] 44)).heap.size (W.alloc (.cells #[.int .i64 3, .int .i64 conn, .slice ad data.length cd, .int .i64 brk, .slice ak 0 ck] 44)) ((W.alloc (.cells #[.int .i64 3, .int .i64 conn, .slice ad data.length cd, .int .i64 brk, .slice ak 0 ck] 44)).alloc (.cells #[.string ⟨#[]⟩, .string ⟨#[111, 112, 101, 110]⟩, .string ⟨#[102, 101, 101, 100]⟩, .string ⟨#[104, 97, 110, 103]⟩, .string ⟨#[116, 105, 99, 107]⟩, .string ⟨#[100, 114, 97, 105, 110]⟩, .string ⟨#[99, 114, 97, 115, 104]⟩, .string ⟨#[115, 116, 97, 114, 116]⟩] 9)) := (Below.refl _ _).alloc (Nat.le_refl _) _
  have X0 := hide (XB.out.kept (P := fun _ => False) (Kept.ofBelow bal) (fun h => h))
  have B0 := hide (HB.out.trans (bal.mono HB.out.size))
  clear bal
  have sc := itoa_short hc.1 hc.2
  have sb := itoa_short (show 0 ≤ brk by omega) hb.2
  go_enter Tryd.func41, Tryd.ntmps41
  go_wp2_with fail
  refine (refPrint_any conn _ (by unfold maxWord at hc; omega) (by unfold maxWord at hc; omega)).mono ?_
  rintro e w1 ⟨rfl, b⟩
  have XB1 := hide (X0.out.kept (P := fun _ => False) (Kept.ofBelow b) (fun h => h))
  have HB1 := hide (B0.out.trans (b.mono B0.out.size))
  clear b
  obtain ⟨a0, a1, a2, a3, a4, _⟩ := XB1.out.cells
  have X1 := XB1
  have B1 := HB1
  go_wp2_with fail
  refine (refPrint_any brk _ (by unfold maxWord at hb; omega) (by unfold maxWord at hb; omega)).mono ?_
  rintro e w2 ⟨rfl, b⟩
  have XB2 := hide (X1.out.kept (P := fun _ => False) (Kept.ofBelow b) (fun h => h))
  have HB2 := hide (B1.out.trans (b.mono B1.out.size))
  clear b
  clear a0 a1 a2 a3 a4
  obtain ⟨a0, a1, a2, a3, a4, _⟩ := XB2.out.cells
  have X2 := XB2
  have B2 := HB2
  go_wp2_with fail
  generalize hS1 : ((⟨#[104, 97, 110, 103]⟩ : ByteArray) ++ (⟨#[32]⟩ : ByteArray)) = S1
  have HS1 : S1.data.toList = [104, 97, 110, 103, 32] := by rw [← hS1]; rfl
  have HS2 := hide HS1
  have zS1 : S1.size = 5 := by rw [← hS1]; rfl
  clear hS1 HS1
  go_loopg [3, 4] 0 (fun gk v i wr => ∃ (x : ByteArray), i = .int .i64 0 ∧ v = .string x ∧ Hid (StepBox wr W.heap.size 3 conn brk (.slice ad data.length cd) (.slice ak 0 ck)) ∧ Hid (Below W.heap.size W wr) ∧ Hid (x.data.toList = (wordP 3) ++ (32 :: printL conn) ++ ([32, 98, 114, 101, 97, 107, 32] ++ printL brk)) ∧ x.size ≤ 8388608)
  case atStart =>
    refine ⟨_, rfl, rfl, X2, B2, ?_, ?_⟩
    · show _ = _
      simp [ByteArray.data_append, wordP, dataW, HS2.out]
    · first | decide | (simp [ByteArray.size_append, bsz]; omega)
  case round =>
    obtain ⟨x, rfl, rfl, XR, BR, HX, hxs⟩ := hrel
    clear a0 a1 a2 a3 a4
    obtain ⟨a0, a1, a2, a3, a4, _⟩ := XR.out.cells
    go_wp2_with fail
    go_ret
    refine ⟨BR.out, _, rfl, ?_, .inl ?_⟩
    · simp [ByteArray.size_append, bsz]
      omega
    · rw [HL.out]
      simp [ByteArray.data_append, HX.out]
set_option maxHeartbeats 8000000 in
set_option maxRecDepth 1000000 in
theorem ln_311 (W : World) (conn brk : Int) (data : List UInt8) (ad ak : Option Addr) (cd ck : Nat) (ks : List Int) (hI : IsInts W ak ck ks) (hn : ∀ n ∈ ks, 0 ≤ n ∧ n ≤ maxWord) (hke : ks ≠ []) (hc : 0 ≤ conn ∧ conn ≤ maxWord) (hb : 0 < brk ∧ brk ≤ maxWord) (L : Tx) (hL : L = (wordP 3) ++ (32 :: printL conn) ++ ([32, 98, 114, 101, 97, 107, 32] ++ printL brk) ++ ([32, 107, 101, 101, 112]) ++ ks.flatMap (32 :: printL ·) ++ [10]) :
    Calls Tryd.prog 41 #[.agg #[.int .i64 3, .int .i64 conn, .slice ad data.length cd, .int .i64 brk, .slice ak ks.length ck]] W (LinePost W L) := by
  have HL := hide hL
  have HB : Hid (Below W.heap.size W (W.alloc (.cells #[.int .i64 3, .int .i64 conn, .slice ad data.length cd, .int .i64 brk, .slice ak ks.length ck] 44))) := (Below.refl _ W).alloc (Nat.le_refl _) _
  have XB : Hid (StepBox (W.alloc (.cells #[.int .i64 3, .int .i64 conn, .slice ad data.length cd, .int .i64 brk, .slice ak ks.length ck] 44)) W.heap.size 3 conn brk (.slice ad data.length cd) (.slice ak ks.length ck)) := heap_alloc_new W _
  have HI := hide hI
  have HN := hide hn
  have hkl : ks.length ≤ 9223372036854775807 := by have := hI.2.1; unfold maxLen at this; omega
  have hke1 : 0 < ks.length := List.length_pos_iff.2 hke
  have hke0 : (0 : Int) < (ks.length : Int) := by omega
  clear hI hn hke
  clear hL
  have bal : Below (W.alloc (.cells #[.int .i64 3, .int .i64 conn, .slice ad data.length cd, .int .i64 brk, .slice ak ks.length ck] 44)).heap.size (W.alloc (.cells #[.int .i64 3, .int .i64 conn, .slice ad data.length cd, .int .i64 brk, .slice ak ks.length ck] 44)) ((W.alloc (.cells #[.int .i64 3, .int .i64 conn, .slice ad data.length cd, .int .i64 brk, .slice ak ks.length ck] 44)).alloc (.cells #[.string ⟨#[]⟩, .string ⟨#[111, 112, 101, 110]⟩, .string ⟨#[102, 101, 101, 100]⟩, .string ⟨#[104, 97, 110, 103]⟩, .string ⟨#[116, 105, 99, 107]⟩, .string ⟨#[100, 114, 97, 105, 110]⟩, .string ⟨#[99, 114, 97, 115, 104]⟩, .string ⟨#[115, 116, 97, 114, 116]⟩] 9)) := (Below.refl _ _).alloc (Nat.le_refl _) _
  have X0 := hide (XB.out.kept (P := fun _ => False) (Kept.ofBelow bal) (fun h => h))
  have B0 := hide (HB.out.trans (bal.mono HB.out.size))
  clear bal
  have sc := itoa_short hc.1 hc.2
  have sb := itoa_short (show 0 ≤ brk by omega) hb.2
  go_enter Tryd.func41, Tryd.ntmps41
  go_wp2_with fail
  refine (refPrint_any conn _ (by unfold maxWord at hc; omega) (by unfold maxWord at hc; omega)).mono ?_
  rintro e w1 ⟨rfl, b⟩
  have XB1 := hide (X0.out.kept (P := fun _ => False) (Kept.ofBelow b) (fun h => h))
  have HB1 := hide (B0.out.trans (b.mono B0.out.size))
  clear b
  obtain ⟨a0, a1, a2, a3, a4, _⟩ := XB1.out.cells
  have X1 := XB1
  have B1 := HB1
  go_wp2_with fail
  refine (refPrint_any brk _ (by unfold maxWord at hb; omega) (by unfold maxWord at hb; omega)).mono ?_
  rintro e w2 ⟨rfl, b⟩
  have XB2 := hide (X1.out.kept (P := fun _ => False) (Kept.ofBelow b) (fun h => h))
  have HB2 := hide (B1.out.trans (b.mono B1.out.size))
  clear b
  clear a0 a1 a2 a3 a4
  obtain ⟨a0, a1, a2, a3, a4, _⟩ := XB2.out.cells
  have X2 := XB2
  have B2 := HB2
  go_wp2_with fail
  generalize hS1 : ((⟨#[104, 97, 110, 103]⟩ : ByteArray) ++ (⟨#[32]⟩ : ByteArray)) = S1
  have HS1 : S1.data.toList = [104, 97, 110, 103, 32] := by rw [← hS1]; rfl
  have HS2 := hide HS1
  have zS1 : S1.size = 5 := by rw [← hS1]; rfl
  clear hS1 HS1
  go_loopg [3, 4] ks.length (fun gk v i wr => ∃ (j : Nat) (x : ByteArray), i = .int .i64 (j : Int) ∧ v = .string x ∧ ks.length - j ≤ gk ∧ j ≤ ks.length ∧ Hid (StepBox wr W.heap.size 3 conn brk (.slice ad data.length cd) (.slice ak ks.length ck)) ∧ Hid (Below W.heap.size W wr) ∧ Hid (x.data.toList = (wordP 3) ++ (32 :: printL conn) ++ ([32, 98, 114, 101, 97, 107, 32] ++ printL brk) ++ ([32, 107, 101, 101, 112]) ++ (ks.take j).flatMap (32 :: printL ·)) ∧ x.size ≤ 8388608)
  case atStart =>
    refine ⟨0, _, rfl, rfl, by omega, by omega, X2, B2, ?_, ?_⟩
    · show _ = _
      simp [ByteArray.data_append, wordP, dataW, HS2.out]
    · first | omega | (simp [ByteArray.size_append, bsz]; done) | (simp [ByteArray.size_append, bsz]; omega)
  case round =>
    obtain ⟨j, x, rfl, rfl, hgk, hj, XR, BR, HX, hxs⟩ := hrel
    clear a0 a1 a2 a3 a4
    obtain ⟨a0, a1, a2, a3, a4, _⟩ := XR.out.cells
    by_cases hlt : j < ks.length
    · have tlt : (j : Int) < (ks.length : Int) := by omega
      by_cases hm : x.size ≤ 1048576
      · have tm : (x.size : Int) ≤ 1048576 := by omega
        obtain ⟨y, hy⟩ : ∃ y, ks[j]? = some y := ⟨_, List.getElem?_eq_getElem hlt⟩
        rcases HI.out.2.2 with h0 | ⟨bq, oq, e, hbq, hcq⟩
        · rw [h0] at hlt; simp at hlt
        subst e
        have cy := (BR.out.cell (p := ⟨bq, oq + j, none⟩) hbq).trans (hcq j y hy)
        have hyb := HN.out y (List.mem_of_getElem? hy)
        have sy := itoa_short hyb.1 hyb.2
        have HF := hide (take_flat (32 :: printL ·) ks j y hy)
        clear hy hcq
        go_wp2_with fail
        refine (refPrint_any y wr (by have := hyb.1; omega) (by have := hyb.2; unfold maxWord at this; omega)).mono ?_
        rintro e w8 ⟨rfl, b8⟩
        have X8 := hide (XR.out.kept (P := fun _ => False) (Kept.ofBelow b8) (fun h => h))
        have B8 := hide (BR.out.trans (b8.mono BR.out.size))
        clear b8 cy
        go_wp2_with fail
        go_roundg (ks.length - (j + 1))
        case measure => omega
        case rel =>
          refine ⟨j + 1, x ++ ⟨#[32]⟩ ++ ⟨(printL y).toArray⟩, by go_num, rfl, Nat.le_refl _, hlt, X8, B8, ?_, ?_⟩
          · show _ = _
            rw [HF.out]
            simp [ByteArray.data_append, HX.out]
          · simp [ByteArray.size_append, bsz]
            omega
      · have tm : ¬ (x.size : Int) ≤ 1048576 := by omega
        have hbig : Hid (1048576 < L.length) := by
          have h1 := flat_le (32 :: printL ·) ks j
          have h2 := congrArg List.length HX.out
          rw [List.length_append] at h2
          have h3 : x.data.toList.length = x.size := by simp
          show _ < _
          rw [HL.out]
          simp only [List.length_append, List.length_cons, List.length_nil] at h1 h2 h3 ⊢
          omega
        go_wp2_with fail
        go_ret
        refine ⟨BR.out, _, rfl, ?_, .inr ⟨?_, hbig.out⟩⟩
        · simp [ByteArray.size_append, bsz]
          omega
        · simp [ByteArray.size_append, bsz]
          omega
    · have tlt : ¬ (j : Int) < (ks.length : Int) := by omega
      have e9 : ks.take j = ks := List.take_of_length_le (by omega)
      rw [e9] at HX
      clear e9
      go_wp2_with fail
      go_ret
      refine ⟨BR.out, _, rfl, ?_, .inl ?_⟩
      · simp [ByteArray.size_append, bsz]
        omega
      · rw [HL.out]
        simp [ByteArray.data_append, HX.out]
end Go.Proofs.YtpfbfkjmdlogcaaDoor

set_option linter.unusedSimpArgs false
namespace Go.Proofs.YtpfbfkjmdlogcaaDoor
open Go.RowKit

set_option maxHeartbeats 8000000 in
set_option maxRecDepth 1000000 in
theorem ln_400 (W : World) (conn : Int) (data : List UInt8) (ad ak : Option Addr) (cd ck : Nat) (L : Tx) (hL : L = (wordP 4) ++ [10]) :
    Calls Tryd.prog 41 #[.agg #[.int .i64 4, .int .i64 conn, .slice ad data.length cd, .int .i64 0, .slice ak 0 ck]] W (LinePost W L) := by
  have HL := hide hL
  have HB : Hid (Below W.heap.size W (W.alloc (.cells #[.int .i64 4, .int .i64 conn, .slice ad data.length cd, .int .i64 0, .slice ak 0 ck] 44))) := (Below.refl _ W).alloc (Nat.le_refl _) _
  have XB : Hid (StepBox (W.alloc (.cells #[.int .i64 4, .int .i64 conn, .slice ad data.length cd, .int .i64 0, .slice ak 0 ck] 44)) W.heap.size 4 conn 0 (.slice ad data.length cd) (.slice ak 0 ck)) := heap_alloc_new W _
  clear hL
  have bal : Below (W.alloc (.cells #[.int .i64 4, .int .i64 conn, .slice ad data.length cd, .int .i64 0, .slice ak 0 ck] 44)).heap.size (W.alloc (.cells #[.int .i64 4, .int .i64 conn, .slice ad data.length cd, .int .i64 0, .slice ak 0 ck] 44)) ((W.alloc (.cells #[.int .i64 4, .int .i64 conn, .slice ad data.length cd, .int .i64 0, .slice ak 0 ck] 44)).alloc (.cells #[.string ⟨#[]⟩, .string ⟨#[111, 112, 101, 110]⟩, .string ⟨#[102, 101, 101, 100]⟩, .string ⟨#[104, 97, 110, 103]⟩, .string ⟨#[116, 105, 99, 107]⟩, .string ⟨#[100, 114, 97, 105, 110]⟩, .string ⟨#[99, 114, 97, 115, 104]⟩, .string ⟨#[115, 116, 97, 114, 116]⟩] 9)) := (Below.refl _ _).alloc (Nat.le_refl _) _
  have X0 := hide (XB.out.kept (P := fun _ => False) (Kept.ofBelow bal) (fun h => h))
  have B0 := hide (HB.out.trans (bal.mono HB.out.size))
  clear bal
  go_enter Tryd.func41, Tryd.ntmps41
  obtain ⟨a0, a1, a2, a3, a4, _⟩ := X0.out.cells
  go_wp2_with fail
  go_loopg [3, 4] 0 (fun gk v i wr => ∃ (x : ByteArray), i = .int .i64 0 ∧ v = .string x ∧ Hid (StepBox wr W.heap.size 4 conn 0 (.slice ad data.length cd) (.slice ak 0 ck)) ∧ Hid (Below W.heap.size W wr) ∧ Hid (x.data.toList = (wordP 4)) ∧ x.size ≤ 8388608)
  case atStart =>
    refine ⟨_, rfl, rfl, X0, B0, ?_, ?_⟩
    · show _ = _
      simp [ByteArray.data_append, wordP, dataW]
    · first | decide | (simp [ByteArray.size_append, bsz]; omega)
  case round =>
    obtain ⟨x, rfl, rfl, XR, BR, HX, hxs⟩ := hrel
    clear a0 a1 a2 a3 a4
    obtain ⟨a0, a1, a2, a3, a4, _⟩ := XR.out.cells
    go_wp2_with fail
    go_ret
    refine ⟨BR.out, _, rfl, ?_, .inl ?_⟩
    · simp [ByteArray.size_append, bsz]
      omega
    · rw [HL.out]
      simp [ByteArray.data_append, HX.out]
set_option maxHeartbeats 8000000 in
set_option maxRecDepth 1000000 in
theorem ln_410 (W : World) (conn brk : Int) (data : List UInt8) (ad ak : Option Addr) (cd ck : Nat) (hb : 0 < brk ∧ brk ≤ maxWord) (L : Tx) (hL : L = (wordP 4) ++ ([32, 98, 114, 101, 97, 107, 32] ++ printL brk) ++ [10]) :
    Calls Tryd.prog 41 #[.agg #[.int .i64 4, .int .i64 conn, .slice ad data.length cd, .int .i64 brk, .slice ak 0 ck]] W (LinePost W L) := by
  have HL := hide hL
  have HB : Hid (Below W.heap.size W (W.alloc (.cells #[.int .i64 4, .int .i64 conn, .slice ad data.length cd, .int .i64 brk, .slice ak 0 ck] 44))) := (Below.refl _ W).alloc (Nat.le_refl _) _
  have XB : Hid (StepBox (W.alloc (.cells #[.int .i64 4, .int .i64 conn, .slice ad data.length cd, .int .i64 brk, .slice ak 0 ck] 44)) W.heap.size 4 conn brk (.slice ad data.length cd) (.slice ak 0 ck)) := heap_alloc_new W _
  clear hL
  have bal : Below (W.alloc (.cells #[.int .i64 4, .int .i64 conn, .slice ad data.length cd, .int .i64 brk, .slice ak 0 ck] 44)).heap.size (W.alloc (.cells #[.int .i64 4, .int .i64 conn, .slice ad data.length cd, .int .i64 brk, .slice ak 0 ck] 44)) ((W.alloc (.cells #[.int .i64 4, .int .i64 conn, .slice ad data.length cd, .int .i64 brk, .slice ak 0 ck] 44)).alloc (.cells #[.string ⟨#[]⟩, .string ⟨#[111, 112, 101, 110]⟩, .string ⟨#[102, 101, 101, 100]⟩, .string ⟨#[104, 97, 110, 103]⟩, .string ⟨#[116, 105, 99, 107]⟩, .string ⟨#[100, 114, 97, 105, 110]⟩, .string ⟨#[99, 114, 97, 115, 104]⟩, .string ⟨#[115, 116, 97, 114, 116]⟩] 9)) := (Below.refl _ _).alloc (Nat.le_refl _) _
  have X0 := hide (XB.out.kept (P := fun _ => False) (Kept.ofBelow bal) (fun h => h))
  have B0 := hide (HB.out.trans (bal.mono HB.out.size))
  clear bal
  have sb := itoa_short (show 0 ≤ brk by omega) hb.2
  go_enter Tryd.func41, Tryd.ntmps41
  go_wp2_with fail
  refine (refPrint_any brk _ (by unfold maxWord at hb; omega) (by unfold maxWord at hb; omega)).mono ?_
  rintro e w1 ⟨rfl, b⟩
  have XB1 := hide (X0.out.kept (P := fun _ => False) (Kept.ofBelow b) (fun h => h))
  have HB1 := hide (B0.out.trans (b.mono B0.out.size))
  clear b
  obtain ⟨a0, a1, a2, a3, a4, _⟩ := XB1.out.cells
  have X1 := XB1
  have B1 := HB1
  go_wp2_with fail
  generalize hS1 : ((⟨#[116, 105, 99, 107]⟩ : ByteArray) ++ (⟨#[32, 98, 114, 101, 97, 107, 32]⟩ : ByteArray)) = S1
  have HS1 : S1.data.toList = [116, 105, 99, 107, 32, 98, 114, 101, 97, 107, 32] := by rw [← hS1]; rfl
  have HS2 := hide HS1
  have zS1 : S1.size = 11 := by rw [← hS1]; rfl
  clear hS1 HS1
  go_loopg [3, 4] 0 (fun gk v i wr => ∃ (x : ByteArray), i = .int .i64 0 ∧ v = .string x ∧ Hid (StepBox wr W.heap.size 4 conn brk (.slice ad data.length cd) (.slice ak 0 ck)) ∧ Hid (Below W.heap.size W wr) ∧ Hid (x.data.toList = (wordP 4) ++ ([32, 98, 114, 101, 97, 107, 32] ++ printL brk)) ∧ x.size ≤ 8388608)
  case atStart =>
    refine ⟨_, rfl, rfl, X1, B1, ?_, ?_⟩
    · show _ = _
      simp [ByteArray.data_append, wordP, dataW, HS2.out]
    · first | decide | (simp [ByteArray.size_append, bsz]; omega)
  case round =>
    obtain ⟨x, rfl, rfl, XR, BR, HX, hxs⟩ := hrel
    clear a0 a1 a2 a3 a4
    obtain ⟨a0, a1, a2, a3, a4, _⟩ := XR.out.cells
    go_wp2_with fail
    go_ret
    refine ⟨BR.out, _, rfl, ?_, .inl ?_⟩
    · simp [ByteArray.size_append, bsz]
      omega
    · rw [HL.out]
      simp [ByteArray.data_append, HX.out]
set_option maxHeartbeats 8000000 in
set_option maxRecDepth 1000000 in
theorem ln_411 (W : World) (conn brk : Int) (data : List UInt8) (ad ak : Option Addr) (cd ck : Nat) (ks : List Int) (hI : IsInts W ak ck ks) (hn : ∀ n ∈ ks, 0 ≤ n ∧ n ≤ maxWord) (hke : ks ≠ []) (hb : 0 < brk ∧ brk ≤ maxWord) (L : Tx) (hL : L = (wordP 4) ++ ([32, 98, 114, 101, 97, 107, 32] ++ printL brk) ++ ([32, 107, 101, 101, 112]) ++ ks.flatMap (32 :: printL ·) ++ [10]) :
    Calls Tryd.prog 41 #[.agg #[.int .i64 4, .int .i64 conn, .slice ad data.length cd, .int .i64 brk, .slice ak ks.length ck]] W (LinePost W L) := by
  have HL := hide hL
  have HB : Hid (Below W.heap.size W (W.alloc (.cells #[.int .i64 4, .int .i64 conn, .slice ad data.length cd, .int .i64 brk, .slice ak ks.length ck] 44))) := (Below.refl _ W).alloc (Nat.le_refl _) _
  have XB : Hid (StepBox (W.alloc (.cells #[.int .i64 4, .int .i64 conn, .slice ad data.length cd, .int .i64 brk, .slice ak ks.length ck] 44)) W.heap.size 4 conn brk (.slice ad data.length cd) (.slice ak ks.length ck)) := heap_alloc_new W _
  have HI := hide hI
  have HN := hide hn
  have hkl : ks.length ≤ 9223372036854775807 := by have := hI.2.1; unfold maxLen at this; omega
  have hke1 : 0 < ks.length := List.length_pos_iff.2 hke
  have hke0 : (0 : Int) < (ks.length : Int) := by omega
  clear hI hn hke
  clear hL
  have bal : Below (W.alloc (.cells #[.int .i64 4, .int .i64 conn, .slice ad data.length cd, .int .i64 brk, .slice ak ks.length ck] 44)).heap.size (W.alloc (.cells #[.int .i64 4, .int .i64 conn, .slice ad data.length cd, .int .i64 brk, .slice ak ks.length ck] 44)) ((W.alloc (.cells #[.int .i64 4, .int .i64 conn, .slice ad data.length cd, .int .i64 brk, .slice ak ks.length ck] 44)).alloc (.cells #[.string ⟨#[]⟩, .string ⟨#[111, 112, 101, 110]⟩, .string ⟨#[102, 101, 101, 100]⟩, .string ⟨#[104, 97, 110, 103]⟩, .string ⟨#[116, 105, 99, 107]⟩, .string ⟨#[100, 114, 97, 105, 110]⟩, .string ⟨#[99, 114, 97, 115, 104]⟩, .string ⟨#[115, 116, 97, 114, 116]⟩] 9)) := (Below.refl _ _).alloc (Nat.le_refl _) _
  have X0 := hide (XB.out.kept (P := fun _ => False) (Kept.ofBelow bal) (fun h => h))
  have B0 := hide (HB.out.trans (bal.mono HB.out.size))
  clear bal
  have sb := itoa_short (show 0 ≤ brk by omega) hb.2
  go_enter Tryd.func41, Tryd.ntmps41
  go_wp2_with fail
  refine (refPrint_any brk _ (by unfold maxWord at hb; omega) (by unfold maxWord at hb; omega)).mono ?_
  rintro e w1 ⟨rfl, b⟩
  have XB1 := hide (X0.out.kept (P := fun _ => False) (Kept.ofBelow b) (fun h => h))
  have HB1 := hide (B0.out.trans (b.mono B0.out.size))
  clear b
  obtain ⟨a0, a1, a2, a3, a4, _⟩ := XB1.out.cells
  have X1 := XB1
  have B1 := HB1
  go_wp2_with fail
  generalize hS1 : ((⟨#[116, 105, 99, 107]⟩ : ByteArray) ++ (⟨#[32, 98, 114, 101, 97, 107, 32]⟩ : ByteArray)) = S1
  have HS1 : S1.data.toList = [116, 105, 99, 107, 32, 98, 114, 101, 97, 107, 32] := by rw [← hS1]; rfl
  have HS2 := hide HS1
  have zS1 : S1.size = 11 := by rw [← hS1]; rfl
  clear hS1 HS1
  go_loopg [3, 4] ks.length (fun gk v i wr => ∃ (j : Nat) (x : ByteArray), i = .int .i64 (j : Int) ∧ v = .string x ∧ ks.length - j ≤ gk ∧ j ≤ ks.length ∧ Hid (StepBox wr W.heap.size 4 conn brk (.slice ad data.length cd) (.slice ak ks.length ck)) ∧ Hid (Below W.heap.size W wr) ∧ Hid (x.data.toList = (wordP 4) ++ ([32, 98, 114, 101, 97, 107, 32] ++ printL brk) ++ ([32, 107, 101, 101, 112]) ++ (ks.take j).flatMap (32 :: printL ·)) ∧ x.size ≤ 8388608)
  case atStart =>
    refine ⟨0, _, rfl, rfl, by omega, by omega, X1, B1, ?_, ?_⟩
    · show _ = _
      simp [ByteArray.data_append, wordP, dataW, HS2.out]
    · first | omega | (simp [ByteArray.size_append, bsz]; done) | (simp [ByteArray.size_append, bsz]; omega)
  case round =>
    obtain ⟨j, x, rfl, rfl, hgk, hj, XR, BR, HX, hxs⟩ := hrel
    clear a0 a1 a2 a3 a4
    obtain ⟨a0, a1, a2, a3, a4, _⟩ := XR.out.cells
    by_cases hlt : j < ks.length
    · have tlt : (j : Int) < (ks.length : Int) := by omega
      by_cases hm : x.size ≤ 1048576
      · have tm : (x.size : Int) ≤ 1048576 := by omega
        obtain ⟨y, hy⟩ : ∃ y, ks[j]? = some y := ⟨_, List.getElem?_eq_getElem hlt⟩
        rcases HI.out.2.2 with h0 | ⟨bq, oq, e, hbq, hcq⟩
        · rw [h0] at hlt; simp at hlt
        subst e
        have cy := (BR.out.cell (p := ⟨bq, oq + j, none⟩) hbq).trans (hcq j y hy)
        have hyb := HN.out y (List.mem_of_getElem? hy)
        have sy := itoa_short hyb.1 hyb.2
        have HF := hide (take_flat (32 :: printL ·) ks j y hy)
        clear hy hcq
        go_wp2_with fail
        refine (refPrint_any y wr (by have := hyb.1; omega) (by have := hyb.2; unfold maxWord at this; omega)).mono ?_
        rintro e w8 ⟨rfl, b8⟩
        have X8 := hide (XR.out.kept (P := fun _ => False) (Kept.ofBelow b8) (fun h => h))
        have B8 := hide (BR.out.trans (b8.mono BR.out.size))
        clear b8 cy
        go_wp2_with fail
        go_roundg (ks.length - (j + 1))
        case measure => omega
        case rel =>
          refine ⟨j + 1, x ++ ⟨#[32]⟩ ++ ⟨(printL y).toArray⟩, by go_num, rfl, Nat.le_refl _, hlt, X8, B8, ?_, ?_⟩
          · show _ = _
            rw [HF.out]
            simp [ByteArray.data_append, HX.out]
          · simp [ByteArray.size_append, bsz]
            omega
      · have tm : ¬ (x.size : Int) ≤ 1048576 := by omega
        have hbig : Hid (1048576 < L.length) := by
          have h1 := flat_le (32 :: printL ·) ks j
          have h2 := congrArg List.length HX.out
          rw [List.length_append] at h2
          have h3 : x.data.toList.length = x.size := by simp
          show _ < _
          rw [HL.out]
          simp only [List.length_append, List.length_cons, List.length_nil] at h1 h2 h3 ⊢
          omega
        go_wp2_with fail
        go_ret
        refine ⟨BR.out, _, rfl, ?_, .inr ⟨?_, hbig.out⟩⟩
        · simp [ByteArray.size_append, bsz]
          omega
        · simp [ByteArray.size_append, bsz]
          omega
    · have tlt : ¬ (j : Int) < (ks.length : Int) := by omega
      have e9 : ks.take j = ks := List.take_of_length_le (by omega)
      rw [e9] at HX
      clear e9
      go_wp2_with fail
      go_ret
      refine ⟨BR.out, _, rfl, ?_, .inl ?_⟩
      · simp [ByteArray.size_append, bsz]
        omega
      · rw [HL.out]
        simp [ByteArray.data_append, HX.out]
end Go.Proofs.YtpfbfkjmdlogcaaDoor

set_option linter.unusedSimpArgs false
namespace Go.Proofs.YtpfbfkjmdlogcaaDoor
open Go.RowKit

set_option maxHeartbeats 8000000 in
set_option maxRecDepth 1000000 in
theorem ln_500 (W : World) (conn : Int) (data : List UInt8) (ad ak : Option Addr) (cd ck : Nat) (L : Tx) (hL : L = (wordP 5) ++ [10]) :
    Calls Tryd.prog 41 #[.agg #[.int .i64 5, .int .i64 conn, .slice ad data.length cd, .int .i64 0, .slice ak 0 ck]] W (LinePost W L) := by
  have HL := hide hL
  have HB : Hid (Below W.heap.size W (W.alloc (.cells #[.int .i64 5, .int .i64 conn, .slice ad data.length cd, .int .i64 0, .slice ak 0 ck] 44))) := (Below.refl _ W).alloc (Nat.le_refl _) _
  have XB : Hid (StepBox (W.alloc (.cells #[.int .i64 5, .int .i64 conn, .slice ad data.length cd, .int .i64 0, .slice ak 0 ck] 44)) W.heap.size 5 conn 0 (.slice ad data.length cd) (.slice ak 0 ck)) := heap_alloc_new W _
  clear hL
  have bal : Below (W.alloc (.cells #[.int .i64 5, .int .i64 conn, .slice ad data.length cd, .int .i64 0, .slice ak 0 ck] 44)).heap.size (W.alloc (.cells #[.int .i64 5, .int .i64 conn, .slice ad data.length cd, .int .i64 0, .slice ak 0 ck] 44)) ((W.alloc (.cells #[.int .i64 5, .int .i64 conn, .slice ad data.length cd, .int .i64 0, .slice ak 0 ck] 44)).alloc (.cells #[.string ⟨#[]⟩, .string ⟨#[111, 112, 101, 110]⟩, .string ⟨#[102, 101, 101, 100]⟩, .string ⟨#[104, 97, 110, 103]⟩, .string ⟨#[116, 105, 99, 107]⟩, .string ⟨#[100, 114, 97, 105, 110]⟩, .string ⟨#[99, 114, 97, 115, 104]⟩, .string ⟨#[115, 116, 97, 114, 116]⟩] 9)) := (Below.refl _ _).alloc (Nat.le_refl _) _
  have X0 := hide (XB.out.kept (P := fun _ => False) (Kept.ofBelow bal) (fun h => h))
  have B0 := hide (HB.out.trans (bal.mono HB.out.size))
  clear bal
  go_enter Tryd.func41, Tryd.ntmps41
  obtain ⟨a0, a1, a2, a3, a4, _⟩ := X0.out.cells
  go_wp2_with fail
  go_loopg [3, 4] 0 (fun gk v i wr => ∃ (x : ByteArray), i = .int .i64 0 ∧ v = .string x ∧ Hid (StepBox wr W.heap.size 5 conn 0 (.slice ad data.length cd) (.slice ak 0 ck)) ∧ Hid (Below W.heap.size W wr) ∧ Hid (x.data.toList = (wordP 5)) ∧ x.size ≤ 8388608)
  case atStart =>
    refine ⟨_, rfl, rfl, X0, B0, ?_, ?_⟩
    · show _ = _
      simp [ByteArray.data_append, wordP, dataW]
    · first | decide | (simp [ByteArray.size_append, bsz]; omega)
  case round =>
    obtain ⟨x, rfl, rfl, XR, BR, HX, hxs⟩ := hrel
    clear a0 a1 a2 a3 a4
    obtain ⟨a0, a1, a2, a3, a4, _⟩ := XR.out.cells
    go_wp2_with fail
    go_ret
    refine ⟨BR.out, _, rfl, ?_, .inl ?_⟩
    · simp [ByteArray.size_append, bsz]
      omega
    · rw [HL.out]
      simp [ByteArray.data_append, HX.out]
end Go.Proofs.YtpfbfkjmdlogcaaDoor

set_option linter.unusedSimpArgs false
namespace Go.Proofs.YtpfbfkjmdlogcaaDoor
open Go.RowKit

set_option maxHeartbeats 8000000 in
set_option maxRecDepth 1000000 in
theorem ln_600 (W : World) (conn : Int) (data : List UInt8) (ad ak : Option Addr) (cd ck : Nat) (L : Tx) (hL : L = (wordP 6) ++ [10]) :
    Calls Tryd.prog 41 #[.agg #[.int .i64 6, .int .i64 conn, .slice ad data.length cd, .int .i64 0, .slice ak 0 ck]] W (LinePost W L) := by
  have HL := hide hL
  have HB : Hid (Below W.heap.size W (W.alloc (.cells #[.int .i64 6, .int .i64 conn, .slice ad data.length cd, .int .i64 0, .slice ak 0 ck] 44))) := (Below.refl _ W).alloc (Nat.le_refl _) _
  have XB : Hid (StepBox (W.alloc (.cells #[.int .i64 6, .int .i64 conn, .slice ad data.length cd, .int .i64 0, .slice ak 0 ck] 44)) W.heap.size 6 conn 0 (.slice ad data.length cd) (.slice ak 0 ck)) := heap_alloc_new W _
  clear hL
  have bal : Below (W.alloc (.cells #[.int .i64 6, .int .i64 conn, .slice ad data.length cd, .int .i64 0, .slice ak 0 ck] 44)).heap.size (W.alloc (.cells #[.int .i64 6, .int .i64 conn, .slice ad data.length cd, .int .i64 0, .slice ak 0 ck] 44)) ((W.alloc (.cells #[.int .i64 6, .int .i64 conn, .slice ad data.length cd, .int .i64 0, .slice ak 0 ck] 44)).alloc (.cells #[.string ⟨#[]⟩, .string ⟨#[111, 112, 101, 110]⟩, .string ⟨#[102, 101, 101, 100]⟩, .string ⟨#[104, 97, 110, 103]⟩, .string ⟨#[116, 105, 99, 107]⟩, .string ⟨#[100, 114, 97, 105, 110]⟩, .string ⟨#[99, 114, 97, 115, 104]⟩, .string ⟨#[115, 116, 97, 114, 116]⟩] 9)) := (Below.refl _ _).alloc (Nat.le_refl _) _
  have X0 := hide (XB.out.kept (P := fun _ => False) (Kept.ofBelow bal) (fun h => h))
  have B0 := hide (HB.out.trans (bal.mono HB.out.size))
  clear bal
  go_enter Tryd.func41, Tryd.ntmps41
  obtain ⟨a0, a1, a2, a3, a4, _⟩ := X0.out.cells
  go_wp2_with fail
  go_loopg [3, 4] 0 (fun gk v i wr => ∃ (x : ByteArray), i = .int .i64 0 ∧ v = .string x ∧ Hid (StepBox wr W.heap.size 6 conn 0 (.slice ad data.length cd) (.slice ak 0 ck)) ∧ Hid (Below W.heap.size W wr) ∧ Hid (x.data.toList = (wordP 6)) ∧ x.size ≤ 8388608)
  case atStart =>
    refine ⟨_, rfl, rfl, X0, B0, ?_, ?_⟩
    · show _ = _
      simp [ByteArray.data_append, wordP, dataW]
    · first | decide | (simp [ByteArray.size_append, bsz]; omega)
  case round =>
    obtain ⟨x, rfl, rfl, XR, BR, HX, hxs⟩ := hrel
    clear a0 a1 a2 a3 a4
    obtain ⟨a0, a1, a2, a3, a4, _⟩ := XR.out.cells
    go_wp2_with fail
    go_ret
    refine ⟨BR.out, _, rfl, ?_, .inl ?_⟩
    · simp [ByteArray.size_append, bsz]
      omega
    · rw [HL.out]
      simp [ByteArray.data_append, HX.out]
set_option maxHeartbeats 8000000 in
set_option maxRecDepth 1000000 in
theorem ln_601 (W : World) (conn : Int) (data : List UInt8) (ad ak : Option Addr) (cd ck : Nat) (ks : List Int) (hI : IsInts W ak ck ks) (hn : ∀ n ∈ ks, 0 ≤ n ∧ n ≤ maxWord) (hke : ks ≠ []) (L : Tx) (hL : L = (wordP 6) ++ ([32, 107, 101, 101, 112]) ++ ks.flatMap (32 :: printL ·) ++ [10]) :
    Calls Tryd.prog 41 #[.agg #[.int .i64 6, .int .i64 conn, .slice ad data.length cd, .int .i64 0, .slice ak ks.length ck]] W (LinePost W L) := by
  have HL := hide hL
  have HB : Hid (Below W.heap.size W (W.alloc (.cells #[.int .i64 6, .int .i64 conn, .slice ad data.length cd, .int .i64 0, .slice ak ks.length ck] 44))) := (Below.refl _ W).alloc (Nat.le_refl _) _
  have XB : Hid (StepBox (W.alloc (.cells #[.int .i64 6, .int .i64 conn, .slice ad data.length cd, .int .i64 0, .slice ak ks.length ck] 44)) W.heap.size 6 conn 0 (.slice ad data.length cd) (.slice ak ks.length ck)) := heap_alloc_new W _
  have HI := hide hI
  have HN := hide hn
  have hkl : ks.length ≤ 9223372036854775807 := by have := hI.2.1; unfold maxLen at this; omega
  have hke1 : 0 < ks.length := List.length_pos_iff.2 hke
  have hke0 : (0 : Int) < (ks.length : Int) := by omega
  clear hI hn hke
  clear hL
  have bal : Below (W.alloc (.cells #[.int .i64 6, .int .i64 conn, .slice ad data.length cd, .int .i64 0, .slice ak ks.length ck] 44)).heap.size (W.alloc (.cells #[.int .i64 6, .int .i64 conn, .slice ad data.length cd, .int .i64 0, .slice ak ks.length ck] 44)) ((W.alloc (.cells #[.int .i64 6, .int .i64 conn, .slice ad data.length cd, .int .i64 0, .slice ak ks.length ck] 44)).alloc (.cells #[.string ⟨#[]⟩, .string ⟨#[111, 112, 101, 110]⟩, .string ⟨#[102, 101, 101, 100]⟩, .string ⟨#[104, 97, 110, 103]⟩, .string ⟨#[116, 105, 99, 107]⟩, .string ⟨#[100, 114, 97, 105, 110]⟩, .string ⟨#[99, 114, 97, 115, 104]⟩, .string ⟨#[115, 116, 97, 114, 116]⟩] 9)) := (Below.refl _ _).alloc (Nat.le_refl _) _
  have X0 := hide (XB.out.kept (P := fun _ => False) (Kept.ofBelow bal) (fun h => h))
  have B0 := hide (HB.out.trans (bal.mono HB.out.size))
  clear bal
  go_enter Tryd.func41, Tryd.ntmps41
  obtain ⟨a0, a1, a2, a3, a4, _⟩ := X0.out.cells
  go_wp2_with fail
  generalize hS1 : ((⟨#[99, 114, 97, 115, 104]⟩ : ByteArray) ++ (⟨#[32, 107, 101, 101, 112]⟩ : ByteArray)) = S1
  have HS1 : S1.data.toList = [99, 114, 97, 115, 104, 32, 107, 101, 101, 112] := by rw [← hS1]; rfl
  have HS2 := hide HS1
  have zS1 : S1.size = 10 := by rw [← hS1]; rfl
  clear hS1 HS1
  go_loopg [3, 4] ks.length (fun gk v i wr => ∃ (j : Nat) (x : ByteArray), i = .int .i64 (j : Int) ∧ v = .string x ∧ ks.length - j ≤ gk ∧ j ≤ ks.length ∧ Hid (StepBox wr W.heap.size 6 conn 0 (.slice ad data.length cd) (.slice ak ks.length ck)) ∧ Hid (Below W.heap.size W wr) ∧ Hid (x.data.toList = (wordP 6) ++ ([32, 107, 101, 101, 112]) ++ (ks.take j).flatMap (32 :: printL ·)) ∧ x.size ≤ 8388608)
  case atStart =>
    refine ⟨0, _, rfl, rfl, by omega, by omega, X0, B0, ?_, ?_⟩
    · show _ = _
      simp [ByteArray.data_append, wordP, dataW, HS2.out]
    · first | omega | (simp [ByteArray.size_append, bsz]; done) | (simp [ByteArray.size_append, bsz]; omega)
  case round =>
    obtain ⟨j, x, rfl, rfl, hgk, hj, XR, BR, HX, hxs⟩ := hrel
    clear a0 a1 a2 a3 a4
    obtain ⟨a0, a1, a2, a3, a4, _⟩ := XR.out.cells
    by_cases hlt : j < ks.length
    · have tlt : (j : Int) < (ks.length : Int) := by omega
      by_cases hm : x.size ≤ 1048576
      · have tm : (x.size : Int) ≤ 1048576 := by omega
        obtain ⟨y, hy⟩ : ∃ y, ks[j]? = some y := ⟨_, List.getElem?_eq_getElem hlt⟩
        rcases HI.out.2.2 with h0 | ⟨bq, oq, e, hbq, hcq⟩
        · rw [h0] at hlt; simp at hlt
        subst e
        have cy := (BR.out.cell (p := ⟨bq, oq + j, none⟩) hbq).trans (hcq j y hy)
        have hyb := HN.out y (List.mem_of_getElem? hy)
        have sy := itoa_short hyb.1 hyb.2
        have HF := hide (take_flat (32 :: printL ·) ks j y hy)
        clear hy hcq
        go_wp2_with fail
        refine (refPrint_any y wr (by have := hyb.1; omega) (by have := hyb.2; unfold maxWord at this; omega)).mono ?_
        rintro e w8 ⟨rfl, b8⟩
        have X8 := hide (XR.out.kept (P := fun _ => False) (Kept.ofBelow b8) (fun h => h))
        have B8 := hide (BR.out.trans (b8.mono BR.out.size))
        clear b8 cy
        go_wp2_with fail
        go_roundg (ks.length - (j + 1))
        case measure => omega
        case rel =>
          refine ⟨j + 1, x ++ ⟨#[32]⟩ ++ ⟨(printL y).toArray⟩, by go_num, rfl, Nat.le_refl _, hlt, X8, B8, ?_, ?_⟩
          · show _ = _
            rw [HF.out]
            simp [ByteArray.data_append, HX.out]
          · simp [ByteArray.size_append, bsz]
            omega
      · have tm : ¬ (x.size : Int) ≤ 1048576 := by omega
        have hbig : Hid (1048576 < L.length) := by
          have h1 := flat_le (32 :: printL ·) ks j
          have h2 := congrArg List.length HX.out
          rw [List.length_append] at h2
          have h3 : x.data.toList.length = x.size := by simp
          show _ < _
          rw [HL.out]
          simp only [List.length_append, List.length_cons, List.length_nil] at h1 h2 h3 ⊢
          omega
        go_wp2_with fail
        go_ret
        refine ⟨BR.out, _, rfl, ?_, .inr ⟨?_, hbig.out⟩⟩
        · simp [ByteArray.size_append, bsz]
          omega
        · simp [ByteArray.size_append, bsz]
          omega
    · have tlt : ¬ (j : Int) < (ks.length : Int) := by omega
      have e9 : ks.take j = ks := List.take_of_length_le (by omega)
      rw [e9] at HX
      clear e9
      go_wp2_with fail
      go_ret
      refine ⟨BR.out, _, rfl, ?_, .inl ?_⟩
      · simp [ByteArray.size_append, bsz]
        omega
      · rw [HL.out]
        simp [ByteArray.data_append, HX.out]
end Go.Proofs.YtpfbfkjmdlogcaaDoor

set_option linter.unusedSimpArgs false
namespace Go.Proofs.YtpfbfkjmdlogcaaDoor
open Go.RowKit

set_option maxHeartbeats 8000000 in
set_option maxRecDepth 1000000 in
theorem ln_700 (W : World) (conn : Int) (data : List UInt8) (ad ak : Option Addr) (cd ck : Nat) (L : Tx) (hL : L = (wordP 7) ++ [10]) :
    Calls Tryd.prog 41 #[.agg #[.int .i64 7, .int .i64 conn, .slice ad data.length cd, .int .i64 0, .slice ak 0 ck]] W (LinePost W L) := by
  have HL := hide hL
  have HB : Hid (Below W.heap.size W (W.alloc (.cells #[.int .i64 7, .int .i64 conn, .slice ad data.length cd, .int .i64 0, .slice ak 0 ck] 44))) := (Below.refl _ W).alloc (Nat.le_refl _) _
  have XB : Hid (StepBox (W.alloc (.cells #[.int .i64 7, .int .i64 conn, .slice ad data.length cd, .int .i64 0, .slice ak 0 ck] 44)) W.heap.size 7 conn 0 (.slice ad data.length cd) (.slice ak 0 ck)) := heap_alloc_new W _
  clear hL
  have bal : Below (W.alloc (.cells #[.int .i64 7, .int .i64 conn, .slice ad data.length cd, .int .i64 0, .slice ak 0 ck] 44)).heap.size (W.alloc (.cells #[.int .i64 7, .int .i64 conn, .slice ad data.length cd, .int .i64 0, .slice ak 0 ck] 44)) ((W.alloc (.cells #[.int .i64 7, .int .i64 conn, .slice ad data.length cd, .int .i64 0, .slice ak 0 ck] 44)).alloc (.cells #[.string ⟨#[]⟩, .string ⟨#[111, 112, 101, 110]⟩, .string ⟨#[102, 101, 101, 100]⟩, .string ⟨#[104, 97, 110, 103]⟩, .string ⟨#[116, 105, 99, 107]⟩, .string ⟨#[100, 114, 97, 105, 110]⟩, .string ⟨#[99, 114, 97, 115, 104]⟩, .string ⟨#[115, 116, 97, 114, 116]⟩] 9)) := (Below.refl _ _).alloc (Nat.le_refl _) _
  have X0 := hide (XB.out.kept (P := fun _ => False) (Kept.ofBelow bal) (fun h => h))
  have B0 := hide (HB.out.trans (bal.mono HB.out.size))
  clear bal
  go_enter Tryd.func41, Tryd.ntmps41
  obtain ⟨a0, a1, a2, a3, a4, _⟩ := X0.out.cells
  go_wp2_with fail
  go_loopg [3, 4] 0 (fun gk v i wr => ∃ (x : ByteArray), i = .int .i64 0 ∧ v = .string x ∧ Hid (StepBox wr W.heap.size 7 conn 0 (.slice ad data.length cd) (.slice ak 0 ck)) ∧ Hid (Below W.heap.size W wr) ∧ Hid (x.data.toList = (wordP 7)) ∧ x.size ≤ 8388608)
  case atStart =>
    refine ⟨_, rfl, rfl, X0, B0, ?_, ?_⟩
    · show _ = _
      simp [ByteArray.data_append, wordP, dataW]
    · first | decide | (simp [ByteArray.size_append, bsz]; omega)
  case round =>
    obtain ⟨x, rfl, rfl, XR, BR, HX, hxs⟩ := hrel
    clear a0 a1 a2 a3 a4
    obtain ⟨a0, a1, a2, a3, a4, _⟩ := XR.out.cells
    go_wp2_with fail
    go_ret
    refine ⟨BR.out, _, rfl, ?_, .inl ?_⟩
    · simp [ByteArray.size_append, bsz]
      omega
    · rw [HL.out]
      simp [ByteArray.data_append, HX.out]
set_option maxHeartbeats 8000000 in
set_option maxRecDepth 1000000 in
theorem ln_710 (W : World) (conn brk : Int) (data : List UInt8) (ad ak : Option Addr) (cd ck : Nat) (hb : 0 < brk ∧ brk ≤ maxWord) (L : Tx) (hL : L = (wordP 7) ++ ([32, 98, 114, 101, 97, 107, 32] ++ printL brk) ++ [10]) :
    Calls Tryd.prog 41 #[.agg #[.int .i64 7, .int .i64 conn, .slice ad data.length cd, .int .i64 brk, .slice ak 0 ck]] W (LinePost W L) := by
  have HL := hide hL
  have HB : Hid (Below W.heap.size W (W.alloc (.cells #[.int .i64 7, .int .i64 conn, .slice ad data.length cd, .int .i64 brk, .slice ak 0 ck] 44))) := (Below.refl _ W).alloc (Nat.le_refl _) _
  have XB : Hid (StepBox (W.alloc (.cells #[.int .i64 7, .int .i64 conn, .slice ad data.length cd, .int .i64 brk, .slice ak 0 ck] 44)) W.heap.size 7 conn brk (.slice ad data.length cd) (.slice ak 0 ck)) := heap_alloc_new W _
  clear hL
  have bal : Below (W.alloc (.cells #[.int .i64 7, .int .i64 conn, .slice ad data.length cd, .int .i64 brk, .slice ak 0 ck] 44)).heap.size (W.alloc (.cells #[.int .i64 7, .int .i64 conn, .slice ad data.length cd, .int .i64 brk, .slice ak 0 ck] 44)) ((W.alloc (.cells #[.int .i64 7, .int .i64 conn, .slice ad data.length cd, .int .i64 brk, .slice ak 0 ck] 44)).alloc (.cells #[.string ⟨#[]⟩, .string ⟨#[111, 112, 101, 110]⟩, .string ⟨#[102, 101, 101, 100]⟩, .string ⟨#[104, 97, 110, 103]⟩, .string ⟨#[116, 105, 99, 107]⟩, .string ⟨#[100, 114, 97, 105, 110]⟩, .string ⟨#[99, 114, 97, 115, 104]⟩, .string ⟨#[115, 116, 97, 114, 116]⟩] 9)) := (Below.refl _ _).alloc (Nat.le_refl _) _
  have X0 := hide (XB.out.kept (P := fun _ => False) (Kept.ofBelow bal) (fun h => h))
  have B0 := hide (HB.out.trans (bal.mono HB.out.size))
  clear bal
  have sb := itoa_short (show 0 ≤ brk by omega) hb.2
  go_enter Tryd.func41, Tryd.ntmps41
  go_wp2_with fail
  refine (refPrint_any brk _ (by unfold maxWord at hb; omega) (by unfold maxWord at hb; omega)).mono ?_
  rintro e w1 ⟨rfl, b⟩
  have XB1 := hide (X0.out.kept (P := fun _ => False) (Kept.ofBelow b) (fun h => h))
  have HB1 := hide (B0.out.trans (b.mono B0.out.size))
  clear b
  obtain ⟨a0, a1, a2, a3, a4, _⟩ := XB1.out.cells
  have X1 := XB1
  have B1 := HB1
  go_wp2_with fail
  generalize hS1 : ((⟨#[115, 116, 97, 114, 116]⟩ : ByteArray) ++ (⟨#[32, 98, 114, 101, 97, 107, 32]⟩ : ByteArray)) = S1
  have HS1 : S1.data.toList = [115, 116, 97, 114, 116, 32, 98, 114, 101, 97, 107, 32] := by rw [← hS1]; rfl
  have HS2 := hide HS1
  have zS1 : S1.size = 12 := by rw [← hS1]; rfl
  clear hS1 HS1
  go_loopg [3, 4] 0 (fun gk v i wr => ∃ (x : ByteArray), i = .int .i64 0 ∧ v = .string x ∧ Hid (StepBox wr W.heap.size 7 conn brk (.slice ad data.length cd) (.slice ak 0 ck)) ∧ Hid (Below W.heap.size W wr) ∧ Hid (x.data.toList = (wordP 7) ++ ([32, 98, 114, 101, 97, 107, 32] ++ printL brk)) ∧ x.size ≤ 8388608)
  case atStart =>
    refine ⟨_, rfl, rfl, X1, B1, ?_, ?_⟩
    · show _ = _
      simp [ByteArray.data_append, wordP, dataW, HS2.out]
    · first | decide | (simp [ByteArray.size_append, bsz]; omega)
  case round =>
    obtain ⟨x, rfl, rfl, XR, BR, HX, hxs⟩ := hrel
    clear a0 a1 a2 a3 a4
    obtain ⟨a0, a1, a2, a3, a4, _⟩ := XR.out.cells
    go_wp2_with fail
    go_ret
    refine ⟨BR.out, _, rfl, ?_, .inl ?_⟩
    · simp [ByteArray.size_append, bsz]
      omega
    · rw [HL.out]
      simp [ByteArray.data_append, HX.out]
set_option maxHeartbeats 8000000 in
set_option maxRecDepth 1000000 in
theorem ln_711 (W : World) (conn brk : Int) (data : List UInt8) (ad ak : Option Addr) (cd ck : Nat) (ks : List Int) (hI : IsInts W ak ck ks) (hn : ∀ n ∈ ks, 0 ≤ n ∧ n ≤ maxWord) (hke : ks ≠ []) (hb : 0 < brk ∧ brk ≤ maxWord) (L : Tx) (hL : L = (wordP 7) ++ ([32, 98, 114, 101, 97, 107, 32] ++ printL brk) ++ ([32, 107, 101, 101, 112]) ++ ks.flatMap (32 :: printL ·) ++ [10]) :
    Calls Tryd.prog 41 #[.agg #[.int .i64 7, .int .i64 conn, .slice ad data.length cd, .int .i64 brk, .slice ak ks.length ck]] W (LinePost W L) := by
  have HL := hide hL
  have HB : Hid (Below W.heap.size W (W.alloc (.cells #[.int .i64 7, .int .i64 conn, .slice ad data.length cd, .int .i64 brk, .slice ak ks.length ck] 44))) := (Below.refl _ W).alloc (Nat.le_refl _) _
  have XB : Hid (StepBox (W.alloc (.cells #[.int .i64 7, .int .i64 conn, .slice ad data.length cd, .int .i64 brk, .slice ak ks.length ck] 44)) W.heap.size 7 conn brk (.slice ad data.length cd) (.slice ak ks.length ck)) := heap_alloc_new W _
  have HI := hide hI
  have HN := hide hn
  have hkl : ks.length ≤ 9223372036854775807 := by have := hI.2.1; unfold maxLen at this; omega
  have hke1 : 0 < ks.length := List.length_pos_iff.2 hke
  have hke0 : (0 : Int) < (ks.length : Int) := by omega
  clear hI hn hke
  clear hL
  have bal : Below (W.alloc (.cells #[.int .i64 7, .int .i64 conn, .slice ad data.length cd, .int .i64 brk, .slice ak ks.length ck] 44)).heap.size (W.alloc (.cells #[.int .i64 7, .int .i64 conn, .slice ad data.length cd, .int .i64 brk, .slice ak ks.length ck] 44)) ((W.alloc (.cells #[.int .i64 7, .int .i64 conn, .slice ad data.length cd, .int .i64 brk, .slice ak ks.length ck] 44)).alloc (.cells #[.string ⟨#[]⟩, .string ⟨#[111, 112, 101, 110]⟩, .string ⟨#[102, 101, 101, 100]⟩, .string ⟨#[104, 97, 110, 103]⟩, .string ⟨#[116, 105, 99, 107]⟩, .string ⟨#[100, 114, 97, 105, 110]⟩, .string ⟨#[99, 114, 97, 115, 104]⟩, .string ⟨#[115, 116, 97, 114, 116]⟩] 9)) := (Below.refl _ _).alloc (Nat.le_refl _) _
  have X0 := hide (XB.out.kept (P := fun _ => False) (Kept.ofBelow bal) (fun h => h))
  have B0 := hide (HB.out.trans (bal.mono HB.out.size))
  clear bal
  have sb := itoa_short (show 0 ≤ brk by omega) hb.2
  go_enter Tryd.func41, Tryd.ntmps41
  go_wp2_with fail
  refine (refPrint_any brk _ (by unfold maxWord at hb; omega) (by unfold maxWord at hb; omega)).mono ?_
  rintro e w1 ⟨rfl, b⟩
  have XB1 := hide (X0.out.kept (P := fun _ => False) (Kept.ofBelow b) (fun h => h))
  have HB1 := hide (B0.out.trans (b.mono B0.out.size))
  clear b
  obtain ⟨a0, a1, a2, a3, a4, _⟩ := XB1.out.cells
  have X1 := XB1
  have B1 := HB1
  go_wp2_with fail
  generalize hS1 : ((⟨#[115, 116, 97, 114, 116]⟩ : ByteArray) ++ (⟨#[32, 98, 114, 101, 97, 107, 32]⟩ : ByteArray)) = S1
  have HS1 : S1.data.toList = [115, 116, 97, 114, 116, 32, 98, 114, 101, 97, 107, 32] := by rw [← hS1]; rfl
  have HS2 := hide HS1
  have zS1 : S1.size = 12 := by rw [← hS1]; rfl
  clear hS1 HS1
  go_loopg [3, 4] ks.length (fun gk v i wr => ∃ (j : Nat) (x : ByteArray), i = .int .i64 (j : Int) ∧ v = .string x ∧ ks.length - j ≤ gk ∧ j ≤ ks.length ∧ Hid (StepBox wr W.heap.size 7 conn brk (.slice ad data.length cd) (.slice ak ks.length ck)) ∧ Hid (Below W.heap.size W wr) ∧ Hid (x.data.toList = (wordP 7) ++ ([32, 98, 114, 101, 97, 107, 32] ++ printL brk) ++ ([32, 107, 101, 101, 112]) ++ (ks.take j).flatMap (32 :: printL ·)) ∧ x.size ≤ 8388608)
  case atStart =>
    refine ⟨0, _, rfl, rfl, by omega, by omega, X1, B1, ?_, ?_⟩
    · show _ = _
      simp [ByteArray.data_append, wordP, dataW, HS2.out]
    · first | omega | (simp [ByteArray.size_append, bsz]; done) | (simp [ByteArray.size_append, bsz]; omega)
  case round =>
    obtain ⟨j, x, rfl, rfl, hgk, hj, XR, BR, HX, hxs⟩ := hrel
    clear a0 a1 a2 a3 a4
    obtain ⟨a0, a1, a2, a3, a4, _⟩ := XR.out.cells
    by_cases hlt : j < ks.length
    · have tlt : (j : Int) < (ks.length : Int) := by omega
      by_cases hm : x.size ≤ 1048576
      · have tm : (x.size : Int) ≤ 1048576 := by omega
        obtain ⟨y, hy⟩ : ∃ y, ks[j]? = some y := ⟨_, List.getElem?_eq_getElem hlt⟩
        rcases HI.out.2.2 with h0 | ⟨bq, oq, e, hbq, hcq⟩
        · rw [h0] at hlt; simp at hlt
        subst e
        have cy := (BR.out.cell (p := ⟨bq, oq + j, none⟩) hbq).trans (hcq j y hy)
        have hyb := HN.out y (List.mem_of_getElem? hy)
        have sy := itoa_short hyb.1 hyb.2
        have HF := hide (take_flat (32 :: printL ·) ks j y hy)
        clear hy hcq
        go_wp2_with fail
        refine (refPrint_any y wr (by have := hyb.1; omega) (by have := hyb.2; unfold maxWord at this; omega)).mono ?_
        rintro e w8 ⟨rfl, b8⟩
        have X8 := hide (XR.out.kept (P := fun _ => False) (Kept.ofBelow b8) (fun h => h))
        have B8 := hide (BR.out.trans (b8.mono BR.out.size))
        clear b8 cy
        go_wp2_with fail
        go_roundg (ks.length - (j + 1))
        case measure => omega
        case rel =>
          refine ⟨j + 1, x ++ ⟨#[32]⟩ ++ ⟨(printL y).toArray⟩, by go_num, rfl, Nat.le_refl _, hlt, X8, B8, ?_, ?_⟩
          · show _ = _
            rw [HF.out]
            simp [ByteArray.data_append, HX.out]
          · simp [ByteArray.size_append, bsz]
            omega
      · have tm : ¬ (x.size : Int) ≤ 1048576 := by omega
        have hbig : Hid (1048576 < L.length) := by
          have h1 := flat_le (32 :: printL ·) ks j
          have h2 := congrArg List.length HX.out
          rw [List.length_append] at h2
          have h3 : x.data.toList.length = x.size := by simp
          show _ < _
          rw [HL.out]
          simp only [List.length_append, List.length_cons, List.length_nil] at h1 h2 h3 ⊢
          omega
        go_wp2_with fail
        go_ret
        refine ⟨BR.out, _, rfl, ?_, .inr ⟨?_, hbig.out⟩⟩
        · simp [ByteArray.size_append, bsz]
          omega
        · simp [ByteArray.size_append, bsz]
          omega
    · have tlt : ¬ (j : Int) < (ks.length : Int) := by omega
      have e9 : ks.take j = ks := List.take_of_length_le (by omega)
      rw [e9] at HX
      clear e9
      go_wp2_with fail
      go_ret
      refine ⟨BR.out, _, rfl, ?_, .inl ?_⟩
      · simp [ByteArray.size_append, bsz]
        omega
      · rw [HL.out]
        simp [ByteArray.data_append, HX.out]
end Go.Proofs.YtpfbfkjmdlogcaaDoor
