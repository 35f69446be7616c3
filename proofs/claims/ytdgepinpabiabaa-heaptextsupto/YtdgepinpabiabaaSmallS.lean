/-
  The walks of New, Len, Top, Get.
-/
import Derived.Test.YtdgepinpabiabaaRiseS
import Derived.Test.YtdgepinpabiabaaSmallKit
namespace Go.Proofs.Ytdgepinpabiabaa
open Go.RowKit

theorem not_nil_inS (w : World) (d : Nat) (f : FuncId) (caps : Array Value) : (Op.equalIn (d + 1) 47 (.func (.func f) #[] caps) .nilFunc).run Try.prog w = .ok false w := by
  simp [Op.equalIn, run_underlying Try.underlying47]
theorem not_nilS (w : World) (f : FuncId) (caps : Array Value) : (binOp .eql 47 (.func (.func f) #[] caps) .nilFunc).run Try.prog w = .ok (.bool false) w := by
  simp only [binOp]
  simp [show Op.equal 47 (.func (.func f) #[] caps) .nilFunc = Op.equalIn (9999 + 1) 47 (.func (.func f) #[] caps) .nilFunc from rfl, not_nil_inS w 9999 f caps]

set_option maxHeartbeats 2000000 in
set_option maxRecDepth 1000000 in
theorem newS (w : World) (f : FuncId) (caps : Array Value) :
    Calls Try.prog 16 #[.func (.func f) #[] caps] w fun e w' => ∃ hb mb, e = .returned (.pointer (some ⟨hb, 0, none⟩)) ∧ HeapAtS w' hb (.slice none 0 0) mb f caps 0 [] ∧ Below w.heap.size w w' ∧ w.heap.size ≤ hb ∧ w.heap.size ≤ mb := by
  have hmm := @run_makeMap Try.prog
  have hnn := fun w => not_nilS w f caps
  go_enter Try.func16, Try.ntmps16
  go_wp2_with fail
  go_ret
  refine ⟨w.heap.size + 1, w.heap.size, rfl, ⟨?_, World.ownsRow_nil _ _ _ _, ⟨_, (Tab.made w).block ?_, ?_⟩, ?_⟩, ((Below.refl _ w).alloc (Nat.le_refl _) _).alloc (by simp) _, by omega, Nat.le_refl _⟩
  · have := heap_alloc_new (w.alloc (.map #[] 0)) (.cells #[.func (.func f) #[] caps, .slice none 0 0, .map (some w.heap.size), .int .i64 0] 94)
    rwa [World.size_alloc] at this
  · exact heap_alloc_old (w.alloc (.map #[] 0)) _ (by simp)
  · exact ⟨fun i r h => by simp at h, fun t v h => by cases h⟩
  · intro r hr; simp at hr

set_option maxHeartbeats 2000000 in
set_option maxRecDepth 1000000 in
theorem lenS (w : World) (hb mb : Nat) (v : Value) (f : FuncId) (caps : Array Value) (last : Int) (R : List (Int × ByteArray)) (h : HeapAtS w hb v mb f caps last R) :
    Calls Try.prog 21 #[.pointer (some ⟨hb, 0, none⟩)] w fun e w' => e = .returned (.int .i64 (R.length : Int)) ∧ w' = w := by
  obtain ⟨av, cv, rfl⟩ : ∃ a c, v = .slice a R.length c := by
    rcases h.row.2 with ⟨rfl, h0⟩ | ⟨rb, cap, cur, rfl, _⟩
    · exact ⟨none, 0, by rw [h0]⟩
    · exact ⟨_, _, rfl⟩
  have k1 : w.cell? ⟨hb, 1, none⟩ = some (.slice av R.length cv) := by simp [World.cell?, h.box]
  clear h
  go_enter Try.func21, Try.ntmps21
  go_wp2_with fail
  go_ret
  exact ⟨rfl, rfl⟩

/-- What Top tells. -/
def topOfS (R : List (Int × ByteArray)) : Value := match R[0]? with | some r => .tuple #[.int .i64 r.1, valS r.2, .bool true] | none => .tuple #[.int .i64 0, .string ByteArray.empty, .bool false]
/-- What Get tells. -/
def getOfS (R : List (Int × ByteArray)) (t : Int) : Value := match R.find? (fun r => r.1 = t) with | some r => .tuple #[valS r.2, .bool true] | none => .tuple #[.string ByteArray.empty, .bool false]

set_option maxHeartbeats 2000000 in
set_option maxRecDepth 1000000 in
theorem topS (w : World) (hb mb : Nat) (v : Value) (f : FuncId) (caps : Array Value) (last : Int) (R : List (Int × ByteArray)) (h : HeapAtS w hb v mb f caps last R) :
    Calls Try.prog 57 #[.pointer (some ⟨hb, 0, none⟩)] w fun e w' => e = .returned (topOfS R) ∧ Below w.heap.size w w' := by
  cases R with
  | nil =>
    obtain ⟨av, cv, rfl⟩ : ∃ a c, v = .slice a 0 c := by
      rcases h.row.2 with ⟨rfl, h0⟩ | ⟨rb, cap, cur, rfl, _⟩
      · exact ⟨none, 0, rfl⟩
      · exact ⟨_, _, rfl⟩
    have k1 : w.cell? ⟨hb, 1, none⟩ = some (.slice av 0 cv) := by simp [World.cell?, h.box]
    clear h
    go_enter Try.func57, Try.ntmps57
    go_wp2_with fail
    go_ret3
    exact ⟨rfl, Below.refl _ _⟩
  | cons r R =>
    obtain ⟨rb, cap, cur, rfl, hg, _, _, _, hcur⟩ := h.shape (i := 0) (r := r) rfl
    have k1 : w.cell? ⟨hb, 1, none⟩ = some (.slice (some ⟨rb, 0, none⟩) (r :: R).length cap) := by simp [World.cell?, h.box]
    have ca := row_cellS hg hcur (i := 0) (r := r) rfl
    obtain ⟨a1, a2⟩ := r
    have ca0 := ca 0 _ rfl
    have ca1 := ca 1 _ rfl
    
    simp only [Nat.zero_mul, Nat.zero_add] at ca0 ca1 
    obtain ⟨n, hn⟩ : ∃ n, n = ((a1, a2) :: R).length := ⟨_, rfl⟩
    have hn0 : (0 : Int) < (n : Int) := by rw [hn]; simp only [List.length_cons]; omega
    have hnz : ((n : Int) == 0) = false := by simp; omega
    rw [← hn] at k1
    clear h ca hg hcur hn
    go_enter Try.func57, Try.ntmps57
    go_wp2_with fail
    go_quiet (fail)
    go_wp2_with fail
    go_ret3
    exact ⟨rfl, below_drewN _ _⟩

set_option maxHeartbeats 2000000 in
set_option maxRecDepth 1000000 in
theorem getS (w : World) (hb mb : Nat) (v : Value) (f : FuncId) (caps : Array Value) (last : Int) (R : List (Int × ByteArray)) (t : Int) (h : HeapAtS w hb v mb f caps last R) (ht : (Lit.int .i64 t).wf = true) :
    Calls Try.prog 55 #[.pointer (some ⟨hb, 0, none⟩), .int .i64 t] w fun e w' => e = .returned (getOfS R t) ∧ Below w.heap.size w w' := by
  obtain ⟨g, htab, hs⟩ := h.tab
  have k2 : w.cell? ⟨hb, 2, none⟩ = some (.map (some mb)) := by simp [World.cell?, h.box]
  have HT : Hid (Tab w mb R.length g) := htab
  rcases hs.find t with ⟨h1, h2⟩ | ⟨i, r, h1, h2, h3, h4⟩
  · clear h
    have HG : Hid (g t = none ∧ R.find? (fun r => r.1 = t) = none) := ⟨h1, h2⟩
    clear h1 h2 hs htab
    go_enter Try.func55, Try.ntmps55
    go_wp2_with (at_lookup; refine wpList_look rfl _ _ rfl mb R.length g t rfl rfl HT.out ht ?_; rw [HG.out.1]; simp only [Option.isSome_none, Option.getD_none])
    go_ret2
    exact ⟨by unfold getOfS; rw [HG.out.2]; rfl, Below.refl _ _⟩
  · obtain ⟨rb, cap, cur, rfl, hg, _, _, _, hcur⟩ := h.shape h2
    have k1 : w.cell? ⟨hb, 1, none⟩ = some (.slice (some ⟨rb, 0, none⟩) R.length cap) := by simp [World.cell?, h.box]
    have ca := row_cellS hg hcur h2
    obtain ⟨a1, a2⟩ := r
    have ca1 := ca 1 _ rfl
    
    have il : (i : Int) < (R.length : Int) := by have := (List.getElem?_eq_some_iff.1 h2).1; omega
    have HG : Hid (g t = some (i : Int) ∧ R.find? (fun r => r.1 = t) = some (a1, a2)) := ⟨h1, h4⟩
    clear h ca hg hcur h1 h2 h3 h4 hs htab
    go_enter Try.func55, Try.ntmps55
    go_wp2_with (at_lookup; refine wpList_look rfl _ _ rfl mb R.length g t rfl rfl HT.out ht ?_; rw [HG.out.1]; simp only [Option.isSome_some, Option.getD_some])
    go_ret2
    exact ⟨by unfold getOfS; rw [HG.out.2]; rfl, Below.refl _ _⟩
end Go.Proofs.Ytdgepinpabiabaa
