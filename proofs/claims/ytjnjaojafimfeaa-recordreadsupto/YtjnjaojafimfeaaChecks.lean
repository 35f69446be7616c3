/-
  The walks of textsMayBe, payloadSize, Check, Size, CheckConfig.
-/
import Derived.Test.YtjnjaojafimfeaaNums
import Derived.Test.YtjnjaojafimfeaaValid
namespace Go.Proofs.Ytjnjaojafimfeaa
open Go.RowKit

theorem tube_nil {t : List UInt8} : ((⟨t.toArray⟩ : ByteArray).toList == (⟨#[]⟩ : ByteArray).toList) = (t == []) := by
  rw [ByteArray.toList_eq, ByteArray.toList_eq]
theorem tube_size (t : List UInt8) : (⟨t.toArray⟩ : ByteArray).size = t.length := by simp [ByteArray.size]

set_option maxHeartbeats 1000000 in
set_option maxRecDepth 1000000 in
theorem textsMayBe_any (r : Rec) (a : Option Addr) (m c : Nat) (w : World) :
    Calls Try.prog 30 #[.agg (recA r (.slice a m c))] w fun e w' => e = .returned (.bool (textB r.kind r.tube m)) ∧ Below w.heap.size w w' := by
  unfold recA
  have hv : validB (⟨r.tube.toArray⟩ : ByteArray).data.toList = validB r.tube := rfl
  by_cases hk : r.kind = 2
  · by_cases ht : validB r.tube = true
    · go_enter Try.func30, Try.ntmps30
      go_wp2_with (first
        | (go_at_call 47; refine (valid_any _ _).mono ?_; rw [hv, ht]; rintro e w' ⟨rfl, hw'⟩; obtain rfl := hw'.symm))
      go_ret
      exact ⟨by rw [show textB r.kind r.tube m = decide ((m : Int) ≤ 65535) by simp [textB, hk, ht]; omega]; rfl, (Below.refl _ w).alloc (Nat.le_refl _) _⟩
    · have ht : validB r.tube = false := by simpa using ht
      go_enter Try.func30, Try.ntmps30
      go_wp2_with (first
        | (go_at_call 47; refine (valid_any _ _).mono ?_; rw [hv, ht]; rintro e w' ⟨rfl, hw'⟩; obtain rfl := hw'.symm))
      go_ret
      exact ⟨by rw [show textB r.kind r.tube m = false by simp [textB, hk, ht]]; rfl, (Below.refl _ w).alloc (Nat.le_refl _) _⟩
  · have hkb : (r.kind == 2) = false := by simpa using hk
    have he := tube_nil (t := r.tube)
    by_cases ht : r.tube = []
    · have htb : (r.tube == []) = true := by simpa using ht
      rw [htb] at he
      have HT : Hid (r.tube = []) := ht
      clear ht
      go_enter Try.func30, Try.ntmps30
      go_wp2_with fail
      go_ret
      exact ⟨by rw [show textB r.kind r.tube m = ((m : Int) == 0) by simp [textB, hk, HT.out]; cases m <;> simp; omega]; rfl, (Below.refl _ w).alloc (Nat.le_refl _) _⟩
    · have htb : (r.tube == []) = false := by simpa using ht
      rw [htb] at he
      have HT : Hid (¬ r.tube = []) := ht
      clear ht
      go_enter Try.func30, Try.ntmps30
      go_wp2_with fail
      go_ret
      exact ⟨by rw [show textB r.kind r.tube m = false by simp [textB, hk, HT.out]]; rfl, (Below.refl _ w).alloc (Nat.le_refl _) _⟩

/-! ### A record in a block -/

theorem wpList_store_new {P : Program} {ops : Array Oper} {rest : List Oper} {o : Oper} {a : Act} {W : World} {Q : Exit → Act → World → Prop} (hgd : o.guard = none) (ty : TypeId) (x y : Operand) (ho : o.op = .store ty x y)
    (cells : Array Value) (hx : a.eval x = .pointer (some ⟨W.heap.size, 0, none⟩)) (hy : a.eval y = .agg cells) (t : TypeId) (old : Array Value) (hi : (P.info? ty).map (·.size) = some cells.size)
    (hold : old.size = cells.size) (h1 : cells.all (·.oneCell') = true) (h : wpList P ops Q rest (a.put o.dst undef) (W.alloc (.cells cells t))) : wpList P ops Q (o :: rest) a (W.alloc (.cells old t)) := by
  refine wpList_store_row hgd ty x y ho W.heap.size cells hx hy t old (heap_alloc_last W _) hi hold h1 ?_
  rw [World.setRow_alloc_new]
  exact h
theorem wpList_load_wanted {P : Program} {ops : Array Oper} {rest : List Oper} {o : Oper} {a : Act} {w : World} {Q : Exit → Act → World → Prop} (hw : Region.wanted o (yielded ops a.tmps) = true) (ty : TypeId) (x : Operand) (ho : o.op = .load ty x)
    (g : Nat) (hx : a.eval x = .pointer (some ⟨g, 0, none⟩)) (t : TypeId) (cs : Array Value) (fr : Nat × Nat) (d : TypeDesc) (hg : w.heap[g]? = some (.cells cs t fr))
    (hu : P.underlying ty = some d) (hd : (match d with | .struct _ | .array _ _ => true | _ => false) = true) (hi : (P.info? ty).map (·.size) = some cs.size)
    (h : wpList P ops Q rest (a.put o.dst (.agg cs)) w) : wpList P ops Q (o :: rest) a w := by
  unfold wpList
  rw [if_pos hw]
  exact .inl (wp_load_row ty x ho g hx t cs fr d hg hu hd hi h)
/-- A record lies in a block. -/
def RecAt (w : World) (b : Nat) (r : Rec) (v : Value) : Prop := w.heap[b]? = some (.cells (recA r v) 34 (0, 0))
theorem RecAt.lt {w : World} {b : Nat} {r : Rec} {v : Value} (h : RecAt w b r v) : b < w.heap.size := (Array.getElem?_eq_some_iff.1 (show w.heap[b]? = _ from h)).1
theorem RecAt.below {w w' : World} {b : Nat} {r : Rec} {v : Value} (h : RecAt w b r v) (hb : Below w.heap.size w w') : RecAt w' b r v := (hb.block b h.lt).trans h
theorem RecAt.cell {w : World} {b : Nat} {r : Rec} {v : Value} (h : RecAt w b r v) (j : Nat) : w.cell? ⟨b, j, none⟩ = (recA r v)[j]? := cell_of_row w b j _ _ (0, 0) h
theorem RecAt.kind {w : World} {b : Nat} {r : Rec} {v : Value} (h : RecAt w b r v) : w.cell? ⟨b, 0, none⟩ = some (.int .i64 r.kind) := h.cell 0
theorem RecAt.tube {w : World} {b : Nat} {r : Rec} {v : Value} (h : RecAt w b r v) : w.cell? ⟨b, 17, none⟩ = some (.string ⟨r.tube.toArray⟩) := h.cell 17
theorem RecAt.body {w : World} {b : Nat} {r : Rec} {v : Value} (h : RecAt w b r v) : w.cell? ⟨b, 18, none⟩ = some v := h.cell 18
theorem RecAt.new (w : World) (r : Rec) (v : Value) : RecAt (w.alloc (.cells (recA r v) 34)) w.heap.size r v := heap_alloc_last w _
theorem below_box {w w1 : World} {o : Obj} (B : Below (w.alloc o).heap.size (w.alloc o) w1) : Below w.heap.size w w1 := ((Below.refl _ w).alloc (Nat.le_refl _) _).trans (B.mono (by simp))
theorem nums_one (n : Nat → Int) : (numsA n).all (·.oneCell') = true := by simp [numsA, Value.oneCell']
theorem rec_one (r : Rec) (a : Option Addr) (m c : Nat) : (recA r (.slice a m c)).all (·.oneCell') = true := by simp [recA, Value.oneCell']
theorem rec_kind0 (r : Rec) (v : Value) : (recA r v)[0]? = some (.int .i64 r.kind) := rfl
theorem rec_kind (r : Rec) (v : Value) : ∀ h : 0 < (recA r v).size, (recA r v)[0]'h = .int .i64 r.kind := fun _ => rfl

set_option maxHeartbeats 1000000 in
set_option maxRecDepth 1000000 in
theorem payloadSize_any (r : Rec) (a : Option Addr) (m c : Nat) (w : World) (ht : r.tube.length ≤ 1048576) (hm : m ≤ 1048576) :
    Calls Try.prog 31 #[.agg (recA r (.slice a m c))] w fun e w' => e = .returned (.int .i64 (sizeL r m : Int)) ∧ Below w.heap.size w w' := by
  have hl := fields_len r.kind
  have htz := tube_size r.tube
  have hk0 := rec_kind r (.slice a m c)
  have R0 : Hid (RecAt (w.alloc (.cells (recA r (.slice a m c)) 34)) w.heap.size r (.slice a m c)) := RecAt.new _ _ _
  obtain ⟨C, hC⟩ : ∃ C, C = recA r (.slice a m c) := ⟨_, rfl⟩
  have hsz : C.size = 19 := by rw [hC]; rfl
  rw [← hC] at hk0 R0 ⊢
  clear hC
  obtain ⟨nf, hnf⟩ : ∃ nf, nf = (fieldsL r.kind).length := ⟨_, rfl⟩
  have CF : Hid (∀ W, Calls Try.prog 45 #[.int .i64 r.kind] W fun e w' => ∃ a, e = .returned (.slice a nf nf) ∧ Below W.heap.size W w') := by
    intro W
    refine (fieldsOf_any _ _).mono ?_
    rintro e w1 ⟨fa, rfl, B1, _⟩
    exact ⟨fa, by rw [hnf], B1⟩
  rw [← hnf] at hl
  have HNF : Hid (nf = (fieldsL r.kind).length) := hnf
  clear hnf
  obtain ⟨kb, hkb⟩ : ∃ kb, (r.kind == 2) = kb := ⟨_, rfl⟩
  have HKB : Hid ((r.kind == 2) = kb) := hkb
  go_enter Try.func31, Try.ntmps31
  go_wp2_with (first
    | (go_at_call 45
       refine (CF.out _).mono ?_
       rintro e w1 ⟨fa, rfl, B1⟩
       have R1 := R0.out.below B1
       have k0 := R1.kind
       have k17 := R1.tube
       have k18 := R1.body
       have B2 : Hid (Below w.heap.size w w1) := below_box B1
       clear B1 R1))
  · go_ret
    rename_i hq
    refine ⟨?_, B2.out⟩
    have hq : r.kind = 2 := by have := HKB.out; rw [hq] at this; simpa using this
    have e : sizeL r m = 1 + 8 * nf + (1 + r.tube.length + m) := by simp [sizeL, hq, HNF.out]
    rw [e]
    push_cast
    rfl
  · go_ret
    rename_i hq
    refine ⟨?_, B2.out⟩
    have hq : ¬ r.kind = 2 := by have := HKB.out; rw [hq] at this; simpa using this
    have e : sizeL r m = 1 + 8 * nf := by simp [sizeL, hq, HNF.out]
    rw [e]
    push_cast
    rfl
end Go.Proofs.Ytjnjaojafimfeaa
