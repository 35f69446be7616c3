/-
  WritesKit, WritesKit2.
-/
import Derived.Test.YtjnjaojafimfeaaBKeep
import Derived.Test.YtjnjaojafimfeaaBSpoiling
import Derived.Test.YtjnjaojafimfeaaPutW
import Derived.Test.YtjnjaojafimfeaaRefPut
import Derived.Test.YtjnjaojafimfeaaLent
import Derived.Test.YtjnjaojafimfeaaCuts
import Derived.Test.YtjnjaojafimfeaaDraw
namespace Go.Proofs.Ytjnjaojafimfeaa
open Go.RowKit

variable {fv : Value}
/-- What Put answers, as bytes. -/
def outL (r : Rec) (body : List UInt8) : List UInt8 := if checkE r body.length = 0 then putL r body else []
theorem putC (r : Rec) (a : Option Addr) (c : Nat) (body : List UInt8) (W : World) (hI : IsBytes W a c body) :
    Calls Try.prog 18 #[.agg (recA r (.slice a body.length c))] W fun e w' => ∃ a2 c2, e = .returned (.tuple #[.slice a2 (outL r body).length c2, .int .i64 (checkE r body.length)]) ∧ Own w' W.heap.size (.slice a2 (outL r body).length c2) (outL r body) ∧ Below W.heap.size W w' := by
  by_cases h0 : checkE r body.length = 0
  · refine (put_yes r a c body W hI h0).mono ?_
    rintro e w' ⟨v, rfl, o, hB⟩
    obtain ⟨a2, c2, rfl, _⟩ := o.shape
    have e : outL r body = putL r body := if_pos h0
    rw [e, h0]
    exact ⟨a2, c2, rfl, o.mono (Nat.le_succ _), hB⟩
  · refine (put_no r a body.length c W h0).mono ?_
    rintro e w' ⟨rfl, hB⟩
    have e : outL r body = [] := if_neg h0
    rw [e]
    exact ⟨none, 0, rfl, Own.nil _ _, hB⟩
theorem refPutC (r : Rec) (a : Option Addr) (c : Nat) (body : List UInt8) (W : World) (hI : IsBytes W a c body) (hbl : body.length ≤ 140737488300000) :
    Calls Try.prog 19 #[.agg (recA r (.slice a body.length c))] W fun e w' => ∃ a2 c2, e = .returned (.tuple #[.slice a2 (outL r body).length c2, .int .i64 (checkE r body.length)]) ∧ Own w' W.heap.size (.slice a2 (outL r body).length c2) (outL r body) ∧ Below W.heap.size W w' := by
  by_cases h0 : checkE r body.length = 0
  · refine (refPut_yes r body a c W hI hbl h0).mono ?_
    rintro e w' ⟨v, rfl, o, hB⟩
    obtain ⟨a2, c2, rfl, _⟩ := o.shape
    have e : outL r body = putL r body := if_pos h0
    rw [e, h0]
    exact ⟨a2, c2, rfl, o, hB⟩
  · refine (refPut_no r a body.length c W h0).mono ?_
    rintro e w' ⟨rfl, hB⟩
    have e : outL r body = [] := if_neg h0
    rw [e]
    exact ⟨none, 0, rfl, Own.nil _ _, hB⟩
/-- What was nobody's gets a tag. -/
theorem Held.retag {w : World} {B : Nat} {lab lab' : Nat → Tag} {Hb n : Nat} {es : List Ent} (h : Held fv w B lab Hb n es) (hl : ∀ k, (∀ i, lab k ≠ .user i) → lab' k = lab k) : Held fv w B lab' Hb n es := by
  have tg : ∀ v t, Tagged lab v t → (∀ i, t ≠ .user i) → Tagged lab' v t := fun v t ht hn g hg => by
    have := ht g hg
    rw [hl g (fun i => by rw [this]; exact hn i)]
    exact this
  obtain ⟨vo, vw, hr, hes⟩ := h
  refine ⟨vo, vw, ⟨hr.1, ?_, hr.2.2.1, ⟨hr.2.2.2.1.1, tg _ _ hr.2.2.2.1.2 (fun i => by simp)⟩, ⟨hr.2.2.2.2.1, tg _ _ hr.2.2.2.2.2 (fun i => by simp)⟩⟩, fun j e he => ?_⟩
  · rw [hl Hb (fun i => by rw [hr.2.1]; simp)]
    exact hr.2.1
  · obtain ⟨⟨o1, l1⟩, o2, l2⟩ := hes j e he
    refine ⟨⟨o1, fun g hg => ?_⟩, o2, tg _ _ l2 (fun i => by simp)⟩
    rcases l1 g hg with e1 | ⟨e0, e1⟩
    · left
      rw [hl g (fun i => by rw [e1]; simp)]
      exact e1
    · right
      refine ⟨e0, ?_⟩
      rw [hl g (fun i => by rw [e1]; simp)]
      exact e1
/-- keep, of bytes that were nobody's. -/
theorem keepC (w : World) (B : Nat) (lab : Nat → Tag) (Hb : Nat) (es : List Ent) (a : Option Addr) (c : Nat) (l : List UInt8) (M : Nat) (hh : Held fv w B lab Hb 0 es) (hB : B ≤ w.heap.size)
    (hv : Own w B (.slice a l.length c) l) (ht : Tagged lab (.slice a l.length c) (.user 0)) (hl : l.length ≤ M) (hM : M ≤ 140737488355328) (he : es.length ≤ 1000) (hM2 : ∀ (j : Nat) e, es[j]? = some e → e.bytes.length ≤ M) :
    Calls Try.prog 20 #[.pointer (some ⟨Hb, 0, none⟩), .slice a l.length c] w fun e w' => e = .returned (.tuple #[]) ∧
      ∃ lab' es', Held fv w' B lab' Hb 0 es' ∧ es'.length = es.length + 1 ∧ (∀ (j : Nat) e, es'[j]? = some e → e.bytes.length ≤ M) ∧ (∀ k, k < w.heap.size → (Value.slice a l.length c).ownBlock ≠ some k → lab' k = lab k) ∧ Kept (NotUser lab) w w' := by
  obtain ⟨lab1, hlab1⟩ : ∃ lab1 : Nat → Tag, lab1 = fun k => if (Value.slice a l.length c).ownBlock = some k then .out es.length else lab k := ⟨_, rfl⟩
  have h1 : Held fv w B lab1 Hb 0 es := hh.retag (fun k hk => by
    rw [hlab1]
    simp only []
    rw [if_neg (fun e => hk 0 (ht k e))])
  have t1 : Tagged lab1 (.slice a l.length c) (.out es.length) := fun g hg => by
    rw [hlab1]
    exact if_pos hg
  refine (keep_any w B lab1 Hb 0 es a c l h1 hB hv t1 (by omega) (by omega)).mono ?_
  rintro e w' ⟨rfl, lab', cw, h2, l2, k2⟩
  refine ⟨rfl, lab', _, h2, by simp, fun j f hf => ?_, fun k hk hne => ?_, k2.mono (fun k _ hk i => ?_)⟩
  · by_cases hj : j < es.length
    · rw [List.getElem?_append_left hj] at hf
      exact hM2 j f hf
    · rw [List.getElem?_append_right (by omega)] at hf
      have hj0 : j - es.length = 0 := by have := (List.getElem?_eq_some_iff.1 hf).1; simp at this; omega
      rw [hj0] at hf
      simp only [List.getElem?_cons_zero, Option.some.injEq] at hf
      subst hf
      exact hl
  · rw [l2 k hk, hlab1]
    exact if_neg hne
  · unfold Lists at hk
    rw [hlab1] at hk
    simp only [] at hk
    by_cases e : (Value.slice a l.length c).ownBlock = some k
    · rw [if_pos e] at hk
      simp at hk
    · rw [if_neg e] at hk
      rcases hk with hk | hk | hk <;> rw [hk] <;> simp
theorem out_len (r : Rec) (body : List UInt8) (h : r.tube.length + body.length ≤ 1048576) : (outL r body).length ≤ 2000000 := by
  unfold outL
  split
  · rw [put_length]
    have := fields_len r.kind
    unfold sizeL
    split <;> omega
  · simp
/-- All that lies about in RecordWrites: the book, three records in boxes, the bytes that were lent. -/
structure Wr (w : World) (lab : Nat → Tag) (Hb : Nat) (es : List Ent) (b2 b3 ib ob : Nat) (r s : Rec) (v2 v3 vi : Value) (row : List UInt8) (M : Nat) (W : World) : Prop where
  held : Held (.int .i64 0) W w.heap.size lab Hb 0 es
  below : Below w.heap.size w W
  h2 : RecAt W b2 r v2
  h3 : RecAt W b3 s v3
  hi : RecAt W ib r vi
  hrow : ByteRow W 5 ob row
  usr : ∀ k, k < w.heap.size ∨ k = b2 ∨ k = b3 ∨ k = ib ∨ k = ob → lab k = .user 0
  len : es.length ≤ 10
  most : ∀ (j : Nat) e, es[j]? = some e → e.bytes.length ≤ M
section
variable {w W W' : World} {lab : Nat → Tag} {Hb : Nat} {es : List Ent} {b2 b3 ib ob : Nat} {r s : Rec} {v2 v3 vi : Value} {row : List UInt8} {M : Nat}
theorem ByteRow.blk {t : TypeId} {g : Nat} {l : List UInt8} (h : ByteRow W t g l) (hb : W'.heap[g]? = W.heap[g]?) : ByteRow W' t g l := by
  unfold ByteRow at *
  exact hb.trans h
theorem ByteRow.lt' {t : TypeId} {g : Nat} {l : List UInt8} (h : ByteRow W t g l) : g < W.heap.size := by
  unfold ByteRow at h
  exact (Array.getElem?_eq_some_iff.1 h).1
theorem Wr.later (h : Wr w lab Hb es b2 b3 ib ob r s v2 v3 vi row M W) (hb : Below W.heap.size W W') : Wr w lab Hb es b2 b3 ib ob r s v2 v3 vi row M W' :=
  ⟨h.held.below hb, h.below.trans (hb.mono h.below.size), h.h2.below hb, h.h3.below hb, h.hi.below hb, h.hrow.blk (hb.block ob h.hrow.lt'), h.usr, h.len, h.most⟩
/-- Something was laid by. -/
theorem Wr.kept (h : Wr w lab Hb es b2 b3 ib ob r s v2 v3 vi row M W) {lab' : Nat → Tag} {es' : List Ent} {v : Value} (hh : Held (.int .i64 0) W' w.heap.size lab' Hb 0 es') (hl : es'.length ≤ 10) (hm : ∀ (j : Nat) e, es'[j]? = some e → e.bytes.length ≤ M) (hlab : ∀ k, k < W.heap.size → v.ownBlock ≠ some k → lab' k = lab k)
    (hv : ∀ k, v.ownBlock = some k → w.heap.size ≤ k ∧ k ≠ b2 ∧ k ≠ b3 ∧ k ≠ ib ∧ k ≠ ob) (hk : Kept (NotUser lab) W W') : Wr w lab' Hb es' b2 b3 ib ob r s v2 v3 vi row M W' := by
  have st : ∀ k, lab k = .user 0 → ¬ NotUser lab k := fun k e hn => hn 0 e
  have s2 := h.h2.lt
  have s3 := h.h3.lt
  have si := h.hi.lt
  have so := h.hrow.lt'
  refine ⟨hh, h.below.trans (hk.below h.below.size (fun k hk2 => st k (h.usr k (.inl hk2)))), (hk.block b2 s2 (st _ (h.usr _ (by simp)))).trans h.h2, (hk.block b3 s3 (st _ (h.usr _ (by simp)))).trans h.h3, (hk.block ib si (st _ (h.usr _ (by simp)))).trans h.hi, h.hrow.blk (hk.block ob so (st _ (h.usr _ (by simp)))), fun k hk2 => ?_, hl, hm⟩
  have hsz := h.below.size
  rw [hlab k (by rcases hk2 with e | rfl | rfl | rfl | rfl <;> omega) (fun e => by have := hv k e; omega)]
  exact h.usr k hk2
end
end Go.Proofs.Ytjnjaojafimfeaa

namespace Go.Proofs.Ytjnjaojafimfeaa
open Go.RowKit

/-- Bytes that are in no list, in a block of their own between lo and hi. -/
structure Fr (lab : Nat → Tag) (B lo hi : Nat) (W : World) (v : Value) (l : List UInt8) : Prop where
  own : Own W B v l
  tag : Tagged lab v (.user 0)
  rng : ∀ k, v.ownBlock = some k → lo ≤ k ∧ k < hi
section
variable {w W W' : World} {lab lab' : Nat → Tag} {Hb : Nat} {es : List Ent} {b2 b3 ib ob : Nat} {r s : Rec} {v2 v3 vi v : Value} {row : List UInt8} {M B lo hi : Nat} {l : List UInt8}
theorem Fr.later (h : Fr lab B lo hi W v l) (hb : Below W.heap.size W W') : Fr lab B lo hi W' v l := ⟨h.own.below hb, h.tag, h.rng⟩
theorem Fr.ofOwn {lo : Nat} (h : Own W lo v l) (hB : B ≤ lo) (hHb : Hb < lo) : Fr (fun k => if k = Hb then .box else .user 0) B lo W.heap.size W v l :=
  ⟨h.mono hB, fun g hg => if_neg (by have := (h.lt g hg).1; omega), fun k hk => h.lt k hk⟩
theorem Fr.kept (h : Fr lab B lo hi W v l) (hk : Kept (NotUser lab) W W') {u : Value} (hl : ∀ k, k < W.heap.size → u.ownBlock ≠ some k → lab' k = lab k) (hu : ∀ k, u.ownBlock = some k → k < lo ∨ hi ≤ k) : Fr lab' B lo hi W' v l := by
  refine ⟨hk.Own h.own (fun g hg hn => hn 0 (h.tag g hg)), fun g hg => ?_, h.rng⟩
  have hlt := (h.own.lt g hg).2
  have hr := h.rng g hg
  rw [hl g hlt (fun e => by have := hu g e; omega)]
  exact h.tag g hg
theorem own_conv {a : Option Addr} {n c : Nat} (h : Own W B (.slice a n c) l) : (convert 30 9 (.slice a n c)).run Try.prog W = .ok (.string ⟨l.toArray⟩) W := by
  obtain ⟨a1, c1, e, hi⟩ := h.shape
  simp only [Value.slice.injEq] at e
  obtain ⟨rfl, rfl, rfl⟩ := e
  exact conv_is hi rfl
theorem Wr.keep (h : Wr w lab Hb es b2 b3 ib ob r s v2 v3 vi row M W) (a : Option Addr) (c n : Nat) (l : List UInt8) (hn : n = l.length) (hv : Fr lab w.heap.size lo hi W (.slice a n c) l) (hl : l.length ≤ M) (hM : M ≤ 140737488355328) (he : es.length ≤ 9)
    (hlo : b2 < lo ∧ b3 < lo ∧ ib < lo ∧ ob < lo) :
    Calls Try.prog 20 #[.pointer (some ⟨Hb, 0, none⟩), .slice a n c] W fun e w' => e = .returned (.tuple #[]) ∧
      ∃ lab' es', Wr w lab' Hb es' b2 b3 ib ob r s v2 v3 vi row M w' ∧ es'.length = es.length + 1 ∧ (∀ k, k < W.heap.size → (Value.slice a n c).ownBlock ≠ some k → lab' k = lab k) ∧ Kept (NotUser lab) W w' := by
  subst hn
  refine (keepC W w.heap.size lab Hb es a c l M h.held h.below.size hv.own hv.tag hl hM (by omega) h.most).mono ?_
  rintro e w' ⟨rfl, lab', es', hh, h1, h2, h3, hk⟩
  refine ⟨rfl, lab', es', h.kept hh (by omega) h2 h3 (fun k hk2 => ?_) hk, h1, h3, hk⟩
  have := hv.rng k hk2
  have := (hv.own.lt k hk2).1
  omega
/-- One byte of the row is written over. -/
theorem Wr.set (h : Wr w lab Hb es b2 b3 ib ob r s v2 v3 vi row M W) (hne : b2 ≠ ob ∧ b3 ≠ ob ∧ ib ≠ ob ∧ w.heap.size ≤ ob) (k : Nat) (x : UInt8) : Wr w lab Hb es b2 b3 ib ob r s v2 v3 vi (row.set k x) M (W.setCell ⟨ob, k, none⟩ (.int .u8 (x.toNat : Int))) := by
  obtain ⟨h1, h2⟩ := h.hrow.set k x
  have K : Kept (fun k => k = ob) W (W.setCell ⟨ob, k, none⟩ (.int .u8 (x.toNat : Int))) := Kept.ofGrown h2 (fun g e => by cases e; rfl)
  refine ⟨h.held.kept K (fun k hk e => hk 0 (h.usr k (by simp [e]))), h.below.trans (K.below h.below.size (fun k hk e => by omega)), (K.block b2 h.h2.lt hne.1).trans h.h2, (K.block b3 h.h3.lt hne.2.1).trans h.h3, (K.block ib h.hi.lt hne.2.2.1).trans h.hi, h1, h.usr, h.len, h.most⟩
end
theorem xor55 (x : UInt8) : bits .xor .u8 (x.toNat : Int) 85 = (((x ^^^ 85 : UInt8).toNat : Nat) : Int) := by
  have hx := x.toNat_lt
  have h : x.toNat ^^^ 85 < 256 := Nat.xor_lt_two_pow (n := 8) hx (by decide)
  have ha' : x.toNat % 2 ^ IntKind.u8.bits = x.toNat := Nat.mod_eq_of_lt hx
  have e : bits .xor .u8 (x.toNat : Int) ((85 : Nat) : Int) = ((x.toNat ^^^ 85 : Nat) : Int) := by
    simp only [bits, BitVec.ofInt_natCast, BitVec.toNat_xor, BitVec.toNat_ofNat, ha', show 85 % 2 ^ IntKind.u8.bits = 85 from rfl]
    rw [IntKind.wrap_u8]
    omega
  rw [show (85 : Int) = ((85 : Nat) : Int) from rfl, e]
  rfl
theorem D_append8 {w : World} {ops : Array Oper} {i : Nat} {o : Oper} {a : Act} {K : Act → World → Prop} {Q : Exit → Act → World → Prop} (d : Option Tmp) (hi : ops[i]? = some o) (hd : o.dst = d) (hg : Region.wanted o (yielded ops a.tmps) = true) (s x : Operand)
    (ho : o.op = .call { callee := .builtin .append, args := #[s, x], argTypes := #[30, 30] })
    (B : Nat) (v : Value) (l : List UInt8) (hs : a.eval s = v) (hown : Own w B v l) (ad : Option Addr) (c : Nat) (m : List UInt8) (hx : a.eval x = .slice ad m.length c) (hm : IsBytes w ad c m)
    (hb : l.length + m.length ≤ 140737488355328) (hbase : B ≤ w.heap.size)
    (h : ∀ v' w', Own w' B v' (l ++ m) → w.grownBy w' v.ownBlock → K (a.put d v') w') : wpOp Try.prog ops Q i K a w := by
  subst hd
  obtain ⟨i8, hi8, hz0, hz1, hz2⟩ := info_parts info_u8
  obtain ⟨v', w', hr, h2, h3, _, _, _⟩ := run_append_keeps (P := Try.prog) w B 30 o.type 5 i8 (.int .u8 0) Try.underlying30 hi8 hz0 hz1 rfl v l.length (u8s l) hown ad m.length c (u8s m) (u8s_length m) hm.src (u8s_one m) (by unfold maxLen; omega) (by rw [hz2]; omega) hbase
  refine op_value (v := v') (w' := w') hi hg ?_ (h v' w' ?_ h3)
  · unfold execOp
    simp only [ho, resolve, invoke, builtin, Sem.run_bind, Sem.run_pure, Result.andThen_ok, List.map_toArray, List.map_cons, List.map_nil, hs, hx, hr]
  · unfold Own
    rw [List.length_append, show u8s (l ++ m) = u8s l ++ u8s m by simp [u8s]]
    exact h2
/-- The first k bytes turned. -/
def turnedTo (l : List UInt8) (k : Nat) : List UInt8 := (l.take k).map (· ^^^ 0x55) ++ l.drop k
theorem turnedTo_zero (l : List UInt8) : turnedTo l 0 = l := by simp [turnedTo]
theorem turnedTo_len (l : List UInt8) (k : Nat) : (turnedTo l k).length = l.length := by
  unfold turnedTo
  simp
  omega
theorem turnedTo_at (l : List UInt8) (k : Nat) (x : UInt8) (h : l[k]? = some x) : (turnedTo l k)[k]? = some x := by
  unfold turnedTo
  have hk := (List.getElem?_eq_some_iff.1 h).1
  rw [List.getElem?_append_right (by simp; omega)]
  have : k - (List.map (· ^^^ 0x55) (l.take k)).length = 0 := by simp; omega
  rw [this, List.getElem?_drop]
  exact h
theorem turnedTo_set (l : List UInt8) (k : Nat) (x : UInt8) (h : l[k]? = some x) : (turnedTo l k).set k (x ^^^ 0x55) = turnedTo l (k + 1) := by
  have hk := (List.getElem?_eq_some_iff.1 h).1
  apply List.ext_getElem?
  intro j
  by_cases hj : j = k
  · subst hj
    rw [List.getElem?_set_self (by rw [turnedTo_len]; exact hk)]
    unfold turnedTo
    rw [List.getElem?_append_left (by simp; omega), List.getElem?_map, List.getElem?_take_of_lt (by omega), h]
    rfl
  · rw [List.getElem?_set_ne (Ne.symm hj)]
    unfold turnedTo
    by_cases hl : j < k
    · rw [List.getElem?_append_left (by simp; omega), List.getElem?_append_left (by simp; omega), List.getElem?_map, List.getElem?_map, List.getElem?_take_of_lt (by omega), List.getElem?_take_of_lt (by omega)]
    · rw [List.getElem?_append_right (by simp; omega), List.getElem?_append_right (by simp; omega), List.getElem?_drop, List.getElem?_drop]
      congr 1
      simp
      omega
end Go.Proofs.Ytjnjaojafimfeaa
