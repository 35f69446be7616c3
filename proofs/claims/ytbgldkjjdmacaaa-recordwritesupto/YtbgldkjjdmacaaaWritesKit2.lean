/-
  More of what the walk of RecordWrites holds on to: what is nobody's yet, the row turned byte by byte.
-/
import Derived.Test.YtbgldkjjdmacaaaWritesKit
import Derived.Test.YtbgldkjjdmacaaaCuts
import Derived.Test.YtbgldkjjdmacaaaDraw
namespace Go.Proofs.Ytbgldkjjdmacaaa
open Go.RowKit

/-- Bytes that are in no list, in a block of their own between lo and hi. -/
structure Fr (lab : Nat → Tag) (B lo hi : Nat) (W : World) (v : Value) (l : List UInt8) : Prop where
  own : Own W B v l
  tag : Tagged lab v (.user 0)
  rng : ∀ k, v.ownBlock = some k → lo ≤ k ∧ k < hi
section
variable {w W W' : World} {lab lab' : Nat → Tag} {Hb : Nat} {es : List Ent} {b2 b3 ib ob : Nat} {r s : Rec} {v2 v3 vi v : Value} {row : List UInt8} {M B lo hi : Nat} {l : List UInt8}
theorem Fr.later (h : Fr lab B lo hi W v l) (hb : Below W.heap.size W W') : Fr lab B lo hi W' v l := ⟨h.own.below hb, h.tag, h.rng⟩
theorem Fr.ofOwn {lo : Nat} (h : Own W lo v l) (hB : B ≤ lo) (hHb : Hb < lo) : Fr (fun k => if k = Hb then .box else .user 0) B lo W.heap.size W v l :=
  ⟨h.mono hB, fun g hg => if_neg (by have := (h.lt g hg).1; omega), fun k hk => h.lt k hk⟩
theorem Fr.kept (h : Fr lab B lo hi W v l) (hk : Kept (NotUser lab) W W') {u : Value} (hl : ∀ k, k < W.heap.size → u.ownBlock ≠ some k → lab' k = lab k) (hu : ∀ k, u.ownBlock = some k → k < lo ∨ hi ≤ k) : Fr lab' B lo hi W' v l := by
  refine ⟨hk.Own h.own (fun g hg hn => hn 0 (h.tag g hg)), fun g hg => ?_, h.rng⟩
  have hlt := (h.own.lt g hg).2
  have hr := h.rng g hg
  rw [hl g hlt (fun e => by have := hu g e; omega)]
  exact h.tag g hg
theorem own_conv {a : Option Addr} {n c : Nat} (h : Own W B (.slice a n c) l) : (convert 30 9 (.slice a n c)).run Try.prog W = .ok (.string ⟨l.toArray⟩) W := by
  obtain ⟨a1, c1, e, hi⟩ := h.shape
  simp only [Value.slice.injEq] at e
  obtain ⟨rfl, rfl, rfl⟩ := e
  exact conv_is hi rfl
theorem Wr.keep (h : Wr w lab Hb es b2 b3 ib ob r s v2 v3 vi row M W) (a : Option Addr) (c n : Nat) (l : List UInt8) (hn : n = l.length) (hv : Fr lab w.heap.size lo hi W (.slice a n c) l) (hl : l.length ≤ M) (hM : M ≤ 140737488355328) (he : es.length ≤ 9)
    (hlo : b2 < lo ∧ b3 < lo ∧ ib < lo ∧ ob < lo) :
    Calls Try.prog 20 #[.pointer (some ⟨Hb, 0, none⟩), .slice a n c] W fun e w' => e = .returned (.tuple #[]) ∧
      ∃ lab' es', Wr w lab' Hb es' b2 b3 ib ob r s v2 v3 vi row M w' ∧ es'.length = es.length + 1 ∧ (∀ k, k < W.heap.size → (Value.slice a n c).ownBlock ≠ some k → lab' k = lab k) ∧ Kept (NotUser lab) W w' := by
  subst hn
  refine (keepC W w.heap.size lab Hb es a c l M h.held h.below.size hv.own hv.tag hl hM (by omega) h.most).mono ?_
  rintro e w' ⟨rfl, lab', es', hh, h1, h2, h3, hk⟩
  refine ⟨rfl, lab', es', h.kept hh (by omega) h2 h3 (fun k hk2 => ?_) hk, h1, h3, hk⟩
  have := hv.rng k hk2
  have := (hv.own.lt k hk2).1
  omega
/-- One byte of the row is written over. -/
theorem Wr.set (h : Wr w lab Hb es b2 b3 ib ob r s v2 v3 vi row M W) (hne : b2 ≠ ob ∧ b3 ≠ ob ∧ ib ≠ ob ∧ w.heap.size ≤ ob) (k : Nat) (x : UInt8) : Wr w lab Hb es b2 b3 ib ob r s v2 v3 vi (row.set k x) M (W.setCell ⟨ob, k, none⟩ (.int .u8 (x.toNat : Int))) := by
  obtain ⟨h1, h2⟩ := h.hrow.set k x
  have K : Kept (fun k => k = ob) W (W.setCell ⟨ob, k, none⟩ (.int .u8 (x.toNat : Int))) := Kept.ofGrown h2 (fun g e => by cases e; rfl)
  refine ⟨h.held.kept K (fun k hk e => hk 0 (h.usr k (by simp [e]))), h.below.trans (K.below h.below.size (fun k hk e => by omega)), (K.block b2 h.h2.lt hne.1).trans h.h2, (K.block b3 h.h3.lt hne.2.1).trans h.h3, (K.block ib h.hi.lt hne.2.2.1).trans h.hi, h1, h.usr, h.len, h.most⟩
end
theorem xor55 (x : UInt8) : bits .xor .u8 (x.toNat : Int) 85 = (((x ^^^ 85 : UInt8).toNat : Nat) : Int) := by
  have hx := x.toNat_lt
  have h : x.toNat ^^^ 85 < 256 := Nat.xor_lt_two_pow (n := 8) hx (by decide)
  have ha' : x.toNat % 2 ^ IntKind.u8.bits = x.toNat := Nat.mod_eq_of_lt hx
  have e : bits .xor .u8 (x.toNat : Int) ((85 : Nat) : Int) = ((x.toNat ^^^ 85 : Nat) : Int) := by
    simp only [bits, BitVec.ofInt_natCast, BitVec.toNat_xor, BitVec.toNat_ofNat, ha', show 85 % 2 ^ IntKind.u8.bits = 85 from rfl]
    rw [IntKind.wrap_u8]
    omega
  rw [show (85 : Int) = ((85 : Nat) : Int) from rfl, e]
  rfl
theorem D_append8 {w : World} {ops : Array Oper} {i : Nat} {o : Oper} {a : Act} {K : Act → World → Prop} {Q : Exit → Act → World → Prop} (d : Option Tmp) (hi : ops[i]? = some o) (hd : o.dst = d) (hg : Region.wanted o (yielded ops a.tmps) = true) (s x : Operand)
    (ho : o.op = .call { callee := .builtin .append, args := #[s, x], argTypes := #[30, 30] })
    (B : Nat) (v : Value) (l : List UInt8) (hs : a.eval s = v) (hown : Own w B v l) (ad : Option Addr) (c : Nat) (m : List UInt8) (hx : a.eval x = .slice ad m.length c) (hm : IsBytes w ad c m)
    (hb : l.length + m.length ≤ 140737488355328) (hbase : B ≤ w.heap.size)
    (h : ∀ v' w', Own w' B v' (l ++ m) → w.grownBy w' v.ownBlock → K (a.put d v') w') : wpOp Try.prog ops Q i K a w := by
  subst hd
  obtain ⟨i8, hi8, hz0, hz1, hz2⟩ := info_parts info_u8
  obtain ⟨v', w', hr, h2, h3, _, _, _⟩ := run_append_keeps (P := Try.prog) w B 30 o.type 5 i8 (.int .u8 0) Try.underlying30 hi8 hz0 hz1 rfl v l.length (u8s l) hown ad m.length c (u8s m) (u8s_length m) hm.src (u8s_one m) (by unfold maxLen; omega) (by rw [hz2]; omega) hbase
  refine op_value (v := v') (w' := w') hi hg ?_ (h v' w' ?_ h3)
  · unfold execOp
    simp only [ho, resolve, invoke, builtin, Sem.run_bind, Sem.run_pure, Result.andThen_ok, List.map_toArray, List.map_cons, List.map_nil, hs, hx, hr]
  · unfold Own
    rw [List.length_append, show u8s (l ++ m) = u8s l ++ u8s m by simp [u8s]]
    exact h2
/-- The first k bytes turned. -/
def turnedTo (l : List UInt8) (k : Nat) : List UInt8 := (l.take k).map (· ^^^ 0x55) ++ l.drop k
theorem turnedTo_zero (l : List UInt8) : turnedTo l 0 = l := by simp [turnedTo]
theorem turnedTo_len (l : List UInt8) (k : Nat) : (turnedTo l k).length = l.length := by
  unfold turnedTo
  simp
  omega
theorem turnedTo_at (l : List UInt8) (k : Nat) (x : UInt8) (h : l[k]? = some x) : (turnedTo l k)[k]? = some x := by
  unfold turnedTo
  have hk := (List.getElem?_eq_some_iff.1 h).1
  rw [List.getElem?_append_right (by simp; omega)]
  have : k - (List.map (· ^^^ 0x55) (l.take k)).length = 0 := by simp; omega
  rw [this, List.getElem?_drop]
  exact h
theorem turnedTo_set (l : List UInt8) (k : Nat) (x : UInt8) (h : l[k]? = some x) : (turnedTo l k).set k (x ^^^ 0x55) = turnedTo l (k + 1) := by
  have hk := (List.getElem?_eq_some_iff.1 h).1
  apply List.ext_getElem?
  intro j
  by_cases hj : j = k
  · subst hj
    rw [List.getElem?_set_self (by rw [turnedTo_len]; exact hk)]
    unfold turnedTo
    rw [List.getElem?_append_left (by simp; omega), List.getElem?_map, List.getElem?_take_of_lt (by omega), h]
    rfl
  · rw [List.getElem?_set_ne (Ne.symm hj)]
    unfold turnedTo
    by_cases hl : j < k
    · rw [List.getElem?_append_left (by simp; omega), List.getElem?_append_left (by simp; omega), List.getElem?_map, List.getElem?_map, List.getElem?_take_of_lt (by omega), List.getElem?_take_of_lt (by omega)]
    · rw [List.getElem?_append_right (by simp; omega), List.getElem?_append_right (by simp; omega), List.getElem?_drop, List.getElem?_drop]
      congr 1
      simp
      omega
end Go.Proofs.Ytbgldkjjdmacaaa
