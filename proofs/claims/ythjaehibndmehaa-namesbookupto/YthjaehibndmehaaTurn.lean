/-
  One turn of both books.
-/
import Derived.Test.YthjaehibndmehaaRefDrops
import Derived.Test.YthjaehibndmehaaFrom
import Derived.Test.YthjaehibndmehaaRowed
namespace Go.Proofs.Ythjaehibndmehaa
open Go.RowKit

/-- What is neither the document's book nor a map stays. -/
def Plain (o : Obj) : Prop := (∀ c, o ≠ .cells c 62 (0, 0)) ∧ (∀ c, o ≠ .cells c 46 (0, 0)) ∧ ∀ es cl, o ≠ .map es cl
def Steady (w w' : World) : Prop := w.heap.size ≤ w'.heap.size ∧ ∀ (k : Nat) (o : Obj), w.heap[k]? = some o → Plain o → w'.heap[k]? = some o
theorem Steady.refl (w : World) : Steady w w := ⟨Nat.le_refl _, fun _ _ h _ => h⟩
theorem Steady.trans {a b c : World} (h : Steady a b) (k : Steady b c) : Steady a c := ⟨Nat.le_trans h.1 k.1, fun i o ho hp => k.2 i o (h.2 i o ho hp) hp⟩
theorem Steady.ofBelow {a b : World} (h : Below a.heap.size a b) : Steady a b := ⟨h.size, fun k _ ho _ => (h.block k (Array.getElem?_eq_some_iff.1 ho).1).trans ho⟩
theorem Steady.ofKept {P : Nat → Prop} {a b : World} (h : Kept P a b) (hP : ∀ (k : Nat) (o : Obj), a.heap[k]? = some o → P k → ¬ Plain o) : Steady a b :=
  ⟨h.size, fun k o ho hp => (h.block k (Array.getElem?_eq_some_iff.1 ho).1 (fun e => hP k o ho e hp)).trans ho⟩
theorem RefB.steady {w w' : World} {lo db : Nat} {lv : Value} {S : List RowT} (h : RefB w lo db lv S) (hk : Kept (MineR db lv) w w') : Steady w w' := by
  refine Steady.ofKept hk ?_
  rintro k o ho (rfl | e) hp
  · rw [h.box] at ho
    exact hp.1 _ (Option.some.inj ho).symm
  · obtain ⟨cur, hc, _⟩ := h.block e
    rw [hc] at ho
    exact hp.2.1 _ (Option.some.inj ho).symm
theorem BookAt.steady {w w' : World} {b mb n : Nat} {g : Text → Option Int} (h : BookAt w b mb n g) (hk : Kept (fun k => k = mb) w w') : Steady w w' := by
  refine Steady.ofKept hk ?_
  rintro k o ho rfl hp
  obtain ⟨es, cl, hm⟩ := h.tab.map
  rw [hm] at ho
  exact hp.2.2 _ _ (Option.some.inj ho).symm
/-- Both books, with the same names, behind k turns. -/
structure Pair (w0 w : World) (b mb n db : Nat) (lv : Value) (S : List RowT) (g : Text → Option Int) (k : Nat) : Prop where
  q : From w0 w b mb n g
  d : RefB w w0.heap.size db lv S
  l : Listed g S
  ap : ¬ MineR db lv b
  low : ∀ k, MineR db lv k → w0.heap.size ≤ k
  few : n ≤ k
  most : ∀ t, held g t ≤ k

section
variable {w0 w w' : World} {b mb n db k : Nat} {lv : Value} {S : List RowT} {g : Text → Option Int}
theorem Pair.len (h : Pair w0 w b mb n db lv S g k) : S.length ≤ k := by
  obtain ⟨S', h1, h2, _⟩ := h.q.q.listed
  rw [h.l.unique h1, h2]
  exact h.few
theorem Pair.later (h : Pair w0 w b mb n db lv S g k) (hb : Below w.heap.size w w') : Pair w0 w' b mb n db lv S g k :=
  ⟨⟨h.q.q.below hb, h.q.below.trans (hb.mono h.q.below.size), h.q.hb, h.q.hm⟩, h.d.below hb, h.l, h.ap, h.low, h.few, h.most⟩
/-- The map lies apart from the document's book. -/
theorem Pair.apart (h : Pair w0 w b mb n db lv S g k) : ¬ MineR db lv mb := by
  obtain ⟨es, cl, hm⟩ := h.q.q.tab.map
  rintro (e | e)
  · have := h.d.box
    rw [← e, hm] at this
    simp at this
  · obtain ⟨cur, hc, _⟩ := h.d.block e
    rw [hm] at hc
    simp at hc
/-- Both have turned. -/
theorem Pair.both (h : Pair w0 w b mb n db lv S g k) {w1 w2 : World} {n' : Nat} {g' : Text → Option Int} (hq : BookAt w1 b mb n' g') (hk : Kept (fun k => k = mb) w w1) (hr : WentR w1 w0.heap.size db lv g' w2) (hf : n' ≤ k + 1) (hm : ∀ t, held g' t ≤ ((k + 1 : Nat) : Int)) :
    (∃ lv' S', Pair w0 w2 b mb n' db lv' S' g' (k + 1) ∧ ∀ j, MineR db lv' j → MineR db lv j ∨ w.heap.size ≤ j) ∧ Steady w w2 ∧ Kept (fun k => k = mb ∨ MineR db lv k) w w2 := by
  obtain ⟨lv', S', h1, h2, h3, h4⟩ := hr
  have f1 := h.q.step hq hk
  have s1 := f1.below.size
  refine ⟨?_, (h.q.q.steady hk).trans ((h.d.kept hk (fun j hm e => h.apart (e ▸ hm))).steady h3), (hk.mono (fun k _ e => .inl e)).trans (h3.mono (fun k _ e => .inr e))⟩
  refine ⟨lv', S', ?_, fun j hj => (h4 j hj).imp id (fun e => Nat.le_trans hk.size e)⟩
  refine ⟨⟨hq.kept h3 h.ap h.apart, f1.below.trans (h3.below s1 (fun j hj e => by have := h.low j e; omega)), h.q.hb, h.q.hm⟩, h1, h2, fun e => ?_, fun j hj => ?_, hf, hm⟩
  · rcases h4 b e with e | e
    · exact h.ap e
    · have := cell_lt hq.cell
      simp only at this
      omega
  · rcases h4 j hj with e | e
    · exact h.low j e
    · omega
theorem setN_le (g : Text → Option Int) (n k : Nat) (t : Text) (u : Int) (h : n ≤ k) : setN g n t u ≤ k + 1 := by
  unfold setN
  split <;> split <;> omega
theorem Pair.holdN_le (h : Pair w0 w b mb n db lv S g k) (t : Text) : holdN g n t ≤ k + 1 := by
  have := h.few
  unfold holdN
  split
  · exact setN_le g n k t _ this
  · omega
theorem Pair.dropN_le (h : Pair w0 w b mb n db lv S g k) (t : Text) : dropN g n t ≤ k + 1 := by
  have := h.few
  unfold dropN
  split
  · omega
  · exact setN_le g n k t _ this
theorem Pair.held_hold (h : Pair w0 w b mb n db lv S g k) (t x : Text) : held (holdG g t) x ≤ ((k + 1 : Nat) : Int) := by
  have h1 := h.most x
  have h2 := h.most t
  unfold holdG
  split
  · rw [held_set]
    split <;> omega
  · omega
theorem Pair.held_drop (h : Pair w0 w b mb n db lv S g k) (t x : Text) : held (dropG g t) x ≤ ((k + 1 : Nat) : Int) := by
  have h1 := h.most x
  have h2 := h.most t
  unfold dropG
  split
  · omega
  · rw [held_set]
    split <;> omega
end
set_option maxHeartbeats 4000000 in
set_option maxRecDepth 1000000 in
theorem turn_any (w0 w : World) (b mb n db : Nat) (lv : Value) (S : List RowT) (g : Text → Option Int) (k : Nat) (s : ByteArray) (x : Int) (h : Pair w0 w b mb n db lv S g k) (hk : k ≤ 1073741822) (hs : s.size ≤ maxLen) (hx : x = 0 ∨ x = 1 ∨ x = 2) :
    Calls Try.prog 19 #[.agg #[.pointer (some ⟨b, 0, none⟩), .pointer (some ⟨db, 0, none⟩)], .string s, .int .i64 x] w fun e w' => e = .returned (.bool true) ∧ (∃ n' lv' S' g', Pair w0 w' b mb n' db lv' S' g' (k + 1) ∧ ∀ j, MineR db lv' j → MineR db lv j ∨ w.heap.size ≤ j) ∧ Steady w w' ∧ Kept (fun k => k = mb ∨ MineR db lv k) w w' := by
  obtain ⟨wa, hwa⟩ : ∃ wa, wa = w.alloc (.cells #[.pointer (some ⟨b, 0, none⟩), .pointer (some ⟨db, 0, none⟩)] 30) := ⟨_, rfl⟩
  obtain ⟨xb, hxb⟩ : ∃ xb, xb = w.heap.size := ⟨_, rfl⟩
  have hbx : wa.heap[xb]? = some (.cells #[.pointer (some ⟨b, 0, none⟩), .pointer (some ⟨db, 0, none⟩)] 30 (0, 0)) := by rw [hwa, hxb]; exact heap_alloc_new _ _
  have HP : Hid (Pair w0 wa b mb n db lv S g k) := h.later (by rw [hwa]; exact (Below.refl _ w).alloc (Nat.le_refl _) _)
  have hmb : xb ≠ mb := by have := h.q.q.tab.lt; omega
  have x0 : wa.cell? ⟨xb, 0, none⟩ = some (.pointer (some ⟨b, 0, none⟩)) := by simp [World.cell?, hbx]
  have x1 : wa.cell? ⟨xb, 1, none⟩ = some (.pointer (some ⟨db, 0, none⟩)) := by simp [World.cell?, hbx]
  have hnm : n < maxLen := by have := h.few; unfold maxLen; omega
  have hheld : held g s.data.toList < 9223372036854775807 := by have := h.most s.data.toList; omega
  have HSW : Hid (Steady w wa) := Steady.ofBelow (by rw [hwa]; exact (Below.refl _ w).alloc (Nat.le_refl _) _)
  have HSB : Hid (Below w.heap.size w wa) := by rw [hwa]; exact (Below.refl _ w).alloc (Nat.le_refl _) _
  have HW := hide (And.intro hwa hxb)
  clear h hwa hxb hbx
  rcases hx with rfl | rfl | rfl
  · go_enter Try.func19, Try.ntmps19
    go_upto_if 16 with fail
    rw [← HW.out.2, ← HW.out.1]
    go_wp2_with fail
    go_ret
    have h := HP.out
    exact ⟨rfl, ⟨n, lv, S, g, ⟨h.q, h.d, h.l, h.ap, h.low, by have := h.few; omega, fun t => by have := h.most t; omega⟩, fun j hj => .inl hj⟩, HSW.out, Kept.ofBelow HSB.out⟩
  · obtain ⟨V, E, hE⟩ : ∃ V E : Int, holdE g s.data.toList = .returned (.tuple #[.int .i64 V, .int .i64 E]) := by
      unfold holdE
      split
      · exact ⟨_, _, rfl⟩
      · exact ⟨_, _, rfl⟩
    have HD := hold_any wa b mb n g s HP.out.q.q hs hnm hheld
    rw [hE] at HD
    have HD := hide HD
    have HE := hide hE
    clear hE
    go_enter Try.func19, Try.ntmps19
    go_upto_if 16 with fail
    rw [← HW.out.2, ← HW.out.1]
    go_wp2_with fail
    refine HD.out.mono ?_
    rintro e w1 ⟨rfl, q1, k1⟩
    have z1 : w1.cell? ⟨xb, 1, none⟩ = some (.pointer (some ⟨db, 0, none⟩)) := k1.cell hmb x1
    have HR := refHold_any w1 w0.heap.size db lv S g s (HP.out.d.kept k1 (fun j hm e => HP.out.apart (e ▸ hm))) HP.out.l HP.out.q.q.pos (by have := HP.out.len; omega) hheld (Nat.le_trans HP.out.q.below.size k1.size)
    rw [HE.out] at HR
    have HR := hide HR
    have H1 := hide (And.intro q1 k1)
    clear q1 k1 x0 x1
    go_wp2_with fail
    refine HR.out.mono ?_
    rintro e w2 ⟨rfl, wr⟩
    obtain ⟨⟨lv', S', hp, hmi⟩, hst, hkt⟩ := HP.out.both H1.out.1 H1.out.2 wr (HP.out.holdN_le _) (HP.out.held_hold _)
    have HF := hide hp
    have HST := hide (And.intro (HSW.out.trans hst) (And.intro ((Kept.ofBelow HSB.out).trans hkt) (fun j hj => (hmi j hj).imp id (fun e => Nat.le_trans HSB.out.size e))))
    clear wr hp hst hmi hkt
    go_wp2_with fail
    go_ret
    exact ⟨by simp, ⟨_, lv', S', _, HF.out, HST.out.2.2⟩, HST.out.1, HST.out.2.1⟩
  · obtain ⟨V, E, hE⟩ : ∃ (V : Int) (E : Bool), dropE g s.data.toList = .returned (.tuple #[.int .i64 V, .bool E]) := by
      unfold dropE
      split
      · exact ⟨_, _, rfl⟩
      · exact ⟨_, _, rfl⟩
    have HD := drop_any wa b mb n g s HP.out.q.q hs hnm (by omega)
    rw [hE] at HD
    have HD := hide HD
    have HE := hide hE
    clear hE
    go_enter Try.func19, Try.ntmps19
    go_upto_if 16 with fail
    rw [← HW.out.2, ← HW.out.1]
    go_wp2_with fail
    refine HD.out.mono ?_
    rintro e w1 ⟨rfl, q1, k1⟩
    have z1 : w1.cell? ⟨xb, 1, none⟩ = some (.pointer (some ⟨db, 0, none⟩)) := k1.cell hmb x1
    have HR := refDrop_any w1 w0.heap.size db lv S g s (HP.out.d.kept k1 (fun j hm e => HP.out.apart (e ▸ hm))) HP.out.l HP.out.q.q.pos (by have := HP.out.len; omega) hheld (Nat.le_trans HP.out.q.below.size k1.size)
    rw [HE.out] at HR
    have HR := hide HR
    have H1 := hide (And.intro q1 k1)
    clear q1 k1 x0 x1
    go_wp2_with fail
    refine HR.out.mono ?_
    rintro e w2 ⟨rfl, wr⟩
    obtain ⟨⟨lv', S', hp, hmi⟩, hst, hkt⟩ := HP.out.both H1.out.1 H1.out.2 wr (HP.out.dropN_le _) (HP.out.held_drop _)
    have HF := hide hp
    have HST := hide (And.intro (HSW.out.trans hst) (And.intro ((Kept.ofBelow HSB.out).trans hkt) (fun j hj => (hmi j hj).imp id (fun e => Nat.le_trans HSB.out.size e))))
    clear wr hp hst hmi hkt
    go_wp2_with fail
    go_ret
    exact ⟨by simp, ⟨_, lv', S', _, HF.out, HST.out.2.2⟩, HST.out.1, HST.out.2.1⟩
theorem and_one (E : Int) : bits BinOp.and IntKind.i64 E 1 = 0 ∨ bits BinOp.and IntKind.i64 E 1 = 1 := by
  have h : (BitVec.ofInt 64 E &&& BitVec.ofInt 64 1).toNat = (BitVec.ofInt 64 E).toNat % 2 := by
    rw [BitVec.toNat_and]
    exact Nat.and_one_is_mod _
  have h2 : bits BinOp.and IntKind.i64 E 1 = IntKind.i64.wrap ((BitVec.ofInt 64 E &&& BitVec.ofInt 64 1).toNat : Int) := rfl
  rw [h2, h]
  rcases Nat.mod_two_eq_zero_or_one (BitVec.ofInt 64 E).toNat with e | e
  · left; rw [e]; decide
  · right; rw [e]; decide
end Go.Proofs.Ythjaehibndmehaa
