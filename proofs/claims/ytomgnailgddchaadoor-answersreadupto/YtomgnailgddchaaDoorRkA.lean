/-
  Two pairs of readers and the lists that were handed out, side by side.
-/
import Derived.Test.YtomgnailgddchaaDoorRQE
import Derived.Test.YtomgnailgddchaaDoorRdClone
import Derived.Test.YtomgnailgddchaaDoorJQ
namespace Go.Proofs.YtomgnailgddchaaDoor
open Go.RowKit Go.Sort

/-- A body is no longer than what it is read from. -/
theorem kind_body (k : Nat) (b : List UInt8) : (kindS k b).body.length ≤ b.length := by
  have h1 : (lineS k b st0).body = [] := by
    unfold lineS
    have q : ∀ (c : Prop) [Decidable c] (x y : St), x.body = y.body → (if c then x else y).body = y.body := fun c _ x y e => by
      split
      · exact e
      · rfl
    simp only []
    rw [q _ _ _ (St.keep_size _ _ _).2.2.2, q _ _ _ (St.keep_tube _ _).2.2.2, q _ _ _ (St.keep_num _ _ _).2.2.2, q _ _ _ (St.keep_id _ _ _).2.2.2, (St.keep_text _ _ _).2.2.2.2]
    rfl
  unfold kindS
  rw [(St.keep_text _ _ _).2.2.2.2]
  unfold bodyS
  split
  · unfold takeS
    split
    · split
      · show (textS [13, 10] b (lineS k b st0)).body.length ≤ _
        rw [(St.keep_text _ _ _).2.2.2.2, h1]
        exact Nat.zero_le _
      · show ((b.drop _).take _).length ≤ _
        rw [List.length_take, List.length_drop]
        omega
    · rw [(St.keep_text _ _ _).2.2.2.2, h1]
      exact Nat.zero_le _
  · rw [h1]
    exact Nat.zero_le _
theorem read_body (b : List UInt8) : (readP b).1.body.length ≤ b.length := by
  rcases read_pick b with ⟨j, _, _, _, _, e⟩ | ⟨_, _, _, e⟩
  · rw [e]
    exact kind_body j b
  · rw [e]
    exact Nat.zero_le _
/-- A reader of the program, and the document's. -/
structure Pq where
  rb : Nat
  v : Value
  A : List UInt8
  g : Nat
  db : Nat
  vl : Value
  vn : Value
  vb : Value
  P : List PO
  d : Dc
def Pq.mine (p : Pq) (k : Nat) : Prop := Mine p.rb p.v k ∨ MineD p.db p.vl p.vn p.vb p.P k
/-- How long the line and the body are. -/
def SzD (A : List UInt8) (d : Dc) : Prop := d.line.length ≤ A.length ∧ d.r.body.length ≤ A.length
theorem one_sizes (d : Dc) (c : UInt8) : (oneR d c).line.length ≤ d.line.length + 1 ∧ (oneR d c).r.body.length ≤ d.r.body.length + 1 := by
  unfold oneR doneR
  repeat' split
  all_goals simp [rp0, lineRp]
  all_goals omega
theorem SzD.feed : ∀ {A : List UInt8} {d : Dc} (_ : SzD A d) (b : List UInt8), SzD (A ++ b) (feedR d b)
  | A, d, h, [] => by rw [List.append_nil]; exact h
  | A, d, h, c :: b => by
    rw [feedR_cons]
    split
    · exact ⟨by rw [List.length_append]; exact Nat.le_trans h.1 (Nat.le_add_right _ _), by rw [List.length_append]; exact Nat.le_trans h.2 (Nat.le_add_right _ _)⟩
    · have h2 := one_sizes d c
      have := SzD.feed (A := A ++ [c]) (d := oneR d c) ⟨by rw [List.length_append]; exact Nat.le_trans h2.1 (Nat.add_le_add_right h.1 1), by rw [List.length_append]; exact Nat.le_trans h2.2 (Nat.add_le_add_right h.2 1)⟩ b
      rw [List.append_assoc] at this
      exact this
theorem repsF_body : ∀ (f : Nat) (b : List UInt8), ∀ q ∈ repsF f b, q.1.body.length ≤ b.length
  | 0, _, q, h => by cases h
  | f + 1, b, q, h => by
    unfold repsF at h
    split at h
    · rcases List.mem_cons.1 h with e | e
      · rw [e]
        exact read_body b
      · have := repsF_body f _ q e
        rw [List.length_drop] at this
        omega
    · cases h
structure Pq.Ok (p : Pq) (w0 w : World) : Prop where
  r : RdAt w p.rb p.v p.A p.g
  c : RcAt w p.db p.vl p.vn p.vb p.P p.d
  rel : DRel p.A p.g p.d
  ap : ∀ k, Mine p.rb p.v k → ¬ MineD p.db p.vl p.vn p.vb p.P k
  low : ∀ k, p.mine k → w0.heap.size ≤ k
  sz : SzD p.A p.d
section
variable {w0 w w' : World} {p : Pq}
theorem Pq.Ok.lt (h : p.Ok w0 w) {k : Nat} (hk : p.mine k) : k < w.heap.size := by
  rcases hk with hk | hk
  · exact h.r.lt hk
  · exact h.c.lt k hk
theorem Pq.Ok.kept {R : Nat → Prop} (h : p.Ok w0 w) (hk : Kept R w w') (hR : ∀ k, p.mine k → ¬ R k) : p.Ok w0 w' :=
  ⟨h.r.kept hk (fun k e => hR k (.inl e)), h.c.kept hk (fun k e => hR k (.inr e)), h.rel, h.ap, h.low, h.sz⟩
theorem Pq.Ok.later (h : p.Ok w0 w) (hb : Below w.heap.size w w') : p.Ok w0 w' := h.kept (R := fun _ => False) (Kept.ofBelow hb) (fun _ _ => id)
/-- Both readers were called. -/
theorem Pq.Ok.both (h : p.Ok w0 w) (hz : w0.heap.size ≤ w.heap.size) {w1 w2 : World} {v1 : Value} {A' : List UInt8} {g' : Nat} {d' : Dc} (h1 : RdAt w1 p.rb v1 A' g') (k1 : Kept (Mine p.rb p.v) w w1) (n1 : ∀ k, Mine p.rb v1 k → Mine p.rb p.v k ∨ w.heap.size ≤ k)
    (h2 : WentD w1 p.db (MineD p.db p.vl p.vn p.vb p.P) d' w2) (hr : DRel A' g' d') (hsz : SzD A' d') :
    ∃ p' : Pq, p'.rb = p.rb ∧ p'.db = p.db ∧ p'.A = A' ∧ p'.g = g' ∧ p'.d = d' ∧ p'.Ok w0 w2 ∧ Kept p.mine w w2 ∧ (∀ k, p'.mine k → p.mine k ∨ w.heap.size ≤ k) ∧ ∀ k, k < w1.heap.size → p'.mine k → Mine p.rb v1 k ∨ p.mine k := by
  obtain ⟨vl, vn, vb, P, c2, k2, n2⟩ := h2
  have hs := k1.size
  have m1 : ∀ k, Mine p.rb v1 k → ¬ MineD p.db p.vl p.vn p.vb p.P k := fun k e e2 => by
    rcases n1 k e with e3 | e3
    · exact h.ap k e3 e2
    · have := h.c.lt k e2
      omega
  have ap : ∀ k, Mine p.rb v1 k → ¬ MineD p.db vl vn vb P k := fun k e e2 => by
    rcases n2 k e2 with e3 | e3
    · exact m1 k e e3
    · have := h1.lt e
      omega
  refine ⟨⟨p.rb, v1, A', g', p.db, vl, vn, vb, P, d'⟩, rfl, rfl, rfl, rfl, rfl, ⟨h1.kept k2 m1, c2, hr, ap, ?_, hsz⟩, (k1.mono (fun k _ e => (.inl e : p.mine k))).trans (k2.mono (fun k _ e => .inr e)), ?_, ?_⟩
  · rintro k (e | e)
    · rcases n1 k e with e3 | e3
      · exact h.low k (.inl e3)
      · omega
    · rcases n2 k e with e3 | e3
      · exact h.low k (.inr e3)
      · omega
  · rintro k (e | e)
    · rcases n1 k e with e3 | e3
      · exact .inl (.inl e3)
      · exact .inr e3
    · rcases n2 k e with e3 | e3
      · exact .inl (.inr e3)
      · exact .inr (by omega)
  · rintro k hk (e | e)
    · exact .inl e
    · rcases n2 k e with e3 | e3
      · exact .inr (.inr e3)
      · omega
end
/-- What a step leaves: nothing of nobody's has turned, labels stay. -/
structure Mv (lab : Nat → Tag) (W : World) (lab' : Nat → Tag) (W' : World) : Prop where
  kept : Kept (fun j => lab j ≠ .user 0) W W'
  same : ∀ j, j < W.heap.size → lab' j = lab j
theorem Mv.refl (lab : Nat → Tag) (W : World) : Mv lab W lab W := ⟨Kept.refl _ _, fun _ _ => rfl⟩
theorem Mv.trans {lab lab' lab'' : Nat → Tag} {W W' W'' : World} (h : Mv lab W lab' W') (k : Mv lab' W' lab'' W'') : Mv lab W lab'' W'' :=
  ⟨h.kept.step k.kept (fun j hj e => by rw [h.same j hj] at e; exact e), fun j hj => (k.same j (Nat.lt_of_lt_of_le hj h.kept.size)).trans (h.same j hj)⟩
theorem Mv.later {lab : Nat → Tag} {W W' : World} (hb : Below W.heap.size W W') : Mv lab W lab W' := ⟨Kept.ofBelow hb, fun _ _ => rfl⟩
/-- All of it. -/
structure BS (w0 W : World) (lab : Nat → Tag) (Hb : Nat) (es : List Ent) (P Q : Pq) (i1 i2 : Nat) : Prop where
  bel : Below w0.heap.size w0 W
  held : Held W w0.heap.size lab Hb 0 es
  small : ∀ (j : Nat) e, es[j]? = some e → e.bytes.length ≤ 1073741824
  low : ∀ j, j < w0.heap.size → lab j = .user 0
  pP : P.Ok w0 W
  lP : ∀ j, P.mine j → lab j = .user i1
  pQ : Q.Ok w0 W
  lQ : ∀ j, Q.mine j → lab j = .user i2
  ne : i1 ≠ i2 ∧ i1 ≠ 0 ∧ i2 ≠ 0
section
variable {w0 W W' : World} {lab lab' : Nat → Tag} {Hb : Nat} {es : List Ent} {P Q : Pq} {i1 i2 : Nat}
theorem BS.swap (h : BS w0 W lab Hb es P Q i1 i2) : BS w0 W lab Hb es Q P i2 i1 := ⟨h.bel, h.held, h.small, h.low, h.pQ, h.lQ, h.pP, h.lP, fun e => h.ne.1 e.symm, h.ne.2.2, h.ne.2.1⟩
theorem BS.relabel (h : BS w0 W lab Hb es P Q i1 i2) (hl : ∀ j, j < W.heap.size → lab' j = lab j) : BS w0 W lab' Hb es P Q i1 i2 :=
  ⟨h.bel, h.held.relabel hl, h.small, fun j hj => (hl j (by have := h.bel.size; omega)).trans (h.low j hj), h.pP, fun j hj => (hl j (h.pP.lt hj)).trans (h.lP j hj), h.pQ, fun j hj => (hl j (h.pQ.lt hj)).trans (h.lQ j hj), h.ne⟩
theorem BS.later (h : BS w0 W lab Hb es P Q i1 i2) (hb : Below W.heap.size W W') : BS w0 W' lab Hb es P Q i1 i2 :=
  ⟨h.bel.trans (hb.mono h.bel.size), h.held.below hb, h.small, h.low, h.pP.later hb, h.lP, h.pQ.later hb, h.lQ, h.ne⟩
/-- What was made since is nobody's. -/
theorem BS.fresh (h : BS w0 W lab Hb es P Q i1 i2) (hb : Below W.heap.size W W') : ∃ lab', BS w0 W' lab' Hb es P Q i1 i2 ∧ Mv lab W lab' W' ∧ ∀ k, W.heap.size ≤ k → lab' k = .user 0 := by
  obtain ⟨lab', hl⟩ : ∃ lab' : Nat → Tag, lab' = fun j => if j < W.heap.size then lab j else .user 0 := ⟨_, rfl⟩
  have e0 : ∀ j, j < W.heap.size → lab' j = lab j := fun j hj => by rw [hl]; exact if_pos hj
  exact ⟨lab', (h.relabel e0).later hb, ⟨Kept.ofBelow hb, e0⟩, fun k hk => by rw [hl]; exact if_neg (by omega)⟩
/-- Something of nobody's has turned. -/
theorem BS.nobody (h : BS w0 W lab Hb es P Q i1 i2) {R : Nat → Prop} (hk : Kept R W W') (hR : ∀ j, R j → j < W.heap.size → w0.heap.size ≤ j ∧ lab j = .user 0) : BS w0 W' lab Hb es P Q i1 i2 := by
  have K2 : Kept (fun j => w0.heap.size ≤ j ∧ lab j = .user 0) W W' := hk.mono (fun j hj e => hR j e hj)
  refine ⟨h.bel.trans (K2.below h.bel.size (fun j hj e => by have := e.1; omega)), h.held.kept K2 (fun j hn e => hn 0 e.2), h.small, h.low, h.pP.kept K2 (fun j hm e => ?_), h.lP, h.pQ.kept K2 (fun j hm e => ?_), h.lQ, h.ne⟩
  · have := h.lP j hm
    rw [e.2] at this
    simp at this
    exact h.ne.2.1 this.symm
  · have := h.lQ j hm
    rw [e.2] at this
    simp at this
    exact h.ne.2.2 this.symm
/-- The first pair has turned; bv was made in between, and is nobody's yet. -/
theorem BS.turn (h : BS w0 W lab Hb es P Q i1 i2) (P' : Pq) (bv : Value) (hp : P'.Ok w0 W') (hmi : ∀ j, P'.mine j → P.mine j ∨ W.heap.size ≤ j) (hk : Kept P.mine W W') (hv : ∀ j, bv.ownBlock = some j → W.heap.size ≤ j ∧ ¬ P'.mine j) :
    ∃ lab', BS w0 W' lab' Hb es P' Q i1 i2 ∧ Mv lab W lab' W' ∧ Tagged lab' bv (.out es.length) := by
  classical
  obtain ⟨lab', hl⟩ : ∃ lab' : Nat → Tag, lab' = fun j => if j < W.heap.size then lab j else if P'.mine j then .user i1 else if bv.ownBlock = some j then .out es.length else .user 0 := ⟨_, rfl⟩
  have e0 : ∀ j, j < W.heap.size → lab' j = lab j := fun j hj => by rw [hl]; exact if_pos hj
  have e1 : ∀ j, W.heap.size ≤ j → P'.mine j → lab' j = .user i1 := fun j hj hM => by rw [hl]; simp only []; rw [if_neg (by omega), if_pos hM]
  have e2 : ∀ j, bv.ownBlock = some j → lab' j = .out es.length := fun j hj => by have := hv j hj; rw [hl]; simp only []; rw [if_neg (by omega), if_neg this.2, if_pos hj]
  have g := h.relabel e0
  have hR : ∀ j, P.mine j → lab' j = .user i1 ∧ w0.heap.size ≤ j := fun j e => ⟨g.lP j e, g.pP.low j e⟩
  refine ⟨lab', ⟨g.bel.trans (hk.below g.bel.size (fun j hj e => by have := (hR j e).2; omega)), g.held.kept hk (fun j hn e => hn i1 (hR j e).1), g.small, g.low, hp, fun j hj => ?_, g.pQ.kept hk (fun j hm2 e => ?_), g.lQ, g.ne⟩, ⟨hk.mono (fun j hj e => ?_), e0⟩, e2⟩
  · rcases hmi j hj with e | e
    · exact g.lP j e
    · exact e1 j e hj
  · have h1 := g.lQ j hm2
    rw [(hR j e).1] at h1
    simp at h1
    exact g.ne.1 h1
  · rw [← e0 j hj, (hR j e).1]
    simp
    exact g.ne.2.1
/-- The second pair is another one now, that was made since. -/
theorem BS.clone (h : BS w0 W lab Hb es P Q i1 i2) (Q' : Pq) (hq : Q'.Ok w0 W') (hb : Below W.heap.size W W') (hn : ∀ j, Q'.mine j → W.heap.size ≤ j) :
    ∃ lab', BS w0 W' lab' Hb es P Q' i1 i2 ∧ Mv lab W lab' W' := by
  classical
  obtain ⟨lab', hl⟩ : ∃ lab' : Nat → Tag, lab' = fun j => if j < W.heap.size then lab j else if Q'.mine j then .user i2 else .user 0 := ⟨_, rfl⟩
  have e0 : ∀ j, j < W.heap.size → lab' j = lab j := fun j hj => by rw [hl]; exact if_pos hj
  have g := (h.relabel e0).later hb
  exact ⟨lab', ⟨g.bel, g.held, g.small, g.low, g.pP, g.lP, hq, fun j hj => by have := hn j hj; rw [hl]; simp only []; rw [if_neg (by omega), if_pos hj], g.ne⟩, ⟨Kept.ofBelow hb, e0⟩⟩
theorem lists_user {lab : Nat → Tag} {j i : Nat} (hL : Lists lab j) : lab j ≠ .user i := fun e => by unfold Lists at hL; rw [e] at hL; simp at hL
/-- Bytes that were made since are laid by. -/
theorem BS.keep (h : BS w0 W lab Hb es P Q i1 i2) {a : Option Addr} {c : Nat} {l : List UInt8} (ho : OwnX W w0.heap.size (.slice a l.length c) l) (ht : Tagged lab (.slice a l.length c) (.out es.length)) (hl : l.length ≤ 1073741824) (he : es.length ≤ 1073741824) :
    Calls Tryd.prog 26 #[.pointer (some ⟨Hb, 0, none⟩), .slice a l.length c] W fun e w' => e = .returned (.tuple #[]) ∧ ∃ lab' es', BS w0 w' lab' Hb es' P Q i1 i2 ∧ es'.length = es.length + 1 ∧ Mv lab W lab' w' := by
  refine (heldKeep_any W w0.heap.size lab Hb 0 es a c l h.held h.bel.size ho ht (by omega) he).mono ?_
  rintro e w' ⟨rfl, lab', cw, hh, hlb, hk⟩
  have g := h.relabel hlb
  refine ⟨rfl, lab', _, ⟨h.bel.trans (hk.below h.bel.size (fun j hj hL => lists_user (i := 0) hL (h.low j hj))), hh, fun j r hj => ?_, g.low, h.pP.kept hk (fun j hm hL => lists_user hL (h.lP j hm)), g.lP, h.pQ.kept hk (fun j hm hL => lists_user hL (h.lQ j hm)), g.lQ, h.ne⟩, by simp, ⟨hk.mono (fun j _ hL => lists_user hL), hlb⟩⟩
  by_cases hjl : j < es.length
  · rw [List.getElem?_append_left hjl] at hj
    exact h.small j r hj
  · rw [List.getElem?_append_right (by omega)] at hj
    have hm := List.mem_of_getElem? hj
    have h9 : r = ⟨.slice a l.length c, cw, l⟩ := by simpa using hm
    rw [h9]
    exact hl
theorem BS.holds (h : BS w0 W lab Hb es P Q i1 i2) : Calls Tryd.prog 13 #[.pointer (some ⟨Hb, 0, none⟩)] W fun e w' => e = .returned (.bool true) ∧ ∃ m, w' = W.drewN m := holds_any W w0.heap.size lab Hb 0 es h.held
/-- All of them are written over, then let go. -/
theorem BS.spoil (h : BS w0 W lab Hb es P Q i1 i2) (he : es.length ≤ 16777216) :
    Calls Tryd.prog 12 #[.pointer (some ⟨Hb, 0, none⟩)] W fun e w' => e = .returned (.bool true) ∧ Below w0.heap.size w0 w' ∧ ∃ vo vw, w'.heap[Hb]? = some (.cells #[vo, vw] 33 (0, 0)) ∧
      ∀ w2, w2.heap[Hb]? = some (.cells #[.slice none 0 0, .slice none 0 0] 33 (0, 0)) → Kept (fun k => k = Hb) w' w2 → BS w0 w2 lab Hb [] P Q i1 i2 ∧ Mv lab W lab w2 := by
  refine (spoil_any W w0.heap.size lab Hb es h.held h.bel.size he (fun j e hj => by have := h.small j e hj; omega)).mono ?_
  rintro e w' ⟨rfl, hk, vo, vw, hb⟩
  refine ⟨rfl, h.bel.trans (hk.below h.bel.size (fun k hk2 hn => hn 0 (h.low k hk2))), vo, vw, hb, fun w2 hb2 hk2 => ?_⟩
  obtain ⟨vo0, vw0, hr, _⟩ := h.held
  have hlb := hr.2.1
  have kk : Kept (NotUser lab) W w2 := hk.step hk2 (fun j hj e i e2 => by rw [e, hlb] at e2; simp at e2)
  have nt : ∀ t, Tagged lab (.slice none 0 0) t := fun _ g h => by cases h
  exact ⟨⟨h.bel.trans (kk.below h.bel.size (fun j hj e => e 0 (h.low j hj))), ⟨.slice none 0 0, .slice none 0 0, ⟨by simpa using hb2, hlb, hr.2.2.1, ⟨World.ownsRow_nil _ _ _ _, nt _⟩, ⟨World.ownsRow_nil _ _ _ _, nt _⟩⟩, fun j e he => by simp at he⟩, fun j e he => by simp at he, h.low,
    h.pP.kept kk (fun j hm e => e i1 (h.lP j hm)), h.lP, h.pQ.kept kk (fun j hm e => e i2 (h.lQ j hm)), h.lQ, h.ne⟩, ⟨kk.mono (fun j _ e => e 0), fun _ _ => rfl⟩⟩
end
theorem DRel.held {A : List UInt8} {g : Nat} {d : Dc} (h : DRel A g d) : heldN A g = d.cnt := by
  have h1 := h.cnt
  have h2 := h.bd.le
  have h3 := h.bd.1
  unfold heldN
  split at h1
  · rename_i hz
    rw [if_pos hz]
    omega
  · rename_i hz
    rw [if_neg hz]
    omega
theorem DRel.few {A : List UInt8} {g : Nat} {d : Dc} (h : DRel A g d) : d.L.length ≤ A.length ∧ d.cnt ≤ A.length := by
  refine ⟨?_, ?_⟩
  · rw [h.L]
    refine Nat.le_trans (repsF_len _ _) ?_
    rw [List.length_drop]
    omega
  · have h1 := h.cnt
    have h2 := scan_le A
    split at h1 <;> omega
theorem Pq.Ok.sizes {w0 w : World} {p : Pq} (h : p.Ok w0 w) : p.P.length ≤ p.A.length ∧ p.d.line.length ≤ p.A.length ∧ p.d.r.body.length ≤ p.A.length ∧ ∀ q ∈ p.P, q.1.body.length ≤ p.A.length := by
  have hl := h.c.list
  have h1 := h.rel.few.1
  rw [hl, List.length_map] at h1
  refine ⟨h1, h.sz.1, h.sz.2, fun q hq => ?_⟩
  have : (q.1, q.2.2) ∈ p.d.L := by
    rw [hl]
    exact List.mem_map.2 ⟨q, hq, rfl⟩
  rw [h.rel.L] at this
  have h2 := repsF_body _ _ _ this
  rw [List.length_drop] at h2
  have h3 : q.1.body.length ≤ p.A.length - p.g := h2
  omega
end Go.Proofs.YtomgnailgddchaaDoor
