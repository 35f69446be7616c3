/-
  The law's 'lent': a play with something behind each of its lists.
-/
import Derived.Test.YtpfbfkjmdlogcaaDoorLenA
import Derived.Test.YtpfbfkjmdlogcaaDoorRWritten
namespace Go.Proofs.YtpfbfkjmdlogcaaDoor
open Go.RowKit

theorem step_append8K {ops : Array Oper} {o : Oper} {a : Act} {K : Act → World → Prop} {Q : Exit → Act → World → Prop} {F : Prop} (hgd : o.guard = none) (s x : Operand)
    (ho : o.op = .call { callee := .builtin .append, args := #[s, x], argTypes := #[41, 41] })
    (w : World) (B : Nat) (v : Value) (l : List UInt8) (hs : a.eval s = v) (hown : Own w B v l) (ad : Option Addr) (c : Nat) (m : List UInt8) (hx : a.eval x = .slice ad m.length c) (hm : IsBytes w ad c m)
    (hb : l.length + m.length ≤ 140737488355328) (hbase : B ≤ w.heap.size)
    (h : ∀ v' w', Own w' B v' (l ++ m) → w.grownBy w' v.ownBlock → (v'.ownBlock = v.ownBlock ∨ v'.ownBlock = some w.heap.size) → K (a.put o.dst v') w') :
    if Region.wanted o (yielded ops a.tmps) = true then Oper.wp Tryd.prog o a w K Q else F := by
  have hw : Region.wanted o (yielded ops a.tmps) = true := by simp [Region.wanted, hgd]
  rw [if_pos hw]
  obtain ⟨i, hi, hz0, hz1, hz2⟩ := info_parts info_u8
  obtain ⟨v', w', hr, h2, h3, h4, h5, h6⟩ := run_append_keeps (P := Tryd.prog) w B 41 o.type 5 i (.int .u8 0) Tryd.underlying41 hi hz0 hz1 rfl v l.length (u8s l) hown ad m.length c (u8s m) (u8s_length m) hm.src (u8s_one m) (by unfold maxLen; omega) (by rw [hz2]; omega) hbase
  unfold Oper.wp execOp
  simp only [ho, resolve, invoke, builtin, Sem.run_bind, Sem.run_pure, Result.andThen_ok, List.map_toArray, List.map_cons, List.map_nil, hs, hx, hr]
  refine h v' w' ?_ h3 h5
  unfold Own
  rw [List.length_append, show u8s (l ++ m) = u8s l ++ u8s m by simp [u8s]]
  exact h2
theorem step_appendIK {ops : Array Oper} {o : Oper} {a : Act} {K : Act → World → Prop} {Q : Exit → Act → World → Prop} {F : Prop} (hgd : o.guard = none) (s x : Operand)
    (ho : o.op = .call { callee := .builtin .append, args := #[s, x], argTypes := #[42, 42] })
    (w : World) (B : Nat) (v : Value) (l : List Int) (hs : a.eval s = v) (hown : OwnI w B v l) (ad : Option Addr) (c : Nat) (m : List Int) (hx : a.eval x = .slice ad m.length c) (hm : IsInts w ad c m)
    (hb : l.length + m.length ≤ 8796093022208) (hbase : B ≤ w.heap.size)
    (h : ∀ v' w', OwnI w' B v' (l ++ m) → w.grownBy w' v.ownBlock → (v'.ownBlock = v.ownBlock ∨ v'.ownBlock = some w.heap.size) → K (a.put o.dst v') w') :
    if Region.wanted o (yielded ops a.tmps) = true then Oper.wp Tryd.prog o a w K Q else F := by
  have hw : Region.wanted o (yielded ops a.tmps) = true := by simp [Region.wanted, hgd]
  rw [if_pos hw]
  obtain ⟨i, hi, hz0, hz1, hz2⟩ := info_parts info_str
  obtain ⟨v', w', hr, h2, h3, h4, h5, h6⟩ := run_append_keeps (P := Tryd.prog) w B 42 o.type 3 i (.int .i64 0) Tryd.underlying42 hi hz0 hz1 rfl v l.length (l.map (Value.int .i64)) hown ad m.length c (m.map (Value.int .i64)) (by simp) hm.src (by intro u hu; simp at hu; obtain ⟨y, _, rfl⟩ := hu; rfl) (by unfold maxLen; omega) (by rw [hz2]; omega) hbase
  unfold Oper.wp execOp
  simp only [ho, resolve, invoke, builtin, Sem.run_bind, Sem.run_pure, Result.andThen_ok, List.map_toArray, List.map_cons, List.map_nil, hs, hx, hr]
  refine h v' w' ?_ h3 h5
  unfold OwnI
  rw [List.length_append, List.map_append]
  exact h2
theorem row_more {w : World} {B e n : Nat} {v : Value} {x : Value} {xs : List Value} (h : w.ownsRow B e 1 v n (xs ++ [x])) : ∃ g c, v = .slice (some ⟨g, 0, none⟩) n c ∧ n ≤ c := by
  have h1 := h.1
  simp at h1
  rcases h.2 with ⟨_, h0⟩ | ⟨g, cap, cur, e, _, _, hc, _⟩
  · omega
  · exact ⟨g, cap, e, hc⟩
theorem row_more8 {w : World} {B : Nat} {v : Value} {d : List UInt8} {x : UInt8} (h : Own w B v (d ++ [x])) : ∃ g c, v = .slice (some ⟨g, 0, none⟩) (d.length + 1) c ∧ d.length + 1 ≤ c := by
  have h2 := h
  unfold Own at h2
  rw [show u8s (d ++ [x]) = u8s d ++ [.int .u8 (x.toNat : Int)] by simp [u8s], List.length_append] at h2
  exact row_more h2
theorem row_more64 {w : World} {B : Nat} {v : Value} {d : List Int} {x : Int} (h : OwnI w B v (d ++ [x])) : ∃ g c, v = .slice (some ⟨g, 0, none⟩) (d.length + 1) c ∧ d.length + 1 ≤ c := by
  have h2 := h
  unfold OwnI at h2
  rw [List.map_append, List.map_cons, List.map_nil, List.length_append] at h2
  exact row_more h2
/-- Where 'lent' is. -/
structure LtB (W w : World) (B qb : Nat) (j s q : Int) (ov : Value) (o : List Sq) : Prop where
  low : Below W.heap.size W w
  hB : W.heap.size + 1 + 1 = B
  rb : w.heap[W.heap.size + 1]? = some (.cells #[.int .i64 0, .int .i64 0, .int .i64 0, .slice none 0 0] 31 (0, 0))
  hq : W.heap.size + 1 < qb
  qb : w.heap[qb]? = some (.cells #[.int .i64 j, .int .i64 s, .int .i64 q, ov] 31 (0, 0))
  row : w.ownsRow B 44 5 ov o.length (flatS o)
structure LtI (W w : World) (B qb : Nat) (j s q : Int) (ov : Value) (o : List Sq) (ed ek : Nat) : Prop where
  b : LtB W w B qb j s q ov o
  rs : Rs w B o ed ek
section
variable {W w w' w5 : World} {B qb : Nat} {j s q : Int} {ov : Value} {o : List Sq} {ed ek : Nat} {P : Nat → Prop}
theorem LtB.big (h : LtB W w B qb j s q ov o) : qb < w.heap.size := (Array.getElem?_eq_some_iff.1 h.qb).1
theorem LtB.bsz (h : LtB W w B qb j s q ov o) : B ≤ w.heap.size := by have := h.big; have := h.hq; have := h.hB; omega
theorem LtB.later (h : LtB W w B qb j s q ov o) (hb : Below w.heap.size w w') : LtB W w' B qb j s q ov o := by
  have := h.big
  have := h.hq
  exact ⟨h.low.trans (hb.mono h.low.size), h.hB, (hb.block _ (by omega)).trans h.rb, h.hq, (hb.block _ (by omega)).trans h.qb, own5_later h.row hb⟩
theorem LtI.later (h : LtI W w B qb j s q ov o ed ek) (hb : Below w.heap.size w w') : LtI W w' B qb j s q ov o ed ek := ⟨h.b.later hb, h.rs.later hb⟩
theorem LtB.cells (h : LtB W w B qb j s q ov o) : w.cell? ⟨qb, 3, none⟩ = some ov ∧ w.cell? ⟨qb, 0, none⟩ = some (.int .i64 j) ∧ w.cell? ⟨qb, 1, none⟩ = some (.int .i64 s) ∧ w.cell? ⟨qb, 2, none⟩ = some (.int .i64 q) ∧ w.frozen? ⟨qb, 3, none⟩ = false := by
  simp [World.cell?, World.frozen?, h.qb]
/-- A row of bytes or of numbers from B on has turned. -/
theorem LtB.turned (h : LtB W w B qb j s q ov o) {gx : Nat} {t : TypeId} {cx : Array Value} (hk : Kept (fun i => i = gx) w w') (hgx : B ≤ gx) (hcx : w.heap[gx]? = some (.cells cx t (0, 0))) (ht : t ≠ 31) (ht2 : t ≠ 44) : LtB W w' B qb j s q ov o := by
  have hb := h.big
  have hq := h.hq
  have hB := h.hB
  have hz := h.low.size
  refine ⟨h.low.trans (hk.below hz (fun i hi e => by omega)), h.hB, (hk.block _ (by omega) (by omega)).trans h.rb, h.hq, (hk.block _ hb (fun e => ?_)).trans h.qb, h.row.1, ?_⟩
  · rw [← e, h.qb] at hcx
    simp at hcx
    exact ht hcx.2.symm
  · rcases h.row.2 with h0 | ⟨g, cap, cur, e, hB, hgg, rest⟩
    · exact .inl h0
    · refine .inr ⟨g, cap, cur, e, hB, (hk.block g (Array.getElem?_eq_some_iff.1 hgg).1 (fun e2 => ?_)).trans hgg, rest⟩
      rw [← e2, hgg] at hcx
      simp at hcx
      exact ht2 hcx.2.symm
/-- A cell of a step is turned. -/
theorem LtB.put (h : LtB W w B qb j s q ov o) {gs cs n : Nat} (e : ov = .slice (some ⟨gs, 0, none⟩) n cs) {i k : Nat} {x z : Sq} (hx : o[i]? = some x) (hk : k < 5) (v : Value) (hz : sqCells z = (sqCells x).set k v) (hrs : Rs w B (o.set i z) ed ek) :
    LtI W (w.setCell ⟨gs, i * 5 + k, none⟩ v) B qb j s q ov (o.set i z) ed ek := by
  subst e
  have hn : n = o.length := by
    rcases h.row.2 with ⟨e, _⟩ | ⟨g, cap, cur, e, _⟩
    · cases e
    · cases e; rfl
  subst hn
  obtain ⟨cur, hcur⟩ := row5_type h.row (g := gs) rfl
  have ks : Kept (fun i => i = gs) w (w.setCell ⟨gs, i * 5 + k, none⟩ v) := Kept.setCell _ _ _ _ _ rfl
  have hs := h.row.stored (i * 5 + k) v
  rw [flat_set o i k x z hx v hk hz] at hs
  have hg := (h.row.lt gs rfl).1
  have hB := h.hB
  have hq := h.hq
  have hb := h.big
  have hz := h.low.size
  refine ⟨⟨h.low.trans (ks.below hz (fun i hi e => by omega)), h.hB, (ks.block _ (by omega) (by omega)).trans h.rb, h.hq, (ks.block _ hb (fun e => ?_)).trans h.qb, by rw [List.length_set]; exact hs.1⟩, hrs.keptT ks (fun g c e hc => ?_) (fun g c e hc => ?_)⟩
  · rw [← e, h.qb] at hcur
    simp at hcur
  · subst e; rw [hcur] at hc; simp at hc
  · subst e; rw [hcur] at hc; simp at hc
theorem LtB.form (h : LtB W w B qb j s q ov o) (h0 : 0 < o.length) : ∃ gs cs, ov = .slice (some ⟨gs, 0, none⟩) o.length cs := by
  rcases h.row.2 with ⟨_, e⟩ | ⟨g, cap, cur, e, _⟩
  · omega
  · exact ⟨g, cap, e⟩
theorem row_at {gs n cs : Nat} (h : w.ownsRow B 44 5 (.slice (some ⟨gs, 0, none⟩) n cs) n (flatS o)) {i : Nat} {x : Sq} (hx : o[i]? = some x) : w.cell? ⟨gs, i * 5, none⟩ = some (.int .i64 x.p.kind) ∧ w.cell? ⟨gs, i * 5 + 1, none⟩ = some (.int .i64 x.p.conn) ∧ w.cell? ⟨gs, i * 5 + 2, none⟩ = some x.dv ∧ w.cell? ⟨gs, i * 5 + 3, none⟩ = some (.int .i64 x.p.brk) ∧ w.cell? ⟨gs, i * 5 + 4, none⟩ = some x.kv ∧ ∀ i, w.frozen? ⟨gs, i, none⟩ = false := by
  have hn : n * 5 = (flatS o).length := h.1.symm
  have hc : ∀ k v, k < 5 → (sqCells x)[k]? = some v → w.cell? ⟨gs, i * 5 + k, none⟩ = some v := fun k v hk hv => by
    have h1 := flat_at o i x hx k hk v hv
    exact (h.cellAt _ (by have := (List.getElem?_eq_some_iff.1 h1).1; omega)).trans h1
  exact ⟨hc 0 _ (by omega) rfl, hc 1 _ (by omega) rfl, hc 2 _ (by omega) rfl, hc 3 _ (by omega) rfl, hc 4 _ (by omega) rfl, fun i => h.frozenAt i⟩
theorem LtI.own8 (h : LtI W w B qb j s q ov o ed ek) {x : Sq} (hx : o[ed]? = some x) : Own w B x.dv x.p.data := by
  have := h.rs.d ed x hx
  rw [if_neg (by omega)] at this
  exact this.own
theorem LtI.own64 (h : LtI W w B qb j s q ov o ed ek) {x : Sq} (hx : o[ek]? = some x) : OwnI w B x.kv x.p.keep := by
  have := h.rs.k ek x hx
  rw [if_neg (by omega)] at this
  exact this.own
/-- Behind an append to the bytes of a step. -/
theorem LtI.mid8 (h : LtI W w B qb j s q ov o ed ek) {x : Sq} (hx : o[ed]? = some x) (hg : w.grownBy w5 x.dv.ownBlock) : LtB W w5 B qb j s q ov o := by
  obtain ⟨gx, cx, ex, hb, _, hcx⟩ := (h.rs.d ed x hx).block
  rw [ex] at hg
  exact h.b.turned (Kept.ofGrown hg (fun g e => by cases e; rfl)) hb hcx (by decide) (by decide)
theorem LtI.mid64 (h : LtI W w B qb j s q ov o ed ek) {x : Sq} (hx : o[ek]? = some x) (hg : w.grownBy w5 x.kv.ownBlock) : LtB W w5 B qb j s q ov o := by
  obtain ⟨gx, cx, ex, hb, _, hcx⟩ := (h.rs.k ek x hx).block
  rw [ex] at hg
  exact h.b.turned (Kept.ofGrown hg (fun g e => by cases e; rfl)) hb hcx (by decide) (by decide)
theorem LtI.data (h : LtI W w B qb j s q ov o ed ek) {x : Sq} (hx : o[ed]? = some x) {gs cs n : Nat} (e : ov = .slice (some ⟨gs, 0, none⟩) n cs) {a : Option Addr} {m c : Nat} (ho : Own w5 B (.slice a m c) (x.p.data ++ [165])) (hg : w.grownBy w5 x.dv.ownBlock)
    (hv : (Value.slice a m c).ownBlock = x.dv.ownBlock ∨ (Value.slice a m c).ownBlock = some w.heap.size) : LtI W (w5.setCell ⟨gs, ed * 5 + 2, none⟩ (.slice a x.p.data.length c)) B qb j s q ov (o.set ed ⟨x.p, .slice a x.p.data.length c, x.kv⟩) (ed + 1) ek :=
  (h.mid8 hx hg).put e hx (by omega) _ rfl (h.rs.setD hx ho hg hv)
theorem LtI.keep (h : LtI W w B qb j s q ov o ed ek) {x : Sq} (hx : o[ek]? = some x) {gs cs n : Nat} (e : ov = .slice (some ⟨gs, 0, none⟩) n cs) {a : Option Addr} {m c : Nat} (ho : OwnI w5 B (.slice a m c) (x.p.keep ++ [-99])) (hg : w.grownBy w5 x.kv.ownBlock)
    (hv : (Value.slice a m c).ownBlock = x.kv.ownBlock ∨ (Value.slice a m c).ownBlock = some w.heap.size) : LtI W (w5.setCell ⟨gs, ek * 5 + 4, none⟩ (.slice a x.p.keep.length c)) B qb j s q ov (o.set ek ⟨x.p, x.dv, .slice a x.p.keep.length c⟩) ed (ek + 1) :=
  (h.mid64 hx hg).put e hx (by omega) _ rfl (h.rs.setK hx ho hg hv)
end
theorem map_set_p (o : List Sq) (i : Nat) (x : Sq) (dv kv : Value) (hx : o[i]? = some x) : (o.set i ⟨x.p, dv, kv⟩).map (·.p) = o.map (·.p) := by
  rw [List.map_set]
  apply List.ext_getElem?
  intro j
  by_cases hj : j = i
  · subst hj
    have hl := (List.getElem?_eq_some_iff.1 hx).1
    rw [List.getElem?_set_self (by simpa using hl), List.getElem?_map, hx]
    rfl
  · rw [List.getElem?_set_ne (Ne.symm hj)]
/-- A play that is lent: one step more behind its steps, and of each list one thing. -/
def z99 : Sq := ⟨⟨-99, 0, [], 0, []⟩, .slice none 0 0, .slice none 0 0⟩
structure FinL (w : World) (B g c : Nat) (o : List Sq) : Prop where
  row : w.ownsRow B 44 5 (.slice (some ⟨g, 0, none⟩) (o.length + 1) c) (o.length + 1) (flatS (o ++ [z99]))
  rs : Rs w B o o.length o.length
theorem Rs.mono {w : World} {B B' : Nat} {o : List Sq} {ed ek : Nat} (h : Rs w B o ed ek) (hB : B' ≤ B) : Rs w B' o ed ek :=
  ⟨fun i x hx => by obtain ⟨g, c, e, ho⟩ := h.d i x hx; exact ⟨g, c, e, ho.mono hB⟩, fun i x hx => by obtain ⟨g, c, e, ho⟩ := h.k i x hx; exact ⟨g, c, e, ho.mono hB⟩, h.apart⟩
theorem row5_kept {P : Nat → Prop} {w w' : World} {B : Nat} {v : Value} {n : Nat} {xs : List Value} (h : w.ownsRow B 44 5 v n xs) (hk : Kept P w w') (hP : ∀ g cur, P g → w.heap[g]? ≠ some (.cells cur 44 (0, 0))) : w'.ownsRow B 44 5 v n xs := by
  refine ⟨h.1, ?_⟩
  rcases h.2 with h0 | ⟨g, cap, cur, e, hB, hgg, rest⟩
  · exact .inl h0
  · exact .inr ⟨g, cap, cur, e, hB, (hk.block g (Array.getElem?_eq_some_iff.1 hgg).1 (fun e2 => hP g cur e2 hgg)).trans hgg, rest⟩
theorem LtI.fin {W w w9 : World} {B qb : Nat} {j s q : Int} {ov v : Value} {o : List Sq} {n : Nat} (h : LtI W w B qb j s q ov o n n) (hn : n = o.length) (hg : w.grownBy w9 ov.ownBlock) {g c : Nat}
    (ho : w9.ownsRow B 44 5 (.slice (some ⟨g, 0, none⟩) (o.length + 1) c) (o.length + 1) (flatS (o ++ [z99]))) :
    w9.heap[qb]? = some (.cells #[.int .i64 j, .int .i64 s, .int .i64 q, ov] 31 (0, 0)) ∧ (w9.setCell ⟨qb, 3, none⟩ v).heap[W.heap.size + 1]? = some (.cells #[.int .i64 0, .int .i64 0, .int .i64 0, .slice none 0 0] 31 (0, 0)) ∧ (w9.setCell ⟨qb, 3, none⟩ v).heap[qb]? = some (.cells #[.int .i64 j, .int .i64 s, .int .i64 q, v] 31 (0, 0)) ∧ Below W.heap.size W (w9.setCell ⟨qb, 3, none⟩ v) ∧ ∀ cs, FinL ((w9.setCell ⟨qb, 3, none⟩ v).setRow (W.heap.size + 1) cs) W.heap.size g c o := by
  subst hn
  have kg : Kept (fun i => ov.ownBlock = some i) w w9 := Kept.ofGrown hg (fun g e => e)
  have hst : ∀ g, ov.ownBlock = some g → ∃ cur, w.heap[g]? = some (.cells cur 44 (0, 0)) := fun g e => row5_type h.b.row e
  have np : ∀ {g : Nat} {cs : Array Value}, w.heap[g]? = some (.cells cs 31 (0, 0)) → ¬ ov.ownBlock = some g := fun {g cs} hc e => by
    obtain ⟨cur, h9⟩ := hst g e
    rw [hc] at h9
    simp at h9
  have hb := h.b.big
  have hq := h.b.hq
  have hB := h.b.hB
  have hz := h.b.low.size
  have q9 := (kg.block _ hb (np h.b.qb)).trans h.b.qb
  have r9 := (kg.block _ (by omega) (np h.b.rb)).trans h.b.rb
  have ks : Kept (fun i => i = qb) w9 (w9.setCell ⟨qb, 3, none⟩ v) := Kept.setCell _ _ _ _ _ rfl
  have s9 := kg.size
  have r10 := (ks.block (W.heap.size + 1) (by omega) (by omega)).trans r9
  have q10 := (set_cells q9 3 v).1
  have low : Below W.heap.size W (w9.setCell ⟨qb, 3, none⟩ v) := (h.b.low.trans (kg.below hz (fun k hk e => by have := (h.b.row.lt k e).1; omega))).trans (ks.below (by omega) (fun k hk e => by omega))
  refine ⟨q9, r10, q10, low, fun cs => ?_⟩
  have kr : Kept (fun i => i = W.heap.size + 1) (w9.setCell ⟨qb, 3, none⟩ v) ((w9.setCell ⟨qb, 3, none⟩ v).setRow (W.heap.size + 1) cs) := ⟨rfl, rfl, rfl, by simp [World.setRow], fun k _ hk => setRow_other _ _ k _ hk⟩
  have rs9 : Rs w9 B o o.length o.length := h.rs.keptT kg (fun g cur e hc => by obtain ⟨c2, h9⟩ := hst g e; rw [hc] at h9; simp at h9) (fun g cur e hc => by obtain ⟨c2, h9⟩ := hst g e; rw [hc] at h9; simp at h9)
  have rs10 : Rs (w9.setCell ⟨qb, 3, none⟩ v) B o o.length o.length := rs9.keptT ks (fun g cur e hc => by subst e; rw [q9] at hc; simp at hc) (fun g cur e hc => by subst e; rw [q9] at hc; simp at hc)
  have rs11 := rs10.keptT kr (fun g cur e hc => by subst e; rw [r10] at hc; simp at hc) (fun g cur e hc => by subst e; rw [r10] at hc; simp at hc)
  have ro10 := row5_kept ho ks (fun g cur e hc => by subst e; rw [q9] at hc; simp at hc)
  have ro11 := row5_kept ro10 kr (fun g cur e hc => by subst e; rw [r10] at hc; simp at hc)
  refine ⟨⟨ro11.1, ?_⟩, rs11.mono (by omega)⟩
  rcases ro11.2 with h0 | ⟨g, cap, cur, e, hB, rest⟩
  · exact .inl h0
  · exact .inr ⟨g, cap, cur, e, by omega, rest⟩
set_option maxHeartbeats 8000000 in
set_option maxRecDepth 1000000 in
theorem lent_any (W : World) (j s q : Int) (a : Option Addr) (c : Nat) (l : List Sq) (h : PlayIn W (.slice a l.length c) l) (hs : SmallP l) :
    Calls Tryd.prog 15 #[.agg #[.int .i64 j, .int .i64 s, .int .i64 q, .slice a l.length c]] W fun e w' => Below W.heap.size W w' ∧ ∃ g cc, e = .returned (.agg #[.int .i64 j, .int .i64 s, .int .i64 q, .slice (some ⟨g, 0, none⟩) l.length cc]) ∧ ∃ o, FinL w' W.heap.size g cc o ∧ o.map (·.p) = l.map (·.p) := by
  have x1 := heap_alloc_new W (.cells #[.int .i64 j, .int .i64 s, .int .i64 q, .slice a l.length c] 31)
  have b1 : Below W.heap.size W (W.alloc (.cells #[.int .i64 j, .int .i64 s, .int .i64 q, .slice a l.length c] 31)) := (Below.refl _ W).alloc (Nat.le_refl _) _
  have s1 : (W.alloc (.cells #[.int .i64 j, .int .i64 s, .int .i64 q, .slice a l.length c] 31)).heap.size = W.heap.size + 1 := by simp
  generalize hw1 : W.alloc (.cells #[.int .i64 j, .int .i64 s, .int .i64 q, .slice a l.length c] 31) = w1 at x1 b1 s1
  have x2 := heap_alloc_new w1 (.cells #[.int .i64 0, .int .i64 0, .int .i64 0, .slice none 0 0] 31)
  have b2 : Below W.heap.size W (w1.alloc (.cells #[.int .i64 0, .int .i64 0, .int .i64 0, .slice none 0 0] 31)) := b1.alloc (by omega) _
  have s2 : (w1.alloc (.cells #[.int .i64 0, .int .i64 0, .int .i64 0, .slice none 0 0] 31)).heap.size = W.heap.size + 1 + 1 := by simp; omega
  have y1 := (heap_alloc_old w1 (.cells #[.int .i64 0, .int .i64 0, .int .i64 0, .slice none 0 0] 31) (r := W.heap.size) (by omega)).trans x1
  rw [s1] at x2
  generalize hw2 : w1.alloc (.cells #[.int .i64 0, .int .i64 0, .int .i64 0, .slice none 0 0] 31) = w2 at x2 b2 s2 y1
  have CO := hide (owned_any w2 j s q a c l (h.later b2) hs)
  have HX2 := hide x2
  have HB2 := hide b2
  have HZ2 := hide s2
  have HW : Hid (W.alloc (.cells #[.int .i64 j, .int .i64 s, .int .i64 q, .slice a l.length c] 31) = w1 ∧ w1.alloc (.cells #[.int .i64 0, .int .i64 0, .int .i64 0, .slice none 0 0] 31) = w2 ∧ w1.heap.size = W.heap.size + 1) := ⟨hw1, hw2, s1⟩
  obtain ⟨k0, k1, k2, k3⟩ : w2.cell? ⟨W.heap.size, 0, none⟩ = some (.int .i64 j) ∧ w2.cell? ⟨W.heap.size, 1, none⟩ = some (.int .i64 s) ∧ w2.cell? ⟨W.heap.size, 2, none⟩ = some (.int .i64 q) ∧ w2.cell? ⟨W.heap.size, 3, none⟩ = some (.slice a l.length c) := by simp [World.cell?, y1]
  have HP := hide h
  have HS := hide hs
  have hml : l.length ≤ 2147483647 := hs.1
  clear h hs x1 b1 s1 hw1 x2 b2 s2 hw2 y1
  go_enter Tryd.func15, Tryd.ntmps15
  go_upto_region 1 with fail
  rw [HW.out.1, HW.out.2.1]
  go_wp2_with fail
  refine CO.out.mono ?_
  rintro e w3 ⟨b3, ov, o, rfl, ho, hm⟩
  obtain ⟨oa, oc, eov⟩ := row5_form ho.1
  subst eov
  have L0 : Hid (LtI W (w3.alloc (.cells #[.int .i64 j, .int .i64 s, .int .i64 q, .slice oa o.length oc] 31)) (W.heap.size + 1 + 1) w3.heap.size j s q (.slice oa o.length oc) o 0 0) := by
    have h2 := HZ2.out
    rw [h2] at ho b3
    have h3 := b3.size
    have al : Below w3.heap.size w3 (w3.alloc (.cells #[.int .i64 j, .int .i64 s, .int .i64 q, .slice oa o.length oc] 31)) := (Below.refl _ w3).alloc (Nat.le_refl _) _
    refine ⟨⟨(HB2.out.trans (b3.mono (by omega))).trans (al.mono (by omega)), rfl, ?_, by omega, heap_alloc_new w3 _, own5_later ho.1 al⟩, ho.2.later al⟩
    exact (al.block _ (by omega)).trans ((b3.block _ (by omega)).trans HX2.out)
  have HM0 := hide hm
  have hol : o.length = l.length := by have := congrArg List.length hm; simpa using this
  obtain ⟨qb, hqb⟩ : ∃ qb, qb = w3.heap.size := ⟨_, rfl⟩
  rw [hol] at L0 ⊢
  rw [← hqb] at L0
  have HQ := hide hqb
  clear b3 ho hm k0 k1 k2 k3 hqb
  go_upto_region 2 with fail
  rw [← HQ.out]
  generalize w3.alloc (.cells #[.int .i64 j, .int .i64 s, .int .i64 q, .slice oa l.length oc] 31) = w4 at L0 ⊢
  go_wp2_with fail
  go_loopg [4] l.length (fun gk i wr => ∃ (k : Nat) (o : List Sq), i = .int .i64 (k : Int) ∧ l.length - k ≤ gk ∧ k ≤ l.length ∧ Hid (LtI W wr (W.heap.size + 1 + 1) qb j s q (.slice oa l.length oc) o k k) ∧ Hid (o.map (·.p) = l.map (·.p)))
  case atStart => exact ⟨0, o, rfl, by omega, by omega, L0, HM0⟩
  case round =>
    obtain ⟨k, o, rfl, hgk, hk, HL, HM⟩ := hrel
    have hol : o.length = l.length := by have := congrArg List.length HM.out; simpa using this
    obtain ⟨y0, y1, y2, y3, y4⟩ := HL.out.b.cells
    by_cases hlt : k < l.length
    · have tlt : (k : Int) < (l.length : Int) := by omega
      obtain ⟨gs, cs, eov⟩ := HL.out.b.form (by omega)
      rw [hol] at eov
      simp only [Value.slice.injEq, true_and] at eov
      obtain ⟨rfl, rfl⟩ := eov
      obtain ⟨x, hx⟩ : ∃ x, o[k]? = some x := ⟨_, List.getElem?_eq_getElem (by omega)⟩
      have hsm : x.p.data.length ≤ 2147483647 ∧ x.p.keep.length ≤ 2147483647 := by
        have h1 := congrArg (fun z => z[k]?) HM.out
        simp only [List.getElem?_map, hx] at h1
        obtain ⟨y, hy, hyp⟩ := Option.map_eq_some_iff.1 h1.symm
        have := HS.out.2 y (List.mem_of_getElem? hy)
        rw [hyp] at this
        exact this
      have hr := HL.out.b.row
      rw [hol] at hr
      obtain ⟨m0, m1, m2, m3, m4, m5⟩ := row_at hr hx
      have O8 := HL.out.own8 hx
      obtain ⟨ad, cd, ed, _⟩ := O8.shape
      rw [ed] at m2
      have HX := hide hx
      have HO8 := hide O8
      have HED := hide ed
      clear hr O8 ed hx m0 m1 m3
      go_upto_region 6 with fail
      have AL : Hid (Below wr.heap.size wr (wr.alloc (.cells #[.int .u8 165] 5))) := (Below.refl _ wr).alloc (Nat.le_refl _) _
      have LA := hide (HL.out.later AL.out)
      have OA : Hid (Own (wr.alloc (.cells #[.int .u8 165] 5)) (W.heap.size + 1 + 1) (.slice ad x.p.data.length cd) x.p.data) := by
        have := LA.out.own8 HX.out
        rw [HED.out] at this
        exact this
      obtain ⟨ya, _⟩ := LA.out.b.cells
      have hra := LA.out.b.row
      rw [hol] at hra
      obtain ⟨_, _, m2a, _, _, m5a⟩ := row_at hra HX.out
      rw [HED.out] at m2a
      have hls := LA.out.b.bsz
      obtain ⟨hs1, hs2⟩ := hsm
      have hqs := HL.out.b.big
      have hgs : gs < wr.heap.size := cell_lt m2
      clear hra
      go_cut [] from 24 to 38 (fun wv => ∃ (wx : World) (o2 : List Sq), wx = wv ∧ Hid (LtI W wx (W.heap.size + 1 + 1) qb j s q (.slice (some ⟨gs, 0, none⟩) l.length oc) o2 (k + 1) k) ∧ Hid (o2.map (·.p) = l.map (·.p)) ∧ Hid (∃ dv, o2[k]? = some ⟨x.p, dv, x.kv⟩))
      case first =>
        go_region_law (
          refine step_append8K rfl (.tmp 32) (.tmp 33) rfl _ (W.heap.size + 1 + 1) (.slice ad x.p.data.length cd) x.p.data (by first | rfl | simp [Act.eval, Act.put]) OA.out (some ⟨wr.heap.size, 0, none⟩) 1 [165] (by first | rfl | simp [Act.eval, Act.put]) (one8 wr #[.int .u8 165] [165] rfl (by simp)) (by simp only [List.length_cons, List.length_nil]; omega) hls ?_
          intro v5 w5 ho5 hg5 hv5
          obtain ⟨g5, c5, e5, i5⟩ := row_more8 ho5
          subst e5
          have i6 : (x.p.data.length : Int) ≤ (c5 : Int) := by omega
          have hg5 := grown_of_drew hg5
          have M5 : Hid (LtB W w5 (W.heap.size + 1 + 1) qb j s q (.slice (some ⟨gs, 0, none⟩) l.length oc) o) := LA.out.mid8 HX.out (by rw [HED.out]; exact hg5)
          obtain ⟨y5, _⟩ := M5.out.cells
          have hr5 := M5.out.row
          rw [hol] at hr5
          obtain ⟨_, _, m25, _, _, m55⟩ := row_at hr5 HX.out
          have m552 := m55 (k * 5 + 2)
          have F5 := hide (LA.out.data HX.out rfl ho5 (by rw [HED.out]; exact hg5) (by rw [HED.out]; exact hv5))
          clear hr5 m55 ho5 hg5 hv5)
        all_goals go_wp2_with fail
        all_goals go_meet
        all_goals exact ⟨_, _, rfl, F5, by show _ = _; rw [map_set_p _ _ _ _ _ HX.out]; exact HM.out, ⟨_, by rw [List.getElem?_set_self (by have := hol; omega)]⟩⟩
      case rest =>
        obtain ⟨wx, o2, rfl, HL2, HM2, hxx⟩ := hcut
        obtain ⟨dv2, hx2⟩ := hxx.out
        have hol2 : o2.length = l.length := by have := congrArg List.length HM2.out; simpa using this
        clear m2 m4 m5 y0 y1 y2 y3 y4 HL HM HX HO8 HED AL LA OA ya m2a m5a hls hqs hgs hol hxx
        obtain ⟨y0, y1, y2, y3, y4⟩ := HL2.out.b.cells
        have hr := HL2.out.b.row
        rw [hol2] at hr
        obtain ⟨m0, m1, m2, m3, m4, m5⟩ := row_at hr hx2
        have O64 := HL2.out.own64 hx2
        obtain ⟨ak, ck, ek, _⟩ := O64.shape
        simp only [] at m4 ek
        rw [ek] at m4
        have HX := hide hx2
        have HEK := hide ek
        clear hr O64 ek hx2 m0 m1 m2 m3
        go_upto_region 8 with fail
        have AL : Hid (Below wx.heap.size wx (wx.alloc (.cells #[.int .i64 (-99)] 3))) := (Below.refl _ wx).alloc (Nat.le_refl _) _
        have LA := hide (HL2.out.later AL.out)
        have OA : Hid (OwnI (wx.alloc (.cells #[.int .i64 (-99)] 3)) (W.heap.size + 1 + 1) (.slice ak x.p.keep.length ck) x.p.keep) := by
          have := LA.out.own64 HX.out
          simp only [] at this
          rw [HEK.out] at this
          exact this
        obtain ⟨ya, _⟩ := LA.out.b.cells
        have hra := LA.out.b.row
        rw [hol2] at hra
        obtain ⟨_, _, _, _, m4a, m5a⟩ := row_at hra HX.out
        simp only [] at m4a
        rw [HEK.out] at m4a
        have hls := LA.out.b.bsz
        have hqs := HL2.out.b.big
        have hgs : gs < wx.heap.size := cell_lt m4
        clear hra
        go_region_law (
          refine step_appendIK rfl (.tmp 54) (.tmp 55) rfl _ (W.heap.size + 1 + 1) (.slice ak x.p.keep.length ck) x.p.keep (by first | rfl | simp [Act.eval, Act.put]) OA.out (some ⟨wx.heap.size, 0, none⟩) 1 [-99] (by first | rfl | simp [Act.eval, Act.put]) (IsInts.ofNew wx (-99)) (by simp only [List.length_cons, List.length_nil]; omega) hls ?_
          intro v5 w5 ho5 hg5 hv5
          obtain ⟨g5, c5, e5, i5⟩ := row_more64 ho5
          subst e5
          have i6 : (x.p.keep.length : Int) ≤ (c5 : Int) := by omega
          have hg5 := grown_of_drew hg5
          have M5 : Hid (LtB W w5 (W.heap.size + 1 + 1) qb j s q (.slice (some ⟨gs, 0, none⟩) l.length oc) o2) := LA.out.mid64 HX.out (by simp only []; rw [HEK.out]; exact hg5)
          obtain ⟨y5, _⟩ := M5.out.cells
          have hr5 := M5.out.row
          rw [hol2] at hr5
          obtain ⟨_, _, _, _, m45, m55⟩ := row_at hr5 HX.out
          have m552 := m55 (k * 5 + 4)
          have F5 := hide (LA.out.keep HX.out rfl ho5 (by simp only []; rw [HEK.out]; exact hg5) (by simp only []; rw [HEK.out]; exact hv5))
          clear hr5 m55 ho5 hg5 hv5)
        all_goals (
          go_wp2_with fail
          go_roundg (l.length - (k + 1))
          case measure => omega
          case rel => exact ⟨k + 1, _, by go_num, Nat.le_refl _, hlt, F5, by show _ = _; rw [map_set_p _ _ _ _ _ HX.out]; exact HM2.out⟩)
    · have tlt : ¬ (k : Int) < (l.length : Int) := by omega
      have hkl : k = l.length := by omega
      have A9 : Hid (Below wr.heap.size wr (wr.alloc (.cells #[.int .i64 (-99), .int .i64 0, .slice none 0 0, .int .i64 0, .slice none 0 0] 44))) := (Below.refl _ wr).alloc (Nat.le_refl _) _
      have L9 := hide (HL.out.later A9.out)
      have hz9 : W.heap.size + 1 + 1 ≤ (wr.alloc (.cells #[.int .i64 (-99), .int .i64 0, .slice none 0 0, .int .i64 0, .slice none 0 0] 44)).heap.size := L9.out.b.bsz
      have hr9 : Hid ((wr.alloc (.cells #[.int .i64 (-99), .int .i64 0, .slice none 0 0, .int .i64 0, .slice none 0 0] 44)).ownsRow (W.heap.size + 1 + 1) 44 5 (.slice oa l.length oc) o.length (flatS o)) := L9.out.b.row
      go_upto_region 11 with (at_builtin
                              refine wpList_steps rfl (.tmp 65) (.tmp 67) rfl (W.heap.size + 1 + 1) (.slice oa l.length oc) o rfl hr9.out (some ⟨wr.heap.size, 0, none⟩) 1 z99 rfl (src_step wr ⟨-99, 0, [], 0, []⟩ (.slice none 0 0) (.slice none 0 0) (-99) rfl) (by intro u hu; simp [flatS, sqCells, z99] at hu; rcases hu with rfl | rfl | rfl | rfl | rfl <;> rfl) (by omega) hz9 ?_
                              intro v9 w9 ho9 hg9 _
                              obtain ⟨g9, c9, e9, i9⟩ : ∃ g9 c9, v9 = .slice (some ⟨g9, 0, none⟩) (o.length + 1) c9 ∧ o.length + 1 ≤ c9 := by
                                rcases ho9.2 with ⟨_, h0⟩ | ⟨g, cap, cur, e, _, _, hc, _⟩
                                · simp at h0
                                · exact ⟨g, cap, by simpa using e, by simpa using hc⟩
                              subst e9
                              rw [List.length_append] at ho9
                              have F9 := hide (L9.out.fin (v := .slice (some ⟨g9, 0, none⟩) l.length c9) (by omega) hg9 ho9)
                              rw [hol]
                              have i10 : (l.length : Int) ≤ (c9 : Int) := by omega
                              have y09 : w9.cell? ⟨qb, 3, none⟩ = some (.slice oa l.length oc) := by simp [World.cell?, F9.out.1]
                              have y49 : w9.frozen? ⟨qb, 3, none⟩ = false := by simp [World.frozen?, F9.out.1]
                              clear ho9 hg9)
      have HMF := HM.out
      go_wp2_with (first
        | (refine wpList_load_row rfl 31 (.tmp 3) rfl qb rfl 31 _ (0, 0) _ F9.out.2.2.1 Tryd.underlying31 rfl play_size ?_)
        | (refine wpList_store_row rfl 31 (.tmp 2) (.tmp 72) rfl (W.heap.size + 1) #[.int .i64 j, .int .i64 s, .int .i64 q, .slice (some ⟨g9, 0, none⟩) l.length c9] rfl rfl 31 _ F9.out.2.1 play_size rfl play_one ?_))
      have hrow : ((w9.setCell ⟨qb, 3, none⟩ (.slice (some ⟨g9, 0, none⟩) l.length c9)).setRow (W.heap.size + 1) #[.int .i64 j, .int .i64 s, .int .i64 q, .slice (some ⟨g9, 0, none⟩) l.length c9]).heap[W.heap.size + 1]? = some (.cells #[.int .i64 j, .int .i64 s, .int .i64 q, .slice (some ⟨g9, 0, none⟩) l.length c9] 31 (0, 0)) := setRow_heap _ _ _ _ _ _ F9.out.2.1
      refine bodyPost_ret (results_cell_row rfl _ _ (W.heap.size + 1) 31 _ (0, 0) _ rfl hrow Tryd.underlying31 rfl play_size) rfl ?_
      exact ⟨below_setRow F9.out.2.2.2.1 (by omega) _, _, _, rfl, o, F9.out.2.2.2.2 _, HMF⟩
end Go.Proofs.YtpfbfkjmdlogcaaDoor
