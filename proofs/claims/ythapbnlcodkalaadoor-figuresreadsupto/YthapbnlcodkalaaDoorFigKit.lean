/-
  Layer 13: the list of pairs that a sheet has, and its three functions.
-/
import Derived.Test.YthapbnlcodkalaaDoorRefDict
import Derived.Test.YthapbnlcodkalaaDoorRefPrint
import Derived.Test.YthapbnlcodkalaaDoorKeepsG
import Derived.Deep.Cut
import Derived.Deep.RegionHeld3
import Derived.Laws.EntriesVeiled
namespace Go.Proofs.YthapbnlcodkalaaDoor
open Go.RowKit Go.Sort

theorem hide {p : Prop} (h : p) : Hid p := h
def cellsP (ps : List BP) : List Value := ps.flatMap fun p => [.string p.1, .string p.2]
theorem cellsP_len : ∀ ps : List BP, (cellsP ps).length = ps.length * 2
  | [] => rfl
  | p :: r => by
    have := cellsP_len r
    simp only [cellsP, List.flatMap_cons, List.length_append, List.length_cons, List.length_nil] at this ⊢
    omega
theorem cellsP_snoc (ps : List BP) (p : BP) : cellsP (ps ++ [p]) = cellsP ps ++ [.string p.1, .string p.2] := by simp [cellsP]
theorem cellsP_at : ∀ (ps : List BP) (j : Nat) (p : BP), ps[j]? = some p → (cellsP ps)[j * 2]? = some (.string p.1) ∧ (cellsP ps)[j * 2 + 1]? = some (.string p.2)
  | q :: r, 0, p, h => by
    simp only [List.getElem?_cons_zero, Option.some.injEq] at h
    subst h
    exact ⟨rfl, rfl⟩
  | q :: r, j + 1, p, h => by
    have := cellsP_at r j p (by simpa using h)
    rw [show (j + 1) * 2 = j * 2 + 2 by omega]
    exact this
theorem info_pair : (Tryd.prog.info? 52).map (fun i => (i.zero, i.size, i.bytes)) = some (some (.agg #[.string ⟨#[]⟩, .string ⟨#[]⟩]), 2, 32) := by kernel_rfl
/-- The sheet whose list lies in block pb, the function that lays a text in block tb. -/
structure Sh (w : World) (pb tb bs : Nat) (o : Obj) (ps : List BP) (W : World) : Prop where
  below : Below w.heap.size w W
  lo : w.heap.size ≤ pb ∧ w.heap.size ≤ tb ∧ pb ≠ tb ∧ bs ≠ pb
  box : ∃ v, W.heap[pb]? = some (.cells #[v] 46 (0, 0)) ∧ W.ownsRow w.heap.size 52 2 v ps.length (cellsP ps) ∧ ∀ k, v.ownBlock = some k → k ≠ pb ∧ k ≠ tb ∧ k ≠ bs
  ext : W.heap[bs]? = some o
  txt : W.heap[tb]? = some (.cells #[.func (.func 39) #[] #[.pointer (some ⟨pb, 0, none⟩)]] 60 (0, 0))
theorem rowG_below {w w' : World} {B : Nat} {e : TypeId} {s n : Nat} {v : Value} {xs : List Value} (h : w.ownsRow B e s v n xs) (hb : Below w.heap.size w w') : w'.ownsRow B e s v n xs := by
  refine ⟨h.1, ?_⟩
  rcases h.2 with h0 | ⟨g, cap, cur, hv, hB, hg, rest⟩
  · exact .inl h0
  · exact .inr ⟨g, cap, cur, hv, hB, (hb.block g (Array.getElem?_eq_some_iff.1 hg).1).trans hg, rest⟩
theorem rowG_shape {w : World} {B : Nat} {e : TypeId} {s n : Nat} {v : Value} {xs : List Value} (h : w.ownsRow B e s v n xs) : ∃ a c, v = .slice a n c := by
  rcases h.2 with ⟨rfl, rfl⟩ | ⟨g, cap, cur, hv, hB, hg, rest⟩
  · exact ⟨none, 0, rfl⟩
  · exact ⟨_, _, hv⟩
theorem blk_lt {w : World} {g : Nat} {o : Obj} (h : w.heap[g]? = some o) : g < w.heap.size := (Array.getElem?_eq_some_iff.1 h).1
theorem Sh.later {w W W' : World} {pb tb bs : Nat} {o : Obj} {ps : List BP} (h : Sh w pb tb bs o ps W) (hb : Below W.heap.size W W') : Sh w pb tb bs o ps W' := by
  obtain ⟨v, b1, b2, b3⟩ := h.box
  exact ⟨h.below.trans (hb.mono h.below.size), h.lo, ⟨v, (hb.block pb (blk_lt b1)).trans b1, rowG_below b2 hb, b3⟩, (hb.block bs (blk_lt h.ext)).trans h.ext, (hb.block tb (blk_lt h.txt)).trans h.txt⟩
/-- Another block is looked after from now on. -/
theorem Sh.ward {w W : World} {pb tb bs : Nat} {o : Obj} {ps : List BP} (h : Sh w pb tb bs o ps W) (o2 : Obj) : Sh w pb tb W.heap.size o2 ps (W.alloc o2) := by
  have hL := h.later ((Below.refl _ W).alloc (Nat.le_refl _) o2)
  obtain ⟨v, b1, b2, b3⟩ := hL.box
  obtain ⟨v0, c1, c2, c3⟩ := h.box
  have hp := blk_lt c1
  have e : v = v0 := by
    have := (heap_alloc_old W o2 hp).trans c1
    rw [b1] at this
    simpa using this
  subst e
  refine ⟨hL.below, ⟨h.lo.1, h.lo.2.1, h.lo.2.2.1, by omega⟩, ⟨v, b1, b2, fun k hk => ⟨(b3 k hk).1, (b3 k hk).2.1, ?_⟩⟩, heap_alloc_new W o2, hL.txt⟩
  have := (World.ownsRow.lt c2 k hk).2
  omega
theorem Sh.unward {w W : World} {pb tb bs : Nat} {o : Obj} {ps : List BP} (h : Sh w pb tb bs o ps W) : Sh w pb tb tb (.cells #[.func (.func 39) #[] #[.pointer (some ⟨pb, 0, none⟩)]] 60) ps W := by
  obtain ⟨v, b1, b2, b3⟩ := h.box
  exact ⟨h.below, ⟨h.lo.1, h.lo.2.1, h.lo.2.2.1, fun e => h.lo.2.2.1 e.symm⟩, ⟨v, b1, b2, fun k hk => ⟨(b3 k hk).1, (b3 k hk).2.1, (b3 k hk).2.1⟩⟩, h.txt, h.txt⟩
theorem pairs_of_row {W : World} {B : Nat} {v : Value} {ps : List BP} (h : W.ownsRow B 52 2 v ps.length (cellsP ps)) (hl : ps.length ≤ 1000) : ∃ a c, v = .slice a ps.length c ∧ IsPairs W a c ps := by
  rcases h.2 with ⟨rfl, h0⟩ | ⟨g, cap, cur, rfl, hb, hg, hnc, hcm, hcs, htake⟩
  · have : ps = [] := List.eq_nil_of_length_eq_zero h0
    subst this
    exact ⟨none, 0, rfl, by simp, by simp, .inl rfl⟩
  · refine ⟨_, cap, rfl, hnc, by omega, .inr ⟨g, 0, rfl, blk_lt hg, fun j p hj => ?_⟩⟩
    have hc := h.cells (g := g) rfl
    obtain ⟨c0, c1⟩ := cellsP_at ps j p hj
    have e0 := hc _ _ c0
    have e1 := hc _ _ c1
    rw [Addr.add_mid] at e0 e1
    exact ⟨e0, by rw [Nat.zero_add] at e1 ⊢; exact e1⟩
theorem wpList_pair {ops : Array Oper} {rest : List Oper} {o : Oper} {a : Act} {Q : Exit → Act → World → Prop} (hgd : o.guard = none) (s x : Operand)
    (ho : o.op = .call { callee := .builtin .append, args := #[s, x], argTypes := #[46, 46] })
    (w : World) (B : Nat) (hB : B ≤ w.heap.size) (v : Value) (ps : List BP) (p : BP) (hown : w.ownsRow B 52 2 v ps.length (cellsP ps)) (hl : ps.length ≤ 1000) (hs : a.eval s = v) (hx : a.eval x = .slice (some ⟨w.heap.size, 0, none⟩) 1 1)
    (h : ∀ v' w', w'.ownsRow B 52 2 v' (ps ++ [p]).length (cellsP (ps ++ [p])) → (w.alloc (.cells #[.string p.1, .string p.2] 52)).grownBy w' v.ownBlock → (v'.ownBlock = v.ownBlock ∨ v'.ownBlock = some (w.heap.size + 1)) → wpList Tryd.prog ops Q rest (a.put o.dst v') w') :
    wpList Tryd.prog ops Q (o :: rest) a (w.alloc (.cells #[.string p.1, .string p.2] 52)) := by
  obtain ⟨i0, hi, hz0, hz1, hz2⟩ := info_parts info_pair
  refine wpList_plain hgd fun K hK => ?_
  obtain ⟨v', w', hr, h2, h3, _, h5, _⟩ := run_append_keepsG (P := Tryd.prog) (w.alloc (.cells #[.string p.1, .string p.2] 52)) 2 B 46 o.type 52 i0 (.agg #[.string ⟨#[]⟩, .string ⟨#[]⟩]) Tryd.underlying46 hi hz0 hz1 rfl v ps.length (cellsP ps) (rowG_below hown ((Below.refl _ w).alloc (Nat.le_refl _) _)) (some ⟨w.heap.size, 0, none⟩) 1 1 [.string p.1, .string p.2] rfl
    (.inr ⟨_, rfl, fun j u hj => by
      rw [Addr.add_mid, Nat.zero_add, cell_of_row _ _ j _ _ (0, 0) (heap_alloc_new w _)]
      simpa using hj⟩) (by simp [Value.oneCell']) (by unfold maxLen; omega) (by rw [hz2]; omega) (by simp; omega)
  unfold Oper.wp execOp
  simp only [ho, resolve, invoke, builtin, Sem.run_bind, Sem.run_pure, Result.andThen_ok, List.map_toArray, List.map_cons, List.map_nil, hs, hx, hr]
  refine hK _ _ (h v' w' ?_ h3 (by rw [World.size_alloc] at h5; exact h5))
  rw [List.length_append, cellsP_snoc]
  exact h2

theorem Sh.push {w W w2 : World} {pb tb bs : Nat} {o : Obj} {ps : List BP} {p : BP} {u v2 : Value} (h : Sh w pb tb bs o ps W) (b1 : W.heap[pb]? = some (.cells #[u] 46 (0, 0))) (b2 : W.ownsRow w.heap.size 52 2 u ps.length (cellsP ps)) (b3 : ∀ k, u.ownBlock = some k → k ≠ pb ∧ k ≠ tb ∧ k ≠ bs)
    (o2 : w2.ownsRow w.heap.size 52 2 v2 (ps ++ [p]).length (cellsP (ps ++ [p]))) (g2 : (W.alloc (.cells #[.string p.1, .string p.2] 52)).grownBy w2 u.ownBlock) (e2 : v2.ownBlock = u.ownBlock ∨ v2.ownBlock = some (W.heap.size + 1)) (d1 : w2.heap[pb]? = some (.cells #[u] 46 (0, 0))) :
    Sh w pb tb bs o (ps ++ [p]) (w2.setCell ⟨pb, 0, none⟩ v2) := by
  have hp := blk_lt b1
  have ht := blk_lt h.txt
  have hx := blk_lt h.ext
  have hsz := h.below.size
  obtain ⟨s1, s2⟩ := set_cells d1 0 v2
  have hne : ∀ k, v2.ownBlock = some k → k ≠ pb ∧ k ≠ tb ∧ k ≠ bs := fun k hk => by
    rcases e2 with e | e
    · exact b3 k (e ▸ hk)
    · rw [e] at hk
      cases hk
      omega
  have B2 : Below w.heap.size w w2 := (h.below.alloc hsz _).grown g2 (by simp; omega) (fun j hj => (World.ownsRow.lt b2 j hj).1)
  refine ⟨B2.grown s2 B2.size (fun j hj => by cases hj; exact h.lo.1), h.lo, ⟨v2, s1, ?_, hne⟩, ?_, ?_⟩
  · exact o2.kept s2 (.inr (fun e => (hne pb e).1 rfl))
  · exact (s2.block bs (by have := g2.size; simp at this; omega) (fun e => h.lo.2.2.2 (by cases e; rfl))).trans ((g2.block bs (by simp; omega) (fun e => (b3 bs e.symm).2.2 rfl)).trans ((heap_alloc_old W _ hx).trans h.ext))
  · exact (s2.block tb (by have := g2.size; simp at this; omega) (fun e => h.lo.2.2.1 (by cases e; rfl))).trans ((g2.block tb (by simp; omega) (fun e => (b3 tb e.symm).2.1 rfl)).trans ((heap_alloc_old W _ ht).trans h.txt))
set_option maxHeartbeats 2000000 in
set_option maxRecDepth 1000000 in
theorem text_any (w W : World) (pb tb bs : Nat) (o : Obj) (ps : List BP) (k v : ByteArray) (h : Sh w pb tb bs o ps W) (hl : ps.length ≤ 1000) :
    Calls Tryd.prog 39 (#[.string k, .string v] ++ #[.pointer (some ⟨pb, 0, none⟩)]) W fun e w' => e = .returned (.tuple #[]) ∧ Sh w pb tb bs o (ps ++ [(k, v)]) w' := by
  obtain ⟨u, b1, b2, b3⟩ := h.box
  have c0 : W.cell? ⟨pb, 0, none⟩ = some u := cell_of_row W pb 0 _ _ (0, 0) b1
  have hsz := h.below.size
  have HB := hide (And.intro b1 (And.intro b2 b3))
  have HS := hide h
  have hpb := blk_lt b1
  clear b1 b2 b3 h
  go_enter Tryd.func39, Tryd.ntmps39
  go_wp2_with (at_builtin; refine wpList_pair rfl (.tmp 5) (.tmp 9) rfl W w.heap.size hsz u ps (k, v) HB.out.2.1 hl (by rfl) (by rfl) ?_; intro v2 w2 o2 g2 e2
               obtain ⟨a2, cp2, rfl⟩ := rowG_shape o2
               have d1 : w2.heap[pb]? = some (.cells #[u] 46 (0, 0)) := (g2.block pb (by simp; omega) (fun e => (HB.out.2.2 pb e.symm).1 rfl)).trans ((heap_alloc_old W _ hpb).trans HB.out.1)
               have c2 : w2.cell? ⟨pb, 0, none⟩ = some u := cell_of_row w2 pb 0 _ _ (0, 0) d1
               have f2 : w2.frozen? ⟨pb, 0, none⟩ = false := frozen_of_row w2 pb 0 _ _ d1
               have H2 := hide (And.intro o2 (And.intro g2 (And.intro e2 d1)))
               clear o2 g2 e2 d1)
  go_end0
  have hlen : (ps ++ [(k, v)]).length = ps.length + 1 := by simp
  refine ⟨rfl, ?_⟩
  rw [← hlen]
  exact Sh.push HS.out HB.out.1 HB.out.2.1 HB.out.2.2 H2.out.1 H2.out.2.1 H2.out.2.2.1 H2.out.2.2.2
/-- What the functions of a sheet read: the table of Itoa. -/
def PowAt (w : World) : Prop := Lib.TabIs Tryd.prog w "internal/strconv.uint64pow10" .u64 Lib.pow10Tab
def prS (n : Int) : ByteArray := ⟨(printL n).toArray⟩
set_option maxHeartbeats 2000000 in
set_option maxRecDepth 1000000 in
theorem number_any (w W : World) (pb tb bs : Nat) (o : Obj) (ps : List BP) (k : ByteArray) (n : Int) (h : Sh w pb tb bs o ps W) (hl : ps.length ≤ 1000) (hn : -9223372036854775808 ≤ n ∧ n ≤ 9223372036854775807) (hp : PowAt W) :
    Calls Tryd.prog 40 (#[.string k, .int .i64 n] ++ #[.pointer (some ⟨tb, 0, none⟩)]) W fun e w' => e = .returned (.tuple #[]) ∧ Sh w pb tb bs o (ps ++ [(k, prS n)]) w' := by
  have c0 : W.cell? ⟨tb, 0, none⟩ = some (.func (.func 39) #[] #[.pointer (some ⟨pb, 0, none⟩)]) := cell_of_row W tb 0 _ _ (0, 0) h.txt
  have ht := blk_lt h.txt
  have HS := hide h
  have HP := hide (print_any n W.drew hn.1 hn.2 hp)
  clear h hp hn
  go_enter Tryd.func40, Tryd.ntmps40
  go_wp2_with fail
  go_region_held3 (fun X => X.cell? ⟨tb, 0, none⟩ = some (.func (.func 39) #[] #[.pointer (some ⟨pb, 0, none⟩)]))
    (first | exact c0 | assumption)
    (first
      | (go_at_call 41; refine HP.out.mono ?_; rintro e w2 ⟨rfl, B2⟩
         have S2 := hide (HS.out.later ((Below.refl _ W).drew.trans B2))
         have c2 : w2.cell? ⟨tb, 0, none⟩ = some (.func (.func 39) #[] #[.pointer (some ⟨pb, 0, none⟩)]) := cell_of_row w2 tb 0 _ _ (0, 0) S2.out.txt
         clear B2)
      | (go_at_call 39; refine (text_any w _ pb tb bs o ps k ⟨(printL n).toArray⟩ S2.out hl).mono ?_; rintro e w3 ⟨rfl, s3⟩
         have S3 := hide s3
         have c3 : w3.cell? ⟨tb, 0, none⟩ = some (.func (.func 39) #[] #[.pointer (some ⟨pb, 0, none⟩)]) := cell_of_row w3 tb 0 _ _ (0, 0) S3.out.txt
         clear s3))
  go_wp2_with fail
  go_end0
  exact ⟨rfl, S3.out⟩
set_option maxHeartbeats 2000000 in
set_option maxRecDepth 1000000 in
theorem told_any (w W : World) (pb tb bs : Nat) (o : Obj) (ps : List BP) (h : Sh w pb tb bs o ps W) (hl : ps.length ≤ 1000) (hb : (dictL (ps.map un)).length < 140737488355328) :
    Calls Tryd.prog 42 (#[] ++ #[.pointer (some ⟨pb, 0, none⟩)]) W fun e w' => ∃ v, e = .returned v ∧ Own w' W.heap.size v (if dictE (ps.map un) = 0 then dictL (ps.map un) else []) ∧ Below W.heap.size W w' := by
  obtain ⟨u, b1, b2, b3⟩ := h.box
  obtain ⟨a, c, rfl, hi⟩ := pairs_of_row b2 hl
  have c0 : W.cell? ⟨pb, 0, none⟩ = some (.slice a ps.length c) := cell_of_row W pb 0 _ _ (0, 0) b1
  obtain ⟨D, hD⟩ : ∃ D, D = (if dictE (ps.map un) = 0 then dictL (ps.map un) else []) := ⟨_, rfl⟩
  obtain ⟨er, her⟩ : ∃ er, er = dictE (ps.map un) := ⟨_, rfl⟩
  have CD : Hid (Calls Tryd.prog 43 #[.slice a ps.length c] W fun e w' => ∃ v, e = .returned (.tuple #[v, .int .i64 er]) ∧ Own w' W.heap.size v D ∧ Below W.heap.size W w') := by
    rw [hD, her]
    exact dict_any a c ps W hi hb
  rw [← hD]
  clear b1 b2 b3 h hi hb hD her
  go_enter Tryd.func42, Tryd.ntmps42
  go_wp2_with (go_at_call 43; refine CD.out.mono ?_; rintro e w2 ⟨v, rfl, o2, B2⟩; obtain ⟨av, cv, rfl, _⟩ := o2.shape; have H2 := hide (And.intro o2 B2); clear o2 B2)
  go_ret
  exact ⟨_, rfl, H2.out.1, H2.out.2⟩
def lessI (a b : Int) : Int := if a ≤ b then 0 else wrap64 (a - b)
theorem less_any (a b : Int) (w : World) : Calls Tryd.prog 25 #[.int .i64 a, .int .i64 b] w fun e w' => e = .returned (.int .i64 (lessI a b)) ∧ w' = w := by
  by_cases h : a ≤ b
  · go_enter Tryd.func25, Tryd.ntmps25
    go_wp2_with fail
    go_ret
    exact ⟨by rw [lessI, if_pos h]; rfl, rfl⟩
  · go_enter Tryd.func25, Tryd.ntmps25
    go_wp2_with fail
    go_ret
    exact ⟨by rw [lessI, if_neg (by omega)]; rfl, rfl⟩
set_option maxHeartbeats 2000000 in
set_option maxRecDepth 1000000 in
theorem sheet_any (w : World) : Calls Tryd.prog 23 #[] w fun e w' => e = .returned (.tuple #[.func (.func 39) #[] #[.pointer (some ⟨w.heap.size + 1, 0, none⟩)], .func (.func 40) #[] #[.pointer (some ⟨w.heap.size, 0, none⟩)], .func (.func 42) #[] #[.pointer (some ⟨w.heap.size + 1, 0, none⟩)]]) ∧ Sh w (w.heap.size + 1) w.heap.size w.heap.size (.cells #[.func (.func 39) #[] #[.pointer (some ⟨w.heap.size + 1, 0, none⟩)]] 60) [] w' := by
  go_enter Tryd.func23, Tryd.ntmps23
  go_wp2_with fail
  have hx0 : ((w.alloc (.cells #[.func (.func 39) #[] #[.pointer (some ⟨w.heap.size + 1, 0, none⟩)]] 60)).alloc (.cells #[.slice none 0 0] 46)).cell? ⟨w.heap.size, 0, none⟩ = some (.func (.func 39) #[] #[.pointer (some ⟨w.heap.size + 1, 0, none⟩)]) := cell_of_row _ _ 0 _ _ (0, 0) (heap_alloc2_old w _ _)
  refine bodyPost_ret (v := .tuple #[.func (.func 39) #[] #[.pointer (some ⟨w.heap.size + 1, 0, none⟩)], .func (.func 40) #[] #[.pointer (some ⟨w.heap.size, 0, none⟩)], .func (.func 42) #[] #[.pointer (some ⟨w.heap.size + 1, 0, none⟩)]]) ?_ rfl ?_
  · simp only [results, Tryd.f23]
    simp [go_sem, hx0]
  · refine ⟨rfl, ?_⟩
    exact ⟨((Below.refl _ w).alloc (Nat.le_refl _) _).alloc (by simp) _, ⟨by omega, Nat.le_refl _, by omega, by omega⟩, ⟨.slice none 0 0, heap_alloc2_new w _ _, World.ownsRow_nil _ _ _ _, fun k hk => by cases hk⟩, heap_alloc2_old w _ _, heap_alloc2_old w _ _⟩
end Go.Proofs.YthapbnlcodkalaaDoor
