/-
  The desk's clone.
-/
import Derived.Test.YtkjjinccnaphpaaHDeskM
import Derived.Test.YtkjjinccnaphpaaShown
import Derived.Test.YtkjjinccnaphpaaAmong
import Derived.Test.YtkjjinccnaphpaaCloneT
namespace Go.Proofs.Ytkjjinccnaphpaa
open Go.RowKit

theorem info_pa : (Try.prog.info? 24).map (fun i => (i.zero, i.size, i.bytes)) = some (some (.pointer none), 1, 8) := by kernel_rfl
theorem info_pb : (Try.prog.info? 37).map (fun i => (i.zero, i.size, i.bytes)) = some (some (.pointer none), 1, 8) := by kernel_rfl

/-- 'append' of one pointer onto a list of the call's own. -/
theorem wpList_pushA {w : World} {ops : Array Oper} {rest : List Oper} {o : Oper} {a : Act} {Q : Exit → Act → World → Prop} (hgd : o.guard = none) (s x : Operand)
    (ho : o.op = .call { callee := .builtin .append, args := #[s, x], argTypes := #[29, 29] })
    (B : Nat) (v : Value) (os : List Value) (hs : a.eval s = v) (hown : w.ownsRow B 24 1 v os.length os) (u : Value) (k : Nat) (hk : k = w.heap.size) (hx : a.eval x = .slice (some ⟨k, 0, none⟩) 1 1) (hu : u.oneCell' = true)
    (hb : os.length ≤ 1073741824) (hbase : B ≤ w.heap.size)
    (h : ∀ v' w', w'.ownsRow B 24 1 v' (os.length + 1) (os ++ [u]) → (w.alloc (.cells #[u] 24)).grownBy w' v.ownBlock → (v'.ownBlock = v.ownBlock ∨ v'.ownBlock = some (w.heap.size + 1)) →
      wpList Try.prog ops Q rest (a.put o.dst v') w') : wpList Try.prog ops Q (o :: rest) a (w.alloc (.cells #[u] 24)) := by
  subst hk
  obtain ⟨i, hi, hz0, hz1, hz2⟩ := info_parts info_pa
  refine wpList_append_keeps hgd s x 29 ho B 24 i (.pointer none) Try.underlying29 hi hz0 hz1 rfl v os.length os hs (hown.alloc _) (some ⟨w.heap.size, 0, none⟩) 1 1 [u] hx rfl (.inr (one_new w u _)) (by intro y hy; simp at hy; subst hy; exact hu) (by unfold maxLen; omega) (by rw [hz2]; omega) (by simp; omega) ?_
  intro v' w' h1 h2 _ h4 _
  exact h v' w' h1 h2 (by simpa using h4)
theorem wpList_pushB {w : World} {ops : Array Oper} {rest : List Oper} {o : Oper} {a : Act} {Q : Exit → Act → World → Prop} (hgd : o.guard = none) (s x : Operand)
    (ho : o.op = .call { callee := .builtin .append, args := #[s, x], argTypes := #[30, 30] })
    (B : Nat) (v : Value) (os : List Value) (hs : a.eval s = v) (hown : w.ownsRow B 37 1 v os.length os) (u : Value) (k : Nat) (hk : k = w.heap.size) (hx : a.eval x = .slice (some ⟨k, 0, none⟩) 1 1) (hu : u.oneCell' = true)
    (hb : os.length ≤ 1073741824) (hbase : B ≤ w.heap.size)
    (h : ∀ v' w', w'.ownsRow B 37 1 v' (os.length + 1) (os ++ [u]) → (w.alloc (.cells #[u] 37)).grownBy w' v.ownBlock → (v'.ownBlock = v.ownBlock ∨ v'.ownBlock = some (w.heap.size + 1)) →
      wpList Try.prog ops Q rest (a.put o.dst v') w') : wpList Try.prog ops Q (o :: rest) a (w.alloc (.cells #[u] 37)) := by
  subst hk
  obtain ⟨i, hi, hz0, hz1, hz2⟩ := info_parts info_pb
  refine wpList_append_keeps hgd s x 30 ho B 37 i (.pointer none) Try.underlying30 hi hz0 hz1 rfl v os.length os hs (hown.alloc _) (some ⟨w.heap.size, 0, none⟩) 1 1 [u] hx rfl (.inr (one_new w u _)) (by intro y hy; simp at hy; subst hy; exact hu) (by unfold maxLen; omega) (by rw [hz2]; omega) (by simp; omega) ?_
  intro v' w' h1 h2 _ h4 _
  exact h v' w' h1 h2 (by simpa using h4)

/-- A heap of the program's and one of the document's, as a pair. -/
theorem HAt.pair {w0 w w1 w2 : World} {p : Hpr} {hb mb db : Nat} {v dv : Value} (h : HAt w0 w p) (h1 : HeapAtT w1 hb v mb p.f #[] p.last p.R) (b1 : ∀ k, Mine hb v mb k → w0.heap.size ≤ k) (d2 : RefH w2 w0.heap.size db dv p.way p.last p.E) (b2 : ∀ k, MineH db dv k → w0.heap.size ≤ k) (hb2 : Below w1.heap.size w1 w2) : HAt w0 w2 ⟨hb, mb, v, p.f, p.way, p.last, p.R, db, dv, p.E⟩ :=
  ⟨h1.kept (Kept.ofBelow (P := fun _ => False) hb2) (fun _ _ h => h), d2, h.G, h.hp, h.perm, h.up, h.le, h.pos, b1, b2⟩

theorem row_frozen {w : World} {B e m cap g n : Nat} {xs : List Value} (h : w.ownsRow B e 1 (.slice (some ⟨g, 0, none⟩) m cap) n xs) (j : Nat) : w.frozen? ⟨g, j, none⟩ = false := by
  rcases h.2 with ⟨h', _⟩ | ⟨g', cap', cur, h', hb, hg, _⟩
  · simp at h'
  · simp only [Value.slice.injEq, Option.some.injEq, Addr.mk.injEq] at h'
    obtain ⟨⟨rfl, _⟩, _⟩ := h'
    simp [World.frozen?, hg]
theorem pair_on {w0 w w' : World} {p : Hpr} {lab lab' : Nat → Tag} {Db i top : Nat} (hp : HAt w0 w p) (hl : ∀ j, p.mine j → lab j = .user top) (hi : i ≠ top) (hDb : lab Db = .box) (hl' : ∀ j, j ≠ w.heap.size + 1 → lab' j = lab j) (K : Kept (fun j => lab j = .user i ∨ j = Db) w w') : HAt w0 w' p ∧ ∀ j, p.mine j → lab' j = .user top := by
  refine ⟨hp.kept K (fun j hj e => ?_), fun j hj => (hl' j (by have := hp.lt hj; omega)).trans (hl j hj)⟩
  have h1 := hl j hj
  rcases e with e | e
  · rw [e] at h1
    simp at h1
    exact hi h1
  · rw [e, hDb] at h1
    simp at h1
set_option maxHeartbeats 2000000 in
set_option maxRecDepth 1000000 in
theorem clone_less {w0 W : World} {lab : Nat → Tag} {Db f top n : Nat} {va vb : Value} {es : List Ent} {ps : List (Nat × Hpr)} (h : DeskS w0 W lab Db va vb f es ps top n) (ht : 3 ≤ top) (k : Nat) (hk : k < ps.length) (tt : Int) (hn : n ≤ 2000000) (h4 : ps.length < 4) :
    Calls Try.prog 32 #[.pointer (some ⟨Db, 0, none⟩), .int .i64 (k : Int), .int .i64 tt] W fun e w' => e = .returned (.bool true) ∧ ∃ lab' va' vb' ps', DeskS w0 w' lab' Db va' vb' f es ps' (top + 1) n ∧ ps.length ≤ ps'.length := by
  have hnn := fun w p => thing_not_nil w p
  obtain ⟨q, hq⟩ : ∃ q, ps[k]? = some q := ⟨_, List.getElem?_eq_getElem hk⟩
  obtain ⟨ga, ca, gb, cb, rfl, rfl, c1, c2, hga, hgb, lga, lgb⟩ := h.reads hq
  obtain ⟨b0, b1, hDb, f0, f1, hD0, lDb⟩ := h.box
  have HH : Hid (DeskS w0 W lab Db _ _ f es ps top n) := h
  have hat := h.hs k q hq
  have hsz := h.size k q hq
  have hlen : q.2.R.length = q.2.E.length := hat.perm.length_eq
  have hw0 := h.bel.size
  have CO := hide3 (cloneT W q.2.hb q.2.mb q.2.v q.2.f #[] q.2.last q.2.R hat.h (by omega))
  have HAT : Hid (HAt w0 W q.2) := hat
  have hE : q.2.E.length ≤ 1073741822 := by omega
  have HSZ : Hid (q.2.E.length ≤ n ∧ q.2.last ≤ n) := hsz
  have hki : (k : Int) < (ps.length : Int) := by omega
  have hfew := h.few
  have h4i : (ps.length : Int) < 4 := by omega
  unfold ptrA at c1
  unfold ptrB at c2
  clear h hat hlen hsz
  go_enter Try.func32, Try.ntmps32
  go_wp2_with (first
    | (go_at_call 13
       refine CO.out.mono ?_
       rintro e w1 ⟨hb', v', mb', rfl, h1, hB1, hm1⟩
       have x1 : w1.cell? ⟨Db, 1, none⟩ = _ := (hB1.cell (p := ⟨Db, 1, none⟩) hDb).trans b1
       have x2 : w1.cell? ⟨gb, k, none⟩ = _ := (hB1.cell (p := ⟨gb, k, none⟩) hgb).trans c2
       have x0 : w1.cell? ⟨Db, 0, none⟩ = _ := (hB1.cell (p := ⟨Db, 0, none⟩) hDb).trans b0
       have hl1 : Db < w1.heap.size := Nat.lt_of_lt_of_le hDb hB1.size
       have CR := hide3 (hClone_any w1 w0.heap.size q.2.db q.2.dv q.2.way q.2.last q.2.E (HAT.out.later hB1).d hE (Nat.le_trans hw0 hB1.size))
       have H1 : Hid (HeapAtT w1 hb' v' mb' q.2.f #[] q.2.last q.2.R ∧ Below W.heap.size W w1 ∧ ∀ k, Mine hb' v' mb' k → W.heap.size ≤ k) := ⟨h1, hB1, hm1⟩
       clear h1 hB1 hm1 b1 c2 c1 b0)
    | (go_at_call 47
       refine CR.out.mono ?_
       rintro e w2 ⟨db', dv', rfl, d2, hB2, hm2⟩
       have y0 : w2.cell? ⟨Db, 0, none⟩ = _ := (hB2.cell (p := ⟨Db, 0, none⟩) hl1).trans x0
       obtain ⟨p', hp'⟩ : ∃ p' : Hpr, p' = ⟨hb', mb', v', q.2.f, q.2.way, q.2.last, q.2.R, db', dv', q.2.E⟩ := ⟨_, rfl⟩
       have hA : HAt w0 w2 p' := hp' ▸ HAT.out.pair H1.out.1 (fun k hk => Nat.le_trans hw0 (H1.out.2.2 k hk)) d2 (fun k hk => Nat.le_trans hw0 (Nat.le_trans H1.out.2.1.size (hm2 k hk))) hB2
       have hMn : ∀ k, p'.mine k → W.heap.size ≤ k := fun k hk => by
         rw [hp'] at hk
         rcases hk with hk | hk
         · exact H1.out.2.2 k hk
         · exact Nat.le_trans H1.out.2.1.size (hm2 k hk)
       obtain ⟨lab1, hd1, hl1', _⟩ := DeskG.new (p := p') HH.out (H1.out.2.1.trans (hB2.mono H1.out.2.1.size)) hMn
       have HP : Hid (HAt w0 w2 p' ∧ (∀ j, p'.mine j → lab1 j = .user top) ∧ p'.E.length ≤ n ∧ p'.last ≤ n) := ⟨hA, hl1', by rw [hp']; exact HSZ.out⟩
       have HD : Hid (DeskS w0 w2 lab1 Db _ _ f es ps top n) := hd1
       have HPB : Hid (p'.hb = hb' ∧ p'.db = db') := by rw [hp']; exact ⟨rfl, rfl⟩
       have hw2 : w0.heap.size ≤ w2.heap.size := (DeskG.bel HD.out).size
       have g0 : w2.frozen? ⟨Db, 0, none⟩ = false := (DeskG.box HD.out).2.2.2.1
       clear d2 hB2 hm2 hA hMn hd1 hl1' hp' x0)
    | (refine wpList_pushA rfl (.tmp 37) (.tmp 39) rfl w0.heap.size (.slice (some ⟨ga, 0, none⟩) ps.length ca) (ps.map ptrA) rfl (DeskG.ra HD.out) (.pointer (some ⟨hb', 0, none⟩)) _ rfl rfl rfl (by simp; omega) hw2 ?_
       intro va' w3 ho hg hv
       obtain ⟨a3, c3, hva', _⟩ := row_shape ho
       rw [List.length_map] at hva'
       subst hva'
       obtain ⟨lab3, hd3, hl3, hk3, hb3⟩ := DeskG.pushA HD.out _ ho hg (by simpa using hv)
       have z0 : w3.cell? ⟨Db, 0, none⟩ = _ := (World.cell?_of_block hb3).trans y0
       have z1 : w3.frozen? ⟨Db, 0, none⟩ = false := (World.frozen?_of_block hb3).trans g0
       have hl3' : Db < w3.heap.size := cell_lt z0
       obtain ⟨W4, hW4⟩ : ∃ W4, w3.setCell ⟨Db, 0, none⟩ (.slice a3 (ps.length + 1) c3) = W4 := ⟨_, rfl⟩
       rw [hW4] at hd3 hk3
       have HD3 := hide3 hd3
       have HK3 := hide3 (And.intro hl3 hk3)
       obtain ⟨_, y1, hl4, _, g1, _, _⟩ := DeskG.box hd3
       have hw4 : w0.heap.size ≤ W4.heap.size := (DeskG.bel hd3).size
       clear ho hg hv hb3 hd3 hl3 hk3)
    | (refine wpList_pushB rfl (.tmp 47) (.tmp 49) rfl w0.heap.size (.slice (some ⟨gb, 0, none⟩) ps.length cb) (ps.map ptrB) rfl (DeskG.rb HD3.out) (.pointer (some ⟨db', 0, none⟩)) _ rfl rfl rfl (by simp; omega) hw4 ?_
       intro vb' w5 ho hg hv
       obtain ⟨a5, c5, hvb', _⟩ := row_shape ho
       rw [List.length_map] at hvb'
       subst hvb'
       obtain ⟨lab5, hd5, hl5, hk5, hb5⟩ := DeskG.pushB HD3.out _ ho hg (by simpa using hv)
       have z2 : w5.cell? ⟨Db, 1, none⟩ = _ := (World.cell?_of_block hb5).trans y1
       have z3 : w5.frozen? ⟨Db, 1, none⟩ = false := (World.frozen?_of_block hb5).trans g1
       have hl5' : Db < w5.heap.size := cell_lt z2
       have HD5 := hide3 hd5
       have HK5 := hide3 (And.intro hl5 hk5)
       clear ho hg hv hb5 hd5 hl5 hk5))
  go_ret
  refine ⟨rfl, ?_⟩
  obtain ⟨p1, l1, s1⟩ := HP.out
  obtain ⟨p3, l3⟩ := pair_on (i := 1) p1 l1 (by omega) (DeskG.box HD.out).2.2.2.2.2.2 HK3.out.1 HK3.out.2
  obtain ⟨p5, l5⟩ := pair_on (i := 2) p3 l3 (by omega) (DeskG.box HD3.out).2.2.2.2.2.2 HK5.out.1 HK5.out.2
  have hd := HD5.out
  rw [← HPB.out.1, ← HPB.out.2] at hd
  exact ⟨lab5, _, _, ps ++ [(top, p')], DeskG.add hd ht p5 l5 h4 s1, by simp⟩
set_option maxHeartbeats 2000000 in
set_option maxRecDepth 1000000 in
theorem clone_full {w0 W : World} {lab : Nat → Tag} {Db f top n : Nat} {va vb : Value} {es : List Ent} {ps : List (Nat × Hpr)} (h : DeskS w0 W lab Db va vb f es ps top n) (ht : 3 ≤ top) (k : Nat) (hk : k < ps.length) (tt : Int) (hn : n ≤ 2000000) (h4 : ¬ ps.length < 4) :
    Calls Try.prog 32 #[.pointer (some ⟨Db, 0, none⟩), .int .i64 (k : Int), .int .i64 tt] W fun e w' => e = .returned (.bool true) ∧ ∃ lab' va' vb' ps', DeskS w0 w' lab' Db va' vb' f es ps' (top + 1) n ∧ ps.length ≤ ps'.length := by
  have hnn := fun w p => thing_not_nil w p
  obtain ⟨q, hq⟩ : ∃ q, ps[k]? = some q := ⟨_, List.getElem?_eq_getElem hk⟩
  obtain ⟨ga, ca, gb, cb, rfl, rfl, c1, c2, hga, hgb, lga, lgb⟩ := h.reads hq
  obtain ⟨b0, b1, hDb, f0, f1, hD0, lDb⟩ := h.box
  have HH : Hid (DeskS w0 W lab Db _ _ f es ps top n) := h
  have hat := h.hs k q hq
  have hsz := h.size k q hq
  have hlen : q.2.R.length = q.2.E.length := hat.perm.length_eq
  have hw0 := h.bel.size
  have CO := hide3 (cloneT W q.2.hb q.2.mb q.2.v q.2.f #[] q.2.last q.2.R hat.h (by omega))
  have HAT : Hid (HAt w0 W q.2) := hat
  have hE : q.2.E.length ≤ 1073741822 := by omega
  have HSZ : Hid (q.2.E.length ≤ n ∧ q.2.last ≤ n) := hsz
  have hki : (k : Int) < (ps.length : Int) := by omega
  have hfew := h.few
  have h4i : ¬ (ps.length : Int) < 4 := by omega
  have hto := among_range (i := tt) (n := 4) (by omega)
  obtain ⟨k2, hk2⟩ : ∃ k2 : Nat, amongI tt 4 = (k2 : Int) := ⟨(amongI tt 4).toNat, by omega⟩
  have HK2 : Hid (amongI tt 4 = (k2 : Int)) := hk2
  have hk4 : k2 < ps.length := by omega
  have hk4i : (k2 : Int) < (ps.length : Int) := by omega
  clear hk2 hto
  unfold ptrA at c1
  unfold ptrB at c2
  clear h hat hlen hsz
  go_enter Try.func32, Try.ntmps32
  go_wp2_with (first
    | (go_at_call 13
       refine CO.out.mono ?_
       rintro e w1 ⟨hb', v', mb', rfl, h1, hB1, hm1⟩
       have x1 : w1.cell? ⟨Db, 1, none⟩ = _ := (hB1.cell (p := ⟨Db, 1, none⟩) hDb).trans b1
       have x2 : w1.cell? ⟨gb, k, none⟩ = _ := (hB1.cell (p := ⟨gb, k, none⟩) hgb).trans c2
       have x0 : w1.cell? ⟨Db, 0, none⟩ = _ := (hB1.cell (p := ⟨Db, 0, none⟩) hDb).trans b0
       have hl1 : Db < w1.heap.size := Nat.lt_of_lt_of_le hDb hB1.size
       have CR := hide3 (hClone_any w1 w0.heap.size q.2.db q.2.dv q.2.way q.2.last q.2.E (HAT.out.later hB1).d hE (Nat.le_trans hw0 hB1.size))
       have H1 : Hid (HeapAtT w1 hb' v' mb' q.2.f #[] q.2.last q.2.R ∧ Below W.heap.size W w1 ∧ ∀ k, Mine hb' v' mb' k → W.heap.size ≤ k) := ⟨h1, hB1, hm1⟩
       clear h1 hB1 hm1 b1 c2 c1 b0)
    | (go_at_call 47
       refine CR.out.mono ?_
       rintro e w2 ⟨db', dv', rfl, d2, hB2, hm2⟩
       have y0 : w2.cell? ⟨Db, 0, none⟩ = _ := (hB2.cell (p := ⟨Db, 0, none⟩) hl1).trans x0
       obtain ⟨p', hp'⟩ : ∃ p' : Hpr, p' = ⟨hb', mb', v', q.2.f, q.2.way, q.2.last, q.2.R, db', dv', q.2.E⟩ := ⟨_, rfl⟩
       have hA : HAt w0 w2 p' := hp' ▸ HAT.out.pair H1.out.1 (fun k hk => Nat.le_trans hw0 (H1.out.2.2 k hk)) d2 (fun k hk => Nat.le_trans hw0 (Nat.le_trans H1.out.2.1.size (hm2 k hk))) hB2
       have hMn : ∀ k, p'.mine k → W.heap.size ≤ k := fun k hk => by
         rw [hp'] at hk
         rcases hk with hk | hk
         · exact H1.out.2.2 k hk
         · exact Nat.le_trans H1.out.2.1.size (hm2 k hk)
       obtain ⟨lab1, hd1, hl1', _⟩ := DeskG.new (p := p') HH.out (H1.out.2.1.trans (hB2.mono H1.out.2.1.size)) hMn
       have HP : Hid (HAt w0 w2 p' ∧ (∀ j, p'.mine j → lab1 j = .user top) ∧ p'.E.length ≤ n ∧ p'.last ≤ n) := ⟨hA, hl1', by rw [hp']; exact HSZ.out⟩
       have HD : Hid (DeskS w0 w2 lab1 Db _ _ f es ps top n) := hd1
       have HPB : Hid (p'.hb = hb' ∧ p'.db = db') := by rw [hp']; exact ⟨rfl, rfl⟩
       obtain ⟨_, y1, hl2, _⟩ := DeskG.box hd1
       have y5 := (DeskG.ra hd1).cells (g := ga) rfl k2 ((ps.map ptrA)[k2]'(by simpa using hk4)) (List.getElem?_eq_getElem _)
       have y6 : w2.cell? ⟨ga, k2, none⟩ = some ((ps.map ptrA)[k2]'(by simpa using hk4)) := by
         cases k2 with
         | zero => simpa [Addr.add] using y5
         | succ k2 => simpa [Addr.add] using y5
       have y7 : w2.frozen? ⟨ga, k2, none⟩ = false := row_frozen (DeskG.ra hd1) k2
       rw [List.getElem_map] at y6
       have S3 := DeskG.setA (as2 := ps.map ptrA) (g := ga) (c := ca) (by rw [List.length_map]; exact hd1) k2 (.pointer (some ⟨hb', 0, none⟩))
       rw [List.length_map] at S3
       obtain ⟨W3, hW3⟩ : ∃ W3, w2.setCell ⟨ga, k2, none⟩ (.pointer (some ⟨hb', 0, none⟩)) = W3 := ⟨_, rfl⟩
       rw [hW3] at S3
       have HS3 := hide3 S3
       obtain ⟨_, u1, hl3, _⟩ := DeskG.box S3.1
       have u5 := (DeskG.rb S3.1).cells (g := gb) rfl k2 ((ps.map ptrB)[k2]'(by simpa using hk4)) (List.getElem?_eq_getElem _)
       have u6 : W3.cell? ⟨gb, k2, none⟩ = some ((ps.map ptrB)[k2]'(by simpa using hk4)) := by
         cases k2 with
         | zero => simpa [Addr.add] using u5
         | succ k2 => simpa [Addr.add] using u5
       have u7 : W3.frozen? ⟨gb, k2, none⟩ = false := row_frozen (DeskG.rb S3.1) k2
       rw [List.getElem_map] at u6
       have S4 := DeskG.setB (bs2 := ps.map ptrB) (g := gb) (c := cb) (by rw [List.length_map]; exact S3.1) k2 (.pointer (some ⟨db', 0, none⟩))
       rw [List.length_map] at S4
       have HS4 := hide3 S4
       unfold ptrA at y6
       unfold ptrB at u6
       clear d2 hB2 hm2 hA hMn hd1 hl1' hp' x0 S3 S4 y5 u5)
    | (go_at_call 19
       refine (among_any tt 4 _ (by omega)).mono ?_
       rintro e w9 ⟨rfl, hw9⟩
       rw [hw9, HK2.out]
       clear hw9))
  go_ret
  refine ⟨rfl, ?_⟩
  obtain ⟨p1, l1, s1⟩ := HP.out
  have la1 : lab1 ga = .user 1 := DeskG.la HD.out ga rfl
  have lb1 : lab1 gb = .user 2 := DeskG.lb HD.out gb rfl
  have p3 := p1.kept HS3.out.2 (fun j hj e => by have h1 := l1 j hj; rw [e, la1] at h1; simp at h1; omega)
  have p4 := p3.kept HS4.out.2 (fun j hj e => by have h1 := l1 j hj; rw [e, lb1] at h1; simp at h1; omega)
  have ea : ptrA (top, p') = .pointer (some ⟨hb', 0, none⟩) := by unfold ptrA; rw [HPB.out.1]
  have eb : ptrB (top, p') = .pointer (some ⟨db', 0, none⟩) := by unfold ptrB; rw [HPB.out.2]
  exact ⟨lab1, _, _, ps.set k2 (top, p'), DeskG.put hk4 (by rw [ea, eb]; exact HS4.out.1) ht p4 l1 s1, by simp⟩
theorem clone_any {w0 W : World} {lab : Nat → Tag} {Db f top n : Nat} {va vb : Value} {es : List Ent} {ps : List (Nat × Hpr)} (h : DeskS w0 W lab Db va vb f es ps top n) (ht : 3 ≤ top) (k : Nat) (hk : k < ps.length) (tt : Int) (hn : n ≤ 2000000) :
    Calls Try.prog 32 #[.pointer (some ⟨Db, 0, none⟩), .int .i64 (k : Int), .int .i64 tt] W fun e w' => e = .returned (.bool true) ∧ ∃ lab' va' vb' ps', DeskS w0 w' lab' Db va' vb' f es ps' (top + 1) n ∧ ps.length ≤ ps'.length := by
  by_cases h4 : ps.length < 4
  · exact clone_less h ht k hk tt hn h4
  · exact clone_full h ht k hk tt hn h4
end Go.Proofs.Ytkjjinccnaphpaa
