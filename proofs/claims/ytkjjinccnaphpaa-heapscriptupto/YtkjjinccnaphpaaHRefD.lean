/-
  HRef7, HRef8.
-/
import Derived.Test.YtkjjinccnaphpaaHRef6
import Derived.Deep.AppendLies
import Derived.Deep.RegionLaw
namespace Go.Proofs.Ytkjjinccnaphpaa
open Go.RowKit

theorem step_ents {ops : Array Oper} {o : Oper} {a : Act} {K : Act → World → Prop} {Q : Exit → Act → World → Prop} {F : Prop} (hgd : o.guard = none) (s x : Operand)
    (ho : o.op = .call { callee := .builtin .append, args := #[s, x], argTypes := #[53, 53] })
    (w : World) (B : Nat) (v : Value) (X : List RowI) (hs : a.eval s = v) (hown : w.ownsRow B 71 3 v X.length (flatT X)) (ad : Option Addr) (c : Nat) (Y : List RowI) (hx : a.eval x = .slice ad Y.length c)
    (hsrc : (ad = none ∧ Y.length = 0) ∨ ∃ p, ad = some p ∧ ∀ j u, (flatT Y)[j]? = some u → w.cell? (p.add j) = some u)
    (hb : X.length + Y.length ≤ 2147483647) (hbase : B ≤ w.heap.size)
    (h : ∀ v' w', w'.ownsRow B 71 3 v' (X ++ Y).length (flatT (X ++ Y)) → w.grownBy w' v.ownBlock → (v'.ownBlock = v.ownBlock ∨ v'.ownBlock = some w.heap.size) → K (a.put o.dst v') w') :
    if Region.wanted o (yielded ops a.tmps) = true then Oper.wp Try.prog o a w K Q else F := by
  have hw : Region.wanted o (yielded ops a.tmps) = true := by simp [Region.wanted, hgd]
  rw [if_pos hw]
  obtain ⟨i, hi, hz0, hz1, hz2⟩ := info_parts info_entry
  obtain ⟨v', w', hr, h2, h3, h4, h5, h6⟩ := run_append_keepsG (P := Try.prog) w 3 B 53 o.type 71 i _ Try.underlying53 hi hz0 hz1 rfl v X.length (flatT X) hown ad Y.length c (flatT Y) (flatT_length Y) hsrc (flatT_one Y) (by unfold maxLen; omega) (by rw [hz2]; omega) hbase
  unfold Oper.wp execOp
  simp only [ho, resolve, invoke, builtin, Sem.run_bind, Sem.run_pure, Result.andThen_ok, List.map_toArray, List.map_cons, List.map_nil, hs, hx, hr]
  refine h v' w' ?_ h3 h5
  rw [List.length_append, flatT_append]
  exact h2
theorem RefH.setLast {w : World} {lo hb : Nat} {v : Value} {way last : Int} {E : List RowI} (h : RefH w lo hb v way last E) (x : Int) : RefH (w.setCell ⟨hb, 1, none⟩ (.int .i64 x)) lo hb v way x E ∧ Kept (fun k => k = hb) w (w.setCell ⟨hb, 1, none⟩ (.int .i64 x)) := by
  obtain ⟨h1, h2⟩ := set_cells h.box 1 (.int .i64 x)
  have hk : Kept (fun k => k = hb) w (w.setCell ⟨hb, 1, none⟩ (.int .i64 x)) := Kept.setCell _ _ _ _ _ rfl
  refine ⟨⟨by rw [h1]; simp, ⟨h.row.1, ?_⟩, h.low⟩, hk⟩
  rcases h.row.2 with h0 | ⟨g, cap, cur, rfl, hB, hg, rest⟩
  · exact .inl h0
  · refine .inr ⟨g, cap, cur, rfl, hB, (hk.block g (Array.getElem?_eq_some_iff.1 hg).1 (fun e => ?_)).trans hg, rest⟩
    have := h.box
    rw [← e, hg] at this
    simp at this
/-- A row of its own was appended to, and stored. -/
theorem RefH.pushed {W1 Wa w2 : World} {lo hb hb' : Nat} {v v2 : Value} {way last : Int} {E U : List RowI} (h : RefH W1 lo hb v way last E) (ha : Below W1.heap.size W1 Wa) (g : Wa.grownBy w2 v.ownBlock) (l2 : v2.ownBlock = v.ownBlock ∨ v2.ownBlock = some Wa.heap.size) (hr : w2.ownsRow lo 71 3 v2 U.length (flatT U)) (hbe : hb' = hb) :
    w2.heap[hb]? = some (.cells #[.int .i64 way, .int .i64 last, v] 55 (0, 0)) ∧ RefH (w2.setCell ⟨hb', 2, none⟩ v2) lo hb v2 way last U ∧ Kept (MineH hb v) W1 (w2.setCell ⟨hb', 2, none⟩ v2) ∧ ∀ k, MineH hb v2 k → MineH hb v k ∨ W1.heap.size ≤ k := by
  subst hbe
  have hl := (Array.getElem?_eq_some_iff.1 h.box).1
  have hne : v.ownBlock ≠ some hb' := fun e => by
    rcases h.row.2 with ⟨rfl, _⟩ | ⟨g, cap, cur, rfl, _, hg, _⟩
    · cases e
    · cases e
      have := h.box
      rw [hg] at this
      simp at this
  have K : Kept (fun k => v.ownBlock = some k) Wa w2 := Kept.ofGrown g (fun _ e => e)
  have bx := (K.block hb' (Nat.lt_of_lt_of_le hl ha.size) hne).trans ((ha.block hb' hl).trans h.box)
  obtain ⟨h1, h2⟩ := set_cells bx 2 v2
  have hne2 : ∀ g, v2.ownBlock = some g → g ≠ hb' := by
    rintro g hg rfl
    rcases hr.2 with ⟨rfl, _⟩ | ⟨g', cap, cur, rfl, _, hc, _⟩
    · cases hg
    · simp only [Value.ownBlock, Option.some.injEq] at hg
      subst hg
      rw [hc] at bx
      simp at bx
  refine ⟨bx, ⟨by rw [h1]; simp, ⟨hr.1, ?_⟩, h.low⟩, (((Kept.ofBelow ha).step K (fun k _ e => .inr e)).trans (Kept.setCell _ w2 hb' _ _ (.inl rfl))), ?_⟩
  · rcases hr.2 with h0 | ⟨g, cap, cur, rfl, hB, hg, rest⟩
    · exact .inl h0
    · exact .inr ⟨g, cap, cur, rfl, hB, (h2.block g (Array.getElem?_eq_some_iff.1 hg).1 (fun e => hne2 g rfl (by cases e; rfl))).trans hg, rest⟩
  · rintro k (rfl | e)
    · exact .inl (.inl rfl)
    · rcases l2 with l | l
      · exact .inl (.inr (l ▸ e))
      · rw [l] at e
        cases e
        exact .inr ha.size
set_option maxHeartbeats 4000000 in
set_option maxRecDepth 1000000 in
theorem hPush_any (w : World) (lo hb : Nat) (v : Value) (way last : Int) (E : List RowI) (x : Int × Int) (h : RefH w lo hb v way last E) (hE : E.length ≤ 1073741822) (hlo : lo ≤ w.heap.size) (hl0 : 0 ≤ last) (hl1 : last ≤ 4611686018427387904) :
    Calls Try.prog 20 #[.pointer (some ⟨hb, 0, none⟩), valT x] w fun e w' => e = .returned (.int .i64 (last + 1)) ∧ WentH w lo hb v way (last + 1) (E ++ [(last + 1, x)]) w' := by
  obtain ⟨x1, x2⟩ := x
  obtain ⟨a, c, rfl, hc⟩ := h.form
  obtain ⟨k0, k1, k2, hlw⟩ := h.cells
  have f1 : w.frozen? ⟨hb, 1, none⟩ = false := by simp [World.frozen?, h.box]
  obtain ⟨W0, hW0⟩ : ∃ W0, W0 = w.alloc (.cells #[.int .i64 x1, .int .i64 x2] 27) := ⟨_, rfl⟩
  obtain ⟨B3, hB3⟩ : ∃ B3, B3 = w.heap.size := ⟨_, rfl⟩
  have B0 : Below w.heap.size w W0 := by rw [hW0]; exact (Below.refl _ w).alloc (Nat.le_refl _) _
  have q0 : W0.heap[B3]? = some (.cells #[.int .i64 x1, .int .i64 x2] 27 (0, 0)) := by rw [hW0, hB3]; exact heap_alloc_new w _
  obtain ⟨s1, s2⟩ := (h.below B0).setLast (last + 1)
  obtain ⟨W1, hW1⟩ : ∃ W1, W1 = W0.setCell ⟨hb, 1, none⟩ (.int .i64 (last + 1)) := ⟨_, rfl⟩
  rw [← hW1] at s1 s2
  have q1 := (s2.block B3 (Array.getElem?_eq_some_iff.1 q0).1 (by omega)).trans q0
  have y0 : W1.cell? ⟨B3, 0, none⟩ = some (.int .i64 x1) := by simp [World.cell?, q1]
  have y1 : W1.cell? ⟨B3, 1, none⟩ = some (.int .i64 x2) := by simp [World.cell?, q1]
  have l3 := (Array.getElem?_eq_some_iff.1 q1).1
  obtain ⟨j0, j1, j2, hl⟩ := s1.cells
  have KW1 : Hid (RefH W1 lo hb (.slice a E.length c) way (last + 1) E ∧ Kept (MineH hb (.slice a E.length c)) w W1 ∧ w.heap.size ≤ W1.heap.size) := ⟨s1, (Kept.ofBelow B0).trans (s2.mono (fun k _ e => .inl e)), Nat.le_trans B0.size s2.size⟩
  rw [hW0, World.setCell_alloc_past _ _ _ _ hlw] at hW1
  clear h B0 q0 s1 s2 q1 hW0
  unfold valT
  go_enter Try.func20, Try.ntmps20
  go_upto_region 2 with fail
  rw [← hW1, ← hB3]
  clear hW1 k0 k1 k2 f1 hlw hB3
  go_region_law (refine step_ents rfl (.tmp 16) (.tmp 23) rfl _ lo (.slice a E.length c) E (by simp [Act.eval]) (World.ownsRow.alloc KW1.out.1.row _) (some ⟨W1.heap.size, 0, none⟩) 1 [(last + 1, x1, x2)] (by simp [Act.eval]) (.inr ⟨_, rfl, World.news_of_block (w := (W1.alloc (.cells (cellsT (last + 1, x1, x2)).toArray 71)).drew) (cs := (cellsT (last + 1, x1, x2)).toArray) (heap_alloc_new W1 _)⟩) (by simp; omega) (by simp [World.drew]; have := KW1.out.2.2; omega) ?_
                 intro v2 w2 r2 g2 l2
                 have P2 : Hid (w2.heap[hb]? = some (.cells #[.int .i64 way, .int .i64 (last + 1), .slice a E.length c] 55 (0, 0)) ∧ RefH (w2.setCell ⟨hb, 2, none⟩ v2) lo hb v2 way (last + 1) (E ++ [(last + 1, x1, x2)]) ∧ Kept (MineH hb (.slice a E.length c)) W1 (w2.setCell ⟨hb, 2, none⟩ v2) ∧ ∀ k, MineH hb v2 k → MineH hb (.slice a E.length c) k ∨ W1.heap.size ≤ k) := KW1.out.1.pushed (((Below.refl _ W1).alloc (Nat.le_refl _) _).drew) g2 l2 r2 rfl
                 have m2 : w2.cell? ⟨hb, 2, none⟩ = some (.slice a E.length c) := by simp [World.cell?, P2.out.1]
                 have f2 : w2.frozen? ⟨hb, 2, none⟩ = false := by simp [World.frozen?, P2.out.1]
                 have h2 : hb < w2.heap.size := (Array.getElem?_eq_some_iff.1 P2.out.1).1
                 obtain ⟨a2, n2, c2, rfl⟩ := row_sliceH r2
                 clear r2 g2 l2)
  all_goals (
    obtain ⟨W3, hW3⟩ : ∃ W3, W3 = w2.setCell ⟨hb, 2, none⟩ (.slice a2 n2 c2) := ⟨_, rfl⟩
    rw [← hW3]
    have P3 : Hid (RefH W3 lo hb (.slice a2 n2 c2) way (last + 1) (E ++ [(last + 1, x1, x2)]) ∧ Kept (MineH hb (.slice a E.length c)) W1 W3 ∧ ∀ k, MineH hb (.slice a2 n2 c2) k → MineH hb (.slice a E.length c) k ∨ W1.heap.size ≤ k) := by rw [hW3]; exact P2.out.2
    obtain ⟨_, n1, _, hl4⟩ := P3.out.1.cells
    clear hW3 P2 m2 f2 h2 y0 y1 l3 j0 j1 j2 hl
    go_wp2_with fail
    go_ret
    refine ⟨rfl, _, P3.out.1, KW1.out.2.1.trans P3.out.2.1, fun k hk => ?_⟩
    rcases P3.out.2.2 k hk with e | e
    · exact .inl e
    · exact .inr (Nat.le_trans KW1.out.2.2 e))
end Go.Proofs.Ytkjjinccnaphpaa

namespace Go.Proofs.Ytkjjinccnaphpaa
open Go.RowKit

set_option maxHeartbeats 4000000 in
set_option maxRecDepth 1000000 in
theorem hClone_any (w : World) (lo hb : Nat) (v : Value) (way last : Int) (E : List RowI) (h : RefH w lo hb v way last E) (hE : E.length ≤ 1073741822) (hlo : lo ≤ w.heap.size) :
    Calls Try.prog 47 #[.pointer (some ⟨hb, 0, none⟩)] w fun e w' => ∃ cb v', e = .returned (.pointer (some ⟨cb, 0, none⟩)) ∧ RefH w' lo cb v' way last E ∧ Below w.heap.size w w' ∧ ∀ k, MineH cb v' k → w.heap.size ≤ k := by
  obtain ⟨a, c, rfl, hc⟩ := h.form
  obtain ⟨k0, k1, k2, hlw⟩ := h.cells
  have HH : Hid (RefH w lo hb (.slice a E.length c) way last E) := h
  clear h
  go_enter Try.func47, Try.ntmps47
  go_upto_region 1 with fail
  go_region
  all_goals (
    go_upto_region 2 with fail
    obtain ⟨W1, hW1⟩ : ∃ W1, W1 = (w.alloc (.cells #[.int .i64 way, .int .i64 last, .slice none 0 0] 55)).drew := ⟨_, rfl⟩
    obtain ⟨cb, hcb⟩ : ∃ cb, cb = w.heap.size := ⟨_, rfl⟩
    have B1 : Below w.heap.size w W1 := by rw [hW1]; exact ((Below.refl _ w).alloc (Nat.le_refl _) _).drew
    have R1 : Hid (RefH W1 lo cb (.slice none 0 0) way last [] ∧ RefH W1 lo hb (.slice a E.length c) way last E ∧ Below w.heap.size w W1 ∧ w.heap.size ≤ cb) := ⟨⟨by rw [hW1, hcb]; exact heap_alloc_new w _, World.ownsRow_nil _ _ _ _, by omega⟩, HH.out.below B1, B1, by omega⟩
    rw [← hW1, ← hcb]
    obtain ⟨_, _, i2, il⟩ := R1.out.1.cells
    obtain ⟨_, _, j2, jl⟩ := R1.out.2.1.cells
    have HF : Hid ((a = none ∧ E.length = 0) ∨ ∃ p, a = some p ∧ ∀ j u, (flatT E)[j]? = some u → W1.cell? (p.add j) = some u) := by
      have := R1.out.2.1.front E.length
      rw [List.take_length] at this
      exact this
    clear hW1 hcb B1 k0 k1 k2 hlw
    go_region_law (refine step_ents rfl (.tmp 18) (.tmp 22) rfl _ lo (.slice none 0 0) [] (by simp [Act.eval]) (World.ownsRow_nil _ _ _ _) a c E (by simp [Act.eval]) HF.out (by simp; omega) (Nat.le_trans hlo R1.out.2.2.1.size) ?_
                   intro v2 w2 r2 g2 l2
                   have P2 : Hid (w2.heap[cb]? = some (.cells #[.int .i64 way, .int .i64 last, .slice none 0 0] 55 (0, 0)) ∧ RefH (w2.setCell ⟨cb, 2, none⟩ v2) lo cb v2 way last ([] ++ E) ∧ Kept (MineH cb (.slice none 0 0)) W1 (w2.setCell ⟨cb, 2, none⟩ v2) ∧ ∀ k, MineH cb v2 k → MineH cb (.slice none 0 0) k ∨ W1.heap.size ≤ k) := R1.out.1.pushed (Below.refl _ W1).drew g2 l2 r2 rfl
                   have m2 : w2.cell? ⟨cb, 2, none⟩ = some (.slice none 0 0) := by simp [World.cell?, P2.out.1]
                   have f2 : w2.frozen? ⟨cb, 2, none⟩ = false := by simp [World.frozen?, P2.out.1]
                   have h2 : cb < w2.heap.size := (Array.getElem?_eq_some_iff.1 P2.out.1).1
                   obtain ⟨a2, n2, c2, rfl⟩ := row_sliceH r2
                   clear r2 g2 l2)
    all_goals (
      go_wp2_with fail
      go_ret
      have P3 := P2.out.2
      rw [List.nil_append] at P3
      refine ⟨cb, _, rfl, P3.1, R1.out.2.2.1.trans (P3.2.1.below R1.out.2.2.1.size (fun k hk e => ?_)), fun k hk => ?_⟩
      · have hcb := R1.out.2.2.2
        rcases e with e | e
        · omega
        · cases e
      · rcases P3.2.2 k hk with e | e
        · rcases e with e | e
          · rw [e]; exact R1.out.2.2.2
          · cases e
        · exact Nat.le_trans R1.out.2.2.1.size e))
end Go.Proofs.Ytkjjinccnaphpaa
