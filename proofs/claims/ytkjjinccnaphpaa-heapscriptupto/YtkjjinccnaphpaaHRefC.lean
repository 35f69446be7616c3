/-
  HRef3, HRef4, HRef5.
-/
import Derived.Test.YtkjjinccnaphpaaHRefA
namespace Go.Proofs.Ytkjjinccnaphpaa
open Go.RowKit

theorem flatT_one (E : List RowI) : ∀ u ∈ flatT E, u.oneCell' = true := by
  intro u hu
  obtain ⟨r, _, h⟩ := List.mem_flatMap.1 hu
  simp only [cellsT, List.mem_cons, List.not_mem_nil, or_false] at h
  rcases h with rfl | rfl | rfl <;> rfl
theorem info_entry : (Try.prog.info? 71).map (fun i => (i.zero, i.size, i.bytes)) = some (some (.agg #[.int .i64 0, .int .i64 0, .int .i64 0]), 3, 24) := by kernel_rfl
/-- 'append' of rows onto rows of the call's own. -/
theorem wpList_ents {w : World} {ops : Array Oper} {rest : List Oper} {o : Oper} {a : Act} {Q : Exit → Act → World → Prop} (hgd : o.guard = none) (s x : Operand)
    (ho : o.op = .call { callee := .builtin .append, args := #[s, x], argTypes := #[53, 53] })
    (B : Nat) (v : Value) (X : List RowI) (hs : a.eval s = v) (hown : w.ownsRow B 71 3 v X.length (flatT X)) (ad : Option Addr) (c : Nat) (Y : List RowI) (hx : a.eval x = .slice ad Y.length c)
    (hsrc : (ad = none ∧ Y.length = 0) ∨ ∃ p, ad = some p ∧ ∀ j u, (flatT Y)[j]? = some u → w.cell? (p.add j) = some u)
    (hb : X.length + Y.length ≤ 2147483647) (hbase : B ≤ w.heap.size)
    (h : ∀ v' w', w'.ownsRow B 71 3 v' (X ++ Y).length (flatT (X ++ Y)) → w.grownBy w' v.ownBlock → (v'.ownBlock = v.ownBlock ∨ v'.ownBlock = some w.heap.size) →
      wpList Try.prog ops Q rest (a.put o.dst v') w') : wpList Try.prog ops Q (o :: rest) a w := by
  obtain ⟨i, hi, hz0, hz1, hz2⟩ := info_parts info_entry
  refine wpList_plain hgd fun K hK => ?_
  obtain ⟨v', w', hr, h2, h3, h4, h5, h6⟩ := run_append_keepsG (P := Try.prog) w 3 B 53 o.type 71 i _ Try.underlying53 hi hz0 hz1 rfl v X.length (flatT X) hown ad Y.length c (flatT Y) (flatT_length Y) hsrc (flatT_one Y) (by unfold maxLen; omega) (by rw [hz2]; omega) hbase
  unfold Oper.wp execOp
  simp only [ho, resolve, invoke, builtin, Sem.run_bind, Sem.run_pure, Result.andThen_ok, List.map_toArray, List.map_cons, List.map_nil, hs, hx, hr]
  refine hK _ _ (h v' w' ?_ h3 h5)
  rw [List.length_append, flatT_append]
  exact h2
theorem flatT_drop : ∀ (E : List RowI) (k : Nat), flatT (E.drop k) = (flatT E).drop (k * 3)
  | E, 0 => by simp
  | [], k + 1 => by simp [flatT]
  | x :: E, k + 1 => by
    rw [List.drop_succ_cons, flatT_drop E k]
    show _ = (cellsT x ++ flatT E).drop ((k + 1) * 3)
    rw [show (k + 1) * 3 = (cellsT x).length + k * 3 by simp [cellsT]; omega, List.drop_length_add_append]
theorem add_off (g m j : Nat) : ((⟨g, m, none⟩ : Addr).add j) = ⟨g, m + j, none⟩ := by unfold Addr.add; split <;> simp_all
section
variable {w : World} {lo hb : Nat} {way last : Int} {E : List RowI}
theorem RefH.front {a : Option Addr} {n c : Nat} (h : RefH w lo hb (.slice a n c) way last E) (k : Nat) : (a = none ∧ (E.take k).length = 0) ∨ ∃ p, a = some p ∧ ∀ j u, (flatT (E.take k))[j]? = some u → w.cell? (p.add j) = some u := by
  rcases h.row.2 with ⟨e, h0⟩ | ⟨g, cap, cur, e, _⟩
  · simp only [Value.slice.injEq] at e
    exact .inl ⟨e.1, by rw [List.eq_nil_of_length_eq_zero h0]; simp⟩
  · simp only [Value.slice.injEq] at e
    obtain ⟨rfl, rfl, rfl⟩ := e
    refine .inr ⟨_, rfl, fun j u hu => h.row.cells (g := g) rfl j u ?_⟩
    have e2 : flatT E = flatT (E.take k) ++ flatT (E.drop k) := by rw [← flatT_append, List.take_append_drop]
    rw [e2, List.getElem?_append_left (List.getElem?_eq_some_iff.1 hu).1]
    exact hu
theorem RefH.backIf {gr n c : Nat} (h : RefH w lo hb (.slice (some ⟨gr, 0, none⟩) n c) way last E) (k : Nat) (hk : k ≤ E.length) (hc : E.length ≤ c) : ((if c = k then some (⟨gr, 0, none⟩ : Addr) else some ⟨gr, k * 3, none⟩) = none ∧ (E.drop k).length = 0) ∨ ∃ p, (if c = k then some (⟨gr, 0, none⟩ : Addr) else some ⟨gr, k * 3, none⟩) = some p ∧ ∀ j u, (flatT (E.drop k))[j]? = some u → w.cell? (p.add j) = some u := by
  right
  by_cases e : c = k
  · refine ⟨_, if_pos e, fun j u hu => ?_⟩
    rw [List.drop_eq_nil_of_le (by omega)] at hu
    simp [flatT] at hu
  · refine ⟨_, if_neg e, fun j u hu => ?_⟩
    rcases h.row.2 with ⟨e, h0⟩ | ⟨g, cap, cur, e, _⟩
    · cases e
    · simp only [Value.slice.injEq, Option.some.injEq, Addr.mk.injEq, and_true] at e
      obtain ⟨rfl, rfl, rfl⟩ := e
      rw [flatT_drop, List.getElem?_drop] at hu
      have := h.row.cells (g := gr) rfl (k * 3 + j) u hu
      rw [add_off] at this ⊢
      rw [Nat.zero_add] at this
      exact this
theorem RefH.stored {n1 : Nat} {lv v : Value} {U : List RowI} (h : RefH w lo hb lv way last E) (hr : w.ownsRow n1 71 3 v U.length (flatT U)) (hn : lo ≤ n1) : RefH (w.setCell ⟨hb, 2, none⟩ v) lo hb v way last U := by
  obtain ⟨h1, h2⟩ := set_cells h.box 2 v
  have hne : ∀ g, v.ownBlock = some g → g ≠ hb := by
    rintro g hg rfl
    rcases hr.2 with ⟨rfl, _⟩ | ⟨g', cap, cur, rfl, _, hc, _⟩
    · cases hg
    · simp only [Value.ownBlock, Option.some.injEq] at hg
      subst hg
      have := h.box
      rw [hc] at this
      simp at this
  refine ⟨by rw [h1]; simp, ⟨hr.1, ?_⟩, h.low⟩
  rcases hr.2 with h0 | ⟨g, cap, cur, rfl, hB, hg, rest⟩
  · exact .inl h0
  · exact .inr ⟨g, cap, cur, rfl, Nat.le_trans hn hB, (h2.block g (Array.getElem?_eq_some_iff.1 hg).1 (fun e => hne g rfl (by cases e; rfl))).trans hg, rest⟩
end
theorem growH {n : Nat} {w1 w2 w3 : World} {v v' : Value} (h : Below n w1 w2) (hn : n ≤ w2.heap.size) (hv : ∀ k, v.ownBlock = some k → n ≤ k) (g : w2.grownBy w3 v.ownBlock) (l : v'.ownBlock = v.ownBlock ∨ v'.ownBlock = some w2.heap.size) : Below n w1 w3 ∧ n ≤ w3.heap.size ∧ ∀ k, v'.ownBlock = some k → n ≤ k := by
  have K : Kept (fun k => v.ownBlock = some k) w2 w3 := Kept.ofGrown g (fun _ e => e)
  refine ⟨h.trans (K.below hn (fun k hk e => by have := hv k e; omega)), Nat.le_trans hn g.size, fun k hk => ?_⟩
  rcases l with l | l
  · exact hv k (l ▸ hk)
  · rw [l] at hk
    cases hk
    exact hn
theorem row_sliceH {w : World} {B : Nat} {e : TypeId} {s : Nat} {v : Value} {n : Nat} {xs : List Value} (h : w.ownsRow B e s v n xs) : ∃ a m c, v = .slice a m c := by
  rcases h.2 with ⟨rfl, _⟩ | ⟨g, cap, cur, rfl, _⟩
  · exact ⟨_, _, _, rfl⟩
  · exact ⟨_, _, _, rfl⟩
/-- What a turn of the heap leaves. -/
def WentH (w : World) (lo hb : Nat) (v : Value) (way last : Int) (E : List RowI) (w' : World) : Prop := ∃ v', RefH w' lo hb v' way last E ∧ Kept (MineH hb v) w w' ∧ ∀ k, MineH hb v' k → MineH hb v k ∨ w.heap.size ≤ k
set_option maxHeartbeats 4000000 in
set_option maxRecDepth 1000000 in
theorem hOut_at (w : World) (lo hb : Nat) (v : Value) (way last : Int) (E : List RowI) (i : Nat) (hi : i < E.length) (h : RefH w lo hb v way last E) (hE : E.length ≤ 1073741822) (hlo : lo ≤ w.heap.size) :
    Calls Try.prog 41 #[.pointer (some ⟨hb, 0, none⟩), .int .i64 (i : Int)] w fun e w' => e = .returned (.tuple #[]) ∧ WentH w lo hb v way last (E.take i ++ E.drop (i + 1)) w' := by
  obtain ⟨a, c, rfl, hc⟩ := h.form
  obtain ⟨c0, c1, c2, hl⟩ := h.cells
  obtain ⟨r, hx⟩ : ∃ x, E[i]? = some x := ⟨_, List.getElem?_eq_getElem hi⟩
  obtain ⟨gr, rfl, hg, _⟩ := h.cell hx
  have t1 : (i : Int) < (E.length : Int) := by omega
  have HH : Hid (RefH w lo hb (.slice (some ⟨gr, 0, none⟩) E.length c) way last E) := h
  have htk : (E.take i).length = i := by simp; omega
  have hdk : (E.drop (i + 1)).length = E.length - (i + 1) := by simp
  clear h hx c0 c1
  go_enter Try.func41, Try.ntmps41
  go_wp2_with (first
    | (at_builtin; refine wpList_ents rfl (.tmp 7) (.tmp 13) rfl w.heap.size (.slice none 0 0) [] (by rfl) (World.ownsRow_nil _ _ _ _) (some ⟨gr, 0, none⟩) c (E.take i) (by rw [htk]; rfl) (HH.out.front i) (by simp; omega) (Nat.le_refl _) ?_
       intro v2 w2 r2 g2 l2
       have H2 : Hid (Below w.heap.size w w2 ∧ w.heap.size ≤ w2.heap.size ∧ ∀ k, v2.ownBlock = some k → w.heap.size ≤ k) := growH (Below.refl _ w) (Nat.le_refl _) (fun k e => by cases e) g2 l2
       have R2 : Hid (RefH w2 lo hb (.slice (some ⟨gr, 0, none⟩) E.length c) way last E) := HH.out.below H2.out.1
       have s2 := H2.out.2.1
       have m2 := R2.out.cells.2.2.1
       have q2 := R2.out.cells.2.2.2
       clear g2 l2)
    | (at_builtin; refine wpList_ents rfl (.tmp 16) (.tmp 23) rfl w.heap.size v2 ([] ++ E.take i) (by rfl) r2 (if c = i + 1 then some ⟨gr, 0, none⟩ else some ⟨gr, (i + 1) * 3, none⟩) (c - (i + 1)) (E.drop (i + 1)) (by rw [hdk]; rfl) (R2.out.backIf (i + 1) (by omega) hc) (by simp; omega) s2 ?_
       intro v4 w4 r4 g4 l4
       have H4 : Hid (Below w.heap.size w w4 ∧ w.heap.size ≤ w4.heap.size ∧ ∀ k, v4.ownBlock = some k → w.heap.size ≤ k) := growH H2.out.1 H2.out.2.1 H2.out.2.2 g4 l4
       have R4 : Hid (RefH w4 lo hb (.slice (some ⟨gr, 0, none⟩) E.length c) way last E) := HH.out.below H4.out.1
       have m4 := R4.out.cells.2.2.1
       have q4 := R4.out.cells.2.2.2
       have f4 : w4.frozen? ⟨hb, 2, none⟩ = false := by simp [World.frozen?, R4.out.box]
       obtain ⟨a4, n4, c4, rfl⟩ := row_sliceH r4
       clear g4 l4))
  all_goals
    go_end0
    have e : [] ++ E.take i ++ E.drop (i + 1) = E.take i ++ E.drop (i + 1) := by simp
    rw [e] at r4
    refine ⟨rfl, _, RefH.stored R4.out r4 hlo, ?_, ?_⟩
    · exact (Kept.ofBelow H4.out.1).trans (Kept.setCell _ w4 hb _ _ (.inl rfl))
    · rintro j (rfl | hj)
      · exact .inl (.inl rfl)
      · exact .inr (H4.out.2.2 j hj)
set_option maxHeartbeats 4000000 in
set_option maxRecDepth 1000000 in
theorem hOut_no (w : World) (hb : Nat) : Calls Try.prog 41 #[.pointer (some ⟨hb, 0, none⟩), .int .i64 (-1)] w fun e w' => e = .returned (.tuple #[]) ∧ w' = w := by
  go_enter Try.func41, Try.ntmps41
  go_wp2_with fail
  (try simp only [Exit.inBlock, Exit.then])
  refine bodyPost_ret (results_none rfl _ _ _) rfl ?_
  exact ⟨rfl, rfl⟩
end Go.Proofs.Ytkjjinccnaphpaa

namespace Go.Proofs.Ytkjjinccnaphpaa
open Go.RowKit

/-- The best of all stands at p. -/
def TopOf (ky : Int × Int → Int) (E : List RowI) (p : Nat) (q : RowI) : Prop := E[p]? = some q ∧ (∀ (j : Nat) r, j < p → E[j]? = some r → ky q.2 < ky r.2) ∧ ∀ (j : Nat) r, p < j → E[j]? = some r → ky q.2 ≤ ky r.2
theorem Best.all {ky : Int × Int → Int} {E : List RowI} {b : Int} (h : Best ky E E.length b) : (b = -1 ∧ E = []) ∨ ∃ (p : Nat) (q : RowI), b = p ∧ TopOf ky E p q := by
  rcases h with ⟨h1, h2⟩ | ⟨p, q, h1, h2, h3, h4, h5⟩
  · exact .inl ⟨h1, List.eq_nil_of_length_eq_zero h2⟩
  · exact .inr ⟨p, q, h1, h3, h4, fun j r hj hr => h5 j r hj (List.getElem?_eq_some_iff.1 hr).1 hr⟩
theorem WentH.from {w w1 w' : World} {lo hb : Nat} {v : Value} {way last : Int} {E : List RowI} (hb1 : Below w.heap.size w w1) (h : WentH w1 lo hb v way last E w') : WentH w lo hb v way last E w' := by
  obtain ⟨v', h1, h2, h3⟩ := h
  refine ⟨v', h1, (Kept.ofBelow hb1).trans h2, fun k hk => ?_⟩
  rcases h3 k hk with e | e
  · exact .inl e
  · exact .inr (Nat.le_trans hb1.size e)
theorem WentH.stay {w w' : World} {lo hb : Nat} {v : Value} {way last : Int} {E : List RowI} (h : RefH w lo hb v way last E) (hb1 : Below w.heap.size w w') : WentH w lo hb v way last E w' := ⟨v, h.below hb1, Kept.ofBelow hb1, fun _ hk => .inl hk⟩
theorem WentH.on {w w1 w' : World} {lo hb : Nat} {v : Value} {way last : Int} {E : List RowI} (h : WentH w lo hb v way last E w1) {R : Nat → Prop} (hk : Kept R w1 w') (hR : ∀ k, R k → w.heap.size ≤ k ∧ (∃ c, w1.heap[k]? = some (.cells c 27 (0, 0)))) : WentH w lo hb v way last E w' := by
  obtain ⟨v', h1, h2, h3⟩ := h
  refine ⟨v', h1.kept hk (fun k hm hr => ?_), h2.step hk (fun k hk hr => by have := (hR k hr).1; omega), h3⟩
  obtain ⟨c, hc⟩ := (hR k hr).2
  rcases hm with rfl | e
  · rw [h1.box] at hc; simp at hc
  · rcases h1.row.2 with ⟨rfl, _⟩ | ⟨g, cap, cur, rfl, _, hg, _⟩
    · cases e
    · cases e; rw [hg] at hc; simp at hc
theorem kept_twoH (w : World) (s : Nat) (a b : Value) : Kept (fun k => k = s) w ((w.setCell ⟨s, 0, none⟩ a).setCell ⟨s, 1, none⟩ b).drew :=
  ((Kept.setCell (fun k => k = s) w s 0 a rfl).trans (Kept.setCell (fun k => k = s) _ s 1 b rfl)).trans (Kept.ofBelow ((Below.refl _ _).drew))
theorem RefH.lt {w : World} {lo hb : Nat} {v : Value} {way last : Int} {E : List RowI} (h : RefH w lo hb v way last E) {k : Nat} (hk : MineH hb v k) : k < w.heap.size := by
  rcases hk with rfl | e
  · exact h.cells.2.2.2
  · rcases h.row.2 with ⟨rfl, _⟩ | ⟨g, cap, cur, rfl, _, hg, _⟩
    · cases e
    · cases e; exact (Array.getElem?_eq_some_iff.1 hg).1
set_option maxHeartbeats 4000000 in
set_option maxRecDepth 1000000 in
theorem hPop_any (w : World) (lo hb : Nat) (v : Value) (way last : Int) (E : List RowI) (h : RefH w lo hb v way last E) (hE : E.length ≤ 1073741822) (hlo : lo ≤ w.heap.size) :
    Calls Try.prog 23 #[.pointer (some ⟨hb, 0, none⟩)] w fun e w' =>
      (E = [] ∧ e = .returned (.tuple #[.int .i64 0, valT (0, 0), .bool false]) ∧ WentH w lo hb v way last [] w') ∨ ∃ p q, TopOf (kW way) E p q ∧ e = .returned (.tuple #[.int .i64 q.1, valT q.2, .bool true]) ∧ WentH w lo hb v way last (E.take p ++ E.drop (p + 1)) w' := by
  obtain ⟨W0, hW0⟩ : ∃ W0, W0 = w.alloc (.cells #[.int .i64 0, .int .i64 0] 27) := ⟨_, rfl⟩
  obtain ⟨B3, hB3⟩ : ∃ B3, B3 = w.heap.size := ⟨_, rfl⟩
  have B0 : Below w.heap.size w W0 := by rw [hW0]; exact (Below.refl _ w).alloc (Nat.le_refl _) _
  have q0 : W0.heap[B3]? = some (.cells #[.int .i64 0, .int .i64 0] 27 (0, 0)) := by rw [hW0, hB3]; exact heap_alloc_new w _
  have H0 : Hid (RefH w lo hb v way last E ∧ RefH W0 lo hb v way last E ∧ Below w.heap.size w W0 ∧ W0.heap[B3]? = some (.cells #[.int .i64 0, .int .i64 0] 27 (0, 0)) ∧ w.heap.size ≤ B3) := ⟨h, h.below B0, B0, q0, by omega⟩
  have CT : Hid (Calls Try.prog 39 #[.pointer (some ⟨hb, 0, none⟩)] W0 fun e w' => ∃ b, e = .returned (.int .i64 b) ∧ Best (kW way) E E.length b ∧ Below W0.heap.size W0 w') := hTop0_any W0 lo hb v way last E H0.out.2.1 (by omega)
  have HW : Hid (W0 = w.alloc (.cells #[.int .i64 0, .int .i64 0] 27) ∧ B3 = w.heap.size) := ⟨hW0, hB3⟩
  clear hW0 hB3 B0 q0 h
  go_enter Try.func23, Try.ntmps23
  go_upto_region 1 with fail
  rw [← HW.out.1, ← HW.out.2]
  clear HW
  go_wp2_with fail
  refine CT.out.mono ?_
  rintro e w1 ⟨b, rfl, hbest, b1⟩
  have B1 : Hid (Below w.heap.size w w1 ∧ Below W0.heap.size W0 w1) := ⟨H0.out.2.2.1.trans (b1.mono H0.out.2.2.1.size), b1⟩
  clear b1 CT
  rcases hbest.all with ⟨rfl, hnil⟩ | ⟨p, q, rfl, htop⟩
  · have HN : Hid (E = []) := hnil
    clear hnil
    have CT2 : Hid (Calls Try.prog 38 #[.pointer (some ⟨hb, 0, none⟩), .int .i64 (-1)] w1 fun e w' => e = .returned (.tuple #[.int .i64 0, .agg #[.int .i64 0, .int .i64 0], .bool false]) ∧ Below w1.heap.size w1 w') := hTells_no w1 hb
    go_upto_region 3 with (go_at_call 38; refine CT2.out.mono ?_; rintro e w2 ⟨rfl, b2⟩; have B2 : Hid (Below w1.heap.size w1 w2) := b2; clear b2)
    obtain ⟨W3, hW3⟩ : ∃ W3, W3 = w2.alloc (.cells #[.int .i64 0, .int .i64 0] 27) := ⟨_, rfl⟩
    obtain ⟨B7, hB7⟩ : ∃ B7, B7 = w2.heap.size := ⟨_, rfl⟩
    rw [← hW3, ← hB7]
    have b3 : Below w2.heap.size w2 W3 := by rw [hW3]; exact (Below.refl _ w2).alloc (Nat.le_refl _) _
    have q7 : W3.heap[B7]? = some (.cells #[.int .i64 0, .int .i64 0] 27 (0, 0)) := by rw [hW3, hB7]; exact heap_alloc_new w2 _
    have b13 := B1.out.2.trans ((B2.out.trans (b3.mono B2.out.size)).mono B1.out.2.size)
    have bw3 := B1.out.1.trans ((B2.out.trans (b3.mono B2.out.size)).mono B1.out.1.size)
    have q3 := (b13.block B3 (Array.getElem?_eq_some_iff.1 H0.out.2.2.2.1).1).trans H0.out.2.2.2.1
    have x0 : W3.cell? ⟨B7, 0, none⟩ = some (.int .i64 0) := by simp [World.cell?, q7]
    have x1 : W3.cell? ⟨B7, 1, none⟩ = some (.int .i64 0) := by simp [World.cell?, q7]
    have y0 : W3.cell? ⟨B3, 0, none⟩ = some (.int .i64 0) := by simp [World.cell?, q3]
    have y1 : W3.cell? ⟨B3, 1, none⟩ = some (.int .i64 0) := by simp [World.cell?, q3]
    have z0 : W3.frozen? ⟨B3, 0, none⟩ = false := by simp [World.frozen?, q3]
    have z1 : W3.frozen? ⟨B3, 1, none⟩ = false := by simp [World.frozen?, q3]
    have l7 := (Array.getElem?_eq_some_iff.1 q7).1
    have l3 := (Array.getElem?_eq_some_iff.1 q3).1
    have H3 : Hid (Below w.heap.size w W3 ∧ W3.heap[B3]? = some (.cells #[.int .i64 0, .int .i64 0] 27 (0, 0))) := ⟨bw3, q3⟩
    clear hW3 hB7 b3 q7 b13 bw3 q3 CT2
    go_wp2_with (go_at_call 41; refine (hOut_no W3 hb).mono ?_; rintro e w4 ⟨rfl, hW⟩; have hW := hW.symm; subst hW)
    go_region
    all_goals (
      go_wp2_with fail
      (try simp only [Exit.inBlock, Exit.then])
      refine bodyPost_ret (v := .tuple #[.int .i64 0, valT (0, 0), .bool false]) ?_ rfl ?_
      · rw [results_tct rfl]
        unfold valT
        go_simp
      · refine .inl ⟨HN.out, rfl, ?_⟩
        have hs := WentH.stay H0.out.1 H3.out.1
        rw [HN.out] at hs
        exact hs.on (kept_twoH W3 B3 (.int .i64 0) (.int .i64 0)) (fun k e => by subst e; exact ⟨H0.out.2.2.2.2, _, H3.out.2⟩))
  · have hpl := (List.getElem?_eq_some_iff.1 htop.1).1
    have R1 := H0.out.2.1.below B1.out.2
    obtain ⟨q1, q2, q3⟩ := q
    have CT2 : Hid (Calls Try.prog 38 #[.pointer (some ⟨hb, 0, none⟩), .int .i64 (p : Int)] w1 fun e w' => e = .returned (.tuple #[.int .i64 q1, .agg #[.int .i64 q2, .int .i64 q3], .bool true]) ∧ Below w1.heap.size w1 w') := hTells_at w1 lo hb v way last E p (q1, q2, q3) htop.1 R1
    have HT : Hid (TopOf (kW way) E p (q1, q2, q3)) := htop
    clear htop R1 hbest
    go_upto_region 3 with (go_at_call 38; refine CT2.out.mono ?_; rintro e w2 ⟨rfl, b2⟩; have B2 : Hid (Below w1.heap.size w1 w2) := b2; clear b2)
    obtain ⟨W3, hW3⟩ : ∃ W3, W3 = w2.alloc (.cells #[.int .i64 q2, .int .i64 q3] 27) := ⟨_, rfl⟩
    obtain ⟨B7, hB7⟩ : ∃ B7, B7 = w2.heap.size := ⟨_, rfl⟩
    rw [← hW3, ← hB7]
    have b3 : Below w2.heap.size w2 W3 := by rw [hW3]; exact (Below.refl _ w2).alloc (Nat.le_refl _) _
    have q7 : W3.heap[B7]? = some (.cells #[.int .i64 q2, .int .i64 q3] 27 (0, 0)) := by rw [hW3, hB7]; exact heap_alloc_new w2 _
    have b13 := B1.out.2.trans ((B2.out.trans (b3.mono B2.out.size)).mono B1.out.2.size)
    have bw3 := B1.out.1.trans ((B2.out.trans (b3.mono B2.out.size)).mono B1.out.1.size)
    have q3' := (b13.block B3 (Array.getElem?_eq_some_iff.1 H0.out.2.2.2.1).1).trans H0.out.2.2.2.1
    have hw2 : w.heap.size ≤ B7 := by rw [hB7]; exact Nat.le_trans B1.out.1.size B2.out.size
    have H3 : Hid (Below w.heap.size w W3 ∧ W3.heap[B3]? = some (.cells #[.int .i64 0, .int .i64 0] 27 (0, 0)) ∧ W3.heap[B7]? = some (.cells #[.int .i64 q2, .int .i64 q3] 27 (0, 0)) ∧ w.heap.size ≤ B7) := ⟨bw3, q3', q7, hw2⟩
    have CT3 : Hid (Calls Try.prog 41 #[.pointer (some ⟨hb, 0, none⟩), .int .i64 (p : Int)] W3 fun e w' => e = .returned (.tuple #[]) ∧ WentH W3 lo hb v way last (E.take p ++ E.drop (p + 1)) w') := hOut_at W3 lo hb v way last E p hpl (H0.out.1.below bw3) hE (Nat.le_trans hlo bw3.size)
    clear hW3 hB7 b3 q7 b13 bw3 q3' CT2 hw2
    go_upto_region 4 with (go_at_call 41; refine CT3.out.mono ?_; rintro e w4 ⟨rfl, hW⟩; have HW4 : Hid (WentH W3 lo hb v way last (E.take p ++ E.drop (p + 1)) w4) := hW; clear hW)
    have hkeep : ∀ k, w.heap.size ≤ k → k < W3.heap.size → w4.heap[k]? = W3.heap[k]? := fun k h1 h2 => by
      obtain ⟨_, _, hk, _⟩ := HW4.out
      exact hk.block k h2 (fun e => by have := H0.out.1.lt e; omega)
    have q7 := (hkeep B7 H3.out.2.2.2 (Array.getElem?_eq_some_iff.1 H3.out.2.2.1).1).trans H3.out.2.2.1
    have q3' := (hkeep B3 H0.out.2.2.2.2 (Array.getElem?_eq_some_iff.1 H3.out.2.1).1).trans H3.out.2.1
    have x0 : w4.cell? ⟨B7, 0, none⟩ = some (.int .i64 q2) := by simp [World.cell?, q7]
    have x1 : w4.cell? ⟨B7, 1, none⟩ = some (.int .i64 q3) := by simp [World.cell?, q7]
    have y0 : w4.cell? ⟨B3, 0, none⟩ = some (.int .i64 0) := by simp [World.cell?, q3']
    have y1 : w4.cell? ⟨B3, 1, none⟩ = some (.int .i64 0) := by simp [World.cell?, q3']
    have z0 : w4.frozen? ⟨B3, 0, none⟩ = false := by simp [World.frozen?, q3']
    have z1 : w4.frozen? ⟨B3, 1, none⟩ = false := by simp [World.frozen?, q3']
    have l7 := (Array.getElem?_eq_some_iff.1 q7).1
    have l3 := (Array.getElem?_eq_some_iff.1 q3').1
    have HQ : Hid (w4.heap[B3]? = some (.cells #[.int .i64 0, .int .i64 0] 27 (0, 0))) := q3'
    clear hkeep q7 q3' CT3
    go_region
    all_goals (
      go_wp2_with fail
      (try simp only [Exit.inBlock, Exit.then])
      refine bodyPost_ret (v := .tuple #[.int .i64 q1, valT (q2, q3), .bool true]) ?_ rfl ?_
      · rw [results_tct rfl]
        unfold valT
        go_simp
      · refine .inr ⟨p, (q1, q2, q3), HT.out, rfl, ?_⟩
        exact (WentH.from H3.out.1 HW4.out).on (kept_twoH w4 B3 (.int .i64 q2) (.int .i64 q3)) (fun k e => by subst e; exact ⟨H0.out.2.2.2.2, _, HQ.out⟩))
end Go.Proofs.Ytkjjinccnaphpaa

namespace Go.Proofs.Ytkjjinccnaphpaa
open Go.RowKit

theorem setBelow {w w2 : World} {s : Nat} (h : Below w.heap.size w w2) (hs : w.heap.size ≤ s) (a b : Value) : Below w.heap.size w ((w2.setCell ⟨s, 0, none⟩ a).setCell ⟨s, 1, none⟩ b) :=
  h.trans (((Kept.setCell (fun k => k = s) w2 s 0 a rfl).trans (Kept.setCell (fun k => k = s) _ s 1 b rfl)).below h.size (fun k hk e => by omega))
theorem kept_setH (w : World) (s : Nat) (a b : Value) : Kept (fun k => k = s) w ((w.setCell ⟨s, 0, none⟩ a).setCell ⟨s, 1, none⟩ b) :=
  (Kept.setCell (fun k => k = s) w s 0 a rfl).trans (Kept.setCell (fun k => k = s) _ s 1 b rfl)
set_option maxHeartbeats 4000000 in
set_option maxRecDepth 1000000 in
theorem hTop_any (w : World) (lo hb : Nat) (v : Value) (way last : Int) (E : List RowI) (h : RefH w lo hb v way last E) (hE : E.length ≤ 1073741822) :
    Calls Try.prog 21 #[.pointer (some ⟨hb, 0, none⟩)] w fun e w' =>
      ((E = [] ∧ e = .returned (.tuple #[.int .i64 0, valT (0, 0), .bool false])) ∨ ∃ p q, TopOf (kW way) E p q ∧ e = .returned (.tuple #[.int .i64 q.1, valT q.2, .bool true])) ∧ Below w.heap.size w w' := by
  obtain ⟨W0, hW0⟩ : ∃ W0, W0 = w.alloc (.cells #[.int .i64 0, .int .i64 0] 27) := ⟨_, rfl⟩
  obtain ⟨B3, hB3⟩ : ∃ B3, B3 = w.heap.size := ⟨_, rfl⟩
  have B0 : Below w.heap.size w W0 := by rw [hW0]; exact (Below.refl _ w).alloc (Nat.le_refl _) _
  have q0 : W0.heap[B3]? = some (.cells #[.int .i64 0, .int .i64 0] 27 (0, 0)) := by rw [hW0, hB3]; exact heap_alloc_new w _
  have H0 : Hid (RefH w lo hb v way last E ∧ RefH W0 lo hb v way last E ∧ Below w.heap.size w W0 ∧ W0.heap[B3]? = some (.cells #[.int .i64 0, .int .i64 0] 27 (0, 0)) ∧ w.heap.size ≤ B3) := ⟨h, h.below B0, B0, q0, by omega⟩
  have CT : Hid (Calls Try.prog 39 #[.pointer (some ⟨hb, 0, none⟩)] W0 fun e w' => ∃ b, e = .returned (.int .i64 b) ∧ Best (kW way) E E.length b ∧ Below W0.heap.size W0 w') := hTop0_any W0 lo hb v way last E H0.out.2.1 (by omega)
  have HW : Hid (W0 = w.alloc (.cells #[.int .i64 0, .int .i64 0] 27) ∧ B3 = w.heap.size) := ⟨hW0, hB3⟩
  clear hW0 hB3 B0 q0 h
  go_enter Try.func21, Try.ntmps21
  go_upto_region 1 with fail
  rw [← HW.out.1, ← HW.out.2]
  clear HW
  go_wp2_with fail
  refine CT.out.mono ?_
  rintro e w1 ⟨b, rfl, hbest, b1⟩
  have B1 : Hid (Below w.heap.size w w1 ∧ Below W0.heap.size W0 w1) := ⟨H0.out.2.2.1.trans (b1.mono H0.out.2.2.1.size), b1⟩
  clear b1 CT
  rcases hbest.all with ⟨rfl, hnil⟩ | ⟨p, q, rfl, htop⟩
  · have HN : Hid (E = []) := hnil
    clear hnil hbest
    have CT2 : Hid (Calls Try.prog 38 #[.pointer (some ⟨hb, 0, none⟩), .int .i64 (-1)] w1 fun e w' => e = .returned (.tuple #[.int .i64 0, .agg #[.int .i64 0, .int .i64 0], .bool false]) ∧ Below w1.heap.size w1 w') := hTells_no w1 hb
    go_wp2_with (go_at_call 38
                 refine CT2.out.mono ?_; rintro e w2 ⟨rfl, b2⟩
                 have b02 := B1.out.2.trans (b2.mono B1.out.2.size)
                 have q3' := (b02.block B3 (Array.getElem?_eq_some_iff.1 H0.out.2.2.2.1).1).trans H0.out.2.2.2.1
                 have B2 : Hid (Below w.heap.size w w2 ∧ w2.heap[B3]? = some (.cells #[.int .i64 0, .int .i64 0] 27 (0, 0))) := ⟨B1.out.1.trans (b2.mono B1.out.1.size), q3'⟩
                 have y0 : w2.cell? ⟨B3, 0, none⟩ = some (.int .i64 0) := by simp [World.cell?, q3']
                 have y1 : w2.cell? ⟨B3, 1, none⟩ = some (.int .i64 0) := by simp [World.cell?, q3']
                 have l3 := (Array.getElem?_eq_some_iff.1 q3').1
                 have z0 : w2.frozen? ⟨B3, 0, none⟩ = false := by simp [World.frozen?, q3']
                 have z1 : w2.frozen? ⟨B3, 1, none⟩ = false := by simp [World.frozen?, q3']
                 clear b2 b02 q3')
    (try simp only [Exit.inBlock, Exit.then])
    refine bodyPost_ret (v := .tuple #[.int .i64 0, valT (0, 0), .bool false]) ?_ rfl ?_
    · rw [results_tct rfl]
      unfold valT
      go_simp
    · exact ⟨.inl ⟨HN.out, rfl⟩, setBelow B2.out.1 H0.out.2.2.2.2 _ _⟩
  · obtain ⟨q1, q2, q3⟩ := q
    have HT : Hid (TopOf (kW way) E p (q1, q2, q3)) := htop
    clear htop hbest
    have CT2 : Hid (Calls Try.prog 38 #[.pointer (some ⟨hb, 0, none⟩), .int .i64 (p : Int)] w1 fun e w' => e = .returned (.tuple #[.int .i64 q1, .agg #[.int .i64 q2, .int .i64 q3], .bool true]) ∧ Below w1.heap.size w1 w') := hTells_at w1 lo hb v way last E p (q1, q2, q3) HT.out.1 (H0.out.2.1.below B1.out.2)
    go_wp2_with (go_at_call 38
                 refine CT2.out.mono ?_; rintro e w2 ⟨rfl, b2⟩
                 have b02 := B1.out.2.trans (b2.mono B1.out.2.size)
                 have q3' := (b02.block B3 (Array.getElem?_eq_some_iff.1 H0.out.2.2.2.1).1).trans H0.out.2.2.2.1
                 have B2 : Hid (Below w.heap.size w w2 ∧ w2.heap[B3]? = some (.cells #[.int .i64 0, .int .i64 0] 27 (0, 0))) := ⟨B1.out.1.trans (b2.mono B1.out.1.size), q3'⟩
                 have y0 : w2.cell? ⟨B3, 0, none⟩ = some (.int .i64 0) := by simp [World.cell?, q3']
                 have y1 : w2.cell? ⟨B3, 1, none⟩ = some (.int .i64 0) := by simp [World.cell?, q3']
                 have l3 := (Array.getElem?_eq_some_iff.1 q3').1
                 have z0 : w2.frozen? ⟨B3, 0, none⟩ = false := by simp [World.frozen?, q3']
                 have z1 : w2.frozen? ⟨B3, 1, none⟩ = false := by simp [World.frozen?, q3']
                 clear b2 b02 q3')
    (try simp only [Exit.inBlock, Exit.then])
    refine bodyPost_ret (v := .tuple #[.int .i64 q1, valT (q2, q3), .bool true]) ?_ rfl ?_
    · rw [results_tct rfl]
      unfold valT
      go_simp
    · exact ⟨.inr ⟨p, (q1, q2, q3), HT.out, rfl⟩, setBelow B2.out.1 H0.out.2.2.2.2 _ _⟩
set_option maxHeartbeats 4000000 in
set_option maxRecDepth 1000000 in
theorem hGet_any (w : World) (lo hb : Nat) (v : Value) (way last : Int) (E : List RowI) (t : Int) (h : RefH w lo hb v way last E) (hE : E.length ≤ 1073741822) :
    Calls Try.prog 25 #[.pointer (some ⟨hb, 0, none⟩), .int .i64 t] w fun e w' => ((∃ (i : Nat) (r : RowI), E[i]? = some r ∧ r.1 = t ∧ e = .returned (.tuple #[valT r.2, .bool true])) ∨ ((∀ r ∈ E, r.1 ≠ t) ∧ e = .returned (.tuple #[valT (0, 0), .bool false]))) ∧ Below w.heap.size w w' := by
  obtain ⟨W0, hW0⟩ : ∃ W0, W0 = w.alloc (.cells #[.int .i64 0, .int .i64 0] 27) := ⟨_, rfl⟩
  obtain ⟨B3, hB3⟩ : ∃ B3, B3 = w.heap.size := ⟨_, rfl⟩
  have B0 : Below w.heap.size w W0 := by rw [hW0]; exact (Below.refl _ w).alloc (Nat.le_refl _) _
  have q0 : W0.heap[B3]? = some (.cells #[.int .i64 0, .int .i64 0] 27 (0, 0)) := by rw [hW0, hB3]; exact heap_alloc_new w _
  have H0 : Hid (RefH w lo hb v way last E ∧ RefH W0 lo hb v way last E ∧ Below w.heap.size w W0 ∧ W0.heap[B3]? = some (.cells #[.int .i64 0, .int .i64 0] 27 (0, 0)) ∧ w.heap.size ≤ B3) := ⟨h, h.below B0, B0, q0, by omega⟩
  have CT : Hid (Calls Try.prog 42 #[.pointer (some ⟨hb, 0, none⟩), .int .i64 t] W0 fun e w' => ∃ p, e = .returned (.int .i64 p) ∧ PlaceOf E t p ∧ w' = W0) := hPlace_any W0 lo hb v way last E t H0.out.2.1 (by omega)
  have HW : Hid (W0 = w.alloc (.cells #[.int .i64 0, .int .i64 0] 27) ∧ B3 = w.heap.size) := ⟨hW0, hB3⟩
  clear hW0 hB3 B0 q0 h
  go_enter Try.func25, Try.ntmps25
  go_upto_region 1 with fail
  rw [← HW.out.1, ← HW.out.2]
  clear HW
  go_wp2_with fail
  refine CT.out.mono ?_
  rintro e w1 ⟨b, rfl, hbest, b1⟩
  have B1 : Hid (Below w.heap.size w w1 ∧ Below W0.heap.size W0 w1) := by rw [b1]; exact ⟨H0.out.2.2.1, Below.refl _ _⟩
  clear b1 CT
  rcases hbest with ⟨p, q, rfl, htop, hqt⟩ | ⟨rfl, hnil⟩
  · obtain ⟨q1, q2, q3⟩ := q
    have hqt : q1 = t := hqt
    have HT : Hid (E[p]? = some (q1, q2, q3) ∧ q1 = t) := ⟨htop, hqt⟩
    clear htop hqt
    have CT2 : Hid (Calls Try.prog 38 #[.pointer (some ⟨hb, 0, none⟩), .int .i64 (p : Int)] w1 fun e w' => e = .returned (.tuple #[.int .i64 q1, .agg #[.int .i64 q2, .int .i64 q3], .bool true]) ∧ Below w1.heap.size w1 w') := hTells_at w1 lo hb v way last E p (q1, q2, q3) HT.out.1 (H0.out.2.1.below B1.out.2)
    go_upto_region 2 with (go_at_call 38; refine CT2.out.mono ?_; rintro e w2 ⟨rfl, b2⟩; have B2 : Hid (Below w1.heap.size w1 w2) := b2; clear b2)
    obtain ⟨W3, hW3⟩ : ∃ W3, W3 = w2.alloc (.cells #[.int .i64 q2, .int .i64 q3] 27) := ⟨_, rfl⟩
    obtain ⟨B7, hB7⟩ : ∃ B7, B7 = w2.heap.size := ⟨_, rfl⟩
    rw [← hW3, ← hB7]
    have b3 : Below w2.heap.size w2 W3 := by rw [hW3]; exact (Below.refl _ w2).alloc (Nat.le_refl _) _
    have q7 : W3.heap[B7]? = some (.cells #[.int .i64 q2, .int .i64 q3] 27 (0, 0)) := by rw [hW3, hB7]; exact heap_alloc_new w2 _
    have b13 := B1.out.2.trans ((B2.out.trans (b3.mono B2.out.size)).mono B1.out.2.size)
    have bw3 := B1.out.1.trans ((B2.out.trans (b3.mono B2.out.size)).mono B1.out.1.size)
    have q3' := (b13.block B3 (Array.getElem?_eq_some_iff.1 H0.out.2.2.2.1).1).trans H0.out.2.2.2.1
    have hw2 : w.heap.size ≤ B7 := by rw [hB7]; exact Nat.le_trans B1.out.1.size B2.out.size
    have H3 : Hid (Below w.heap.size w W3 ∧ W3.heap[B3]? = some (.cells #[.int .i64 0, .int .i64 0] 27 (0, 0)) ∧ W3.heap[B7]? = some (.cells #[.int .i64 q2, .int .i64 q3] 27 (0, 0)) ∧ w.heap.size ≤ B7) := ⟨bw3, q3', q7, hw2⟩
    have y0 : W3.cell? ⟨B3, 0, none⟩ = some (.int .i64 0) := by simp [World.cell?, q3']
    have y1 : W3.cell? ⟨B3, 1, none⟩ = some (.int .i64 0) := by simp [World.cell?, q3']
    have l3 := (Array.getElem?_eq_some_iff.1 q3').1
    have z0 : W3.frozen? ⟨B3, 0, none⟩ = false := by simp [World.frozen?, q3']
    have z1 : W3.frozen? ⟨B3, 1, none⟩ = false := by simp [World.frozen?, q3']
    have x0 : W3.cell? ⟨B7, 0, none⟩ = some (.int .i64 q2) := by simp [World.cell?, q7]
    have x1 : W3.cell? ⟨B7, 1, none⟩ = some (.int .i64 q3) := by simp [World.cell?, q7]
    have l7 := (Array.getElem?_eq_some_iff.1 q7).1
    clear hW3 hB7 b3 b13 hw2 CT2 q7 q3' bw3
    go_wp2_with fail
    (try simp only [Exit.inBlock, Exit.then])
    refine bodyPost_ret (v := .tuple #[valT (q2, q3), .bool true]) ?_ rfl ?_
    · rw [results_cell_tmp rfl]
      unfold valT
      go_simp
    · exact ⟨.inl ⟨p, (q1, q2, q3), HT.out.1, HT.out.2, rfl⟩, setBelow H3.out.1 H0.out.2.2.2.2 _ _⟩
  · have HN : Hid (∀ r ∈ E, r.1 ≠ t) := hnil
    clear hnil
    have CT2 : Hid (Calls Try.prog 38 #[.pointer (some ⟨hb, 0, none⟩), .int .i64 (-1)] w1 fun e w' => e = .returned (.tuple #[.int .i64 0, .agg #[.int .i64 0, .int .i64 0], .bool false]) ∧ Below w1.heap.size w1 w') := hTells_no w1 hb
    go_upto_region 2 with (go_at_call 38; refine CT2.out.mono ?_; rintro e w2 ⟨rfl, b2⟩; have B2 : Hid (Below w1.heap.size w1 w2) := b2; clear b2)
    obtain ⟨W3, hW3⟩ : ∃ W3, W3 = w2.alloc (.cells #[.int .i64 0, .int .i64 0] 27) := ⟨_, rfl⟩
    obtain ⟨B7, hB7⟩ : ∃ B7, B7 = w2.heap.size := ⟨_, rfl⟩
    rw [← hW3, ← hB7]
    have b3 : Below w2.heap.size w2 W3 := by rw [hW3]; exact (Below.refl _ w2).alloc (Nat.le_refl _) _
    have q7 : W3.heap[B7]? = some (.cells #[.int .i64 0, .int .i64 0] 27 (0, 0)) := by rw [hW3, hB7]; exact heap_alloc_new w2 _
    have b13 := B1.out.2.trans ((B2.out.trans (b3.mono B2.out.size)).mono B1.out.2.size)
    have bw3 := B1.out.1.trans ((B2.out.trans (b3.mono B2.out.size)).mono B1.out.1.size)
    have q3' := (b13.block B3 (Array.getElem?_eq_some_iff.1 H0.out.2.2.2.1).1).trans H0.out.2.2.2.1
    have hw2 : w.heap.size ≤ B7 := by rw [hB7]; exact Nat.le_trans B1.out.1.size B2.out.size
    have H3 : Hid (Below w.heap.size w W3 ∧ W3.heap[B3]? = some (.cells #[.int .i64 0, .int .i64 0] 27 (0, 0)) ∧ W3.heap[B7]? = some (.cells #[.int .i64 0, .int .i64 0] 27 (0, 0)) ∧ w.heap.size ≤ B7) := ⟨bw3, q3', q7, hw2⟩
    have y0 : W3.cell? ⟨B3, 0, none⟩ = some (.int .i64 0) := by simp [World.cell?, q3']
    have y1 : W3.cell? ⟨B3, 1, none⟩ = some (.int .i64 0) := by simp [World.cell?, q3']
    have l3 := (Array.getElem?_eq_some_iff.1 q3').1
    have z0 : W3.frozen? ⟨B3, 0, none⟩ = false := by simp [World.frozen?, q3']
    have z1 : W3.frozen? ⟨B3, 1, none⟩ = false := by simp [World.frozen?, q3']
    have x0 : W3.cell? ⟨B7, 0, none⟩ = some (.int .i64 0) := by simp [World.cell?, q7]
    have x1 : W3.cell? ⟨B7, 1, none⟩ = some (.int .i64 0) := by simp [World.cell?, q7]
    have l7 := (Array.getElem?_eq_some_iff.1 q7).1
    clear hW3 hB7 b3 b13 hw2 CT2 q7 q3' bw3
    go_wp2_with fail
    (try simp only [Exit.inBlock, Exit.then])
    refine bodyPost_ret (v := .tuple #[valT (0, 0), .bool false]) ?_ rfl ?_
    · rw [results_cell_tmp rfl]
      unfold valT
      go_simp
    · exact ⟨.inr ⟨HN.out, rfl⟩, setBelow H3.out.1 H0.out.2.2.2.2 _ _⟩
set_option maxHeartbeats 4000000 in
set_option maxRecDepth 1000000 in
theorem hRemove_any (w : World) (lo hb : Nat) (v : Value) (way last : Int) (E : List RowI) (t : Int) (h : RefH w lo hb v way last E) (hE : E.length ≤ 1073741822) (hlo : lo ≤ w.heap.size) :
    Calls Try.prog 27 #[.pointer (some ⟨hb, 0, none⟩), .int .i64 t] w fun e w' => (∃ (i : Nat) (r : RowI), E[i]? = some r ∧ r.1 = t ∧ e = .returned (.tuple #[valT r.2, .bool true]) ∧ WentH w lo hb v way last (E.take i ++ E.drop (i + 1)) w') ∨ ((∀ r ∈ E, r.1 ≠ t) ∧ e = .returned (.tuple #[valT (0, 0), .bool false]) ∧ WentH w lo hb v way last E w') := by
  obtain ⟨W0, hW0⟩ : ∃ W0, W0 = w.alloc (.cells #[.int .i64 0, .int .i64 0] 27) := ⟨_, rfl⟩
  obtain ⟨B3, hB3⟩ : ∃ B3, B3 = w.heap.size := ⟨_, rfl⟩
  have B0 : Below w.heap.size w W0 := by rw [hW0]; exact (Below.refl _ w).alloc (Nat.le_refl _) _
  have q0 : W0.heap[B3]? = some (.cells #[.int .i64 0, .int .i64 0] 27 (0, 0)) := by rw [hW0, hB3]; exact heap_alloc_new w _
  have H0 : Hid (RefH w lo hb v way last E ∧ RefH W0 lo hb v way last E ∧ Below w.heap.size w W0 ∧ W0.heap[B3]? = some (.cells #[.int .i64 0, .int .i64 0] 27 (0, 0)) ∧ w.heap.size ≤ B3) := ⟨h, h.below B0, B0, q0, by omega⟩
  have CT : Hid (Calls Try.prog 42 #[.pointer (some ⟨hb, 0, none⟩), .int .i64 t] W0 fun e w' => ∃ p, e = .returned (.int .i64 p) ∧ PlaceOf E t p ∧ w' = W0) := hPlace_any W0 lo hb v way last E t H0.out.2.1 (by omega)
  have HW : Hid (W0 = w.alloc (.cells #[.int .i64 0, .int .i64 0] 27) ∧ B3 = w.heap.size) := ⟨hW0, hB3⟩
  clear hW0 hB3 B0 q0 h
  go_enter Try.func27, Try.ntmps27
  go_upto_region 1 with fail
  rw [← HW.out.1, ← HW.out.2]
  clear HW
  go_wp2_with fail
  refine CT.out.mono ?_
  rintro e w1 ⟨b, rfl, hbest, b1⟩
  have B1 : Hid (Below w.heap.size w w1 ∧ Below W0.heap.size W0 w1) := by rw [b1]; exact ⟨H0.out.2.2.1, Below.refl _ _⟩
  clear b1 CT
  rcases hbest with ⟨p, q, rfl, htop, hqt⟩ | ⟨rfl, hnil⟩
  · obtain ⟨q1, q2, q3⟩ := q
    have hqt : q1 = t := hqt
    have HT : Hid (E[p]? = some (q1, q2, q3) ∧ q1 = t) := ⟨htop, hqt⟩
    clear htop hqt
    have CT2 : Hid (Calls Try.prog 38 #[.pointer (some ⟨hb, 0, none⟩), .int .i64 (p : Int)] w1 fun e w' => e = .returned (.tuple #[.int .i64 q1, .agg #[.int .i64 q2, .int .i64 q3], .bool true]) ∧ Below w1.heap.size w1 w') := hTells_at w1 lo hb v way last E p (q1, q2, q3) HT.out.1 (H0.out.2.1.below B1.out.2)
    go_upto_region 3 with (go_at_call 38; refine CT2.out.mono ?_; rintro e w2 ⟨rfl, b2⟩; have B2 : Hid (Below w1.heap.size w1 w2) := b2; clear b2)
    obtain ⟨W3, hW3⟩ : ∃ W3, W3 = w2.alloc (.cells #[.int .i64 q2, .int .i64 q3] 27) := ⟨_, rfl⟩
    obtain ⟨B7, hB7⟩ : ∃ B7, B7 = w2.heap.size := ⟨_, rfl⟩
    rw [← hW3, ← hB7]
    have b3 : Below w2.heap.size w2 W3 := by rw [hW3]; exact (Below.refl _ w2).alloc (Nat.le_refl _) _
    have q7 : W3.heap[B7]? = some (.cells #[.int .i64 q2, .int .i64 q3] 27 (0, 0)) := by rw [hW3, hB7]; exact heap_alloc_new w2 _
    have b13 := B1.out.2.trans ((B2.out.trans (b3.mono B2.out.size)).mono B1.out.2.size)
    have bw3 := B1.out.1.trans ((B2.out.trans (b3.mono B2.out.size)).mono B1.out.1.size)
    have q3' := (b13.block B3 (Array.getElem?_eq_some_iff.1 H0.out.2.2.2.1).1).trans H0.out.2.2.2.1
    have hw2 : w.heap.size ≤ B7 := by rw [hB7]; exact Nat.le_trans B1.out.1.size B2.out.size
    have H3 : Hid (Below w.heap.size w W3 ∧ W3.heap[B3]? = some (.cells #[.int .i64 0, .int .i64 0] 27 (0, 0)) ∧ W3.heap[B7]? = some (.cells #[.int .i64 q2, .int .i64 q3] 27 (0, 0)) ∧ w.heap.size ≤ B7) := ⟨bw3, q3', q7, hw2⟩
    have CT3 : Hid (Calls Try.prog 41 #[.pointer (some ⟨hb, 0, none⟩), .int .i64 (p : Int)] W3 fun e w' => e = .returned (.tuple #[]) ∧ WentH W3 lo hb v way last (E.take p ++ E.drop (p + 1)) w') := hOut_at W3 lo hb v way last E p (List.getElem?_eq_some_iff.1 HT.out.1).1 (H0.out.1.below bw3) hE (Nat.le_trans hlo bw3.size)
    clear hW3 hB7 b3 b13 hw2 CT2 q7 q3' bw3
    go_upto_region 4 with (go_at_call 41; refine CT3.out.mono ?_; rintro e w4 ⟨rfl, hW⟩; have HW4 : Hid (WentH W3 lo hb v way last (E.take p ++ E.drop (p + 1)) w4) := hW; clear hW)
    have hkeep : ∀ k, w.heap.size ≤ k → k < W3.heap.size → w4.heap[k]? = W3.heap[k]? := fun k h1 h2 => by
      obtain ⟨_, _, hk, _⟩ := HW4.out
      exact hk.block k h2 (fun e => by have := H0.out.1.lt e; omega)
    have q7 := (hkeep B7 H3.out.2.2.2 (Array.getElem?_eq_some_iff.1 H3.out.2.2.1).1).trans H3.out.2.2.1
    have q3' := (hkeep B3 H0.out.2.2.2.2 (Array.getElem?_eq_some_iff.1 H3.out.2.1).1).trans H3.out.2.1
    have HQ : Hid (w4.heap[B3]? = some (.cells #[.int .i64 0, .int .i64 0] 27 (0, 0))) := q3'
    have y0 : w4.cell? ⟨B3, 0, none⟩ = some (.int .i64 0) := by simp [World.cell?, q3']
    have y1 : w4.cell? ⟨B3, 1, none⟩ = some (.int .i64 0) := by simp [World.cell?, q3']
    have l3 := (Array.getElem?_eq_some_iff.1 q3').1
    have z0 : w4.frozen? ⟨B3, 0, none⟩ = false := by simp [World.frozen?, q3']
    have z1 : w4.frozen? ⟨B3, 1, none⟩ = false := by simp [World.frozen?, q3']
    have x0 : w4.cell? ⟨B7, 0, none⟩ = some (.int .i64 q2) := by simp [World.cell?, q7]
    have x1 : w4.cell? ⟨B7, 1, none⟩ = some (.int .i64 q3) := by simp [World.cell?, q7]
    have l7 := (Array.getElem?_eq_some_iff.1 q7).1
    clear hkeep q7 q3' CT3
    go_wp2_with fail
    (try simp only [Exit.inBlock, Exit.then])
    refine bodyPost_ret (v := .tuple #[valT (q2, q3), .bool true]) ?_ rfl ?_
    · rw [results_cell_tmp rfl]
      unfold valT
      go_simp
    · refine .inl ⟨p, (q1, q2, q3), HT.out.1, HT.out.2, rfl, ?_⟩
      exact (WentH.from H3.out.1 HW4.out).on (kept_setH w4 B3 (.int .i64 q2) (.int .i64 q3)) (fun k e => by subst e; exact ⟨H0.out.2.2.2.2, _, HQ.out⟩)
  · have HN : Hid (∀ r ∈ E, r.1 ≠ t) := hnil
    clear hnil
    have CT2 : Hid (Calls Try.prog 38 #[.pointer (some ⟨hb, 0, none⟩), .int .i64 (-1)] w1 fun e w' => e = .returned (.tuple #[.int .i64 0, .agg #[.int .i64 0, .int .i64 0], .bool false]) ∧ Below w1.heap.size w1 w') := hTells_no w1 hb
    go_upto_region 3 with (go_at_call 38; refine CT2.out.mono ?_; rintro e w2 ⟨rfl, b2⟩; have B2 : Hid (Below w1.heap.size w1 w2) := b2; clear b2)
    obtain ⟨W3, hW3⟩ : ∃ W3, W3 = w2.alloc (.cells #[.int .i64 0, .int .i64 0] 27) := ⟨_, rfl⟩
    obtain ⟨B7, hB7⟩ : ∃ B7, B7 = w2.heap.size := ⟨_, rfl⟩
    rw [← hW3, ← hB7]
    have b3 : Below w2.heap.size w2 W3 := by rw [hW3]; exact (Below.refl _ w2).alloc (Nat.le_refl _) _
    have q7 : W3.heap[B7]? = some (.cells #[.int .i64 0, .int .i64 0] 27 (0, 0)) := by rw [hW3, hB7]; exact heap_alloc_new w2 _
    have b13 := B1.out.2.trans ((B2.out.trans (b3.mono B2.out.size)).mono B1.out.2.size)
    have bw3 := B1.out.1.trans ((B2.out.trans (b3.mono B2.out.size)).mono B1.out.1.size)
    have q3' := (b13.block B3 (Array.getElem?_eq_some_iff.1 H0.out.2.2.2.1).1).trans H0.out.2.2.2.1
    have hw2 : w.heap.size ≤ B7 := by rw [hB7]; exact Nat.le_trans B1.out.1.size B2.out.size
    have H3 : Hid (Below w.heap.size w W3 ∧ W3.heap[B3]? = some (.cells #[.int .i64 0, .int .i64 0] 27 (0, 0)) ∧ W3.heap[B7]? = some (.cells #[.int .i64 0, .int .i64 0] 27 (0, 0)) ∧ w.heap.size ≤ B7) := ⟨bw3, q3', q7, hw2⟩
    have y0 : W3.cell? ⟨B3, 0, none⟩ = some (.int .i64 0) := by simp [World.cell?, q3']
    have y1 : W3.cell? ⟨B3, 1, none⟩ = some (.int .i64 0) := by simp [World.cell?, q3']
    have l3 := (Array.getElem?_eq_some_iff.1 q3').1
    have z0 : W3.frozen? ⟨B3, 0, none⟩ = false := by simp [World.frozen?, q3']
    have z1 : W3.frozen? ⟨B3, 1, none⟩ = false := by simp [World.frozen?, q3']
    have x0 : W3.cell? ⟨B7, 0, none⟩ = some (.int .i64 0) := by simp [World.cell?, q7]
    have x1 : W3.cell? ⟨B7, 1, none⟩ = some (.int .i64 0) := by simp [World.cell?, q7]
    have l7 := (Array.getElem?_eq_some_iff.1 q7).1
    clear hW3 hB7 b3 b13 hw2 CT2 q7 q3' bw3
    go_wp2_with (go_at_call 41; refine (hOut_no W3 hb).mono ?_; rintro e w4 ⟨rfl, hW⟩; have hW := hW.symm; subst hW)
    (try simp only [Exit.inBlock, Exit.then])
    refine bodyPost_ret (v := .tuple #[valT (0, 0), .bool false]) ?_ rfl ?_
    · rw [results_cell_tmp rfl]
      unfold valT
      go_simp
    · refine .inr ⟨HN.out, rfl, ?_⟩
      exact (WentH.stay H0.out.1 H3.out.1).on (kept_setH W3 B3 (.int .i64 0) (.int .i64 0)) (fun k e => by subst e; exact ⟨H0.out.2.2.2.2, _, H3.out.2.1⟩)
end Go.Proofs.Ytkjjinccnaphpaa
