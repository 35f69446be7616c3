/-
  The document's book: Count, Len, Names, Clone.
-/
import Derived.Test.YthjaehibndmehaaRefDrops
import Derived.Test.YthjaehibndmehaaNames
namespace Go.Proofs.Ythjaehibndmehaa
open Go.RowKit

set_option maxHeartbeats 4000000 in
set_option maxRecDepth 1000000 in
theorem refCount_any (w : World) (lo db : Nat) (lv : Value) (S : List RowT) (g : Text → Option Int) (s : ByteArray) (h : RefB w lo db lv S) (hL : Listed g S) (hS : S.length ≤ 1073741822) :
    Calls Try.prog 29 #[.pointer (some ⟨db, 0, none⟩), .string s] w fun e w' => e = .returned (.int .i64 (held g s.data.toList)) ∧ ∃ q, w' = w.drewN q := by
  obtain ⟨⟨t⟩⟩ := s
  show Calls Try.prog 29 #[.pointer (some ⟨db, 0, none⟩), .string ⟨⟨t⟩⟩] w fun e w' => e = .returned (.int .i64 (held g t)) ∧ ∃ q, w' = w.drewN q
  obtain ⟨a, c, rfl, hSc⟩ := h.form
  have HH := hide (And.intro h hL)
  have HP := hide (place_any w lo db (.slice a S.length c) S ⟨⟨t⟩⟩ h (by omega))
  clear h hL
  go_enter Try.func29, Try.ntmps29
  go_wp2_with fail
  refine HP.out.mono ?_
  rintro e w1 ⟨⟨k, hk⟩, q, hq⟩
  have B1 : Below w.heap.size w w1 := by rw [hq]; exact below_q (Below.refl _ w) q
  have H1 := hide (And.intro (HH.out.1.below B1) hq)
  clear hq B1 HP
  rcases hk with ⟨x, rfl, hT⟩ | ⟨rfl, hT⟩
  · replace hT : There S t k x := hT
    have hkl := hT.le
    have hki : (k : Int) < (S.length : Int) := by omega
    have hg := hT.held HH.out.2
    obtain ⟨gr, rfl, _, c1, f1⟩ := H1.out.1.cell hT.get
    simp only [] at c1
    have m0 : w1.cell? ⟨db, 0, none⟩ = some (.slice (some ⟨gr, 0, none⟩) S.length c) := by simp [World.cell?, H1.out.1.box]
    have HT := hide hg
    clear hT hg
    go_wp2_with fail
    go_ret
    exact ⟨by unfold held; rw [HT.out]; rfl, q, H1.out.2⟩
  · replace hT : Away S t k := hT
    have HT := hide (hT.none HH.out.2)
    clear hT
    go_wp2_with fail
    go_ret
    exact ⟨by unfold held; rw [HT.out]; rfl, q, H1.out.2⟩
set_option maxHeartbeats 4000000 in
set_option maxRecDepth 1000000 in
theorem refLen_any (w : World) (lo db : Nat) (lv : Value) (S : List RowT) (h : RefB w lo db lv S) :
    Calls Try.prog 30 #[.pointer (some ⟨db, 0, none⟩)] w fun e w' => e = .returned (.int .i64 (S.length : Int)) ∧ w' = w := by
  obtain ⟨a, c, rfl, hSc⟩ := h.form
  have m0 : w.cell? ⟨db, 0, none⟩ = some (.slice a S.length c) := by simp [World.cell?, h.box]
  clear h
  go_enter Try.func30, Try.ntmps30
  go_wp2_with fail
  go_ret
  exact ⟨rfl, rfl⟩
set_option maxHeartbeats 4000000 in
set_option maxRecDepth 1000000 in
/-- Clone: a book of its own. -/
theorem refClone_any (w : World) (lo db : Nat) (lv : Value) (S : List RowT) (h : RefB w lo db lv S) (hS : S.length ≤ 1073741822) (hlo : lo ≤ w.heap.size) :
    Calls Try.prog 14 #[.pointer (some ⟨db, 0, none⟩)] w fun e w' => ∃ db' lv', e = .returned (.pointer (some ⟨db', 0, none⟩)) ∧ RefB w' lo db' lv' S ∧ Below w.heap.size w w' ∧ ∀ k, MineR db' lv' k → w.heap.size ≤ k := by
  obtain ⟨a, c, rfl, hSc⟩ := h.form
  have HA : Hid (RefB (w.alloc (.cells #[] 46)) lo db (.slice a S.length c) S ∧ Below w.heap.size w (w.alloc (.cells #[] 46)) ∧ (w.alloc (.cells #[] 46)).ownsRow w.heap.size 46 2 (.slice (some ⟨w.heap.size, 0, none⟩) 0 0) ([] : List RowT).length (flatS [])) := by
    have hb : Below w.heap.size w (w.alloc (.cells #[] 46)) := (Below.refl _ w).alloc (Nat.le_refl _) _
    exact ⟨h.below hb, hb, ones_nil w _ (Nat.le_refl _)⟩
  have ma : (w.alloc (.cells #[] 46)).cell? ⟨db, 0, none⟩ = some (.slice a S.length c) := by simp [World.cell?, HA.out.1.box]
  have HF : Hid (((a = none ∧ S.length = 0) ∨ ∃ p, a = some p ∧ ∀ j u, (flatS S)[j]? = some u → (w.alloc (.cells #[] 46)).cell? (p.add j) = some u) ∧ S.Pairwise (fun x y => less x.1 y.1 = true)) := by
    have := HA.out.1.front S.length (Nat.le_refl _)
    rw [List.take_length] at this
    exact ⟨this, h.up⟩
  clear h
  go_enter Try.func14, Try.ntmps14
  go_wp2_with (at_builtin; refine wpList_ones rfl (.tmp 3) (.tmp 7) rfl w.heap.size (.slice (some ⟨w.heap.size, 0, none⟩) 0 0) [] (by rfl) HA.out.2.2 a c S (by rfl) HF.out.1 (by simp; omega) HA.out.2.1.size ?_; intro v2 w2 r2 g2 l2; have H2 := hide (grow_below HA.out.2.1 HA.out.2.1.size (fun k e => by cases e; exact Nat.le_refl _) g2 l2); obtain ⟨a2, n2, c2, rfl⟩ := row_slice r2; clear g2 l2)
  go_ret
  rw [List.nil_append] at r2
  refine ⟨w2.heap.size, _, rfl, ⟨heap_alloc_new _ _, ?_, Nat.le_trans hlo H2.out.2.1, HF.out.2⟩, H2.out.1.alloc H2.out.2.1 _, ?_⟩
  · refine ⟨r2.1, ?_⟩
    rcases (r2.alloc (.cells #[.slice a2 n2 c2] 62)).2 with h0 | ⟨g, cap, cur, e, hB, rest⟩
    · exact .inl h0
    · exact .inr ⟨g, cap, cur, e, Nat.le_trans hlo hB, rest⟩
  · rintro k (rfl | hk)
    · exact H2.out.2.1
    · exact H2.out.2.2 k hk
/-- 'append' of texts onto texts of the call's own. -/
theorem wpList_texts {w : World} {ops : Array Oper} {rest : List Oper} {o : Oper} {a : Act} {Q : Exit → Act → World → Prop} (hgd : o.guard = none) (s x : Operand)
    (ho : o.op = .call { callee := .builtin .append, args := #[s, x], argTypes := #[54, 54] })
    (B : Nat) (v : Value) (X : List Text) (hs : a.eval s = v) (hown : w.ownsRow B 9 1 v X.length (X.map encStr)) (ad : Option Addr) (c : Nat) (Y : List Text) (hx : a.eval x = .slice ad Y.length c)
    (hsrc : (ad = none ∧ Y.length = 0) ∨ ∃ p, ad = some p ∧ ∀ j u, (Y.map encStr)[j]? = some u → w.cell? (p.add j) = some u)
    (hb : X.length + Y.length ≤ 2147483647) (hbase : B ≤ w.heap.size)
    (h : ∀ v' w', w'.ownsRow B 9 1 v' (X ++ Y).length ((X ++ Y).map encStr) → w.grownBy w' v.ownBlock → (∀ (b0 : Nat) (u : Value) (m' : Nat) (ys : List Value), w.ownsRow b0 9 1 u m' ys → (u.ownBlock = v.ownBlock → m' ≤ X.length) → w'.ownsRow b0 9 1 u m' ys) → (v'.ownBlock = v.ownBlock ∨ v'.ownBlock = some w.heap.size) → (v' = .slice none 0 0 ↔ v = .slice none 0 0 ∧ Y.length = 0) →
      wpList Try.prog ops Q rest (a.put o.dst v') w') : wpList Try.prog ops Q (o :: rest) a w := by
  obtain ⟨i, hi, hz0, hz1, hz2⟩ := info_parts info_string
  refine wpList_plain hgd fun K hK => ?_
  obtain ⟨v', w', hr, h2, h3, h4, h5, h6⟩ := run_append_keepsG (P := Try.prog) w 1 B 54 o.type 9 i _ Try.underlying54 hi hz0 hz1 rfl v X.length (X.map encStr) hown ad Y.length c (Y.map encStr) (by simp) hsrc (fun u hu => by obtain ⟨t, _, rfl⟩ := List.mem_map.1 hu; rfl) (by unfold maxLen; omega) (by rw [hz2]; omega) hbase
  unfold Oper.wp execOp
  simp only [ho, resolve, invoke, builtin, Sem.run_bind, Sem.run_pure, Result.andThen_ok, List.map_toArray, List.map_cons, List.map_nil, hs, hx, hr]
  refine hK _ _ (h v' w' ?_ h3 h4 h5 h6)
  rw [List.length_append, List.map_append]
  exact h2
theorem texts_nil (w : World) (B : Nat) (hB : B ≤ w.heap.size) : (w.alloc (.cells #[] 9)).ownsRow B 9 1 (.slice (some ⟨w.heap.size, 0, none⟩) 0 0) ([] : List Text).length (([] : List Text).map encStr) :=
  World.ownsRow_made w #[] 0 hB (by unfold maxLen; omega) (by simp)
theorem cells_one (w : World) (x : Value) (t : TypeId) : ∀ j u, [x][j]? = some u → (w.alloc (.cells #[x] t)).cell? ((⟨w.heap.size, 0, none⟩ : Addr).add j) = some u := by
  intro j u hu
  have e : ((⟨w.heap.size, 0, none⟩ : Addr).add j) = ⟨w.heap.size, j, none⟩ := by unfold Addr.add; split <;> simp_all
  rw [e]
  have hb := heap_alloc_new w (.cells #[x] t)
  simp only [World.cell?, hb]
  match j, hu with
  | 0, hu => simpa using hu
set_option maxHeartbeats 4000000 in
set_option maxRecDepth 1000000 in
theorem refNames_any (w : World) (lo db : Nat) (lv : Value) (S : List RowT) (h : RefB w lo db lv S) (hS : S.length ≤ 1073741822) :
    Calls Try.prog 32 #[.pointer (some ⟨db, 0, none⟩)] w fun e w' => ∃ v, e = .returned v ∧ w'.ownsRow w.heap.size 9 1 v (S.map (·.1)).length ((S.map (·.1)).map encStr) ∧ Below w.heap.size w w' := by
  obtain ⟨a, c, rfl, hSc⟩ := h.form
  have HH := hide h
  clear h
  go_enter Try.func32, Try.ntmps32
  go_wp2_with fail
  go_loopg [3, 4] S.length (fun gk v s4 wr => ∃ i : Nat, s4 = .int .i64 (i : Int) ∧ i ≤ S.length ∧ S.length - i ≤ gk ∧ Hid (wr.ownsRow w.heap.size 9 1 v ((S.take i).map (·.1)).length (((S.take i).map (·.1)).map encStr) ∧ Below w.heap.size w wr))
  case atStart => exact ⟨0, rfl, Nat.zero_le _, Nat.le_refl _, (texts_nil w _ (Nat.le_refl _)), (Below.refl _ w).alloc (Nat.le_refl _) _⟩
  case round =>
    obtain ⟨i, rfl, hi, hgk, HI⟩ := hrel
    have hR := HH.out.below HI.out.2
    have m0 : wr.cell? ⟨db, 0, none⟩ = some (.slice a S.length c) := by simp [World.cell?, hR.box]
    by_cases hit : i < S.length
    · have t1 : (i : Int) < (S.length : Int) := by omega
      obtain ⟨r, hx⟩ : ∃ x, S[i]? = some x := ⟨_, List.getElem?_eq_getElem hit⟩
      obtain ⟨g, rfl, c0, _, _⟩ := hR.cell hx
      have HX := hide hx
      obtain ⟨rt, rc⟩ := r
      replace c0 : wr.cell? ⟨g, i * 2, none⟩ = some (.string ⟨rt.toArray⟩) := c0
      have hwl := HI.out.2.size
      clear hx hR
      go_wp2_with (at_builtin; refine wpList_texts rfl (.tmp 15) (.tmp 24) rfl w.heap.size u3 ((S.take i).map (·.1)) (by rfl) (World.ownsRow.alloc HI.out.1 _) (some ⟨wr.heap.size, 0, none⟩) 1 [rt] (by rfl) (.inr ⟨_, rfl, cells_one _ _ _⟩) (by simp; omega) (by simp; omega) ?_
                   intro v2 w2 r2 g2 k2 l2 n2
                   have hlw := fun k (e : u3.ownBlock = some k) => (World.ownsRow.lt HI.out.1 k e).1
                   have H2 := hide (grow_below (HI.out.2.alloc HI.out.2.size _) (by simp; omega) hlw g2 l2)
                   have R2 := hide r2
                   clear g2 k2 l2 n2 r2 hlw)
      go_roundg (S.length - (i + 1))
      case measure => omega
      case rel =>
        refine ⟨i + 1, by go_num, by omega, Nat.le_refl _, ?_, H2.out.1⟩
        have e : (S.take (i + 1)).map (·.1) = (S.take i).map (·.1) ++ [rt] := by
          rw [List.take_add_one, HX.out]
          simp
        rw [e]
        exact R2.out
    · have t1 : ¬ (i : Int) < (S.length : Int) := by omega
      obtain rfl : i = S.length := by omega
      go_wp2_with fail
      go_ret
      have := HI.out
      rw [List.take_length] at this
      exact ⟨u3, rfl, by simpa using this.1, this.2⟩
end Go.Proofs.Ythjaehibndmehaa
