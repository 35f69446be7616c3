/-
  The document's heap: Order.
-/
import Derived.Test.YtkjjinccnaphpaaHRefD
import Derived.Test.YtkjjinccnaphpaaOrderW
namespace Go.Proofs.Ytkjjinccnaphpaa
open Go.RowKit

/-- A row by itself ranks ahead of all others of the heap. -/
theorem TopOf.first {ky : Int × Int → Int} {E : List RowI} {p : Nat} {q : RowI} (h : TopOf ky E p q) (hup : E.Pairwise (fun a b => a.1 < b.1)) : ∀ r ∈ E.take p ++ E.drop (p + 1), L ky q r := by
  intro r hr
  have hp := (List.getElem?_eq_some_iff.1 h.1).1
  have hpq := (List.getElem?_eq_some_iff.1 h.1).2
  rw [List.pairwise_iff_getElem] at hup
  rcases List.mem_append.1 hr with hr | hr
  · obtain ⟨j, hj, e⟩ := List.mem_take_iff_getElem.1 hr
    have hj2 : j < p := by omega
    exact .inl (h.2.1 j r hj2 (by rw [List.getElem?_eq_getElem (by omega), e]))
  · obtain ⟨j, hj, e⟩ := List.mem_drop_iff_getElem.1 hr
    have h2 := h.2.2 (p + 1 + j) r (by omega) (by rw [List.getElem?_eq_getElem (by omega), e])
    have h3 := hup p (p + 1 + j) hp (by omega) (by omega)
    rw [hpq, e] at h3
    unfold L
    omega
theorem drop_perm {E : List RowI} {p : Nat} {q : RowI} (h : E[p]? = some q) : E.Perm (q :: (E.take p ++ E.drop (p + 1))) := by
  have hp := (List.getElem?_eq_some_iff.1 h).1
  have hpq := (List.getElem?_eq_some_iff.1 h).2
  have e : E = E.take p ++ q :: E.drop (p + 1) := by
    rw [← hpq, List.getElem_cons_drop hp, List.take_append_drop]
  conv => lhs; rw [e]
  exact List.perm_middle
theorem drop_up {E : List RowI} {p : Nat} (hup : E.Pairwise (fun a b => a.1 < b.1)) : (E.take p ++ E.drop (p + 1)).Pairwise (fun a b => a.1 < b.1) := by
  refine List.Pairwise.sublist ?_ hup
  conv => rhs; rw [← List.take_append_drop p E]
  refine List.Sublist.append (List.Sublist.refl _) ?_
  rw [← List.drop_drop]
  exact List.drop_sublist _ _
theorem RefH.notInt {w : World} {lo hb B : Nat} {v u : Value} {way last : Int} {E : List RowI} {l : List Int} (h : RefH w lo hb v way last E) (hu : Nums w B u l) {g : Nat} (hg : u.ownBlock = some g) : ¬ MineH hb v g := by
  obtain ⟨cur, hc, _⟩ := hu.block hg
  rintro (rfl | e)
  · rw [h.box] at hc; simp at hc
  · rcases h.row.2 with ⟨rfl, _⟩ | ⟨rb, cap, cur', rfl, _, hc', _⟩
    · cases e
    · cases e; rw [hc'] at hc; simp at hc
/-- Some have been popped: what is so then. -/
structure Popped (w wr : World) (lo cb : Nat) (u : Value) (way last : Int) (E S F : List RowI) : Prop where
  at_ : ∃ v, RefH wr lo cb v way last F ∧ ∀ k, MineH cb v k → w.heap.size ≤ k
  bel : Below w.heap.size w wr
  nums : Nums wr w.heap.size u (S.map (·.1))
  up : F.Pairwise (fun a b => a.1 < b.1)
  perm : (S ++ F).Perm E
  sorted : S.Pairwise (L (kW way))
  ahead : ∀ a ∈ S, ∀ b ∈ F, L (kW way) a b
theorem Popped.pop {w wr : World} {lo cb : Nat} {u : Value} {way last : Int} {E S F : List RowI} {p : Nat} {q : RowI} (h : Popped w wr lo cb u way last E S F) (ht : TopOf (kW way) F p q) :
    ((S ++ [q]) ++ (F.take p ++ F.drop (p + 1))).Perm E ∧ (S ++ [q]).Pairwise (L (kW way)) ∧ (∀ a ∈ S ++ [q], ∀ b ∈ F.take p ++ F.drop (p + 1), L (kW way) a b) ∧ (F.take p ++ F.drop (p + 1)).length + 1 = F.length := by
  have hq : q ∈ F := List.mem_of_getElem? ht.1
  have hsub : ∀ b ∈ F.take p ++ F.drop (p + 1), b ∈ F := fun b hb => (drop_perm ht.1).symm.subset (List.mem_cons_of_mem _ hb)
  refine ⟨?_, ?_, ?_, ?_⟩
  · rw [List.append_assoc]
    exact ((drop_perm ht.1).symm.append_left S).trans h.perm
  · refine List.pairwise_append.2 ⟨h.sorted, List.pairwise_singleton _ _, fun a ha b hb => ?_⟩
    rw [List.mem_singleton.1 hb]
    exact h.ahead a ha q hq
  · intro a ha b hb
    rcases List.mem_append.1 ha with ha | ha
    · exact h.ahead a ha b (hsub b hb)
    · rw [List.mem_singleton.1 ha]
      exact ht.first h.up b hb
  · have := (drop_perm ht.1).length_eq
    simpa using this.symm
set_option maxHeartbeats 4000000 in
set_option maxRecDepth 1000000 in
theorem hOrder_any (w : World) (lo hb : Nat) (v : Value) (way last : Int) (E : List RowI) (h : RefH w lo hb v way last E) (hup : E.Pairwise (fun a b => a.1 < b.1)) (hE : E.length ≤ 1073741822) (hlo : lo ≤ w.heap.size) :
    Calls Try.prog 46 #[.pointer (some ⟨hb, 0, none⟩)] w fun e w' => ∃ v' S, e = .returned v' ∧ Ranked (kW way) E S ∧ Nums w' w.heap.size v' (S.map (·.1)) ∧ Below w.heap.size w w' := by
  have CC : Hid (Calls Try.prog 47 #[.pointer (some ⟨hb, 0, none⟩)] w fun e w' => ∃ cb v', e = .returned (.pointer (some ⟨cb, 0, none⟩)) ∧ RefH w' lo cb v' way last E ∧ Below w.heap.size w w' ∧ ∀ k, MineH cb v' k → w.heap.size ≤ k) := hClone_any w lo hb v way last E h hE hlo
  have HU : Hid (E.Pairwise (fun a b => a.1 < b.1)) := hup
  obtain ⟨i0, hi, hz0, hz1, hz2⟩ := info_parts info_int
  clear h hup
  go_enter Try.func46, Try.ntmps46
  go_wp2_with fail
  refine CC.out.mono ?_
  rintro e w1 ⟨cb, v1, rfl, h1, b1, m1⟩
  have H1 : Hid (Popped w w1 lo cb (.slice none 0 0) way last E [] E) := ⟨⟨v1, h1, m1⟩, b1, World.ownsRow_nil _ _ _ _, HU.out, by simp, List.Pairwise.nil, by simp⟩
  clear h1 b1 m1 CC
  go_wp2_with fail
  go_loopg [4, 5, 6, 7] E.length (fun gk s4 _ _ _ wr => ∃ (S F : List RowI), F.length ≤ gk ∧ Hid (Popped w wr lo cb s4 way last E S F))
  case atStart => exact ⟨[], E, Nat.le_refl _, H1⟩
  case round =>
    clear H1
    obtain ⟨S, F, hgk, HP⟩ := hrel
    obtain ⟨v2, hR, hM⟩ := HP.out.at_
    have HR : Hid (RefH wr lo cb v2 way last F ∧ ∀ k, MineH cb v2 k → w.heap.size ≤ k) := ⟨hR, hM⟩
    have hlen : S.length + F.length = E.length := by have := HP.out.perm.length_eq; simpa using this
    have CL : Hid (Calls Try.prog 31 #[.pointer (some ⟨cb, 0, none⟩)] wr fun e w' => e = .returned (.int .i64 (F.length : Int)) ∧ w' = wr) := hLen_any wr lo cb v2 way last F hR
    have CP : Hid (Calls Try.prog 23 #[.pointer (some ⟨cb, 0, none⟩)] wr fun e w' => (F = [] ∧ e = .returned (.tuple #[.int .i64 0, valT (0, 0), .bool false]) ∧ WentH wr lo cb v2 way last [] w') ∨ ∃ p q, TopOf (kW way) F p q ∧ e = .returned (.tuple #[.int .i64 q.1, valT q.2, .bool true]) ∧ WentH wr lo cb v2 way last (F.take p ++ F.drop (p + 1)) w') := hPop_any wr lo cb v2 way last F hR (by omega) (Nat.le_trans hlo HP.out.bel.size)
    clear hR hM
    by_cases hF : F = []
    · have HF : Hid (F = []) := hF
      have hF0 : ¬ (0 : Int) < (F.length : Int) := by rw [hF]; simp
      clear hF
      go_wp2_with (go_at_call 31; refine CL.out.mono ?_; rintro e w7 ⟨rfl, hW⟩; have hW := hW.symm; subst hW)
      go_ret
      have hp := HP.out.perm
      rw [HF.out, List.append_nil] at hp
      exact ⟨_, S, rfl, ⟨hp, HP.out.sorted.imp (fun {a b} h => (rank_iff (ltK_key _) a b).2 h)⟩, HP.out.nums, HP.out.bel⟩
    · have hF0 : (0 : Int) < (F.length : Int) := by have := List.length_pos_iff.2 hF; omega
      have HF : Hid (F ≠ []) := hF
      clear hF
      go_upto_region 4 with (go_at_call 31; refine CL.out.mono ?_; rintro e w7 ⟨rfl, hW⟩; have hW := hW.symm; subst hW)
      go_wp2_with fail
      refine CP.out.mono ?_
      rintro e w2 (⟨e0, _, _⟩ | ⟨p, ⟨q1, q2, q3⟩, ht, rfl, hW2⟩)
      · exact absurd e0 HF.out
      unfold valT
      obtain ⟨hp1, hp2, hp3, hp4⟩ := HP.out.pop ht
      obtain ⟨v3, hR3, hK3, hM3⟩ := hW2
      have hN2 : Nums w2 w.heap.size u4 (S.map (·.1)) := hK3.own HP.out.nums (fun g e => HR.out.1.notInt HP.out.nums e)
      have hB2 : Below w.heap.size w w2 := HP.out.bel.trans (hK3.below HP.out.bel.size (fun k hk e => by have := HR.out.2 k e; omega))
      obtain ⟨w3, hw3⟩ : ∃ w3, w3 = w2.alloc (.cells #[.int .i64 q2, .int .i64 q3] 27) := ⟨_, rfl⟩
      have b3 : Below w2.heap.size w2 w3 := by rw [hw3]; exact (Below.refl _ w2).alloc (Nat.le_refl _) _
      have H3 : Hid (RefH w3 lo cb v3 way last (F.take p ++ F.drop (p + 1)) ∧ (∀ k, MineH cb v3 k → w.heap.size ≤ k) ∧ Below w.heap.size w w3 ∧ Nums w3 w.heap.size u4 (S.map (·.1))) := by
        refine ⟨hR3.below b3, fun k hk => ?_, hB2.trans (b3.mono hB2.size), hN2.below b3⟩
        rcases hM3 k hk with e | e
        · exact HR.out.2 k e
        · exact Nat.le_trans HP.out.bel.size e
      have HPP : Hid (((S ++ [(q1, q2, q3)]) ++ (F.take p ++ F.drop (p + 1))).Perm E ∧ (S ++ [(q1, q2, q3)]).Pairwise (L (kW way)) ∧ (∀ a ∈ S ++ [(q1, q2, q3)], ∀ b ∈ F.take p ++ F.drop (p + 1), L (kW way) a b) ∧ (F.take p ++ F.drop (p + 1)).length + 1 = F.length) := ⟨hp1, hp2, hp3, hp4⟩
      have HW3 : Hid (w3 = w2.alloc (.cells #[.int .i64 q2, .int .i64 q3] 27)) := hw3
      have hz3 := H3.out.2.2.1.size
      obtain ⟨M, hMM⟩ : ∃ M, M = S.map (·.1) := ⟨_, rfl⟩
      have HM : Hid (M = S.map (·.1)) := hMM
      have HN : Hid (Nums w3 w.heap.size u4 M) := by rw [hMM]; exact H3.out.2.2.2
      have HML : Hid (M.length ≤ 1073741823) := (show M.length ≤ 1073741823 by rw [hMM, List.length_map]; omega)
      clear hw3 b3 hp1 hp2 hp3 hp4 hR3 hK3 hM3 hN2 hB2 hMM CL CP ht
      go_upto_region 5 with fail
      rw [← HW3.out]
      go_wp2_with (at_builtin; go_must (refine wpList_append_own_at _ rfl _ _ 63 rfl w.heap.size 3 i0 (.int .i64 0) 1 8 Try.underlying63 hi hz0 hz1 hz2 rfl (by decide) _ M.length (ints M) rfl (World.ownsRow.alloc HN.out _) ⟨w3.heap.size, 0, none⟩ 1 1 [.int .i64 q1] rfl rfl (by intro j u hj; cases j with | zero => simp at hj; subst hj; simp [Addr.add] | succ j => simp at hj) (by intro u hu; simp at hu; subst hu; rfl) (by have := HML.out; unfold maxLen; omega) (by have := HML.out; omega) (by simp; omega) ?_; intro v8 wb hownb hgrb _ hatb; have HB2 : Hid (Below w.heap.size w wb) := (H3.out.2.2.1.alloc H3.out.2.2.1.size _).grown hgrb (by simp; omega) (fun g e => (World.ownsRow.lt HN.out g e).1); have N8 : Hid (Nums wb w.heap.size v8 (M ++ [q1])) := (show World.ownsRow _ _ _ _ _ _ _ by rw [ints_append, List.length_append]; exact hownb); have KB : Hid (Kept (fun k => u4.ownBlock = some k) w3 wb) := (Kept.ofBelow ((Below.refl _ w3).alloc (Nat.le_refl _) _)).trans (Kept.ofGrown hgrb (fun _ e => e)); clear hownb hgrb hatb))
      go_roundg (F.take p ++ F.drop (p + 1)).length
      case measure => have := HPP.out.2.2.2; omega
      case rel =>
        refine ⟨S ++ [(q1, q2, q3)], F.take p ++ F.drop (p + 1), Nat.le_refl _, ⟨⟨v3, H3.out.1.kept KB.out (fun k hk e => H3.out.1.notInt HN.out e hk), H3.out.2.1⟩, HB2.out, ?_, drop_up HP.out.up, HPP.out.1, HPP.out.2.1, HPP.out.2.2.1⟩⟩
        have hN := N8.out
        rw [HM.out] at hN
        simpa using hN
end Go.Proofs.Ytkjjinccnaphpaa
