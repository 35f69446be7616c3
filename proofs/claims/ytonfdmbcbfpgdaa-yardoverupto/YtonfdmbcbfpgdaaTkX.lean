/-
  YTakeK, YTake, YEqS, YSweep, YDel.
-/
import Derived.Test.YtonfdmbcbfpgdaaYLinks
import Derived.Test.YtonfdmbcbfpgdaaHeX
import Derived.Test.YtonfdmbcbfpgdaaYTold
import Derived.Test.YtonfdmbcbfpgdaaYSums
import Derived.Test.YtonfdmbcbfpgdaaYCount
import Derived.Test.YtonfdmbcbfpgdaaHand
import Derived.Laws.StructEq
namespace Go.Proofs.Ytonfdmbcbfpgdaa
open Go.RowKit
def entV (e : En) (w : World) (b : Nat) : Prop := w.heap[b]? = some (.cells e.cells 71 (0, 0))
theorem ent_szE (e : En) : (Try.prog.info? 71).map (·.size) = some e.cells.size := by
  show _ = some 18
  kernel_rfl
/-- A row is taken out of one of a yard's heaps. -/
theorem remove_any {w : World} {lab : Nat → HK} {yb : Nat} {Y : Yd} (h : YAt w lab yb Y) {N : Nat} (hf : Few Y N) (hN : N ≤ 1000000000) {K : HK} {g : HM} (hg : Y.hp K = some g) {i : Nat} {r : Int × Mk} (hi : g.R[i]? = some r) :
    Calls Try.prog 67 #[ptrV g.hb, .int .i64 r.1] w fun e w' => e = .returned (.tuple #[valM r.2, .bool true]) ∧ ∃ g' lab', g'.hb = g.hb ∧ g'.mb = g.mb ∧ g'.last = g.last ∧ g'.R = (dropL (ltK (rkOf K.1)) g.R i 0).1 ∧ YAt w' lab' yb { Y with hp := updH Y.hp K (some g') } ∧ (∀ k, k < w.heap.size → lab' k = lab k) ∧ Kept (Ours lab) w w' := by
  obtain ⟨k5, hat⟩ := h.heap K g hg
  obtain ⟨f1, f2, f3, f4⟩ := hf.heap K g hg
  refine (removeM (rank_asks (rkOf K.1)) w g.hb g.mb g.v g.last g.R i 0 r hat.at_ hi trivial (fun _ _ => trivial) (fun _ _ h => h) (by omega)).mono ?_
  rintro e w' ⟨rfl, v', h1, _, h3, h4⟩
  have k3 : Kept (Mine g.hb g.v g.mb) w w' := h3.mono (fun k _ hk => hk.resolve_right (fun h => h))
  obtain ⟨lab', a', l', k'⟩ := h.turned (g' := ⟨g.hb, g.mb, v', g.last, (dropL (ltK (rkOf K.1)) g.R i 0).1⟩) hg h1 rfl k3 (fun k hk => .inl (by
    have hk : Mine g.hb v' g.mb k := hk
    unfold Mine at hk ⊢
    rw [h4] at hk
    exact hk))
  exact ⟨rfl, ⟨g.hb, g.mb, v', g.last, (dropL (ltK (rkOf K.1)) g.R i 0).1⟩, lab', rfl, rfl, rfl, rfl, a', l', k'⟩
/-- The heaps of a job, of whose first i its rows are gone. -/
structure Tk (Y : Yd) (e : En) (i : Nat) (hpc : HK → Option HM) : Prop where
  done : ∀ (k : Nat) K, k < i → (ksOf e.j)[k]? = some K → ∃ x x', Y.hp K = some x ∧ hpc K = some x' ∧ x'.hb = x.hb ∧ x'.mb = x.mb ∧ x'.last = x.last ∧ ∃ (q n : Nat) (r : Int × Mk), x.R[q]? = some r ∧ r.1 = tkE e k ∧ x'.R = (dropL (ltK (rkOf K.1)) x.R q n).1
  rest : ∀ K, (∀ k, k < i → (ksOf e.j)[k]? ≠ some K) → hpc K = Y.hp K
theorem Tk.zero (Y : Yd) (e : En) : Tk Y e 0 Y.hp := ⟨fun k K h => by omega, fun K _ => rfl⟩
theorem ks_at_inj {j : Jb} {a b : Nat} {K : HK} (h1 : (ksOf j)[a]? = some K) (h2 : (ksOf j)[b]? = some K) : a = b := by
  have g1 := List.getElem?_eq_some_iff.1 h1
  have g2 := List.getElem?_eq_some_iff.1 h2
  exact (List.getElem_inj (ks_nodup j)).1 (g1.2.trans g2.2.symm)
theorem Tk.one {Y : Yd} {e : En} {i : Nat} {hpc : HK → Option HM} (h : Tk Y e i hpc) {K : HK} {x x' : HM} (hK : (ksOf e.j)[i]? = some K) (hx : Y.hp K = some x) (e1 : x'.hb = x.hb) (e2 : x'.mb = x.mb) (e3 : x'.last = x.last) {q n : Nat} {r : Int × Mk} (hq : x.R[q]? = some r) (hr : r.1 = tkE e i) (hR : x'.R = (dropL (ltK (rkOf K.1)) x.R q n).1) :
    Tk Y e (i + 1) (updH hpc K (some x')) := by
  refine ⟨fun k J hk hJ => ?_, fun J hJ => ?_⟩
  · by_cases e4 : k = i
    · subst e4
      rw [hK] at hJ
      cases hJ
      exact ⟨x, x', hx, updH_at _ _ _, e1, e2, e3, q, n, r, hq, hr, hR⟩
    · obtain ⟨y, y', g1, g2, g3⟩ := h.done k J (by omega) hJ
      exact ⟨y, y', g1, by rw [updH_ne _ _ (fun e5 => e4 (ks_at_inj (by rw [e5] at hJ; exact hJ) hK))]; exact g2, g3⟩
  · rw [updH_ne _ _ (fun e5 => hJ i (by omega) (by rw [e5]; exact hK))]
    exact h.rest J (fun k hk => hJ k (by omega))
theorem Tk.same {Y : Yd} {e : En} {i : Nat} {hpc : HK → Option HM} (h : Tk Y e i hpc) {K : HK} (hK : (ksOf e.j)[i]? = some K) : hpc K = Y.hp K := h.rest K (fun k hk e2 => by have := ks_at_inj e2 hK; omega)
/-- Where a heap's box lies does not change. -/
theorem Tk.hb {Y : Yd} {e : En} {i : Nat} {hpc : HK → Option HM} (h : Tk Y e i hpc) {K : HK} {x' : HM} (hx : hpc K = some x') : ∃ x, Y.hp K = some x ∧ x'.hb = x.hb ∧ x'.last = x.last ∧ x'.R.length ≤ x.R.length ∧ (Once x.R → ∀ r ∈ x'.R, r ∈ x.R) := by
  by_cases hk : ∃ k, k < i ∧ (ksOf e.j)[k]? = some K
  · obtain ⟨k, h1, h2⟩ := hk
    obtain ⟨x, y, g1, g2, g3, _, g5, q, n, r, g6, _, g8⟩ := h.done k K h1 h2
    rw [hx] at g2
    cases g2
    exact ⟨x, g1, g3, g5, by rw [g8, drop_length]; omega, fun ho z hz => by rw [g8] at hz; exact ((mem_drop ho g6).1 hz).1⟩
  · rw [h.rest K (fun k h1 h2 => hk ⟨k, h1, h2⟩)] at hx
    exact ⟨x', hx, rfl, rfl, Nat.le_refl _, fun _ r h => h⟩
theorem Tk.there {Y : Yd} {e : En} {i : Nat} {hpc : HK → Option HM} (h : Tk Y e i hpc) {K : HK} {x : HM} (hx : Y.hp K = some x) : ∃ x', hpc K = some x' ∧ x'.hb = x.hb := by
  by_cases hk : ∃ k, k < i ∧ (ksOf e.j)[k]? = some K
  · obtain ⟨k, h1, h2⟩ := hk
    obtain ⟨y, y', g1, g2, g3, _⟩ := h.done k K h1 h2
    rw [hx] at g1
    cases g1
    exact ⟨y', g2, g3⟩
  · exact ⟨x, by rw [h.rest K (fun k h1 h2 => hk ⟨k, h1, h2⟩)]; exact hx, rfl⟩
theorem Few.tk {Y : Yd} {N : Nat} (h : Few Y N) {e : En} {i : Nat} {hpc : HK → Option HM} (ht : Tk Y e i hpc) (ho : ∀ K x, Y.hp K = some x → Once x.R) : Few { Y with hp := hpc } N := by
  refine ⟨fun K x' hx => ?_, h.nt, h.nh, h.nl, h.sm, h.ts⟩
  obtain ⟨x, g1, _, g3, g4, g5⟩ := ht.hb hx
  obtain ⟨f1, f2, f3, f4⟩ := h.heap K x g1
  exact ⟨by omega, by omega, by omega, fun r hr => by have := f4 r (g5 (ho K x g1) r hr); omega⟩
theorem YAt.once {w : World} {lab : Nat → HK} {yb : Nat} {Y : Yd} (h : YAt w lab yb Y) {K : HK} {x : HM} (hx : Y.hp K = some x) : Once x.R := by
  obtain ⟨_, hat⟩ := h.heap K x hx
  obtain ⟨g, _, hs⟩ := hat.at_.tab
  exact hs.once
/-- In the midst of take. -/
structure Dp (w : World) (lab : Nat → HK) (yb : Nat) (Y : Yd) (e : En) (eb g i : Nat) (hpc : HK → Option HM) (wr : World) (labr : Nat → HK) : Prop where
  yard : YAt wr labr yb { Y with hp := hpc }
  ent : entV e wr eb
  le : labr eb = uT
  cells : ∀ (i : Nat) K x, (ksOf e.j)[i]? = some K → Y.hp K = some x → wr.cell? ⟨g, i, none⟩ = some (ptrV x.hb)
  lg : labr g = uT
  glt : g < wr.heap.size
  tk : Tk Y e i hpc
  kept : Kept (Ours lab) w wr
  labs : ∀ k, k < w.heap.size → labr k = lab k
theorem Dp.step {w : World} {lab : Nat → HK} {yb : Nat} {Y : Yd} {e : En} {eb g i i' : Nat} {hpc hpc' : HK → Option HM} {wr w' : World} {labr lab' : Nat → HK} (h : Dp w lab yb Y e eb g i hpc wr labr) (a : YAt w' lab' yb { Y with hp := hpc' }) (hl : ∀ k, k < wr.heap.size → lab' k = labr k) (hk : Kept (Ours labr) wr w') (ht : Tk Y e i' hpc') : Dp w lab yb Y e eb g i' hpc' w' lab' := by
  have no : ∀ b, labr b = uT → ¬ Ours labr b := fun b e1 e2 => by have e2 : (labr b).1 ≤ 7 := e2; rw [e1] at e2; exact absurd e2 (by decide)
  have elt := (Array.getElem?_eq_some_iff.1 (show wr.heap[eb]? = _ from h.ent)).1
  exact ⟨a, (hk.block eb elt (no eb h.le)).trans h.ent, (hl eb elt).trans h.le, fun q K x hq hx => hk.cell (no g h.lg) (h.cells q K x hq hx), (hl g h.glt).trans h.lg, Nat.lt_of_lt_of_le h.glt hk.size, ht, h.kept.step hk (fun k hk2 e2 => by have e2 : (labr k).1 ≤ 7 := e2; rw [h.labs k hk2] at e2; exact e2), fun k hk2 => (hl k (Nat.lt_of_lt_of_le hk2 h.kept.size)).trans (h.labs k hk2)⟩
/-- Without a job. -/
def outE (L : List En) (i : Int) : List En := L.filter (fun x => x.j.id != i)
theorem mem_outE {L : List En} {i : Int} {x : En} : x ∈ outE L i ↔ x ∈ L ∧ x.j.id ≠ i := by simp [outE]
theorem lookE_out (L : List En) (i t : Int) : lookE (outE L i) t = if t = i then none else lookE L t := by
  unfold lookE outE
  induction L with
  | nil => simp
  | cons x r ih =>
    by_cases h : x.j.id = i
    · rw [List.filter_cons_of_neg (by simp [h]), ih]
      by_cases e : t = i
      · rw [if_pos e, if_pos e]
      · rw [if_neg e, if_neg e, List.find?_cons_of_neg]
        simp [h]
        exact fun e2 => e e2.symm
    · rw [List.filter_cons_of_pos (by simp [h])]
      by_cases e : t = i
      · rw [if_pos e] at ih ⊢
        rw [List.find?_cons_of_neg (by simp; exact fun e2 => h (e2.trans e))]
        exact ih
      · rw [if_neg e] at ih ⊢
        simp only [List.find?_cons, ih]
theorem outE_len {L : List En} {i : Int} {e : En} (hs : L.Pairwise (fun a b => a.j.id < b.j.id)) (h : lookE L i = some e) : (outE L i).length = L.length - 1 := by
  obtain ⟨he, hi⟩ := lookE_mem h
  induction L with
  | nil => cases he
  | cons x r ih =>
    rw [List.pairwise_cons] at hs
    unfold outE
    by_cases hx : x.j.id = i
    · rw [List.filter_cons_of_neg (by simp [hx]), List.filter_eq_self.2 (fun y hy => by have := hs.1 y hy; simp; omega)]
      simp
    · rw [List.filter_cons_of_pos (by simp [hx])]
      have her : e ∈ r := by
        rcases List.mem_cons.1 he with rfl | he
        · exact absurd hi hx
        · exact he
      have hl : lookE r i = some e := by
        unfold lookE at h ⊢
        rwa [List.find?_cons_of_neg (by simp [hx])] at h
      have := ih hs.2 hl her
      unfold outE at this
      have hp : 0 < r.length := List.length_pos_of_mem her
      simp only [List.length_cons, this]
      omega
end Go.Proofs.Ytonfdmbcbfpgdaa

namespace Go.Proofs.Ytonfdmbcbfpgdaa
open Go.RowKit

/-- What take leaves. -/
def Taken (w : World) (lab : Nat → HK) (yb : Nat) (Y : Yd) (e : En) (w' : World) : Prop :=
  ∃ lab' hpc, Tk Y e (ksOf e.j).length hpc ∧ YAt w' lab' yb { Y with hp := hpc, L := outE Y.L e.j.id, sm := Y.sm.add e.j.st e.j.pr (-1), ts := updT Y.ts e.j.nm ((Y.ts e.j.nm).add e.j.st e.j.pr (-1)) } ∧ (∀ k, k < w.heap.size → lab' k = lab k) ∧ Kept (Ours lab) w w'
set_option maxHeartbeats 8000000 in
set_option maxRecDepth 1000000 in
theorem take_any (e : En) (w : World) (lab : Nat → HK) (yb : Nat) (Y : Yd) (N : Nat) (h : YAt w lab yb Y) (hv : Inv Y N) (hlk : Lk Y.L Y.hp) (hN : N ≤ 100000000) (he : lookE Y.L e.j.id = some e) :
    Calls Try.prog 44 #[ptrV yb, .agg e.cells] w fun x w' => x = .returned (.tuple #[]) ∧ Taken w lab yb Y e w' := by
  obtain ⟨heL, _⟩ := lookE_mem he
  have hjo := hv.ok e heL
  obtain ⟨b, hb⟩ : ∃ b, Y.tb e.j.nm = some b := Option.isSome_iff_exists.1 ((hv.tb e.j.nm).2 ⟨e, heL, rfl⟩)
  have hh3 : e.j.st = 3 → (Y.hp (hkH e.j.ho)).isSome = true := fun h3 => hlk.has e heL _ (by unfold ksOf; rw [if_neg (by omega), if_neg (by omega), if_pos h3]; exact List.mem_cons_self ..)
  obtain ⟨eb, heb⟩ : ∃ eb, eb = w.heap.size := ⟨_, rfl⟩
  obtain ⟨w1, hw1⟩ : ∃ w1, w1 = w.alloc (.cells e.cells 71) := ⟨_, rfl⟩
  have b1 : Below w.heap.size w w1 := by rw [hw1]; exact (Below.refl _ w).alloc (Nat.le_refl _) _
  have x1 : entV e w1 eb := by rw [hw1, heb]; exact heap_alloc_new w _
  have a1 : YAt w1 (fun k => if k < w.heap.size then lab k else uT) yb Y := h.below b1 (fun _ hk => if_pos hk)
  have l1 : (if eb < w.heap.size then lab eb else uT) = uT := if_neg (by omega)
  have HO := heapsOf_any e.j e.bv w1 _ yb Y a1 hjo.1 b hb hh3
  obtain ⟨n, hn⟩ : ∃ n, n = (ksOf e.j).length := ⟨_, rfl⟩
  have n2 : n ≤ 2 := by have := ks_len e.j; omega
  rw [← hn] at HO
  have RG : w1.rangeAt eb 0 (e.j.cells e.bv).toList := ent_range x1
  have HW1 : Hid (w1 = w.alloc (.cells e.cells 71) ∧ eb = w.heap.size) := ⟨hw1, heb⟩
  have H1 : Hid (Below w.heap.size w w1 ∧ entV e w1 eb ∧ YAt w1 (fun k => if k < w.heap.size then lab k else uT) yb Y ∧ (if eb < w.heap.size then lab eb else uT) = uT) := ⟨b1, x1, a1, l1⟩
  have HRG : Hid (w1.rangeAt eb 0 (e.j.cells e.bv).toList) := RG
  have HV : Hid (Inv Y N ∧ Lk Y.L Y.hp ∧ lookE Y.L e.j.id = some e ∧ e ∈ Y.L ∧ Y.tb e.j.nm = some b) := ⟨hv, hlk, he, heL, hb⟩
  have HN : Hid (n = (ksOf e.j).length) := hn
  have HY : Hid (YAt w lab yb Y) := h
  have HHO : Hid (Calls Try.prog 63 #[ptrV yb, .agg (e.j.cells e.bv)] w1 fun x w' => ∃ g c, x = .returned (.slice (some ⟨g, 0, none⟩) n c) ∧ (∀ (i : Nat) K x, (ksOf e.j)[i]? = some K → Y.hp K = some x → w'.cell? ⟨g, i, none⟩ = some (ptrV x.hb)) ∧ w1.heap.size ≤ g ∧ g < w'.heap.size ∧ Below w1.heap.size w1 w') := HO
  have HJ : Hid (e.j.ok) := hjo.1
  clear h hv hlk he heL hjo hb hh3 hw1 heb b1 x1 a1 l1 HO RG hn
  go_enter Try.func44, Try.ntmps44
  go_upto_region 1 with fail
  rw [← HW1.out.1, ← HW1.out.2]
  go_wp2_with (first
    | (refine wpList_load_mid rfl 41 (.tmp 7) rfl eb 0 rfl (e.j.cells e.bv).toList _ HRG.out Try.underlying41 rfl (by rw [Array.length_toList]; exact job_size e.j e.bv) ?_; rw [Array.toArray_toList])
    | (go_at_call 63; refine HHO.out.mono ?_; rintro x w5 ⟨g, cg, rfl, hc5, g5, gl5, b5⟩; have H5 : Hid ((∀ (i : Nat) K x, (ksOf e.j)[i]? = some K → Y.hp K = some x → w5.cell? ⟨g, i, none⟩ = some (ptrV x.hb)) ∧ w1.heap.size ≤ g ∧ g < w5.heap.size ∧ Below w1.heap.size w1 w5) := ⟨hc5, g5, gl5, b5⟩; clear hc5 g5 gl5 b5))
  have LP0 : Hid (Dp w lab yb Y e eb g 0 Y.hp w5 (fun k => if k < w1.heap.size then (if k < w.heap.size then lab k else uT) else uT)) := by
    obtain ⟨b1, x1, a1, l1⟩ := H1.out
    obtain ⟨hc5, g5, gl5, b5⟩ := H5.out
    have elt := (Array.getElem?_eq_some_iff.1 (show w1.heap[eb]? = _ from x1)).1
    refine ⟨a1.below b5 (fun _ hk => if_pos hk), (b5.block eb elt).trans x1, ?_, hc5, if_neg (by omega), gl5, Tk.zero Y e, Kept.ofBelow (b1.trans (b5.mono b1.size)), fun k hk => ?_⟩
    · show (if eb < w1.heap.size then (if eb < w.heap.size then lab eb else uT) else uT) = uT
      rw [if_pos elt]
      exact l1
    · show (if k < w1.heap.size then (if k < w.heap.size then lab k else uT) else uT) = lab k
      rw [if_pos (Nat.lt_of_lt_of_le hk b1.size), if_pos hk]
  clear H1 HRG HHO H5 HW1
  go_loopw [11] (fun i wr => ∃ (k : Nat) (hpc : HK → Option HM) (labr : Nat → HK), i = .int .i64 k ∧ k ≤ n ∧ Hid (Dp w lab yb Y e eb g k hpc wr labr)) (fun i _ => n - (intOf i).toNat)
  case atStart => exact ⟨0, _, _, rfl, Nat.zero_le _, LP0⟩
  case round =>
    obtain ⟨k, hpc, labr, rfl, hk, HLP⟩ := hrel
    clear LP0
    by_cases hlt : k < n
    · have hltI : (k : Int) < (n : Int) := by omega
      have hk0 : (0 : Int) ≤ (k : Int) := by omega
      have hk2 : (k : Int) < 2 := by omega
      obtain ⟨K, hK⟩ : ∃ K, (ksOf e.j)[k]? = some K := ⟨_, List.getElem?_eq_getElem (by rw [← HN.out]; exact hlt)⟩
      obtain ⟨x, hx⟩ := Option.isSome_iff_exists.1 (HV.out.2.1.has e HV.out.2.2.2.1 K (List.mem_of_getElem? hK))
      have cg0 := HLP.out.cells k K x hK hx
      have hm : (tkE e k, e.j.mark) ∈ x.R := (HV.out.2.1.row K x hx _).2 ⟨e, HV.out.2.2.2.1, k, hK, rfl⟩
      obtain ⟨q, hq⟩ := List.mem_iff_getElem?.1 hm
      have hcur : hpc K = some x := (HLP.out.tk.same hK).trans hx
      have CR : Hid (Calls Try.prog 67 #[ptrV x.hb, .int .i64 (tkE e k)] wr fun z w' => z = .returned (.tuple #[valM e.j.mark, .bool true]) ∧ ∃ hpc' lab', Dp w lab yb Y e eb g (k + 1) hpc' w' lab') := by
        have ff : Few { Y with hp := hpc } N := HV.out.1.few.tk HLP.out.tk (fun J z hz => HY.out.once hz)
        refine (remove_any HLP.out.yard ff (by omega) (K := K) hcur hq).mono ?_
        rintro z w' ⟨rfl, g', lab', e1, e2, e3, e4, a', l', k'⟩
        exact ⟨rfl, _, lab', HLP.out.step a' l' k' (HLP.out.tk.one hK hx e1 e2 e3 hq rfl e4)⟩
      have ce : wr.heap[eb]? = some (.cells e.cells 71 (0, 0)) := HLP.out.ent
      have c16 : wr.cell? ⟨eb, 16 + k, none⟩ = some (.int .i64 (tkE e k)) := by
        have hkk : k = 0 ∨ k = 1 := by omega
        rcases hkk with rfl | rfl
        · simp [World.cell?, ce, En.cells, Jb.cells, tkE]
        · simp [World.cell?, ce, En.cells, Jb.cells, tkE]
      have HTK : Hid (∃ z, z = tkE e k) := ⟨_, rfl⟩
      generalize tkE e k = tv at c16 CR hm hq
      clear hm hq hcur hx hK ce HTK
      go_wp2_with (first
        | (go_at_call 67; refine CR.out.mono ?_; rintro z w6 ⟨rfl, hpc', lab', d6⟩; have D6 : Hid (Dp w lab yb Y e eb g (k + 1) hpc' w6 lab') := d6; clear d6))
      exact ⟨⟨k + 1, hpc', lab', by go_num, by omega, D6⟩, by simp [intOf]; omega⟩
    · have hltI : ¬ (k : Int) < (n : Int) := by omega
      obtain rfl : k = n := by omega
      obtain ⟨d, r, hd, hr⟩ := HLP.out.yard.two
      obtain ⟨y0, y1, y2, y3, y4⟩ := HLP.out.yard.cells hd hr
      have ylt := HLP.out.yard.yb_lt
      have ce : wr.heap[eb]? = some (.cells e.cells 71 (0, 0)) := HLP.out.ent
      have q0 : wr.cell? ⟨eb, 0, none⟩ = some (.int .i64 e.j.id) := by simp [World.cell?, ce, En.cells, Jb.cells]
      have hid : (Lit.int .i64 e.j.id).wf = true := HJ.out.1
      clear hd hr y1 y2 y3 y4 ce
      go_upto_region 6 with fail
      refine wp_tail 7 mixed (by kernel_rfl) ?_
      simp only [List.take_succ_cons, List.take_zero, List.drop_succ_cons, List.drop_zero]
      repeat still_step
      refine wpStill_nil ?_
      refine wpList_vstrikeI rfl (.tmp 26) (.tmp 29) 54 71 Try.underlying54 rfl Y.jm Y.L.length (fun i => (lookE Y.L i).map En.val) e.j.id rfl rfl (HLP.out.yard.jobs.later (Below.refl _ wr).drew) hid ?_
      intro w6 hm6 hg6
      have dd := HLP.out.step (w' := wr.drew) (HLP.out.yard.below (Below.refl _ wr).drew (fun _ _ => rfl)) (fun _ _ => rfl) (Kept.ofBelow (Below.refl _ wr).drew) HLP.out.tk
      have hlo := HV.out.2.2.1
      obtain ⟨a6, k6⟩ := dd.yard.jobsTurned (outE Y.L e.j.id) (hm6.congr (by rw [outE_len HV.out.1.rise hlo, hlo]; rfl) (fun t => by
        rw [lookE_out]
        unfold delVI
        split <;> rfl)) hg6 (fun z hz => .inl (mem_outE.1 hz).1)
      have ce6 : w6.rangeAt eb 0 (e.j.cells e.bv).toList := by
        have elt := (Array.getElem?_eq_some_iff.1 (show wr.drew.heap[eb]? = _ from dd.ent)).1
        exact ent_range ((k6.block eb elt (fun e2 => by have e2 : (labr eb).1 ≤ 7 := e2; rw [dd.le] at e2; exact absurd e2 (by decide))).trans dd.ent)
      have CC : Hid (Calls Try.prog 65 #[ptrV yb, .agg (e.j.cells e.bv), .int .i64 (-1)] w6 fun x w' => x = .returned (.tuple #[]) ∧ Taken w lab yb Y e w') := by
        have hts : (Y.ts e.j.nm).small := HV.out.1.few.ts _
        refine (count_any e.j e.bv (-1) w6 labr yb _ a6 HJ.out b HV.out.2.2.2.2 HV.out.1.few.sm hts (by omega)).mono ?_
        rintro x w' ⟨rfl, a7, k7⟩
        exact ⟨rfl, labr, hpc, by rw [← HN.out]; exact dd.tk, a7, dd.labs, (dd.kept.step k6 (fun k hk2 e2 => by have e2 : (labr k).1 ≤ 7 := e2; rw [dd.labs k hk2] at e2; exact e2)).step k7 (fun k hk2 e2 => by have e2 : (labr k).1 ≤ 7 := e2; rw [dd.labs k hk2] at e2; exact e2)⟩
      have HC6 : Hid (w6.rangeAt eb 0 (e.j.cells e.bv).toList) := ce6
      clear hm6 hg6 dd a6 k6 ce6 y0 q0
      go_wp2_with (first
        | (refine wpList_load_mid rfl 41 (.tmp 31) rfl eb 0 rfl (e.j.cells e.bv).toList _ HC6.out Try.underlying41 rfl (by rw [Array.length_toList]; exact job_size e.j e.bv) ?_; rw [Array.toArray_toList])
        | (go_at_call 65; refine CC.out.mono ?_; rintro x w7 ⟨rfl, t7⟩; have T7 : Hid (Taken w lab yb Y e w7) := t7; clear t7))
      go_end0
      exact ⟨rfl, T7.out⟩
end Go.Proofs.Ytonfdmbcbfpgdaa

namespace Go.Proofs.Ytonfdmbcbfpgdaa
open Go.RowKit
def Sm.arr (s : Sm) : Array Value := #[.int .i64 s.r, .int .i64 s.d, .int .i64 s.v, .int .i64 s.b, .int .i64 s.u]
def Sm.nth (s : Sm) (k : Nat) : Int := match k with | 0 => s.r | 1 => s.d | 2 => s.v | 3 => s.b | _ => s.u
theorem apart0 (s : Sm) (w : World) : (part 3 s.arr 0).run Try.prog w = .ok (.int .i64 s.r) w := by kernel_rfl
theorem apart1 (s : Sm) (w : World) : (part 3 s.arr 1).run Try.prog w = .ok (.int .i64 s.d) w := by kernel_rfl
theorem apart2 (s : Sm) (w : World) : (part 3 s.arr 2).run Try.prog w = .ok (.int .i64 s.v) w := by kernel_rfl
theorem apart3 (s : Sm) (w : World) : (part 3 s.arr 3).run Try.prog w = .ok (.int .i64 s.b) w := by kernel_rfl
theorem apart4 (s : Sm) (w : World) : (part 3 s.arr 4).run Try.prog w = .ok (.int .i64 s.u) w := by kernel_rfl
theorem apart_int (s : Sm) (f : Nat) (hf : f < 5) (w : World) : (part 3 s.arr f).run Try.prog w = .ok (.int .i64 (s.nth f)) w := by
  have h : f = 0 ∨ f = 1 ∨ f = 2 ∨ f = 3 ∨ f = 4 := by omega
  rcases h with rfl | rfl | rfl | rfl | rfl
  · exact apart0 s w
  · exact apart1 s w
  · exact apart2 s w
  · exact apart3 s w
  · exact apart4 s w
theorem sm_fields : ((Try.prog.fieldsOf 27).toList.all fun f => f.name != "_" && (f.type == 3) && decide (f.offset < 5)) = true := by kernel_rfl
theorem sm_offs : (Try.prog.fieldsOf 27).toList.map (fun f => f.offset) = [0, 1, 2, 3, 4] := by kernel_rfl
theorem sm_under : Try.prog.underlying 27 = some (.struct (Try.prog.fieldsOf 27)) := by kernel_rfl
theorem sm_held : Try.prog.stoodInHeld 27 = false := by kernel_rfl
theorem eq_smf (s t : Sm) (w : World) : ∀ fs : List Field, (fs.all fun f => f.name != "_" && (f.type == 3) && decide (f.offset < 5)) = true → (Op.eqFields 9999 s.arr t.arr fs).run Try.prog w = .ok ((fs.map (fun f => f.offset)).all fun k => s.nth k == t.nth k) w
  | [], _ => by simp [Op.eqFields]
  | f :: fs, h => by
    rw [List.all_cons, Bool.and_eq_true] at h
    have ih := eq_smf s t w fs h.2
    obtain ⟨⟨h1, h2⟩, h3⟩ : (f.name ≠ "_" ∧ f.type = 3) ∧ f.offset < 5 := by simpa using h.1
    have e : (Op.equalIn 9999 3 (.int .i64 (s.nth f.offset)) (.int .i64 (t.nth f.offset))).run Try.prog w = .ok (s.nth f.offset == t.nth f.offset) w := run_equalIn_int (P := Try.prog) w 9998 3 .i64 .i64 _ _ Try.underlying3
    simp only [Op.eqFields, h1, h2, ne_eq, not_false_eq_true, if_true, Sem.run_bind, apart_int s f.offset h3 w, apart_int t f.offset h3 w, Result.andThen_ok, e, List.map_cons, List.all_cons]
    cases hb : (s.nth f.offset == t.nth f.offset) with
    | false => simp
    | true => simpa using ih
def smB (s t : Sm) : Bool := s.r == t.r && s.d == t.d && s.v == t.v && s.b == t.b && s.u == t.u
theorem smB_iff {s t : Sm} : smB s t = true ↔ s = t := by
  obtain ⟨r, d, v, b, u⟩ := s
  obtain ⟨r', d', v', b', u'⟩ := t
  simp [smB, and_assoc]
theorem sm_eq (s t : Sm) : ([0, 1, 2, 3, 4].all fun k => s.nth k == t.nth k) = smB s t := by
  simp [Sm.nth, smB, Bool.and_assoc]
theorem eql_sm (s t : Sm) (w : World) : (binOp .eql 27 (.agg s.arr) (.agg t.arr)).run Try.prog w = .ok (.bool (smB s t)) w := by
  have h : (Op.equalIn 10000 27 (.agg s.arr) (.agg t.arr)).run Try.prog w = .ok (smB s t) w := by
    rw [run_equalIn_struct w 9999 27 _ _ sm_under sm_held, eq_smf s t w _ sm_fields, sm_offs, sm_eq]
  simp only [binOp]
  simp [show Op.equal 27 (.agg s.arr) (.agg t.arr) = Op.equalIn 10000 27 (.agg s.arr) (.agg t.arr) from rfl, h]
theorem run_eqlSm {o : Oper} {a : Act} {w : World} {x y : Operand} {u : TypeId} (s t : Sm) (ho : o.op = .binOp .eql 27 x y u) (hx : a.eval x = .agg s.arr) (hy : a.eval y = .agg t.arr) : (execOp a.eval o).run Try.prog w = .ok (.value (.bool (smB s t))) w := by
  unfold execOp
  simp only [ho, hx, hy, Sem.run_bind, Sem.run_pure, run_eqGuard_agg (P := Try.prog) (w := w) .eql 27 x y s.arr t.arr (by kernel_rfl), Result.andThen_ok, eql_sm s t w]
end Go.Proofs.Ytonfdmbcbfpgdaa

namespace Go.Proofs.Ytonfdmbcbfpgdaa
open Go.RowKit

/-- A tube goes. -/
def Yd.dropT (Y : Yd) (t : ByteArray) : Yd := { Y with nt := Y.nt - 1, tb := updT Y.tb t none, hp := fun K => if K = hkT 0 t ∨ K = hkT 1 t ∨ K = hkT 2 t then none else Y.hp K }
/-- A holder's heap goes. -/
def Yd.dropH (Y : Yd) (n : Int) : Yd := { Y with nh := Y.nh - 1, hp := updH Y.hp (hkH n) none }
theorem YAt.dropT {w w2 : World} {lab : Nat → HK} {yb : Nat} {Y : Yd} (h : YAt w lab yb Y) {t : ByteArray} {b : Nat} (hb : Y.tb t = some b) (hm : VTabS w2 Y.tm (if ((Y.tb t).map ptrV).isSome then Y.nt - 1 else Y.nt) (delVS (fun t => (Y.tb t).map ptrV) t)) (hg : w.grownBy w2 (some Y.tm)) :
    YAt w2 lab yb (Y.dropT t) ∧ Kept (Ours lab) w w2 := by
  have l0 := h.labs
  have k2 : Kept (fun k => lab k = (7, eB, 2)) w w2 := Kept.ofGrown hg (fun g e => by rw [← Option.some.inj e]; exact l0.2.2.1)
  have q : Rest w w2 lab lab (7, eB, 2) := ⟨k2, fun _ _ => rfl⟩
  have hk7 : ∀ (n : Int), n ≠ 2 → ((7, eB, n) : HK) ≠ (7, eB, 2) := fun n hn e => hn (by simpa using e)
  have keep : ∀ K, (K.1 = 3 ∨ K.1 = 4 ∨ K.1 = 5) → (Y.dropT t).hp K = Y.hp K := fun K hK => if_neg (by
    rintro (e | e | e) <;> (have := hk_fst e; simp at this; omega))
  obtain ⟨d, r, hd, hr, hb'⟩ := h.box
  refine ⟨⟨⟨d, r, (keep hkD (.inr (.inl rfl))).trans hd, (keep hkR (.inr (.inr rfl))).trans hr, q.block (hk7 0 (by decide)) l0.1 hb'⟩, h.jobs.kept k2 (q.not (hk7 1 (by decide)) l0.2.1), hm.congr ?_ (fun s => ?_), (h.hels.kept k2 (q.not (hk7 3 (by decide)) l0.2.2.2)).congr rfl (fun n => by rw [keep (hkH n) (.inl rfl)]), ?_, fun s c hs => ?_, fun e he => q.body (by decide) (h.body e he), q.own (Y := Y) h⟩, k2.mono (fun k _ e => by show (lab k).1 ≤ 7; rw [e]; decide)⟩
  · rw [hb]
    rfl
  · show (updT Y.tb t none s).map ptrV = delVS (fun t => (Y.tb t).map ptrV) t s
    unfold updT delVS
    split <;> rfl
  · intro J x hx
    have hx : (if J = hkT 0 t ∨ J = hkT 1 t ∨ J = hkT 2 t then none else Y.hp J) = some x := hx
    split at hx
    · cases hx
    · obtain ⟨j5, ha⟩ := h.heap J x hx
      exact ⟨j5, q.heap (hk_ne (by show J.1 ≠ 7; omega)) ha⟩
  · have hs : updT Y.tb t none s = some c := hs
    unfold updT at hs
    split at hs
    · cases hs
    · rename_i hne
      obtain ⟨lb, h0, h1, h2, e0, e1, e2, hbk⟩ := q.tubes (Y := Y) h (by decide) s c hs
      have kk : ∀ i, (Y.dropT t).hp (hkT i s) = Y.hp (hkT i s) := fun i => if_neg (by
        rintro (e | e | e) <;> exact hne (by have e2 := hkT_inj e; exact e2.2))
      exact ⟨lb, h0, h1, h2, (kk 0).trans e0, (kk 1).trans e1, (kk 2).trans e2, hbk⟩
theorem YAt.dropH {w w2 : World} {lab : Nat → HK} {yb : Nat} {Y : Yd} (h : YAt w lab yb Y) {n : Int} {x : HM} (hx : Y.hp (hkH n) = some x) (hm : VTabI w2 Y.hm (if ((Y.hp (hkH n)).map (fun h => ptrV h.hb)).isSome then Y.nh - 1 else Y.nh) (delVI (fun n => (Y.hp (hkH n)).map (fun h => ptrV h.hb)) n)) (hg : w.grownBy w2 (some Y.hm)) :
    YAt w2 lab yb (Y.dropH n) ∧ Kept (Ours lab) w w2 := by
  have l0 := h.labs
  have k2 : Kept (fun k => lab k = (7, eB, 3)) w w2 := Kept.ofGrown hg (fun g e => by rw [← Option.some.inj e]; exact l0.2.2.2)
  have q : Rest w w2 lab lab (7, eB, 3) := ⟨k2, fun _ _ => rfl⟩
  have hk7 : ∀ (n : Int), n ≠ 3 → ((7, eB, n) : HK) ≠ (7, eB, 3) := fun n hn e => hn (by simpa using e)
  have keep : ∀ K, K.1 ≠ 3 → (Y.dropH n).hp K = Y.hp K := fun K hK => updH_ne _ _ (hk_ne hK)
  obtain ⟨d, r, hd, hr, hb'⟩ := h.box
  refine ⟨⟨⟨d, r, (keep hkD (by decide)).trans hd, (keep hkR (by decide)).trans hr, q.block (hk7 0 (by decide)) l0.1 hb'⟩, h.jobs.kept k2 (q.not (hk7 1 (by decide)) l0.2.1), h.tubs.kept k2 (q.not (hk7 2 (by decide)) l0.2.2.1), hm.congr ?_ (fun s => ?_), ?_, fun s c hs => ?_, fun e he => q.body (by decide) (h.body e he), q.own (Y := Y) h⟩, k2.mono (fun k _ e => by show (lab k).1 ≤ 7; rw [e]; decide)⟩
  · rw [hx]
    rfl
  · show (updH Y.hp (hkH n) none (hkH s)).map (fun h => ptrV h.hb) = delVI (fun n => (Y.hp (hkH n)).map (fun h => ptrV h.hb)) n s
    unfold delVI
    by_cases e : s = n
    · subst e
      rw [updH_at, if_pos rfl]
      rfl
    · rw [updH_ne _ _ (fun e2 => e (by simpa using e2)), if_neg e]
  · intro J x hx
    have hx : updH Y.hp (hkH n) none J = some x := hx
    by_cases e : J = hkH n
    · subst e
      rw [updH_at] at hx
      cases hx
    · rw [updH_ne _ _ e] at hx
      obtain ⟨j5, ha⟩ := h.heap J x hx
      exact ⟨j5, q.heap (hk_ne (by show J.1 ≠ 7; omega)) ha⟩
  · obtain ⟨lb, h0, h1, h2, e0, e1, e2, hbk⟩ := q.tubes (Y := Y) h (by decide) s c hs
    exact ⟨lb, h0, h1, h2, (keep _ (by show (0 : Nat) ≠ 3; decide)).trans e0, (keep _ (by show (1 : Nat) ≠ 3; decide)).trans e1, (keep _ (by show (2 : Nat) ≠ 3; decide)).trans e2, hbk⟩
def Yd.sweptT (Y : Yd) (j : Jb) : Yd := if smB (Y.ts j.nm) sm0 = true then Y.dropT j.nm else Y
def Yd.sweptH (Y : Yd) (j : Jb) : Yd := match Y.hp (hkH j.ho) with | some x => if x.R.length = 0 then Y.dropH j.ho else Y | none => Y
/-- What sweep goes by. -/
structure Sw (w : World) (lab : Nat → HK) (yb : Nat) (e : En) (eb : Nat) (Yx : Yd) (wx : World) (labx : Nat → HK) : Prop where
  yard : YAt wx labx yb Yx
  ent : wx.heap[eb]? = some (.cells e.cells 71 (0, 0))
  le : labx eb = uT
  kept : Kept (Ours lab) w wx
  labs : ∀ k, k < w.heap.size → labx k = lab k
theorem Sw.step {w : World} {lab : Nat → HK} {yb : Nat} {e : En} {eb : Nat} {Yx Y' : Yd} {wx w' : World} {labx : Nat → HK} (h : Sw w lab yb e eb Yx wx labx) (a : YAt w' labx yb Y') (hk : Kept (Ours labx) wx w') : Sw w lab yb e eb Y' w' labx :=
  ⟨a, (hk.block eb (Array.getElem?_eq_some_iff.1 h.ent).1 (fun e2 => by have e2 : (labx eb).1 ≤ 7 := e2; rw [h.le] at e2; exact absurd e2 (by decide))).trans h.ent, h.le, h.kept.step hk (fun k hk2 e2 => by have e2 : (labx k).1 ≤ 7 := e2; rw [h.labs k hk2] at e2; exact e2), h.labs⟩
theorem Sw.later {w : World} {lab : Nat → HK} {yb : Nat} {e : En} {eb : Nat} {Yx : Yd} {wx w' : World} {labx : Nat → HK} (h : Sw w lab yb e eb Yx wx labx) (hb : Below wx.heap.size wx w') : Sw w lab yb e eb Yx w' labx := h.step (h.yard.below hb (fun _ _ => rfl)) (Kept.ofBelow hb)
theorem Sw.at {w : World} {lab : Nat → HK} {yb : Nat} {e : En} {eb : Nat} {Yx : Yd} {wx : World} {labx : Nat → HK} (h : Sw w lab yb e eb Yx wx labx) : wx.cell? ⟨eb, 8, none⟩ = some (.int .i64 e.j.ho) ∧ wx.cell? ⟨eb, 14, none⟩ = some (.string e.j.nm) ∧ eb < wx.heap.size := by
  refine ⟨?_, ?_, (Array.getElem?_eq_some_iff.1 h.ent).1⟩ <;> simp [World.cell?, h.ent, En.cells, Jb.cells]
theorem run_loadS {o : Oper} {a : Act} {w : World} {x : Operand} {b k : Nat} {s : Sm} (ho : o.op = .load 27 x) (hx : a.eval x = .pointer (some ⟨b, k, none⟩)) (hc : w.rangeAt b k s.cells) : (execOp a.eval o).run Try.prog w = .ok (.value (.agg s.arr)) w := by
  unfold execOp
  simp only [ho, hx, Instr.loadAt, Instr.sureAddr, Sem.run_bind, Sem.run_pure, Result.andThen_ok, run_loadVar_mid w b k 27 s.cells _ hc Try.underlying27 rfl (by show _ = some 5; kernel_rfl)]
  rfl
set_option maxHeartbeats 8000000 in
set_option maxRecDepth 1000000 in
theorem sweep_any (e : En) (w : World) (lab : Nat → HK) (yb : Nat) (Y : Yd) (h : YAt w lab yb Y) (hj : e.j.ok) (b : Nat) (hb : Y.tb e.j.nm = some b) :
    Calls Try.prog 45 #[ptrV yb, .agg e.cells] w fun x w' => x = .returned (.tuple #[]) ∧ ∃ lab', YAt w' lab' yb ((Y.sweptT e.j).sweptH e.j) ∧ (∀ k, k < w.heap.size → lab' k = lab k) ∧ Kept (Ours lab) w w' := by
  obtain ⟨eb, heb⟩ : ∃ eb, eb = w.heap.size := ⟨_, rfl⟩
  obtain ⟨w1, hw1⟩ : ∃ w1, w1 = w.alloc (.cells e.cells 71) := ⟨_, rfl⟩
  have b1 : Below w.heap.size w w1 := by rw [hw1]; exact (Below.refl _ w).alloc (Nat.le_refl _) _
  have S1 : Sw w lab yb e eb Y w1 (fun k => if k < w.heap.size then lab k else uT) := ⟨h.below b1 (fun _ hk => if_pos hk), by rw [hw1, heb]; exact heap_alloc_new w _, if_neg (by omega), Kept.ofBelow b1, fun _ hk => if_pos hk⟩
  obtain ⟨d, r, hd, hr⟩ := S1.yard.two
  obtain ⟨y0, y1, y2, y3, y4⟩ := S1.yard.cells hd hr
  obtain ⟨q8, q14, elt⟩ := S1.at
  have ylt := S1.yard.yb_lt
  obtain ⟨_, h0, h1, h2, e0, e1, e2, hbk⟩ := S1.yard.tube _ _ hb
  have blt := (Array.getElem?_eq_some_iff.1 hbk).1
  have RS : w1.drew.rangeAt b 3 (Y.ts e.j.nm).cells := fun k u hu => sums_cells (pre := [ptrV h0.hb, ptrV h1.hb, ptrV h2.hb]) (w := w1.drew) hbk k u hu
  have hlk : (Instr.lookup 55 (.map (some Y.tm)) (.string e.j.nm) false).run Try.prog w1.drew = .ok (ptrV b) w1.drew := by
    have := (S1.yard.tubs.later (Below.refl _ w1).drew).look_run (w := w1.drew) Try.underlying55 (zero_ptr _) e.j.nm hj.2.2.2.2.2.2.2.2.2.2.2.2.2.2
    rw [hb] at this
    exact this
  have HW1 : Hid (w1 = w.alloc (.cells e.cells 71) ∧ eb = w.heap.size) := ⟨hw1, heb⟩
  have HS1 : Hid (Sw w lab yb e eb Y w1 (fun k => if k < w.heap.size then lab k else uT)) := S1
  have HJ : Hid e.j.ok := hj
  have HB : Hid (Y.tb e.j.nm = some b) := hb
  have HRS : Hid (w1.drew.rangeAt b 3 (Y.ts e.j.nm).cells) := RS
  obtain ⟨bz, hbz⟩ : ∃ bz, bz = smB (Y.ts e.j.nm) sm0 := ⟨_, rfl⟩
  have HBZ : Hid (bz = smB (Y.ts e.j.nm) sm0) := hbz
  have hz : (Instr.build 27 #[]).run Try.prog w1.drew = .ok (.agg sm0.arr) w1.drew := by kernel_rfl
  clear h S1 hw1 heb b1 hj hb RS hbz hd hr hbk e0 e1 e2
  go_enter Try.func45, Try.ntmps45
  go_upto_region 1 with fail
  rw [← HW1.out.1, ← HW1.out.2]
  refine wp_still mixed (by kernel_rfl) ?_
  repeat (first | (refine still_value rfl (run_eqlSm (Y.ts e.j.nm) sm0 rfl rfl rfl) ?_; rw [← HBZ.out]; simp only [Act.put, List.setIfInBounds_toArray, List.set_cons_zero, List.set_cons_succ]) | (refine still_value rfl (run_loadS (s := Y.ts e.j.nm) rfl rfl HRS.out) ?_; simp only [Act.put, List.setIfInBounds_toArray, List.set_cons_zero, List.set_cons_succ]) | still_step)
  refine wpStill_nil ?_
  clear hlk hz
  have SD : Hid (Sw w lab yb e eb Y w1.drew (fun k => if k < w.heap.size then lab k else uT)) := HS1.out.later (Below.refl _ w1).drew
  go_upto_if 18 with fail
  go_cut [] from 18 to 25 (fun wx => ∃ labx, Hid (Sw w lab yb e eb (Y.sweptT e.j) wx labx))
  case first =>
    cases bz
    · go_wp2_with fail
      go_meet
      exact ⟨_, by have := SD.out; unfold Yd.sweptT; rw [← HBZ.out]; exact this⟩
    · go_upto_region 2 with fail
      refine wp_tail 7 mixed (by kernel_rfl) ?_
      simp only [List.take_succ_cons, List.take_zero, List.drop_succ_cons, List.drop_zero]
      repeat still_step
      refine wpStill_nil ?_
      refine wpList_vstrikeS rfl (.tmp 22) (.tmp 25) 55 52 Try.underlying55 rfl Y.tm Y.nt (fun t => (Y.tb t).map ptrV) e.j.nm rfl rfl (SD.out.yard.tubs.later (Below.refl _ w1.drew).drew) HJ.out.2.2.2.2.2.2.2.2.2.2.2.2.2.2 ?_
      intro w6 hm6 hg6
      have S2 := SD.out.later (Below.refl _ w1.drew).drew
      obtain ⟨a6, k6⟩ := S2.yard.dropT HB.out hm6 hg6
      have H6 : Hid (Sw w lab yb e eb (Y.sweptT e.j) w6 (fun k => if k < w.heap.size then lab k else uT)) := by
        have := S2.step a6 k6
        unfold Yd.sweptT
        rw [← HBZ.out]
        exact this
      clear hm6 hg6 S2 a6 k6
      go_wp2_with fail
      go_meet
      exact ⟨_, H6⟩
  case rest =>
    obtain ⟨labx, HX⟩ := hcut
    clear SD HS1 y0 y1 y2 y3 y4 q8 q14 HRS
    obtain ⟨Y2, hY2⟩ : ∃ Y2, Y2 = Y.sweptT e.j := ⟨_, rfl⟩
    rw [← hY2] at HX
    have HY2 : Hid (Y2 = Y.sweptT e.j) := hY2
    clear hY2
    obtain ⟨d, r, hd, hr⟩ := HX.out.yard.two
    obtain ⟨y0, y1, y2, y3, y4⟩ := HX.out.yard.cells hd hr
    obtain ⟨q8, q14, elt⟩ := HX.out.at
    have ylt := HX.out.yard.yb_lt
    clear hd hr y0 y1 y3 y4 q14
    cases hx : Y2.hp (hkH e.j.ho) with
    | none =>
      have hlk : (Instr.lookup 56 (.map (some Y2.hm)) (.int .i64 e.j.ho) true).run Try.prog wc.drew = .ok (.tuple #[.pointer none, .bool false]) wc.drew := by
        have := (HX.out.yard.hels.later (Below.refl _ wc).drew).look2_run (w := wc.drew) Try.underlying56 (zero_hptr _) e.j.ho HJ.out.2.2.2.2.2.2.2.2.1
        rw [hx] at this
        exact this
      have HN : Hid (Y2.hp (hkH e.j.ho) = none) := hx
      clear hx
      go_upto_region 3 with fail
      refine wp_still mixed (by kernel_rfl) ?_
      repeat still_step
      refine wpStill_nil ?_
      go_wp2_with fail
      go_end0
      refine ⟨rfl, labx, ?_, HX.out.labs, HX.out.kept.trans (Kept.ofBelow (Below.refl _ wc).drew)⟩
      rw [← HY2.out]
      unfold Yd.sweptH
      rw [HN.out]
      exact HX.out.yard.below (Below.refl _ wc).drew (fun _ _ => rfl)
    | some x =>
      have hlk : (Instr.lookup 56 (.map (some Y2.hm)) (.int .i64 e.j.ho) true).run Try.prog wc.drew = .ok (.tuple #[ptrV x.hb, .bool true]) wc.drew := by
        have := (HX.out.yard.hels.later (Below.refl _ wc).drew).look2_run (w := wc.drew) Try.underlying56 (zero_hptr _) e.j.ho HJ.out.2.2.2.2.2.2.2.2.1
        rw [hx] at this
        exact this
      have SX : Hid (Sw w lab yb e eb Y2 wc.drew labx) := HX.out.later (Below.refl _ wc).drew
      have HN : Hid (Y2.hp (hkH e.j.ho) = some x) := hx
      have CL : Hid (Calls Try.prog 28 #[ptrV x.hb] wc.drew fun z w' => z = .returned (.int .i64 (x.R.length : Int)) ∧ w' = wc.drew) := lenM wc.drew x.hb x.mb x.v _ _ x.last x.R (SX.out.yard.heap _ _ hx).2.at_
      clear hx
      go_upto_region 3 with fail
      refine wp_still mixed (by kernel_rfl) ?_
      repeat still_step
      refine wpStill_nil ?_
      clear hlk
      by_cases hz : x.R.length = 0
      · have hzb : ((x.R.length : Int) == 0) = true := by simp; simpa using hz
        go_upto_region 5 with (go_at_call 28; refine CL.out.mono ?_; rintro z w4 ⟨rfl, hw4⟩; rw [hw4]; clear hw4)
        refine wp_tail 7 mixed (by kernel_rfl) ?_
        simp only [List.take_succ_cons, List.take_zero, List.drop_succ_cons, List.drop_zero]
        repeat still_step
        refine wpStill_nil ?_
        refine wpList_vstrikeI rfl (.tmp 46) (.tmp 49) 56 57 Try.underlying56 rfl Y2.hm Y2.nh (fun n => (Y2.hp (hkH n)).map (fun h => ptrV h.hb)) e.j.ho rfl rfl (SX.out.yard.hels.later (Below.refl _ wc.drew).drew) HJ.out.2.2.2.2.2.2.2.2.1 ?_
        intro w6 hm6 hg6
        have S2 := SX.out.later (Below.refl _ wc.drew).drew
        obtain ⟨a6, k6⟩ := S2.yard.dropH HN.out hm6 hg6
        have H6 : Hid (Sw w lab yb e eb (Y2.dropH e.j.ho) w6 labx ∧ x.R.length = 0) := ⟨S2.step a6 k6, hz⟩
        clear hm6 hg6 S2 a6 k6 hz hzb
        go_wp2_with fail
        go_end0
        refine ⟨rfl, labx, ?_, H6.out.1.labs, H6.out.1.kept⟩
        rw [← HY2.out]
        unfold Yd.sweptH
        rw [HN.out]
        simp only []
        rw [if_pos H6.out.2]
        exact H6.out.1.yard
      · have hzb : ((x.R.length : Int) == 0) = false := by simp; simpa using hz
        have HZ : Hid (¬ x.R.length = 0) := hz
        clear hz
        go_wp2_with (go_at_call 28; refine CL.out.mono ?_; rintro z w4 ⟨rfl, hw4⟩; rw [hw4]; clear hw4)
        go_end0
        refine ⟨rfl, labx, ?_, SX.out.labs, SX.out.kept⟩
        rw [← HY2.out]
        unfold Yd.sweptH
        rw [HN.out]
        simp only []
        rw [if_neg HZ.out]
        exact SX.out.yard
end Go.Proofs.Ytonfdmbcbfpgdaa

namespace Go.Proofs.Ytonfdmbcbfpgdaa
open Go.RowKit

/-- What holds of a yard. -/
structure Iv (Y : Yd) (N : Nat) : Prop where
  inv : Inv Y N
  lk : Lk Y.L Y.hp
  no : ∀ k t, k ≤ 2 → Y.tb t = none → Y.hp (hkT k t) = none
theorem Sm.back (s : Sm) (a b : Int) : (s.add a b 1).add a b (-1) = s := by
  obtain ⟨r, d, v, b', u⟩ := s
  simp only [Sm.add]
  repeat' split
  all_goals (simp_all <;> omega)
theorem smL_out {L : List En} {e : En} (hs : L.Pairwise (fun a b => a.j.id < b.j.id)) (he : e ∈ L) : smL L = (smL (outE L e.j.id)).add e.j.st e.j.pr 1 := by
  induction L with
  | nil => cases he
  | cons x r ih =>
    rw [List.pairwise_cons] at hs
    unfold outE
    rcases List.mem_cons.1 he with rfl | he
    · rw [List.filter_cons_of_neg (by simp), List.filter_eq_self.2 (fun y hy => by have := hs.1 y hy; simp; omega)]
      rfl
    · have hne : x.j.id ≠ e.j.id := by have := hs.1 e he; omega
      rw [List.filter_cons_of_pos (by simp [hne])]
      show (smL r).add x.j.st x.j.pr 1 = ((smL (r.filter _)).add x.j.st x.j.pr 1).add e.j.st e.j.pr 1
      have := ih hs.2 he
      unfold outE at this
      rw [this, Sm.add_comm]
theorem filter_out (L : List En) (i : Int) (t : ByteArray) : (outE L i).filter (fun e => decide (e.j.nm = t)) = outE (L.filter (fun e => decide (e.j.nm = t))) i := by
  unfold outE
  rw [List.filter_filter, List.filter_filter]
  congr 1
  funext x
  exact Bool.and_comm _ _
theorem smT_out {L : List En} {e : En} (hs : L.Pairwise (fun a b => a.j.id < b.j.id)) (he : e ∈ L) (t : ByteArray) : smT (outE L e.j.id) t = if e.j.nm = t then (smT L t).add e.j.st e.j.pr (-1) else smT L t := by
  unfold smT
  rw [filter_out]
  split
  · rename_i h
    have := smL_out (List.Pairwise.sublist (List.filter_sublist (p := fun e : En => decide (e.j.nm = t))) hs) (List.mem_filter.2 ⟨he, by simpa using h⟩)
    rw [this, Sm.back]
  · rename_i h
    congr 1
    unfold outE
    refine List.filter_eq_self.2 (fun y hy => ?_)
    obtain ⟨hy1, hy2⟩ := List.mem_filter.1 hy
    have hy2 : y.j.nm = t := by simpa using hy2
    have hne : y ≠ e := fun e2 => h (by rw [← e2]; exact hy2)
    obtain ⟨a, ha⟩ := List.mem_iff_getElem?.1 hy1
    obtain ⟨b, hb⟩ := List.mem_iff_getElem?.1 he
    have ha' := List.getElem?_eq_some_iff.1 ha
    have hb' := List.getElem?_eq_some_iff.1 hb
    have hpw := List.pairwise_iff_getElem.1 hs
    have hid : y.j.id ≠ e.j.id := fun e2 => by
      rcases Nat.lt_trichotomy a b with h1 | h1 | h1
      · have := hpw a b ha'.1 hb'.1 h1
        rw [ha'.2, hb'.2] at this
        omega
      · subst h1
        exact hne (ha'.2.symm.trans hb'.2)
      · have := hpw b a hb'.1 ha'.1 h1
        rw [ha'.2, hb'.2] at this
        omega
    simpa using hid
theorem id_uniq {L : List En} (hs : L.Pairwise (fun a b => a.j.id < b.j.id)) : ∀ x ∈ L, ∀ y ∈ L, x.j.id = y.j.id → x = y := by
  intro x hx y hy e
  obtain ⟨a, ha⟩ := List.mem_iff_getElem?.1 hx
  obtain ⟨b, hb⟩ := List.mem_iff_getElem?.1 hy
  have ha' := List.getElem?_eq_some_iff.1 ha
  have hb' := List.getElem?_eq_some_iff.1 hb
  have hpw := List.pairwise_iff_getElem.1 hs
  rcases Nat.lt_trichotomy a b with h1 | h1 | h1
  · have := hpw a b ha'.1 hb'.1 h1
    rw [ha'.2, hb'.2] at this
    omega
  · subst h1
    exact ha'.2.symm.trans hb'.2
  · have := hpw b a hb'.1 ha'.1 h1
    rw [ha'.2, hb'.2] at this
    omega
/-- No jobs: no sums. -/
theorem smL_zero {L : List En} (hst : ∀ e ∈ L, stB e.j.st = true) (h : smL L = sm0) : L = [] := by
  cases L with
  | nil => rfl
  | cons e r =>
    exfalso
    obtain ⟨⟨a1, _⟩, ⟨b1, _⟩, ⟨c1, _⟩, ⟨d1, _⟩, _, _⟩ := smL_bound r
    have hs := hst e (List.mem_cons_self ..)
    have h4 : e.j.st = 1 ∨ e.j.st = 2 ∨ e.j.st = 3 ∨ e.j.st = 4 := by
      simpa [stB, or_assoc] using hs
    simp only [smL] at h
    have hr := congrArg Sm.r h
    have hd := congrArg Sm.d h
    have hv := congrArg Sm.v h
    have hb := congrArg Sm.b h
    rcases h4 with h4 | h4 | h4 | h4
    · simp [Sm.add, h4] at hr
      omega
    · simp [Sm.add, h4] at hd
      omega
    · simp [Sm.add, h4] at hv
      omega
    · simp [Sm.add, h4] at hb
      omega
/-- What take makes of a yard. -/
def Yd.took (Y : Yd) (e : En) (hpc : HK → Option HM) : Yd := { Y with hp := hpc, L := outE Y.L e.j.id, sm := Y.sm.add e.j.st e.j.pr (-1), ts := updT Y.ts e.j.nm ((Y.ts e.j.nm).add e.j.st e.j.pr (-1)) }
theorem updT_at {α : Type} (f : ByteArray → α) (t : ByteArray) (x : α) : updT f t x t = x := if_pos rfl
theorem updT_ne {α : Type} (f : ByteArray → α) {t s : ByteArray} (x : α) (h : s ≠ t) : updT f t x s = f s := if_neg h
/-- .. and sweep. -/
theorem Iv.deleted {Y : Yd} {N : Nat} (h : Iv Y N) (hN : N ≤ 500000000) {e : En} (he : e ∈ Y.L) {hpc : HK → Option HM} (ht : Tk Y e (ksOf e.j).length hpc) (ho : ∀ K x, Y.hp K = some x → Once x.R) : Iv (((Y.took e hpc).sweptT e.j).sweptH e.j) N ∧ (((Y.took e hpc).sweptT e.j).sweptH e.j).L = outE Y.L e.j.id := by
  have hv := h.inv
  have hu := id_uniq hv.rise
  have hlk : Lk (outE Y.L e.j.id) hpc := h.lk.taken he hu (fun x => by
    rw [mem_outE]
    exact ⟨fun ⟨h1, h2⟩ => ⟨h1, fun e2 => h2 (by rw [e2])⟩, fun ⟨h1, h2⟩ => ⟨h1, fun e2 => h2 (hu x h1 e he e2)⟩⟩) ho
    (fun i K hi => by
      obtain ⟨x, x', g1, g2, _, _, _, q, n, r, g3, g4, g5⟩ := ht.done i K (List.getElem?_eq_some_iff.1 hi).1 hi
      exact ⟨x, x', g1, g2, q, n, r, g3, g4, g5⟩)
    (fun K hK => ht.rest K (fun k _ e2 => hK (List.mem_of_getElem? e2)))
  have hlen : (outE Y.L e.j.id).length ≤ Y.L.length := List.length_filter_le _ _
  have few0 := hv.few
  have hsm : Y.sm.add e.j.st e.j.pr (-1) = smL (outE Y.L e.j.id) := by rw [hv.sm, smL_out hv.rise he, Sm.back]
  have hts : ∀ t, (Y.tb t).isSome = true → updT Y.ts e.j.nm ((Y.ts e.j.nm).add e.j.st e.j.pr (-1)) t = smT (outE Y.L e.j.id) t := fun t htb => by
    rw [smT_out hv.rise he]
    by_cases e2 : t = e.j.nm
    · subst e2
      rw [updT_at, if_pos rfl, hv.ts _ htb]
    · rw [updT_ne _ _ e2, if_neg (fun e3 => e2 e3.symm), hv.ts t htb]
  have htbe : (Y.tb e.j.nm).isSome = true := (hv.tb _).2 ⟨e, he, rfl⟩
  have small : ∀ L : List En, L.length ≤ Y.L.length → (smL L).small := fun L hl => smL_small (by have := few0.nl; omega)
  have smallT : ∀ t, (smT (outE Y.L e.j.id) t).small := fun t => small _ (by
    have := List.length_filter_le (fun e : En => decide (e.j.nm = t)) (outE Y.L e.j.id)
    omega)
  have f1 : Few (Y.took e hpc) N := by
    refine ⟨fun K x' hx => ?_, few0.nt, few0.nh, by have := few0.nl; show (outE Y.L e.j.id).length ≤ N; omega, ?_, fun t => ?_⟩
    · obtain ⟨x, g1, _, g3, g4, g5⟩ := ht.hb hx
      obtain ⟨f1, f2, f3, f4⟩ := few0.heap K x g1
      exact ⟨by omega, by omega, by omega, fun r hr => by have := f4 r (g5 (ho K x g1) r hr); omega⟩
    · show (Y.sm.add e.j.st e.j.pr (-1)).small
      rw [hsm]
      exact small _ hlen
    · show (updT Y.ts e.j.nm ((Y.ts e.j.nm).add e.j.st e.j.pr (-1)) t).small
      by_cases e2 : t = e.j.nm
      · rw [e2, hts _ htbe]
        exact smallT _
      · rw [updT_ne _ _ e2]
        exact few0.ts t
  have rise' : (outE Y.L e.j.id).Pairwise (fun a b => a.j.id < b.j.id) := List.Pairwise.sublist List.filter_sublist hv.rise
  have ok' : ∀ x ∈ outE Y.L e.j.id, x ∈ Y.L := fun x hx => (mem_outE.1 hx).1
  -- the tube
  have H2 : Few ((Y.took e hpc).sweptT e.j) N ∧ Lk (outE Y.L e.j.id) ((Y.took e hpc).sweptT e.j).hp ∧ ((Y.took e hpc).sweptT e.j).L = outE Y.L e.j.id ∧ ((Y.took e hpc).sweptT e.j).sm = smL (outE Y.L e.j.id) ∧
      (∀ t, (((Y.took e hpc).sweptT e.j).tb t).isSome = true → ((Y.took e hpc).sweptT e.j).ts t = smT (outE Y.L e.j.id) t) ∧ (∀ t, (((Y.took e hpc).sweptT e.j).tb t).isSome = true ↔ ∃ x ∈ outE Y.L e.j.id, x.j.nm = t) ∧ ∀ k t, k ≤ 2 → ((Y.took e hpc).sweptT e.j).tb t = none → ((Y.took e hpc).sweptT e.j).hp (hkT k t) = none := by
    have hnoneT : ∀ k t, k ≤ 2 → Y.tb t = none → hpc (hkT k t) = none := fun k t hk hb => by
      cases hx : hpc (hkT k t) with
      | none => rfl
      | some x' =>
        obtain ⟨x, g1, _⟩ := ht.hb hx
        rw [h.no k t hk hb] at g1
        cases g1
    have hother : ∀ t, t ≠ e.j.nm → ((∃ x ∈ Y.L, x.j.nm = t) ↔ ∃ x ∈ outE Y.L e.j.id, x.j.nm = t) := fun t hne =>
      ⟨fun ⟨x, hx, hn⟩ => ⟨x, mem_outE.2 ⟨hx, fun e2 => hne (by rw [← hn, hu x hx e he e2])⟩, hn⟩, fun ⟨x, hx, hn⟩ => ⟨x, ok' x hx, hn⟩⟩
    have hTs : (Y.took e hpc).ts e.j.nm = smT (outE Y.L e.j.id) e.j.nm := hts _ htbe
    unfold Yd.sweptT
    split
    · rename_i hz
      have hz : smT (outE Y.L e.j.id) e.j.nm = sm0 := by rw [← hTs]; exact smB_iff.1 hz
      have hempty : ∀ x ∈ outE Y.L e.j.id, x.j.nm ≠ e.j.nm := fun x hx hn => by
        have := smL_zero (L := (outE Y.L e.j.id).filter (fun e' => decide (e'.j.nm = e.j.nm))) (fun y hy => (hv.ok y (ok' y (List.mem_filter.1 hy).1)).2.2.2.1) hz
        have hm : x ∈ (outE Y.L e.j.id).filter (fun e' => decide (e'.j.nm = e.j.nm)) := List.mem_filter.2 ⟨hx, by simpa using hn⟩
        rw [this] at hm
        cases hm
      refine ⟨⟨fun K x hx => ?_, by have := f1.nt; show (Y.took e hpc).nt - 1 ≤ N; omega, f1.nh, f1.nl, f1.sm, f1.ts⟩, hlk.gone (fun K => ?_), rfl, hsm, fun t ht2 => ?_, fun t => ?_, fun k t hk ht2 => ?_⟩
      · have hx : (if K = hkT 0 e.j.nm ∨ K = hkT 1 e.j.nm ∨ K = hkT 2 e.j.nm then none else hpc K) = some x := hx
        split at hx
        · cases hx
        · exact f1.heap K x hx
      · by_cases hK : K = hkT 0 e.j.nm ∨ K = hkT 1 e.j.nm ∨ K = hkT 2 e.j.nm
        · refine .inr ⟨if_pos hK, fun x hx hk => ?_⟩
          rcases hK with rfl | rfl | rfl <;> exact hempty x hx (ks_tube (by omega) hk).1
        · exact .inl (if_neg hK)
      · have ht2 : (updT Y.tb e.j.nm none t).isSome = true := ht2
        by_cases e2 : t = e.j.nm
        · rw [e2, updT_at] at ht2; cases ht2
        · rw [updT_ne _ _ e2] at ht2
          exact hts t ht2
      · show (updT Y.tb e.j.nm none t).isSome = true ↔ _
        by_cases e2 : t = e.j.nm
        · rw [e2, updT_at]
          exact ⟨fun h => (by cases h), fun ⟨x, hx, hn⟩ => absurd hn (hempty x hx)⟩
        · rw [updT_ne _ _ e2, hv.tb t]
          exact hother t e2
      · have ht2 : updT Y.tb e.j.nm none t = none := ht2
        show (if hkT k t = hkT 0 e.j.nm ∨ hkT k t = hkT 1 e.j.nm ∨ hkT k t = hkT 2 e.j.nm then none else hpc (hkT k t)) = none
        by_cases e2 : t = e.j.nm
        · rw [if_pos (by rw [e2]; have hk3 : k = 0 ∨ k = 1 ∨ k = 2 := by omega
                         rcases hk3 with rfl | rfl | rfl <;> simp)]
        · rw [updT_ne _ _ e2] at ht2
          split
          · rfl
          · exact hnoneT k t hk ht2
    · rename_i hz
      refine ⟨f1, hlk, rfl, hsm, fun t ht2 => hts t ht2, fun t => ?_, fun k t hk ht2 => hnoneT k t hk ht2⟩
      show (Y.tb t).isSome = true ↔ _
      by_cases e2 : t = e.j.nm
      · rw [e2]
        refine ⟨fun _ => ?_, fun _ => htbe⟩
        refine Classical.byContradiction fun hno => hz ?_
        rw [hTs, smT_none hno]
        exact smB_iff.2 rfl
      · rw [hv.tb t]
        exact hother t e2
  obtain ⟨g1, g2, g3, g4, g5, g6, g7⟩ := H2
  generalize (Y.took e hpc).sweptT e.j = Y2 at g1 g2 g3 g4 g5 g6 g7
  unfold Yd.sweptH
  have base : Iv Y2 N := ⟨⟨g1, by rw [g3]; exact rise', by rw [g3]; exact fun x hx => hv.ok x (ok' x hx), by rw [g3]; exact g4, fun t ht2 => by rw [g3]; exact g5 t ht2, fun t => by rw [g3]; exact g6 t⟩, by rw [g3]; exact g2, g7⟩
  split
  · rename_i x hx
    split
    · rename_i hz
      have hR : x.R = [] := List.eq_nil_of_length_eq_zero hz
      refine ⟨⟨⟨⟨fun K y hy => ?_, g1.nt, by have := g1.nh; show Y2.nh - 1 ≤ N; omega, g1.nl, g1.sm, g1.ts⟩, base.inv.rise, base.inv.ok, base.inv.sm, base.inv.ts, base.inv.tb⟩, base.lk.gone (fun K => ?_), fun k t hk ht2 => ?_⟩, g3⟩
      · have hy : updH Y2.hp (hkH e.j.ho) none K = some y := hy
        by_cases e2 : K = hkH e.j.ho
        · rw [e2, updH_at] at hy; cases hy
        · rw [updH_ne _ _ e2] at hy
          exact g1.heap K y hy
      · by_cases e2 : K = hkH e.j.ho
        · subst e2
          refine .inr ⟨updH_at _ _ _, fun y hy hk => ?_⟩
          obtain ⟨i, hi⟩ := List.mem_iff_getElem?.1 hk
          have := (base.lk.row _ x hx _).2 ⟨y, hy, i, hi, rfl⟩
          rw [hR] at this
          cases this
        · exact .inl (updH_ne _ _ e2)
      · show updH Y2.hp (hkH e.j.ho) none (hkT k t) = none
        rw [updH_ne _ _ (hk_ne (by show k ≠ 3; omega))]
        exact g7 k t hk ht2
    · exact ⟨base, g3⟩
  · exact ⟨base, g3⟩
set_option maxHeartbeats 4000000 in
set_option maxRecDepth 1000000 in
theorem delete_any (i : Int) (e : En) (w : World) (lab : Nat → HK) (yb : Nat) (Y : Yd) (N : Nat) (h : YAt w lab yb Y) (hv : Iv Y N) (hN : N ≤ 100000000) (hi : I64 i) (he : lookE Y.L i = some e) :
    Calls Try.prog 23 #[ptrV yb, .int .i64 i] w fun x w' => x = .returned (.int .i64 0) ∧ ∃ lab' Y', YAt w' lab' yb Y' ∧ Iv Y' N ∧ Y'.L = outE Y.L i ∧ (∀ k, k < w.heap.size → lab' k = lab k) ∧ Kept (Ours lab) w w' := by
  obtain ⟨heL, heI⟩ := lookE_mem he
  have he' : lookE Y.L e.j.id = some e := by rw [heI]; exact he
  obtain ⟨d, r, hd, hr⟩ := h.two
  have y0 := (h.cells hd hr).1
  have ylt := h.yb_lt
  obtain ⟨w1, hw1⟩ : ∃ w1, w1 = w.alloc (.cells e.cells 71) := ⟨_, rfl⟩
  have B1 : Below w.heap.size w w1 := by rw [hw1]; exact (Below.refl _ w).alloc (Nat.le_refl _) _
  have x1 : w1.heap[w.heap.size]? = some (.cells e.cells 71 (0, 0)) := by rw [hw1]; exact heap_alloc_new w _
  obtain ⟨lab1, hl1⟩ : ∃ lab1 : Nat → HK, lab1 = fun k => if k < w.heap.size then lab k else uT := ⟨_, rfl⟩
  have ll : (∀ k, k < w.heap.size → lab1 k = lab k) ∧ lab1 w.heap.size = uT := by rw [hl1]; exact ⟨fun k hk => if_pos hk, if_neg (by omega)⟩
  have a1 : YAt w1 lab1 yb Y := h.below B1 ll.1
  obtain ⟨ea, ec, ee, _⟩ := h.body e heL
  have EO : Hid (e.cells.all (·.oneCell') = true) := by
    show (entA e.j e.bv e.t0 e.t1).all (·.oneCell') = true
    rw [ee]
    exact ent_one _ _ _ _ _ _
  have TJ : Hid (VTabI w Y.jm Y.L.length (fun i => (lookE Y.L i).map En.val)) := h.jobs
  have TK := take_any e w1 lab1 yb Y N a1 hv.inv hv.lk hN he'
  have CT : Hid (Calls Try.prog 44 #[ptrV yb, .agg e.cells] w1 fun x w' => x = .returned (.tuple #[]) ∧ Taken w1 lab1 yb Y e w') := TK
  have HE : Hid (lookE Y.L i = some e ∧ e ∈ Y.L ∧ e.j.id = i) := ⟨he, heL, heI⟩
  have HV : Hid (Iv Y N) := hv
  have HY : Hid (YAt w lab yb Y) := h
  have H1 : Hid (Below w.heap.size w w1 ∧ w1.heap[w.heap.size]? = some (.cells e.cells 71 (0, 0))) := ⟨B1, x1⟩
  have HW1 : Hid (w.alloc (.cells e.cells 71) = w1) := hw1.symm
  have ES : Hid ((Try.prog.info? 71).map (·.size) = some e.cells.size) := ent_szE e
  have HL : Hid ((∀ k, k < w.heap.size → lab1 k = lab k) ∧ lab1 w.heap.size = uT) := ll
  have HO : Hid (∀ K x, Y.hp K = some x → Once x.R) := fun K x hx => h.once hx
  obtain ⟨b, hb⟩ : ∃ b, Y.tb e.j.nm = some b := Option.isSome_iff_exists.1 ((hv.inv.tb e.j.nm).2 ⟨e, heL, rfl⟩)
  have HJ : Hid (e.j.ok ∧ Y.tb e.j.nm = some b) := ⟨(hv.inv.ok e heL).1, hb⟩
  clear TK he heL heI he' hd hr hw1 B1 x1 a1 ee hl1 ll hb h hv
  go_enter Try.func23, Try.ntmps23
  go_upto_region 2 with (first
    | (refine wpList_vlookI rfl (.tmp 11) (.tmp 12) 54 71 Try.underlying54 (zero_ent _) rfl Y.jm Y.L.length (fun i => (lookE Y.L i).map En.val) i rfl rfl TJ.out hi ?_; rw [HE.out.1, Option.map_some, Option.getD_some, Option.isSome_some, show e.val = .agg e.cells from rfl])
    | (refine wpList_store_new rfl 71 (.tmp 5) (.tmp 14) rfl e.cells rfl rfl 71 _ ES.out rfl EO.out ?_))
  rw [HW1.out]
  go_upto_region 5 with (first
    | (refine wpList_load_row rfl 71 (.tmp 5) rfl w.heap.size rfl 71 e.cells (0, 0) _ H1.out.2 Try.underlying71 rfl ES.out ?_)
    | (go_at_call 44; refine CT.out.mono ?_; rintro x w2 ⟨rfl, t2⟩; have T2 : Hid (Taken w1 lab1 yb Y e w2) := t2; clear t2))
  obtain ⟨lab2, hpc, tk, a2, l2, k2⟩ := T2.out
  have ylt1 : w.heap.size < w1.heap.size := (Array.getElem?_eq_some_iff.1 H1.out.2).1
  have x2 : Hid (w2.heap[w.heap.size]? = some (.cells e.cells 71 (0, 0))) := (k2.block w.heap.size ylt1 (fun e2 => by have e2 : (lab1 w.heap.size).1 ≤ 7 := e2; rw [HL.out.2] at e2; exact absurd e2 (by decide))).trans H1.out.2
  have CS : Hid (Calls Try.prog 45 #[ptrV yb, .agg e.cells] w2 fun x w' => x = .returned (.tuple #[]) ∧ ∃ lab' Y', YAt w' lab' yb Y' ∧ Iv Y' N ∧ Y'.L = outE Y.L i ∧ (∀ k, k < w.heap.size → lab' k = lab k) ∧ Kept (Ours lab) w w') := by
    refine (sweep_any e w2 lab2 yb _ a2 HJ.out.1 b HJ.out.2).mono ?_
    rintro x w' ⟨rfl, lab', a3, l3, k3⟩
    have g := HV.out.deleted (by omega) HE.out.2.1 tk HO.out
    have lt : ∀ k, k < w.heap.size → k < w1.heap.size ∧ k < w2.heap.size := fun k hk => ⟨Nat.lt_of_lt_of_le hk H1.out.1.size, Nat.lt_of_lt_of_le hk (Nat.le_trans H1.out.1.size k2.size)⟩
    have l12 : ∀ k, k < w.heap.size → lab2 k = lab k := fun k hk => (l2 k (lt k hk).1).trans (HL.out.1 k hk)
    refine ⟨rfl, lab', _, a3, g.1, by rw [← HE.out.2.2]; exact g.2, fun k hk => (l3 k (lt k hk).2).trans (l12 k hk), ?_⟩
    exact ((Kept.ofBelow H1.out.1).step k2 (fun k hk e2 => by have e2 : (lab1 k).1 ≤ 7 := e2; rw [HL.out.1 k hk] at e2; exact e2)).step k3 (fun k hk e2 => by have e2 : (lab2 k).1 ≤ 7 := e2; rw [l12 k hk] at e2; exact e2)
  clear T2 tk a2 l2 k2
  go_wp2_with (first
    | (refine wpList_load_row rfl 71 (.tmp 5) rfl w.heap.size rfl 71 e.cells (0, 0) _ x2.out Try.underlying71 rfl ES.out ?_)
    | (go_at_call 45; refine CS.out.mono ?_; rintro x w3 ⟨rfl, t3⟩; have T3 : Hid (∃ lab' Y', YAt w3 lab' yb Y' ∧ Iv Y' N ∧ Y'.L = outE Y.L i ∧ (∀ k, k < w.heap.size → lab' k = lab k) ∧ Kept (Ours lab) w w3) := t3; clear t3))
  go_ret
  exact ⟨rfl, T3.out⟩
end Go.Proofs.Ytonfdmbcbfpgdaa
