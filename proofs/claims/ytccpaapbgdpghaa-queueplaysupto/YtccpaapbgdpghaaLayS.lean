/-
  The walks of 'lay' and Join.
-/
import Derived.Test.YtccpaapbgdpghaaUnlinkS
namespace Go.Proofs.Ytccpaapbgdpghaa
open Go.RowKit

set_option maxHeartbeats 4000000 in
set_option maxRecDepth 1000000 in
theorem layS (w : World) (qb mb : Nat) (given tk : Int) (v : Value) (R : List Stand) (h : LinkS w qb mb given R) (ht : PTab w mb R.length (whereIs R)) (hnew : ∀ r ∈ R, r.tk ≠ tk) (hwf : (Lit.int .i64 tk).wf = true) (hR : R.length < maxLen) (hv : ∃ x : ByteArray, v = .string x) :
    Calls Try.prog 28 #[.pointer (some ⟨qb, 0, none⟩), .int .i64 tk, v] w fun e w' => e = .returned (.tuple #[]) ∧
      LinkS w' qb mb given (R ++ [⟨w.heap.size, tk, v⟩]) ∧ PTab w' mb (R.length + 1) (whereIs (R ++ [⟨w.heap.size, tk, v⟩])) ∧ Kept (Mine qb mb R) w w' := by
  obtain ⟨x0, rfl⟩ := hv
  have hmq : mb ≠ qb := by
    obtain ⟨es, clock, hm⟩ := ht.map
    intro e; rw [e, h.box] at hm; simp at hm
  have hlt : qb < w.heap.size := (Array.getElem?_eq_some_iff.1 h.box).1
  have q1 : w.cell? ⟨qb, 1, none⟩ = some (ptrOf (lst none R)) := by simp [World.cell?, h.box]
  have q2 : w.cell? ⟨qb, 2, none⟩ = some (.map (some mb)) := by simp [World.cell?, h.box]
  have q0 : ∃ u, w.cell? ⟨qb, 0, none⟩ = some u := ⟨_, by simp [World.cell?, h.box]; rfl⟩
  obtain ⟨u0, q0⟩ := q0
  have f0 : w.frozen? ⟨qb, 0, none⟩ = false := by simp [World.frozen?, h.box]
  have f1 : w.frozen? ⟨qb, 1, none⟩ = false := by simp [World.frozen?, h.box]
  have hltm := ht.lt
  obtain ⟨r, hr⟩ : ∃ r : Stand, r = ⟨w.heap.size, tk, (.string x0)⟩ := ⟨_, rfl⟩
  obtain ⟨w1, hw1⟩ : ∃ w1, w1 = w.alloc (.cells (cellsAt r (lst none R) none) 82) := ⟨_, rfl⟩
  have hl1 : LinkS w1 qb mb given R := hw1 ▸ h.alloc _
  have hrb : r.blk = w.heap.size := by rw [hr]
  have hne : ∀ s ∈ R, s.blk ≠ r.blk := fun s hs e => by
    obtain ⟨c, hc⟩ := h.seg.block hs
    have := (Array.getElem?_eq_some_iff.1 hc).1
    omega
  have hnb : w1.heap[r.blk]? = some (.cells (cellsAt r (lst none R) none) 82 (0, 0)) := by rw [hrb, hw1]; exact heap_alloc_new w _
  obtain ⟨hl2, hk2⟩ := laid typS hl1 hnb hne
  have ht1 : PTab w1 mb R.length (whereIs R) := ht.block (by rw [hw1]; exact heap_alloc_old w _ hltm)
  have hmr : ∀ s ∈ R, s.blk ≠ mb := fun s hs e => by
    obtain ⟨c, hc⟩ := h.seg.block hs
    obtain ⟨es, clock, hm⟩ := ht.map
    rw [e, hm] at hc; simp at hc
  obtain ⟨w2, hw2⟩ : ∃ w2, w2 = (laid1 w1 qb r.blk R).setCell ⟨qb, 1, none⟩ (ptrOf (some r.blk)) := ⟨_, rfl⟩
  rw [← hw2] at hl2 hk2
  have ht2 : PTab w2 mb R.length (whereIs R) := ht1.block (hk2.block mb (ht1.lt) (fun e => by
    rcases e with e | ⟨s, hs, e⟩
    · exact hmq e
    · exact hmr s hs e))
  have hk12 : Kept (Mine qb mb R) w w2 := (Kept.ofBelow (by rw [hw1]; exact (Below.refl _ w).alloc (Nat.le_refl _) _)).trans (hk2.mono (fun k _ e => by
    rcases e with e | e
    · exact .inl e
    · exact .inr (.inr e)))
  have p2 : w2.cell? ⟨qb, 2, none⟩ = some (.map (some mb)) := by simp [World.cell?, hl2.box]
  have HE : Hid (∀ w3, PTab w3 mb (if (whereIs R tk).isSome then R.length else R.length + 1) (putAt (whereIs R) tk w.heap.size) → w2.grownBy w3 (some mb) → LinkS w3 qb mb given (R ++ [r]) ∧ PTab w3 mb (R.length + 1) (whereIs (R ++ [r])) ∧ Kept (Mine qb mb R) w w3) := by
    intro w3 h3 g3
    have hno : whereIs R tk = none := by
      unfold whereIs
      have : R.find? (fun r => r.tk == tk) = none := by
        rw [List.find?_eq_none]
        intro s hs
        simpa using hnew s hs
      rw [this]; rfl
    rw [hno] at h3
    refine ⟨hl2.kept (g3.block qb (Array.getElem?_eq_some_iff.1 hl2.box).1 (fun e => hmq (Option.some.inj e).symm)) (fun s hs => ?_), h3.congr (fun t => ?_), hk12.trans (Kept.ofGrown g3 (fun k e => .inr (.inl (Option.some.inj e).symm)))⟩
    · obtain ⟨c, hc⟩ := hl2.seg.block hs
      refine g3.block _ (Array.getElem?_eq_some_iff.1 hc).1 (fun e => ?_)
      have e := Option.some.inj e
      obtain ⟨es, clock, hm⟩ := ht2.map
      rw [e, hm] at hc; simp at hc
    · rw [whereIs_join _ _ (by rw [hr]; exact hnew), hr]
      unfold putAt
      rfl
  have HT : Hid (PTab w2 mb R.length (whereIs R)) := ht2
  unfold laid1 at hw2
  rw [hrb] at hw2
  cases hL : lst none R with
  | none =>
    rw [hL] at q1 hw1 hw2
    simp only [ptrOf] at q1 hw1 hw2
    rw [← hr]
    have hw1' : w1 = w.alloc (.cells #[.int .i64 tk, (.string x0), .pointer none, .pointer none] 82) := by rw [hw1, hr]; rfl
    clear h ht hl1 hnb hl2 hk2 ht1 ht2 hk12 hne hmr hw1 hr hrb hL
    rw [hw1', World.setCell_alloc_past _ _ _ _ hlt, World.setCell_alloc_past _ _ _ _ (by simpa using hlt)] at hw2
    go_enter Try.func28, Try.ntmps28
    go_wp2_with (at_mapUpdate; rw [← hw2]; refine wpList_pput rfl _ _ _ 74 75 Try.underlying74 rfl mb R.length (whereIs R) tk w.heap.size rfl rfl rfl HT.out hR hwf ?_; intro w3 h3 g3; have H3 : Hid (LinkS w3 qb mb given (R ++ [r]) ∧ PTab w3 mb (R.length + 1) (whereIs (R ++ [r])) ∧ Kept (Mine qb mb R) w w3) := HE.out w3 h3 g3; clear h3 g3)
    go_end0
    exact ⟨rfl, H3.out⟩
  | some x =>
    have hnn : R ≠ [] := fun e => by rw [e] at hL; simp [lst] at hL
    obtain ⟨a, ha, rfl⟩ := lst_mem hL hnn
    obtain ⟨ca, hca, hcn⟩ := h.seg.size4 ha
    have g3 : ∃ u, w.cell? ⟨a.blk, 3, none⟩ = some u := ⟨ca[3]'(by omega), by simp [World.cell?, hca]⟩
    have f3 : w.frozen? ⟨a.blk, 3, none⟩ = false := by simp [World.frozen?, hca]
    obtain ⟨v3, g3⟩ := g3
    have naq : a.blk ≠ qb := h.apart typS ha
    have hal : a.blk < w.heap.size := (Array.getElem?_eq_some_iff.1 hca).1
    rw [hL] at q1 hw1 hw2
    simp only [ptrOf] at q1 hw1 hw2
    rw [← hr]
    have hw1' : w1 = w.alloc (.cells #[.int .i64 tk, (.string x0), .pointer (some ⟨a.blk, 0, none⟩), .pointer none] 82) := by rw [hw1, hr]; rfl
    clear h ht hl1 hnb hl2 hk2 ht1 ht2 hk12 hne hmr hw1 hr hrb hL hnn hca hcn ha ca
    rw [hw1', World.setCell_alloc_past _ _ _ _ hal, World.setCell_alloc_past _ _ _ _ (by simpa using hlt)] at hw2
    go_enter Try.func28, Try.ntmps28
    go_wp2_with (at_mapUpdate; rw [← hw2]; refine wpList_pput rfl _ _ _ 74 75 Try.underlying74 rfl mb R.length (whereIs R) tk w.heap.size rfl rfl rfl HT.out hR hwf ?_; intro w3 h3 g3; have H3 : Hid (LinkS w3 qb mb given (R ++ [r]) ∧ PTab w3 mb (R.length + 1) (whereIs (R ++ [r])) ∧ Kept (Mine qb mb R) w w3) := HE.out w3 h3 g3; clear h3 g3)
    go_end0
    exact ⟨rfl, H3.out⟩

theorem QueueAtS.setGiven {w : World} {qb mb : Nat} {given : Int} {R : List Stand} (h : QueueAtS w qb mb given R) (g : Int) (hg : given ≤ g) :
    QueueAtS (w.setCell ⟨qb, 3, none⟩ (.int .i64 g)) qb mb g R ∧ Kept (Mine qb mb R) w (w.setCell ⟨qb, 3, none⟩ (.int .i64 g)) := by
  obtain ⟨link, tab, up, le, pos⟩ := h
  have hmq : mb ≠ qb := by
    obtain ⟨es, clock, hm⟩ := tab.map
    intro e; rw [e, link.box] at hm; simp at hm
  refine ⟨⟨⟨?_, link.seg.kept fun r hr => set_other _ _ _ _ _ (link.apart typS hr), link.nod⟩, tab.block (set_other _ _ _ _ _ hmq), up, fun r hr => ⟨(le r hr).1, Int.le_trans (le r hr).2 hg⟩, Int.le_trans pos hg⟩, Kept.setCell _ _ _ _ _ (.inl rfl)⟩
  rw [(set_cells link.box 3 _).1]
  simp

set_option maxHeartbeats 4000000 in
set_option maxRecDepth 1000000 in
theorem joinS (w : World) (qb mb : Nat) (given : Int) (v : Value) (R : List Stand) (h : QueueAtS w qb mb given R) (hg : given < 4611686018427387904) (hR : R.length < maxLen) (hv : ∃ x : ByteArray, v = .string x) :
    Calls Try.prog 11 #[.pointer (some ⟨qb, 0, none⟩), v] w fun e w' => e = .returned (.int .i64 (given + 1)) ∧
      QueueAtS w' qb mb (given + 1) (R ++ [⟨w.heap.size, given + 1, v⟩]) ∧ Kept (Mine qb mb R) w w' := by
  have q3 : w.cell? ⟨qb, 3, none⟩ = some (.int .i64 given) := by simp [World.cell?, h.link.box]
  have f3 : w.frozen? ⟨qb, 3, none⟩ = false := by simp [World.frozen?, h.link.box]
  obtain ⟨h1, k1⟩ := h.setGiven (given + 1) (by omega)
  have pos := h.pos
  have le := h.le
  have up := h.up
  clear h
  have HC := layS (w.setCell ⟨qb, 3, none⟩ (.int .i64 (given + 1))) qb mb (given + 1) (given + 1) v R h1.link h1.tab (fun r hr e => by have := (le r hr).2; omega) (WalkArith.wf_i64 (by omega)) hR hv
  have HS : (w.setCell ⟨qb, 3, none⟩ (.int .i64 (given + 1))).heap.size = w.heap.size := by simp
  rw [HS] at HC
  obtain ⟨w1, hw1⟩ : ∃ w1, w1 = w.setCell ⟨qb, 3, none⟩ (.int .i64 (given + 1)) := ⟨_, rfl⟩
  rw [← hw1] at HC h1 k1
  have m3 : w1.cell? ⟨qb, 3, none⟩ = some (.int .i64 (given + 1)) := by simp [World.cell?, h1.link.box]
  have HCH : Hid (Calls Try.prog 28 #[.pointer (some ⟨qb, 0, none⟩), .int .i64 (given + 1), v] w1 fun e w' => e = .returned (.tuple #[]) ∧ QueueAtS w' qb mb (given + 1) (R ++ [⟨w.heap.size, given + 1, v⟩]) ∧ Kept (Mine qb mb R) w w') := by
    refine HC.mono ?_
    rintro e w2 ⟨rfl, h2, t2, k2⟩
    refine ⟨rfl, ⟨h2, by simpa using t2, ?_, ?_, by omega⟩, k1.trans k2⟩
    · rw [List.pairwise_append]
      refine ⟨up, by simp, fun a ha b hb => ?_⟩
      simp only [List.mem_singleton] at hb
      rw [hb]
      have := (le a ha).2
      show a.tk < given + 1
      omega
    · intro r hr
      rcases List.mem_append.1 hr with hr | hr
      · have := le r hr; omega
      · simp only [List.mem_singleton] at hr
        rw [hr]
        show 1 ≤ given + 1 ∧ given + 1 ≤ given + 1
        omega
  clear HC h1 k1 le up HS
  obtain ⟨x0, rfl⟩ := hv
  go_enter Try.func11, Try.ntmps11
  go_wp2_with fail
  rw [← hw1]
  go_wp2_with fail
  refine HCH.out.mono ?_
  rintro e w2 ⟨rfl, h2, k2⟩
  have n3 : w2.cell? ⟨qb, 3, none⟩ = some (.int .i64 (given + 1)) := by simp [World.cell?, h2.link.box]
  have H2 : Hid (QueueAtS w2 qb mb (given + 1) (R ++ [⟨w.heap.size, given + 1, (.string x0)⟩]) ∧ Kept (Mine qb mb R) w w2) := ⟨h2, k2⟩
  clear h2 k2
  go_wp2_with fail
  go_ret
  exact ⟨rfl, H2.out⟩
end Go.Proofs.Ytccpaapbgdpghaa
