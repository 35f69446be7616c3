/-
  What becomes of a yard: a holder's heap, a push, a job laid in, sums.
-/
import Derived.Test.YtonfdmbcbfpgdaaYTube
namespace Go.Proofs.Ytonfdmbcbfpgdaa
open Go.RowKit
def updH (f : HK → Option HM) (K : HK) (x : Option HM) : HK → Option HM := fun J => if J = K then x else f J
theorem updH_at (f : HK → Option HM) (K : HK) (x : Option HM) : updH f K x K = x := if_pos rfl
theorem updH_ne (f : HK → Option HM) {K J : HK} (x : Option HM) (h : J ≠ K) : updH f K x J = f J := if_neg h
theorem hk_ne {J K : HK} (h : J.1 ≠ K.1) : J ≠ K := fun e => h (by rw [e])
/-- What of a yard lies elsewhere stays. -/
structure Rest (w w' : World) (lab lab' : Nat → HK) (T : HK) : Prop where
  kept : Kept (fun k => lab k = T) w w'
  labs : ∀ k, k < w.heap.size → lab' k = lab k
theorem Rest.body {w w' : World} {lab lab' : Nat → HK} {T : HK} (q : Rest w w' lab lab' T) (hT : T.1 ≠ 8) {bv : Value} {body : List UInt8} (h : BodyAt w lab bv body) : BodyAt w' lab' bv body :=
  h.kept q.kept (fun b _ e8 e => hT (by rw [← e]; exact e8)) q.labs
theorem Rest.heap {w w' : World} {lab lab' : Nat → HK} {T K : HK} (q : Rest w w' lab lab' T) (hT : K ≠ T) {h : HM} (hh : h.At w lab K) : h.At w' lab' K :=
  hh.kept q.kept (fun b _ e e2 => hT (by rw [← e]; exact e2)) q.labs
theorem Rest.block {w w' : World} {lab lab' : Nat → HK} {T K : HK} (q : Rest w w' lab lab' T) (hT : K ≠ T) {b : Nat} {o : Obj} (hl : lab b = K) (h : w.heap[b]? = some o) : w'.heap[b]? = some o :=
  (q.kept.block b (Array.getElem?_eq_some_iff.1 h).1 (fun e => hT (by rw [← hl]; exact e))).trans h
theorem Rest.tubes {w w' : World} {lab lab' : Nat → HK} {T : HK} {yb : Nat} {Y : Yd} (q : Rest w w' lab lab' T) (h : YAt w lab yb Y) (hT : T.1 ≠ 6) (t : ByteArray) (b : Nat) (ht : Y.tb t = some b) :
    lab' b = hkT 6 t ∧ ∃ h0 h1 h2, Y.hp (hkT 0 t) = some h0 ∧ Y.hp (hkT 1 t) = some h1 ∧ Y.hp (hkT 2 t) = some h2 ∧ w'.heap[b]? = some (.cells ([ptrV h0.hb, ptrV h1.hb, ptrV h2.hb] ++ (Y.ts t).cells).toArray 61 (0, 0)) := by
  obtain ⟨lb, h0, h1, h2, e0, e1, e2, hbk⟩ := h.tube t b ht
  exact ⟨(q.labs b (Array.getElem?_eq_some_iff.1 hbk).1).trans lb, h0, h1, h2, e0, e1, e2, q.block (hk_ne (fun e => hT e.symm)) lb hbk⟩
theorem Rest.own {w w' : World} {lab lab' : Nat → HK} {T : HK} {yb : Nat} {Y : Yd} (q : Rest w w' lab lab' T) (h : YAt w lab yb Y) : lab' yb = (7, eB, 0) ∧ lab' Y.jm = (7, eB, 1) ∧ lab' Y.tm = (7, eB, 2) ∧ lab' Y.hm = (7, eB, 3) := by
  rw [q.labs _ h.yb_lt, q.labs _ h.jobs.lt, q.labs _ h.tubs.lt, q.labs _ h.hels.lt]
  exact h.labs
theorem Rest.not {w w' : World} {lab lab' : Nat → HK} {T K : HK} (_ : Rest w w' lab lab' T) (hT : K ≠ T) {b : Nat} (hl : lab b = K) : ¬ lab b = T := fun e => hT (by rw [← hl]; exact e)

/-- A holder's heap is laid in. -/
theorem YAt.addHeld {w w1 w2 : World} {lab : Nat → HK} {yb : Nat} {Y : Yd} (h : YAt w lab yb Y) (n : Int) (hn : Y.hp (hkH n) = none) {hb mb : Nat} (h0 : HeapNew w1 w.heap.size w1.heap.size hb mb 1) (b1 : Below w.heap.size w w1)
    (hm : VTabI w2 Y.hm (if ((Y.hp (hkH n)).map (fun h => ptrV h.hb)).isSome then Y.nh else Y.nh + 1) (putVI (fun n => (Y.hp (hkH n)).map (fun h => ptrV h.hb)) n (ptrV hb))) (hg : w1.grownBy w2 (some Y.hm)) :
    ∃ lab', YAt w2 lab' yb { Y with nh := Y.nh + 1, hp := updH Y.hp (hkH n) (some (hm0 hb mb)) } ∧ (∀ k, k < w.heap.size → lab' k = lab k) ∧ Kept (Ours lab) w w2 := by
  have kk : Kept (fun k => k = Y.hm) w1 w2 := Kept.ofGrown hg (fun g e => (Option.some.inj e).symm)
  have l0 := h.labs
  have lt0 := h.hels.lt
  have k2 : Kept (fun k => lab k = (7, eB, 3)) w w2 := (Kept.ofBelow b1).step kk (fun k _ e => by rw [e]; exact l0.2.2.2)
  obtain ⟨lab', hlab⟩ : ∃ lab' : Nat → HK, lab' = fun k => if k < w.heap.size then lab k else hkH n := ⟨_, rfl⟩
  have q : Rest w w2 lab lab' (7, eB, 3) := ⟨k2, fun k hk => by rw [hlab]; exact if_pos hk⟩
  have hk7 : ∀ (n : Int), n ≠ 3 → ((7, eB, n) : HK) ≠ (7, eB, 3) := fun n hn e => hn (by simpa using e)
  obtain ⟨d, r, hd, hr, hb'⟩ := h.box
  refine ⟨lab', ⟨⟨d, r, ?_, ?_, q.block (hk7 0 (by decide)) l0.1 hb'⟩, h.jobs.kept k2 (q.not (hk7 1 (by decide)) l0.2.1), h.tubs.kept k2 (q.not (hk7 2 (by decide)) l0.2.2.1), ?_, ?_, ?_, fun e he => q.body (by decide) (h.body e he), q.own (Y := Y) h⟩, q.labs, k2.mono (fun k _ e => by show (lab k).1 ≤ 7; rw [e]; decide)⟩
  · exact (updH_ne Y.hp (K := hkH n) (some (hm0 hb mb)) (hk_ne (show (4 : Nat) ≠ 3 by omega))).trans hd
  · exact (updH_ne Y.hp (K := hkH n) (some (hm0 hb mb)) (hk_ne (show (5 : Nat) ≠ 3 by omega))).trans hr
  · rw [hn] at hm
    refine hm.congr rfl (fun m => ?_)
    show (updH Y.hp (hkH n) (some (hm0 hb mb)) (hkH m)).map (fun h => ptrV h.hb) = if m = n then some (ptrV hb) else (Y.hp (hkH m)).map (fun h => ptrV h.hb)
    by_cases e : m = n
    · rw [if_pos e, e, updH_at]; rfl
    · rw [if_neg e, updH_ne _ _ (fun e2 => e (by simpa using e2))]
  · intro K g hK
    by_cases e : K = hkH n
    · subst e
      have hK : some (hm0 hb mb) = some g := (updH_at Y.hp (hkH n) (some (hm0 hb mb))).symm.trans hK
      cases hK
      refine ⟨show (3 : Nat) ≤ 5 by omega, HeapNew.at (lab := lab') ⟨h0.1.kept kk (fun k hk e => ?_), h0.2⟩ (fun k ha hb => ?_)⟩
      · have : w.heap.size ≤ k := by rcases mine0 hk with rfl | rfl; exact h0.2.1.1; exact h0.2.2.1
        omega
      · rw [hlab]
        simp only []
        rw [if_neg (by omega)]
    · have hK : Y.hp K = some g := (updH_ne Y.hp (K := hkH n) (some (hm0 hb mb)) e).symm.trans hK
      obtain ⟨k5, ha⟩ := h.heap K g hK
      exact ⟨k5, q.heap (hk_ne (by show K.1 ≠ 7; omega)) ha⟩
  · intro t b ht
    obtain ⟨lb, g0, g1, g2, e0, e1, e2, hbk⟩ := q.tubes (Y := Y) h (by decide) t b ht
    refine ⟨lb, g0, g1, g2, ?_, ?_, ?_, hbk⟩
    · exact (updH_ne Y.hp (K := hkH n) (some (hm0 hb mb)) (hk_ne (show (0 : Nat) ≠ 3 by omega))).trans e0
    · exact (updH_ne Y.hp (K := hkH n) (some (hm0 hb mb)) (hk_ne (show (1 : Nat) ≠ 3 by omega))).trans e1
    · exact (updH_ne Y.hp (K := hkH n) (some (hm0 hb mb)) (hk_ne (show (2 : Nat) ≠ 3 by omega))).trans e2
/-- One heap has changed. -/
theorem YAt.turned {w w2 : World} {lab : Nat → HK} {yb : Nat} {Y : Yd} (h : YAt w lab yb Y) {K : HK} {g g' : HM} (hK : Y.hp K = some g) (h1 : HeapAtM w2 g'.hb g'.v g'.mb 32 (rkOf K.1) g'.last g'.R) (e1 : g'.hb = g.hb) (k1 : Kept (Mine g.hb g.v g.mb) w w2) (m1 : ∀ k, Mine g'.hb g'.v g'.mb k → Mine g.hb g.v g.mb k ∨ w.heap.size ≤ k) :
    ∃ lab', YAt w2 lab' yb { Y with hp := updH Y.hp K (some g') } ∧ (∀ k, k < w.heap.size → lab' k = lab k) ∧ Kept (Ours lab) w w2 := by
  obtain ⟨k5, hat⟩ := h.heap K g hK
  have k2 : Kept (fun k => lab k = K) w w2 := k1.mono (fun k _ hm => hat.lab k hm)
  obtain ⟨lab', hlab⟩ : ∃ lab' : Nat → HK, lab' = fun k => if k < w.heap.size then lab k else K := ⟨_, rfl⟩
  have q : Rest w w2 lab lab' K := ⟨k2, fun k hk => by rw [hlab]; exact if_pos hk⟩
  have l0 := h.labs
  have hk7 : ∀ n : Int, ((7, eB, n) : HK) ≠ K := fun n => hk_ne (by show 7 ≠ K.1; omega)
  have same : ∀ J x, Y.hp J = some x → ∃ y, updH Y.hp K (some g') J = some y ∧ y.hb = x.hb := fun J x hx => by
    by_cases e : J = K
    · subst e
      rw [hK] at hx
      cases hx
      exact ⟨g', updH_at _ _ _, e1⟩
    · exact ⟨x, by rw [updH_ne _ _ e]; exact hx, rfl⟩
  obtain ⟨d, r, hd, hr, hb'⟩ := h.box
  obtain ⟨d', hd', ed⟩ := same _ _ hd
  obtain ⟨r', hr', er⟩ := same _ _ hr
  refine ⟨lab', ⟨⟨d', r', hd', hr', by rw [ed, er]; exact q.block (hk7 0) l0.1 hb'⟩, h.jobs.kept k2 (q.not (hk7 1) l0.2.1), h.tubs.kept k2 (q.not (hk7 2) l0.2.2.1), ?_, ?_, ?_, fun e he => q.body (by omega) (h.body e he), q.own (Y := Y) h⟩, q.labs, k2.mono (fun k _ e => by show (lab k).1 ≤ 7; rw [e]; omega)⟩
  · refine (h.hels.kept k2 (q.not (hk7 3) l0.2.2.2)).congr rfl (fun n => ?_)
    show (updH Y.hp K (some g') (hkH n)).map (fun h => ptrV h.hb) = (Y.hp (hkH n)).map (fun h => ptrV h.hb)
    cases hx : Y.hp (hkH n) with
    | none =>
      rw [updH_ne _ _ (fun e => by rw [e, hK] at hx; cases hx), hx]
    | some x =>
      obtain ⟨y, hy, ey⟩ := same _ _ hx
      rw [hy]
      simp [ey]
  · intro J x hx
    by_cases e : J = K
    · subst e
      have hx : some g' = some x := (updH_at Y.hp J (some g')).symm.trans hx
      cases hx
      refine ⟨k5, h1, fun b hb => ?_⟩
      rcases m1 b hb with hm | hge
      · exact (q.labs b (hat.at_.lt b hm)).trans (hat.lab b hm)
      · rw [hlab]
        simp only []
        rw [if_neg (by omega)]
    · have hx : Y.hp J = some x := (updH_ne Y.hp (K := K) (some g') e).symm.trans hx
      obtain ⟨j5, ha⟩ := h.heap J x hx
      exact ⟨j5, q.heap e ha⟩
  · intro t b ht
    obtain ⟨lb, g0, g1, g2, e0, e1, e2, hbk⟩ := q.tubes (Y := Y) h (by omega) t b ht
    obtain ⟨y0, hy0, ey0⟩ := same _ _ e0
    obtain ⟨y1, hy1, ey1⟩ := same _ _ e1
    obtain ⟨y2, hy2, ey2⟩ := same _ _ e2
    exact ⟨lb, y0, y1, y2, hy0, hy1, hy2, by rw [ey0, ey1, ey2]; exact hbk⟩
/-- The map of jobs has changed. -/
theorem YAt.jobsTurned {w w2 : World} {lab : Nat → HK} {yb : Nat} {Y : Yd} (h : YAt w lab yb Y) (L' : List En) (hm : VTabI w2 Y.jm L'.length (fun i => (lookE L' i).map En.val)) (hg : w.grownBy w2 (some Y.jm)) (hb : ∀ e ∈ L', e ∈ Y.L ∨ BodyAt w lab e.bv e.body) :
    YAt w2 lab yb { Y with L := L' } ∧ Kept (Ours lab) w w2 := by
  have l0 := h.labs
  have k2 : Kept (fun k => lab k = (7, eB, 1)) w w2 := Kept.ofGrown hg (fun g e => by rw [← Option.some.inj e]; exact l0.2.1)
  have q : Rest w w2 lab lab (7, eB, 1) := ⟨k2, fun _ _ => rfl⟩
  have hk7 : ∀ (n : Int), n ≠ 1 → ((7, eB, n) : HK) ≠ (7, eB, 1) := fun n hn e => hn (by simpa using e)
  obtain ⟨d, r, hd, hr, hb'⟩ := h.box
  refine ⟨⟨⟨d, r, hd, hr, q.block (hk7 0 (by decide)) l0.1 hb'⟩, hm, h.tubs.kept k2 (q.not (hk7 2 (by decide)) l0.2.2.1), h.hels.kept k2 (q.not (hk7 3 (by decide)) l0.2.2.2), ?_, fun t b ht => q.tubes (Y := Y) h (by decide) t b ht, ?_, q.own (Y := Y) h⟩, k2.mono (fun k _ e => by show (lab k).1 ≤ 7; rw [e]; decide)⟩
  · intro J x hx
    obtain ⟨j5, ha⟩ := h.heap J x hx
    exact ⟨j5, q.heap (hk_ne (by show J.1 ≠ 7; omega)) ha⟩
  · intro e he
    rcases hb e he with h1 | h1
    · exact q.body (by decide) (h.body e h1)
    · exact q.body (by decide) h1
/-- The yard's sums have changed. -/
theorem YAt.sumsTurned {w w2 : World} {lab : Nat → HK} {yb : Nat} {Y : Yd} (h : YAt w lab yb Y) (s : Sm) {d r : HM} (hd : Y.hp hkD = some d) (hr : Y.hp hkR = some r) (hc : w2.heap[yb]? = some (.cells ([.map (some Y.jm), .map (some Y.tm), .map (some Y.hm), ptrV d.hb, ptrV r.hb] ++ s.cells).toArray 59 (0, 0))) (hk : Kept (fun k => k = yb) w w2) :
    YAt w2 lab yb { Y with sm := s } ∧ Kept (Ours lab) w w2 := by
  have l0 := h.labs
  have k2 : Kept (fun k => lab k = (7, eB, 0)) w w2 := hk.mono (fun k _ e => by rw [e]; exact l0.1)
  have q : Rest w w2 lab lab (7, eB, 0) := ⟨k2, fun _ _ => rfl⟩
  have hk7 : ∀ (n : Int), n ≠ 0 → ((7, eB, n) : HK) ≠ (7, eB, 0) := fun n hn e => hn (by simpa using e)
  refine ⟨⟨⟨d, r, hd, hr, hc⟩, h.jobs.kept k2 (q.not (hk7 1 (by decide)) l0.2.1), h.tubs.kept k2 (q.not (hk7 2 (by decide)) l0.2.2.1), h.hels.kept k2 (q.not (hk7 3 (by decide)) l0.2.2.2), ?_, fun t b ht => q.tubes (Y := Y) h (by decide) t b ht, fun e he => q.body (by decide) (h.body e he), q.own (Y := Y) h⟩, k2.mono (fun k _ e => by show (lab k).1 ≤ 7; rw [e]; decide)⟩
  intro J x hx
  obtain ⟨j5, ha⟩ := h.heap J x hx
  exact ⟨j5, q.heap (hk_ne (by show J.1 ≠ 7; omega)) ha⟩
/-- A tube's sums have changed. -/
theorem YAt.tubeTurned {w w2 : World} {lab : Nat → HK} {yb : Nat} {Y : Yd} (h : YAt w lab yb Y) (t : ByteArray) (s : Sm) {b : Nat} {h0 h1 h2 : HM} (ht : Y.tb t = some b) (e0 : Y.hp (hkT 0 t) = some h0) (e1 : Y.hp (hkT 1 t) = some h1) (e2 : Y.hp (hkT 2 t) = some h2) (hc : w2.heap[b]? = some (.cells ([ptrV h0.hb, ptrV h1.hb, ptrV h2.hb] ++ s.cells).toArray 61 (0, 0))) (hk : Kept (fun k => k = b) w w2) :
    YAt w2 lab yb { Y with ts := updT Y.ts t s } ∧ Kept (Ours lab) w w2 := by
  have l0 := h.labs
  have lb := (h.tube t b ht).1
  have k2 : Kept (fun k => lab k = hkT 6 t) w w2 := hk.mono (fun k _ e => by rw [e]; exact lb)
  have q : Rest w w2 lab lab (hkT 6 t) := ⟨k2, fun _ _ => rfl⟩
  have hk7 : ∀ (n : Int), ((7, eB, n) : HK) ≠ hkT 6 t := fun n => hk_ne (show (7 : Nat) ≠ 6 by omega)
  obtain ⟨d, r, hd, hr, hb'⟩ := h.box
  refine ⟨⟨⟨d, r, hd, hr, q.block (hk7 0) l0.1 hb'⟩, h.jobs.kept k2 (q.not (hk7 1) l0.2.1), h.tubs.kept k2 (q.not (hk7 2) l0.2.2.1), h.hels.kept k2 (q.not (hk7 3) l0.2.2.2), ?_, ?_, fun e he => q.body (show (6 : Nat) ≠ 8 by omega) (h.body e he), q.own (Y := Y) h⟩, k2.mono (fun k _ e => by show (lab k).1 ≤ 7; rw [e]; show (6 : Nat) ≤ 7; omega)⟩
  · intro J x hx
    obtain ⟨j5, ha⟩ := h.heap J x hx
    exact ⟨j5, q.heap (hk_ne (by show J.1 ≠ 6; omega)) ha⟩
  · intro u c hu
    by_cases e : u = t
    · subst e
      have hu' : Y.tb u = some c := hu
      rw [ht] at hu'
      cases hu'
      refine ⟨lb, h0, h1, h2, e0, e1, e2, ?_⟩
      show w2.heap[b]? = some (.cells ([ptrV h0.hb, ptrV h1.hb, ptrV h2.hb] ++ (updT Y.ts u s u).cells).toArray 61 (0, 0))
      rw [show updT Y.ts u s u = s from if_pos rfl]
      exact hc
    · obtain ⟨lc, g0, g1, g2, i0, i1, i2, hbk⟩ := h.tube u c hu
      refine ⟨lc, g0, g1, g2, i0, i1, i2, ?_⟩
      show w2.heap[c]? = some (.cells ([ptrV g0.hb, ptrV g1.hb, ptrV g2.hb] ++ (updT Y.ts t s u).cells).toArray 61 (0, 0))
      rw [show updT Y.ts t s u = Y.ts u from if_neg e]
      exact q.block (fun e2 => e (by simpa using e2)) lc hbk
end Go.Proofs.Ytonfdmbcbfpgdaa
