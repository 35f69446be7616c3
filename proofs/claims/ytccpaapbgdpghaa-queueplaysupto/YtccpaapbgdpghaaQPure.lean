/-
  A list that is linked both ways, in memory.
-/
import Derived.Test.YtccpaapbgdpghaaKit
namespace Go.Proofs.Ytccpaapbgdpghaa
open Go.RowKit

/-- Who stands in a queue: the place's block, the ticket, the thing. -/
structure Stand where
  blk : Nat
  tk : Int
  v : Value
def ptrOf : Option Nat → Value
  | none => .pointer none
  | some b => .pointer (some ⟨b, 0, none⟩)
def fst : List Stand → Option Nat → Option Nat
  | [], n => n
  | r :: _, _ => some r.blk
def lst : Option Nat → List Stand → Option Nat
  | p, [] => p
  | _, r :: R => lst (some r.blk) R
def cellsAt (r : Stand) (p n : Option Nat) : Array Value := #[.int .i64 r.tk, r.v, ptrOf p, ptrOf n]
/-- Some that stand one behind the other: p is ahead of them, n behind. -/
def Seg (t : TypeId) (w : World) : Option Nat → List Stand → Option Nat → Prop
  | _, [], _ => True
  | p, r :: R, n => w.heap[r.blk]? = some (.cells (cellsAt r p (fst R n)) t (0, 0)) ∧ Seg t w (some r.blk) R n

theorem fst_append (A B : List Stand) (n : Option Nat) : fst (A ++ B) n = fst A (fst B n) := by cases A <;> rfl
theorem lst_append (A B : List Stand) (p : Option Nat) : lst p (A ++ B) = lst (lst p A) B := by
  induction A generalizing p with
  | nil => rfl
  | cons a A ih => exact ih _
theorem seg_append (t : TypeId) (w : World) (A B : List Stand) (p n : Option Nat) : Seg t w p (A ++ B) n ↔ Seg t w p A (fst B n) ∧ Seg t w (lst p A) B n := by
  induction A generalizing p with
  | nil => simp [Seg, lst]
  | cons a A ih => simp only [List.cons_append, Seg, ih, fst_append, lst, and_assoc]
theorem Seg.block {t : TypeId} {w : World} {p n : Option Nat} {R : List Stand} (h : Seg t w p R n) {r : Stand} (hr : r ∈ R) : ∃ c, w.heap[r.blk]? = some (.cells c t (0, 0)) := by
  induction R generalizing p with
  | nil => cases hr
  | cons a R ih =>
    rcases List.mem_cons.1 hr with rfl | hr
    · exact ⟨_, h.1⟩
    · exact ih h.2 hr
theorem Seg.size4 {t : TypeId} {w : World} {p n : Option Nat} {R : List Stand} (h : Seg t w p R n) {r : Stand} (hr : r ∈ R) : ∃ c, w.heap[r.blk]? = some (.cells c t (0, 0)) ∧ c.size = 4 := by
  induction R generalizing p with
  | nil => cases hr
  | cons a R ih =>
    rcases List.mem_cons.1 hr with rfl | hr
    · exact ⟨_, h.1, rfl⟩
    · exact ih h.2 hr
theorem Seg.cells {t : TypeId} {w : World} {p n : Option Nat} {R : List Stand} (h : Seg t w p R n) {r : Stand} (hr : r ∈ R) : ∃ p' n', w.heap[r.blk]? = some (.cells (cellsAt r p' n') t (0, 0)) := by
  induction R generalizing p with
  | nil => cases hr
  | cons a R ih =>
    rcases List.mem_cons.1 hr with rfl | hr
    · exact ⟨_, _, h.1⟩
    · exact ih h.2 hr
theorem Seg.kept {t : TypeId} {w w' : World} {p n : Option Nat} {R : List Stand} (h : Seg t w p R n) (hk : ∀ r ∈ R, w'.heap[r.blk]? = w.heap[r.blk]?) : Seg t w' p R n := by
  induction R generalizing p with
  | nil => trivial
  | cons a R ih => exact ⟨(hk a (by simp)).trans h.1, ih h.2 (fun r hr => hk r (by simp [hr]))⟩
theorem lst_mem {p : Option Nat} {A : List Stand} {x : Nat} (h : lst p A = some x) (hA : A ≠ []) : ∃ r ∈ A, r.blk = x := by
  induction A generalizing p with
  | nil => exact absurd rfl hA
  | cons a A ih =>
    cases A with
    | nil => exact ⟨a, by simp, by simpa [lst] using h⟩
    | cons b A =>
      obtain ⟨r, hr, e⟩ := ih (p := some a.blk) h (by simp)
      exact ⟨r, by simp [hr], e⟩
theorem lst_none {A : List Stand} (h : lst none A = none) : A = [] := by
  cases A with
  | nil => rfl
  | cons a A =>
    exfalso
    have : ∀ (A : List Stand) (x : Nat), lst (some x) A ≠ none := by
      intro A
      induction A with
      | nil => intro x h; simp [lst] at h
      | cons a A ih => intro x; exact ih a.blk
    exact this A a.blk h
theorem fst_none {A : List Stand} (h : fst A none = none) : A = [] := by cases A with | nil => rfl | cons a A => simp [fst] at h
theorem fst_some {A : List Stand} {y : Nat} (h : fst A none = some y) : ∃ r A', A = r :: A' ∧ r.blk = y := by
  cases A with
  | nil => simp [fst] at h
  | cons a A => exact ⟨a, A, rfl, by simpa [fst] using h⟩
theorem set_other (w : World) (b i : Nat) (v : Value) (k : Nat) (hk : k ≠ b) : (w.setCell ⟨b, i, none⟩ v).heap[k]? = w.heap[k]? := Below.heap_setCell w ⟨b, i, none⟩ v k (fun e => hk e)
/-- Whom the last one tells behind it. -/
theorem Seg.next {t : TypeId} {w : World} {p n : Option Nat} {A : List Stand} (h : Seg t w p A n) (hN : (A.map Stand.blk).Nodup) {x : Nat} (hx : lst p A = some x) (hA : A ≠ []) (n' : Option Nat) : Seg t (w.setCell ⟨x, 3, none⟩ (ptrOf n')) p A n' := by
  induction A generalizing p with
  | nil => exact absurd rfl hA
  | cons a A ih =>
    cases A with
    | nil =>
      obtain rfl : a.blk = x := by simpa [lst] using hx
      refine ⟨?_, trivial⟩
      rw [(set_cells h.1 3 (ptrOf n')).1]
      simp [cellsAt, fst]
    | cons b A =>
      simp only [List.map_cons, List.nodup_cons] at hN
      obtain ⟨r, hr, e⟩ := lst_mem (p := some a.blk) hx (by simp)
      refine ⟨?_, ih h.2 (by simpa using hN.2) hx (by simp)⟩
      have hne : a.blk ≠ x := fun e2 => by
        apply hN.1
        rw [e2, ← e]
        simpa using List.mem_map_of_mem (f := Stand.blk) hr
      rw [set_other _ _ _ _ _ hne]
      exact h.1
/-- Whom the first one tells ahead of it. -/
theorem Seg.prev {t : TypeId} {w : World} {p n : Option Nat} {y : Stand} {B : List Stand} (h : Seg t w p (y :: B) n) (hN : ((y :: B).map Stand.blk).Nodup) (p' : Option Nat) : Seg t (w.setCell ⟨y.blk, 2, none⟩ (ptrOf p')) p' (y :: B) n := by
  refine ⟨?_, h.2.kept fun r hr => ?_⟩
  · rw [(set_cells h.1 2 (ptrOf p')).1]
    simp [cellsAt]
  · simp only [List.map_cons, List.nodup_cons] at hN
    exact set_other _ _ _ _ _ (fun e => hN.1 (e ▸ List.mem_map_of_mem hr))

/-- A queue at qb, without its map. -/
structure LinkAt (tq tp : TypeId) (w : World) (qb mb : Nat) (given : Int) (R : List Stand) : Prop where
  box : w.heap[qb]? = some (.cells #[ptrOf (fst R none), ptrOf (lst none R), .map (some mb), .int .i64 given] tq (0, 0))
  seg : Seg tp w none R none
  nod : (R.map Stand.blk).Nodup

theorem LinkAt.kept {tq tp : TypeId} {w w' : World} {qb mb : Nat} {given : Int} {R : List Stand} (h : LinkAt tq tp w qb mb given R) (hq : w'.heap[qb]? = w.heap[qb]?) (hk : ∀ r ∈ R, w'.heap[r.blk]? = w.heap[r.blk]?) : LinkAt tq tp w' qb mb given R :=
  ⟨hq.trans h.box, h.seg.kept hk, h.nod⟩
theorem LinkAt.drew {tq tp : TypeId} {w : World} {qb mb : Nat} {given : Int} {R : List Stand} (h : LinkAt tq tp w qb mb given R) : LinkAt tq tp w.drew qb mb given R := h.kept rfl (fun _ _ => rfl)
theorem Kept.drew {P : Nat → Prop} {w w' : World} (h : Kept P w w') : Kept P w w'.drew := ⟨h.os, h.tape, h.output, h.size, h.block⟩
theorem LinkAt.apart {tq tp : TypeId} (ht : tq ≠ tp) {w : World} {qb mb : Nat} {given : Int} {R : List Stand} (h : LinkAt tq tp w qb mb given R) {r : Stand} (hr : r ∈ R) : r.blk ≠ qb := by
  intro e
  obtain ⟨c, hc⟩ := h.seg.block hr
  rw [e, h.box] at hc
  simp at hc
  exact ht hc.2

/-- Where 'unlink' writes first. -/
def unl1 (w : World) (qb : Nat) (A B : List Stand) : World := match lst none A with
  | none => w.setCell ⟨qb, 0, none⟩ (ptrOf (fst B none))
  | some x => w.setCell ⟨x, 3, none⟩ (ptrOf (fst B none))
def unl2 (w : World) (qb : Nat) (A B : List Stand) : World := match fst B none with
  | none => w.setCell ⟨qb, 1, none⟩ (ptrOf (lst none A))
  | some y => w.setCell ⟨y, 2, none⟩ (ptrOf (lst none A))
/-- The blocks of a queue. -/
def Mine (qb mb : Nat) (R : List Stand) (k : Nat) : Prop := k = qb ∨ k = mb ∨ ∃ r ∈ R, r.blk = k

theorem mine_filter {qb mb : Nat} {R : List Stand} {f : Stand → Bool} {k : Nat} (h : Mine qb mb (R.filter f) k) : Mine qb mb R k := by
  rcases h with h | h | ⟨r, hr, e⟩
  · exact .inl h
  · exact .inr (.inl h)
  · exact .inr (.inr ⟨r, (List.mem_filter.1 hr).1, e⟩)

theorem unlinked {tq tp : TypeId} (ht : tq ≠ tp) {w : World} {qb mb : Nat} {given : Int} {A B : List Stand} {r : Stand} (h : LinkAt tq tp w qb mb given (A ++ r :: B)) :
    LinkAt tq tp (unl2 (unl1 w qb A B) qb A B) qb mb given (A ++ B) ∧ (unl2 (unl1 w qb A B) qb A B).heap[r.blk]? = w.heap[r.blk]? ∧ Kept (fun k => k = qb ∨ ∃ r ∈ A ++ B, r.blk = k) w (unl2 (unl1 w qb A B) qb A B) := by
  have hap := fun {s : Stand} (hs : s ∈ A ++ r :: B) => h.apart ht hs
  obtain ⟨box, seg, nod⟩ := h
  rw [seg_append] at seg
  obtain ⟨sA, sr, sB⟩ := seg
  simp only [List.map_append, List.map_cons] at nod
  rw [List.nodup_append] at nod
  obtain ⟨nA, nrB, nD⟩ := nod
  rw [List.nodup_cons] at nrB
  have rq : r.blk ≠ qb := hap (by simp)
  have aq : ∀ s ∈ A, s.blk ≠ qb := fun s hs => hap (by simp [hs])
  have bq : ∀ s ∈ B, s.blk ≠ qb := fun s hs => hap (by simp [hs])
  have ab : ∀ s ∈ A, ∀ u ∈ B, s.blk ≠ u.blk := fun s hs u hu => nD _ (List.mem_map_of_mem hs) _ (by simp [List.mem_map_of_mem (f := Stand.blk) hu])
  have ar : ∀ s ∈ A, s.blk ≠ r.blk := fun s hs => nD _ (List.mem_map_of_mem hs) _ (by simp)
  have br : ∀ s ∈ B, s.blk ≠ r.blk := fun s hs e => nrB.1 (e ▸ List.mem_map_of_mem hs)
  have e1 : fst (A ++ r :: B) none = fst A (some r.blk) := by rw [fst_append]; rfl
  have e2 : lst none (A ++ r :: B) = lst (some r.blk) B := by rw [lst_append]; rfl
  have f1 : fst (A ++ B) none = fst A (fst B none) := fst_append _ _ _
  have f2 : lst none (A ++ B) = lst (lst none A) B := lst_append _ _ _
  rw [e1, e2] at box
  have nAB : ((A ++ B).map Stand.blk).Nodup := by
    rw [List.map_append, List.nodup_append]
    exact ⟨nA, nrB.2, fun a ha b hb => nD a ha b (by simp [hb])⟩
  -- the first one
  have H1 : Seg tp (unl1 w qb A B) none A (fst B none) ∧ (unl1 w qb A B).heap[qb]? = some (.cells #[ptrOf (fst A (fst B none)), ptrOf (lst (some r.blk) B), .map (some mb), .int .i64 given] tq (0, 0)) ∧ (∀ u ∈ r :: B, (unl1 w qb A B).heap[u.blk]? = w.heap[u.blk]?) ∧ Kept (fun k => k = qb ∨ ∃ r ∈ A ++ B, r.blk = k) w (unl1 w qb A B) := by
    unfold unl1
    cases hA : lst none A with
    | none =>
      obtain rfl := lst_none hA
      refine ⟨trivial, ?_, ?_, Kept.setCell _ _ _ _ _ (.inl rfl)⟩
      · simp only []
        rw [(set_cells box 0 _).1]
        simp [fst]
      · intro u hu
        exact set_other _ _ _ _ _ (hap (by simpa using hu))
    | some x =>
      have hne : A ≠ [] := fun e => by rw [e] at hA; simp [lst] at hA
      obtain ⟨s, hs, rfl⟩ := lst_mem hA hne
      refine ⟨sA.next nA hA hne _, ?_, ?_, Kept.setCell _ _ _ _ _ (.inr ⟨s, by simp [hs], rfl⟩)⟩
      · simp only []
        rw [set_other _ _ _ _ _ (aq s hs).symm, box]
        cases A with
        | nil => exact absurd rfl hne
        | cons a A => rfl
      · intro u hu
        refine set_other _ _ _ _ _ ?_
        rcases List.mem_cons.1 hu with rfl | hu
        · exact (ar s hs).symm
        · exact (ab s hs u hu).symm
  obtain ⟨s1, b1, o1, k1⟩ := H1
  generalize unl1 w qb A B = w1 at s1 b1 o1 k1 ⊢
  have sB1 : Seg tp w1 (some r.blk) B none := sB.kept fun u hu => o1 u (by simp [hu])
  unfold unl2
  cases hB : fst B none with
  | none =>
    obtain rfl := fst_none hB
    simp only [List.append_nil] at *
    refine ⟨⟨?_, ?_, nA⟩, (set_other _ _ _ _ _ rq).trans (o1 r (by simp)), k1.trans (Kept.setCell _ _ _ _ _ (.inl rfl))⟩
    · rw [(set_cells b1 1 _).1]
      simp [hB]
    · rw [hB] at s1
      exact s1.kept fun u hu => set_other _ _ _ _ _ (aq u hu)
  | some y =>
    obtain ⟨u, B', rfl, rfl⟩ := fst_some hB
    refine ⟨⟨?_, ?_, nAB⟩, (set_other _ _ _ _ _ (br u (by simp)).symm).trans (o1 r (by simp)), k1.trans (Kept.setCell _ _ _ _ _ (.inr ⟨u, by simp, rfl⟩))⟩
    · rw [set_other _ _ _ _ _ (bq u (by simp)).symm, b1, f1, f2]
      rfl
    · rw [seg_append]
      refine ⟨s1.kept fun s hs => set_other _ _ _ _ _ (ab s hs u (by simp)), sB1.prev nrB.2 _⟩

/-- One more behind them all: its block is new. -/
def laid1 (w : World) (qb nb : Nat) (R : List Stand) : World := match lst none R with
  | none => w.setCell ⟨qb, 0, none⟩ (ptrOf (some nb))
  | some x => w.setCell ⟨x, 3, none⟩ (ptrOf (some nb))
theorem laid {tq tp : TypeId} (ht : tq ≠ tp) {w : World} {qb mb : Nat} {given : Int} {R : List Stand} {r : Stand} (h : LinkAt tq tp w qb mb given R) (hr : w.heap[r.blk]? = some (.cells (cellsAt r (lst none R) none) tp (0, 0))) (hn : ∀ s ∈ R, s.blk ≠ r.blk) :
    LinkAt tq tp ((laid1 w qb r.blk R).setCell ⟨qb, 1, none⟩ (ptrOf (some r.blk))) qb mb given (R ++ [r]) ∧ Kept (fun k => k = qb ∨ ∃ r ∈ R, r.blk = k) w ((laid1 w qb r.blk R).setCell ⟨qb, 1, none⟩ (ptrOf (some r.blk))) := by
  have hap := fun {s : Stand} (hs : s ∈ R) => h.apart ht hs
  have hrq : r.blk ≠ qb := by
    intro e
    rw [e, h.box] at hr
    simp at hr
    exact ht hr.2
  obtain ⟨box, seg, nod⟩ := h
  have nod' : ((R ++ [r]).map Stand.blk).Nodup := by
    rw [List.map_append, List.nodup_append]
    refine ⟨nod, by simp, fun a ha b hb => ?_⟩
    obtain ⟨s, hs, rfl⟩ := List.mem_map.1 ha
    simp only [List.map_cons, List.map_nil, List.mem_singleton] at hb
    rw [hb]
    exact hn s hs
  have H1 : Seg tp (laid1 w qb r.blk R) none R (some r.blk) ∧ (laid1 w qb r.blk R).heap[qb]? = some (.cells #[ptrOf (fst R (some r.blk)), ptrOf (lst none R), .map (some mb), .int .i64 given] tq (0, 0)) ∧ (laid1 w qb r.blk R).heap[r.blk]? = w.heap[r.blk]? ∧ Kept (fun k => k = qb ∨ ∃ r ∈ R, r.blk = k) w (laid1 w qb r.blk R) := by
    unfold laid1
    cases hR : lst none R with
    | none =>
      obtain rfl := lst_none hR
      refine ⟨trivial, ?_, set_other _ _ _ _ _ hrq, Kept.setCell _ _ _ _ _ (.inl rfl)⟩
      simp only []
      rw [(set_cells box 0 _).1]
      simp [fst, lst]
    | some x =>
      have hne : R ≠ [] := fun e => by rw [e] at hR; simp [lst] at hR
      obtain ⟨s, hs, rfl⟩ := lst_mem hR hne
      refine ⟨seg.next nod hR hne _, ?_, set_other _ _ _ _ _ (hn s hs).symm, Kept.setCell _ _ _ _ _ (.inr ⟨s, hs, rfl⟩)⟩
      simp only []
      rw [set_other _ _ _ _ _ (hap hs).symm, box, hR]
      cases R with
      | nil => exact absurd rfl hne
      | cons a R => rfl
  obtain ⟨s1, b1, o1, k1⟩ := H1
  generalize laid1 w qb r.blk R = w1 at s1 b1 o1 k1 ⊢
  refine ⟨⟨?_, ?_, nod'⟩, k1.trans (Kept.setCell _ _ _ _ _ (.inl rfl))⟩
  · rw [(set_cells b1 1 _).1, fst_append, lst_append]
    simp [fst, lst]
  · rw [seg_append]
    exact ⟨s1.kept fun s hs => set_other _ _ _ _ _ (hap hs), ((set_other _ _ _ _ _ hrq).trans o1).trans hr, trivial⟩

/-- Where one is that has a ticket. -/
def whereIs (R : List Stand) (t : Int) : Option Nat := (R.find? (fun r => r.tk == t)).map Stand.blk
theorem whereIs_join (R : List Stand) (n : Stand) (h : ∀ r ∈ R, r.tk ≠ n.tk) (t : Int) : whereIs (R ++ [n]) t = if t = n.tk then some n.blk else whereIs R t := by
  unfold whereIs
  rw [List.find?_append]
  by_cases e : t = n.tk
  · subst e
    have : R.find? (fun r => r.tk == n.tk) = none := by simpa using h
    simp [this]
  · rw [if_neg e]
    have : (n.tk == t) = false := by simpa using fun h => e h.symm
    simp [this]
theorem whereIs_leave (A B : List Stand) (r : Stand) (h : ∀ s ∈ A ++ B, s.tk ≠ r.tk) (t : Int) : whereIs (A ++ B) t = if t = r.tk then none else whereIs (A ++ r :: B) t := by
  unfold whereIs
  by_cases e : t = r.tk
  · subst e
    rw [if_pos rfl]
    have : (A ++ B).find? (fun s => s.tk == r.tk) = none := by
      rw [List.find?_eq_none]
      intro s hs
      simpa using h s hs
    rw [this]; rfl
  · rw [if_neg e, List.find?_append, List.find?_append, List.find?_cons]
    have : (r.tk == t) = false := by simpa using fun h => e h.symm
    rw [this]
theorem find_split (R : List Stand) (t : Int) : (R.find? (fun r => r.tk == t) = none) ∨ ∃ A r B, R = A ++ r :: B ∧ r.tk = t ∧ (∀ s ∈ A, s.tk ≠ t) ∧ R.find? (fun r => r.tk == t) = some r := by
  cases h : R.find? (fun r => r.tk == t) with
  | none => exact .inl rfl
  | some r =>
    obtain ⟨h1, A, B, h2, h3⟩ := List.find?_eq_some_iff_append.1 h
    exact .inr ⟨A, r, B, h2, by simpa using h1, fun s hs => by simpa using h3 s hs, rfl⟩
theorem LinkAt.alloc {tq tp : TypeId} {w : World} {qb mb : Nat} {given : Int} {R : List Stand} (h : LinkAt tq tp w qb mb given R) (o : Obj) : LinkAt tq tp (w.alloc o) qb mb given R :=
  h.kept (heap_alloc_old w o (Array.getElem?_eq_some_iff.1 h.box).1) (fun r hr => by
    obtain ⟨c, hc⟩ := h.seg.block hr
    exact heap_alloc_old w o (Array.getElem?_eq_some_iff.1 hc).1)

theorem up_ne {A B : List Stand} {r : Stand} (h : (A ++ r :: B).Pairwise (fun a b => a.tk < b.tk)) : ∀ s ∈ A ++ B, s.tk ≠ r.tk := by
  rw [List.pairwise_append, List.pairwise_cons] at h
  intro s hs
  rcases List.mem_append.1 hs with hs | hs
  · have := h.2.2 s hs r (by simp); omega
  · have := h.2.1.1 s hs; omega

def ptrs (R : List Stand) : List Value := R.map (fun r => .pointer (some ⟨r.blk, 0, none⟩))
theorem ptrs_length (R : List Stand) : (ptrs R).length = R.length := by simp [ptrs]
end Go.Proofs.Ytccpaapbgdpghaa
