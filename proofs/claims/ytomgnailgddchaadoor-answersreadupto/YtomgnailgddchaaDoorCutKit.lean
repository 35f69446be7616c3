/-
  Two readers and a list of replies, side by side.
-/
import Derived.Test.YtomgnailgddchaaDoorJM
import Derived.Test.YtomgnailgddchaaDoorJL
import Derived.Test.YtomgnailgddchaaDoorPlainCut
import Derived.Deep.AppendLies
namespace Go.Proofs.YtomgnailgddchaaDoor
open Go.RowKit

theorem RdAt.kept {P : Nat → Prop} {w w' : World} {rb : Nat} {v : Value} {A : List UInt8} {g : Nat} (h : RdAt w rb v A g) (hk : Kept P w w') (hP : ∀ k, Mine rb v k → ¬ P k) : RdAt w' rb v A g := by
  obtain ⟨s, h1, h2, h3⟩ := h
  exact ⟨s, h1.kept hk (hP rb (.inl rfl)), h2.kept hk (fun k e => hP k (.inr e)), h3⟩
theorem RdAt.lt {w : World} {rb : Nat} {v : Value} {A : List UInt8} {g : Nat} (h : RdAt w rb v A g) {k : Nat} (hk : Mine rb v k) : k < w.heap.size := by
  obtain ⟨s, h1, h2, h3⟩ := h
  rcases hk with rfl | hk
  · exact h1.lt
  · exact (h2.old k hk).2
theorem RdAt.notRow {w : World} {rb : Nat} {v : Value} {A : List UInt8} {g : Nat} (h : RdAt w rb v A g) {k : Nat} {cur : Array Value} (hc : w.heap[k]? = some (.cells cur 45 (0, 0))) : ¬ Mine rb v k := by
  obtain ⟨s, h1, h2, h3⟩ := h
  rintro (rfl | hk)
  · unfold RdBox at h1
    rw [h1] at hc
    simp at hc
  · rcases h2.2 with ⟨rfl, _⟩ | ⟨g', cap, cu, rfl, _, hg, _⟩
    · cases hk
    · simp only [Value.ownBlock, Option.some.injEq] at hk
      subst hk
      rw [hg] at hc
      simp at hc

/-- The cells of a reply in a list. -/
def cellR (p : Rp × Value) : List Value := [.int .i64 p.1.kind, .int .i64 p.1.id, .int .i64 p.1.num, .string ⟨p.1.tube.toArray⟩, p.2]
def flatR (P : List (Rp × Value)) : List Value := P.flatMap cellR
theorem flatR_get (P : List (Rp × Value)) (i : Nat) (p : Rp × Value) (hp : P[i]? = some p) (j : Nat) (hj : j < 5) : (flatR P)[i * 5 + j]? = (cellR p)[j]? := by
  induction P generalizing i with
  | nil => simp at hp
  | cons x r ih =>
    cases i with
    | zero =>
      simp only [List.getElem?_cons_zero, Option.some.injEq] at hp
      subst hp
      simp only [flatR, List.flatMap_cons]
      rw [List.getElem?_append_left (by simp [cellR]; omega)]
      congr 1
      omega
    | succ i =>
      simp only [List.getElem?_cons_succ] at hp
      simp only [flatR, List.flatMap_cons]
      rw [List.getElem?_append_right (by simp [cellR]; omega), show (i + 1) * 5 + j - (cellR x).length = i * 5 + j by simp [cellR]; omega]
      exact ih i hp
/-- A list of replies that lies in blocks from lo on. -/
structure RepsAt (w : World) (lo : Nat) (v : Value) (P : List (Rp × Value)) : Prop where
  row : w.ownsRow lo 45 5 v P.length (flatR P)
  body : ∀ p ∈ P, Own w lo p.2 p.1.body
theorem RepsAt.block {w : World} {lo : Nat} {v : Value} {P : List (Rp × Value)} (h : RepsAt w lo v P) {k : Nat} (hk : v.ownBlock = some k) : ∃ cur, w.heap[k]? = some (.cells cur 45 (0, 0)) ∧ lo ≤ k := by
  rcases h.row.2 with ⟨rfl, _⟩ | ⟨g, cap, cur, rfl, hB, hg, _⟩
  · cases hk
  · simp only [Value.ownBlock, Option.some.injEq] at hk
    subst hk
    exact ⟨cur, hg, hB⟩
theorem RepsAt.kept {K : Nat → Prop} {w w' : World} {lo : Nat} {v : Value} {P : List (Rp × Value)} (h : RepsAt w lo v P) (hk : Kept K w w') (h1 : ∀ k, v.ownBlock = some k → ¬ K k) (h2 : ∀ p ∈ P, ∀ k, p.2.ownBlock = some k → ¬ K k) : RepsAt w' lo v P := by
  refine ⟨⟨h.row.1, ?_⟩, fun p hp => (h.body p hp).kept hk (h2 p hp)⟩
  rcases h.row.2 with h0 | ⟨g, cap, cur, rfl, hB, hg, rest⟩
  · exact .inl h0
  · exact .inr ⟨g, cap, cur, rfl, hB, (hk.block g (Array.getElem?_eq_some_iff.1 hg).1 (h1 g rfl)).trans hg, rest⟩

/-- Two readers, a list of replies. -/
structure Desk (w0 w : World) (wb : Nat) (wv : Value) (b : List UInt8) (gw pb : Nat) (pv : Value) (A : List UInt8) (gp : Nat) (v : Value) (P : List (Rp × Value)) : Prop where
  below : Below w0.heap.size w0 w
  whole : RdAt w wb wv b gw
  parts : RdAt w pb pv A gp
  reps : RepsAt w w0.heap.size v P
  ap1 : ∀ k, Mine wb wv k → ¬ Mine pb pv k
  ap2 : ∀ p ∈ P, ∀ k, p.2.ownBlock = some k → ¬ Mine wb wv k ∧ ¬ Mine pb pv k
  low : ∀ k, Mine wb wv k ∨ Mine pb pv k → w0.heap.size ≤ k

section
variable {w0 w w' : World} {wb : Nat} {wv : Value} {b : List UInt8} {gw pb : Nat} {pv : Value} {A : List UInt8} {gp : Nat} {v : Value} {P : List (Rp × Value)}
theorem Desk.later (h : Desk w0 w wb wv b gw pb pv A gp v P) (hb : Below w.heap.size w w') : Desk w0 w' wb wv b gw pb pv A gp v P :=
  ⟨h.below.trans (hb.mono h.below.size), h.whole.below hb, h.parts.below hb, h.reps.kept (K := fun _ => False) (Kept.ofBelow hb) (fun _ _ => id) (fun _ _ _ _ => id), h.ap1, h.ap2, h.low⟩
theorem Desk.part (h : Desk w0 w wb wv b gw pb pv A gp v P) {A' : List UInt8} {g' : Nat} {pv' : Value} (h1 : RdAt w' pb pv' A' g') (h2 : Kept (Mine pb pv) w w') (h3 : ∀ k, Mine pb pv' k → Mine pb pv k ∨ w.heap.size ≤ k) : Desk w0 w' wb wv b gw pb pv' A' g' v P := by
  have hs := h.below.size
  refine ⟨h.below.trans (h2.below hs (fun k hk e => ?_)), h.whole.kept h2 h.ap1, h1, h.reps.kept h2 (fun k e => ?_) (fun p hp k e => (h.ap2 p hp k e).2), fun k hk e => ?_, fun p hp k e => ⟨(h.ap2 p hp k e).1, fun hm => ?_⟩, fun k hk => ?_⟩
  · have := h.low k (.inr e)
    omega
  · obtain ⟨cur, hc, _⟩ := h.reps.block e
    exact h.parts.notRow hc
  · rcases h3 k e with e | e
    · exact h.ap1 k hk e
    · have := h.whole.lt hk
      omega
  · rcases h3 k hm with hm | hm
    · exact (h.ap2 p hp k e).2 hm
    · have := ((h.reps.body p hp).old k e).2
      omega
  · rcases hk with hk | hk
    · exact h.low k (.inl hk)
    · rcases h3 k hk with hk | hk
      · exact h.low k (.inr hk)
      · omega
theorem Desk.whol (h : Desk w0 w wb wv b gw pb pv A gp v P) {b' : List UInt8} {g' : Nat} {wv' : Value} (h1 : RdAt w' wb wv' b' g') (h2 : Kept (Mine wb wv) w w') (h3 : ∀ k, Mine wb wv' k → Mine wb wv k ∨ w.heap.size ≤ k) : Desk w0 w' wb wv' b' g' pb pv A gp v P := by
  have hs := h.below.size
  refine ⟨h.below.trans (h2.below hs (fun k hk e => ?_)), h1, h.parts.kept h2 (fun k hk e => h.ap1 k e hk), h.reps.kept h2 (fun k e => ?_) (fun p hp k e => (h.ap2 p hp k e).1), fun k hk e => ?_, fun p hp k e => ⟨fun hm => ?_, (h.ap2 p hp k e).2⟩, fun k hk => ?_⟩
  · have := h.low k (.inl e)
    omega
  · obtain ⟨cur, hc, _⟩ := h.reps.block e
    exact h.whole.notRow hc
  · rcases h3 k hk with hk | hk
    · exact h.ap1 k hk e
    · have := h.parts.lt e
      omega
  · rcases h3 k hm with hm | hm
    · exact (h.ap2 p hp k e).1 hm
    · have := ((h.reps.body p hp).old k e).2
      omega
  · rcases hk with hk | hk
    · rcases h3 k hk with hk | hk
      · exact h.low k (.inl hk)
      · omega
    · exact h.low k (.inr hk)
end

theorem info_reply : (Tryd.prog.info? 45).map (fun i => (i.zero, i.size, i.bytes)) = some (some (.agg #[.int .i64 0, .int .i64 0, .int .i64 0, .string ⟨#[]⟩, .slice none 0 0]), 5, 64) := by kernel_rfl
end Go.Proofs.YtomgnailgddchaaDoor
