/-
  The desk of QueuePlays: pairs that lie apart, and two lists of them.
-/
import Derived.Test.YtccpaapbgdpghaaPairQ
import Derived.Test.YtccpaapbgdpghaaRowO
namespace Go.Proofs.Ytccpaapbgdpghaa
open Go.RowKit

/-- All pairs that were ever made. -/
structure Prs (B N : Nat) (W : World) (P : List Pq) : Prop where
  each : ∀ (i : Nat) p, P[i]? = some p → PqAt B W p
  few : ∀ (i : Nat) p, P[i]? = some p → p.R.length ≤ N ∧ p.g ≤ (N : Int)
  base : ∀ (i : Nat) p, P[i]? = some p → ∀ k, p.mine k → B ≤ k
  apart : ∀ (i j : Nat) p q, P[i]? = some p → P[j]? = some q → i ≠ j → ∀ k, p.mine k → ¬ q.mine k
theorem Prs.kept {B N : Nat} {W W' : World} {P : List Pq} (h : Prs B N W P) {Q : Nat → Prop} (hk : Kept Q W W') (hQ : ∀ (i : Nat) p, P[i]? = some p → ∀ k, p.mine k → ¬ Q k) : Prs B N W' P :=
  ⟨fun i p e => (h.each i p e).kept hk (hQ i p e), h.few, h.base, h.apart⟩
theorem Prs.turn {B N : Nat} {W W' : World} {P : List Pq} (h : Prs B N W P) {i : Nat} {p p' : Pq} (hi : P[i]? = some p) (ht : Turned B W p p' W') (hB : B ≤ W.heap.size) : Prs B (N + 1) W' (P.set i p') := by
  have hl := (List.getElem?_eq_some_iff.1 hi).1
  have each : ∀ (j : Nat) r, (P.set i p')[j]? = some r → (j = i ∧ r = p') ∨ (j ≠ i ∧ P[j]? = some r) := fun j r hr => by
    by_cases hj : j = i
    · subst hj
      rw [List.getElem?_set_self hl] at hr
      exact .inl ⟨rfl, (Option.some.inj hr).symm⟩
    · rw [List.getElem?_set_ne (fun e => hj e.symm)] at hr
      exact .inr ⟨hj, hr⟩
  refine ⟨fun j r hr => ?_, fun j r hr => ?_, fun j r hr k hk => ?_, fun j1 j2 r1 r2 h1 h2 hne k k1 k2 => ?_⟩
  · rcases each j r hr with ⟨_, rfl⟩ | ⟨hj, hr⟩
    · exact ht.at'
    · exact (h.each j r hr).kept ht.kp (fun k e e2 => h.apart j i r p hr hi hj k e e2)
  · rcases each j r hr with ⟨_, rfl⟩ | ⟨_, hr⟩
    · have := h.few i p hi
      have := ht.sz
      omega
    · have := h.few j r hr
      omega
  · rcases each j r hr with ⟨_, rfl⟩ | ⟨_, hr⟩
    · rcases ht.fr k hk with e | e
      · exact h.base i p hi k e
      · omega
    · exact h.base j r hr k hk
  · rcases each j1 r1 h1 with ⟨e1, rfl⟩ | ⟨n1, g1⟩
    · rcases each j2 r2 h2 with ⟨e2, rfl⟩ | ⟨n2, g2⟩
      · exact hne (e1.trans e2.symm)
      · rcases ht.fr k k1 with e | e
        · exact h.apart i j2 p r2 hi g2 (fun e => n2 e.symm) k e k2
        · have := (h.each j2 r2 g2).lt k2
          omega
    · rcases each j2 r2 h2 with ⟨e2, rfl⟩ | ⟨n2, g2⟩
      · rcases ht.fr k k2 with e | e
        · exact h.apart j1 i r1 p g1 hi n1 k k1 e
        · have := (h.each j1 r1 g1).lt k1
          omega
      · exact h.apart j1 j2 r1 r2 g1 g2 hne k k1 k2
theorem Prs.add {B N : Nat} {W W' : World} {P : List Pq} (h : Prs B N W P) (hb : Below W.heap.size W W') {p : Pq} (hp : PqAt B W' p) (hf : p.R.length ≤ N ∧ p.g ≤ (N : Int)) (hn : ∀ k, p.mine k → W.heap.size ≤ k) (hB : B ≤ W.heap.size) : Prs B N W' (P ++ [p]) := by
  have each : ∀ (j : Nat) r, (P ++ [p])[j]? = some r → (j = P.length ∧ r = p) ∨ (j < P.length ∧ P[j]? = some r) := fun j r hr => by
    by_cases hj : j < P.length
    · rw [List.getElem?_append_left hj] at hr
      exact .inr ⟨hj, hr⟩
    · rw [List.getElem?_append_right (by omega)] at hr
      have h1 := (List.getElem?_eq_some_iff.1 hr).1
      simp at h1
      have h2 : j - P.length = 0 := by omega
      rw [h2] at hr
      exact .inl ⟨by omega, (Option.some.inj hr).symm⟩
  refine ⟨fun j r hr => ?_, fun j r hr => ?_, fun j r hr k hk => ?_, fun j1 j2 r1 r2 h1 h2 hne k k1 k2 => ?_⟩
  · rcases each j r hr with ⟨_, rfl⟩ | ⟨_, hr⟩
    · exact hp
    · exact (h.each j r hr).below hb
  · rcases each j r hr with ⟨_, rfl⟩ | ⟨_, hr⟩
    · exact hf
    · exact h.few j r hr
  · rcases each j r hr with ⟨_, rfl⟩ | ⟨_, hr⟩
    · exact Nat.le_trans hB (hn k hk)
    · exact h.base j r hr k hk
  · rcases each j1 r1 h1 with ⟨e1, rfl⟩ | ⟨n1, g1⟩
    · rcases each j2 r2 h2 with ⟨e2, rfl⟩ | ⟨n2, g2⟩
      · exact hne (e1.trans e2.symm)
      · have := (h.each j2 r2 g2).lt k2
        have := hn k k1
        omega
    · rcases each j2 r2 h2 with ⟨e2, rfl⟩ | ⟨n2, g2⟩
      · have := (h.each j1 r1 g1).lt k1
        have := hn k k2
        omega
      · exact h.apart j1 j2 r1 r2 g1 g2 hne k k1 k2

abbrev Ref3 := Nat × Nat × Nat
def lval (x : Ref3) : Value × Value := (.pointer (some ⟨x.1, 0, none⟩), .pointer (some ⟨x.2.1, 0, none⟩))
def kval (x : Ref3) : Value × Value := (.func (.func 26) #[] #[.pointer (some ⟨x.1, 0, none⟩)], .pointer (some ⟨x.2.1, 0, none⟩))
def LIn (P : List Pq) (x : Ref3) : Prop := ∃ p, P[x.2.2]? = some p ∧ p.qb = x.1 ∧ p.rb = x.2.1
def KIn (W : World) (P : List Pq) (x : Ref3) : Prop := ∃ p, P[x.2.2]? = some p ∧ boxedI W x.1 p.qb ∧ p.rb = x.2.1
theorem LIn.turn {P : List Pq} {x : Ref3} (h : LIn P x) {i : Nat} {p p' : Pq} (hi : P[i]? = some p) (h1 : p'.qb = p.qb) (h2 : p'.rb = p.rb) : LIn (P.set i p') x := by
  obtain ⟨q, e1, e2, e3⟩ := h
  have hl := (List.getElem?_eq_some_iff.1 hi).1
  by_cases hx : x.2.2 = i
  · rw [hx, hi] at e1
    obtain rfl := Option.some.inj e1
    exact ⟨p', by rw [hx, List.getElem?_set_self hl], h1.trans e2, h2.trans e3⟩
  · exact ⟨q, by rw [List.getElem?_set_ne (fun e => hx e.symm)]; exact e1, e2, e3⟩
theorem KIn.turn {W : World} {P : List Pq} {x : Ref3} (h : KIn W P x) {i : Nat} {p p' : Pq} (hi : P[i]? = some p) (h1 : p'.qb = p.qb) (h2 : p'.rb = p.rb) : KIn W (P.set i p') x := by
  obtain ⟨q, e1, e2, e3⟩ := h
  have hl := (List.getElem?_eq_some_iff.1 hi).1
  by_cases hx : x.2.2 = i
  · rw [hx, hi] at e1
    obtain rfl := Option.some.inj e1
    exact ⟨p', by rw [hx, List.getElem?_set_self hl], by rw [h1]; exact e2, h2.trans e3⟩
  · exact ⟨q, by rw [List.getElem?_set_ne (fun e => hx e.symm)]; exact e1, e2, e3⟩
theorem LIn.add {P : List Pq} {x : Ref3} (h : LIn P x) (p : Pq) : LIn (P ++ [p]) x := by
  obtain ⟨q, e1, e2, e3⟩ := h
  exact ⟨q, by rw [List.getElem?_append_left (List.getElem?_eq_some_iff.1 e1).1]; exact e1, e2, e3⟩
theorem KIn.add {W : World} {P : List Pq} {x : Ref3} (h : KIn W P x) (p : Pq) : KIn W (P ++ [p]) x := by
  obtain ⟨q, e1, e2, e3⟩ := h
  exact ⟨q, by rw [List.getElem?_append_left (List.getElem?_eq_some_iff.1 e1).1]; exact e1, e2, e3⟩
theorem KIn.kept {W W' : World} {P : List Pq} {x : Ref3} (h : KIn W P x) {Q : Nat → Prop} (hk : Kept Q W W') (hQ : ∀ (g : Nat) c, W.heap[g]? = some (.cells c 29 (0, 0)) → ¬ Q g) : KIn W' P x := by
  obtain ⟨q, e1, e2, e3⟩ := h
  exact ⟨q, e1, (hk.block _ (Array.getElem?_eq_some_iff.1 e2).1 (hQ _ _ e2)).trans e2, e3⟩

structure DkAt (w0 W : World) (db : Nat) (P : List Pq) (L : List Ref3) (vl : Value) (K : List Ref3) (vk : Value) (N : Nat) : Prop where
  bel : Below w0.heap.size w0 W
  box : W.heap[db]? = some (.cells #[vl, vk] 28 (0, 0))
  hdb : w0.heap.size ≤ db
  prs : Prs w0.heap.size N W P
  rl : RowO W w0.heap.size 36 vl (L.map lval)
  rk : RowO W w0.heap.size 92 vk (K.map kval)
  il : ∀ x ∈ L, LIn P x
  ik : ∀ x ∈ K, KIn W P x
  cl : L.length ≤ 4
  ck : K.length ≤ 5
section
variable {w0 W W' : World} {db N : Nat} {P : List Pq} {L K : List Ref3} {vl vk : Value}
/-- The pairs' blocks are not the desk's. -/
theorem DkAt.not (h : DkAt w0 W db P L vl K vk N) {g : Nat} {c : Array Value} {t : TypeId} (hc : W.heap[g]? = some (.cells c t (0, 0))) (ht : t = 28 ∨ t = 36 ∨ t = 92 ∨ t = 29) {i : Nat} {p : Pq} (hi : P[i]? = some p) : ¬ p.mine g := by
  have hp := h.prs.each i p hi
  rcases ht with rfl | rfl | rfl | rfl <;> exact hp.not hc (by decide) (by decide) (by decide) (by decide)
theorem DkAt.later (h : DkAt w0 W db P L vl K vk N) (hb : Below W.heap.size W W') : DkAt w0 W' db P L vl K vk N := by
  have hk : Kept (fun _ => False) W W' := Kept.ofBelow hb
  exact ⟨h.bel.trans (hb.mono h.bel.size), (hb.block _ (Array.getElem?_eq_some_iff.1 h.box).1).trans h.box, h.hdb, h.prs.kept hk (fun _ _ _ _ _ h => h), h.rl.kept hk (fun _ _ h => h), h.rk.kept hk (fun _ _ h => h), h.il, fun x hx => (h.ik x hx).kept hk (fun _ _ _ h => h), h.cl, h.ck⟩
theorem Prs.mono {B N N' : Nat} (h : Prs B N W P) (hN : N ≤ N') : Prs B N' W P := ⟨h.each, fun i p e => by have := h.few i p e; omega, h.base, h.apart⟩
theorem DkAt.mono {N' : Nat} (h : DkAt w0 W db P L vl K vk N) (hN : N ≤ N') : DkAt w0 W db P L vl K vk N' := { h with prs := h.prs.mono hN }
/-- One pair has turned. -/
theorem DkAt.turn (h : DkAt w0 W db P L vl K vk N) {i : Nat} {p p' : Pq} (hi : P[i]? = some p) (ht : Turned w0.heap.size W p p' W') : DkAt w0 W' db (P.set i p') L vl K vk (N + 1) := by
  have hn : ∀ (g : Nat) (c : Array Value) (t : TypeId), W.heap[g]? = some (.cells c t (0, 0)) → (t = 28 ∨ t = 36 ∨ t = 92 ∨ t = 29) → ¬ p.mine g := fun g c t hc h1 => h.not hc h1 hi
  refine ⟨h.bel.trans (ht.kp.below h.bel.size (fun k hk e => by have := h.prs.base i p hi k e; omega)), (ht.kp.block _ (Array.getElem?_eq_some_iff.1 h.box).1 (hn _ _ _ h.box (.inl rfl))).trans h.box, h.hdb, h.prs.turn hi ht h.bel.size, h.rl.kept ht.kp (fun g e => ?_), h.rk.kept ht.kp (fun g e => ?_), fun x hx => (h.il x hx).turn hi ht.qb ht.rb, fun x hx => ((h.ik x hx).kept ht.kp (fun g c hc => hn _ _ _ hc (by simp))).turn hi ht.qb ht.rb, h.cl, h.ck⟩
  · obtain ⟨_, c, hc⟩ := h.rl.block e
    exact hn _ _ _ hc (by simp)
  · obtain ⟨_, c, hc⟩ := h.rk.block e
    exact hn _ _ _ hc (by simp)
/-- One pair more, which nobody has yet. -/
theorem DkAt.addP (h : DkAt w0 W db P L vl K vk N) (hb : Below W.heap.size W W') {p : Pq} (hp : PqAt w0.heap.size W' p) (hf : p.R.length ≤ N ∧ p.g ≤ (N : Int)) (hn : ∀ k, p.mine k → W.heap.size ≤ k) : DkAt w0 W' db (P ++ [p]) L vl K vk N := by
  have h1 := h.later hb
  exact { h1 with prs := h.prs.add hb hp hf hn h.bel.size, il := fun x hx => (h1.il x hx).add p, ik := fun x hx => (h1.ik x hx).add p }
/-- The list of pairs has turned. -/
theorem DkAt.putL (h : DkAt w0 W db P L vl K vk N) {L' : List Ref3} {vl' : Value} {W1 : World} (hk : Kept (fun k => vl.ownBlock = some k) W W1) (hr : RowO W1 w0.heap.size 36 vl' (L'.map lval)) (hi : ∀ x ∈ L', LIn P x) (hl : L'.length ≤ 4) :
    DkAt w0 (W1.setCell ⟨db, 0, none⟩ vl') db P L' vl' K vk N ∧ W1.heap[db]? = some (.cells #[vl, vk] 28 (0, 0)) := by
  have hvl : ∀ g, vl.ownBlock = some g → ∃ c, W.heap[g]? = some (.cells c 36 (0, 0)) := fun g e => (h.rl.block e).2
  have hd : W1.heap[db]? = some (.cells #[vl, vk] 28 (0, 0)) := (hk.block _ (Array.getElem?_eq_some_iff.1 h.box).1 (fun e => by obtain ⟨c, hc⟩ := hvl _ e; rw [h.box] at hc; simp at hc)).trans h.box
  have ks : Kept (fun k => k = db) W1 (W1.setCell ⟨db, 0, none⟩ vl') := Kept.setCell _ _ _ _ _ rfl
  have kA : Kept (fun k => vl.ownBlock = some k ∨ k = db) W (W1.setCell ⟨db, 0, none⟩ vl') := (hk.mono (fun _ _ e => .inl e)).trans (ks.mono (fun _ _ e => .inr e))
  have hQ : ∀ (t : TypeId) (g : Nat) c, t ≠ 36 → t ≠ 28 → W.heap[g]? = some (.cells c t (0, 0)) → ¬ (vl.ownBlock = some g ∨ g = db) := fun t g c h1 h2 hc e => by
    rcases e with e | rfl
    · obtain ⟨c', hc'⟩ := hvl _ e
      rw [hc] at hc'
      simp at hc'
      exact h1 hc'.2
    · rw [h.box] at hc
      simp at hc
      exact h2 hc.2.symm
  refine ⟨⟨h.bel.trans (kA.below h.bel.size (fun k hk e => ?_)), ?_, h.hdb, h.prs.kept kA (fun i p hp k hk e => ?_), ?_, h.rk.kept kA (fun g e => ?_), hi, fun x hx => (h.ik x hx).kept kA (fun g c hc => hQ _ g c (by decide) (by decide) hc), hl, h.ck⟩, hd⟩
  · rcases e with e | rfl
    · have := (h.rl.block e).1; omega
    · have := h.hdb; omega
  · rw [(set_cells hd 0 _).1]
    simp
  · rcases e with e | rfl
    · obtain ⟨c, hc⟩ := hvl _ e
      exact h.not hc (by simp) hp hk
    · exact h.not h.box (by simp) hp hk
  · refine hr.kept ks (fun g e e2 => ?_)
    obtain ⟨_, c, hc⟩ := hr.block e
    rw [e2, hd] at hc
    simp at hc
  · obtain ⟨_, c, hc⟩ := h.rk.block e
    exact hQ _ g c (by decide) (by decide) hc
/-- .. in its place. -/
theorem DkAt.putIn (h : DkAt w0 W db P L vl K vk N) {L' : List Ref3} {W1 : World} (hk : Kept (fun k => vl.ownBlock = some k) W W1) (hr : RowO W1 w0.heap.size 36 vl (L'.map lval)) (hi : ∀ x ∈ L', LIn P x) (hl : L'.length ≤ 4) : DkAt w0 W1 db P L' vl K vk N := by
  obtain ⟨h1, h2⟩ := h.putL hk hr hi hl
  have ks : Kept (fun k => k = db) W1 (W1.setCell ⟨db, 0, none⟩ vl) := Kept.setCell _ _ _ _ _ rfl
  have hQ : ∀ (t : TypeId) (g : Nat) c, t ≠ 36 → t ≠ 28 → W.heap[g]? = some (.cells c t (0, 0)) → ¬ (vl.ownBlock = some g) := fun t g c h1 h2 hc e => by
    obtain ⟨_, c', hc'⟩ := h.rl.block e
    rw [hc] at hc'
    simp at hc'
    exact h1 hc'.2
  refine ⟨h.bel.trans (hk.below h.bel.size (fun k hk e => by have := (h.rl.block e).1; omega)), h2, h.hdb, h.prs.kept hk (fun i p hp k hk e => ?_), hr, h.rk.kept hk (fun g e => ?_), hi, fun x hx => (h.ik x hx).kept hk (fun g c hc => hQ _ g c (by decide) (by decide) hc), hl, h.ck⟩
  · obtain ⟨_, c, hc⟩ := h.rl.block e
    exact h.not hc (by simp) hp hk
  · obtain ⟨_, c, hc⟩ := h.rk.block e
    exact hQ _ g c (by decide) (by decide) hc
/-- The list of what is kept has turned. -/
theorem DkAt.putK (h : DkAt w0 W db P L vl K vk N) {K' : List Ref3} {vk' : Value} {W1 : World} (hk : Kept (fun k => vk.ownBlock = some k) W W1) (hr : RowO W1 w0.heap.size 92 vk' (K'.map kval)) (hi : ∀ x ∈ K', KIn W P x) (hl : K'.length ≤ 5) :
    DkAt w0 (W1.setCell ⟨db, 1, none⟩ vk') db P L vl K' vk' N ∧ W1.heap[db]? = some (.cells #[vl, vk] 28 (0, 0)) := by
  have hvl : ∀ g, vk.ownBlock = some g → ∃ c, W.heap[g]? = some (.cells c 92 (0, 0)) := fun g e => (h.rk.block e).2
  have hd : W1.heap[db]? = some (.cells #[vl, vk] 28 (0, 0)) := (hk.block _ (Array.getElem?_eq_some_iff.1 h.box).1 (fun e => by obtain ⟨c, hc⟩ := hvl _ e; rw [h.box] at hc; simp at hc)).trans h.box
  have ks : Kept (fun k => k = db) W1 (W1.setCell ⟨db, 1, none⟩ vk') := Kept.setCell _ _ _ _ _ rfl
  have kA : Kept (fun k => vk.ownBlock = some k ∨ k = db) W (W1.setCell ⟨db, 1, none⟩ vk') := (hk.mono (fun _ _ e => .inl e)).trans (ks.mono (fun _ _ e => .inr e))
  have hQ : ∀ (t : TypeId) (g : Nat) c, t ≠ 92 → t ≠ 28 → W.heap[g]? = some (.cells c t (0, 0)) → ¬ (vk.ownBlock = some g ∨ g = db) := fun t g c h1 h2 hc e => by
    rcases e with e | rfl
    · obtain ⟨c', hc'⟩ := hvl _ e
      rw [hc] at hc'
      simp at hc'
      exact h1 hc'.2
    · rw [h.box] at hc
      simp at hc
      exact h2 hc.2.symm
  refine ⟨⟨h.bel.trans (kA.below h.bel.size (fun k hk e => ?_)), ?_, h.hdb, h.prs.kept kA (fun i p hp k hk e => ?_), h.rl.kept kA (fun g e => ?_), ?_, h.il, fun x hx => (hi x hx).kept kA (fun g c hc => hQ _ g c (by decide) (by decide) hc), h.cl, hl⟩, hd⟩
  · rcases e with e | rfl
    · have := (h.rk.block e).1; omega
    · have := h.hdb; omega
  · rw [(set_cells hd 1 _).1]
    simp
  · rcases e with e | rfl
    · obtain ⟨c, hc⟩ := hvl _ e
      exact h.not hc (by simp) hp hk
    · exact h.not h.box (by simp) hp hk
  · obtain ⟨_, c, hc⟩ := h.rl.block e
    exact hQ _ g c (by decide) (by decide) hc
  · refine hr.kept ks (fun g e e2 => ?_)
    obtain ⟨_, c, hc⟩ := hr.block e
    rw [e2, hd] at hc
    simp at hc
end
/-- Behind N steps. -/
def DkN (w0 : World) (db N : Nat) (W : World) : Prop := ∃ P L vl K vk, DkAt w0 W db P L vl K vk N ∧ L ≠ [] ∧ K.length ≤ 4
theorem DkN.mk' {w0 W : World} {db N : Nat} {P : List Pq} {L K : List Ref3} {vl vk : Value} (h : DkAt w0 W db P L vl K vk N) (h1 : L ≠ []) (h2 : K.length ≤ 4) : DkN w0 db N W := ⟨P, L, vl, K, vk, h, h1, h2⟩
end Go.Proofs.Ytccpaapbgdpghaa
