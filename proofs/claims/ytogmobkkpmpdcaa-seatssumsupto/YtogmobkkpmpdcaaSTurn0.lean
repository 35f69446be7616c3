/-
  What SeatsTurns goes by: connections, and those that wait as a list of numbers.
-/
import Derived.Test.YtogmobkkpmpdcaaSWaiters
import Derived.Test.YtogmobkkpmpdcaaSCount
import Derived.Test.YtogmobkkpmpdcaaSShown
namespace Go.Proofs.Ytogmobkkpmpdcaa
open Go.RowKit
structure Tn (B : Nat) (W : World) (sb : Nat) (S : Sx) (L : List Int) (N : Nat) : Prop where
  seat : ∃ lab, SAt B W lab sb S
  lin : Lined S
  few : FewS S N
  dfl : ∀ i x, S.F i = some x → 0 < held x.g defT
  eqv : S.R.map (·.v) = L.map (Value.int .i64)
theorem Tn.later {B : Nat} {W W' : World} {sb : Nat} {S : Sx} {L : List Int} {N : Nat} (h : Tn B W sb S L N) (hb : Below W.heap.size W W') : Tn B W' sb S L N := by
  obtain ⟨lab, h1⟩ := h.seat
  exact ⟨⟨lab, h1.later hb⟩, h.lin, h.few, h.dfl, h.eqv⟩
theorem Tn.ints {B : Nat} {W W' : World} {sb : Nat} {S : Sx} {L : List Int} {N : Nat} (h : Tn B W sb S L N) {P : Nat → Prop} (hk : Kept P W W') (hP : ∀ k, k < W.heap.size → P k → ∃ c, W.heap[k]? = some (.cells c 3 (0, 0))) : Tn B W' sb S L N := by
  obtain ⟨lab, h1⟩ := h.seat
  exact ⟨⟨lab, h1.ints hk hP⟩, h.lin, h.few, h.dfl, h.eqv⟩
theorem Tn.mono {B : Nat} {W : World} {sb : Nat} {S : Sx} {L : List Int} {N M : Nat} (h : Tn B W sb S L N) (hM : N ≤ M) : Tn B W sb S L M :=
  ⟨h.seat, h.lin, ⟨Nat.le_trans h.few.nn hM, Int.le_trans h.few.gv (by omega), Nat.le_trans h.few.rl hM, fun i x hx => Nat.le_trans (h.few.n i x hx) hM⟩, h.dfl, h.eqv⟩
theorem FewS.big {S : Sx} {N : Nat} (h : FewS S N) (hN : N ≤ 1000000000) : FewS S 1000000000 :=
  ⟨Nat.le_trans h.nn hN, Int.le_trans h.gv (by omega), Nat.le_trans h.rl hN, fun i x hx => Nat.le_trans (h.n i x hx) hN⟩
theorem int_wf {n : Int} (h : 0 ≤ n ∧ n < 64) : (Lit.int .i64 n).wf = true := WalkArith.wf_i64 (by omega)
/-- A place, and whose it is. -/
theorem Tn.place {B : Nat} {W : World} {sb : Nat} {S : Sx} {L : List Int} {N : Nat} (h : Tn B W sb S L N) {n : Int} (hn : n ∈ L) : ∃ r x, r ∈ S.R ∧ r.v = .int .i64 n ∧ S.F n = some x ∧ x.tk = r.tk ∧ 1 ≤ r.tk := by
  have h1 : Value.int .i64 n ∈ S.R.map (·.v) := by rw [h.eqv]; exact List.mem_map_of_mem hn
  obtain ⟨r, hr, e⟩ := List.mem_map.1 h1
  obtain ⟨i, x, h2, h3, h4⟩ := h.lin.val r hr
  have e2 : r.v = .int .i64 n := e
  rw [e2] at h2
  cases h2
  obtain ⟨lab, hs⟩ := h.seat
  exact ⟨r, x, hr, e2, h3, h4, (hs.line.le r hr).1⟩
theorem Tn.mem {B : Nat} {W : World} {sb : Nat} {S : Sx} {L : List Int} {N : Nat} (h : Tn B W sb S L N) (n : Int) : n ∈ L ↔ ∃ x, S.F n = some x ∧ x.tk ≠ 0 := by
  constructor
  · intro hn
    obtain ⟨r, x, _, _, h3, h4, h5⟩ := h.place hn
    exact ⟨x, h3, by omega⟩
  · rintro ⟨x, hx, h0⟩
    rcases h.lin.wts n x hx with e | ⟨r, hr, _, hv⟩
    · exact absurd e h0
    · have h1 : r.v ∈ L.map (Value.int .i64) := by rw [← h.eqv]; exact List.mem_map_of_mem hr
      obtain ⟨m, hm, e⟩ := List.mem_map.1 h1
      rw [hv] at e
      cases e
      exact hm
theorem Tn.rng {B : Nat} {W : World} {sb : Nat} {S : Sx} {L : List Int} {N : Nat} (h : Tn B W sb S L N) : ∀ n ∈ L, 0 ≤ n ∧ n < 64 := fun n hn => by
  obtain ⟨x, hx, _⟩ := (h.mem n).1 hn
  obtain ⟨lab, hs⟩ := h.seat
  exact hs.rng n x hx
theorem Tn.list {B : Nat} {W : World} {sb : Nat} {S : Sx} {L : List Int} {N : Nat} (h : Tn B W sb S L N) : L = S.R.map (fun r => whoV r.v) := by
  have := congrArg (List.map whoV) h.eqv
  rw [List.map_map, List.map_map] at this
  rw [show (fun r : que.Stand => whoV r.v) = whoV ∘ (fun r => r.v) from rfl, this]
  rw [show whoV ∘ Value.int .i64 = id from rfl, List.map_id]
theorem Tn.nodup {B : Nat} {W : World} {sb : Nat} {S : Sx} {L : List Int} {N : Nat} (h : Tn B W sb S L N) : L.Nodup := by
  rw [h.list]
  obtain ⟨lab, hs⟩ := h.seat
  refine List.pairwise_map.2 (hs.line.up.imp_of_mem fun {a b} ha hb hlt e => ?_)
  obtain ⟨i, x, h1, h2, h3⟩ := h.lin.val a ha
  obtain ⟨j, y, k1, k2, k3⟩ := h.lin.val b hb
  rw [h1, k1] at e
  have e : i = j := e
  subst e
  rw [h2] at k2
  cases k2
  omega
theorem Tn.len {B : Nat} {W : World} {sb : Nat} {S : Sx} {L : List Int} {N : Nat} (h : Tn B W sb S L N) : L.length = S.R.length := by rw [h.list, List.length_map]
/-- Open. -/
theorem tOpen {B : Nat} {W : World} {sb : Nat} {S : Sx} {L : List Int} {N : Nat} (h : Tn B W sb S L N) (hN : N ≤ 900000000) (h1N : 1 ≤ N) (n : Int) (hn : 0 ≤ n ∧ n < 64) :
    Calls Try.prog 17 #[ptrV sb, .int .i64 n] W fun e w' => ∃ z, e = .returned (.int .i64 z) ∧ (z = 0 ↔ S.F n = none) ∧ ∃ S', Tn B w' sb S' L (N + 1) ∧ (z = 0 → ∃ x, S'.F n = some x ∧ x.tk = 0) ∧ Below B W w' ∧ Sd W w' := by
  obtain ⟨lab, hs⟩ := h.seat
  have hf := h.few
  refine (open_any n B W lab sb S hs (int_wf hn) (by have := hf.nn; unfold maxLen; omega)).mono ?_
  rintro e w' ⟨rfl, lab', S', h1, h2, h3, h9⟩
  have hz : openE S n = 0 ↔ S.F n = none := by
    unfold openE
    rw [if_neg (by omega)]
    cases hF : S.F n with
    | none => simp
    | some x => simp
  refine ⟨_, rfl, hz, S', ?_, fun h0 => ?_, h3, h9⟩
  · rcases h2 with ⟨_, rfl⟩ | ⟨h2, blk, bb, bm, rfl⟩
    · exact ⟨⟨lab', h1⟩, h.lin, (h.mono (by omega)).few, h.dfl, h.eqv⟩
    · have hF := hz.1 h2
      refine ⟨⟨lab', h1⟩, ⟨fun r hr => ?_, fun i x hx => ?_⟩, ⟨by have := hf.nn; show S.nn + 1 ≤ N + 1; omega, by have := hf.gv; show S.gv ≤ _; omega, Nat.le_succ_of_le hf.rl, fun i x hx => ?_⟩, fun i x hx => ?_, h.eqv⟩
      · obtain ⟨i, x, a1, a2, a3⟩ := h.lin.val r hr
        have hne : i ≠ n := fun e => by rw [e, hF] at a2; cases a2
        exact ⟨i, x, a1, (if_neg hne).trans a2, a3⟩
      · simp only [updF] at hx
        split at hx
        · cases hx; exact .inl rfl
        · exact h.lin.wts i x hx
      · simp only [updF] at hx
        split at hx
        · cases hx; show 1 ≤ N + 1; omega
        · exact Nat.le_succ_of_le (hf.n i x hx)
      · simp only [updF] at hx
        split at hx
        · cases hx; show 0 < held (putAt (fun _ => none) defT 1) defT; decide
        · exact h.dfl i x hx
  · rcases h2 with ⟨h2, _⟩ | ⟨_, blk, bb, bm, rfl⟩
    · exact absurd h0 h2
    · exact ⟨_, if_pos rfl, rfl⟩
/-- Wait. -/
theorem tWait {B : Nat} {W : World} {sb : Nat} {S : Sx} {L : List Int} {N : Nat} (h : Tn B W sb S L N) (hN : N ≤ 900000000) (n u : Int) (hu : 0 ≤ u) {x : Cn} (hx : S.F n = some x) (h0 : x.tk = 0) :
    Calls Try.prog 18 #[ptrV sb, .int .i64 n, .int .i64 u] W fun e w' => e = .returned (.int .i64 0) ∧ ∃ S', Tn B w' sb S' (L ++ [n]) (N + 1) ∧ Below B W w' ∧ Sd W w' := by
  obtain ⟨lab, hs⟩ := h.seat
  have hf := h.few
  refine (wait_any n u B W lab sb S hs (int_wf (hs.rng n x hx)) (hf.big (by omega))).mono ?_
  rintro e w' ⟨rfl, lab', S', h1, h2, h3, h9⟩
  have hz : waitE S n u = 0 := by unfold waitE; rw [hx]; simp only []; rw [if_neg (by omega), if_neg (by simpa using h0)]
  rcases h2 with ⟨h2, _⟩ | ⟨_, k, y, hy, _, rfl⟩
  · exact absurd hz h2
  · rw [hx] at hy
    cases hy
    have hgp := hs.line.pos
    refine ⟨by rw [hz], _, ⟨⟨lab', h1⟩, ⟨fun r hr => ?_, fun i y hy => ?_⟩, ⟨Nat.le_succ_of_le hf.nn, by have := hf.gv; show S.gv + 1 ≤ _; omega, by have := hf.rl; show (S.R ++ [_]).length ≤ _; rw [List.length_append]; simp; omega, fun i y hy => ?_⟩, fun i y hy => ?_, ?_⟩, h3, h9⟩
    · rcases List.mem_append.1 hr with hr | hr
      · obtain ⟨i, y, a1, a2, a3⟩ := h.lin.val r hr
        have hne : i ≠ n := fun e => by
          rw [e, hx] at a2
          cases a2
          have := (hs.line.le r hr).1
          omega
        exact ⟨i, y, a1, (if_neg hne).trans a2, a3⟩
      · obtain rfl := List.mem_singleton.1 hr
        exact ⟨n, _, rfl, if_pos rfl, rfl⟩
    · simp only [waitS, updF] at hy
      split at hy
      · rename_i e
        subst e
        cases hy
        exact .inr ⟨⟨k, S.gv + 1, .int .i64 i⟩, List.mem_append.2 (.inr (List.mem_singleton.2 rfl)), rfl, rfl⟩
      · rcases h.lin.wts i y hy with e | ⟨r, hr, a1, a2⟩
        · exact .inl e
        · exact .inr ⟨r, List.mem_append.2 (.inl hr), a1, a2⟩
    · simp only [waitS, updF] at hy
      split at hy
      · cases hy; exact Nat.le_succ_of_le (hf.n n x hx)
      · exact Nat.le_succ_of_le (hf.n i y hy)
    · simp only [waitS, updF] at hy
      split at hy
      · cases hy; exact h.dfl n x hx
      · exact h.dfl i y hy
    · show (S.R ++ [_]).map _ = _
      rw [List.map_append, List.map_append, h.eqv]
      rfl
/-- Whose ticket it is. -/
theorem Tn.tick {B : Nat} {W : World} {sb : Nat} {S : Sx} {L : List Int} {N : Nat} (h : Tn B W sb S L N) {n : Int} {x : Cn} (hx : S.F n = some x) {r : que.Stand} (hr : r ∈ S.R) : (r.tk != x.tk) = (whoV r.v != n) := by
  obtain ⟨lab, hs⟩ := h.seat
  obtain ⟨i, y, a1, a2, a3⟩ := h.lin.val r hr
  rw [a1]
  show (r.tk != x.tk) = (i != n)
  by_cases e : i = n
  · subst e
    rw [hx] at a2
    cases a2
    rw [a3]
    simp
  · have : r.tk ≠ x.tk := fun e2 => by
      have h1 := (hs.line.le r hr).1
      rcases h.lin.wts n x hx with e3 | ⟨r', hr', b1, b2⟩
      · omega
      · have e4 : r = r' := by
          obtain ⟨p, hp⟩ := List.mem_iff_getElem?.1 hr
          obtain ⟨q, hq⟩ := List.mem_iff_getElem?.1 hr'
          obtain ⟨p1, p2⟩ := List.getElem?_eq_some_iff.1 hp
          obtain ⟨q1, q2⟩ := List.getElem?_eq_some_iff.1 hq
          have hpw := List.pairwise_iff_getElem.1 hs.line.up
          rcases Nat.lt_trichotomy p q with hlt | hlt | hlt
          · have := hpw p q p1 q1 hlt; rw [p2, q2] at this; omega
          · subst hlt; rw [← p2, ← q2]
          · have := hpw q p q1 p1 hlt; rw [p2, q2] at this; omega
        rw [e4, b2] at a1
        cases a1
        exact e rfl
    rw [bne_iff_ne.2 this, bne_iff_ne.2 e]
theorem Tn.left {B : Nat} {W : World} {sb : Nat} {S : Sx} {L : List Int} {N : Nat} (h : Tn B W sb S L N) {n : Int} {x : Cn} (hx : S.F n = some x) : (leftR S x).map (·.v) = (L.filter (fun m => m != n)).map (Value.int .i64) := by
  unfold leftR
  have e1 : S.R.filter (fun r => r.tk != x.tk) = S.R.filter (fun r => whoV r.v != n) := List.filter_congr (fun r hr => h.tick hx hr)
  rw [e1, h.list, List.filter_map, List.map_map]
  refine List.map_congr_left (fun r hr => ?_)
  obtain ⟨i, y, a1, _⟩ := h.lin.val r (List.mem_filter.1 hr).1
  show r.v = Value.int .i64 (whoV r.v)
  rw [a1]
  rfl
theorem none_left {L : List Int} {n : Int} (hn : n ∉ L) : L.filter (fun m => m != n) = L := List.filter_eq_self.2 (fun _ hm => bne_iff_ne.2 (fun e => hn (e ▸ hm)))
/-- What is left is in line. -/
theorem lined_left {B : Nat} {W : World} {sb : Nat} {S : Sx} {L : List Int} {N : Nat} (h : Tn B W sb S L N) {n : Int} {x : Cn} (hx : S.F n = some x) {S' : Sx} (hR : S'.R = leftR S x) (hF : ∀ i, i ≠ n → S'.F i = S.F i) (hz : ∀ y, S'.F n = some y → y.tk = 0) : Lined S' := by
  refine ⟨fun r hr => ?_, fun i y hy => ?_⟩
  · rw [hR] at hr
    obtain ⟨h1, h2⟩ := List.mem_filter.1 hr
    obtain ⟨i, y, a1, a2, a3⟩ := h.lin.val r h1
    have hne : i ≠ n := fun e => by
      rw [h.tick hx h1, a1] at h2
      exact (bne_iff_ne.1 h2) e
    exact ⟨i, y, a1, (hF i hne).trans a2, a3⟩
  · by_cases e : i = n
    · subst e
      exact .inl (hz y hy)
    · rw [hF i e] at hy
      rcases h.lin.wts i y hy with e2 | ⟨r, hr, a1, a2⟩
      · exact .inl e2
      · refine .inr ⟨r, ?_, a1, a2⟩
        rw [hR]
        refine List.mem_filter.2 ⟨hr, ?_⟩
        rw [h.tick hx hr, a2]
        exact bne_iff_ne.2 e
/-- Stop. -/
theorem tStop {B : Nat} {W : World} {sb : Nat} {S : Sx} {L : List Int} {N : Nat} (h : Tn B W sb S L N) (hN : N ≤ 900000000) (n : Int) (hn : 0 ≤ n ∧ n < 64) :
    Calls Try.prog 19 #[ptrV sb, .int .i64 n] W fun e w' => ∃ z, e = .returned (.int .i64 z) ∧ (z = 0 ↔ n ∈ L) ∧ ∃ S', Tn B w' sb S' (L.filter (fun m => m != n)) N ∧ Below B W w' ∧ Sd W w' := by
  obtain ⟨lab, hs⟩ := h.seat
  have hf := h.few
  refine (stop_any n B W lab sb S hs h.lin (hf.big (by omega)) (int_wf hn)).mono ?_
  rintro e w' ⟨rfl, lab', S', h1, h2, h3, h9⟩
  have hz : stopE S n = 0 ↔ n ∈ L := by
    rw [h.mem n]
    unfold stopE
    cases hF : S.F n with
    | none => simp
    | some x => by_cases e : x.tk = 0 <;> simp [e]
  refine ⟨_, rfl, hz, S', ?_, h3, h9⟩
  rcases h2 with ⟨h2, rfl⟩ | ⟨_, x, hx, _, rfl⟩
  · rw [none_left (fun hm => h2 (hz.2 hm))]
    exact ⟨⟨lab', h1⟩, h.lin, hf, h.dfl, h.eqv⟩
  · refine ⟨⟨lab', h1⟩, lined_left h hx rfl (fun i hi => if_neg hi) (fun y hy => ?_), ⟨hf.nn, hf.gv, Nat.le_trans (List.length_filter_le _ _) hf.rl, fun i y hy => ?_⟩, fun i y hy => ?_, h.left hx⟩
    · simp only [stopS, updF, if_true] at hy; cases hy; rfl
    · simp only [stopS, updF] at hy
      split at hy
      · cases hy; exact hf.n n x hx
      · exact hf.n i y hy
    · simp only [stopS, updF] at hy
      split at hy
      · cases hy; exact h.dfl n x hx
      · exact h.dfl i y hy
/-- Close. -/
theorem tClose {B : Nat} {W : World} {sb : Nat} {S : Sx} {L : List Int} {N : Nat} (h : Tn B W sb S L N) (hN : N ≤ 900000000) (n : Int) (hn : 0 ≤ n ∧ n < 64) :
    Calls Try.prog 20 #[ptrV sb, .int .i64 n] W fun e w' => ∃ z, e = .returned (.int .i64 z) ∧ ∃ S', Tn B w' sb S' (L.filter (fun m => m != n)) N ∧ S'.F n = none ∧ Below B W w' ∧ Sd W w' := by
  obtain ⟨lab, hs⟩ := h.seat
  have hf := h.few
  refine (close_any n B W lab sb S hs h.lin (hf.big (by omega)) (int_wf hn)).mono ?_
  rintro e w' ⟨rfl, lab', S', h1, h2, h3, h9⟩
  refine ⟨_, rfl, S', ?_, ?_, h3, h9⟩
  · rcases h2 with ⟨h2, rfl⟩ | ⟨x, hx, rfl⟩
    · rw [none_left (fun hm => by obtain ⟨x, hx, _⟩ := (h.mem n).1 hm; rw [h2] at hx; cases hx)]
      exact ⟨⟨lab', h1⟩, h.lin, hf, h.dfl, h.eqv⟩
    · refine ⟨⟨lab', h1⟩, lined_left h hx rfl (fun i hi => if_neg hi) (fun y hy => ?_), ⟨Nat.le_trans (Nat.sub_le _ _) hf.nn, hf.gv, Nat.le_trans (List.length_filter_le _ _) hf.rl, fun i y hy => ?_⟩, fun i y hy => ?_, h.left hx⟩
      · simp only [closeS, updF, if_true] at hy; cases hy
      · simp only [closeS, updF] at hy
        split at hy
        · cases hy
        · exact hf.n i y hy
      · simp only [closeS, updF] at hy
        split at hy
        · cases hy
        · exact h.dfl i y hy
  · rcases h2 with ⟨h2, rfl⟩ | ⟨x, hx, rfl⟩
    · exact h2
    · exact if_pos rfl
theorem held_more (g : Text → Option Int) (h : ∀ u, 0 ≤ held g u) (t u : Text) (hu : 0 < held g u) : 0 < held (holdG g t) u := by
  unfold holdG
  split
  · rw [held_set]
    split
    · have := h t; omega
    · exact hu
  · exact hu
theorem holdN_le (g : Text → Option Int) (n : Nat) (t : Text) : holdN g n t ≤ n + 1 := by
  unfold holdN setN
  split
  · split
    · split <;> omega
    · split <;> omega
  · omega
/-- Watch. -/
theorem tWatch {B : Nat} {W : World} {sb : Nat} {S : Sx} {L : List Int} {N : Nat} (h : Tn B W sb S L N) (hN : N ≤ 900000000) (n : Int) (hn : 0 ≤ n ∧ n < 64) (t : ByteArray) :
    Calls Try.prog 21 #[ptrV sb, .int .i64 n, .string t] W fun e w' => ∃ z y : Int, e = .returned (.tuple #[.int .i64 z, .int .i64 y]) ∧ ∃ S', Tn B w' sb S' L (N + 1) ∧ Below B W w' ∧ Sd W w' := by
  obtain ⟨lab, hs⟩ := h.seat
  have hf := h.few
  refine (watch_any n t B W lab sb S hs (int_wf hn) (fun x hx => by have := hf.n n x hx; omega)).mono ?_
  rintro e w' ⟨rfl, h1, h3, h9⟩
  refine ⟨_, _, rfl, watchS S n t.data.toList, ?_, h3, h9⟩
  unfold watchS at h1 ⊢
  cases hF : S.F n with
  | none =>
    simp only [hF] at h1
    exact ⟨⟨lab, h1⟩, h.lin, (h.mono (by omega)).few, h.dfl, h.eqv⟩
  | some x =>
    cases hv : validB t.data.toList with
    | false =>
      simp only [hF, hv, Bool.false_eq_true, if_false] at h1
      exact ⟨⟨lab, h1⟩, h.lin, (h.mono (by omega)).few, h.dfl, h.eqv⟩
    | true =>
      simp only [hF, hv, if_true] at h1
      have ht : (watchC x t.data.toList).tk = x.tk := by unfold watchC; split <;> rfl
      refine ⟨⟨lab, h1⟩, ⟨fun r hr => ?_, fun i y hy => ?_⟩, ⟨Nat.le_succ_of_le hf.nn, by have := hf.gv; show S.gv ≤ _; omega, Nat.le_succ_of_le hf.rl, fun i y hy => ?_⟩, fun i y hy => ?_, h.eqv⟩
      · obtain ⟨i, y, a1, a2, a3⟩ := h.lin.val r hr
        by_cases e : i = n
        · subst e
          rw [hF] at a2
          cases a2
          exact ⟨i, _, a1, if_pos rfl, ht.trans a3⟩
        · exact ⟨i, y, a1, (if_neg e).trans a2, a3⟩
      · simp only [if_true, updF] at hy
        split at hy
        · rename_i e
          subst e
          cases hy
          rw [ht]
          exact h.lin.wts i x hF
        · exact h.lin.wts i y hy
      · simp only [if_true, updF] at hy
        split at hy
        · cases hy
          unfold watchC
          split
          · exact Nat.le_succ_of_le (hf.n n x hF)
          · have h4 := holdN_le x.g x.n t.data.toList
            have h5 := hf.n n x hF
            show holdN x.g x.n t.data.toList ≤ N + 1
            omega
        · exact Nat.le_succ_of_le (hf.n i y hy)
      · simp only [if_true, updF] at hy
        split at hy
        · cases hy
          unfold watchC
          split
          · exact h.dfl n x hF
          · exact held_more x.g (fun u => held_nonneg (hs.each n x hF).book u) _ _ (h.dfl n x hF)
        · exact h.dfl i y hy
/-- New. -/
theorem tNew (W : World) : Calls Try.prog 7 #[] W fun e w' => ∃ sb, e = .returned (ptrV sb) ∧ (∃ S, Tn W.heap.size w' sb S [] 1) ∧ Below W.heap.size W w' := by
  refine (sNew_any W).mono ?_
  rintro e w' ⟨sb, lab, mb, qb, qm, rfl, h1, h2⟩
  exact ⟨sb, rfl, ⟨_, ⟨lab, h1⟩, ⟨fun r hr => (by cases hr), fun i x hx => (by cases hx)⟩, ⟨Nat.zero_le _, by show (0 : Int) ≤ _; decide, Nat.zero_le _, fun i x hx => (by cases hx)⟩, fun i x hx => (by cases hx), rfl⟩, h2⟩
end Go.Proofs.Ytogmobkkpmpdcaa
