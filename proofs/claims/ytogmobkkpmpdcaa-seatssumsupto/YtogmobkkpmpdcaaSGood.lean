/-
  What SeatsSums goes by: connections that are as they should be.
-/
import Derived.Test.YtogmobkkpmpdcaaSTubesW
namespace Go.Proofs.Ytogmobkkpmpdcaa
open Go.RowKit
/-- A connection that is as it should be. -/
def okC (x : Cn) : Prop := validB x.us.data.toList = true ∧ 1 ≤ x.n ∧ (x.tk = 0 → x.un = 0) ∧ ∀ t, held x.g t ≤ 1
structure Gd (B : Nat) (W : World) (sb : Nat) (S : Sx) (N : Nat) : Prop where
  seat : ∃ lab, SAt B W lab sb S
  lin : Lined S
  few : FewS S N
  ok : ∀ i x, S.F i = some x → okC x
theorem Gd.later {B : Nat} {W W' : World} {sb : Nat} {S : Sx} {N : Nat} (h : Gd B W sb S N) (hb : Below W.heap.size W W') : Gd B W' sb S N := by
  obtain ⟨lab, h1⟩ := h.seat
  exact ⟨⟨lab, h1.later hb⟩, h.lin, h.few, h.ok⟩
theorem FewS.mono {S : Sx} {N M : Nat} (h : FewS S N) (hM : N ≤ M) : FewS S M :=
  ⟨Nat.le_trans h.nn hM, Int.le_trans h.gv (by omega), Nat.le_trans h.rl hM, fun i x hx => Nat.le_trans (h.n i x hx) hM⟩
/-- Whose ticket it is. -/
theorem tickG {B : Nat} {W : World} {lab : Nat → Int} {sb : Nat} {S : Sx} (hs : SAt B W lab sb S) (hl : Lined S) {n : Int} {x : Cn} (hx : S.F n = some x) {r : que.Stand} (hr : r ∈ S.R) : (r.tk != x.tk) = (whoV r.v != n) := by
  obtain ⟨i, y, a1, a2, a3⟩ := hl.val r hr
  rw [a1]
  show (r.tk != x.tk) = (i != n)
  by_cases e : i = n
  · subst e
    rw [hx] at a2
    cases a2
    rw [a3]
    simp
  · have : r.tk ≠ x.tk := fun e2 => by
      have h1 := (hs.line.le r hr).1
      rcases hl.wts n x hx with e3 | ⟨r', hr', b1, b2⟩
      · omega
      · have e4 : r = r' := by
          obtain ⟨p, hp⟩ := List.mem_iff_getElem?.1 hr
          obtain ⟨q, hq⟩ := List.mem_iff_getElem?.1 hr'
          obtain ⟨p1, p2⟩ := List.getElem?_eq_some_iff.1 hp
          obtain ⟨q1, q2⟩ := List.getElem?_eq_some_iff.1 hq
          have hpw := List.pairwise_iff_getElem.1 hs.line.up
          rcases Nat.lt_trichotomy p q with hlt | hlt | hlt
          · have := hpw p q p1 q1 hlt; rw [p2, q2] at this; omega
          · subst hlt; rw [← p2, ← q2]
          · have := hpw q p q1 p1 hlt; rw [p2, q2] at this; omega
        rw [e4, b2] at a1
        cases a1
        exact e rfl
    rw [bne_iff_ne.2 this, bne_iff_ne.2 e]
/-- What is left is in line. -/
theorem lined_leftG {B : Nat} {W : World} {lab : Nat → Int} {sb : Nat} {S : Sx} (hs : SAt B W lab sb S) (hl : Lined S) {n : Int} {x : Cn} (hx : S.F n = some x) {S' : Sx} (hR : S'.R = leftR S x) (hF : ∀ i, i ≠ n → S'.F i = S.F i) (hz : ∀ y, S'.F n = some y → y.tk = 0) : Lined S' := by
  refine ⟨fun r hr => ?_, fun i y hy => ?_⟩
  · rw [hR] at hr
    obtain ⟨h1, h2⟩ := List.mem_filter.1 hr
    obtain ⟨i, y, a1, a2, a3⟩ := hl.val r h1
    have hne : i ≠ n := fun e => by
      rw [tickG hs hl hx h1, a1] at h2
      exact (bne_iff_ne.1 h2) e
    exact ⟨i, y, a1, (hF i hne).trans a2, a3⟩
  · by_cases e : i = n
    · subst e
      exact .inl (hz y hy)
    · rw [hF i e] at hy
      rcases hl.wts i y hy with e2 | ⟨r, hr, a1, a2⟩
      · exact .inl e2
      · refine .inr ⟨r, ?_, a1, a2⟩
        rw [hR]
        refine List.mem_filter.2 ⟨hr, ?_⟩
        rw [tickG hs hl hx hr, a2]
        exact bne_iff_ne.2 e
theorem okC_new (blk bb bm : Nat) : okC (cn0 blk bb bm) := by
  refine ⟨?_, ?_, fun _ => rfl, fun t => ?_⟩
  · show validB defT = true
    kernel_rfl
  · show 1 ≤ 1
    decide
  · show held (putAt (fun _ => none) defT 1) t ≤ 1
    unfold held putAt
    split
    · decide
    · show (0 : Int) ≤ 1
      decide
/-- One more call: what it leaves. -/
def Went (B : Nat) (W : World) (sb : Nat) (N : Nat) (w' : World) : Prop := (∃ S', Gd B w' sb S' (N + 1)) ∧ Below B W w'
theorem gOpen {B : Nat} {W : World} {sb : Nat} {S : Sx} {N : Nat} (h : Gd B W sb S N) (hN : N ≤ 900000000) (h1N : 1 ≤ N) (n : Int) (hn : (Lit.int .i64 n).wf = true) :
    Calls Try.prog 17 #[ptrV sb, .int .i64 n] W fun e w' => (∃ z : Int, e = .returned (.int .i64 z)) ∧ Went B W sb N w' := by
  obtain ⟨lab, hs⟩ := h.seat
  have hf := h.few
  refine (open_any n B W lab sb S hs hn (by have := hf.nn; unfold maxLen; omega)).mono ?_
  rintro e w' ⟨rfl, lab', S', h1, h2, h3, _⟩
  refine ⟨⟨_, rfl⟩, ⟨S', ?_⟩, h3⟩
  rcases h2 with ⟨_, rfl⟩ | ⟨h2, blk, bb, bm, rfl⟩
  · exact ⟨⟨lab', h1⟩, h.lin, hf.mono (by omega), h.ok⟩
  · have hF : S.F n = none := by
      unfold openE at h2
      split at h2
      · cases h2
      · cases hF : S.F n with
        | none => rfl
        | some x => rw [hF] at h2; simp at h2
    refine ⟨⟨lab', h1⟩, ⟨fun r hr => ?_, fun i x hx => ?_⟩, ⟨by have := hf.nn; show S.nn + 1 ≤ N + 1; omega, by have := hf.gv; show S.gv ≤ _; omega, Nat.le_succ_of_le hf.rl, fun i x hx => ?_⟩, fun i x hx => ?_⟩
    · obtain ⟨i, x, a1, a2, a3⟩ := h.lin.val r hr
      have hne : i ≠ n := fun e => by rw [e, hF] at a2; cases a2
      exact ⟨i, x, a1, (if_neg hne).trans a2, a3⟩
    · simp only [updF] at hx
      split at hx
      · cases hx; exact .inl rfl
      · exact h.lin.wts i x hx
    · simp only [updF] at hx
      split at hx
      · cases hx; show 1 ≤ N + 1; omega
      · exact Nat.le_succ_of_le (hf.n i x hx)
    · simp only [updF] at hx
      split at hx
      · cases hx; exact okC_new blk bb bm
      · exact h.ok i x hx
theorem gWait {B : Nat} {W : World} {sb : Nat} {S : Sx} {N : Nat} (h : Gd B W sb S N) (hN : N ≤ 900000000) (n u : Int) (hn : (Lit.int .i64 n).wf = true) :
    Calls Try.prog 18 #[ptrV sb, .int .i64 n, .int .i64 u] W fun e w' => (∃ z : Int, e = .returned (.int .i64 z)) ∧ Went B W sb N w' := by
  obtain ⟨lab, hs⟩ := h.seat
  have hf := h.few
  refine (wait_any n u B W lab sb S hs hn (hf.big (by omega))).mono ?_
  rintro e w' ⟨rfl, lab', S', h1, h2, h3, _⟩
  refine ⟨⟨_, rfl⟩, ⟨S', ?_⟩, h3⟩
  rcases h2 with ⟨_, rfl⟩ | ⟨_, k, x, hx, h0, rfl⟩
  · exact ⟨⟨lab', h1⟩, h.lin, hf.mono (by omega), h.ok⟩
  · have hgp := hs.line.pos
    refine ⟨⟨lab', h1⟩, ⟨fun r hr => ?_, fun i y hy => ?_⟩, ⟨Nat.le_succ_of_le hf.nn, by have := hf.gv; show S.gv + 1 ≤ _; omega, by have := hf.rl; show (S.R ++ [_]).length ≤ _; rw [List.length_append]; simp; omega, fun i y hy => ?_⟩, fun i y hy => ?_⟩
    · rcases List.mem_append.1 hr with hr | hr
      · obtain ⟨i, y, a1, a2, a3⟩ := h.lin.val r hr
        have hne : i ≠ n := fun e => by
          rw [e, hx] at a2
          cases a2
          have := (hs.line.le r hr).1
          omega
        exact ⟨i, y, a1, (if_neg hne).trans a2, a3⟩
      · obtain rfl := List.mem_singleton.1 hr
        exact ⟨n, _, rfl, if_pos rfl, rfl⟩
    · simp only [waitS, updF] at hy
      split at hy
      · rename_i e
        subst e
        cases hy
        exact .inr ⟨⟨k, S.gv + 1, .int .i64 i⟩, List.mem_append.2 (.inr (List.mem_singleton.2 rfl)), rfl, rfl⟩
      · rcases h.lin.wts i y hy with e | ⟨r, hr, a1, a2⟩
        · exact .inl e
        · exact .inr ⟨r, List.mem_append.2 (.inl hr), a1, a2⟩
    · simp only [waitS, updF] at hy
      split at hy
      · cases hy; exact Nat.le_succ_of_le (hf.n n x hx)
      · exact Nat.le_succ_of_le (hf.n i y hy)
    · simp only [waitS, updF] at hy
      split at hy
      · cases hy
        obtain ⟨o1, o2, _, o4⟩ := h.ok n x hx
        exact ⟨o1, o2, fun e => by have e : S.gv + 1 = 0 := e; omega, o4⟩
      · exact h.ok i y hy
theorem gStop {B : Nat} {W : World} {sb : Nat} {S : Sx} {N : Nat} (h : Gd B W sb S N) (hN : N ≤ 900000000) (n : Int) (hn : (Lit.int .i64 n).wf = true) :
    Calls Try.prog 19 #[ptrV sb, .int .i64 n] W fun e w' => (∃ z : Int, e = .returned (.int .i64 z)) ∧ Went B W sb N w' := by
  obtain ⟨lab, hs⟩ := h.seat
  have hf := h.few
  refine (stop_any n B W lab sb S hs h.lin (hf.big (by omega)) hn).mono ?_
  rintro e w' ⟨rfl, lab', S', h1, h2, h3, _⟩
  refine ⟨⟨_, rfl⟩, ⟨S', ?_⟩, h3⟩
  rcases h2 with ⟨h2, rfl⟩ | ⟨_, x, hx, _, rfl⟩
  · exact ⟨⟨lab', h1⟩, h.lin, hf.mono (by omega), h.ok⟩
  · refine ⟨⟨lab', h1⟩, lined_leftG hs h.lin hx rfl (fun i hi => if_neg hi) (fun y hy => ?_), FewS.mono (N := N) ⟨hf.nn, hf.gv, Nat.le_trans (List.length_filter_le _ _) hf.rl, fun i y hy => ?_⟩ (by omega), fun i y hy => ?_⟩
    · simp only [stopS, updF, if_true] at hy; cases hy; rfl
    · simp only [stopS, updF] at hy
      split at hy
      · cases hy; exact hf.n n x hx
      · exact hf.n i y hy
    · simp only [stopS, updF] at hy
      split at hy
      · cases hy
        obtain ⟨o1, o2, _, o4⟩ := h.ok n x hx
        exact ⟨o1, o2, fun _ => rfl, o4⟩
      · exact h.ok i y hy
theorem gClose {B : Nat} {W : World} {sb : Nat} {S : Sx} {N : Nat} (h : Gd B W sb S N) (hN : N ≤ 900000000) (n : Int) (hn : (Lit.int .i64 n).wf = true) :
    Calls Try.prog 20 #[ptrV sb, .int .i64 n] W fun e w' => (∃ z : Int, e = .returned (.int .i64 z)) ∧ Went B W sb N w' := by
  obtain ⟨lab, hs⟩ := h.seat
  have hf := h.few
  refine (close_any n B W lab sb S hs h.lin (hf.big (by omega)) hn).mono ?_
  rintro e w' ⟨rfl, lab', S', h1, h2, h3, _⟩
  refine ⟨⟨_, rfl⟩, ⟨S', ?_⟩, h3⟩
  rcases h2 with ⟨h2, rfl⟩ | ⟨x, hx, rfl⟩
  · exact ⟨⟨lab', h1⟩, h.lin, hf.mono (by omega), h.ok⟩
  · refine ⟨⟨lab', h1⟩, lined_leftG hs h.lin hx rfl (fun i hi => if_neg hi) (fun y hy => ?_), FewS.mono (N := N) ⟨Nat.le_trans (Nat.sub_le _ _) hf.nn, hf.gv, Nat.le_trans (List.length_filter_le _ _) hf.rl, fun i y hy => ?_⟩ (by omega), fun i y hy => ?_⟩
    · simp only [closeS, updF, if_true] at hy; cases hy
    · simp only [closeS, updF] at hy
      split at hy
      · cases hy
      · exact hf.n i y hy
    · simp only [closeS, updF] at hy
      split at hy
      · cases hy
      · exact h.ok i y hy
/-- One connection is turned, its ticket stays. -/
theorem Gd.turn {B : Nat} {W W' : World} {sb : Nat} {S : Sx} {N : Nat} (h : Gd B W sb S N) {lab : Nat → Int} {n : Int} {x x' : Cn} (hx : S.F n = some x) (h1 : SAt B W' lab sb { S with F := updF S.F n (some x') }) (ht : x'.tk = x.tk) (hn : x'.n ≤ N + 1) (hok : okC x') : Gd B W' sb { S with F := updF S.F n (some x') } (N + 1) := by
  have hf := h.few
  refine ⟨⟨lab, h1⟩, ⟨fun r hr => ?_, fun i y hy => ?_⟩, ⟨Nat.le_succ_of_le hf.nn, by have := hf.gv; show S.gv ≤ _; omega, Nat.le_succ_of_le hf.rl, fun i y hy => ?_⟩, fun i y hy => ?_⟩
  · obtain ⟨i, y, a1, a2, a3⟩ := h.lin.val r hr
    by_cases e : i = n
    · subst e
      rw [hx] at a2
      cases a2
      exact ⟨i, _, a1, if_pos rfl, ht.trans a3⟩
    · exact ⟨i, y, a1, (if_neg e).trans a2, a3⟩
  · simp only [updF] at hy
    split at hy
    · rename_i e
      subst e
      cases hy
      rw [ht]
      exact h.lin.wts i x hx
    · exact h.lin.wts i y hy
  · simp only [updF] at hy
    split at hy
    · cases hy; exact hn
    · exact Nat.le_succ_of_le (hf.n i y hy)
  · simp only [updF] at hy
    split at hy
    · cases hy; exact hok
    · exact h.ok i y hy
theorem gUse {B : Nat} {W : World} {sb : Nat} {S : Sx} {N : Nat} (h : Gd B W sb S N) (n : Int) (hn : (Lit.int .i64 n).wf = true) (t : ByteArray) :
    Calls Try.prog 25 #[ptrV sb, .int .i64 n, .string t] W fun e w' => (∃ z : Int, e = .returned (.int .i64 z)) ∧ Went B W sb N w' := by
  obtain ⟨lab, hs⟩ := h.seat
  refine (use_any n t B W lab sb S hs hn).mono ?_
  rintro e w' ⟨rfl, h1, h3⟩
  refine ⟨⟨_, rfl⟩, ⟨useS S n t, ?_⟩, h3⟩
  unfold useS at h1 ⊢
  cases hF : S.F n with
  | none =>
    simp only [hF] at h1
    exact ⟨⟨lab, h1⟩, h.lin, h.few.mono (by omega), h.ok⟩
  | some x =>
    cases hv : validB t.data.toList with
    | false =>
      simp only [hF, hv, Bool.false_eq_true, if_false] at h1
      exact ⟨⟨lab, h1⟩, h.lin, h.few.mono (by omega), h.ok⟩
    | true =>
      simp only [hF, hv, if_true] at h1
      obtain ⟨_, o2, o3, o4⟩ := h.ok n x hF
      exact h.turn hF h1 rfl (Nat.le_succ_of_le (h.few.n n x hF)) ⟨hv, o2, o3, o4⟩
theorem gWatch {B : Nat} {W : World} {sb : Nat} {S : Sx} {N : Nat} (h : Gd B W sb S N) (hN : N ≤ 900000000) (n : Int) (hn : (Lit.int .i64 n).wf = true) (t : ByteArray) :
    Calls Try.prog 21 #[ptrV sb, .int .i64 n, .string t] W fun e w' => (∃ z y : Int, e = .returned (.tuple #[.int .i64 z, .int .i64 y])) ∧ Went B W sb N w' := by
  obtain ⟨lab, hs⟩ := h.seat
  refine (watch_any n t B W lab sb S hs hn (fun x hx => by have := h.few.n n x hx; omega)).mono ?_
  rintro e w' ⟨rfl, h1, h3, _⟩
  refine ⟨⟨_, _, rfl⟩, ⟨watchS S n t.data.toList, ?_⟩, h3⟩
  unfold watchS at h1 ⊢
  cases hF : S.F n with
  | none =>
    simp only [hF] at h1
    exact ⟨⟨lab, h1⟩, h.lin, h.few.mono (by omega), h.ok⟩
  | some x =>
    cases hv : validB t.data.toList with
    | false =>
      simp only [hF, hv, Bool.false_eq_true, if_false] at h1
      exact ⟨⟨lab, h1⟩, h.lin, h.few.mono (by omega), h.ok⟩
    | true =>
      simp only [hF, hv, if_true] at h1
      obtain ⟨o1, o2, o3, o4⟩ := h.ok n x hF
      have hnn := h.few.n n x hF
      refine h.turn hF h1 (by unfold watchC; split <;> rfl) ?_ ?_
      · unfold watchC
        split
        · omega
        · have := holdN_le x.g x.n t.data.toList
          show holdN x.g x.n t.data.toList ≤ N + 1
          omega
      · unfold watchC
        split
        · exact ⟨o1, o2, o3, o4⟩
        · rename_i hp
          refine ⟨o1, ?_, o3, fun u => ?_⟩
          · show 1 ≤ holdN x.g x.n t.data.toList
            unfold holdN setN
            rw [hv, if_pos rfl]
            have h0 := held_nonneg (hs.each n x hF).book t.data.toList
            rw [if_neg (by omega)]
            split <;> omega
          · show held (holdG x.g t.data.toList) u ≤ 1
            unfold holdG
            rw [hv, if_pos rfl, held_set]
            split
            · have h0 := held_nonneg (hs.each n x hF).book t.data.toList
              omega
            · exact o4 u
theorem gIgnore {B : Nat} {W : World} {sb : Nat} {S : Sx} {N : Nat} (h : Gd B W sb S N) (hN : N ≤ 900000000) (n : Int) (hn : (Lit.int .i64 n).wf = true) (t : ByteArray) :
    Calls Try.prog 26 #[ptrV sb, .int .i64 n, .string t] W fun e w' => (∃ z y : Int, e = .returned (.tuple #[.int .i64 z, .int .i64 y])) ∧ Went B W sb N w' := by
  obtain ⟨lab, hs⟩ := h.seat
  refine (ignore_any n t B W lab sb S hs hn (fun x hx => ⟨by have := h.few.n n x hx; omega, (h.ok n x hx).2.2.2⟩)).mono ?_
  rintro e w' ⟨he, h1, h3⟩
  refine ⟨he, ⟨ignS S n t.data.toList, ?_⟩, h3⟩
  unfold ignS at h1 ⊢
  cases hF : S.F n with
  | none =>
    simp only [hF] at h1
    exact ⟨⟨lab, h1⟩, h.lin, h.few.mono (by omega), h.ok⟩
  | some x =>
    cases hv : validB t.data.toList with
    | false =>
      simp only [hF, hv, Bool.false_eq_true, if_false] at h1
      exact ⟨⟨lab, h1⟩, h.lin, h.few.mono (by omega), h.ok⟩
    | true =>
      simp only [hF, hv, if_true] at h1
      obtain ⟨o1, o2, o3, o4⟩ := h.ok n x hF
      have hnn := h.few.n n x hF
      have hdn : dropN x.g x.n t.data.toList ≤ x.n := by
        unfold dropN setN
        split
        · omega
        · split
          · split <;> omega
          · rename_i h0 h1'
            have h2 := o4 t.data.toList
            have h3 := held_nonneg (hs.each n x hF).book t.data.toList
            omega
      refine h.turn hF h1 (by unfold ignC; split <;> rfl) ?_ ?_
      · unfold ignC
        split
        · omega
        · show dropN x.g x.n t.data.toList ≤ N + 1
          omega
      · unfold ignC
        split
        · exact ⟨o1, o2, o3, o4⟩
        · rename_i hp
          refine ⟨o1, ?_, o3, fun u => ?_⟩
          · show 1 ≤ dropN x.g x.n t.data.toList
            have h3 := held_nonneg (hs.each n x hF).book t.data.toList
            by_cases h0 : held x.g t.data.toList = 0
            · unfold dropN
              rw [if_pos h0]
              exact o2
            · have hx1 : x.n ≠ 1 := fun e => hp ⟨by omega, e⟩
              unfold dropN setN
              rw [if_neg h0]
              split
              · split <;> omega
              · split <;> omega
          · show held (dropG x.g t.data.toList) u ≤ 1
            unfold dropG
            split
            · exact o4 u
            · rw [held_set]
              split
              · have := o4 t.data.toList; omega
              · exact o4 u
end Go.Proofs.Ytogmobkkpmpdcaa
