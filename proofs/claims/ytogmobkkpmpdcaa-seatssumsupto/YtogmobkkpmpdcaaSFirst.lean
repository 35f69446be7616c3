/-
  First.
-/
import Derived.Test.YtogmobkkpmpdcaaSWait
import Derived.Test.YtogmobkkpmpdcaaNames
namespace Go.Proofs.Ytogmobkkpmpdcaa
open Go.RowKit
/-- Whose place it is. -/
def whoV : Value → Int
  | .int _ i => i
  | _ => 0
def seesB (S : Sx) (t : List UInt8) (r : que.Stand) : Bool := match S.F (whoV r.v) with | some x => decide (0 < held x.g t) | none => false
/-- The first of those that wait that watches a tube. -/
def firstW (S : Sx) (t : List UInt8) : Int := match S.R.find? (seesB S t) with | some r => whoV r.v | none => -1
/-- In the midst of First: where it has laid what it was handed, and what it will tell. -/
structure FMid (w : World) (sb : Nat) (t : ByteArray) (b0 : Nat) (v : Int) (W : World) : Prop where
  bel : Below w.heap.size w W
  p0 : W.heap[b0]? = some (.cells #[ptrV sb] 24 (0, 0))
  p1 : W.heap[b0 + 1]? = some (.cells #[.string t] 9 (0, 0))
  p2 : W.heap[b0 + 2]? = some (.cells #[.int .i64 v] 3 (0, 0))
theorem FMid.own {w : World} {sb : Nat} {t : ByteArray} {b0 : Nat} {v : Int} {W W' : World} (h : FMid w sb t b0 v W) {C : Nat} {row : Option Nat} (hg : W.grownBy W' row) (hr : ∀ r, row = some r → C ≤ r ∧ ∃ o : Obj, W.heap[r]? = some o ∧ o.isCells = false) (hC : w.heap.size ≤ C) : FMid w sb t b0 v W' :=
  ⟨h.bel.grown hg h.bel.size (fun k e => by have := (hr k e).1; omega), cells_own h.p0 hg hr, cells_own h.p1 hg hr, cells_own h.p2 hg hr⟩
theorem FMid.below {w : World} {sb : Nat} {t : ByteArray} {b0 : Nat} {v : Int} {W W' : World} (h : FMid w sb t b0 v W) (hb : Below W.heap.size W W') : FMid w sb t b0 v W' :=
  h.own (C := w.heap.size) (row := none) ⟨hb.os, hb.tape, hb.output, hb.size, fun k h _ => hb.block k h⟩ (fun _ e => by cases e) (Nat.le_refl _)
theorem FMid.set {w : World} {sb : Nat} {t : ByteArray} {v : Int} {W : World} (h : FMid w sb t w.heap.size v W) (u : Int) : FMid w sb t w.heap.size u (W.setCell ⟨w.heap.size + 1 + 1, 0, none⟩ (.int .i64 u)) := by
  have hk : Kept (fun k => k = w.heap.size + 2) W (W.setCell ⟨w.heap.size + 1 + 1, 0, none⟩ (.int .i64 u)) := Kept.setCell (fun k => k = w.heap.size + 2) W _ _ _ rfl
  refine ⟨h.bel.trans (hk.below h.bel.size (fun k hk e => by have e : k = w.heap.size + 2 := e; omega)), ?_, ?_, ?_⟩
  · exact (hk.block _ (Array.getElem?_eq_some_iff.1 h.p0).1 (fun e => by have e : w.heap.size = w.heap.size + 2 := e; omega)).trans h.p0
  · exact (hk.block _ (Array.getElem?_eq_some_iff.1 h.p1).1 (fun e => by have e : w.heap.size + 1 = w.heap.size + 2 := e; omega)).trans h.p1
  · rw [show w.heap.size + 1 + 1 = w.heap.size + 2 from rfl, (set_cells h.p2 0 (.int .i64 u)).1]
    rfl
attribute [local go_sem] Oper.semAt_some wide_fn
set_option maxHeartbeats 4000000 in
set_option maxRecDepth 1000000 in
theorem first_any (t : ByteArray) (B : Nat) (w : World) (lab : Nat → Int) (sb : Nat) (S : Sx) (h : SAt B w lab sb S) (hl : Lined S) (ht : t.size ≤ maxLen) (hR : S.R.length ≤ 1000000000) :
    Calls Try.prog 15 #[ptrV sb, .string t] w fun e w' => e = .returned (.int .i64 (firstW S t.data.toList)) ∧ Below w.heap.size w w' := by
  have HS : Hid (SAt B w lab sb S) := h
  have HL : Hid (Lined S) := hl
  have cl := h.cell0.2
  have slt := h.lt
  clear h hl
  obtain ⟨w1, hw1⟩ : ∃ w1, w1 = ((w.alloc (.cells #[ptrV sb] 24)).alloc (.cells #[.string t] 9)).alloc (.cells #[.int .i64 0] 3) := ⟨_, rfl⟩
  have HW1 : Hid (((w.alloc (.cells #[ptrV sb] 24)).alloc (.cells #[.string t] 9)).alloc (.cells #[.int .i64 0] 3) = w1) := hw1.symm
  have F1 : FMid w sb t w.heap.size 0 w1 := by
    rw [hw1]
    have z1 : (w.alloc (.cells #[ptrV sb] 24)).heap.size = w.heap.size + 1 := by simp
    have z2 : ((w.alloc (.cells #[ptrV sb] 24)).alloc (.cells #[.string t] 9)).heap.size = w.heap.size + 2 := by simp
    refine ⟨(((Below.refl _ w).alloc (Nat.le_refl _) _).alloc (by simp) _).alloc (by simp [Nat.add_assoc]) _, ?_, ?_, ?_⟩
    · exact (Below.heap_alloc _ _ _ (by omega)).trans ((Below.heap_alloc _ _ _ (by omega)).trans (heap_alloc_new w _))
    · rw [← z1]
      exact (Below.heap_alloc _ _ _ (by omega)).trans (heap_alloc_new _ _)
    · rw [← z2]
      exact heap_alloc_new _ _
  have HF1 : Hid (FMid w sb t w.heap.size 0 w1) := F1
  have d0 : w1.cell? ⟨w.heap.size, 0, none⟩ = some (ptrV sb) := by simp [World.cell?, F1.p0]
  have cl1 := (F1.bel.cell (p := ⟨sb, 1, none⟩) slt).trans cl
  have slt1 := Nat.lt_of_lt_of_le slt F1.bel.size
  clear hw1 F1
  refine (callsIn_wide (n := 3)).1 ?_
  refine callsIn_of_wp_marks Try.func15 rfl trivial ?_ rfl
  simp only [Try.ntmps15, List.size_toArray, List.length_cons, List.length_nil, Nat.reduceAdd, Nat.reduceSub, Array.replicate_succ, Array.replicate_zero, List.push_toArray, List.append_toArray, List.nil_append, List.cons_append]
  refine wpIn_wide.2 ?_
  go_upto_region 1 with fail
  rw [HW1.out]
  have CA : Hid (Calls Try.prog 40 #[.pointer (some ⟨S.qb, 0, none⟩)] w1 fun e w' => e = .returned (.func (.func 57) #[] #[.pointer (some ⟨w1.heap.size, 0, none⟩)]) ∧ w' = w1.alloc (.cells #[.pointer (some ⟨S.qb, 0, none⟩)] 48)) := que.allI w1 S.qb
  go_wp2_with (go_at_call 40; refine CA.out.mono ?_; rintro e w2 ⟨rfl, hw2⟩; have HW2 : Hid (w2 = w1.alloc (.cells #[.pointer (some ⟨S.qb, 0, none⟩)] 48)) := hw2; clear hw2)
  obtain ⟨cb, hcb⟩ : ∃ cb, cb = w1.heap.size := ⟨_, rfl⟩
  have B2 : Below w1.heap.size w1 w2 := by rw [HW2.out]; exact (Below.refl _ w1).alloc (Nat.le_refl _) _
  have F2 : FMid w sb t w.heap.size 0 w2 := HF1.out.below B2
  have BX : que.boxedI w2 cb S.qb := by rw [HW2.out, hcb]; exact heap_alloc_new w1 _
  have S2 : Hid (SAt B w2 lab sb S) := HS.out.later (F2.bel.mono (Nat.le_refl _))
  have HF2 : Hid (FMid w sb t w.heap.size 0 w2 ∧ que.boxedI w2 cb S.qb) := ⟨F2, BX⟩
  have hz2 : w.heap.size ≤ w2.heap.size := F2.bel.size
  rw [← hcb]
  clear hcb B2 F2 BX HW2 HF1 HW1 d0 cl1 slt1 CA
  refine (wpIn_wide (n := 3)).1 ?_
  refine wpIn_told rfl (by omega) (gf := 57) (lb := #[.pointer (some ⟨cb, 0, none⟩)]) rfl trivial (enters_of Try.func57 (by kernel_rfl) rfl)
    (que.all1_toldI 2 cb S.qb S.qm S.gv S.R w2 S2.out.line HF2.out.2 (by omega) HL.out.ints) (fun h k => h.trans k) (fun W l o o' _ hl ho _ => que.KpI.put W l o o' hl ho) (Below.refl _ _) (fun _ => rfl)
    (fun pre W => (∀ r ∈ pre, seesB S t.data.toList r = false) ∧ pre <+: S.R ∧ FMid w sb t w.heap.size 0 W)
    (fun c pre W => c = .ret ∧ ∃ r, S.R.find? (seesB S t.data.toList) = some r ∧ FMid w sb t w.heap.size (whoV r.v) W)
    (fun pre W W' row hs hgr hr => ⟨hs.1, hs.2.1, hs.2.2.own hgr hr hz2⟩)
    (fun c pre W W' row hs hgr hr => by
      obtain ⟨h1, r, h2, h3⟩ := hs
      exact ⟨h1, r, h2, h3.own hgr hr hz2⟩)
    (fun pre x A _ _ _ _ h _ _ => h)
    ⟨fun _ h => (by cases h), List.nil_prefix, HF2.out.1⟩
    ?a1 ?assign ?body ?done ?stop
  case assign =>
    intro l x W K hK
    gi_wp2
    exact hK
  case body =>
    rintro id pre r A V hid _ _ _ _ ⟨i1, i2, i3⟩ hx hlt
    obtain ⟨T', hT'⟩ := i2
    have hT : T'[0]? = some r := by
      rw [← hT', List.getElem?_append_right (Nat.le_refl _), Nat.sub_self] at hx
      exact hx
    obtain ⟨T, rfl⟩ : ∃ T, T' = r :: T := by
      cases T' with
      | nil => cases hT
      | cons a T => simp only [List.getElem?_cons_zero, Option.some.injEq] at hT; exact ⟨T, by rw [hT]⟩
    obtain ⟨i, x, hv, hF, _⟩ := HL.out.val r (by rw [← hT']; simp)
    have SV : SAt B V lab sb S := HS.out.later i3.bel
    have HT : Hid (S.R = pre ++ r :: T) := hT'.symm
    have HI : Hid (FMid w sb t w.heap.size 0 V ∧ ∀ r ∈ pre, seesB S t.data.toList r = false) := ⟨i3, i1⟩
    have e0 : V.cell? ⟨w.heap.size, 0, none⟩ = some (ptrV sb) := by simp [World.cell?, i3.p0]
    have e1 : V.cell? ⟨w.heap.size + 1, 0, none⟩ = some (.string t) := by simp [World.cell?, i3.p1]
    have e2 : V.cell? ⟨w.heap.size + 1 + 1, 0, none⟩ = some (.int .i64 0) := by simp [World.cell?, i3.p2]
    have f2 : V.frozen? ⟨w.heap.size + 1 + 1, 0, none⟩ = false := by simp [World.frozen?, i3.p2]
    have c0 := SV.cell0.1
    have sltV := SV.lt
    have hi64 : (Lit.int .i64 i).wf = true := WalkArith.wf_i64 (by have := SV.rng i x hF; omega)
    have look : ∀ k, (Instr.lookup 47 (.map (some S.mb)) (.int .i64 i) false).run Try.prog (V.drewN k) = .ok (ptrV x.blk) (V.drewN k) := fun k => by
      have := VTabI.look_run (w := V.drewN k) Try.underlying47 (zero_seat _) (SV.tab.block (show (V.drewN k).heap[S.mb]? = V.heap[S.mb]? from (below_drewN (Below.refl _ V) k).block _ SV.tab.lt)) i hi64
      simp only [hF, Option.map_some, Option.getD_some] at this
      exact this
    have SM : Hid (∀ k, Calls Try.prog 37 #[ptrV x.blk, .string t] (V.drewN k) fun e w' => e = .returned (.bool (seesB S t.data.toList r)) ∧ ∃ m, w' = (V.drewN k).drewN m) := fun k => by
      have hc : CnAt (V.drewN k) lab i x := (SV.each i x hF).kept (P := fun _ => False) (Kept.ofBelow (below_drewN (Below.refl _ V) k)) (fun _ _ h => h.elim) (fun _ _ => rfl)
      refine (watches_any t (V.drewN k) lab i x hc ht).mono ?_
      rintro e w' ⟨rfl, rfl⟩
      refine ⟨?_, 0, rfl⟩
      unfold seesB
      rw [hv]
      simp only [whoV, hF]
    obtain ⟨rk, rt, rv⟩ := r
    simp only [] at hv
    subst hv
    clear hT hT' hx i1 i3 SV
    gi_wp2
    refine wpIn_quiet_round (F := Fence.wide) rfl (by kernel_rfl) (by kernel_rfl) (by kernel_rfl) ?_
    repeat (gi_big_quiet_step ((gi_at_call 37; exact CallsIn.quiet_of (callsIn_wide.2 (SM.out _)))))
    refine wpQuietIn_nil ?_
    rintro _ ⟨nq, rfl⟩
    have hbq : Below V.heap.size V (V.drewN nq) := below_drewN (Below.refl _ V) nq
    have I3 : Hid (FMid w sb t w.heap.size 0 (V.drewN nq)) := HI.out.1.below hbq
    have HQ : Hid (Below V.heap.size V (V.drewN nq)) := hbq
    have HPre : Hid (pre ++ [⟨rk, rt, .int .i64 i⟩] <+: S.R) := ⟨T, by rw [HT.out]; simp⟩
    clear hbq
    cases hb : seesB S t.data.toList ⟨rk, rt, .int .i64 i⟩ with
    | false =>
      gi_wp2
      refine ⟨⟨HQ.out.size, fun k o _ ho _ => (HQ.out.block k (Array.getElem?_eq_some_iff.1 ho).1).trans ho⟩, que.KpI.ofBelow HQ.out, fun r hr => ?_, HPre.out, I3.out⟩
      rcases List.mem_append.1 hr with h1 | h1
      · exact HI.out.2 r h1
      · obtain rfl := List.mem_singleton.1 h1
        exact hb
    | true =>
      gi_wp2
      have hk : Kept (fun k => k = w.heap.size + 2) V ((V.drewN nq).setCell ⟨w.heap.size + 1 + 1, 0, none⟩ (.int .i64 i)) := (Kept.ofBelow HQ.out).trans (Kept.setCell (fun k => k = w.heap.size + 2) _ _ _ _ rfl)
      refine ⟨⟨hk.size, fun k o _ ho hc => (hk.block k (Array.getElem?_eq_some_iff.1 ho).1 (fun e => ?_)).trans ho⟩, rfl, ⟨rk, rt, .int .i64 i⟩, ?_, I3.out.set i⟩
      · have e : k = w.heap.size + 2 := e
        rw [e, HI.out.1.p2] at ho
        cases ho
        cases hc
      · rw [HT.out, List.find?_append, List.find?_eq_none.2 (fun r hr => by rw [HI.out.2 r hr]; decide), Option.none_or, List.find?_cons, hb]
  case done =>
    rintro D xs V hD hS ⟨i1, i2, i3⟩ hK
    subst hS
    have e2 : V.cell? ⟨w.heap.size + 1 + 1, 0, none⟩ = some (.int .i64 0) := by simp [World.cell?, i3.p2]
    have f2 : V.frozen? ⟨w.heap.size + 1 + 1, 0, none⟩ = false := by simp [World.frozen?, i3.p2]
    have HI : Hid (FMid w sb t w.heap.size (-1) (V.setCell ⟨w.heap.size + 1 + 1, 0, none⟩ (.int .i64 (-1))) ∧ firstW S t.data.toList = -1) := by
      refine ⟨i3.set (-1), ?_⟩
      unfold firstW
      rw [List.find?_eq_none.2 (fun r hr => by rw [i1 r hr]; decide)]
    have HK : Hid ((V.setCell ⟨w.heap.size + 1 + 1, 0, none⟩ (.int .i64 (-1))).heap[D]? = some (.deferred (some []))) := by
      refine ((Kept.setCell (fun k => k = w.heap.size + 2) V _ _ (.int .i64 (-1)) rfl).block D (Array.getElem?_eq_some_iff.1 hK).1 (fun e => ?_)).trans hK
      have e : D = w.heap.size + 2 := e
      rw [e, i3.p2] at hK
      cases hK
    clear i1 i2 i3 hK
    go_wp2_with fail
    refine ⟨by simp, .inl ⟨_, _, rfl, run_takeDeferred HK.out, ?_⟩⟩
    obtain ⟨i3, e3⟩ := HI.out
    have i4 := i3.own (C := w.heap.size) (grownBy_putObj' _ D (.deferred none)) (fun k e => by cases e; exact ⟨by omega, _, HK.out, rfl⟩) (Nat.le_refl _)
    have c4 : ((V.setCell ⟨w.heap.size + 1 + 1, 0, none⟩ (.int .i64 (-1))).putObj D (.deferred none)).cell? ⟨w.heap.size + 1 + 1, 0, none⟩ = some (.int .i64 (-1)) := by simp [World.cell?, i4.p2]
    exact ⟨.int .i64 (-1), by simp [results, Try.f15, go_sem, c4], by rw [e3], i4.bel⟩
  case stop =>
    rintro D c pre V hD _ ⟨rfl, r, h1, h2⟩ hK
    gi_wp2
    refine ⟨by simp, .inl ⟨_, _, rfl, run_takeDeferred hK, ?_⟩⟩
    have i4 := h2.own (C := w.heap.size) (grownBy_putObj' _ D (.deferred none)) (fun k e => by cases e; exact ⟨by omega, _, hK, rfl⟩) (Nat.le_refl _)
    have c4 : (V.putObj D (.deferred none)).cell? ⟨w.heap.size + 1 + 1, 0, none⟩ = some (.int .i64 (whoV r.v)) := by simp [World.cell?, i4.p2]
    have e3 : firstW S t.data.toList = whoV r.v := by unfold firstW; rw [h1]
    exact ⟨.int .i64 (whoV r.v), by simp [results, Try.f15, go_sem, c4], by rw [e3], i4.bel⟩
end Go.Proofs.Ytogmobkkpmpdcaa
