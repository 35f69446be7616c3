/-
  The walk of QueueTexts.
-/
import Derived.Test.YtpnbmokgjinnbaaPlainTexts
import Derived.Test.YtpnbmokgjinnbaaPartS
import Derived.Test.YtpnbmokgjinnbaaShown
import Derived.Test.YtpnbmokgjinnbaaThings
import Derived.Test.YtpnbmokgjinnbaaRound
import Derived.Deep.RegionHeldLaw
namespace Go.Proofs.Ytpnbmokgjinnbaa.queueTexts
open Go.RowKit

theorem info_str : (Try.prog.info? 9).map (fun i => (i.zero, i.size, i.bytes)) = some (some (.string ByteArray.empty), 1, 16) := by kernel_rfl
theorem things_cell {w : World} {b : Option Addr} {c : Nat} {l : List ThingI} (h : IsThings w b c l) {k : Nat} {x : ThingI} (hx : l[k]? = some x) : thingFits x ∧ ∃ b' o, b = some ⟨b', o, none⟩ ∧ b' < w.heap.size ∧ w.cell? ⟨b', o + k * 3, none⟩ = some (.bool x.1) ∧ w.cell? ⟨b', o + k * 3 + 1, none⟩ = some (.string x.2.1) ∧ w.cell? ⟨b', o + k * 3 + 2, none⟩ = some (.int .i64 x.2.2) := by
  refine ⟨h.2.2.1 x (List.mem_of_getElem? hx), ?_⟩
  rcases h.2.2.2 with rfl | ⟨b', o, h1, h2, h3⟩
  · simp at hx
  · exact ⟨b', o, h1, h2, h3 k x hx 0 _ rfl, h3 k x hx 1 _ rfl, h3 k x hx 2 _ rfl⟩

/-- The list of all texts has grown, and is laid back. -/
theorem grow_all {W1 W W4 : World} {qb mb rb bp ba : Nat} {R : List Stand} {vt vh va va' : Value} {T H : List Int} {ss : List ByteArray} {s : ByteArray} (q : FromS W1 W qb mb ((ss.length : Int) + 1) R) (r : RefAt W1.heap.size W rb ((ss.length : Int) + 1) vt vh T H) (b : Beside W1.heap.size W rb bp ba va ss)
    (rel : TRel R T H (ss ++ [s])) (few : R.length ≤ (ss ++ [s]).length) (hk : Kept (fun k => va.ownBlock = some k) W W4) (hown : W4.ownsRow W1.heap.size 9 1 va' (ss ++ [s]).length (strv (ss ++ [s]))) :
    TMem W1 (W4.setCell ⟨ba, 0, none⟩ va') qb mb rb bp ba R vt vh va' T H (ss ++ [s]) ∧ W4.cell? ⟨ba, 0, none⟩ = some va ∧ W4.frozen? ⟨ba, 0, none⟩ = false := by
  have hrow : ∀ g, va.ownBlock = some g → ∃ cur, W.heap[g]? = some (.cells cur 9 (0, 0)) ∧ W1.heap.size ≤ g := fun g e => by
    rcases b.all.2 with ⟨rfl, _⟩ | ⟨g', cap, cur, rfl, hB, hc, _⟩
    · cases e
    · cases e; exact ⟨cur, hc, hB⟩
  have hne : ∀ (k : Nat) (c : Array Value) (t : TypeId), W.heap[k]? = some (.cells c t (0, 0)) → t ≠ 9 → ¬ va.ownBlock = some k := fun k c t hc ht e => by
    obtain ⟨cur, h1, _⟩ := hrow k e
    rw [h1] at hc
    simp at hc
    exact ht hc.2.symm
  have ha4 : W4.heap[ba]? = some (.cells #[va] 49 (0, 0)) := (hk.block ba (Array.getElem?_eq_some_iff.1 b.ha).1 (hne _ _ _ b.ha (by decide))).trans b.ha
  have hp4 : W4.heap[bp]? = some (.cells #[.pointer (some ⟨rb, 0, none⟩)] 31 (0, 0)) := (hk.block bp (Array.getElem?_eq_some_iff.1 b.hp).1 (hne _ _ _ b.hp (by decide))).trans b.hp
  have q4 : FromS W1 W4 qb mb ((ss.length : Int) + 1) R := q.kept hk (fun k hM e => by
    obtain ⟨cur, h1, _⟩ := hrow k e
    exact q.q.not h1 (by decide) (by decide) hM) (fun k hk e => by
    obtain ⟨_, _, h1⟩ := hrow k e
    omega)
  have r4 : RefAt W1.heap.size W4 rb ((ss.length : Int) + 1) vt vh T H := r.kept hk (fun k hM e => by
    obtain ⟨cur, h1, _⟩ := hrow k e
    exact r.not h1 (fun c h => by simp at h) (fun c h => by simp at h) hM)
  have k5 : Kept (fun k => k = ba) W4 (W4.setCell ⟨ba, 0, none⟩ va') := Kept.setCell _ _ _ _ _ rfl
  have hlen : (((ss ++ [s]).length : Nat) : Int) = (ss.length : Int) + 1 := by simp
  refine ⟨⟨?_, ?_, ⟨?_, ?_, ?_, b.lea⟩, rel, few⟩, by simp [World.cell?, ha4], by simp [World.frozen?, ha4]⟩
  · rw [hlen]
    exact q4.kept k5 (fun k hM e => q4.q.not ha4 (by decide) (by decide) (e ▸ hM)) (fun k hk e => by have := b.lea; omega)
  · rw [hlen]
    exact r4.kept k5 (fun k hM e => r4.not ha4 (fun c h => by simp at h) (fun c h => by simp at h) (e ▸ hM))
  · rw [set_other _ _ _ _ _ (fun e => by rw [e, ha4] at hp4; simp at hp4)]
    exact hp4
  · rw [(set_cells ha4 0 _).1]
    simp
  · refine k5.own hown (fun g e hg => ?_)
    rcases hown.2 with ⟨rfl, _⟩ | ⟨g', cap, cur, rfl, hB, hc, _⟩
    · cases e
    · cases e
      have hg' : g' = ba := hg
      rw [hg', ha4] at hc; simp at hc

/-- What is read of one that stands there. -/
theorem look {W1 W : World} {qb mb rb bp ba : Nat} {R : List Stand} {vt vh va : Value} {T H : List Int} {ss : List ByteArray} (h : TMem W1 W qb mb rb bp ba R vt vh va T H ss) {i : Nat} {x : Stand} (hx : R[i]? = some x) :
    ∃ gt ct gh ch ga ca hn s0, vt = .slice (some ⟨gt, 0, none⟩) R.length ct ∧ vh = .slice (some ⟨gh, 0, none⟩) R.length ch ∧ va = .slice (some ⟨ga, 0, none⟩) ss.length ca ∧ x.v = .string s0 ∧ hn < ss.length ∧ W.cell? ⟨gt, i, none⟩ = some (.int .i64 x.tk) ∧ W.cell? ⟨gh, i, none⟩ = some (.int .i64 (hn : Int)) ∧ W.cell? ⟨ga, hn, none⟩ = some (.string s0) := by
  have hil := (List.getElem?_eq_some_iff.1 hx).1
  have hT : T[i]? = some x.tk := by rw [← h.rel.tks, List.getElem?_map, hx]; rfl
  obtain ⟨y, hy⟩ : ∃ y, H[i]? = some y := ⟨_, List.getElem?_eq_getElem (by rw [h.rel.lenH]; exact hil)⟩
  have hok := h.rel.ok y (List.mem_of_getElem? hy)
  have hv := congrArg (fun l : List Value => l[i]?) h.rel.vals
  simp only [List.getElem?_map, hx, hy, Option.map_some, Option.some.injEq] at hv
  obtain ⟨s0, hs0⟩ : ∃ s0, ss[y.toNat]? = some s0 := ⟨_, List.getElem?_eq_getElem hok.2⟩
  obtain ⟨at_, ct, hvt⟩ := h.r.rt.form
  obtain ⟨ah, ch, hvh⟩ := h.r.rh.form
  have rt := h.r.rt
  have rh := h.r.rh
  rw [hvt] at rt
  rw [hvh] at rh
  obtain ⟨gt, e1, c1⟩ := rt.cell hT
  obtain ⟨gh, e2, c2⟩ := rh.cell hy
  rcases h.b.all.2 with ⟨_, h0⟩ | ⟨ga, cap, cur, hva, _, hg, h1, h2, h3, h4⟩
  · omega
  · refine ⟨gt, ct, gh, ch, ga, cap, y.toNat, s0, by rw [hvt, e1, h.rel.lenT], by rw [hvh, e2, h.rel.lenH], hva, ?_, hok.2, c1, ?_, ?_⟩
    · rw [hv]; unfold txt; simp [hs0]
    · rw [c2]; congr 2; omega
    · have h5 : (strv ss)[y.toNat]? = some (.string s0) := by simp [strv, hs0]
      rw [← h4, List.getElem?_take_of_lt (by omega)] at h5
      simpa [World.cell?, hg] using h5
theorem keep_cell {W : World} {k : Nat} {t : TypeId} (h : W.heap[k]? = some (.cells #[.bool false] t (0, 0))) {b i : Nat} {v u : Value} (hv : W.cell? ⟨b, i, none⟩ = some v) (hne : v ≠ .bool false) : (W.setCell ⟨k, 0, none⟩ u).drew.cell? ⟨b, i, none⟩ = some v := by
  have hb : b ≠ k := fun e => by
    subst e
    simp only [World.cell?, h] at hv
    cases i with
    | zero => simp at hv; exact hne hv.symm
    | succ i => simp at hv
  exact (World.cell?_of_block (w := W) (w' := (W.setCell ⟨k, 0, none⟩ u).drew) (a := ⟨b, i, none⟩) (set_other W k 0 u b hb)).trans hv
theorem not_cells {W : World} {k : Nat} {c : Array Value} {t : TypeId} {B : Nat} {row : Option Nat} (hc : W.heap[k]? = some (.cells c t (0, 0))) (hr : ∀ r, row = some r → B ≤ r ∧ ∃ o : Obj, W.heap[r]? = some o ∧ o.isCells = false) : ¬ row = some k := fun e => by
  obtain ⟨_, o, h2, h3⟩ := hr k e
  rw [hc] at h2
  obtain rfl := Option.some.inj h2
  cases h3
theorem tmem_own {W1 W W' : World} {qb mb rb bp ba : Nat} {R : List Stand} {vt vh va : Value} {T H : List Int} {ss : List ByteArray} (h : TMem W1 W qb mb rb bp ba R vt vh va T H ss) {B : Nat} {row : Option Nat} (hm : mb < B) (hB : W1.heap.size ≤ B) (hg : W.grownBy W' row) (hr : ∀ r, row = some r → B ≤ r ∧ ∃ o : Obj, W.heap[r]? = some o ∧ o.isCells = false) : TMem W1 W' qb mb rb bp ba R vt vh va T H ss :=
  ⟨⟨h.q.q.own hm hg hr, h.q.base, h.q.vals, h.q.bel.grown hg h.q.bel.size (fun k e => Nat.le_trans hB (hr k e).1)⟩, h.r.kept (kept_row hg) (fun k hM => by
    rcases hM with rfl | e | e
    · exact not_cells h.r.box hr
    · obtain ⟨c, hc, _⟩ := h.r.rt.block e
      exact not_cells hc hr
    · obtain ⟨c, hc, _⟩ := h.r.rh.block e
      exact not_cells hc hr), h.b.kept (kept_row hg) (fun k c t hc _ => not_cells hc hr), h.rel, h.few⟩
/-- The count is laid back: none of theirs. -/
theorem tmem_count {W1 W W' : World} {qb mb rb bp ba bi : Nat} {R : List Stand} {vt vh va : Value} {T H : List Int} {ss : List ByteArray} (h : TMem W1 W qb mb rb bp ba R vt vh va T H ss) (hk : Kept (fun k => k = bi) W W') (hi : ∃ c, W.heap[bi]? = some (.cells c 3 (0, 0))) (hR : ∀ k, RMine rb vt vh k → k ≠ bi) (hB : W1.heap.size ≤ bi) : TMem W1 W' qb mb rb bp ba R vt vh va T H ss := by
  obtain ⟨c, hc⟩ := hi
  refine ⟨h.q.kept hk (fun k hM e => h.q.q.not hc (by decide) (by decide) (e ▸ hM)) (fun k hk e => by omega), h.r.kept hk hR, h.b.kept hk (fun k c' t hc' ht e => ?_), h.rel, h.few⟩
  rw [e, hc] at hc'
  simp at hc'
  rcases ht with h | h | h <;> rw [h] at hc' <;> simp at hc'

attribute [local go_sem] Oper.semAt_some wide_fn
set_option maxHeartbeats 8000000 in
set_option maxRecDepth 1000000 in
theorem walk (b : Option Addr) (capb : Nat) (zs : List ThingI) (w : World) (hz : IsThings w b capb zs ∧ (b = none → capb = 0)) (hm : zs.length ≤ 1048576) :
    Calls Try.prog 4 #[.slice b zs.length capb] w fun e w' => e = .returned (.bool true) ∧ Below w.heap.size w w' := by
  have hnn := fun w p => q_not_nilS w p
  have HZ : Hid (IsThings w b capb zs) := hz.1
  have hzc : zs.length ≤ capb := hz.1.1
  clear hz
  refine (callsIn_wide (n := 3)).1 ?_
  refine callsIn_of_wp_marks Try.func4 rfl trivial ?_ rfl
  simp only [Try.ntmps4, List.size_toArray, List.length_cons, List.length_nil, Nat.reduceAdd, Nat.reduceSub, Array.replicate_succ, Array.replicate_zero, List.push_toArray, List.append_toArray, List.nil_append, List.cons_append]
  refine wpIn_wide.2 ?_
  obtain ⟨W1, hW1⟩ : ∃ W1, W1 = w.alloc (.cells #[.bool false] 4) := ⟨_, rfl⟩
  have HA1 : Hid (W1.heap[w.heap.size]? = some (.cells #[.bool false] 4 (0, 0)) ∧ Below w.heap.size w W1 ∧ W1.heap.size = w.heap.size + 1) := ⟨by rw [hW1]; exact heap_alloc_new w _, by rw [hW1]; exact (Below.refl _ w).alloc (Nat.le_refl _) _, by rw [hW1]; simp⟩
  have HW1 : Hid (W1 = w.alloc (.cells #[.bool false] 4)) := hW1
  clear hW1
  go_wp2_with fail
  rw [← HW1.out]
  refine (shown_any _).mono ?_
  rintro e W2 ⟨rfl, B2⟩
  have HB2 : Hid (Below W1.heap.size W1 W2) := B2
  clear B2 HW1
  go_wp2_with fail
  refine (newFS W1 W2 HB2.out).mono ?_
  rintro e W3 ⟨rfl, h3, _⟩
  obtain ⟨qb, hqb⟩ : ∃ qb, qb = W2.heap.size + 1 := ⟨_, rfl⟩
  obtain ⟨mb, hmb⟩ : ∃ mb, mb = W2.heap.size := ⟨_, rfl⟩
  rw [← hqb]
  rw [← hqb, ← hmb] at h3
  obtain ⟨W4, hW4⟩ : ∃ W4, W4 = (((W3.alloc (.cells #[.slice none 0 0, .slice none 0 0, .int .i64 0] 34)).alloc (.cells #[.pointer (some ⟨W3.heap.size, 0, none⟩)] 31)).alloc (.cells #[] 9)).alloc (.cells #[.slice (some ⟨W3.heap.size + 1 + 1, 0, none⟩) 0 0] 49) := ⟨_, rfl⟩
  have HM : Hid (TMem W1 W4 qb mb W3.heap.size (W3.heap.size + 1) (W3.heap.size + 1 + 1 + 1) [] (.slice none 0 0) (.slice none 0 0) (.slice (some ⟨W3.heap.size + 1 + 1, 0, none⟩) 0 0) [] [] []) := by
    have hsz := h3.bel.size
    have b1 := Below.alloc (Below.refl W3.heap.size W3) (Nat.le_refl _) (.cells #[.slice none 0 0, .slice none 0 0, .int .i64 0] 34)
    have x1 := heap_alloc_new W3 (.cells #[.slice none 0 0, .slice none 0 0, .int .i64 0] 34)
    obtain ⟨V1, hV1⟩ : ∃ V1, V1 = W3.alloc (.cells #[.slice none 0 0, .slice none 0 0, .int .i64 0] 34) := ⟨_, rfl⟩
    have z1 : V1.heap.size = W3.heap.size + 1 := by rw [hV1]; simp
    rw [← hV1] at b1 x1 hW4
    obtain ⟨V2, hV2⟩ : ∃ V2, V2 = V1.alloc (.cells #[.pointer (some ⟨W3.heap.size, 0, none⟩)] 31) := ⟨_, rfl⟩
    have x2 : V2.heap[W3.heap.size + 1]? = some (.cells #[.pointer (some ⟨W3.heap.size, 0, none⟩)] 31 (0, 0)) := by rw [hV2, ← z1]; exact heap_alloc_new V1 _
    have z2 : V2.heap.size = W3.heap.size + 1 + 1 := by rw [hV2]; simp [z1]
    have b2 : Below V1.heap.size V1 V2 := by rw [hV2]; exact (Below.refl _ V1).alloc (Nat.le_refl _) _
    rw [← hV2] at hW4
    obtain ⟨V3, hV3⟩ : ∃ V3, V3 = V2.alloc (.cells #[] 9) := ⟨_, rfl⟩
    have x3 : V3.heap[W3.heap.size + 1 + 1]? = some (.cells #[] 9 (0, 0)) := by rw [hV3, ← z2]; exact heap_alloc_new V2 _
    have z3 : V3.heap.size = W3.heap.size + 1 + 1 + 1 := by rw [hV3]; simp [z2]
    have b3 : Below V2.heap.size V2 V3 := by rw [hV3]; exact (Below.refl _ V2).alloc (Nat.le_refl _) _
    rw [← hV3] at hW4
    have x4 : W4.heap[W3.heap.size + 1 + 1 + 1]? = some (.cells #[.slice (some ⟨W3.heap.size + 1 + 1, 0, none⟩) 0 0] 49 (0, 0)) := by rw [hW4, ← z3]; exact heap_alloc_new V3 _
    have b4 : Below V3.heap.size V3 W4 := by rw [hW4]; exact (Below.refl _ V3).alloc (Nat.le_refl _) _
    have y1 : W4.heap[W3.heap.size]? = some (.cells #[.slice none 0 0, .slice none 0 0, .int .i64 0] 34 (0, 0)) := (b4.block _ (by omega)).trans ((b3.block _ (by omega)).trans ((b2.block _ (by omega)).trans x1))
    have y2 := (b4.block _ (by omega)).trans ((b3.block _ (by omega)).trans x2)
    have y3 := (b4.block _ (by omega)).trans x3
    refine ⟨h3.below (b1.trans ((b2.mono b1.size).trans ((b3.mono (by omega)).trans (b4.mono (by omega))))), ⟨y1, World.ownsRow_nil _ _ _ _, World.ownsRow_nil _ _ _ _, .inl rfl, by omega⟩, ⟨y2, x4, ⟨rfl, .inr ⟨_, 0, #[], rfl, by omega, y3, Nat.le_refl _, by simp [maxLen], rfl, rfl⟩⟩, by omega⟩, ⟨rfl, rfl, fun h hh => by cases hh⟩, Nat.le_refl _⟩
  have HW4 : Hid (W4 = (((W3.alloc (.cells #[.slice none 0 0, .slice none 0 0, .int .i64 0] 34)).alloc (.cells #[.pointer (some ⟨W3.heap.size, 0, none⟩)] 31)).alloc (.cells #[] 9)).alloc (.cells #[.slice (some ⟨W3.heap.size + 1 + 1, 0, none⟩) 0 0] 49)) := hW4
  clear h3 hqb hmb HB2 hW4
  go_wp2_with fail
  rw [← HW4.out]
  obtain ⟨va0, hva0⟩ : ∃ va0, va0 = Value.slice (some ⟨W3.heap.size + 1 + 1, 0, none⟩) 0 0 := ⟨_, rfl⟩
  obtain ⟨ba, hba⟩ : ∃ ba, ba = W3.heap.size + 1 + 1 + 1 := ⟨_, rfl⟩
  obtain ⟨bp, hbp⟩ : ∃ bp, bp = W3.heap.size + 1 := ⟨_, rfl⟩
  obtain ⟨rb, hrb⟩ : ∃ rb, rb = W3.heap.size := ⟨_, rfl⟩
  rw [← hva0, ← hba, ← hbp, ← hrb] at HM
  rw [← hva0, ← hba, ← hbp, ← hrb]
  clear HW4 hva0 hba hbp hrb
  go_loopg [7] zs.length (fun gk s7 wr => ∃ (k : Nat) (R : List Stand) (vt vh va : Value) (T H : List Int) (ss : List ByteArray), s7 = .int .i64 (k : Int) ∧ k ≤ zs.length ∧ zs.length - k ≤ gk ∧ Hid (TMem W1 wr qb mb rb bp ba R vt vh va T H ss) ∧ Hid (ss.length ≤ k))
  case atStart => exact ⟨0, [], _, _, _, [], [], [], rfl, Nat.zero_le _, Nat.le_refl _, HM, Nat.le_refl _⟩
  case round =>
    clear HM
    obtain ⟨k, R, vt, vh, va, T, H, ss, rfl, hk, hgk, HM, HSK⟩ := hrel
    by_cases hkn : k < zs.length
    · have t1 : (k : Int) < (zs.length : Int) := by omega
      obtain ⟨x, hx⟩ : ∃ x, zs[k]? = some x := ⟨_, List.getElem?_eq_getElem hkn⟩
      obtain ⟨hfit, b', o, rfl, hb', c0, c1, c2⟩ := things_cell HZ.out hx
      obtain ⟨xj, xs, xt⟩ := x
      have hB0 : Below w.heap.size w wr := HA1.out.2.1.trans (HM.out.q.bel.mono HA1.out.2.1.size)
      have d0 : wr.cell? ⟨b', o + k * 3, none⟩ = some (.bool xj) := (hB0.cell (p := ⟨b', o + k * 3, none⟩) hb').trans c0
      have d1 : wr.cell? ⟨b', o + k * 3 + 1, none⟩ = some (.string xs) := (hB0.cell (p := ⟨b', o + k * 3 + 1, none⟩) hb').trans c1
      have d2 : wr.cell? ⟨b', o + k * 3 + 2, none⟩ = some (.int .i64 xt) := (hB0.cell (p := ⟨b', o + k * 3 + 2, none⟩) hb').trans c2
      obtain ⟨W8, hW8⟩ : ∃ W8, W8 = wr.alloc (.cells #[.bool xj, .string xs, .int .i64 xt] 51) := ⟨_, rfl⟩
      have HW8 : Hid (W8 = wr.alloc (.cells #[.bool xj, .string xs, .int .i64 xt] 51)) := hW8
      have hB8 : Below wr.heap.size wr W8 := by rw [hW8]; exact (Below.refl _ wr).alloc (Nat.le_refl _) _
      have HM8 : Hid (TMem W1 W8 qb mb rb bp ba R vt vh va T H ss) := HM.out.below hB8
      obtain ⟨bt, hbt⟩ : ∃ bt, bt = wr.heap.size := ⟨_, rfl⟩
      have HBT : Hid (bt = wr.heap.size) := hbt
      have HT8 : Hid (W8.heap[bt]? = some (.cells #[.bool xj, .string xs, .int .i64 xt] 51 (0, 0))) := by rw [hW8, hbt]; exact heap_alloc_new wr _
      clear hW8 hbt hB8 hB0 c0 c1 c2 hx
      cases xj with
      | true =>
        obtain ⟨aa, cc, rfl⟩ : ∃ a c, va = .slice a ss.length c := by
          rcases HM8.out.b.all.2 with ⟨rfl, h0⟩ | ⟨g, cap, cur, rfl, _⟩
          · exact ⟨none, 0, by rw [h0]⟩
          · exact ⟨_, _, rfl⟩
        have hsl : ss.length ≤ 1048576 := by have := HSK.out; omega
        have s1 : W8.cell? ⟨bt, 1, none⟩ = some (.string xs) := by simp [World.cell?, HT8.out]
        have s2 : W8.cell? ⟨bp, 0, none⟩ = some (.pointer (some ⟨rb, 0, none⟩)) := by simp [World.cell?, HM8.out.b.hp]
        have s3 : W8.cell? ⟨ba, 0, none⟩ = some (.slice aa ss.length cc) := by simp [World.cell?, HM8.out.b.ha]
        go_wp2_with fail
        rw [← HW8.out, ← HBT.out]
        refine wp_onward ?_
        go_region_held (fun w' => w'.cell? ⟨bt, 1, none⟩ = some (.string xs) ∧ w'.cell? ⟨bp, 0, none⟩ = some (.pointer (some ⟨rb, 0, none⟩)) ∧ w'.cell? ⟨ba, 0, none⟩ = some (.slice aa ss.length cc)) (first | assumption | exact ⟨s1, s2, s3⟩)
          (first
            | (go_at_call 14
               refine (joinFS (HM8.out.q.below (Below.refl _ W8).drew) (.string xs) (by have := hsl; omega) (by have := HM8.out.few; unfold maxLen; omega) ⟨_, rfl⟩).mono ?_
               rintro e w1 ⟨rfl, h1, k1⟩
               have hd := HM8.out.below (Below.refl _ W8).drew
               have J1 : Hid (FromS W1 w1 qb mb ((ss.length : Int) + 1) (R ++ [⟨W8.heap.size, (ss.length : Int) + 1, .string xs⟩]) ∧ RefAt W1.heap.size w1 rb (ss.length : Int) vt vh T H ∧ Beside W1.heap.size w1 rb bp ba (.slice aa ss.length cc) ss ∧ w1.heap[bt]? = some (.cells #[.bool true, .string xs, .int .i64 xt] 51 (0, 0))) := ⟨h1, hd.r.queue hd.q.q k1, hd.b.queue hd.q.q k1, (k1.block bt (Array.getElem?_eq_some_iff.1 HT8.out).1 (hd.q.q.not (c := #[.bool true, .string xs, .int .i64 xt]) (t := 51) HT8.out (by decide) (by decide))).trans HT8.out⟩
               have hS1 : w1.cell? ⟨bt, 1, none⟩ = some (.string xs) ∧ w1.cell? ⟨bp, 0, none⟩ = some (.pointer (some ⟨rb, 0, none⟩)) ∧ w1.cell? ⟨ba, 0, none⟩ = some (.slice aa ss.length cc) := ⟨by simp [World.cell?, J1.out.2.2.2], by simp [World.cell?, J1.out.2.2.1.hp], by simp [World.cell?, J1.out.2.2.1.ha]⟩
               clear h1 k1 hd)
            | (go_at_call 15
               refine (refJoin W1.heap.size w1 rb (ss.length : Int) (ss.length : Int) vt vh T H J1.out.2.1 (by rw [HM8.out.rel.lenT]; have := HM8.out.few; omega) (by rw [HM8.out.rel.lenH]; have := HM8.out.few; omega) (by omega) J1.out.1.bel.size).mono ?_
               rintro e w2 ⟨rfl, vt', vh', r2, k2⟩
               have J2 : Hid (FromS W1 w2 qb mb ((ss.length : Int) + 1) (R ++ [⟨W8.heap.size, (ss.length : Int) + 1, .string xs⟩]) ∧ RefAt W1.heap.size w2 rb ((ss.length : Int) + 1) vt' vh' (T ++ [(ss.length : Int) + 1]) (H ++ [(ss.length : Int)]) ∧ Beside W1.heap.size w2 rb bp ba (.slice aa ss.length cc) ss ∧ w2.heap[bt]? = some (.cells #[.bool true, .string xs, .int .i64 xt] 51 (0, 0))) := ⟨J1.out.1.ref J1.out.2.1 k2, r2, J1.out.2.2.1.ref J1.out.2.1 k2, (k2.block bt (Array.getElem?_eq_some_iff.1 J1.out.2.2.2).1 (J1.out.2.1.not J1.out.2.2.2 (fun c h => by simp at h) (fun c h => by simp at h))).trans J1.out.2.2.2⟩
               have hS2 : w2.cell? ⟨bt, 1, none⟩ = some (.string xs) ∧ w2.cell? ⟨bp, 0, none⟩ = some (.pointer (some ⟨rb, 0, none⟩)) ∧ w2.cell? ⟨ba, 0, none⟩ = some (.slice aa ss.length cc) := ⟨by simp [World.cell?, J2.out.2.2.2], by simp [World.cell?, J2.out.2.2.1.hp], by simp [World.cell?, J2.out.2.2.1.ha]⟩
               clear r2 k2))
        all_goals (
          obtain ⟨i0, hi, hz0, hz1, hz2⟩ := info_parts info_str
          have hB2 := J2.out.1.bel.size
          have e1 := hS2.1
          have e2 := hS2.2.2
          clear hS2 hS1
          go_wp2_with (at_builtin; go_must (refine wpList_append_own_at _ rfl _ _ 49 rfl W1.heap.size 9 i0 (.string ByteArray.empty) 1 16 Try.underlying49 hi hz0 hz1 hz2 rfl (by decide) _ ss.length (strv ss) rfl (World.ownsRow.alloc J2.out.2.2.1.all _) ⟨w2.heap.size, 0, none⟩ 1 1 [.string xs] rfl rfl (by intro j u hj; cases j with | zero => simp at hj; subst hj; simp [Addr.add] | succ j => simp at hj) (by intro u hu; simp at hu; subst hu; rfl) (by unfold maxLen; omega) (by omega) (by simp; omega) ?_; intro v' w4 hown4 hgr4 _ _; obtain ⟨a4, c4, hv4⟩ : ∃ a c, v' = .slice a (ss.length + 1) c := (by rcases hown4.2 with ⟨rfl, h0⟩ | ⟨g, cap, cur, rfl, _⟩; exact ⟨none, 0, by omega⟩; exact ⟨_, _, rfl⟩); subst hv4; obtain ⟨z1, z2, z3⟩ := grow_all J2.out.1 J2.out.2.1 J2.out.2.2.1 (HM8.out.rel.join W8.heap.size ((ss.length : Int) + 1) xs) (by have := HM8.out.few; simp; omega) ((Kept.ofBelow ((Below.refl _ w2).alloc (Nat.le_refl _) _)).trans (Kept.ofGrown hgr4 (fun _ e => e))) (by simpa [strv] using hown4); have Z1 : Hid (TMem W1 (w4.setCell ⟨ba, 0, none⟩ (.slice a4 (ss.length + 1) c4)) qb mb rb bp ba (R ++ [⟨W8.heap.size, (ss.length : Int) + 1, .string xs⟩]) vt' vh' (.slice a4 (ss.length + 1) c4) (T ++ [(ss.length : Int) + 1]) (H ++ [(ss.length : Int)]) (ss ++ [xs])) := z1; clear z1 hown4 hgr4))
          go_roundg (zs.length - (k + 1))
          case measure => omega
          case rel => exact ⟨k + 1, _, _, _, _, _, _, _, by go_num, by omega, Nat.le_refl _, Z1, (show (ss ++ [xs]).length ≤ k + 1 by have := HSK.out; simp; omega)⟩)
      | false =>
        have hwf : (Lit.int .i64 xt).wf = true := hfit.2
        have hsl : ss.length ≤ 1048576 := by have := HSK.out; omega
        have s2 : W8.cell? ⟨bt, 2, none⟩ = some (.int .i64 xt) := by simp [World.cell?, HT8.out]
        have HG := getS W8 qb mb _ xt R HM8.out.q.q hwf HM8.out.q.vals
        have HLV := leaveFS HM8.out.q xt hwf
        rcases find_split R xt with h0 | ⟨A, r, B, h1, h2, h3, h4⟩
        · have hget : getOfS R xt = .tuple #[.string ByteArray.empty, .bool false] := by unfold getOfS; rw [h0]
          have hsp := HM8.out.rel.spot_none h0
          have hfl : R.filter (fun r => r.tk != xt) = R := by
            refine List.filter_eq_self.2 fun r hr => ?_
            have := List.find?_eq_none.1 h0 r hr
            simpa using this
          rw [hget] at HG HLV
          rw [hfl] at HLV
          have HGH : Hid (Calls Try.prog 16 #[.pointer (some ⟨qb, 0, none⟩), .int .i64 xt] W8 _) := HG
          have HLH : Hid (Calls Try.prog 17 #[.pointer (some ⟨qb, 0, none⟩), .int .i64 xt] W8 _) := HLV
          have HSP : Hid (spot T xt = none) := hsp
          clear HG HLV h0 hget hfl hsp
          go_wp2_with fail
          rw [← HW8.out, ← HBT.out]
          refine HGH.out.mono ?_
          rintro e w' ⟨rfl, hW⟩
          have hW := hW.symm
          subst hW
          go_wp2_with fail
          refine HLH.out.mono ?_
          rintro e w1 ⟨rfl, h1, k1⟩
          have M1 : Hid (TMem W1 w1 qb mb rb bp ba R vt vh va T H ss) := ⟨h1, HM8.out.r.queue HM8.out.q.q k1, HM8.out.b.queue HM8.out.q.q k1, HM8.out.rel, HM8.out.few⟩
          have p1 : w1.cell? ⟨bp, 0, none⟩ = some (.pointer (some ⟨rb, 0, none⟩)) := by simp [World.cell?, M1.out.b.hp]
          have p2 : w1.cell? ⟨bt, 2, none⟩ = some (.int .i64 xt) := by
            have := (k1.block bt (Array.getElem?_eq_some_iff.1 HT8.out).1 (HM8.out.q.q.not HT8.out (by decide) (by decide))).trans HT8.out
            simp [World.cell?, this]
          have HRL := refLeave W1.heap.size w1 rb _ xt vt vh T H M1.out.r (by rw [M1.out.rel.lenT]; have := M1.out.few; omega) (by rw [M1.out.rel.lenT, M1.out.rel.lenH]) M1.out.q.bel.size
          unfold refLeft refRest at HRL
          rw [HSP.out] at HRL
          have HRH : Hid (Calls Try.prog 18 #[.pointer (some ⟨rb, 0, none⟩), .int .i64 xt] w1 _) := HRL
          clear h1 k1 HRL
          go_wp2_with fail
          refine HRH.out.mono ?_
          rintro e w2 ⟨rfl, vt', vh', r2, k2⟩
          have M2 : Hid (TMem W1 w2 qb mb rb bp ba R vt' vh' va T H ss) := ⟨M1.out.q.ref M1.out.r k2, r2, M1.out.b.ref M1.out.r k2, M1.out.rel, M1.out.few⟩
          clear r2 k2
          go_wp2_with fail
          go_roundg (zs.length - (k + 1))
          case measure => omega
          case rel => exact ⟨k + 1, _, _, _, _, _, _, _, by go_num, by omega, Nat.le_refl _, M2, (show ss.length ≤ k + 1 by have := HSK.out; omega)⟩
        · obtain ⟨hsp, ⟨x, hx, hv, hx0, hxl⟩, hrel'⟩ := HM8.out.rel.split HM8.out.q.q.up h1 h2 h3
          obtain ⟨xn, rfl⟩ : ∃ n : Nat, x = (n : Int) := ⟨x.toNat, by omega⟩
          obtain ⟨s0, hs0⟩ : ∃ s0, ss[xn]? = some s0 := ⟨_, List.getElem?_eq_getElem (by simpa using hxl)⟩
          have hrv : r.v = .string s0 := by
            rw [← hv]
            unfold txt
            simp [hs0]
          have hget : getOfS R xt = .tuple #[.string s0, .bool true] := by unfold getOfS; rw [h4]; simp [hrv]
          rw [hget] at HG HLV
          have HGH : Hid (Calls Try.prog 16 #[.pointer (some ⟨qb, 0, none⟩), .int .i64 xt] W8 _) := HG
          have HLH : Hid (Calls Try.prog 17 #[.pointer (some ⟨qb, 0, none⟩), .int .i64 xt] W8 _) := HLV
          have HSP : Hid (spot T xt = some A.length ∧ H.getD A.length 0 = (xn : Int) ∧ TRel (R.filter (fun r => r.tk != xt)) (T.eraseIdx A.length) (H.eraseIdx A.length) ss) := ⟨hsp, by simp [List.getD_eq_getElem?_getD, hx], hrel'⟩
          have hxs : xn < ss.length := by simpa using hxl
          have hxi : (xn : Int) < (ss.length : Int) := by omega
          have HS0 : Hid (ss[xn]? = some s0) := hs0
          clear HG HLV hget hsp hx hv hx0 hxl hrel' h1 h2 h3 h4 hrv hs0
          go_wp2_with fail
          rw [← HW8.out, ← HBT.out]
          refine HGH.out.mono ?_
          rintro e w' ⟨rfl, hW⟩
          have hW := hW.symm
          subst hW
          go_wp2_with fail
          refine HLH.out.mono ?_
          rintro e w1 ⟨rfl, h1, k1'⟩
          have k1 : Kept (Mine qb mb R) W8 w1 := k1'.mono (fun k _ h => mine_filter h)
          have M1 : Hid (FromS W1 w1 qb mb (ss.length : Int) (R.filter (fun r => r.tk != xt)) ∧ RefAt W1.heap.size w1 rb (ss.length : Int) vt vh T H ∧ Beside W1.heap.size w1 rb bp ba va ss) := ⟨h1, HM8.out.r.queue HM8.out.q.q k1, HM8.out.b.queue HM8.out.q.q k1⟩
          have p1 : w1.cell? ⟨bp, 0, none⟩ = some (.pointer (some ⟨rb, 0, none⟩)) := by simp [World.cell?, M1.out.2.2.hp]
          have p2 : w1.cell? ⟨bt, 2, none⟩ = some (.int .i64 xt) := by
            have := (k1.block bt (Array.getElem?_eq_some_iff.1 HT8.out).1 (HM8.out.q.q.not HT8.out (by decide) (by decide))).trans HT8.out
            simp [World.cell?, this]
          have HRL := refLeave W1.heap.size w1 rb _ xt vt vh T H M1.out.2.1 (by rw [HM8.out.rel.lenT]; have := HM8.out.few; omega) (by rw [HM8.out.rel.lenT, HM8.out.rel.lenH]) M1.out.1.bel.size
          unfold refLeft refRest at HRL
          rw [HSP.out.1] at HRL
          simp only [HSP.out.2.1] at HRL
          have HRH : Hid (Calls Try.prog 18 #[.pointer (some ⟨rb, 0, none⟩), .int .i64 xt] w1 _) := HRL
          clear h1 k1 k1' HRL
          go_wp2_with fail
          refine HRH.out.mono ?_
          rintro e w2 ⟨rfl, vt', vh', r2, k2⟩
          have hb2 := M1.out.2.2.ref M1.out.2.1 k2
          have M2 : Hid (TMem W1 w2 qb mb rb bp ba (R.filter (fun r => r.tk != xt)) vt' vh' va (T.eraseIdx A.length) (H.eraseIdx A.length) ss) := ⟨M1.out.1.ref M1.out.2.1 k2, r2, hb2, HSP.out.2.2, Nat.le_trans (List.length_filter_le _ _) HM8.out.few⟩
          obtain ⟨ga, ca', hva, cga⟩ : ∃ g c, va = .slice (some ⟨g, 0, none⟩) ss.length c ∧ w2.cell? ⟨g, xn, none⟩ = some (.string s0) := by
            rcases hb2.all.2 with ⟨_, h0⟩ | ⟨g, cap, cur, hv, _, hg, h1, h2, h3, h4⟩
            · omega
            · refine ⟨g, cap, hv, ?_⟩
              have h5 : (strv ss)[xn]? = some (.string s0) := by simp [strv, HS0.out]
              rw [← h4, List.getElem?_take_of_lt (by omega)] at h5
              simpa [World.cell?, hg] using h5
          have q3 : w2.cell? ⟨ba, 0, none⟩ = some va := by simp [World.cell?, hb2.ha]
          subst hva
          clear r2 k2 hb2
          go_wp2_with fail
          go_roundg (zs.length - (k + 1))
          case measure => omega
          case rel => exact ⟨k + 1, _, _, _, _, _, _, _, by go_num, by omega, Nat.le_refl _, M2, (show ss.length ≤ k + 1 by have := HSK.out; omega)⟩
    · have t1 : ¬ (k : Int) < (zs.length : Int) := by omega
      obtain ⟨WX, hWX⟩ : ∃ WX, WX = wr.alloc (.cells #[.int .i64 0] 3) := ⟨_, rfl⟩
      obtain ⟨bi, hbi⟩ : ∃ bi, bi = wr.heap.size := ⟨_, rfl⟩
      have hRm : ∀ k, RMine rb vt vh k → k ≠ bi := fun k hk e => by have := HM.out.r.lt hk; omega
      have BX : Below wr.heap.size wr WX := by rw [hWX]; exact (Below.refl _ wr).alloc (Nat.le_refl _) _
      have HMX : Hid (TMem W1 WX qb mb rb bp ba R vt vh va T H ss) := HM.out.below BX
      have HIX : Hid (WX.heap[bi]? = some (.cells #[.int .i64 0] 3 (0, 0)) ∧ W1.heap.size ≤ bi) := ⟨by rw [hWX, hbi]; exact heap_alloc_new wr _, by rw [hbi]; exact HM.out.q.bel.size⟩
      have HWX : Hid (WX = wr.alloc (.cells #[.int .i64 0] 3)) := hWX
      have HBI : Hid (bi = wr.heap.size) := hbi
      have hsl : ss.length ≤ 1048576 := by have := HSK.out; omega
      clear hWX hbi BX HM
      go_wp2_with fail
      rw [← HWX.out, ← HBI.out]
      refine (allS WX qb).mono ?_
      rintro e WY ⟨rfl, hWY⟩
      obtain ⟨cx, hcx⟩ : ∃ cx, cx = WX.heap.size := ⟨_, rfl⟩
      rw [← hcx]
      have BY : Below WX.heap.size WX WY := by rw [hWY]; exact (Below.refl _ WX).alloc (Nat.le_refl _) _
      have HMY : Hid (TMem W1 WY qb mb rb bp ba R vt vh va T H ss) := HMX.out.below BY
      have HIY : Hid (WY.heap[bi]? = some (.cells #[.int .i64 0] 3 (0, 0)) ∧ W1.heap.size ≤ bi) := ⟨(BY.block bi (Array.getElem?_eq_some_iff.1 HIX.out.1).1).trans HIX.out.1, HIX.out.2⟩
      have HBX : Hid (boxedS WY cx qb) := by unfold boxedS; rw [hWY, hcx]; exact heap_alloc_new WX _
      have hmb : mb < WY.heap.size := HMY.out.q.q.tab.lt
      have hwy : W1.heap.size ≤ WY.heap.size := HMY.out.q.bel.size
      have HRM : Hid (∀ k, RMine rb vt vh k → k ≠ bi) := hRm
      clear BY hWY hcx HMX HIX HWX HBI hRm
      go_wp2_with fail
      refine (wpIn_wide (n := 3)).1 ?_
      refine wpIn_told rfl (by omega) (gf := 44) (lb := #[.pointer (some ⟨cx, 0, none⟩)]) rfl trivial (enters_of Try.func44 (by kernel_rfl) rfl)
        (all1_toldS 2 cx qb mb _ R WY HMY.out.q.q HBX.out (by have := HMY.out.few; omega) HMY.out.q.vals) (fun h k => h.trans k) (fun W l o o' _ hl ho _ => KpS.put W l o o' hl ho) (Below.refl _ _) (fun _ => rfl)
        (fun pre W => TMem W1 W qb mb rb bp ba R vt vh va T H ss ∧ W.heap[bi]? = some (.cells #[.int .i64 (pre.length : Int)] 3 (0, 0)))
        (fun _ _ _ => False)
        (fun pre W W' row hs hgr hr => ⟨tmem_own hs.1 hmb hwy hgr hr, cells_own hs.2 hgr hr⟩)
        (fun _ _ _ _ _ h _ _ => h.elim)
        (fun pre x A _ _ _ _ h _ _ => h)
        ⟨HMY.out, HIY.out.1⟩
        ?a1 ?assign ?body ?done ?stop
      case assign =>
        intro l x W K hK
        gi_wp2
        exact hK
      case body =>
        rintro id pre ⟨xb, xt, xv⟩ A W hid _ _ _ _ ⟨i1, i2⟩ hx hlt
        obtain ⟨gt, ct, gh, ch, ga, ca, hn, s0, rfl, rfl, rfl, hxv, hhn, y1, y2, y3⟩ := look i1 hx
        simp only [] at hxv y1
        subst hxv
        obtain ⟨n, hn'⟩ : ∃ n, n = pre.length := ⟨_, rfl⟩
        rw [← hn'] at i2 hlt y1 y2
        have HN : Hid ((pre ++ [(⟨xb, xt, .string s0⟩ : Stand)]).length = n + 1) := (show _ = _ by rw [List.length_append, ← hn']; rfl)
        have hRl : R.length ≤ 1048576 := by have := i1.few; omega
        have t3 : ¬ (R.length : Int) ≤ (n : Int) := by omega
        have t6 : decide (R.length ≤ n) = false := decide_eq_false (by omega)
        have t4 : (n : Int) < (R.length : Int) := by omega
        have t5 : (hn : Int) < (ss.length : Int) := by omega
        have cI : W.cell? ⟨bi, 0, none⟩ = some (.int .i64 (n : Int)) := by simp [World.cell?, i2]
        have fI : W.frozen? ⟨bi, 0, none⟩ = false := by simp [World.frozen?, i2]
        have cP : W.cell? ⟨bp, 0, none⟩ = some (.pointer (some ⟨rb, 0, none⟩)) := by simp [World.cell?, i1.b.hp]
        have cA : W.cell? ⟨ba, 0, none⟩ = some (.slice (some ⟨ga, 0, none⟩) ss.length ca) := by simp [World.cell?, i1.b.ha]
        have cR0 : W.cell? ⟨rb, 0, none⟩ = some (.slice (some ⟨gt, 0, none⟩) R.length ct) := by simp [World.cell?, i1.r.box]
        have cR1 : W.cell? ⟨rb, 1, none⟩ = some (.slice (some ⟨gh, 0, none⟩) R.length ch) := by simp [World.cell?, i1.r.box]
        have HI : Hid (TMem W1 W qb mb rb bp ba R (.slice (some ⟨gt, 0, none⟩) R.length ct) (.slice (some ⟨gh, 0, none⟩) R.length ch) (.slice (some ⟨ga, 0, none⟩) ss.length ca) T H ss ∧ W.heap[bi]? = some (.cells #[.int .i64 (n : Int)] 3 (0, 0))) := ⟨i1, i2⟩
        clear i1 i2 hx hid hn' hlt
        gi_wp2
        refine wpIn_quiet_round (F := Fence.wide) rfl (by kernel_rfl) (by kernel_rfl) (by kernel_rfl) ?_
        repeat (gi_big_quiet_step (fail))
        refine wpQuietIn_nil ?_
        rintro _ ⟨nq, rfl⟩
        gi_wp2
        obtain ⟨i1, i2⟩ := HI.out
        have hk : Kept (fun k => k = bi) W ((W.drewN nq).setCell ⟨bi, 0, none⟩ (.int .i64 ((n : Int) + 1))) := ⟨rfl, rfl, rfl, by simp, fun k _ hk => set_other (W.drewN nq) _ _ _ _ hk⟩
        refine ⟨⟨by simp, fun k o _ ho hc => (hk.block k (Array.getElem?_eq_some_iff.1 ho).1 (fun e => ?_)).trans ho⟩, KpS.ofKept hk (fun k c t hc ht e => ?_), tmem_count i1 hk ⟨_, i2⟩ HRM.out HIY.out.2, ?_⟩
        · rw [e, i2] at ho
          obtain rfl := Option.some.inj ho
          cases hc
        · rw [e, i2] at hc
          simp at hc
          rcases ht with h | h <;> rw [h] at hc <;> simp at hc
        · have : (W.drewN nq).heap[bi]? = some (.cells #[.int .i64 (n : Int)] 3 (0, 0)) := i2
          rw [(set_cells this 0 _).1, HN.out]
          simp
      case done =>
        rintro D xs W hD hS ⟨i1, i2⟩ hK
        subst hS
        have cI : W.cell? ⟨bi, 0, none⟩ = some (.int .i64 (xs.length : Int)) := by simp [World.cell?, i2]
        have HI : Hid (TMem W1 W qb mb rb bp ba xs vt vh va T H ss ∧ W.heap[bi]? = some (.cells #[.int .i64 (xs.length : Int)] 3 (0, 0))) := ⟨i1, i2⟩
        have HK : Hid (W.heap[D]? = some (.deferred (some []))) := hK
        have HFI := firstFS i1.q
        clear i1 i2 hK
        cases xs with
        | nil =>
          rw [show firstOfS [] = .tuple #[.int .i64 0, .string ByteArray.empty, .bool false] from rfl] at HFI
          have HFH : Hid (Calls Try.prog 20 #[.pointer (some ⟨qb, 0, none⟩)] W _) := HFI
          clear HFI
          go_wp2_with fail
          refine HFH.out.mono ?_
          rintro e W5 ⟨rfl, _, B5⟩
          have M5 := HI.out.1.below B5
          have hb5 : W5.heap[bi]? = some (.cells #[.int .i64 (0 : Int)] 3 (0, 0)) := (B5.block bi (Array.getElem?_eq_some_iff.1 HI.out.2).1).trans HI.out.2
          have HK5 : Hid (W5.heap[D]? = some (.deferred (some []))) := (B5.block D (Array.getElem?_eq_some_iff.1 HK.out).1).trans HK.out
          have HR5 : Hid (W5.heap[w.heap.size]? = some (.cells #[.bool false] 4 (0, 0))) := (M5.q.bel.block w.heap.size (by have := HA1.out.2.2; omega)).trans HA1.out.1
          have HB5 : Hid (Below w.heap.size w W5) := HA1.out.2.1.trans (M5.q.bel.mono HA1.out.2.1.size)
          have f5 : W5.frozen? ⟨w.heap.size, 0, none⟩ = false := by simp [World.frozen?, HR5.out]
          have c5 : W5.cell? ⟨w.heap.size, 0, none⟩ = some (.bool false) := by simp [World.cell?, HR5.out]
          have x1 : W5.cell? ⟨bi, 0, none⟩ = some (.int .i64 (0 : Int)) := by simp [World.cell?, hb5]
          have x2 : W5.cell? ⟨bp, 0, none⟩ = some (.pointer (some ⟨rb, 0, none⟩)) := by simp [World.cell?, M5.b.hp]
          obtain ⟨at_, ct, hvt⟩ := M5.r.rt.form
          have hT0 : T.length = 0 := M5.rel.lenT
          rw [hT0] at hvt
          subst hvt
          have x3 : W5.cell? ⟨rb, 0, none⟩ = some (.slice at_ 0 ct) := by simp [World.cell?, M5.r.box]
          clear B5 hb5 M5 cI
          go_wp2_with fail
          have hset := set_cells HR5.out 0 (.bool true)
          have hDne : D ≠ w.heap.size := fun e => by have := HK5.out; rw [e, HR5.out] at this; simp at this
          have hK' : (W5.setCell ⟨w.heap.size, 0, none⟩ (.bool true)).heap[D]? = some (.deferred (some [])) := (set_other _ _ _ _ _ hDne).trans HK5.out
          refine ⟨by simp, .inl ⟨_, _, rfl, run_takeDeferred hK', ?_⟩⟩
          have hc5 : ((W5.setCell ⟨w.heap.size, 0, none⟩ (.bool true)).putObj D (.deferred none)).cell? ⟨w.heap.size, 0, none⟩ = some (.bool true) := by
            have h9 : ((W5.setCell ⟨w.heap.size, 0, none⟩ (.bool true)).putObj D (.deferred none)).heap[w.heap.size]? = (W5.setCell ⟨w.heap.size, 0, none⟩ (.bool true)).heap[w.heap.size]? := World.putObj_heap_other (fun e => hDne e.symm)
            have h8 : (W5.setCell ⟨w.heap.size, 0, none⟩ (.bool true)).heap[w.heap.size]? = _ := hset.1
            simp [World.cell?, h9, h8]
          have hBs : Below w.heap.size w (W5.setCell ⟨w.heap.size, 0, none⟩ (.bool true)) := HB5.out.grown hset.2 HB5.out.size (fun k e => by have := Option.some.inj e; omega)
          exact ⟨.bool true, by simp [results, Try.f4, go_sem, hc5], rfl, hBs.grown (grownBy_putObj' _ D (.deferred none)) hBs.size (fun k e => by cases e; have := HA1.out.2.2; omega)⟩
        | cons r R' =>
          obtain ⟨rbk, rtk, rv⟩ := r
          have HLK := look HI.out.1 (i := 0) (x := ⟨rbk, rtk, rv⟩) rfl
          obtain ⟨gt, ct, gh, ch, ga, ca, hn, s0, rfl, rfl, rfl, hxv, hhn, y1, y2, y3⟩ := HLK
          simp only [] at hxv y1
          subst hxv
          rw [show firstOfS (⟨rbk, rtk, .string s0⟩ :: R') = .tuple #[.int .i64 rtk, .string s0, .bool true] from rfl] at HFI
          have HFH : Hid (Calls Try.prog 20 #[.pointer (some ⟨qb, 0, none⟩)] W _) := HFI
          have HY : Hid (W.cell? ⟨gt, 0, none⟩ = some (.int .i64 rtk) ∧ W.cell? ⟨gh, 0, none⟩ = some (.int .i64 (hn : Int)) ∧ W.cell? ⟨ga, hn, none⟩ = some (.string s0)) := ⟨y1, y2, y3⟩
          obtain ⟨m, hmm⟩ : ∃ m, m = (⟨rbk, rtk, .string s0⟩ :: R' : List Stand).length := ⟨_, rfl⟩
          rw [← hmm] at cI
          have hm0 : 0 < m := by rw [hmm]; simp
          have HMM : Hid (m = (⟨rbk, rtk, .string s0⟩ :: R' : List Stand).length) := hmm
          have t4 : (0 : Int) < (m : Int) := by omega
          have t5 : (hn : Int) < (ss.length : Int) := by omega
          have t6 : ((m : Int) == 0) = false := by simp; omega
          have t7 : (m == 0) = false := by simp; omega
          clear HFI y1 y2 y3 hmm
          go_wp2_with fail
          refine HFH.out.mono ?_
          rintro e W5 ⟨rfl, _, B5⟩
          have M5 := HI.out.1.below B5
          have hb5 : W5.heap[bi]? = some (.cells #[.int .i64 (m : Int)] 3 (0, 0)) := (B5.block bi (Array.getElem?_eq_some_iff.1 HI.out.2).1).trans (by rw [HMM.out]; exact HI.out.2)
          have HK5 : Hid (W5.heap[D]? = some (.deferred (some []))) := (B5.block D (Array.getElem?_eq_some_iff.1 HK.out).1).trans HK.out
          have HR5 : Hid (W5.heap[w.heap.size]? = some (.cells #[.bool false] 4 (0, 0))) := (M5.q.bel.block w.heap.size (by have := HA1.out.2.2; omega)).trans HA1.out.1
          have HB5 : Hid (Below w.heap.size w W5) := HA1.out.2.1.trans (M5.q.bel.mono HA1.out.2.1.size)
          have f5 : W5.frozen? ⟨w.heap.size, 0, none⟩ = false := by simp [World.frozen?, HR5.out]
          have c5 : W5.cell? ⟨w.heap.size, 0, none⟩ = some (.bool false) := by simp [World.cell?, HR5.out]
          have x1 : W5.cell? ⟨bi, 0, none⟩ = some (.int .i64 (m : Int)) := by simp [World.cell?, hb5]
          have x2 : W5.cell? ⟨bp, 0, none⟩ = some (.pointer (some ⟨rb, 0, none⟩)) := by simp [World.cell?, M5.b.hp]
          have x3 : W5.cell? ⟨rb, 0, none⟩ = some (.slice (some ⟨gt, 0, none⟩) m ct) := by rw [HMM.out]; simp [World.cell?, M5.r.box]
          have x4 : W5.cell? ⟨rb, 1, none⟩ = some (.slice (some ⟨gh, 0, none⟩) m ch) := by rw [HMM.out]; simp [World.cell?, M5.r.box]
          have x5 : W5.cell? ⟨ba, 0, none⟩ = some (.slice (some ⟨ga, 0, none⟩) ss.length ca) := by simp [World.cell?, M5.b.ha]
          have x6 : W5.cell? ⟨gt, 0, none⟩ = some (.int .i64 rtk) := (B5.cell (p := ⟨gt, 0, none⟩) (cell_lt HY.out.1)).trans HY.out.1
          have x7 : W5.cell? ⟨gh, 0, none⟩ = some (.int .i64 (hn : Int)) := (B5.cell (p := ⟨gh, 0, none⟩) (cell_lt HY.out.2.1)).trans HY.out.2.1
          have x8 : W5.cell? ⟨ga, hn, none⟩ = some (.string s0) := (B5.cell (p := ⟨ga, hn, none⟩) (cell_lt HY.out.2.2)).trans HY.out.2.2
          clear B5 hb5 M5 cI
          go_wp2_with fail
          refine wp_onward ?_
          go_region_held (fun w' => w'.cell? ⟨bi, 0, none⟩ = some (.int .i64 (m : Int)) ∧ w'.cell? ⟨bp, 0, none⟩ = some (.pointer (some ⟨rb, 0, none⟩)) ∧ w'.cell? ⟨rb, 0, none⟩ = some (.slice (some ⟨gt, 0, none⟩) m ct) ∧ w'.cell? ⟨rb, 1, none⟩ = some (.slice (some ⟨gh, 0, none⟩) m ch) ∧ w'.cell? ⟨ba, 0, none⟩ = some (.slice (some ⟨ga, 0, none⟩) ss.length ca) ∧ w'.cell? ⟨gt, 0, none⟩ = some (.int .i64 rtk) ∧ w'.cell? ⟨gh, 0, none⟩ = some (.int .i64 (hn : Int)) ∧ w'.cell? ⟨ga, hn, none⟩ = some (.string s0)) (first | assumption | exact ⟨x1, x2, x3, x4, x5, x6, x7, x8⟩ | exact ⟨keep_cell HR5.out x1 (by simp), keep_cell HR5.out x2 (by simp), keep_cell HR5.out x3 (by simp), keep_cell HR5.out x4 (by simp), keep_cell HR5.out x5 (by simp), keep_cell HR5.out x6 (by simp), keep_cell HR5.out x7 (by simp), keep_cell HR5.out x8 (by simp)⟩) (fail)
          go_wp2_with fail
          have hset := set_cells HR5.out 0 (.bool true)
          have hDne : D ≠ w.heap.size := fun e => by have := HK5.out; rw [e, HR5.out] at this; simp at this
          have hK' : (W5.setCell ⟨w.heap.size, 0, none⟩ (.bool true)).drew.heap[D]? = some (.deferred (some [])) := (set_other W5 _ _ _ _ hDne).trans HK5.out
          refine ⟨by simp, .inl ⟨_, _, rfl, run_takeDeferred hK', ?_⟩⟩
          have hc5 : ((W5.setCell ⟨w.heap.size, 0, none⟩ (.bool true)).drew.putObj D (.deferred none)).cell? ⟨w.heap.size, 0, none⟩ = some (.bool true) := by
            have h9 : ((W5.setCell ⟨w.heap.size, 0, none⟩ (.bool true)).drew.putObj D (.deferred none)).heap[w.heap.size]? = (W5.setCell ⟨w.heap.size, 0, none⟩ (.bool true)).drew.heap[w.heap.size]? := World.putObj_heap_other (fun e => hDne e.symm)
            have h8 : (W5.setCell ⟨w.heap.size, 0, none⟩ (.bool true)).drew.heap[w.heap.size]? = _ := hset.1
            simp [World.cell?, h9, h8]
          have hBs : Below w.heap.size w (W5.setCell ⟨w.heap.size, 0, none⟩ (.bool true)).drew := (HB5.out.grown hset.2 HB5.out.size (fun k e => by have := Option.some.inj e; omega)).drew
          exact ⟨.bool true, by simp [results, Try.f4, go_sem, hc5], rfl, hBs.grown (grownBy_putObj' _ D (.deferred none)) hBs.size (fun k e => by cases e; have := HA1.out.2.2; omega)⟩
      case stop =>
        rintro D c pre W hD _ h
        exact h.elim
end Go.Proofs.Ytpnbmokgjinnbaa.queueTexts
