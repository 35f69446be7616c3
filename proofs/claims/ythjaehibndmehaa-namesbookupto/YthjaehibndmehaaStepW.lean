/-
  The walk of step.
-/
import Derived.Test.YthjaehibndmehaaBookS
import Derived.Test.YthjaehibndmehaaSHand
import Derived.Test.YthjaehibndmehaaOps
import Derived.Test.YthjaehibndmehaaRefRest
namespace Go.Proofs.Ythjaehibndmehaa
open Go.RowKit

/-- Names as texts. -/
def namesL (S : List RowT) : List ByteArray := S.map fun r => ⟨r.1.toArray⟩
theorem namesL_len (S : List RowT) : (namesL S).length = S.length := by simp [namesL]
theorem namesL_own {w : World} {B : Nat} {v : Value} {S : List RowT} (h : w.ownsRow B 9 1 v S.length (S.map fun r => encStr r.1)) : OwnS w B v (namesL S) := by
  unfold OwnS
  rw [namesL_len, show (namesL S).map Value.string = S.map fun r => encStr r.1 by simp [namesL, encStr]]
  exact h
theorem Pp.len {p : Pp} {w0 w : World} {k : Nat} (h : p.at w0 w k) : p.S.length = p.n := by
  obtain ⟨S', h1, h2, _⟩ := h.q.q.listed
  rw [h.l.unique h1, h2]
theorem two_boxes (w : World) (x y : Array Value) (s t : TypeId) : Below w.heap.size w ((w.alloc (.cells x s)).alloc (.cells y t)) ∧ ((w.alloc (.cells x s)).alloc (.cells y t)).heap[w.heap.size]? = some (.cells x s (0, 0)) ∧ ((w.alloc (.cells x s)).alloc (.cells y t)).heap[w.heap.size + 1]? = some (.cells y t (0, 0)) := by
  refine ⟨((Below.refl _ w).alloc (Nat.le_refl _) _).alloc (by simp) _, ?_, ?_⟩
  · rw [heap_alloc_old _ _ (by simp)]
    exact heap_alloc_new _ _
  · have := heap_alloc_new (w.alloc (.cells x s)) (.cells y t)
    rwa [World.size_alloc] at this

set_option maxHeartbeats 8000000 in
set_option maxRecDepth 1000000 in
theorem step_any (w0 W : World) (lab : Nat → Tag) (Hb sz : Nat) (es : List Ent) (P Q : Pp) (k i1 i2 : Nat) (xb : Bool) (kd : Int) (s : ByteArray) (xk : Int) (h : BS w0 W lab Hb sz es P Q k 4194304 i1 i2) (hs : s.size ≤ maxLen) (hx : -9223372036854775808 ≤ xk ∧ xk ≤ 9223372036854775807) (hk : k ≤ 2097152) (he : es.length ≤ 16000000) (hsz : sz ≤ 65536) :
    Calls Try.prog 15 #[.agg #[.pointer (some ⟨P.b, 0, none⟩), .pointer (some ⟨P.db, 0, none⟩)], .pointer (some ⟨Hb, 0, none⟩), .agg #[.bool xb, .int .i64 kd, .string s, .int .i64 xk]] W fun e w' => e = .returned (.bool true) ∧ ∃ lab' sz' es' P', BS w0 w' lab' Hb sz' es' P' Q (k + 1) 4194304 i1 i2 ∧ Mv lab W lab' w' ∧ P'.b = P.b ∧ P'.db = P.db ∧ es'.length ≤ es.length + 2 ∧ sz' ≤ 65536 := by
  obtain ⟨W1, hW1⟩ : ∃ W1, W1 = (W.alloc (.cells #[.pointer (some ⟨P.b, 0, none⟩), .pointer (some ⟨P.db, 0, none⟩)] 30)).alloc (.cells #[.bool xb, .int .i64 kd, .string s, .int .i64 xk] 35) := ⟨_, rfl⟩
  obtain ⟨b1, q3, q5⟩ := two_boxes W #[.pointer (some ⟨P.b, 0, none⟩), .pointer (some ⟨P.db, 0, none⟩)] #[.bool xb, .int .i64 kd, .string s, .int .i64 xk] 30 35
  rw [← hW1] at b1 q3 q5
  obtain ⟨B3, hB3⟩ : ∃ B3, B3 = W.heap.size := ⟨_, rfl⟩
  obtain ⟨B5, hB5⟩ : ∃ B5, B5 = W.heap.size + 1 := ⟨_, rfl⟩
  rw [← hB3] at q3
  rw [← hB5] at q5
  have z30 : W1.cell? ⟨B3, 0, none⟩ = some (.pointer (some ⟨P.b, 0, none⟩)) := by simp [World.cell?, q3]
  have z31 : W1.cell? ⟨B3, 1, none⟩ = some (.pointer (some ⟨P.db, 0, none⟩)) := by simp [World.cell?, q3]
  have z51 : W1.cell? ⟨B5, 1, none⟩ = some (.int .i64 kd) := by simp [World.cell?, q5]
  have z52 : W1.cell? ⟨B5, 2, none⟩ = some (.string s) := by simp [World.cell?, q5]
  have z53 : W1.cell? ⟨B5, 3, none⟩ = some (.int .i64 xk) := by simp [World.cell?, q5]
  have hl3 := (Array.getElem?_eq_some_iff.1 q3).1
  have hl5 := (Array.getElem?_eq_some_iff.1 q5).1
  have H1 := hide (h.later b1)
  have HB1 := hide b1
  have HW := hide (And.intro hW1 (And.intro hB3 hB5))
  clear h hW1 hB3 hB5 b1 q3 q5
  go_enter Try.func15, Try.ntmps15
  go_upto_region 1 with fail
  rw [← HW.out.2.2, ← HW.out.2.1, ← HW.out.1]
  clear HW
  have turned : ∀ (X : World) (n' : Nat) (lv' : Value) (S' : List RowT) (g' : Text → Option Int), Pair w0 X P.b P.mb n' P.db lv' S' g' (k + 1) → (∀ j, MineR P.db lv' j → MineR P.db P.lv j ∨ W1.heap.size ≤ j) → Kept (fun j => j = P.mb ∨ MineR P.db P.lv j) W1 X → ∃ lab' sz' es' P', BS w0 X lab' Hb sz' es' P' Q (k + 1) 4194304 i1 i2 ∧ Mv lab W lab' X ∧ P'.b = P.b ∧ P'.db = P.db ∧ es'.length ≤ es.length + 2 ∧ sz' ≤ 65536 := by
    intro X n' lv' S' g' hp hmi hkp
    obtain ⟨lab', hb, hmv⟩ := H1.out.turn ⟨P.b, P.mb, n', P.db, lv', S', g'⟩ hp rfl rfl hmi hkp
    exact ⟨lab', sz, es, _, hb, (Mv.later HB1.out).trans hmv, rfl, rfl, by omega, hsz⟩
  have TURNED := hide turned
  clear turned
  by_cases h0 : kd = 0
  · subst h0
    have CT := hide (turn_any w0 W1 P.b P.mb P.n P.db P.lv P.S P.g k s 1 H1.out.pP (by omega) hs (.inr (.inl rfl)))
    go_wp2_with (go_at_call 19; refine CT.out.mono ?_; rintro e w2 ⟨rfl, ⟨n', lv', S', g', hp, hmi⟩, _, hkp⟩; have FIN := hide (TURNED.out w2 n' lv' S' g' hp hmi hkp); clear hp hmi hkp)
    go_ret
    exact ⟨rfl, FIN.out⟩
  by_cases h1 : kd = 1
  · subst h1
    have CT := hide (turn_any w0 W1 P.b P.mb P.n P.db P.lv P.S P.g k s 2 H1.out.pP (by omega) hs (.inr (.inr rfl)))
    go_wp2_with (go_at_call 19; refine CT.out.mono ?_; rintro e w2 ⟨rfl, ⟨n', lv', S', g', hp, hmi⟩, _, hkp⟩; have FIN := hide (TURNED.out w2 n' lv' S' g' hp hmi hkp); clear hp hmi hkp)
    go_ret
    exact ⟨rfl, FIN.out⟩
  by_cases h4 : kd = 4
  · subst h4
    have CT := hide (ranges_any w0 W1 P.b P.mb P.n P.db P.lv P.S P.g k s xk H1.out.pP (by omega) hs hx H1.out.bel.size)
    go_wp2_with (go_at_call 17; refine CT.out.mono ?_; rintro e w2 ⟨rfl, ⟨n', lv', S', g', hp, hmi⟩, hkp⟩; have FIN := hide (TURNED.out w2 n' lv' S' g' hp hmi hkp); clear hp hmi hkp)
    go_ret
    exact ⟨rfl, FIN.out⟩
  by_cases h6 : kd = 6
  · subst h6
    have CT := hide (H1.out.over (by omega) (by omega))
    go_wp2_with (go_at_call 34; refine CT.out.mono ?_; rintro e w2 ⟨rfl, lab2, hb2, mv2⟩; have FIN := hide (And.intro hb2 mv2); clear hb2 mv2)
    go_ret
    exact ⟨rfl, lab2, 0, [], P, FIN.out.1.weak (by omega), (Mv.later HB1.out).trans FIN.out.2, rfl, rfl, by simp, by omega⟩
  by_cases h2 : kd = 2
  · subst h2
    have SQ : Hid (∀ X, Below W1.heap.size W1 X → X.cell? ⟨B3, 0, none⟩ = some (.pointer (some ⟨P.b, 0, none⟩)) ∧ X.cell? ⟨B3, 1, none⟩ = some (.pointer (some ⟨P.db, 0, none⟩)) ∧ X.cell? ⟨B5, 2, none⟩ = some (.string s)) := fun X hX => ⟨(hX.cell (p := ⟨B3, 0, none⟩) hl3).trans z30, (hX.cell (p := ⟨B3, 1, none⟩) hl3).trans z31, (hX.cell (p := ⟨B5, 2, none⟩) hl5).trans z52⟩
    have sq := SQ.out _ (Below.refl _ W1).drew
    have pd := Pair.later H1.out.pP (Below.refl _ W1).drew
    have C1 := hide (count_any W1.drew P.b P.mb P.n P.g s pd.q.q hs)
    have C2 := hide (refCount_any W1.drew w0.heap.size P.db P.lv P.S P.g s pd.d pd.l (by have := pd.len; omega))
    clear pd
    go_upto_region 7 with fail
    as_aux_lemma =>
      refine wp_region_held_drew (S := fun X => X.cell? ⟨B3, 0, none⟩ = some (.pointer (some ⟨P.b, 0, none⟩)) ∧ X.cell? ⟨B3, 1, none⟩ = some (.pointer (some ⟨P.db, 0, none⟩)) ∧ X.cell? ⟨B5, 2, none⟩ = some (.string s)) (by kernel_rfl) sq (fun _ => ?_)
      refine H_take (i := 0) (v := .pointer (some ⟨B3, 0, none⟩)) (some 25) rfl rfl (by kernel_rfl) (by kernel_rfl) (by kernel_rfl) (fun _ _ _ h => h) rfl (fun X hX => ?_) sq ?_
      · simp [go_sem]
      simp only [Act.put, List.setIfInBounds_toArray, List.set_cons_zero, List.set_cons_succ]
      refine H_take (i := 1) (v := .pointer (some ⟨P.b, 0, none⟩)) (some 26) rfl rfl (by kernel_rfl) (by kernel_rfl) (by kernel_rfl) (fun _ _ _ h => h) rfl (fun X hX => ?_) sq ?_
      · exact run_load1 rfl rfl Try.isAgg25 hX.1
      simp only [Act.put, List.setIfInBounds_toArray, List.set_cons_zero, List.set_cons_succ]
      refine H_take (i := 2) (v := .pointer (some ⟨B5, 2, none⟩)) (some 27) rfl rfl (by kernel_rfl) (by kernel_rfl) (by kernel_rfl) (fun _ _ _ h => h) rfl (fun X hX => ?_) sq ?_
      · simp [go_sem]
      simp only [Act.put, List.setIfInBounds_toArray, List.set_cons_zero, List.set_cons_succ]
      refine H_take (i := 3) (v := .string s) (some 28) rfl rfl (by kernel_rfl) (by kernel_rfl) (by kernel_rfl) (fun _ _ _ h => h) rfl (fun X hX => ?_) sq ?_
      · exact run_load1 rfl rfl Try.isAgg9 hX.2.2
      simp only [Act.put, List.setIfInBounds_toArray, List.set_cons_zero, List.set_cons_succ]
      refine H_take (i := 5) (v := .pointer (some ⟨B3, 1, none⟩)) (some 30) rfl rfl (by kernel_rfl) (by kernel_rfl) (by kernel_rfl) (fun _ _ _ h => h) rfl (fun X hX => ?_) sq ?_
      · simp [go_sem]
      simp only [Act.put, List.setIfInBounds_toArray, List.set_cons_zero, List.set_cons_succ]
      refine H_take (i := 6) (v := .pointer (some ⟨P.db, 0, none⟩)) (some 31) rfl rfl (by kernel_rfl) (by kernel_rfl) (by kernel_rfl) (fun _ _ _ h => h) rfl (fun X hX => ?_) sq ?_
      · exact run_load1 rfl rfl Try.isAgg27 hX.2.1
      simp only [Act.put, List.setIfInBounds_toArray, List.set_cons_zero, List.set_cons_succ]
      refine H_take (i := 7) (v := .pointer (some ⟨B5, 2, none⟩)) (some 32) rfl rfl (by kernel_rfl) (by kernel_rfl) (by kernel_rfl) (fun _ _ _ h => h) rfl (fun X hX => ?_) sq ?_
      · simp [go_sem]
      simp only [Act.put, List.setIfInBounds_toArray, List.set_cons_zero, List.set_cons_succ]
      refine H_take (i := 8) (v := .string s) (some 33) rfl rfl (by kernel_rfl) (by kernel_rfl) (by kernel_rfl) (fun _ _ _ h => h) rfl (fun X hX => ?_) sq ?_
      · exact run_load1 rfl rfl Try.isAgg9 hX.2.2
      simp only [Act.put, List.setIfInBounds_toArray, List.set_cons_zero, List.set_cons_succ]
      refine H_call (i := 4) (f := 22) (args := #[.pointer (some ⟨P.b, 0, none⟩), .string s]) (some 29) rfl rfl (by kernel_rfl) rfl (by simp [go_sem]) (C1.out.mono ?_)
      rintro e x1 ⟨rfl, hx1⟩
      rw [hx1]
      clear hx1 x1
      refine ⟨_, rfl, sq, ?_⟩
      simp only [Act.put, List.setIfInBounds_toArray, List.set_cons_zero, List.set_cons_succ]
      refine H_call (i := 9) (f := 29) (args := #[.pointer (some ⟨P.db, 0, none⟩), .string s]) (some 34) rfl rfl (by kernel_rfl) rfl (by simp [go_sem]) (C2.out.mono ?_)
      rintro e x2 ⟨rfl, m2, hx2⟩
      have b2 : Below W1.drew.heap.size W1.drew x2 := by rw [hx2]; exact below_drewN (Below.refl _ _) m2
      clear hx2
      have sq2 := SQ.out _ ((Below.refl _ W1).drew.trans b2)
      refine ⟨_, rfl, sq2, ?_⟩
      simp only [Act.put, List.setIfInBounds_toArray, List.set_cons_zero, List.set_cons_succ]
      refine H_take (i := 10) (v := .bool true) (some 35) rfl rfl (by kernel_rfl) (by kernel_rfl) (by kernel_rfl) (fun _ _ _ h => h) rfl (fun X hX => ?_) sq2 ?_
      · simp [go_sem]
      simp only [Act.put, List.setIfInBounds_toArray, List.set_cons_zero, List.set_cons_succ]
      refine H_take (i := 11) (v := .bool true) (some 6) rfl rfl (by kernel_rfl) (by kernel_rfl) (by kernel_rfl) (fun _ _ _ h => h) rfl (fun X hX => ?_) sq2 ?_
      · simp [go_sem]
      simp only [Act.put, List.setIfInBounds_toArray, List.set_cons_zero, List.set_cons_succ]
      refine wpAnyH_done (by kernel_rfl) ?_ _
      have H2 := hide (H1.out.later ((Below.refl _ W1).drew.trans b2))
      have M2 := hide ((Mv.later (lab := lab) HB1.out).trans (Mv.later ((Below.refl _ W1).drew.trans b2)))
      clear sq sq2 b2
      go_wp2_with fail
      go_ret
      exact ⟨rfl, lab, sz, es, P, H2.out.weak (by omega), M2.out, rfl, rfl, by omega, hsz⟩
  by_cases h3 : kd = 3
  · subst h3
    obtain ⟨n, hn⟩ : ∃ n, n = P.S.length := ⟨_, rfl⟩
    have hnn : P.n = n := by rw [hn]; exact (Pp.len H1.out.pP).symm
    have hnk : n ≤ 2097152 := by have := H1.out.pP.few; omega
    have HNN := hide (And.intro hn hnn)
    have CN : Hid (∀ X, Below W1.heap.size W1 X → Calls Try.prog 25 #[.pointer (some ⟨P.b, 0, none⟩)] X fun e w' => ∃ (gb cap : Nat), e = .returned (.slice (some ⟨gb, 0, none⟩) n cap) ∧ OwnS w' X.heap.size (.slice (some ⟨gb, 0, none⟩) n cap) (namesL P.S) ∧ Below X.heap.size X w') := by
      intro X hX
      refine (names_any X P.b P.mb P.n P.g P.S (Pair.later H1.out.pP hX).q.q (by omega) H1.out.pP.l).mono ?_
      rintro e w' ⟨gb, cap, rfl, ho, hb⟩
      rw [hn]
      exact ⟨gb, cap, rfl, namesL_own ho, hb⟩
    clear hn hnn
    go_upto_region 10 with (go_at_call 25; refine (CN.out _ (Below.refl _ W1)).mono ?_; rintro e w2 ⟨ga, ca, rfl, o2, b2⟩; have O2 := hide o2; have B2 := hide b2; clear o2 b2)
    have y30 := (B2.out.cell (p := ⟨B3, 0, none⟩) hl3).trans z30
    have hl3' := Nat.lt_of_lt_of_le hl3 B2.out.size
    go_upto_region 11 with (go_at_call 25; refine (CN.out _ B2.out).mono ?_; rintro e w3 ⟨gb, cb, rfl, o3, b3⟩; have O3 := hide o3; have B3' := hide b3; clear o3 b3)
    have B13 := hide (B2.out.trans (B3'.out.mono B2.out.size))
    have HG : Hid (W1.heap.size ≤ ga ∧ ga < w2.heap.size ∧ w2.heap.size ≤ gb ∧ gb < w3.heap.size) := ⟨(O2.out.lt ga rfl).1, (O2.out.lt ga rfl).2, (O3.out.lt gb rfl).1, (O3.out.lt gb rfl).2⟩
    have SQ : Hid (∀ X, Below w3.heap.size w3 X → X.cell? ⟨B3, 0, none⟩ = some (.pointer (some ⟨P.b, 0, none⟩)) ∧ X.cell? ⟨B3, 1, none⟩ = some (.pointer (some ⟨P.db, 0, none⟩))) := fun X hX => ⟨((B13.out.trans (hX.mono B13.out.size)).cell (p := ⟨B3, 0, none⟩) hl3).trans z30, ((B13.out.trans (hX.mono B13.out.size)).cell (p := ⟨B3, 1, none⟩) hl3).trans z31⟩
    have PX : Hid (∀ X, Below w3.heap.size w3 X → P.at w0 X k) := fun X hX => Pair.later H1.out.pP (B13.out.trans (hX.mono B13.out.size))
    have C1 : Hid (∀ X, Below w3.heap.size w3 X → Calls Try.prog 26 #[.pointer (some ⟨P.b, 0, none⟩)] X fun e w' => e = .returned (.int .i64 (n : Int)) ∧ w' = X) := fun X hX => by
      have h1 := len_any X P.b P.mb P.n P.g (PX.out X hX).q.q
      rw [HNN.out.2] at h1
      exact h1
    have C2 : Hid (∀ X, Below w3.heap.size w3 X → Calls Try.prog 30 #[.pointer (some ⟨P.db, 0, none⟩)] X fun e w' => e = .returned (.int .i64 (n : Int)) ∧ w' = X) := fun X hX => by
      have h1 := refLen_any X w0.heap.size P.db P.lv P.S (PX.out X hX).d
      rw [← HNN.out.1] at h1
      exact h1
    have C3 : Hid (∀ X, Below w3.heap.size w3 X → Calls Try.prog 32 #[.pointer (some ⟨P.db, 0, none⟩)] X fun e w' => ∃ a c, e = .returned (.slice a n c) ∧ IsStrs w' a c (namesL P.S) ∧ Below X.heap.size X w') := fun X hX => by
      refine (refNames_any X w0.heap.size P.db P.lv P.S (PX.out X hX).d (by have := HNN.out.1; omega)).mono ?_
      rintro e w' ⟨v, rfl, ho, hb⟩
      have ho2 : OwnS w' X.heap.size v (namesL P.S) := namesL_own (by simpa [List.map_map, Function.comp_def] using ho)
      obtain ⟨a, c, hv, his⟩ := ho2.shape
      rw [namesL_len, ← HNN.out.1] at hv
      exact ⟨a, c, by rw [hv], his, hb⟩
    have C4 : Hid (∀ X a c, Below w3.heap.size w3 X → IsStrs X a c (namesL P.S) → Calls Try.prog 31 #[.slice (some ⟨ga, 0, none⟩) n ca, .slice a n c] X fun e w' => e = .returned (.bool true) ∧ ∃ m, w' = X.drewN m) := fun X a c hX his => by
      have hO := O2.out.below (B3'.out.trans (hX.mono B3'.out.size))
      obtain ⟨a1, c1, hv, i1⟩ := hO.shape
      simp only [Value.slice.injEq] at hv
      obtain ⟨rfl, _, rfl⟩ := hv
      have h1 := same_yes _ a _ c (namesL P.S) X i1 his
      rw [namesL_len, ← HNN.out.1] at h1
      exact h1
    have C5 : Hid (∀ X a c, Below w3.heap.size w3 X → IsStrs X a c (namesL P.S) → Calls Try.prog 31 #[.slice (some ⟨gb, 0, none⟩) n cb, .slice a n c] X fun e w' => e = .returned (.bool true) ∧ ∃ m, w' = X.drewN m) := fun X a c hX his => by
      have hO := O3.out.below hX
      obtain ⟨a1, c1, hv, i1⟩ := hO.shape
      simp only [Value.slice.injEq] at hv
      obtain ⟨rfl, _, rfl⟩ := hv
      have h1 := same_yes _ a _ c (namesL P.S) X i1 his
      rw [namesL_len, ← HNN.out.1] at h1
      exact h1
    have B0 : Below w3.heap.size w3 w3.drew := (Below.refl _ w3).drew
    have sq := SQ.out _ B0
    clear z30 z31 z51 z52 z53 y30 hl3' CN
    as_aux_lemma =>
      refine wp_region_held_drew (S := fun X => X.cell? ⟨B3, 0, none⟩ = some (.pointer (some ⟨P.b, 0, none⟩)) ∧ X.cell? ⟨B3, 1, none⟩ = some (.pointer (some ⟨P.db, 0, none⟩))) (by kernel_rfl) sq (fun _ => ?_)
      refine H_take (i := 0) (v := .pointer (some ⟨B3, 0, none⟩)) (some 44) rfl rfl (by kernel_rfl) (by kernel_rfl) (by kernel_rfl) (fun _ _ _ h => h) rfl (fun X hX => ?_) sq ?_
      · simp [go_sem]
      simp only [Act.put, List.setIfInBounds_toArray, List.set_cons_zero, List.set_cons_succ]
      refine H_take (i := 1) (v := .pointer (some ⟨P.b, 0, none⟩)) (some 45) rfl rfl (by kernel_rfl) (by kernel_rfl) (by kernel_rfl) (fun _ _ _ h => h) rfl (fun X hX => ?_) sq ?_
      · exact run_load1 rfl rfl Try.isAgg25 hX.1
      simp only [Act.put, List.setIfInBounds_toArray, List.set_cons_zero, List.set_cons_succ]
      refine H_take (i := 3) (v := .pointer (some ⟨B3, 1, none⟩)) (some 47) rfl rfl (by kernel_rfl) (by kernel_rfl) (by kernel_rfl) (fun _ _ _ h => h) rfl (fun X hX => ?_) sq ?_
      · simp [go_sem]
      simp only [Act.put, List.setIfInBounds_toArray, List.set_cons_zero, List.set_cons_succ]
      refine H_take (i := 4) (v := .pointer (some ⟨P.db, 0, none⟩)) (some 48) rfl rfl (by kernel_rfl) (by kernel_rfl) (by kernel_rfl) (fun _ _ _ h => h) rfl (fun X hX => ?_) sq ?_
      · exact run_load1 rfl rfl Try.isAgg27 hX.2
      simp only [Act.put, List.setIfInBounds_toArray, List.set_cons_zero, List.set_cons_succ]
      refine H_call (i := 2) (f := 26) (args := #[.pointer (some ⟨P.b, 0, none⟩)]) (some 46) rfl rfl (by kernel_rfl) rfl (by simp [go_sem]) ((C1.out _ B0).mono ?_)
      rintro e x1 ⟨rfl, hx1⟩
      rw [hx1]
      clear hx1 x1
      refine ⟨_, rfl, sq, ?_⟩
      simp only [Act.put, List.setIfInBounds_toArray, List.set_cons_zero, List.set_cons_succ]
      refine H_call (i := 5) (f := 30) (args := #[.pointer (some ⟨P.db, 0, none⟩)]) (some 49) rfl rfl (by kernel_rfl) rfl (by simp [go_sem]) ((C2.out _ B0).mono ?_)
      rintro e x1 ⟨rfl, hx1⟩
      rw [hx1]
      clear hx1 x1
      refine ⟨_, rfl, sq, ?_⟩
      simp only [Act.put, List.setIfInBounds_toArray, List.set_cons_zero, List.set_cons_succ]
      refine H_take (i := 6) (v := .bool false) (some 50) rfl rfl (by kernel_rfl) (by kernel_rfl) (by kernel_rfl) (fun _ _ _ h => h) rfl (fun X hX => ?_) sq ?_
      · simp [go_sem]
      simp only [Act.put, List.setIfInBounds_toArray, List.set_cons_zero, List.set_cons_succ]
      refine H_take (i := 7) (v := .bool false) (some 51) rfl rfl (by kernel_rfl) (by kernel_rfl) (by kernel_rfl) (fun _ _ _ h => h) rfl (fun X hX => ?_) sq ?_
      · simp [go_sem]
      simp only [Act.put, List.setIfInBounds_toArray, List.set_cons_zero, List.set_cons_succ]
      refine H_take (i := 8) (v := .slice (some ⟨ga, 0, none⟩) n ca) (some 52) rfl rfl (by kernel_rfl) (by kernel_rfl) (by kernel_rfl) (fun _ _ _ h => h) rfl (fun X hX => ?_) sq ?_
      · simp [go_sem]
      simp only [Act.put, List.setIfInBounds_toArray, List.set_cons_zero, List.set_cons_succ]
      refine H_take (i := 9) (v := .pointer (some ⟨B3, 1, none⟩)) (some 53) rfl rfl (by kernel_rfl) (by kernel_rfl) (by kernel_rfl) (fun _ _ _ h => h) rfl (fun X hX => ?_) sq ?_
      · simp [go_sem]
      simp only [Act.put, List.setIfInBounds_toArray, List.set_cons_zero, List.set_cons_succ]
      refine H_take (i := 10) (v := .pointer (some ⟨P.db, 0, none⟩)) (some 54) rfl rfl (by kernel_rfl) (by kernel_rfl) (by kernel_rfl) (fun _ _ _ h => h) rfl (fun X hX => ?_) sq ?_
      · exact run_load1 rfl rfl Try.isAgg27 hX.2
      simp only [Act.put, List.setIfInBounds_toArray, List.set_cons_zero, List.set_cons_succ]
      refine H_call (i := 11) (f := 32) (args := #[.pointer (some ⟨P.db, 0, none⟩)]) (some 55) rfl rfl (by kernel_rfl) rfl (by simp [go_sem]) ((C3.out _ B0).mono ?_)
      rintro e x4 ⟨a4, c4, rfl, is4, b4⟩
      have B4 := B0.trans (b4.mono B0.size)
      have sq4 := SQ.out _ B4
      refine ⟨_, rfl, sq4, ?_⟩
      simp only [Act.put, List.setIfInBounds_toArray, List.set_cons_zero, List.set_cons_succ]
      refine H_call (i := 12) (f := 31) (args := #[.slice (some ⟨ga, 0, none⟩) n ca, .slice a4 n c4]) (some 56) rfl rfl (by kernel_rfl) rfl (by simp [go_sem]) ((C4.out _ _ _ B4 is4).mono ?_)
      rintro e x5 ⟨rfl, m5, hx5⟩
      have b5 : Below x4.heap.size x4 x5 := by rw [hx5]; exact below_drewN (Below.refl _ _) m5
      clear hx5
      have B5 := B4.trans (b5.mono B4.size)
      have sq5 := SQ.out _ B5
      refine ⟨_, rfl, sq5, ?_⟩
      simp only [Act.put, List.setIfInBounds_toArray, List.set_cons_zero, List.set_cons_succ]
      refine H_take (i := 13) (v := .bool false) (some 57) rfl rfl (by kernel_rfl) (by kernel_rfl) (by kernel_rfl) (fun _ _ _ h => h) rfl (fun X hX => ?_) sq5 ?_
      · simp [go_sem]
      simp only [Act.put, List.setIfInBounds_toArray, List.set_cons_zero, List.set_cons_succ]
      refine H_take (i := 14) (v := .bool false) (some 58) rfl rfl (by kernel_rfl) (by kernel_rfl) (by kernel_rfl) (fun _ _ _ h => h) rfl (fun X hX => ?_) sq5 ?_
      · simp [go_sem]
      simp only [Act.put, List.setIfInBounds_toArray, List.set_cons_zero, List.set_cons_succ]
      refine H_take (i := 15) (v := .bool false) (some 59) rfl rfl (by kernel_rfl) (by kernel_rfl) (by kernel_rfl) (fun _ _ _ h => h) rfl (fun X hX => ?_) sq5 ?_
      · simp [go_sem]
      simp only [Act.put, List.setIfInBounds_toArray, List.set_cons_zero, List.set_cons_succ]
      refine H_take (i := 16) (v := .slice (some ⟨gb, 0, none⟩) n cb) (some 60) rfl rfl (by kernel_rfl) (by kernel_rfl) (by kernel_rfl) (fun _ _ _ h => h) rfl (fun X hX => ?_) sq5 ?_
      · simp [go_sem]
      simp only [Act.put, List.setIfInBounds_toArray, List.set_cons_zero, List.set_cons_succ]
      refine H_take (i := 17) (v := .pointer (some ⟨B3, 1, none⟩)) (some 61) rfl rfl (by kernel_rfl) (by kernel_rfl) (by kernel_rfl) (fun _ _ _ h => h) rfl (fun X hX => ?_) sq5 ?_
      · simp [go_sem]
      simp only [Act.put, List.setIfInBounds_toArray, List.set_cons_zero, List.set_cons_succ]
      refine H_take (i := 18) (v := .pointer (some ⟨P.db, 0, none⟩)) (some 62) rfl rfl (by kernel_rfl) (by kernel_rfl) (by kernel_rfl) (fun _ _ _ h => h) rfl (fun X hX => ?_) sq5 ?_
      · exact run_load1 rfl rfl Try.isAgg27 hX.2
      simp only [Act.put, List.setIfInBounds_toArray, List.set_cons_zero, List.set_cons_succ]
      refine H_call (i := 19) (f := 32) (args := #[.pointer (some ⟨P.db, 0, none⟩)]) (some 63) rfl rfl (by kernel_rfl) rfl (by simp [go_sem]) ((C3.out _ B5).mono ?_)
      rintro e x6 ⟨a6, c6, rfl, is6, b6⟩
      have B6 := B5.trans (b6.mono B5.size)
      have sq6 := SQ.out _ B6
      refine ⟨_, rfl, sq6, ?_⟩
      simp only [Act.put, List.setIfInBounds_toArray, List.set_cons_zero, List.set_cons_succ]
      refine H_call (i := 20) (f := 31) (args := #[.slice (some ⟨gb, 0, none⟩) n cb, .slice a6 n c6]) (some 64) rfl rfl (by kernel_rfl) rfl (by simp [go_sem]) ((C5.out _ _ _ B6 is6).mono ?_)
      rintro e x7 ⟨rfl, m7, hx7⟩
      have b7 : Below x6.heap.size x6 x7 := by rw [hx7]; exact below_drewN (Below.refl _ _) m7
      clear hx7
      have B7 := B6.trans (b7.mono B6.size)
      have sq7 := SQ.out _ B7
      refine ⟨_, rfl, sq7, ?_⟩
      simp only [Act.put, List.setIfInBounds_toArray, List.set_cons_zero, List.set_cons_succ]
      refine H_take (i := 21) (v := .bool false) (some 65) rfl rfl (by kernel_rfl) (by kernel_rfl) (by kernel_rfl) (fun _ _ _ h => h) rfl (fun X hX => ?_) sq7 ?_
      · simp [go_sem]
      simp only [Act.put, List.setIfInBounds_toArray, List.set_cons_zero, List.set_cons_succ]
      refine H_take (i := 22) (v := .bool false) (some 66) rfl rfl (by kernel_rfl) (by kernel_rfl) (by kernel_rfl) (fun _ _ _ h => h) rfl (fun X hX => ?_) sq7 ?_
      · simp [go_sem]
      simp only [Act.put, List.setIfInBounds_toArray, List.set_cons_zero, List.set_cons_succ]
      refine wpAnyH_done (by kernel_rfl) ?_ _
      have HB7 := hide B7
      clear sq sq4 sq5 sq6 sq7 B0 B4 B5 B6 B7 b4 b5 b6 b7 is4 is6
      obtain ⟨lab2, hlab2⟩ : ∃ lab2 : Nat → Tag, lab2 = fun j => if j < W1.heap.size then lab j else if j = ga then .out es.length else if j = gb then .out (es.length + 1) else .user 0 := ⟨_, rfl⟩
      have hg := HG.out
      have e0 : ∀ j, j < W1.heap.size → lab2 j = lab j := fun j hj => by rw [hlab2]; exact if_pos hj
      have e1 : lab2 ga = .out es.length := by rw [hlab2]; simp only []; rw [if_neg (by omega)]; simp
      have e2 : lab2 gb = .out (es.length + 1) := by rw [hlab2]; simp only []; rw [if_neg (by omega), if_neg (by omega)]; simp
      have B17 := B13.out.trans (HB7.out.mono B13.out.size)
      have H7 := hide ((H1.out.relabel e0).later B17)
      have OV1 := (O2.out.below (B3'.out.trans (HB7.out.mono B3'.out.size))).mono (Nat.le_trans H1.out.bel.size (Nat.le_refl _))
      have OV2 := (O3.out.below HB7.out).mono (Nat.le_trans H1.out.bel.size B2.out.size)
      have CK := H7.out.keep (a := some ⟨ga, 0, none⟩) (c := ca) (l := namesL P.S) (by rw [namesL_len, ← HNN.out.1]; exact OV1) (by rw [namesL_len, ← HNN.out.1]; intro q hq; cases hq; exact e1) (by rw [namesL_len, ← HNN.out.1]; omega) (by omega) (by omega) (by omega)
      rw [namesL_len, ← HNN.out.1] at CK
      have CK1 := hide CK
      have HM7 : Hid (Mv lab W lab2 x7) := (Mv.later HB1.out).trans ⟨Kept.ofBelow B17, e0⟩
      have HV2 := hide (And.intro OV2 e2)
      clear CK OV1 OV2 hlab2 e0 e1 e2 B17 hg
      go_upto_region 14 with (go_at_call 33; refine CK1.out.mono ?_; rintro e w8 ⟨rfl, lab8, es8, h8, l8, m8, k8⟩; have H8 := hide (And.intro h8 (And.intro l8 (And.intro m8 k8))); clear h8 l8 m8 k8)
      have OV2 : OwnS w8 w0.heap.size (.slice (some ⟨gb, 0, none⟩) n cb) (namesL P.S) := H8.out.2.2.2.ownS HV2.out.1 (fun q hq hL => by cases hq; unfold Lists at hL; rw [HV2.out.2] at hL; simp at hL)
      have e8 : lab8 gb = .out es8.length := by
        rw [H8.out.2.2.1.same gb ((HV2.out.1.lt gb rfl).2), HV2.out.2, H8.out.2.1]
      have CK := H8.out.1.keep (a := some ⟨gb, 0, none⟩) (c := cb) (l := namesL P.S) (by rw [namesL_len, ← HNN.out.1]; exact OV2) (by rw [namesL_len, ← HNN.out.1]; intro q hq; cases hq; exact e8) (by rw [namesL_len, ← HNN.out.1]; omega) (by omega) (by rw [H8.out.2.1]; omega) (by omega)
      rw [namesL_len, ← HNN.out.1] at CK
      have CK2 := hide CK
      clear CK OV2 e8 CK1
      go_upto_region 15 with (go_at_call 33; refine CK2.out.mono ?_; rintro e w9 ⟨rfl, lab9, es9, h9, l9, m9, k9⟩; have H9 := hide (And.intro h9 (And.intro l9 m9)); clear h9 l9 m9 k9)
      have he9 : es9.length = es.length + 2 := by rw [H9.out.2.1, H8.out.2.1]
      have HM9 := hide (HM7.out.trans (H8.out.2.2.1.trans H9.out.2.2))
      obtain ⟨c92, hl92⟩ : w9.cell? ⟨Hb, 2, none⟩ = some (.int .i64 ((sz + n + n : Nat) : Int)) ∧ Hb < w9.heap.size := by
        obtain ⟨vo, vw, hr, _⟩ := H9.out.1.held
        exact ⟨by simp [World.cell?, hr.1], hr.lt⟩
      have HE9 := hide he9
      clear he9 CK2 H8
      obtain ⟨z, hz⟩ : ∃ z, z = sz + n + n := ⟨_, rfl⟩
      rw [← hz] at c92 H9
      by_cases hzz : z ≤ 65536
      · have hzi : ¬ (65536 : Int) < (z : Int) := by omega
        clear hz
        go_wp2_with fail
        go_ret
        exact ⟨rfl, lab9, z, es9, P, H9.out.1.weak (by omega), HM9.out, rfl, rfl, by rw [HE9.out]; omega, hzz⟩
      · have hzi : (65536 : Int) < (z : Int) := by omega
        have CO := hide (H9.out.1.over (by rw [HE9.out]; omega) (by omega))
        clear hz
        go_wp2_with (go_at_call 34; refine CO.out.mono ?_; rintro e wz ⟨rfl, labz, hbz, mvz⟩; have FIN := hide (And.intro hbz mvz); clear hbz mvz)
        go_ret
        exact ⟨rfl, labz, 0, [], P, FIN.out.1.weak (by omega), HM9.out.trans FIN.out.2, rfl, rfl, by simp, by omega⟩
  · have t0 : (kd == 0) = false := by simpa using h0
    have t1 : (kd == 1) = false := by simpa using h1
    have t2 : (kd == 2) = false := by simpa using h2
    have t3 : (kd == 3) = false := by simpa using h3
    have t4 : (kd == 4) = false := by simpa using h4
    have t6 : (kd == 6) = false := by simpa using h6
    clear h0 h1 h2 h3 h4 h6
    go_wp2_with fail
    go_ret
    exact ⟨rfl, lab, sz, es, P, H1.out.weak (by omega), Mv.later HB1.out, rfl, rfl, by omega, hsz⟩
end Go.Proofs.Ythjaehibndmehaa
