/-
  HStand, HMade.
-/
import Derived.Test.YtkjjinccnaphpaaHActA
import Derived.Test.YtkjjinccnaphpaaHActB
namespace Go.Proofs.Ytkjjinccnaphpaa
open Go.RowKit

theorem act_any {w0 W : World} {lab : Nat → Tag} {Db f top n : Nat} {va vb : Value} {es : List Ent} {ps : List (Nat × Hpr)} (h : DeskS w0 W lab Db va vb f es ps top n) (ht : 3 ≤ top) (hp : 0 < ps.length) (x : ActI) (hx : actFits x) (hn : n ≤ 2000000) :
    Calls Try.prog 8 #[.pointer (some ⟨Db, 0, none⟩), actV x] W fun e w' => Left w0 Db (n + 1) ps.length e w' := by
  have hr := among_range (i := x.1) (n := 10) (by omega)
  rcases (show amongI x.1 10 = 0 ∨ amongI x.1 10 = 1 ∨ amongI x.1 10 = 2 ∨ amongI x.1 10 = 3 ∨ amongI x.1 10 = 4 ∨ amongI x.1 10 = 5 ∨ amongI x.1 10 = 6 ∨ amongI x.1 10 = 7 ∨ amongI x.1 10 = 8 ∨ amongI x.1 10 = 9 by omega) with e | e | e | e | e | e | e | e | e | e
  · exact act_0 h ht hp x hx hn e
  · exact act_1 h ht hp x hx hn e
  · exact act_2 h ht hp x hx hn e
  · exact act_3 h ht hp x hx hn e
  · exact act_4 h ht hp x hx hn e
  · exact act_5 h ht hp x hx hn e
  · exact act_6 h ht hp x hx hn e
  · exact act_7 h ht hp x hx hn e
  · exact act_8 h ht hp x hx hn e
  · exact act_9 h ht hp x hx hn e

set_option maxHeartbeats 4000000 in
set_option maxRecDepth 1000000 in
theorem stands_any {w0 W : World} {lab : Nat → Tag} {Db f top n : Nat} {va vb : Value} {es : List Ent} {ps : List (Nat × Hpr)} (h : DeskS w0 W lab Db va vb f es ps top n) (hn : n ≤ 1999990) :
    Calls Try.prog 10 #[.pointer (some ⟨Db, 0, none⟩)] W fun e w' => e = .returned (.bool true) ∧ ∃ lab' es', DeskS w0 w' lab' Db va vb f es' ps top (n + 4) := by
  have hfew := h.few
  obtain ⟨b0, b1, hDb, _⟩ := h.box
  obtain ⟨aa, ca, hva, _⟩ := row_shape h.ra
  rw [List.length_map] at hva
  subst hva
  have HH := hide3 h
  clear h
  go_enter Try.func10, Try.ntmps10
  go_wp2_with fail
  clear b0 b1
  go_loopw [9] (fun i wr => ∃ (k : Nat) (lab : Nat → Tag) (es : List Ent), k ≤ ps.length ∧ i = .int .i64 k ∧ DeskS w0 wr lab Db (.slice aa ps.length ca) vb f es ps top (n + k)) (fun i _ => ps.length - (intOf i).toNat)
  case atStart => exact ⟨0, lab, es, Nat.zero_le _, rfl, HH.out⟩
  case round =>
    obtain ⟨k, lab1, es1, hk, rfl, hd⟩ := hrel
    by_cases hlt : k < ps.length
    · have hki : (k : Int) < (ps.length : Int) := by omega
      obtain ⟨q, hq⟩ : ∃ q, ps[k]? = some q := ⟨_, List.getElem?_eq_getElem hlt⟩
      obtain ⟨ga, ca', gb, cb, ea, eb, r1, r2, hga, hgb, lga, lgb⟩ := DeskS.reads hd hq
      simp only [Value.slice.injEq, true_and] at ea
      obtain ⟨ea1, ea2⟩ := ea
      subst ea1 ea2 eb
      obtain ⟨b0, b1, hDb1, _⟩ := DeskG.box hd
      unfold ptrA at r1
      unfold ptrB at r2
      have HD := hide3 hd
      have HAT := hide3 (DeskG.hs hd k q hq)
      clear hd
      go_upto_region 4 with fail
      have sq : wr.drew.cell? ⟨Db, 0, none⟩ = some (.slice (some ⟨ga, 0, none⟩) ps.length ca) ∧ wr.drew.cell? ⟨Db, 1, none⟩ = some (.slice (some ⟨gb, 0, none⟩) ps.length cb) ∧ wr.drew.cell? ⟨ga, k, none⟩ = some (.pointer (some ⟨q.2.hb, 0, none⟩)) ∧ wr.drew.cell? ⟨gb, k, none⟩ = some (.pointer (some ⟨q.2.db, 0, none⟩)) := ⟨b0, b1, r1, r2⟩
      refine wp_region_held_drew (S := fun X => X.cell? ⟨Db, 0, none⟩ = some (.slice (some ⟨ga, 0, none⟩) ps.length ca) ∧ X.cell? ⟨Db, 1, none⟩ = some (.slice (some ⟨gb, 0, none⟩) ps.length cb) ∧ X.cell? ⟨ga, k, none⟩ = some (.pointer (some ⟨q.2.hb, 0, none⟩)) ∧ X.cell? ⟨gb, k, none⟩ = some (.pointer (some ⟨q.2.db, 0, none⟩))) (by kernel_rfl) sq (fun _ => ?_)
      refine H_take (i := 0) (v := .pointer (some ⟨Db, 0, none⟩)) (some 12) rfl rfl (by kernel_rfl) (by kernel_rfl) (by kernel_rfl) (fun _ _ _ h => h) rfl (fun X hX => ?_) sq ?_
      · simp [go_sem]
      simp only [Act.put, List.setIfInBounds_toArray, List.set_cons_zero, List.set_cons_succ]
      refine H_take (i := 1) (v := .int .i64 (k : Int)) (some 13) rfl rfl (by kernel_rfl) (by kernel_rfl) (by kernel_rfl) (fun _ _ _ h => h) rfl (fun X hX => ?_) sq ?_
      · simp [go_sem]
      simp only [Act.put, List.setIfInBounds_toArray, List.set_cons_zero, List.set_cons_succ]
      refine H_call (i := 2) (f := 30) (args := #[.pointer (some ⟨Db, 0, none⟩), .int .i64 (k : Int)]) (some 14) rfl rfl (by kernel_rfl) rfl (by simp [go_sem]) ((order_any (DeskG.later HD.out ((Below.refl _ wr).drew)) k hlt (by omega)).mono ?_)
      rintro e w5 ⟨rfl, lab5, es5, hd5⟩
      obtain ⟨ga5, ca5, gb5, cb5, ea, eb, s1, s2, _⟩ := DeskS.reads hd5 hq
      obtain ⟨u0, u1, _⟩ := DeskG.box hd5
      simp only [Value.slice.injEq, Option.some.injEq, Addr.mk.injEq, true_and, and_true] at ea eb
      obtain ⟨rfl, rfl⟩ := ea
      obtain ⟨rfl, rfl⟩ := eb
      have sq5 : w5.cell? ⟨Db, 0, none⟩ = some (.slice (some ⟨ga, 0, none⟩) ps.length ca) ∧ w5.cell? ⟨Db, 1, none⟩ = some (.slice (some ⟨gb, 0, none⟩) ps.length cb) ∧ w5.cell? ⟨ga, k, none⟩ = some (.pointer (some ⟨q.2.hb, 0, none⟩)) ∧ w5.cell? ⟨gb, k, none⟩ = some (.pointer (some ⟨q.2.db, 0, none⟩)) := ⟨u0, u1, s1, s2⟩
      have hat5 := DeskG.hs hd5 k q hq
      refine ⟨_, rfl, sq5, ?_⟩
      simp only [Act.put, List.setIfInBounds_toArray, List.set_cons_zero, List.set_cons_succ]
      refine H_take (i := 3) (v := .bool false) (some 15) rfl rfl (by kernel_rfl) (by kernel_rfl) (by kernel_rfl) (fun _ _ _ h => h) rfl (fun X hX => ?_) sq5 ?_
      · simp [go_sem]
      simp only [Act.put, List.setIfInBounds_toArray, List.set_cons_zero, List.set_cons_succ]
      refine H_take (i := 4) (v := .bool false) (some 16) rfl rfl (by kernel_rfl) (by kernel_rfl) (by kernel_rfl) (fun _ _ _ h => h) rfl (fun X hX => ?_) sq5 ?_
      · simp [go_sem]
      simp only [Act.put, List.setIfInBounds_toArray, List.set_cons_zero, List.set_cons_succ]
      refine H_take (i := 5) (v := .pointer (some ⟨Db, 0, none⟩)) (some 17) rfl rfl (by kernel_rfl) (by kernel_rfl) (by kernel_rfl) (fun _ _ _ h => h) rfl (fun X hX => ?_) sq5 ?_
      · simp [go_sem]
      simp only [Act.put, List.setIfInBounds_toArray, List.set_cons_zero, List.set_cons_succ]
      refine H_take (i := 6) (v := .pointer (some ⟨Db, 0, none⟩)) (some 18) rfl rfl (by kernel_rfl) (by kernel_rfl) (by kernel_rfl) (fun _ _ _ h => h) rfl (fun X hX => ?_) sq5 ?_
      · simp [go_sem]
      simp only [Act.put, List.setIfInBounds_toArray, List.set_cons_zero, List.set_cons_succ]
      refine H_take (i := 7) (v := .pointer (some ⟨Db, 0, none⟩)) (some 19) rfl rfl (by kernel_rfl) (by kernel_rfl) (by kernel_rfl) (fun _ _ _ h => h) rfl (fun X hX => ?_) sq5 ?_
      · simp [go_sem]
      simp only [Act.put, List.setIfInBounds_toArray, List.set_cons_zero, List.set_cons_succ]
      refine H_take (i := 8) (v := .slice (some ⟨ga, 0, none⟩) ps.length ca) (some 20) rfl rfl (by kernel_rfl) (by kernel_rfl) (by kernel_rfl) (fun _ _ _ h => h) rfl (fun X hX => ?_) sq5 ?_
      · exact run_load1 rfl rfl Try.isAgg29 hX.1
      simp only [Act.put, List.setIfInBounds_toArray, List.set_cons_zero, List.set_cons_succ]
      refine H_take (i := 9) (v := .int .i64 (k : Int)) (some 21) rfl rfl (by kernel_rfl) (by kernel_rfl) (by kernel_rfl) (fun _ _ _ h => h) rfl (fun X hX => ?_) sq5 ?_
      · simp [go_sem]
      simp only [Act.put, List.setIfInBounds_toArray, List.set_cons_zero, List.set_cons_succ]
      refine H_take (i := 10) (v := .pointer (some ⟨ga, k, none⟩)) (some 22) rfl rfl (by kernel_rfl) (by kernel_rfl) (by kernel_rfl) (fun _ _ _ h => h) rfl (fun X hX => ?_) sq5 ?_
      · simp [go_sem, hki]
      simp only [Act.put, List.setIfInBounds_toArray, List.set_cons_zero, List.set_cons_succ]
      refine H_take (i := 11) (v := .pointer (some ⟨q.2.hb, 0, none⟩)) (some 23) rfl rfl (by kernel_rfl) (by kernel_rfl) (by kernel_rfl) (fun _ _ _ h => h) rfl (fun X hX => ?_) sq5 ?_
      · exact run_load1 rfl rfl Try.isAgg24 hX.2.2.1
      simp only [Act.put, List.setIfInBounds_toArray, List.set_cons_zero, List.set_cons_succ]
      refine H_take (i := 13) (v := .pointer (some ⟨Db, 0, none⟩)) (some 25) rfl rfl (by kernel_rfl) (by kernel_rfl) (by kernel_rfl) (fun _ _ _ h => h) rfl (fun X hX => ?_) sq5 ?_
      · simp [go_sem]
      simp only [Act.put, List.setIfInBounds_toArray, List.set_cons_zero, List.set_cons_succ]
      refine H_take (i := 14) (v := .pointer (some ⟨Db, 0, none⟩)) (some 26) rfl rfl (by kernel_rfl) (by kernel_rfl) (by kernel_rfl) (fun _ _ _ h => h) rfl (fun X hX => ?_) sq5 ?_
      · simp [go_sem]
      simp only [Act.put, List.setIfInBounds_toArray, List.set_cons_zero, List.set_cons_succ]
      refine H_take (i := 15) (v := .pointer (some ⟨Db, 1, none⟩)) (some 27) rfl rfl (by kernel_rfl) (by kernel_rfl) (by kernel_rfl) (fun _ _ _ h => h) rfl (fun X hX => ?_) sq5 ?_
      · simp [go_sem]
      simp only [Act.put, List.setIfInBounds_toArray, List.set_cons_zero, List.set_cons_succ]
      refine H_take (i := 16) (v := .slice (some ⟨gb, 0, none⟩) ps.length cb) (some 28) rfl rfl (by kernel_rfl) (by kernel_rfl) (by kernel_rfl) (fun _ _ _ h => h) rfl (fun X hX => ?_) sq5 ?_
      · exact run_load1 rfl rfl Try.isAgg30 hX.2.1
      simp only [Act.put, List.setIfInBounds_toArray, List.set_cons_zero, List.set_cons_succ]
      refine H_take (i := 17) (v := .int .i64 (k : Int)) (some 29) rfl rfl (by kernel_rfl) (by kernel_rfl) (by kernel_rfl) (fun _ _ _ h => h) rfl (fun X hX => ?_) sq5 ?_
      · simp [go_sem]
      simp only [Act.put, List.setIfInBounds_toArray, List.set_cons_zero, List.set_cons_succ]
      refine H_take (i := 18) (v := .pointer (some ⟨gb, k, none⟩)) (some 30) rfl rfl (by kernel_rfl) (by kernel_rfl) (by kernel_rfl) (fun _ _ _ h => h) rfl (fun X hX => ?_) sq5 ?_
      · simp [go_sem, hki]
      simp only [Act.put, List.setIfInBounds_toArray, List.set_cons_zero, List.set_cons_succ]
      refine H_take (i := 19) (v := .pointer (some ⟨q.2.db, 0, none⟩)) (some 31) rfl rfl (by kernel_rfl) (by kernel_rfl) (by kernel_rfl) (fun _ _ _ h => h) rfl (fun X hX => ?_) sq5 ?_
      · exact run_load1 rfl rfl Try.isAgg37 hX.2.2.2
      simp only [Act.put, List.setIfInBounds_toArray, List.set_cons_zero, List.set_cons_succ]
      refine H_call (i := 12) (f := 15) (args := #[.pointer (some ⟨q.2.hb, 0, none⟩)]) (some 24) rfl rfl (by kernel_rfl) rfl (by simp [go_sem]) ((lenT w5 q.2.hb q.2.mb q.2.v q.2.f #[] q.2.last q.2.R hat5.h).mono ?_)
      rintro e w6 ⟨rfl, rfl⟩
      refine ⟨_, rfl, sq5, ?_⟩
      rw [hat5.perm.length_eq]
      simp only [Act.put, List.setIfInBounds_toArray, List.set_cons_zero, List.set_cons_succ]
      refine H_call (i := 20) (f := 31) (args := #[.pointer (some ⟨q.2.db, 0, none⟩)]) (some 32) rfl rfl (by kernel_rfl) rfl (by simp [go_sem]) ((hLen_any w6 w0.heap.size q.2.db q.2.dv q.2.way q.2.last q.2.E hat5.d).mono ?_)
      rintro e w7 ⟨rfl, rfl⟩
      refine ⟨_, rfl, sq5, ?_⟩
      simp only [Act.put, List.setIfInBounds_toArray, List.set_cons_zero, List.set_cons_succ]
      refine H_take (i := 21) (v := .bool false) (some 33) rfl rfl (by kernel_rfl) (by kernel_rfl) (by kernel_rfl) (fun _ _ _ h => h) rfl (fun X hX => ?_) sq5 ?_
      · simp [go_sem]
      simp only [Act.put, List.setIfInBounds_toArray, List.set_cons_zero, List.set_cons_succ]
      refine H_take (i := 22) (v := .bool false) (some 34) rfl rfl (by kernel_rfl) (by kernel_rfl) (by kernel_rfl) (fun _ _ _ h => h) rfl (fun X hX => ?_) sq5 ?_
      · simp [go_sem]
      simp only [Act.put, List.setIfInBounds_toArray, List.set_cons_zero, List.set_cons_succ]
      refine wpAnyH_done (by kernel_rfl) ?_ _
      have H7 := hide3 hd5
      clear hd5 hat5 sq5 sq s1 s2 u0 u1
      go_wp2_with fail
      go_roundw
      case rel => exact ⟨k + 1, lab5, es5, by omega, by go_num, by rw [← Nat.add_assoc]; exact H7.out⟩
      case measure => simp [intOf]; omega
    · have hki : ¬ (k : Int) < (ps.length : Int) := by omega
      have HD := hide3 hd
      clear hd
      go_wp2_with fail
      go_ret
      exact ⟨rfl, lab1, es1, DeskG.weak HD.out (by omega)⟩
end Go.Proofs.Ytkjjinccnaphpaa

namespace Go.Proofs.Ytkjjinccnaphpaa
open Go.RowKit

theorem nil_nil_in (w : World) (d : Nat) : (Op.equalIn (d + 1) 48 .nilFunc .nilFunc).run Try.prog w = .ok true w := by
  simp [Op.equalIn, run_underlying Try.underlying48]
theorem nil_nil (w : World) : (binOp .eql 48 .nilFunc .nilFunc).run Try.prog w = .ok (.bool true) w := by
  simp only [binOp]
  simp [show Op.equal 48 .nilFunc .nilFunc = Op.equalIn (9999 + 1) 48 .nilFunc .nilFunc from rfl, nil_nil_in w 9999]
set_option maxHeartbeats 2000000 in
set_option maxRecDepth 1000000 in
theorem new_nil (w : World) : Calls Try.prog 5 #[.nilFunc] w fun e w' => e = .returned (.pointer none) ∧ Below w.heap.size w w' := by
  have hnn := fun w => nil_nil w
  go_enter Try.func5, Try.ntmps5
  go_wp2_with fail
  go_ret
  exact ⟨rfl, Below.refl _ _⟩
set_option maxHeartbeats 2000000 in
set_option maxRecDepth 1000000 in
theorem made_any (k : Nat) (hk : k < 3) : ∃ f, Grower f (kW (k : Int)) ∧ ∀ w : World, Calls Try.prog 6 #[.int .i64 (k : Int)] w fun e w' => ∃ hb mb, e = .returned (.pointer (some ⟨hb, 0, none⟩)) ∧ HeapAtT w' hb (.slice none 0 0) mb f #[] 0 [] ∧ Below w.heap.size w w' ∧ w.heap.size ≤ hb ∧ w.heap.size ≤ mb := by
  rcases (show k = 0 ∨ k = 1 ∨ k = 2 by omega) with rfl | rfl | rfl
  · refine ⟨_, rising_grows, fun w => ?_⟩
    go_enter Try.func6, Try.ntmps6
    go_wp2_with fail
    refine (newT _ 16 #[]).mono ?_
    rintro e w1 ⟨hb, mb, rfl, h1, B1, g1, g2⟩
    have H : Hid (HeapAtT w1 hb (.slice none 0 0) mb 16 #[] 0 [] ∧ Below w.heap.size w w1 ∧ w.heap.size ≤ hb ∧ w.heap.size ≤ mb) := ⟨h1, B1, g1, g2⟩
    clear h1 B1 g1 g2
    go_wp2_with fail
    go_ret
    exact ⟨hb, mb, rfl, H.out⟩
  · refine ⟨_, falling_grows, fun w => ?_⟩
    go_enter Try.func6, Try.ntmps6
    go_wp2_with fail
    refine (newT _ 17 #[]).mono ?_
    rintro e w1 ⟨hb, mb, rfl, h1, B1, g1, g2⟩
    have H : Hid (HeapAtT w1 hb (.slice none 0 0) mb 17 #[] 0 [] ∧ Below w.heap.size w w1 ∧ w.heap.size ≤ hb ∧ w.heap.size ≤ mb) := ⟨h1, B1, g1, g2⟩
    clear h1 B1 g1 g2
    go_wp2_with fail
    go_ret
    exact ⟨hb, mb, rfl, H.out⟩
  · refine ⟨_, rounds_grows, fun w => ?_⟩
    go_enter Try.func6, Try.ntmps6
    go_wp2_with fail
    refine (newT _ 18 #[]).mono ?_
    rintro e w1 ⟨hb, mb, rfl, h1, B1, g1, g2⟩
    have H : Hid (HeapAtT w1 hb (.slice none 0 0) mb 18 #[] 0 [] ∧ Below w.heap.size w w1 ∧ w.heap.size ≤ hb ∧ w.heap.size ≤ mb) := ⟨h1, B1, g1, g2⟩
    clear h1 B1 g1 g2
    go_wp2_with fail
    go_ret
    exact ⟨hb, mb, rfl, H.out⟩
/-- New blocks get a label. -/
theorem DeskG.newM {w0 W W' : World} {as2 bs2 : List Value} {lab : Nat → Tag} {Db f top n : Nat} {va vb : Value} {es : List Ent} {ps : List (Nat × Hpr)} (h : DeskG w0 W lab Db va vb f es ps top n as2 bs2) (M : Nat → Prop) (hb : Below W.heap.size W W') (hn : ∀ k, M k → W.heap.size ≤ k) :
    ∃ lab', DeskG w0 W' lab' Db va vb f es ps top n as2 bs2 ∧ (∀ k, M k → lab' k = .user top) ∧ ∀ j, j < W.heap.size → lab' j = lab j := by
  classical
  obtain ⟨lab', hl'⟩ : ∃ lab' : Nat → Tag, lab' = fun j => if j < W.heap.size then lab j else if M j then .user top else .user 0 := ⟨_, rfl⟩
  have e0 : ∀ j, j < W.heap.size → lab' j = lab j := fun j hj => by rw [hl']; exact if_pos hj
  refine ⟨lab', (h.relabel e0).later hb, fun k hk => ?_, e0⟩
  have := hn k hk
  rw [hl']
  simp only []
  rw [if_neg (by omega), if_pos hk]
/-- The empty desk. -/
theorem desk_new (w0 w : World) (hb : Below w0.heap.size w0 w) : ∃ lab, DeskS w0 (w.alloc (.cells #[.slice none 0 0, .slice none 0 0, .slice none 0 0, .slice none 0 0, .int .i64 0] 35)) lab w.heap.size (.slice none 0 0) (.slice none 0 0) 0 [] [] 3 0 := by
  obtain ⟨lab, hl⟩ : ∃ lab : Nat → Tag, lab = fun j => if j = w.heap.size then .box else .user 0 := ⟨_, rfl⟩
  have hz := hb.size
  have nt : ∀ t, Tagged lab (.slice none 0 0) t := fun _ g h => by cases h
  refine ⟨lab, ?_⟩
  refine { bel := hb.alloc hz _, held := Held.start w w0.heap.size lab (okA 0) hz (by rw [hl]; simp), fle := Nat.le_refl _, cnt := by simp, small := fun j e he => by simp at he, low := fun j hj => ?_, ra := World.ownsRow_nil _ _ _ _, la := nt _, rb := World.ownsRow_nil _ _ _ _, lb := nt _, hs := fun k q hq => by simp at hq, own := fun k q hq => by simp at hq, ids := fun k q hq => by simp at hq, apart := fun k k' q q' hq => by simp at hq, few := by simp, size := fun k q hq => by simp at hq }
  rw [hl]
  simp only []
  rw [if_neg (by omega)]
end Go.Proofs.Ytkjjinccnaphpaa
