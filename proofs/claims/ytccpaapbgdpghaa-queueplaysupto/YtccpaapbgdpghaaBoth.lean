/-
  The law's leave: one leaves both.
-/
import Derived.Test.YtccpaapbgdpghaaEarly
import Derived.Test.YtccpaapbgdpghaaRefLeave
import Derived.Test.YtccpaapbgdpghaaLeaveI
namespace Go.Proofs.Ytccpaapbgdpghaa
open Go.RowKit

theorem alike_find {R : List Stand} {T H : List Int} (h : Alike R T H) (t : Int) : getOfI R t = refLeft T H t := by
  unfold getOfI refLeft spot
  obtain ⟨h1, h2⟩ := h
  subst h1
  induction R generalizing H with
  | nil => cases H with
    | nil => rfl
    | cons x H => cases h2
  | cons r R ih =>
    cases H with
    | nil => cases h2
    | cons x H =>
      simp only [List.map_cons, List.cons.injEq] at h2
      have := ih h2.2
      by_cases e : r.tk = t
      · simp [e, List.findIdx?_cons, h2.1]
      · have e' : (r.tk == t) = false := by simpa using e
        simp only [List.find?_cons, List.map_cons, List.findIdx?_cons, e'] at this ⊢
        rw [this]
        cases List.findIdx? (fun x => x == t) (R.map fun r => r.tk) <;> rfl
theorem alike_rest {R : List Stand} {T H : List Int} (h : Alike R T H) (hu : R.Pairwise (fun a b => a.tk < b.tk)) (t : Int) : Alike (R.filter (fun r => r.tk != t)) (refRest T T t) (refRest T H t) := by
  obtain ⟨h1, h2⟩ := h
  subst h1
  unfold refRest spot
  induction R generalizing H with
  | nil => cases H with
    | nil => exact ⟨rfl, rfl⟩
    | cons x H => cases h2
  | cons r R ih =>
    cases H with
    | nil => cases h2
    | cons x H =>
      simp only [List.map_cons, List.cons.injEq] at h2
      have hp := List.pairwise_cons.1 hu
      have := ih hp.2 h2.2
      by_cases e : r.tk = t
      · have hf : R.filter (fun r => r.tk != t) = R := List.filter_eq_self.2 fun s hs => by
          have := hp.1 s hs
          simp; omega
        rw [List.filter_cons]
        simp only [e, bne_self_eq_false, Bool.false_eq_true, if_false, hf, List.map_cons, List.findIdx?_cons, beq_self_eq_true, if_true, List.eraseIdx_zero, List.tail_cons]
        exact ⟨rfl, h2.2⟩
      · have e' : (r.tk == t) = false := by simpa using e
        have e2 : (r.tk != t) = true := by simpa using e
        rw [List.filter_cons]
        simp only [List.map_cons, List.findIdx?_cons, e', e2, if_true] at this ⊢
        cases hx : List.findIdx? (fun x => x == t) (R.map fun r => r.tk) with
        | none => rw [hx] at this; exact ⟨by simpa using this.tk, by simpa [h2.1] using this.vs⟩
        | some k => rw [hx] at this; exact ⟨by simpa using this.tk, by simpa [h2.1] using this.vs⟩

theorem QueueAtI.keptQ {w w' : World} {qb mb : Nat} {given : Int} {R : List Stand} (h : QueueAtI w qb mb given R) {P : Nat → Prop} (hk : Kept P w w') (hP : ∀ k, Mine qb mb R k → ¬ P k) : QueueAtI w' qb mb given R :=
  have p := h.part.kept hk hP
  ⟨p.link, p.tab, h.up, h.le, h.pos⟩
theorem apart_QR {B : Nat} {w : World} {qb mb rb : Nat} {given J : Int} {R : List Stand} {vt vh : Value} {T H : List Int} (hq : PartI w qb mb given R) (hr : RefAt B w rb J vt vh T H) {k : Nat} (hk : RMine rb vt vh k) : ¬ Mine qb mb R k := by
  rcases hk with rfl | e | e
  · exact hq.notCells hr.box (by decide) (by decide)
  · obtain ⟨c, hc, _⟩ := hr.rt.block e
    exact hq.notCells hc (by decide) (by decide)
  · obtain ⟨c, hc, _⟩ := hr.rh.block e
    exact hq.notCells hc (by decide) (by decide)

theorem kp_ref {B : Nat} {w w' : World} {rb : Nat} {J : Int} {vt vh : Value} {T H : List Int} (hr : RefAt B w rb J vt vh T H) (hk : Kept (RMine rb vt vh) w w') : KpI w w' :=
  KpI.ofKept hk (fun k c t hc ht hM => by
    rcases hM with rfl | e | e
    · rw [hr.box] at hc
      simp at hc
      rcases ht with h | h <;> rw [h] at hc <;> simp at hc
    · obtain ⟨c', hc', _⟩ := hr.rt.block e
      rw [hc'] at hc
      simp at hc
      rcases ht with h | h <;> rw [h] at hc <;> simp at hc
    · obtain ⟨c', hc', _⟩ := hr.rh.block e
      rw [hc'] at hc
      simp at hc
      rcases ht with h | h <;> rw [h] at hc <;> simp at hc)
theorem kf_ref {B C : Nat} {w w' : World} {rb : Nat} {J : Int} {vt vh : Value} {T H : List Int} (hr : RefAt B w rb J vt vh T H) (hk : Kept (RMine rb vt vh) w w') : KeepsFrom C w w' :=
  ⟨hk.size, fun k o _ ho hc => (hk.block k (Array.getElem?_eq_some_iff.1 ho).1 (fun hM => by
    rcases hM with rfl | e | e
    · rw [hr.box] at ho
      obtain rfl := Option.some.inj ho
      cases hc
    · obtain ⟨c', hc', _⟩ := hr.rt.block e
      rw [hc'] at ho
      obtain rfl := Option.some.inj ho
      cases hc
    · obtain ⟨c', hc', _⟩ := hr.rh.block e
      rw [hc'] at ho
      obtain rfl := Option.some.inj ho
      cases hc)).trans ho⟩
theorem kf_below {C : Nat} {w w' : World} (hb : Below w.heap.size w w') : KeepsFrom C w w' :=
  ⟨hb.size, fun k _ _ ho _ => (hb.block k (Array.getElem?_eq_some_iff.1 ho).1).trans ho⟩

theorem refLeft_form (T H : List Int) (t : Int) : ∃ x b, refLeft T H t = .tuple #[.int .i64 x, .bool b] := by
  unfold refLeft
  cases spot T t with
  | none => exact ⟨_, _, rfl⟩
  | some k => exact ⟨_, _, rfl⟩

set_option maxHeartbeats 8000000 in
set_option maxRecDepth 1000000 in
theorem leave_any (B : Nat) (w : World) (qb mb rb : Nat) (given J t : Int) (R : List Stand) (vt vh : Value) (T H : List Int) (hq : QueueAtI w qb mb given R) (hr : RefAt B w rb J vt vh T H) (ha : Alike R T H) (hR : R.length ≤ 1073741823) (hB : B ≤ w.heap.size) (ht : (Lit.int .i64 t).wf = true) :
    Calls Try.prog 22 #[.agg #[.pointer (some ⟨qb, 0, none⟩), .pointer (some ⟨rb, 0, none⟩)], .int .i64 t] w fun e w' => e = .returned (.bool true) ∧ QueueAtI w' qb mb given (R.filter (fun r => r.tk != t)) ∧ ∃ vt' vh', RefAt B w' rb J vt' vh' (refRest T T t) (refRest T H t) ∧ Alike (R.filter (fun r => r.tk != t)) (refRest T T t) (refRest T H t) ∧ Kept (fun k => Mine qb mb (R.filter (fun r => r.tk != t)) k ∨ RMine rb vt vh k) w w' ∧ KpI w w' ∧ (∀ k, RMine rb vt' vh' k → RMine rb vt vh k ∨ w.heap.size ≤ k) ∧ (∀ C, mb < C → KeepsFrom C w w') := by
  have bW : Below w.heap.size w (w.alloc (.cells #[.pointer (some ⟨qb, 0, none⟩), .pointer (some ⟨rb, 0, none⟩)] 36)) := (Below.refl _ w).alloc (Nat.le_refl _) _
  have hc1 : (w.alloc (.cells #[.pointer (some ⟨qb, 0, none⟩), .pointer (some ⟨rb, 0, none⟩)] 36)).heap[w.heap.size]? = some (.cells #[.pointer (some ⟨qb, 0, none⟩), .pointer (some ⟨rb, 0, none⟩)] 36 (0, 0)) := heap_alloc_new w _
  have hq1 := hq.keptQ (P := fun _ => False) (Kept.ofBelow bW) (fun _ _ h => h)
  have hr1 := hr.below bW
  generalize hW : w.alloc (.cells #[.pointer (some ⟨qb, 0, none⟩), .pointer (some ⟨rb, 0, none⟩)] 36) = W at bW hc1 hq1 hr1
  have HW := hideR hW
  obtain ⟨x, b, hxb⟩ := refLeft_form T H t
  have hL := leaveI W qb mb given t R hq1 ht ha.ints
  rw [alike_find ha t, hxb] at hL
  have HL := hideR hL
  have HX := hideR hxb
  have hap := HidR.mk (p := ∀ k, RMine rb vt vh k → ¬ Mine qb mb (R.filter (fun r => r.tk != t)) k) (fun k hk hm => apart_QR hq1.part hr1 hk (mine_filter hm))
  have hnp := HidR.mk (p := ¬ Mine qb mb (R.filter (fun r => r.tk != t)) w.heap.size) (fun hm => hq1.part.notCells hc1 (by decide) (by decide) (mine_filter hm))
  have hlt := HidR.mk (p := w.heap.size < W.heap.size) (Array.getElem?_eq_some_iff.1 hc1).1
  have HR := hideR hr1
  have HP := hideR hq1.part
  have HB : HidR (B ≤ W.heap.size ∧ T.length ≤ 1073741823 ∧ T.length = H.length ∧ Alike (R.filter (fun r => r.tk != t)) (refRest T T t) (refRest T H t)) := ⟨⟨Nat.le_trans hB bW.size, by rw [ha.lenT]; exact hR, by rw [ha.lenT, ha.lenH], alike_rest ha hq.up t⟩⟩
  have HBW := hideR bW
  have HC := hideR hc1
  have hsz := HidR.mk (p := rb < w.heap.size) (hr.lt (.inl rfl))
  clear hq hr ha hB hq1 hr1 hc1 bW hW hR ht hL hxb
  go_enter Try.func22, Try.ntmps22
  go_wp2_with fail
  rw [HW.out]
  refine HL.out.mono ?_
  rintro e w1 ⟨rfl, q1, k1⟩
  have HQ1 := hideR q1
  have HK1 := hideR k1
  have hc := (k1.block _ hlt.out hnp.out).trans HC.out
  have p0 : w1.cell? ⟨w.heap.size, 0, none⟩ = some (.pointer (some ⟨qb, 0, none⟩)) := by simp [World.cell?, hc]
  have p1 : w1.cell? ⟨w.heap.size, 1, none⟩ = some (.pointer (some ⟨rb, 0, none⟩)) := by simp [World.cell?, hc]
  have hR2 := refLeaveF B w1 rb J t vt vh T H (HR.out.kept k1 hap.out) HB.out.2.1 HB.out.2.2.1 (Nat.le_trans HB.out.1 k1.size)
  rw [HX.out] at hR2
  have HR2 := hideR hR2
  clear q1 k1 hR2 hc
  go_wp2_with fail
  refine HR2.out.mono ?_
  rintro e w2 ⟨rfl, vt', vh', r2, k2, fr⟩
  have HR3 := hideR r2
  have HK2 := hideR k2
  clear r2 k2
  go_wp2_with fail
  all_goals go_ret
  exact ⟨rfl, HQ1.out.keptQ HK2.out (fun k hm hk => hap.out k hk hm), vt', vh', HR3.out, HB.out.2.2.2, (Kept.mono (P := fun _ => False) (Kept.ofBelow HBW.out) fun k _ h => False.elim h).trans ((HK1.out.mono fun k _ h => .inl h).trans (HK2.out.mono fun k _ h => .inr h)), (KpI.ofBelow HBW.out).trans ((HP.out.kp HQ1.out.part HK1.out (fun r hr => ⟨(List.mem_filter.1 hr).1, hr⟩)).trans (kp_ref (HR.out.kept HK1.out hap.out) HK2.out)), fun k hk => (fr k hk).imp id (fun h => Nat.le_trans HBW.out.size (Nat.le_trans HK1.out.size h)), fun C hC => (kf_below HBW.out).trans ((HP.out.keeps (HK1.out.mono fun k _ h => mine_filter h) hC).trans (kf_ref (HR.out.kept HK1.out hap.out) HK2.out))⟩
end Go.Proofs.Ytccpaapbgdpghaa
