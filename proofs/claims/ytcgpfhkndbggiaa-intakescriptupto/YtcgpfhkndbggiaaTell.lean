/-
  The walks of isTooLong, tellLoss, tellLine, tellBody.
-/
import Derived.Test.YtcgpfhkndbggiaaFeed
import Derived.Laws.ResultCell
namespace Go.Proofs.Ytcgpfhkndbggiaa
open Go.RowKit

set_option maxHeartbeats 2000000 in
set_option maxRecDepth 1000000 in
theorem tooLong_any (w : World) (ib : Nat) (v : Value) (s : In) (h : InAt w ib v s) (hl : s.held.length ≤ 2147483648) (hm : MaxAt w) :
    Calls Try.prog 37 #[.pointer (some ⟨ib, 0, none⟩)] w fun e w' => e = .returned (.bool s.tooLong) ∧ Below w.heap.size w w' := by
  obtain ⟨g, came, hbox, hown, hg, hheld, hgh⟩ := h
  have hcl : came.length - g = s.held.length := by rw [← hheld]; simp
  have hcl2 : came.length ≤ 4611686018427387904 := by omega
  have HX : Hid (BoxAt w ib s.most s.stand s.need v g) := hbox
  have HO : Hid (Own w 0 v came) := hown
  have HM : Hid (MaxAt w) := hm
  have HH : Hid (came.drop g = s.held) := hheld
  have HC : Hid (came.length - g = s.held.length) := hcl
  have kc := fun (w : World) (C : Array Value) (n c : Nat) => Lib.run_convert_bytes_const (P := Try.prog) w 30 5 C n c Try.underlying30 Try.underlying5
  clear hbox hown hm hheld hcl hgh
  by_cases h224 : 224 ≤ s.held.length
  · have HT : Hid (s.tooLong = (find s.window).isNone) := by
      show s.tooLong = _
      unfold In.tooLong
      rw [Bool.eq_iff_iff]
      simp [h224]
    have h224' : (224 : Int) ≤ (s.held.length : Int) := by omega
    go_enter Try.func37, Try.ntmps37
    go_wp2_with (go_at_call 14; refine (Held_any w ib _ _ _ v g came HX.out HO.out hg hcl2).mono ?_; rintro e w1 ⟨rfl, n1, hW⟩; subst hW; rw [HC.out])
    go_wp2_with fail
    refine (window_any (w.drewN n1) ib _ _ _ v g came (HX.out.drew n1) (HO.out.drewN n1) hg hcl2).mono ?_
    rintro e w2 ⟨⟨a, c, rfl, hi, ha⟩, n2, hW⟩
    have B2 : Below w.heap.size w w2 := by rw [hW]; exact below_drewN (below_drewN (Below.refl _ w) n1) n2
    have I2 : IsBytes w2 a c (s.held.take 224) := by rw [HH.out] at hi; rw [hW]; exact hi
    have M2 : MaxAt w2 := by rw [hW]; exact HM.out
    rw [HH.out]
    have HI : Hid (IsBytes w2 a c (s.held.take 224)) := I2
    have HA : Hid (a = none → c = 0) := ha
    have HB2 : Hid (Below w.heap.size w w2) := B2
    have HM2 : Hid (MaxAt w2) := M2
    clear hi ha hW B2 I2 M2
    go_wp2_with fail
    have hl224 : (s.held.take 224).length = 224 := by simp; omega
    have HC2 := contains_any a (some ⟨w2.heap.size, 0, none⟩) c 2 (s.held.take 224) _ (HI.out.below ((Below.refl _ w2).alloc (Nat.le_refl _) _)) HA.out (ends w2) (by simp; omega) (HM2.out.alloc _)
    rw [hl224] at HC2
    refine HC2.mono ?_
    rintro e w3 ⟨rfl, B3⟩
    have HB3 : Hid (Below w.heap.size w w3) := HB2.out.trans ((((Below.refl _ w2).alloc (Nat.le_refl _) _).trans (B3.mono (by simp))).mono HB2.out.size)
    clear B3
    go_wp2
    go_ret
    exact ⟨by rw [HT.out]; rfl, HB3.out⟩
  · have HT : Hid (s.tooLong = false) := by
      show s.tooLong = _
      unfold In.tooLong
      simp [h224]
    have h224' : ¬ (224 : Int) ≤ (s.held.length : Int) := by omega
    go_enter Try.func37, Try.ntmps37
    go_wp2_with (go_at_call 14; refine (Held_any w ib _ _ _ v g came HX.out HO.out hg hcl2).mono ?_; rintro e w1 ⟨rfl, n1, hW⟩; subst hW; rw [HC.out])
    go_ret
    exact ⟨by rw [HT.out]; rfl, below_drewN (Below.refl _ w) n1⟩

theorem results_cell {fn : Func} {p : Tmp} {ty : TypeId} (h : fn.results = #[.cell p ty]) (tmps : Array Value) (P : Program) (w : World) :
    (results fn tmps).run P w = ((asAddr (tmps.getD p undef)).run P w).andThen fun a w₁ => (loadVar ty a).run P w₁ := by
  simp only [results, h]
  simp [Sem.run_bind, Result.andThen]
/-- An item, its body apart. -/
def itemV (k : Int) (t : List UInt8) (b : Value) : Value := .agg #[.int .i64 k, .string ⟨t.toArray⟩, b]
theorem Below.set {B : Nat} {w w1 : World} (h : Below B w w1) (k i : Nat) (v : Value) (hk : B ≤ k) : Below B w (w1.setCell ⟨k, i, none⟩ v) :=
  h.trans ⟨rfl, rfl, rfl, by simp, fun j hj => Below.heap_setCell w1 ⟨k, i, none⟩ v j (fun e => by have : j = k := e; omega)⟩

set_option maxHeartbeats 2000000 in
set_option maxRecDepth 1000000 in
theorem tellLoss_any (w : World) (ib : Nat) (v : Value) (s : In) (kind : Int) (h : InAt w ib v s) (hnd : s.need ≤ 4294967297) :
    Calls Try.prog 40 #[.pointer (some ⟨ib, 0, none⟩), .int .i64 kind] w fun e w' => e = .returned (itemV (s.tellLoss kind).1.kind (s.tellLoss kind).1.text (.slice none 0 0)) ∧ (s.tellLoss kind).1.body = [] ∧ Went w ib v (s.tellLoss kind).2 w' := by
  obtain ⟨g, came, hbox, hown, hg, hheld, hgh⟩ := h
  have k1 : w.cell? ⟨ib, 1, none⟩ = some (.int .i64 s.stand) := hbox.cell.2.1
  have k2 : w.cell? ⟨ib, 2, none⟩ = some (.int .i64 s.need) := hbox.cell.2.2.1
  have f1 : w.frozen? ⟨ib, 1, none⟩ = false := hbox.free 1
  have hlt := hbox.lt
  have HI : Hid (InAt w ib v s) := ⟨g, came, hbox, hown, hg, hheld, hgh⟩
  obtain ⟨bx1, K1⟩ := hbox.setStand 0
  have HI1 : Hid (InAt (w.setCell ⟨ib, 1, none⟩ (.int .i64 ((0 : Nat) : Int))) ib v { s with stand := 0 }) := ⟨g, came, bx1, hown.kept K1 (hown.apart hbox), hg, hheld, hgh⟩
  have HK1 : Hid (Kept (fun k => k = ib) w (w.setCell ⟨ib, 1, none⟩ (.int .i64 ((0 : Nat) : Int)))) := K1
  clear hbox hown bx1 K1 hheld hgh
  by_cases h0 : 0 < s.need
  · have h0' : (0 : Int) < (s.need : Int) := by omega
    have HT : Hid (s.tellLoss kind = (.none, s)) := by show s.tellLoss kind = _; unfold In.tellLoss; rw [if_pos h0]
    go_enter Try.func40, Try.ntmps40
    go_wp2
    refine bodyPost_ret (v := itemV 0 [] (.slice none 0 0)) ?_ rfl ?_
    · rw [results_cell rfl]
      go_simp
      rfl
    · rw [HT.out]
      exact ⟨rfl, rfl, v, HI.out.below ((Below.refl _ w).alloc (Nat.le_refl _) _), Kept.ofBelow ((Below.refl _ w).alloc (Nat.le_refl _) _), fun k h => .inl h⟩
  · have h0' : ¬ (0 : Int) < (s.need : Int) := by omega
    have HT : Hid (s.tellLoss kind = (⟨kind, [], []⟩, { s with stand := 0 })) := by show s.tellLoss kind = _; unfold In.tellLoss; rw [if_neg h0]
    go_enter Try.func40, Try.ntmps40
    go_wp2
    refine bodyPost_ret (v := itemV kind [] (.slice none 0 0)) ?_ rfl ?_
    · rw [results_cell rfl]
      go_simp
      rfl
    · rw [HT.out]
      have B : Below w.heap.size (w.setCell ⟨ib, 1, none⟩ (.int .i64 ((0 : Nat) : Int))) ((w.setCell ⟨ib, 1, none⟩ (.int .i64 ((0 : Nat) : Int))).alloc (.cells #[.int .i64 kind, .string ⟨#[]⟩, .slice none 0 0] 54)) := (Below.refl _ _).alloc (by simp) _
      refine ⟨rfl, rfl, v, HI1.out.below (B.mono (by simp)), (HK1.out.trans (Kept.ofBelow (B.mono (by simp)))).mono (fun k _ h => .inl h), fun k h => .inl h⟩
end Go.Proofs.Ytcgpfhkndbggiaa
