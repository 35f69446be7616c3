/-
  The document's intake: takes, again, New, Held, Body, Clone.
-/
import Derived.Test.YtcgpfhkndbggiaaRIn2
import Derived.Deep.Cut
import Derived.Deep.CutRange
namespace Go.Proofs.Ytcgpfhkndbggiaa
open Go.RowKit

theorem IsBytes.sub {w : World} {g o c : Nat} {l : List UInt8} (h : IsBytes w (some ⟨g, o, none⟩) c l) (n : Nat) (hn : n ≤ l.length) : IsBytes w (some ⟨g, o + n, none⟩) (c - n) (l.drop n) := by
  obtain ⟨h1, h2, h3⟩ := h
  refine ⟨by simp; omega, by omega, ?_⟩
  rcases h3 with rfl | ⟨b, p, ha, hb, hc⟩
  · left; simp
  · simp only [Option.some.injEq, Addr.mk.injEq] at ha
    obtain ⟨rfl, rfl, _⟩ := ha
    refine .inr ⟨g, o + n, rfl, hb, fun j x hj => ?_⟩
    rw [List.getElem?_drop] at hj
    rw [Nat.add_assoc]
    exact hc (n + j) x hj
theorem IsBytes.cutTo {w : World} {a : Option Addr} {c : Nat} {l : List UInt8} (h : IsBytes w a c l) (n : Nat) : IsBytes w a c (l.take n) := by
  obtain ⟨h1, h2, h3⟩ := h
  refine ⟨by rw [List.length_take]; omega, h2, ?_⟩
  rcases h3 with rfl | ⟨b, o, ha, hb, hc⟩
  · exact .inl (by simp)
  · refine .inr ⟨b, o, ha, hb, fun j x hj => hc j x ?_⟩
    rw [List.getElem?_take] at hj
    split at hj
    · exact hj
    · cases hj

set_option maxHeartbeats 2000000 in
set_option maxRecDepth 1000000 in
theorem takes_any (w : World) (rb : Nat) (m : Int) (md : Nat) (v : Value) (n : Int) (cr ed : Bool) (l : List UInt8) (k : Nat) (h : RBox w rb m md v n cr ed) (ho : Own w 0 v l) (hk : k ≤ l.length) (hk0 : 0 < k) (hl : l.length ≤ 8589934592) :
    Calls Try.prog 48 #[.pointer (some ⟨rb, 0, none⟩), .int .i64 k] w fun e w' => ∃ ao co, e = .returned (.slice ao k co) ∧ Own w' w.heap.size (.slice ao k co) (l.take k) ∧ ∃ v', RBox w' rb m md v' n cr ed ∧ Own w' 0 v' (l.drop k) ∧ Kept (fun q => q = rb) w w' ∧ ∀ g, v'.ownBlock = some g → w.heap.size ≤ g := by
  obtain ⟨av, cv, hv, his⟩ := ho.shape
  subst hv
  rcases his.2.2 with h0 | ⟨g, o, rfl, hg, hc⟩
  · rw [h0] at hk; simp at hk; omega
  have hkc : l.length ≤ cv := his.1
  have hcm := his.2.1
  unfold maxLen at hcm
  have HBX := hide h
  have HIS := hide his
  have I1 : Hid (IsBytes w (some ⟨g, o, none⟩) cv (l.take k)) := his.cutTo k
  obtain ⟨_, _, c2, _, _, _⟩ := h.cell
  have hlt := h.lt
  have ltk : (l.take k).length = k := by simp; omega
  have ldk : (l.drop k).length = l.length - k := by simp
  have HTK := hide (And.intro ltk ldk)
  obtain ⟨ln, hln⟩ : ∃ ln, ln = l.length := ⟨_, rfl⟩
  rw [← hln] at c2 hk hl hkc HBX
  have HLN := hide hln
  clear h ho his hc ltk ldk hln
  go_enter Try.func48, Try.ntmps48
  go_upto_region 3 with (refine wpList_append8 rfl (.tmp 7) (.tmp 13) rfl w.heap.size (.slice none 0 0) [] rfl (Own.nil w _) (some ⟨g, o, none⟩) cv (l.take k) (by rw [HTK.out.1]; rfl) I1.out (by rw [HTK.out.1]; simp; omega) (Nat.le_refl _) ?_; intro v2 w2 own2 gr2 _ _ _; rw [List.nil_append] at own2; obtain ⟨ao, co, hs2, _⟩ := own2.shape; rw [HTK.out.1] at hs2; subst hs2; have OWN2 := hide own2; have BE2 : Hid (Below w.heap.size w w2) := (Kept.ofGrown (P := fun _ => False) gr2 (fun g e => by cases e)).below (Nat.le_refl _) (fun _ _ h => h); clear own2 gr2)
  have d2 := (BE2.out.cell (p := ⟨rb, 2, none⟩) hlt).trans c2
  have hlt2 := cell_lt d2
  have HX2 : Hid (RBox w2 rb m md (.slice (some ⟨g, o, none⟩) ln cv) n cr ed) := (BE2.out.block rb hlt).trans HBX.out
  have hg2 : g < w2.heap.size := Nat.lt_of_lt_of_le hg BE2.out.size
  have hz2 := BE2.out.size
  have i1 : (k : Int) ≤ (ln : Int) := by omega
  have i2 : (ln : Int) ≤ (cv : Int) := by omega
  clear c2 hlt I1
  obtain ⟨dl, hdl⟩ : ∃ dl, dl = ln - k := ⟨_, rfl⟩
  have LD : Hid ((l.drop k).length = dl) := by show _ = _; rw [HTK.out.2, hdl, HLN.out]
  have idl : (ln : Int) - (k : Int) = (dl : Int) := by omega
  have hdl2 : dl ≤ ln := by omega
  by_cases hcv : cv = k
  · have HD : Hid (l.drop k = []) := List.drop_eq_nil_of_le (by have := HLN.out; omega)
    have hlk : ln = k := by omega
    have e2 := HX2.out.free 2
    subst hlk
    subst hcv
    clear idl hdl hdl2 LD
    go_wp2_with fail
    go_ret
    have kk : Kept (fun q => q = rb) w2 (w2.setCell ⟨rb, 2, none⟩ (.slice none 0 0)) := Kept.setCell _ _ _ _ _ rfl
    refine ⟨ao, co, rfl, ?_, .slice none 0 0, HX2.out.setHeld _, ?_, (Kept.ofBelow BE2.out).trans kk, fun g' hg' => by cases hg'⟩
    · exact kk.own OWN2.out (fun g' hg' e => HX2.out.apart (OWN2.out.mono (Nat.zero_le _)) (by rw [hg', e]))
    · rw [HD.out]
      exact Own.nil _ _
  · have I2 : Hid (IsBytes w2 (some ⟨g, o + k, none⟩) (cv - k) (l.drop k)) := (HIS.out.sub k (by have := HLN.out; omega)).below BE2.out
    have hdk : ln - k = dl := hdl.symm
    clear hdl
    go_wp2_with (refine wpList_append8 rfl (.tmp 15) (.tmp 21) rfl w2.heap.size (.slice none 0 0) [] rfl (Own.nil w2 _) (some ⟨g, o + k, none⟩) (cv - k) (l.drop k) (by rw [LD.out]; rfl) I2.out (by rw [LD.out]; simp only [List.length_nil]; omega) (Nat.le_refl _) ?_; intro v3 w3 own3 gr3 _ _ _; rw [List.nil_append] at own3; obtain ⟨a3, cc3, hs3, _⟩ := own3.shape; rw [LD.out] at hs3; subst hs3; have OWN3 := hide own3; have BE3 : Hid (Below w2.heap.size w2 w3) := (Kept.ofGrown (P := fun _ => False) gr3 (fun g e => by cases e)).below (Nat.le_refl _) (fun _ _ h => h); have HX3 : Hid (RBox w3 rb m md (.slice (some ⟨g, o, none⟩) ln cv) n cr ed) := (BE3.out.block rb hlt2).trans HX2.out; obtain ⟨_, _, q2, _, _, _⟩ := HX3.out.cell; have qf := HX3.out.free 2; have hlt3 := HX3.out.lt; clear own3 gr3)
    go_ret
    have kk : Kept (fun q => q = rb) w3 (w3.setCell ⟨rb, 2, none⟩ (.slice a3 dl cc3)) := Kept.setCell _ _ _ _ _ rfl
    refine ⟨ao, co, rfl, ?_, .slice a3 dl cc3, HX3.out.setHeld _, ?_, ((Kept.ofBelow BE2.out).trans (Kept.ofBelow BE3.out)).trans kk, fun g' hg' => Nat.le_trans hz2 (OWN3.out.lt g' hg').1⟩
    · exact kk.own (OWN2.out.below BE3.out) (fun g' hg' e => HX3.out.apart ((OWN2.out.below BE3.out).mono (Nat.zero_le _)) (by rw [hg', e]))
    · exact kk.own (OWN3.out.mono (Nat.zero_le _)) (fun g' hg' e => HX3.out.apart (OWN3.out.mono (Nat.zero_le _)) (by rw [hg', e]))
end Go.Proofs.Ytcgpfhkndbggiaa
