/-
  The document's disk: Crash.
-/
import Derived.Test.YtnpofjeiamjioaaRDk
import Derived.Deep.CutRange
namespace Go.Proofs.Ytnpofjeiamjioaa
open Go.RowKit

/-- Numbers that are handed in. -/
def IsNums (w : World) (a : Option Addr) (c : Nat) (l : List Int) : Prop :=
  l.length ≤ c ∧ c ≤ maxLen ∧ (∀ x ∈ l, -9223372036854775808 ≤ x ∧ x ≤ 9223372036854775807) ∧ (l = [] ∨ ∃ b o, a = some ⟨b, o, none⟩ ∧ b < w.heap.size ∧ ∀ (i : Nat) x, l[i]? = some x → w.cell? ⟨b, o + i, none⟩ = some (.int .i64 x))
theorem getD_none {l : List Int} {j : Nat} (h : l.length ≤ j) : l.getD j 0 = 0 := by simp [List.getD, List.getElem?_eq_none h]
theorem kept_few (f : Fl) (x : Int) : kept f x ≤ f.data.length - f.safe := by
  unfold kept
  have := Int.emod_lt_of_pos (if x < 0 then -(x + 1) else x) (show (0 : Int) < ((f.data.length - f.safe : Nat) : Int) + 1 by omega)
  omega
theorem IsBytes.takeR {w : World} {a : Option Addr} {c : Nat} {d : List UInt8} (h : IsBytes w a c d) (n : Nat) : IsBytes w a c (d.take n) := by
  refine ⟨by rw [List.length_take]; have := h.1; omega, h.2.1, ?_⟩
  rcases h.2.2 with h0 | ⟨b, o, e, hb, hc⟩
  · left; rw [h0]; simp
  · refine .inr ⟨b, o, e, hb, fun j x hj => hc j x ?_⟩
    rw [List.getElem?_take] at hj
    split at hj
    · exact hj
    · cases hj
theorem flatR_set (l : List (Fl × Value)) (i k : Nat) (x z : Fl × Value) (hx : l[i]? = some x) (v : Value) (hk : k < 3) (hz : cellR z = (cellR x).set k v) : (flatR l).set (i * 3 + k) v = flatR (l.set i z) := by
  induction l generalizing i with
  | nil => simp at hx
  | cons a l ih =>
    have hla : (cellR a).length = 3 := rfl
    cases i with
    | zero =>
      simp only [List.getElem?_cons_zero, Option.some.injEq] at hx
      subst hx
      show (cellR a ++ flatR l).set (0 * 3 + k) v = cellR z ++ flatR l
      rw [Nat.zero_mul, Nat.zero_add, List.set_append_left _ _ (by omega), hz]
    | succ i =>
      show (cellR a ++ flatR l).set ((i + 1) * 3 + k) v = cellR a ++ flatR (l.set i z)
      rw [List.set_append_right _ _ (by omega), hla, show (i + 1) * 3 + k - 3 = i * 3 + k by omega, ih i (by simpa using hx)]
theorem set_keyR {α : Type} {o : List α} {i : Nat} {z : α} {j : Nat} {y : α} (hy : (o.set i z)[j]? = some y) : (j = i ∧ y = z) ∨ (j ≠ i ∧ o[j]? = some y) := by
  by_cases hj : j = i
  · subst hj
    have hl : j < (o.set j z).length := (List.getElem?_eq_some_iff.1 hy).1
    rw [List.length_set] at hl
    rw [List.getElem?_set_self hl] at hy
    exact .inl ⟨rfl, (Option.some.inj hy).symm⟩
  · rw [List.getElem?_set_ne (Ne.symm hj)] at hy
    exact .inr ⟨hj, hy⟩
/-- Bytes of the document's files lie where they lay, or are new. -/
def NewR (w : World) (F G : List (Fl × Value)) : Prop := ∀ p ∈ G, ∀ g, p.2.ownBlock = some g → (∃ p' ∈ F, p'.2.ownBlock = some g) ∨ w.heap.size ≤ g
theorem NewR.refl (w : World) (F : List (Fl × Value)) : NewR w F F := fun p hp _ e => .inl ⟨p, hp, e⟩
theorem NewR.set {w : World} {F G : List (Fl × Value)} (h : NewR w F G) (j : Nat) (z : Fl × Value) (hz : ∀ g, z.2.ownBlock = some g → w.heap.size ≤ g) : NewR w F (G.set j z) := fun p hp g e => by
  obtain ⟨m, hm⟩ := List.getElem?_of_mem hp
  rcases set_keyR hm with ⟨_, rfl⟩ | ⟨_, hm⟩
  · exact .inr (hz g e)
  · exact h p (List.mem_of_getElem? hm) g e
section
variable {w : World} {B rb g n c : Nat} {q : Int} {F : List (Fl × Value)}
/-- One cell of a file is stored. -/
theorem RfAt.put (h : RfAt w B rb q (.slice (some ⟨g, 0, none⟩) n c) F) {i k : Nat} {x z : Fl × Value} (hx : F[i]? = some x) {v : Value} (hk : k < 3) (hz : cellR z = (cellR x).set k v) (ho : Own w B z.2 z.1.data) :
    RfAt (w.setCell ⟨g, i * 3 + k, none⟩ v) B rb q (.slice (some ⟨g, 0, none⟩) n c) (F.set i z) ∧ Kept (fun j => j = g) w (w.setCell ⟨g, i * 3 + k, none⟩ v) := by
  have ks : Kept (fun j => j = g) w (w.setCell ⟨g, i * 3 + k, none⟩ v) := Kept.setCell _ _ _ _ _ rfl
  have hn : n = F.length := by obtain ⟨a, c', e⟩ := h.form; simp only [Value.slice.injEq] at e; exact e.2.1
  obtain ⟨cur, hc⟩ := row_typeR h.row (g := g) rfl
  have n8 : ∀ {u : Value} {d : List UInt8}, Own w B u d → Own (w.setCell ⟨g, i * 3 + k, none⟩ v) B u d := fun hu => Kept.own ks hu (fun j e e2 => by
    obtain ⟨c2, h2⟩ := row_typeR hu e
    rw [e2, hc] at h2
    simp at h2)
  have hb : rb ≠ g := fun e => by
    have h1 := h.box
    rw [e, hc] at h1
    simp at h1
  subst hn
  have hs := (h.row.stored (i * 3 + k) v).1
  rw [flatR_set F i k x z hx v hk hz] at hs
  refine ⟨⟨(ks.block rb (Array.getElem?_eq_some_iff.1 h.box).1 hb).trans h.box, by rw [List.length_set]; exact hs, fun p hp => ?_⟩, ks⟩
  obtain ⟨m, hm⟩ := List.getElem?_of_mem hp
  rcases set_keyR hm with ⟨_, rfl⟩ | ⟨_, hm⟩
  · exact n8 ho
  · exact n8 (h.own p (List.mem_of_getElem? hm))
end
set_option maxHeartbeats 4000000 in
set_option maxRecDepth 1000000 in
theorem crash_any11 (w : World) (B rb : Nat) (q : Int) (fv : Value) (F : List (Fl × Value)) (h : RfAt w B rb q fv F) (hF : F.length ≤ 1073741823) (hD : ∀ p ∈ F, p.1.data.length ≤ 1073741823 ∧ p.1.safe ≤ p.1.data.length) (ka : Option Addr) (kc : Nat) (keep : List Int) (hk : IsNums w ka kc keep) (hB : B ≤ w.heap.size) (hap : ∀ b o, ka = some ⟨b, o, none⟩ → keep ≠ [] → fv.ownBlock ≠ some b) :
    Calls Try.prog 43 #[.pointer (some ⟨rb, 0, none⟩), .slice ka keep.length kc] w fun e w' => e = .returned (.tuple #[]) ∧ Kept (fun g => fv.ownBlock = some g) w w' ∧ ∃ G, RfAt w' B rb q fv G ∧ G.map (·.1) = crash keep (F.map (·.1)) ∧ NewR w F G := by
  obtain ⟨fa, fc, rfl⟩ := h.form
  obtain ⟨N, hN⟩ : ∃ N, N = F.length := ⟨_, rfl⟩
  have HN := hideR hN
  have HD := hideR hD
  have HR := hideR h
  have HKP := hideR (And.intro hk hap)
  have hkl : keep.length ≤ 9223372036854775807 := by have := hk.1; have := hk.2.1; unfold maxLen at *; omega
  rw [← hN] at HR hF HKP ⊢
  clear h hN hD hk hap
  go_enter Try.func43, Try.ntmps43
  go_wp2_with fail
  go_loopg [4] N (fun gk i wr => ∃ (j : Nat) (G : List (Fl × Value)), i = .int .i64 (j : Int) ∧ N - j ≤ gk ∧ j ≤ N ∧ HidR (Kept (fun g => (Value.slice fa N fc).ownBlock = some g) w wr ∧ RfAt wr B rb q (.slice fa N fc) G) ∧ HidR (G.map (·.1) = part keep (F.map (·.1)) j) ∧ HidR (NewR w F G))
  case atStart => exact ⟨0, F, rfl, by omega, by omega, ⟨Kept.refl _ _, HR.out⟩, ⟨by rw [part_zero]⟩, ⟨NewR.refl _ _⟩⟩
  case round =>
    obtain ⟨j, G, rfl, hgk, hj, HG, HM, HO⟩ := hrel
    have k1 := HG.out.2.cells.2.1
    by_cases hlt : j < N
    · have tlt : (j : Int) < (N : Int) := by omega
      have hgl : G.length = N := by have := congrArg List.length HM.out; rw [part_length] at this; simp at this; have := HN.out; omega
      obtain ⟨x, hx⟩ : ∃ x, G[j]? = some x := ⟨_, List.getElem?_eq_getElem (by omega)⟩
      obtain ⟨y, hy⟩ : ∃ y, F[j]? = some y := ⟨_, List.getElem?_eq_getElem (by have := HN.out; omega)⟩
      have hxy : x.1 = y.1 := by
        have := congrArg (·[j]?) HM.out
        simp only [List.getElem?_map, hx, part_get, hy] at this
        simpa using this
      have hdy := HD.out y (List.mem_of_getElem? hy)
      rw [← hxy] at hdy
      have HXY := hideR (And.intro hy hxy)
      clear hy hxy
      obtain ⟨g, c, ee, m0, m1, m2, fz⟩ := HG.out.2.at hx
      simp only [Value.slice.injEq] at ee
      obtain ⟨rfl, q1, rfl⟩ := ee
      obtain ⟨da, dc, ed, hi⟩ := (HG.out.2.own x (List.mem_of_getElem? hx)).shape
      rw [ed] at m1
      have HXX := hideR (And.intro hx ed)
      have HI := hideR hi
      obtain ⟨U, hU⟩ : ∃ U, U = x.1.data.length - x.1.safe := ⟨_, rfl⟩
      have wu : IntKind.i64.wrap ((x.1.data.length : Int) - (x.1.safe : Int)) = (U : Int) := by rw [IntKind.wrap_i64]; omega
      have wu1 : IntKind.i64.wrap ((U : Int) + 1) = (U : Int) + 1 := by rw [IntKind.wrap_i64]; omega
      have HU := hideR hU
      clear q1 hx ed hi fz hU hgl
      by_cases hjk : j < keep.length
      · have tjk : (j : Int) < (keep.length : Int) := by omega
        obtain ⟨x0, hx0⟩ : ∃ x0, keep[j]? = some x0 := ⟨_, List.getElem?_eq_getElem hjk⟩
        have hgd : keep.getD j 0 = x0 := by simp [List.getD, hx0]
        have hxr := HKP.out.1.2.2.1 x0 (List.mem_of_getElem? hx0)
        rcases HKP.out.1.2.2.2 with h0 | ⟨b, o, eka, hbw, hcell⟩
        · rw [h0] at hjk; simp at hjk
        have y0 : wr.cell? ⟨b, o + j, none⟩ = some (.int .i64 x0) := HG.out.1.cell (fun e => HKP.out.2 b o eka (fun h0 => by rw [h0] at hjk; simp at hjk) e) (hcell j x0 hx0)
        subst eka
        clear hx0 hcell hbw
        obtain ⟨R, hR⟩ : ∃ R, R = kept x.1 (keep.getD j 0) := ⟨_, rfl⟩
        by_cases hneg : x0 < 0
        · have wn1 : IntKind.i64.wrap (x0 + 1) = x0 + 1 := by rw [IntKind.wrap_i64]; omega
          obtain ⟨X, hX⟩ : ∃ X : Int, X = -(x0 + 1) := ⟨_, rfl⟩
          have wn2 : IntKind.i64.wrap (-(x0 + 1)) = X := by rw [IntKind.wrap_i64]; omega
          have hX0 : 0 ≤ X := by omega
          have HXR : HidR (X.tmod ((U : Int) + 1) = (R : Int)) := ⟨by
            rw [hR, hgd, kept, if_pos hneg, ← hX, ← HU.out, Int.tmod_eq_emod_of_nonneg hX0]
            exact (Int.toNat_of_nonneg (Int.emod_nonneg _ (by omega))).symm⟩
          have HRK := hideR hR
          clear hX hR hgd hxr
          go_upto_region 8 with fail
          clear y0 wn1 wn2
          clear k1
          have k1 := HG.out.2.cells.2.1
          have hrem : X.tmod ((U : Int) + 1) = (R : Int) := HXR.out
          have hr0 : ¬ (U : Int) + 1 = 0 := by omega
          go_upto_region 9 with fail
          go_quiet (fail)
          generalize hwq : wr.drewN _ = wq
          have BQ : HidR (Below wr.heap.size wr wq) := ⟨by rw [← hwq]; exact ⟨rfl, rfl, rfl, Nat.le_refl _, fun _ _ => rfl⟩⟩
          have H1 := hideR (HG.out.2.later BQ.out)
          clear hwq m0 m1 m2 k1
          obtain ⟨g2, c2, ee, _, m1, m2, fz2⟩ := H1.out.at HXX.out.1
          simp only [Value.slice.injEq, Option.some.injEq, Addr.mk.injEq, and_true] at ee
          obtain ⟨rfl, qq⟩ := ee
          clear qq
          rw [HXX.out.2] at m1
          have f2 := fz2 (j * 3 + 2)
          have f1 := fz2 (j * 3 + 1)
          clear fz2
          obtain ⟨Z, hZ⟩ : ∃ Z, Z = x.1.safe + R := ⟨_, rfl⟩
          have hRU : R ≤ U := by rw [HRK.out, HU.out]; exact kept_few _ _
          have hZl : Z ≤ x.1.data.length := by have := HU.out; omega
          have wa : IntKind.i64.wrap ((x.1.safe : Int) + (R : Int)) = (Z : Int) := by rw [IntKind.wrap_i64]; omega
          have HZ := hideR hZ
          clear hZ
          have P2 := hideR ((H1.out.later (Below.refl _ wq).drew).put (i := j) (k := 2) (z := ((⟨x.1.num, x.1.data, Z⟩ : Fl), x.2)) HXX.out.1 (v := .int .i64 (Z : Int)) (by omega) rfl ((H1.out.later (Below.refl _ wq).drew).own x (List.mem_of_getElem? HXX.out.1)))
          go_upto_region 10 with fail
          go_cut [6] from 46 to 57 (fun s6 wx => s6 = .pointer (some ⟨g, j * 3, none⟩) ∧ HidR (Kept (fun b => b = g) wr wx ∧ RfAt wx B rb q (.slice (some ⟨g, 0, none⟩) N fc) (G.set j ((⟨x.1.num, x.1.data, Z⟩ : Fl), x.2))))
          case first =>
            clear m1 f1 wu hX0 hRU hZl
            go_region
            all_goals (
              go_wp2_with fail
              go_meet
              exact ⟨rfl, ⟨(Kept.ofBelow BQ.out).trans (Kept.mono (P := fun b => b = g) ⟨P2.out.2.os, P2.out.2.tape, P2.out.2.output, P2.out.2.size, P2.out.2.block⟩ (fun _ _ h => h)), P2.out.1⟩⟩)
          case rest =>
            obtain ⟨rfl, H2⟩ := hcut
            clear P2 H1 m1 m2 f1 f2 BQ
            have hgs : (G.set j ((⟨x.1.num, x.1.data, Z⟩ : Fl), x.2))[j]? = some ((⟨x.1.num, x.1.data, Z⟩ : Fl), x.2) := List.getElem?_set_self (List.getElem?_eq_some_iff.1 HXX.out.1).1
            obtain ⟨g3, c3, ee, _, m1, m2, fz3⟩ := H2.out.2.at hgs
            simp only [Value.slice.injEq, Option.some.injEq, Addr.mk.injEq, and_true] at ee
            obtain ⟨rfl, qq⟩ := ee
            clear qq
            simp only [] at m1 m2
            rw [HXX.out.2] at m1
            have f1 := fz3 (j * 3 + 1)
            have ic : (Z : Int) ≤ (dc : Int) := by have := HI.out.1; omega
            have CO : HidR (∀ Y, Below wc.heap.size wc Y → Calls Try.prog 55 #[.slice da Z dc] Y fun e w' => Below Y.heap.size Y w' ∧ ∃ v, e = .returned v ∧ Own w' Y.heap.size v (x.1.data.take Z)) := ⟨fun Y hY => by
              have hib : IsBytes Y da dc (x.1.data.take Z) := by
                obtain ⟨a9, c9, e9, i9⟩ := (H2.out.2.own _ (List.mem_of_getElem? hgs)).shape
                simp only [] at e9 i9
                rw [HXX.out.2] at e9
                simp only [Value.slice.injEq, true_and] at e9
                obtain ⟨rfl, rfl⟩ := e9
                exact (i9.below hY).takeR Z
              have := own_any11 Y da dc (x.1.data.take Z) hib (by rw [List.length_take]; omega)
              rw [List.length_take, Nat.min_eq_left hZl] at this
              exact this⟩
            have HGS := hideR hgs
            have hzc := H2.out.1.size
            have hzr := HG.out.1.size
            have HZL := hideR hZl
            clear hgs hrem hr0 wu wu1 wa hX0 hRU hdy hZl
            go_wp2_with fail
            go_region_law (first
              | (go_simp
                 go_at_call 55
                 refine (CO.out _ (by first | exact (Below.refl _ wc).drew | exact Below.refl _ wc)).mono ?_
                 rintro e w5 ⟨b5, v5, rfl, hv5⟩
                 obtain ⟨va, vc, ev, _⟩ := hv5.shape
                 rw [List.length_take, Nat.min_eq_left HZL.out] at ev
                 subst ev
                 have B5 : HidR (Below wc.heap.size wc w5) := ⟨⟨b5.os, b5.tape, b5.output, b5.size, b5.block⟩⟩
                 have V5 : HidR (Own w5 wc.heap.size (.slice va Z vc) (x.1.data.take Z)) := ⟨hv5⟩
                 have H5 := hideR (H2.out.2.later B5.out)
                 obtain ⟨g5, c5, ee5, _, n1, _, fz5⟩ := H5.out.at HGS.out
                 simp only [Value.slice.injEq, Option.some.injEq, Addr.mk.injEq, and_true] at ee5
                 obtain ⟨rfl, qq⟩ := ee5
                 clear qq
                 have f15 := fz5 (j * 3 + 1)
                 have P5 := hideR (H5.out.put (k := 1) (z := ((⟨x.1.num, x.1.data.take Z, Z⟩ : Fl), .slice va Z vc)) HGS.out (v := .slice va Z vc) (by omega) rfl (V5.out.mono (by omega)))
                 clear b5 hv5 fz5))
            all_goals (
              go_wp2_with fail
              go_roundg (N - (j + 1))
              case measure => omega
              case rel =>
                refine ⟨j + 1, G.set j ((⟨x.1.num, x.1.data.take Z, Z⟩ : Fl), .slice va Z vc), by go_num, Nat.le_refl _, hlt, ⟨((HG.out.1.trans (H2.out.1.mono (fun b _ e => by rw [e]; rfl))).trans (Kept.ofBelow B5.out)).trans (P5.out.2.mono (fun b _ e => by rw [e]; rfl)), ?_⟩, ⟨?_⟩, ⟨HO.out.set j _ (fun g e => by have := (V5.out.lt g e).1; omega)⟩⟩
                · have := P5.out.1
                  rw [List.set_set] at this
                  exact this
                · rw [List.map_set, HM.out, part_set keep (F.map (·.1)) j x.1 (by rw [List.getElem?_map, HXY.out.1, HXY.out.2]; rfl)]
                  show _ = (part keep (F.map (·.1)) j).set j (crashed x.1 (keep.getD j 0))
                  rw [crashed, ← HRK.out, ← HZ.out])
        · obtain ⟨X, hX⟩ : ∃ X : Int, X = x0 := ⟨_, rfl⟩
          have hX0 : 0 ≤ X := by omega
          have HXR : HidR (X.tmod ((U : Int) + 1) = (R : Int)) := ⟨by
            rw [hR, hgd, kept, if_neg hneg, ← hX, ← HU.out, Int.tmod_eq_emod_of_nonneg hX0]
            exact (Int.toNat_of_nonneg (Int.emod_nonneg _ (by omega))).symm⟩
          have HRK := hideR hR
          rw [← hX] at y0 hneg
          clear hX hR hgd hxr
          go_upto_region 8 with fail
          clear y0
          clear k1
          have k1 := HG.out.2.cells.2.1
          have hrem : X.tmod ((U : Int) + 1) = (R : Int) := HXR.out
          have hr0 : ¬ (U : Int) + 1 = 0 := by omega
          go_upto_region 9 with fail
          go_quiet (fail)
          generalize hwq : wr.drewN _ = wq
          have BQ : HidR (Below wr.heap.size wr wq) := ⟨by rw [← hwq]; exact ⟨rfl, rfl, rfl, Nat.le_refl _, fun _ _ => rfl⟩⟩
          have H1 := hideR (HG.out.2.later BQ.out)
          clear hwq m0 m1 m2 k1
          obtain ⟨g2, c2, ee, _, m1, m2, fz2⟩ := H1.out.at HXX.out.1
          simp only [Value.slice.injEq, Option.some.injEq, Addr.mk.injEq, and_true] at ee
          obtain ⟨rfl, qq⟩ := ee
          clear qq
          rw [HXX.out.2] at m1
          have f2 := fz2 (j * 3 + 2)
          have f1 := fz2 (j * 3 + 1)
          clear fz2
          obtain ⟨Z, hZ⟩ : ∃ Z, Z = x.1.safe + R := ⟨_, rfl⟩
          have hRU : R ≤ U := by rw [HRK.out, HU.out]; exact kept_few _ _
          have hZl : Z ≤ x.1.data.length := by have := HU.out; omega
          have wa : IntKind.i64.wrap ((x.1.safe : Int) + (R : Int)) = (Z : Int) := by rw [IntKind.wrap_i64]; omega
          have HZ := hideR hZ
          clear hZ
          have P2 := hideR ((H1.out.later (Below.refl _ wq).drew).put (i := j) (k := 2) (z := ((⟨x.1.num, x.1.data, Z⟩ : Fl), x.2)) HXX.out.1 (v := .int .i64 (Z : Int)) (by omega) rfl ((H1.out.later (Below.refl _ wq).drew).own x (List.mem_of_getElem? HXX.out.1)))
          go_upto_region 10 with fail
          go_cut [6] from 46 to 57 (fun s6 wx => s6 = .pointer (some ⟨g, j * 3, none⟩) ∧ HidR (Kept (fun b => b = g) wr wx ∧ RfAt wx B rb q (.slice (some ⟨g, 0, none⟩) N fc) (G.set j ((⟨x.1.num, x.1.data, Z⟩ : Fl), x.2))))
          case first =>
            clear m1 f1 wu hX0 hRU hZl
            go_region
            all_goals (
              go_wp2_with fail
              go_meet
              exact ⟨rfl, ⟨(Kept.ofBelow BQ.out).trans (Kept.mono (P := fun b => b = g) ⟨P2.out.2.os, P2.out.2.tape, P2.out.2.output, P2.out.2.size, P2.out.2.block⟩ (fun _ _ h => h)), P2.out.1⟩⟩)
          case rest =>
            obtain ⟨rfl, H2⟩ := hcut
            clear P2 H1 m1 m2 f1 f2 BQ
            have hgs : (G.set j ((⟨x.1.num, x.1.data, Z⟩ : Fl), x.2))[j]? = some ((⟨x.1.num, x.1.data, Z⟩ : Fl), x.2) := List.getElem?_set_self (List.getElem?_eq_some_iff.1 HXX.out.1).1
            obtain ⟨g3, c3, ee, _, m1, m2, fz3⟩ := H2.out.2.at hgs
            simp only [Value.slice.injEq, Option.some.injEq, Addr.mk.injEq, and_true] at ee
            obtain ⟨rfl, qq⟩ := ee
            clear qq
            simp only [] at m1 m2
            rw [HXX.out.2] at m1
            have f1 := fz3 (j * 3 + 1)
            have ic : (Z : Int) ≤ (dc : Int) := by have := HI.out.1; omega
            have CO : HidR (∀ Y, Below wc.heap.size wc Y → Calls Try.prog 55 #[.slice da Z dc] Y fun e w' => Below Y.heap.size Y w' ∧ ∃ v, e = .returned v ∧ Own w' Y.heap.size v (x.1.data.take Z)) := ⟨fun Y hY => by
              have hib : IsBytes Y da dc (x.1.data.take Z) := by
                obtain ⟨a9, c9, e9, i9⟩ := (H2.out.2.own _ (List.mem_of_getElem? hgs)).shape
                simp only [] at e9 i9
                rw [HXX.out.2] at e9
                simp only [Value.slice.injEq, true_and] at e9
                obtain ⟨rfl, rfl⟩ := e9
                exact (i9.below hY).takeR Z
              have := own_any11 Y da dc (x.1.data.take Z) hib (by rw [List.length_take]; omega)
              rw [List.length_take, Nat.min_eq_left hZl] at this
              exact this⟩
            have HGS := hideR hgs
            have hzc := H2.out.1.size
            have hzr := HG.out.1.size
            have HZL := hideR hZl
            clear hgs hrem hr0 wu wu1 wa hX0 hRU hdy hZl
            go_wp2_with fail
            go_region_law (first
              | (go_simp
                 go_at_call 55
                 refine (CO.out _ (by first | exact (Below.refl _ wc).drew | exact Below.refl _ wc)).mono ?_
                 rintro e w5 ⟨b5, v5, rfl, hv5⟩
                 obtain ⟨va, vc, ev, _⟩ := hv5.shape
                 rw [List.length_take, Nat.min_eq_left HZL.out] at ev
                 subst ev
                 have B5 : HidR (Below wc.heap.size wc w5) := ⟨⟨b5.os, b5.tape, b5.output, b5.size, b5.block⟩⟩
                 have V5 : HidR (Own w5 wc.heap.size (.slice va Z vc) (x.1.data.take Z)) := ⟨hv5⟩
                 have H5 := hideR (H2.out.2.later B5.out)
                 obtain ⟨g5, c5, ee5, _, n1, _, fz5⟩ := H5.out.at HGS.out
                 simp only [Value.slice.injEq, Option.some.injEq, Addr.mk.injEq, and_true] at ee5
                 obtain ⟨rfl, qq⟩ := ee5
                 clear qq
                 have f15 := fz5 (j * 3 + 1)
                 have P5 := hideR (H5.out.put (k := 1) (z := ((⟨x.1.num, x.1.data.take Z, Z⟩ : Fl), .slice va Z vc)) HGS.out (v := .slice va Z vc) (by omega) rfl (V5.out.mono (by omega)))
                 clear b5 hv5 fz5))
            all_goals (
              go_wp2_with fail
              go_roundg (N - (j + 1))
              case measure => omega
              case rel =>
                refine ⟨j + 1, G.set j ((⟨x.1.num, x.1.data.take Z, Z⟩ : Fl), .slice va Z vc), by go_num, Nat.le_refl _, hlt, ⟨((HG.out.1.trans (H2.out.1.mono (fun b _ e => by rw [e]; rfl))).trans (Kept.ofBelow B5.out)).trans (P5.out.2.mono (fun b _ e => by rw [e]; rfl)), ?_⟩, ⟨?_⟩, ⟨HO.out.set j _ (fun g e => by have := (V5.out.lt g e).1; omega)⟩⟩
                · have := P5.out.1
                  rw [List.set_set] at this
                  exact this
                · rw [List.map_set, HM.out, part_set keep (F.map (·.1)) j x.1 (by rw [List.getElem?_map, HXY.out.1, HXY.out.2]; rfl)]
                  show _ = (part keep (F.map (·.1)) j).set j (crashed x.1 (keep.getD j 0))
                  rw [crashed, ← HRK.out, ← HZ.out])
      · have tjk : ¬ (j : Int) < (keep.length : Int) := by omega
        obtain ⟨R, hR⟩ : ∃ R, R = kept x.1 (keep.getD j 0) := ⟨_, rfl⟩
        go_upto_region 8 with fail
        obtain ⟨X, hX⟩ : ∃ X : Int, X = 0 := ⟨_, rfl⟩
        have HXR : HidR (X.tmod ((U : Int) + 1) = (R : Int)) := ⟨by rw [hX, hR, kept, getD_none (by omega)]; simp⟩
        have hX0 : 0 ≤ X := by omega
        rw [← hX]
        have HRK := hideR hR
        clear hX hR
        clear k1
        have k1 := HG.out.2.cells.2.1
        have hrem : X.tmod ((U : Int) + 1) = (R : Int) := HXR.out
        have hr0 : ¬ (U : Int) + 1 = 0 := by omega
        go_upto_region 9 with fail
        go_quiet (fail)
        generalize hwq : wr.drewN _ = wq
        have BQ : HidR (Below wr.heap.size wr wq) := ⟨by rw [← hwq]; exact ⟨rfl, rfl, rfl, Nat.le_refl _, fun _ _ => rfl⟩⟩
        have H1 := hideR (HG.out.2.later BQ.out)
        clear hwq m0 m1 m2 k1
        obtain ⟨g2, c2, ee, _, m1, m2, fz2⟩ := H1.out.at HXX.out.1
        simp only [Value.slice.injEq, Option.some.injEq, Addr.mk.injEq, and_true] at ee
        obtain ⟨rfl, qq⟩ := ee
        clear qq
        rw [HXX.out.2] at m1
        have f2 := fz2 (j * 3 + 2)
        have f1 := fz2 (j * 3 + 1)
        clear fz2
        obtain ⟨Z, hZ⟩ : ∃ Z, Z = x.1.safe + R := ⟨_, rfl⟩
        have hRU : R ≤ U := by rw [HRK.out, HU.out]; exact kept_few _ _
        have hZl : Z ≤ x.1.data.length := by have := HU.out; omega
        have wa : IntKind.i64.wrap ((x.1.safe : Int) + (R : Int)) = (Z : Int) := by rw [IntKind.wrap_i64]; omega
        have HZ := hideR hZ
        clear hZ
        have P2 := hideR ((H1.out.later (Below.refl _ wq).drew).put (i := j) (k := 2) (z := ((⟨x.1.num, x.1.data, Z⟩ : Fl), x.2)) HXX.out.1 (v := .int .i64 (Z : Int)) (by omega) rfl ((H1.out.later (Below.refl _ wq).drew).own x (List.mem_of_getElem? HXX.out.1)))
        go_upto_region 10 with fail
        go_cut [6] from 46 to 57 (fun s6 wx => s6 = .pointer (some ⟨g, j * 3, none⟩) ∧ HidR (Kept (fun b => b = g) wr wx ∧ RfAt wx B rb q (.slice (some ⟨g, 0, none⟩) N fc) (G.set j ((⟨x.1.num, x.1.data, Z⟩ : Fl), x.2))))
        case first =>
          clear m1 f1 wu hX0 hRU hZl
          go_region
          all_goals (
            go_wp2_with fail
            go_meet
            exact ⟨rfl, ⟨(Kept.ofBelow BQ.out).trans (Kept.mono (P := fun b => b = g) ⟨P2.out.2.os, P2.out.2.tape, P2.out.2.output, P2.out.2.size, P2.out.2.block⟩ (fun _ _ h => h)), P2.out.1⟩⟩)
        case rest =>
          obtain ⟨rfl, H2⟩ := hcut
          clear P2 H1 m1 m2 f1 f2 BQ
          have hgs : (G.set j ((⟨x.1.num, x.1.data, Z⟩ : Fl), x.2))[j]? = some ((⟨x.1.num, x.1.data, Z⟩ : Fl), x.2) := List.getElem?_set_self (List.getElem?_eq_some_iff.1 HXX.out.1).1
          obtain ⟨g3, c3, ee, _, m1, m2, fz3⟩ := H2.out.2.at hgs
          simp only [Value.slice.injEq, Option.some.injEq, Addr.mk.injEq, and_true] at ee
          obtain ⟨rfl, qq⟩ := ee
          clear qq
          simp only [] at m1 m2
          rw [HXX.out.2] at m1
          have f1 := fz3 (j * 3 + 1)
          have ic : (Z : Int) ≤ (dc : Int) := by have := HI.out.1; omega
          have CO : HidR (∀ Y, Below wc.heap.size wc Y → Calls Try.prog 55 #[.slice da Z dc] Y fun e w' => Below Y.heap.size Y w' ∧ ∃ v, e = .returned v ∧ Own w' Y.heap.size v (x.1.data.take Z)) := ⟨fun Y hY => by
            have hib : IsBytes Y da dc (x.1.data.take Z) := by
              obtain ⟨a9, c9, e9, i9⟩ := (H2.out.2.own _ (List.mem_of_getElem? hgs)).shape
              simp only [] at e9 i9
              rw [HXX.out.2] at e9
              simp only [Value.slice.injEq, true_and] at e9
              obtain ⟨rfl, rfl⟩ := e9
              exact (i9.below hY).takeR Z
            have := own_any11 Y da dc (x.1.data.take Z) hib (by rw [List.length_take]; omega)
            rw [List.length_take, Nat.min_eq_left hZl] at this
            exact this⟩
          have HGS := hideR hgs
          have hzc := H2.out.1.size
          have hzr := HG.out.1.size
          have HZL := hideR hZl
          clear hgs hrem hr0 wu wu1 wa hX0 hRU hdy hZl
          go_wp2_with fail
          go_region_law (first
            | (go_simp
               go_at_call 55
               refine (CO.out _ (by first | exact (Below.refl _ wc).drew | exact Below.refl _ wc)).mono ?_
               rintro e w5 ⟨b5, v5, rfl, hv5⟩
               obtain ⟨va, vc, ev, _⟩ := hv5.shape
               rw [List.length_take, Nat.min_eq_left HZL.out] at ev
               subst ev
               have B5 : HidR (Below wc.heap.size wc w5) := ⟨⟨b5.os, b5.tape, b5.output, b5.size, b5.block⟩⟩
               have V5 : HidR (Own w5 wc.heap.size (.slice va Z vc) (x.1.data.take Z)) := ⟨hv5⟩
               have H5 := hideR (H2.out.2.later B5.out)
               obtain ⟨g5, c5, ee5, _, n1, _, fz5⟩ := H5.out.at HGS.out
               simp only [Value.slice.injEq, Option.some.injEq, Addr.mk.injEq, and_true] at ee5
               obtain ⟨rfl, qq⟩ := ee5
               clear qq
               have f15 := fz5 (j * 3 + 1)
               have P5 := hideR (H5.out.put (k := 1) (z := ((⟨x.1.num, x.1.data.take Z, Z⟩ : Fl), .slice va Z vc)) HGS.out (v := .slice va Z vc) (by omega) rfl (V5.out.mono (by omega)))
               clear b5 hv5 fz5))
          all_goals (
            go_wp2_with fail
            go_roundg (N - (j + 1))
            case measure => omega
            case rel =>
              refine ⟨j + 1, G.set j ((⟨x.1.num, x.1.data.take Z, Z⟩ : Fl), .slice va Z vc), by go_num, Nat.le_refl _, hlt, ⟨((HG.out.1.trans (H2.out.1.mono (fun b _ e => by rw [e]; rfl))).trans (Kept.ofBelow B5.out)).trans (P5.out.2.mono (fun b _ e => by rw [e]; rfl)), ?_⟩, ⟨?_⟩, ⟨HO.out.set j _ (fun g e => by have := (V5.out.lt g e).1; omega)⟩⟩
              · have := P5.out.1
                rw [List.set_set] at this
                exact this
              · rw [List.map_set, HM.out, part_set keep (F.map (·.1)) j x.1 (by rw [List.getElem?_map, HXY.out.1, HXY.out.2]; rfl)]
                show _ = (part keep (F.map (·.1)) j).set j (crashed x.1 (keep.getD j 0))
                rw [crashed, ← HRK.out, ← HZ.out])
    · have tlt : ¬ (j : Int) < (N : Int) := by omega
      go_wp2_with fail
      go_end0
      exact ⟨rfl, HG.out.1, G, HG.out.2, by rw [HM.out, crash, List.length_map, show j = F.length by have := HN.out; omega], HO.out⟩
end Go.Proofs.Ytnpofjeiamjioaa
