/-
  The walk of HeapTexts.
-/
import Derived.Test.YtdgepinpabiabaaPlainTexts
import Derived.Test.YtdgepinpabiabaaDropS
import Derived.Test.YtdgepinpabiabaaPushS
import Derived.Test.YtdgepinpabiabaaAmong
import Derived.Test.YtdgepinpabiabaaBase
import Derived.Test.YtdgepinpabiabaaShown
namespace Go.Proofs.Ytdgepinpabiabaa.heapTexts
open Go.RowKit

theorem ptr_not_nil_in (w : World) (d : Nat) (p : Addr) : (Op.equalIn (d + 1) 45 (.pointer (some p)) (.pointer none)).run Try.prog w = .ok false w := by
  simp [Op.equalIn, run_underlying Try.underlying45]
theorem ptr_not_nil (w : World) (p : Addr) : (binOp .eql 45 (.pointer (some p)) (.pointer none)).run Try.prog w = .ok (.bool false) w := by
  simp only [binOp]
  simp [show Op.equal 45 (.pointer (some p)) (.pointer none) = Op.equalIn (9999 + 1) 45 (.pointer (some p)) (.pointer none) from rfl, ptr_not_nil_in w 9999 p]
theorem info_bool : (Try.prog.info? 4).map (fun i => (i.zero, i.size, i.bytes)) = some (some (.bool false), 1, 1) := by kernel_rfl

/-- The lines' cells. -/
def Texts (w : World) (a : Option Addr) (ss : List ByteArray) : Prop := ss = [] ∨ ∃ b o, a = some ⟨b, o, none⟩ ∧ b < w.heap.size ∧ ∀ (j : Nat) x, ss[j]? = some x → w.cell? ⟨b, o + j, none⟩ = some (.string x)
theorem Texts.below {w w' : World} {a : Option Addr} {ss : List ByteArray} (h : Texts w a ss) (hb : Below w.heap.size w w') : Texts w' a ss := by
  rcases h with h | ⟨b, o, h1, h2, h3⟩
  · exact .inl h
  · exact .inr ⟨b, o, h1, Nat.lt_of_lt_of_le h2 hb.size, fun j x hj => (hb.cell (p := ⟨b, o + j, none⟩) h2).trans (h3 j x hj)⟩

/-- A block has just these bools, and may be written. -/
def GRow (w : World) (gb : Nat) (G : List Bool) : Prop := w.heap[gb]? = some (.cells (G.map Value.bool).toArray 4 (0, 0))
theorem GRow.lt {w : World} {gb : Nat} {G : List Bool} (h : GRow w gb G) : gb < w.heap.size := by
  have h : w.heap[gb]? = _ := h
  exact (Array.getElem?_eq_some_iff.1 h).1
theorem GRow.cell {w : World} {gb : Nat} {G : List Bool} (h : GRow w gb G) {t : Nat} {x : Bool} (hx : G[t]? = some x) : w.cell? ⟨gb, t, none⟩ = some (.bool x) := by
  have h : w.heap[gb]? = _ := h
  simp [World.cell?, h, hx]
theorem GRow.frozen {w : World} {gb : Nat} {G : List Bool} (h : GRow w gb G) (t : Nat) : w.frozen? ⟨gb, t, none⟩ = false := by
  have h : w.heap[gb]? = _ := h
  simp [World.frozen?, h]
theorem GRow.kept {P : Nat → Prop} {w w' : World} {gb : Nat} {G : List Bool} (h : GRow w gb G) (hk : Kept P w w') (hP : ¬ P gb) : GRow w' gb G := (hk.block gb h.lt hP).trans h
theorem GRow.set {w : World} {gb : Nat} {G : List Bool} (h : GRow w gb G) (t : Nat) (x : Bool) : GRow (w.setCell ⟨gb, t, none⟩ (.bool x)) gb (G.set t x) ∧ w.grownBy (w.setCell ⟨gb, t, none⟩ (.bool x)) (some gb) := by
  obtain ⟨c1, c2⟩ := set_cells h t (.bool x)
  exact ⟨by unfold GRow; rw [c1]; simp [List.map_set], c2⟩
theorem GRow.made {w : World} {B gb n : Nat} (h : w.ownsRow B 4 1 (.slice (some ⟨gb, 0, none⟩) n n) n (madeCells (Value.bool false).cells (n * 1)).toList) : GRow w gb (List.replicate n false) := by
  rcases h.2 with ⟨h0, _⟩ | ⟨g, cap, cur, hv, _, hg, _, _, hsz, htk⟩
  · cases h0
  · simp only [Value.slice.injEq, Option.some.injEq, Addr.mk.injEq] at hv
    obtain ⟨⟨rfl, _⟩, _, rfl⟩ := hv
    have e : cur = (List.replicate n (Value.bool false)).toArray := by
      apply Array.ext'
      rw [List.take_of_length_le (by simp; omega)] at htk
      rw [htk, show (Value.bool false).cells = #[Value.bool false] from rfl, toList_madeCells_one]
      simp
    unfold GRow
    rw [hg, e]
    simp

set_option maxHeartbeats 8000000 in
set_option maxRecDepth 1000000 in
theorem walk (a : Option Addr) (cap : Nat) (ss : List ByteArray) (b : Option Addr) (capb : Nat) (zs : List Int) (w : World) (hs : IsStrs w a cap ss ∧ (a = none → cap = 0)) (hz : IsInts w b capb zs ∧ (b = none → capb = 0)) (hn : ss.length ≤ 1048576) (hm : zs.length ≤ 1048576) :
    Calls Try.prog 4 #[.slice a ss.length cap, .slice b zs.length capb] w fun e w' => e = .returned (.bool true) ∧ Below w.heap.size w w' := by
  have hnn := fun w p => ptr_not_nil w p
  have HT : Hid (Texts w a ss) := hs.1.2.2.2
  have HZ : Hid (IsInts w b capb zs) := hz.1
  clear hs hz
  obtain ⟨i0, hi, hz0, hz1, hz2⟩ := info_parts info_bool
  go_enter Try.func4, Try.ntmps4
  go_wp2_with fail
  refine (shown_any _).mono ?_
  rintro e w1 ⟨rfl, B1⟩
  have HB1 : Hid (Below w.heap.size w w1) := B1
  clear B1
  go_wp2_with fail
  refine (newS w1 17 #[]).mono ?_
  rintro e w2 ⟨hb, mb, rfl, h2, B2, g1, g2⟩
  have HH2 : Hid (HeapAtS w2 hb (.slice none 0 0) mb 17 #[] 0 []) := h2
  have HB2 : Hid (Below w.heap.size w w2) := HB1.out.trans (B2.mono HB1.out.size)
  have HM : Hid (w.heap.size ≤ hb ∧ w.heap.size ≤ mb) := ⟨Nat.le_trans HB1.out.size g1, Nat.le_trans HB1.out.size g2⟩
  clear h2 B2 g1 g2
  go_wp2_with fail
  go_loopg [30] ss.length (fun gk s30 wr => ∃ (k : Nat) (v : Value) (R : List (Int × ByteArray)), s30 = .int .i64 (k : Int) ∧ k ≤ ss.length ∧ ss.length - k ≤ gk ∧ Hid (HeapAtS wr hb v mb 17 #[] (k : Int) R) ∧ Hid (R.length = k) ∧ Hid (TInv ss k (List.replicate (ss.length + 1) false) R) ∧ Hid (Below w.heap.size w wr) ∧ Hid (∀ x, Mine hb v mb x → w.heap.size ≤ x))
  case atStart =>
    refine ⟨0, .slice none 0 0, [], rfl, Nat.zero_le _, Nat.le_refl _, HH2, (show _ = _ from rfl), TInv.none _ _, HB2, fun x hx => ?_⟩
    rcases hx with rfl | hx | rfl
    · exact HM.out.1
    · cases hx
    · exact HM.out.2
  case round =>
    obtain ⟨k, v, R, rfl, hk, hgk, HH, HL, HI, HB, HMi⟩ := hrel
    by_cases hkn : k < ss.length
    · have t1 : (k : Int) < (ss.length : Int) := by omega
      obtain ⟨x, hx⟩ : ∃ x, ss[k]? = some x := ⟨_, List.getElem?_eq_getElem hkn⟩
      have HX : Hid (ss[k]? = some x) := hx
      obtain ⟨bt, ot, rfl, hbt, hct⟩ : ∃ b o, a = some ⟨b, o, none⟩ ∧ b < w.heap.size ∧ ∀ (j : Nat) x, ss[j]? = some x → w.cell? ⟨b, o + j, none⟩ = some (.string x) := by
        rcases HT.out with h | h
        · rw [h] at hx; simp at hx
        · exact h
      have cx : wr.cell? ⟨bt, ot + k, none⟩ = some (.string x) := (HB.out.cell (p := ⟨bt, ot + k, none⟩) hbt).trans (hct k x hx)
      clear hx hct hbt
      go_wp2_with fail
      refine (pushS shorter_asks wr hb mb v (k : Int) R x 0 HH.out trivial (fun _ _ => trivial) trivial (fun _ _ h => h) (by rw [HL.out]; omega) (by omega) (by omega) (fun r hr => (HI.out.of r hr).2.1)).mono ?_
      rintro e wn ⟨rfl, v', h3, _, k3, m3⟩
      have HH3 : Hid (HeapAtS wn hb v' mb 17 #[] ((k : Int) + 1) (riseL shortB R.length (R ++ [((k : Int) + 1, x)]) R.length 0).1) := h3
      have hsz := HB.out.size
      have HB3 : Hid (Below w.heap.size w wn) := HB.out.trans (k3.below hsz (fun y hy hp => by rcases hp with hp | hp; exact absurd (HMi.out y hp) (by omega); exact hp))
      have HM3 : Hid (∀ x, Mine hb v' mb x → w.heap.size ≤ x) := fun y hy => by
        rcases m3 y hy with h | h
        · exact HMi.out y h
        · omega
      clear h3 k3 m3 cx
      go_wp2_with fail
      go_roundg (ss.length - (k + 1))
      case measure => omega
      case rel =>
        refine ⟨k + 1, v', _, by go_num, by omega, Nat.le_refl _, ?_, ?_, HI.out.push HX.out 0, HB3, HM3⟩
        · have := HH3.out
          exact (show HeapAtS _ _ _ _ _ _ _ _ by simpa using this)
        · show _ = _
          rw [riseL_length, List.length_append, HL.out]; rfl
    · have t1 : ¬ (k : Int) < (ss.length : Int) := by omega
      obtain rfl : k = ss.length := by omega
      obtain ⟨gb, hgb⟩ : ∃ gb, gb = wr.heap.size := ⟨_, rfl⟩
      have HNM : Hid (¬ Mine hb v mb gb) := fun h => by have := HH.out.lt gb h; omega
      have hb2 : i0.bytes * (ss.length + 1) ≤ 281474976710656 := by rw [hz2]; omega
      have hb3 : ss.length + 1 ≤ maxLen := by unfold maxLen; omega
      have hbs := HB.out.size
      have HGb : Hid (gb = wr.heap.size) := hgb
      clear hgb
      go_wp2_with (at_make; refine wpList_make_full _ rfl _ _ 49 rfl wr.heap.size 4 i0 (.bool false) 1 Try.underlying49 hi hz0 hz1 .i64 .i64 _ _ (ss.length + 1) rfl rfl (by simp) (by simp) hb2 hb3 (Nat.le_refl _) ?_; intro wg hown hgr; rw [← HGb.out])
      have HGR : Hid (GRow wg gb (List.replicate (ss.length + 1) false)) := by rw [← HGb.out] at hown; exact GRow.made hown
      have HHg : Hid (HeapAtS wg hb v mb 17 #[] (ss.length : Int) R) := HH.out.kept (Kept.ofGrown (P := fun _ => False) hgr (fun g e => by cases e)) (fun _ _ h => h)
      have HBg : Hid (Below w.heap.size w wg) := HB.out.grown hgr hbs (fun k e => by cases e)
      have HGB : Hid (w.heap.size ≤ gb) := (show _ ≤ _ by have := HGb.out; omega)
      have HLg : Hid (R.length = ss.length) := HL
      clear hown hgr hb2 hb3 HH HB HL HGb
      go_loopg [9, 50] zs.length (fun gk s9 s50 wr => ∃ (k : Nat) (v : Value) (R : List (Int × ByteArray)) (G : List Bool), s50 = .int .i64 (k : Int) ∧ s9 = .int .i64 (R.length : Int) ∧ k ≤ zs.length ∧ R.length ≤ 1048576 ∧ zs.length - k ≤ gk ∧ Hid (HeapAtS wr hb v mb 17 #[] (ss.length : Int) R) ∧ Hid (TInv ss ss.length G R) ∧ Hid (Below w.heap.size w wr) ∧ Hid (∀ x, Mine hb v mb x → w.heap.size ≤ x) ∧ Hid (GRow wr gb G ∧ G.length = ss.length + 1 ∧ ¬ Mine hb v mb gb))
      case atStart => exact ⟨0, v, R, _, rfl, by rw [HLg.out], Nat.zero_le _, by rw [HLg.out]; exact hn, Nat.le_refl _, HHg, HI, HBg, HMi, HGR.out, by simp, HNM.out⟩
      case round =>
        clear HHg HI HBg HMi HGR HLg HNM
        obtain ⟨k, v, R, G, rfl, rfl, hk, hRl, hgk, HH, HI, HB, HMi, HG⟩ := hrel
        by_cases hkn : k < zs.length
        · have t1 : (k : Int) < (zs.length : Int) := by omega
          obtain ⟨z, hzk⟩ : ∃ x, zs[k]? = some x := ⟨_, List.getElem?_eq_getElem hkn⟩
          obtain ⟨bz, oz, rfl, hbz, hcz⟩ : ∃ b' o, b = some ⟨b', o, none⟩ ∧ b' < w.heap.size ∧ ∀ (j : Nat) x, zs[j]? = some x → w.cell? ⟨b', o + j, none⟩ = some (.int .i64 x) := by
            rcases HZ.out.2.2.2 with h | h
            · rw [h] at hzk; simp at hzk
            · exact h
          have cz : wr.cell? ⟨bz, oz + k, none⟩ = some (.int .i64 z) := (HB.out.cell (p := ⟨bz, oz + k, none⟩) hbz).trans (hcz k z hzk)
          obtain ⟨t, ht, htn⟩ : ∃ t : Nat, amongI z ((ss.length : Int) + 2) = (t : Int) ∧ t ≤ ss.length + 1 := by
            have := among_range (i := z) (n := (ss.length : Int) + 2) (by omega)
            exact ⟨(amongI z ((ss.length : Int) + 2)).toNat, by omega, by omega⟩
          have HC := among_any z ((ss.length : Int) + 2) wr ⟨by omega, by omega⟩
          rw [ht] at HC
          have HCH : Hid (Calls Try.prog 19 #[.int .i64 z, .int .i64 ((ss.length : Int) + 2)] wr fun e w' => e = .returned (.int .i64 (t : Int)) ∧ w' = wr) := HC
          have hwt : (Lit.int .i64 (t : Int)).wf = true := WalkArith.wf_i64 (by omega)
          clear hzk hcz hbz HC ht
          go_wp2_with fail
          refine HCH.out.mono ?_
          rintro e w3 ⟨rfl, hW⟩
          have hW := hW.symm
          subst hW
          clear HCH cz
          cases hf : R.find? (fun r => r.1 = (t : Int)) with
          | none =>
            have HN : Hid (∀ r ∈ R, r.1 ≠ (t : Int)) := fun r hr e => by have := List.find?_eq_none.1 hf r hr; simp [e] at this
            go_wp2_with fail
            refine (removeS_no wr hb mb v (ss.length : Int) R (t : Int) HH.out hwt hf).mono ?_
            rintro e w4 ⟨rfl, B4⟩
            have HH4 : Hid (HeapAtS w4 hb v mb 17 #[] (ss.length : Int) R) := HH.out.kept (Kept.ofBelow (P := fun _ => False) B4) (fun _ _ h => h)
            have HB4 : Hid (Below w.heap.size w w4) := HB.out.trans (B4.mono HB.out.size)
            have HG4 : Hid (GRow w4 gb G ∧ G.length = ss.length + 1 ∧ ¬ Mine hb v mb gb) := ⟨HG.out.1.kept (Kept.ofBelow (P := fun _ => False) B4) (fun h => h), HG.out.2⟩
            clear B4 hf
            by_cases h0 : t = 0
            · subst h0
              go_wp2_with fail
              go_roundg (zs.length - (k + 1))
              case measure => omega
              case rel => exact ⟨k + 1, v, R, G, by go_num, rfl, by omega, hRl, Nat.le_refl _, HH4, HI, HB4, HMi, HG4⟩
            · by_cases h1 : t = ss.length + 1
              · have q1 : (1 : Int) ≤ (t : Int) := by omega
                have q2 : ¬ (t : Int) ≤ (ss.length : Int) := by omega
                go_wp2_with fail
                go_roundg (zs.length - (k + 1))
                case measure => omega
                case rel => exact ⟨k + 1, v, R, G, by go_num, rfl, by omega, hRl, Nat.le_refl _, HH4, HI, HB4, HMi, HG4⟩
              · have q1 : (1 : Int) ≤ (t : Int) := by omega
                have q2 : (t : Int) ≤ (ss.length : Int) := by omega
                have q3 : (t : Int) < (ss.length : Int) + 1 := by omega
                have gt : G[t]? = some true := by
                  have hl := HG4.out.2.1
                  cases hg : G[t]? with
                  | none => have := List.getElem?_eq_none_iff.1 hg; omega
                  | some x =>
                    cases x with
                    | true => rfl
                    | false =>
                      obtain ⟨r, hr, e⟩ := HI.out.all t (by omega) (by omega) hg
                      exact absurd e (HN.out r hr)
                have cg := HG4.out.1.cell gt
                clear gt
                go_wp2_with fail
                go_roundg (zs.length - (k + 1))
                case measure => omega
                case rel => exact ⟨k + 1, v, R, G, by go_num, rfl, by omega, hRl, Nat.le_refl _, HH4, HI, HB4, HMi, HG4⟩
          | some r =>
            have hmem := List.mem_of_find?_eq_some hf
            have hr1 : r.1 = (t : Int) := by simpa using List.find?_some hf
            obtain ⟨i, hi⟩ := List.mem_iff_getElem?.1 hmem
            obtain ⟨o1, o2, o3, o4⟩ := HI.out.of r hmem
            obtain ⟨u, hu⟩ : ∃ u, t = u + 1 := ⟨t - 1, by omega⟩
            rw [hr1, show ((t : Int) - 1).toNat = u by omega] at o3
            rw [hr1, show (t : Int).toNat = t by omega] at o4
            have HC := removeS shorter_asks wr hb mb v (ss.length : Int) R i 0 r HH.out hi trivial (fun _ _ => trivial) (fun _ _ h => h) (by omega)
            rw [hr1] at HC
            unfold valS at HC
            have HCH : Hid (Calls Try.prog 20 #[.pointer (some ⟨hb, 0, none⟩), .int .i64 (t : Int)] wr _) := HC
            have HR : Hid (R[i]? = some r ∧ r.1 = (t : Int)) := ⟨hi, hr1⟩
            have q1 : (1 : Int) ≤ (t : Int) := by omega
            have q2 : (t : Int) ≤ (ss.length : Int) := by omega
            have q3 : (t : Int) < (ss.length : Int) + 1 := by omega
            have q4 : (u : Int) < (ss.length : Int) := by omega
            have q5 : (t : Int) - 1 = (u : Int) := by omega
            obtain ⟨bt, ot, rfl, hbt, hct⟩ : ∃ b o, a = some ⟨b, o, none⟩ ∧ b < w.heap.size ∧ ∀ (j : Nat) x, ss[j]? = some x → w.cell? ⟨b, o + j, none⟩ = some (.string x) := by
              rcases HT.out with h | h
              · rw [h] at o3; simp at o3
              · exact h
            have HCT : Hid (bt < w.heap.size ∧ w.cell? ⟨bt, ot + u, none⟩ = some (.string r.2)) := ⟨hbt, hct u _ o3⟩
            have HO4 : Hid (G[t]? = some false) := o4
            have HONE : Hid (Once R) := by obtain ⟨g, _, hs⟩ := HH.out.tab; exact hs.once
            have HRL : Hid (i < R.length) := (List.getElem?_eq_some_iff.1 hi).1
            obtain ⟨r1, s1⟩ := r
            clear HC hf hmem hr1 hi o1 o2 o3 o4 hct hbt hu
            go_wp2_with fail
            refine HCH.out.mono ?_
            rintro e w4 ⟨rfl, v', h4, _, k4, hv4⟩
            have hMv : ∀ x, Mine hb v' mb x → Mine hb v mb x := fun x hx => by unfold Mine at hx ⊢; rw [hv4] at hx; exact hx
            have HB4 : Hid (Below w.heap.size w w4) := HB.out.trans (k4.below HB.out.size (fun y hy hp => by rcases hp with hp | hp; exact absurd (HMi.out y hp) (by omega); exact hp))
            have HG4 : Hid (GRow w4 gb G ∧ G.length = ss.length + 1 ∧ ¬ Mine hb v' mb gb) := ⟨HG.out.1.kept k4 (fun h => by rcases h with h | h; exact HG.out.2.2 h; exact h), HG.out.2.1, fun h => HG.out.2.2 (hMv gb h)⟩
            have HH4 : Hid (HeapAtS w4 hb v' mb 17 #[] (ss.length : Int) (dropL shortB R i 0).1) := h4
            have HM4 : Hid (∀ x, Mine hb v' mb x → w.heap.size ≤ x) := fun x hx => HMi.out x (hMv x hx)
            have cg := HG4.out.1.cell HO4.out
            have fg := HG4.out.1.frozen t
            have ct : w4.cell? ⟨bt, ot + u, none⟩ = some (.string s1) := (HB4.out.cell (p := ⟨bt, ot + u, none⟩) HCT.out.1).trans HCT.out.2
            clear h4 k4 hv4 hMv
            go_wp2_with fail
            go_roundg (zs.length - (k + 1))
            case measure => omega
            case rel =>
              obtain ⟨gs1, gs2⟩ := HG4.out.1.set t true
              have hrt : r1.toNat = t := by have h9 : r1 = (t : Int) := HR.out.2; omega
              have hdl := drop_length (lt := shortB) (R := R) (p := i) (n := 0)
              have hri := HRL.out
              refine ⟨k + 1, v', (dropL shortB R i 0).1, G.set t true, by go_num, ?_, by omega, by omega, Nat.le_refl _, ?_, ?_, ?_, HM4, gs1, by simpa using HG4.out.2.1, HG4.out.2.2⟩
              · rw [hdl]; congr 1; omega
              · exact HH4.out.kept (Kept.ofGrown (P := fun k => k = gb) gs2 (fun g e => (Option.some.inj e).symm)) (fun x hx e => HG4.out.2.2 (e ▸ hx))
              · have := HI.out.drop HONE.out HR.out.1 0
                simp only [hrt] at this
                exact this
              · exact HB4.out.grown gs2 HB4.out.size (fun g e => by have := Option.some.inj e; have := HGB.out; omega)
        · have t1 : ¬ (k : Int) < (zs.length : Int) := by omega
          clear hgk
          go_wp2_with fail
          go_loopg [9, 15, 16] R.length (fun gk s9 s15 s16 wr => ∃ (v : Value) (R : List (Int × ByteArray)) (G : List Bool) (la zi : Int), s9 = .int .i64 (R.length : Int) ∧ s15 = .int .i64 la ∧ s16 = .int .i64 zi ∧ R.length ≤ 1048576 ∧ R.length ≤ gk ∧ Hid (HeapAtS wr hb v mb 17 #[] (ss.length : Int) R) ∧ Hid (TInv ss ss.length G R) ∧ Hid (Below w.heap.size w wr) ∧ Hid (∀ x, Mine hb v mb x → w.heap.size ≤ x) ∧ Hid (GRow wr gb G ∧ G.length = ss.length + 1 ∧ ¬ Mine hb v mb gb) ∧ Hid (∀ x ∈ R, zi < sz x.2 ∨ (zi = sz x.2 ∧ la < x.1)))
          case atStart => exact ⟨v, R, G, 0, -1, rfl, rfl, rfl, hRl, Nat.le_refl _, HH, HI, HB, HMi, HG, fun x _ => .inl (by unfold sz; omega)⟩
          case round =>
            clear HH HI HB HMi HG
            obtain ⟨v, R, G, la, zi, rfl, rfl, rfl, hRl, hgk, HH, HI, HB, HMi, HG, HO⟩ := hrel
            cases R with
            | nil =>
              go_wp2_with fail
              refine (lenS wr hb mb v _ _ _ [] HH.out).mono ?_
              rintro e w3 ⟨rfl, hW⟩
              have hW := hW.symm
              subst hW
              go_wp2_with fail
              refine (popS shorter_asks wr hb mb v (ss.length : Int) [] 0 HH.out trivial (fun _ _ => trivial) (fun _ _ h => h) (by simp)).mono ?_
              rintro e w4 ⟨rfl, v', _, _, k4, _⟩
              have HB4 : Hid (Below w.heap.size w w4) := HB.out.trans (k4.below HB.out.size (fun y hy hp => by rcases hp with hp | hp; exact absurd (HMi.out y hp) (by omega); exact hp))
              clear k4
              unfold topOfS
              go_wp2_with fail
              go_ret
              exact ⟨rfl, HB4.out⟩
            | cons r R' =>
              obtain ⟨R, hR⟩ : ∃ R, R = r :: R' := ⟨_, rfl⟩
              have hr0 : R[0]? = some r := by rw [hR]; rfl
              have hRp : 0 < R.length := by rw [hR]; simp
              rw [← hR] at hRl hgk HH HI HO
              rw [← hR]
              obtain ⟨o1, o2, o3, o4⟩ := HI.out.of r (List.mem_of_getElem? hr0)
              obtain ⟨t, ht⟩ : ∃ t : Nat, r.1 = (t : Int) := ⟨r.1.toNat, by omega⟩
              obtain ⟨u, hu⟩ : ∃ u, t = u + 1 := ⟨t - 1, by omega⟩
              rw [ht, show ((t : Int) - 1).toNat = u by omega] at o3
              rw [ht, show (t : Int).toNat = t by omega] at o4
              have HLN := lenS wr hb mb v _ _ _ R HH.out
              have HPP := popS shorter_asks wr hb mb v (ss.length : Int) R 0 HH.out trivial (fun _ _ => trivial) (fun _ _ h => h) (by omega)
              have htop : topOfS R = .tuple #[.int .i64 (t : Int), .string r.2, .bool true] := by unfold topOfS; rw [hr0]; simp only [ht, valS]
              have hpop : popL shortB R 0 = dropL shortB R 0 0 := by unfold popL; rw [if_neg (by omega)]
              rw [htop, hpop] at HPP
              have HPH : Hid (Calls Try.prog 22 #[.pointer (some ⟨hb, 0, none⟩)] wr _) := HPP
              have HLH : Hid (Calls Try.prog 21 #[.pointer (some ⟨hb, 0, none⟩)] wr _) := HLN
              obtain ⟨bt, ot, rfl, hbt, hct⟩ : ∃ b o, a = some ⟨b, o, none⟩ ∧ b < w.heap.size ∧ ∀ (j : Nat) x, ss[j]? = some x → w.cell? ⟨b, o + j, none⟩ = some (.string x) := by
                rcases HT.out with h | h
                · rw [h] at o3; simp at o3
                · exact h
              have HCT : Hid (bt < w.heap.size ∧ w.cell? ⟨bt, ot + u, none⟩ = some (.string r.2)) := ⟨hbt, hct u _ o3⟩
              have HO4 : Hid (G[t]? = some false) := o4
              have HONE : Hid (Once R) := by obtain ⟨g, _, hs⟩ := HH.out.tab; exact hs.once
              have HR : Hid (R[0]? = some r ∧ r.1 = (t : Int) ∧ 0 < R.length) := ⟨hr0, ht, hRp⟩
              have horder := HO.out r (List.mem_of_getElem? hr0)
              have q0 : (0 : Int) < (R.length : Int) := by omega
              have q1 : ¬ (t : Int) < (1 : Int) := by omega
              have q2 : ¬ (ss.length : Int) < (t : Int) := by omega
              have q3 : (t : Int) < (ss.length : Int) + 1 := by omega
              have q4 : (u : Int) < (ss.length : Int) := by omega
              have q5 : (t : Int) - 1 = (u : Int) := by omega
              obtain ⟨r1, s1⟩ := r
              have q6 : ¬ (s1.size : Int) < zi := by have := horder; unfold sz at this; simp only [] at this; omega
              have q7 : (s1.size : Int) = zi → ¬ (t : Int) < la := by intro e; have := horder; unfold sz at this; simp only [] at this ht; omega
              clear HPP HLN hr0 hRp o1 o2 o3 o4 hct hbt hu ht htop hpop hR horder
              go_wp2_with fail
              refine HLH.out.mono ?_
              rintro e w3 ⟨rfl, hW⟩
              have hW := hW.symm
              subst hW
              go_wp2_with fail
              refine HPH.out.mono ?_
              rintro e w4 ⟨rfl, v', h4, _, k4, hv4⟩
              have hMv : ∀ x, Mine hb v' mb x → Mine hb v mb x := fun x hx => by unfold Mine at hx ⊢; rw [hv4] at hx; exact hx
              have HB4 : Hid (Below w.heap.size w w4) := HB.out.trans (k4.below HB.out.size (fun y hy hp => by rcases hp with hp | hp; exact absurd (HMi.out y hp) (by omega); exact hp))
              have HG4 : Hid (GRow w4 gb G ∧ G.length = ss.length + 1 ∧ ¬ Mine hb v' mb gb) := ⟨HG.out.1.kept k4 (fun h => by rcases h with h | h; exact HG.out.2.2 h; exact h), HG.out.2.1, fun h => HG.out.2.2 (hMv gb h)⟩
              have HH4 : Hid (HeapAtS w4 hb v' mb 17 #[] (ss.length : Int) (dropL shortB R 0 0).1) := h4
              have HM4 : Hid (∀ x, Mine hb v' mb x → w.heap.size ≤ x) := fun x hx => HMi.out x (hMv x hx)
              have cg := HG4.out.1.cell HO4.out
              have fg := HG4.out.1.frozen t
              have ct : w4.cell? ⟨bt, ot + u, none⟩ = some (.string s1) := (HB4.out.cell (p := ⟨bt, ot + u, none⟩) HCT.out.1).trans HCT.out.2
              clear h4 k4 hv4 hMv HPH HLH
              by_cases q8 : (s1.size : Int) = zi
              · have q9 := q7 q8
                clear q7
                go_wp2_with fail
                go_roundg (dropL shortB R 0 0).1.length
                case measure =>
                  have hdl := drop_length (lt := shortB) (R := R) (p := 0) (n := 0)
                  have hri := HR.out.2.2
                  omega
                case rel =>
                  obtain ⟨gs1, gs2⟩ := HG4.out.1.set t true
                  have hrt : r1.toNat = t := by have h9 : r1 = (t : Int) := HR.out.2.1; omega
                  have hdl := drop_length (lt := shortB) (R := R) (p := 0) (n := 0)
                  have hri := HR.out.2.2
                  refine ⟨v', (dropL shortB R 0 0).1, G.set t true, (t : Int), (s1.size : Int), ?_, rfl, (by rw [q8]), by omega, Nat.le_refl _, ?_, ?_, ?_, HM4, ⟨gs1, by simpa using HG4.out.2.1, HG4.out.2.2⟩, ?_⟩
                  · rw [hdl]; congr 1; omega
                  · exact HH4.out.kept (Kept.ofGrown (P := fun k => k = gb) gs2 (fun g e => (Option.some.inj e).symm)) (fun x hx e => HG4.out.2.2 (e ▸ hx))
                  · have := HI.out.drop HONE.out HR.out.1 0
                    simp only [hrt] at this
                    exact this
                  · exact HB4.out.grown gs2 HB4.out.size (fun g e => by have := Option.some.inj e; have := HGB.out; omega)
                  · intro x hx
                    have h9 := HI.out.first HONE.out HR.out.1 0 x hx
                    have h8 : r1 = (t : Int) := HR.out.2.1
                    simp only [h8] at h9
                    exact h9
              · clear q7
                go_wp2_with fail
                go_roundg (dropL shortB R 0 0).1.length
                case measure =>
                  have hdl := drop_length (lt := shortB) (R := R) (p := 0) (n := 0)
                  have hri := HR.out.2.2
                  omega
                case rel =>
                  obtain ⟨gs1, gs2⟩ := HG4.out.1.set t true
                  have hrt : r1.toNat = t := by have h9 : r1 = (t : Int) := HR.out.2.1; omega
                  have hdl := drop_length (lt := shortB) (R := R) (p := 0) (n := 0)
                  have hri := HR.out.2.2
                  refine ⟨v', (dropL shortB R 0 0).1, G.set t true, (t : Int), (s1.size : Int), ?_, rfl, rfl, by omega, Nat.le_refl _, ?_, ?_, ?_, HM4, ⟨gs1, by simpa using HG4.out.2.1, HG4.out.2.2⟩, ?_⟩
                  · rw [hdl]; congr 1; omega
                  · exact HH4.out.kept (Kept.ofGrown (P := fun k => k = gb) gs2 (fun g e => (Option.some.inj e).symm)) (fun x hx e => HG4.out.2.2 (e ▸ hx))
                  · have := HI.out.drop HONE.out HR.out.1 0
                    simp only [hrt] at this
                    exact this
                  · exact HB4.out.grown gs2 HB4.out.size (fun g e => by have := Option.some.inj e; have := HGB.out; omega)
                  · intro x hx
                    have h9 := HI.out.first HONE.out HR.out.1 0 x hx
                    have h8 : r1 = (t : Int) := HR.out.2.1
                    simp only [h8] at h9
                    exact h9
end Go.Proofs.Ytdgepinpabiabaa.heapTexts
