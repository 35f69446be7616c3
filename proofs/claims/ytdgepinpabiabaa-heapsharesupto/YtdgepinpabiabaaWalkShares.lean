/-
  The walk of HeapShares.
-/
import Derived.Test.YtdgepinpabiabaaMembers
import Derived.Test.YtdgepinpabiabaaCloneB
import Derived.Test.YtdgepinpabiabaaSmallCB
import Derived.Test.YtdgepinpabiabaaLighter
import Derived.Test.YtdgepinpabiabaaAppend
import Derived.Test.YtdgepinpabiabaaBase
import Derived.Test.YtdgepinpabiabaaShown
namespace Go.Proofs.Ytdgepinpabiabaa.heapShares
open Go.RowKit

theorem box_not_nil_in (w : World) (d : Nat) (p : Addr) : (Op.equalIn (d + 1) 70 (.pointer (some p)) (.pointer none)).run Try.prog w = .ok false w := by
  simp [Op.equalIn, run_underlying Try.underlying70]
theorem box_not_nil (w : World) (p : Addr) : (binOp .eql 70 (.pointer (some p)) (.pointer none)).run Try.prog w = .ok (.bool false) w := by
  simp only [binOp]
  simp [show Op.equal 70 (.pointer (some p)) (.pointer none) = Op.equalIn (9999 + 1) 70 (.pointer (some p)) (.pointer none) from rfl, box_not_nil_in w 9999 p]
theorem ptr_same_in (w : World) (d : Nat) (p : Addr) : (Op.equalIn (d + 1) 72 (.pointer (some p)) (.pointer (some p))).run Try.prog w = .ok true w := by
  simp [Op.equalIn, run_underlying Try.underlying72, sameAddr]
theorem ptr_same (w : World) (p : Addr) : (binOp .neq 72 (.pointer (some p)) (.pointer (some p))).run Try.prog w = .ok (.bool false) w := by
  simp only [binOp]
  simp [show Op.equal 72 (.pointer (some p)) (.pointer (some p)) = Op.equalIn (9999 + 1) 72 (.pointer (some p)) (.pointer (some p)) from rfl, ptr_same_in w 9999 p]
theorem info_int : (Try.prog.info? 3).map (fun i => (i.zero, i.size, i.bytes)) = some (some (.int .i64 0), 1, 8) := by kernel_rfl

/-- What the heap holds of the row. -/
structure BInv (ab k : Nat) (R : List (Int × Addr)) : Prop where
  len : R.length = k
  of : ∀ r ∈ R, 1 ≤ r.1 ∧ r.1 ≤ k ∧ r.2 = ⟨ab, (r.1 - 1).toNat, none⟩
  all : ∀ t : Nat, 1 ≤ t → t ≤ k → ∃ r ∈ R, r.1 = t
theorem BInv.push {ab k : Nat} {R : List (Int × Addr)} (h : BInv ab k R) (lt : Addr → Addr → Bool) (n : Nat) : BInv ab (k + 1) (riseL lt R.length (R ++ [((k : Int) + 1, ⟨ab, k, none⟩)]) R.length n).1 := by
  refine ⟨by rw [riseL_length, List.length_append, h.len]; rfl, fun r hr => ?_, fun t h1 h2 => ?_⟩
  · rcases List.mem_append.1 ((mem_rise _ _ _ _).1 hr) with hr | hr
    · obtain ⟨a, b, c⟩ := h.of r hr
      exact ⟨a, by omega, c⟩
    · simp at hr; subst hr
      refine ⟨by simp only []; omega, by simp only []; omega, ?_⟩
      simp only []
      rw [show ((k : Int) + 1 - 1).toNat = k by omega]
  · by_cases ht : t = k + 1
    · exact ⟨((k : Int) + 1, ⟨ab, k, none⟩), (mem_rise _ _ _ _).2 (by simp), by rw [ht]; simp⟩
    · obtain ⟨r, hr, e⟩ := h.all t h1 (by omega)
      exact ⟨r, (mem_rise _ _ _ _).2 (List.mem_append_left _ hr), e⟩
theorem BInv.get {ab k : Nat} {R : List (Int × Addr)} (h : BInv ab k R) {i : Nat} (hi : i < k) : getOfB R ((i : Int) + 1) = .tuple #[.agg #[.pointer (some ⟨ab, i, none⟩)], .bool true] := by
  obtain ⟨r, hr, e⟩ := h.all (i + 1) (by omega) (by omega)
  unfold getOfB
  cases hf : R.find? (fun r => r.1 = (i : Int) + 1) with
  | none =>
    have := List.find?_eq_none.1 hf r hr
    simp at this
    omega
  | some x =>
    have h1 := List.find?_some hf
    have h2 := (h.of x (List.mem_of_find?_eq_some hf)).2.2
    have h3 : x.1 = (i : Int) + 1 := by simpa using h1
    simp only [valB]
    rw [h2, h3, show ((i : Int) + 1 - 1).toNat = i by omega]

theorem ints_src {w : World} {b : Option Addr} {c : Nat} {zs : List Int} (h : IsInts w b c zs) : (b = none ∧ zs.length = 0) ∨ ∃ p, b = some p ∧ ∀ j u, (zs.map (Value.int .i64))[j]? = some u → w.cell? (p.add j) = some u := by
  obtain ⟨_, _, _, h3⟩ := h
  rcases h3 with rfl | ⟨b', o, rfl, _, hc⟩
  · cases b with
    | none => exact .inl ⟨rfl, rfl⟩
    | some p => exact .inr ⟨p, rfl, fun j u hj => by simp at hj⟩
  · refine .inr ⟨_, rfl, fun j u hj => ?_⟩
    rw [List.getElem?_map] at hj
    obtain ⟨x, hx, rfl⟩ := Option.map_eq_some_iff.1 hj
    have := hc j x hx
    cases j with
    | zero => simpa [Addr.add] using this
    | succ j => simpa [Addr.add] using this

theorem row_all {wa : World} {B ab : Nat} {aa : Option Addr} {ca : Nat} {zs : List Int} (h : wa.ownsRow B 3 1 (.slice aa zs.length ca) zs.length (zs.map (Value.int .i64))) (hat : (Value.slice aa zs.length ca).ownBlock = none ∨ (Value.slice aa zs.length ca).ownBlock = some ab) :
    rowIs ab zs wa ∧ (zs.length ≠ 0 → aa = some ⟨ab, 0, none⟩ ∧ ARow wa ab zs.length) := by
  rcases h.2 with ⟨h0, h1⟩ | ⟨g, cap, cur, hv, hB, hg, h1, h2, h3, h4⟩
  · have : zs = [] := List.eq_nil_of_length_eq_zero h1
    subst this
    exact ⟨⟨fun i x hx => by simp at hx, fun hne => absurd rfl hne⟩, fun hne => absurd rfl hne⟩
  · simp only [Value.slice.injEq] at hv
    obtain ⟨rfl, _, rfl⟩ := hv
    have hga : g = ab := by
      rcases hat with e | e
      · cases e
      · exact Option.some.inj e
    subst hga
    refine ⟨⟨fun i x hx => ?_, fun _ => ⟨cur, hg, by omega⟩⟩, fun _ => ⟨rfl, cur, hg, by omega⟩⟩
    have := h.cells (g := g) rfl i (.int .i64 x) (by rw [List.getElem?_map, hx]; rfl)
    cases i with
    | zero => simpa [Addr.add] using this
    | succ i => simpa [Addr.add] using this

set_option maxHeartbeats 8000000 in
set_option maxRecDepth 1000000 in
theorem walk (b : Option Addr) (capb : Nat) (zs : List Int) (to : Int) (w : World) (hz : IsInts w b capb zs ∧ (b = none → capb = 0)) (_ : -9223372036854775808 ≤ to ∧ to ≤ 9223372036854775807) (hm : zs.length ≤ 1048576) :
    Calls Try.prog 7 #[.slice b zs.length capb, .int .i64 to] w fun e w' => e = .returned (.bool true) ∧ Below w.heap.size w w' := by
  have hnn := fun w p => box_not_nil w p
  have hpp := fun w p => ptr_same w p
  have HZ : Hid (IsInts w b capb zs) := hz.1
  clear hz
  obtain ⟨i0, hi, hz0, hz1, hz2⟩ := info_parts info_int
  go_enter Try.func7, Try.ntmps7
  go_wp2_with fail
  refine (shown_any _).mono ?_
  rintro e w1 ⟨rfl, B1⟩
  have HB1 : Hid (Below w.heap.size w w1) := B1
  clear B1
  go_wp2_with fail
  refine (newB w1 35 #[]).mono ?_
  rintro e w2 ⟨hb, mb, rfl, h2, B2, g1, g2⟩
  have HH2 : Hid (HeapAtB w2 hb (.slice none 0 0) mb 35 #[] 0 []) := h2
  have HB2 : Hid (Below w.heap.size w w2) := HB1.out.trans (B2.mono HB1.out.size)
  have HM : Hid (w.heap.size ≤ hb ∧ w.heap.size ≤ mb) := ⟨Nat.le_trans HB1.out.size g1, Nat.le_trans HB1.out.size g2⟩
  have HS2 : Hid ((b = none ∧ zs.length = 0) ∨ ∃ p, b = some p ∧ ∀ j u, (zs.map (Value.int .i64))[j]? = some u → w2.cell? (p.add j) = some u) := by
    have hB := HB2.out
    refine ints_src (c := capb) ⟨HZ.out.1, HZ.out.2.1, HZ.out.2.2.1, ?_⟩
    rcases HZ.out.2.2.2 with h | ⟨b', o, h1, h2, h3⟩
    · exact .inl h
    · exact .inr ⟨b', o, h1, Nat.lt_of_lt_of_le h2 hB.size, fun j x hj => (hB.cell (p := ⟨b', o + j, none⟩) h2).trans (h3 j x hj)⟩
  have ho1 : ∀ u ∈ zs.map (Value.int .i64), u.oneCell' = true := fun u hu => by simp at hu; obtain ⟨x, _, rfl⟩ := hu; rfl
  have HO1 : Hid (∀ u ∈ zs.map (Value.int .i64), u.oneCell' = true) := ho1
  have hb1 : 0 + zs.length ≤ maxLen := by unfold maxLen; omega
  have hb2 : (0 + zs.length) * i0.bytes ≤ 140737488355328 := by rw [hz2]; omega
  clear h2 B2 g1 g2 ho1
  go_wp2_with (at_builtin; refine wpList_append_keeps rfl _ _ 44 rfl w2.heap.size 3 i0 (.int .i64 0) Try.underlying44 hi hz0 hz1 rfl (.slice none 0 0) 0 [] rfl (World.ownsRow_nil _ _ _ _) b zs.length capb (zs.map (Value.int .i64)) rfl (by simp) HS2.out HO1.out hb1 hb2 (Nat.le_refl _) ?_; intro v1 wa hown hgr _ hat hnil; obtain ⟨aa, ca, hav⟩ := row_sliceB hown; rw [hav])
  obtain ⟨ab, hab⟩ : ∃ ab, ab = w2.heap.size := ⟨_, rfl⟩
  have HAB : Hid (ab = w2.heap.size) := hab
  rw [hav, Nat.zero_add, List.nil_append] at hown
  rw [hav, Nat.zero_add, ← hab] at hat
  have hra := row_all hown (hat.imp (fun e => e) (fun e => e))
  have HRI : Hid (rowIs ab zs wa) := hra.1
  have HAR : Hid (zs.length ≠ 0 → aa = some ⟨ab, 0, none⟩ ∧ ARow wa ab zs.length) := hra.2
  have hgn : w2.grownBy wa none := hgr
  have HHa : Hid (HeapAtB wa hb (.slice none 0 0) mb 35 #[] 0 []) := HH2.out.kept (Kept.ofGrown (P := fun _ => False) hgn (fun g e => by cases e)) (fun _ _ h => h)
  have HBa : Hid (Below w.heap.size w wa) := HB2.out.grown hgn HB2.out.size (fun k e => by cases e)
  have HABn : Hid (w.heap.size ≤ ab ∧ ¬ Mine hb (.slice none 0 0) mb ab) := ⟨by have := HB2.out.size; omega, fun h => by have := HH2.out.lt ab h; omega⟩
  clear hown hgr hat hnil hra hgn hab hav hb1 hb2 HH2 HB2 HS2 HAB HB1
  go_loopg [24] zs.length (fun gk s24 wr => ∃ (k : Nat) (v : Value) (R : List (Int × Addr)), s24 = .int .i64 (k : Int) ∧ k ≤ zs.length ∧ zs.length - k ≤ gk ∧ Hid (HeapAtB wr hb v mb 35 #[] (k : Int) R) ∧ Hid (BInv ab k R) ∧ Hid (rowIs ab zs wr) ∧ Hid (zs.length ≠ 0 → aa = some ⟨ab, 0, none⟩ ∧ ARow wr ab zs.length) ∧ Hid (Below w.heap.size w wr) ∧ Hid ((∀ x, Mine hb v mb x → w.heap.size ≤ x) ∧ ¬ Mine hb v mb ab ∧ ab < wr.heap.size ∨ zs.length = 0))
  case atStart =>
    refine ⟨0, .slice none 0 0, [], rfl, Nat.zero_le _, Nat.le_refl _, HHa, ⟨rfl, fun r hr => by simp at hr, fun t h1 h2 => by omega⟩, HRI, HAR, HBa, ?_⟩
    by_cases hz : zs.length = 0
    · exact .inr hz
    · refine .inl ⟨fun x hx => ?_, HABn.out.2, ?_⟩
      · rcases hx with rfl | hx | rfl
        · exact HM.out.1
        · cases hx
        · exact HM.out.2
      · obtain ⟨_, cur, hg, _⟩ := HAR.out hz
        exact (Array.getElem?_eq_some_iff.1 hg).1
  case round =>
    clear HHa HRI HAR HBa
    obtain ⟨k, v, R, rfl, hk, hgk, HH, HI, HRI, HAR, HB, HMi⟩ := hrel
    by_cases hkn : k < zs.length
    · have t1 : (k : Int) < (zs.length : Int) := by omega
      obtain ⟨rfl, har⟩ := HAR.out (by omega)
      have hmi : (∀ x, Mine hb v mb x → w.heap.size ≤ x) ∧ ¬ Mine hb v mb ab ∧ ab < wr.heap.size := HMi.out.resolve_right (by omega)
      have HMI : Hid ((∀ x, Mine hb v mb x → w.heap.size ≤ x) ∧ ¬ Mine hb v mb ab ∧ ab < wr.heap.size) := hmi
      have HARR : Hid (ARow wr ab zs.length) := har
      clear hmi har
      go_wp2_with fail
      refine (pushB (lighter_asks zs ab) wr hb mb v (k : Int) R ⟨ab, k, none⟩ 0 HH.out HRI.out (fun r hr => by
        obtain ⟨x1, x2, x3⟩ := HI.out.of r hr
        exact ⟨(r.1 - 1).toNat, by omega, x3⟩) ⟨k, hkn, rfl⟩ (fun y hy hF => by rw [hF.1] at hy; exact HMI.out.2.1 hy) (by rw [HI.out.len]; omega) (by omega) (by omega) (fun r hr => (HI.out.of r hr).2.1)).mono ?_
      rintro e wn ⟨rfl, v', h3, s3, k3, m3⟩
      have HH3 : Hid (HeapAtB wn hb v' mb 35 #[] ((k : Int) + 1) (riseL (lightB zs) R.length (R ++ [((k : Int) + 1, ⟨ab, k, none⟩)]) R.length 0).1) := h3
      have hsz := HB.out.size
      have HRI3 : Hid (rowIs ab zs wn) := s3
      have habw : w.heap.size ≤ ab := HABn.out.1
      have HB3 : Hid (Below w.heap.size w wn) := HB.out.trans (k3.below hsz (fun y hy hp => by
        rcases hp with hp | hp
        · exact absurd (HMI.out.1 y hp) (by omega)
        · have := hp.1; omega))
      have HAR3 : Hid (zs.length ≠ 0 → (some ⟨ab, 0, none⟩ : Option Addr) = some ⟨ab, 0, none⟩ ∧ ARow wn ab zs.length) := fun hne => ⟨rfl, s3.2 (fun e => hne (by rw [e]; rfl))⟩
      have HM3 : Hid ((∀ x, Mine hb v' mb x → w.heap.size ≤ x) ∧ ¬ Mine hb v' mb ab ∧ ab < wn.heap.size ∨ zs.length = 0) := .inl ⟨fun y hy => by
        rcases m3 y hy with h | h
        · exact HMI.out.1 y h
        · omega, fun hy => by
        rcases m3 ab hy with h | h
        · exact HMI.out.2.1 h
        · have := HMI.out.2.2; omega, Nat.lt_of_lt_of_le HMI.out.2.2 k3.size⟩
      clear h3 k3 m3 s3
      go_wp2_with fail
      go_roundg (zs.length - (k + 1))
      case measure => omega
      case rel =>
        refine ⟨k + 1, v', _, by go_num, by omega, Nat.le_refl _, ?_, HI.out.push (lightB zs) 0, HRI3, HAR3, HB3, HM3⟩
        have := HH3.out
        exact (show HeapAtB _ _ _ _ _ _ _ _ by simpa using this)
    · have t1 : ¬ (k : Int) < (zs.length : Int) := by omega
      obtain rfl : k = zs.length := by omega
      go_wp2_with fail
      refine (cloneB wr hb mb v _ _ _ R HH.out (by rw [HI.out.len]; omega)).mono ?_
      rintro e wc ⟨hc, vc, mc, rfl, hh, Bc, hmc⟩
      have HHc : Hid (HeapAtB wc hb v mb 35 #[] (zs.length : Int) R) := HH.out.kept (Kept.ofBelow (P := fun _ => False) Bc) (fun _ _ h => h)
      have HCc : Hid (HeapAtB wc hc vc mc 35 #[] (zs.length : Int) R) := hh
      have HBc : Hid (Below w.heap.size w wc) := HB.out.trans (Bc.mono HB.out.size)
      have HARc : Hid (zs.length ≠ 0 → aa = some ⟨ab, 0, none⟩ ∧ ARow wc ab zs.length ∧ ¬ Mine hb v mb ab ∧ ¬ Mine hc vc mc ab) := fun hne => by
        obtain ⟨h1, h2⟩ := HAR.out hne
        have hmi := HMi.out.resolve_right hne
        exact ⟨h1, h2.kept (Kept.ofBelow (P := fun _ => False) Bc) (fun h => h), hmi.2.1, fun h => by have := hmc ab h; have := hmi.2.2; omega⟩
      clear hh Bc hmc HH HRI HAR HB HMi
      go_wp2_with fail
      go_loopg [40] zs.length (fun gk s40 wr => ∃ k : Nat, s40 = .int .i64 (k : Int) ∧ k ≤ zs.length ∧ zs.length - k ≤ gk ∧ Hid (HeapAtB wr hb v mb 35 #[] (zs.length : Int) R ∧ HeapAtB wr hc vc mc 35 #[] (zs.length : Int) R) ∧ Hid (zs.length ≠ 0 → aa = some ⟨ab, 0, none⟩ ∧ ARow wr ab zs.length ∧ ¬ Mine hb v mb ab ∧ ¬ Mine hc vc mc ab) ∧ Hid (Below w.heap.size w wr))
      case atStart => exact ⟨0, rfl, Nat.zero_le _, Nat.le_refl _, ⟨HHc.out, HCc.out⟩, HARc, HBc⟩
      case round =>
        clear HHc HCc HARc HBc
        obtain ⟨k, rfl, hk, hgk, HH, HAR, HB⟩ := hrel
        by_cases hkn : k < zs.length
        · have t1 : (k : Int) < (zs.length : Int) := by omega
          obtain ⟨rfl, har, hn1, hn2⟩ := HAR.out (by omega)
          obtain ⟨u, cu⟩ := har.cell hkn
          have fu := har.frozen k
          obtain ⟨as1, as2⟩ := har.set k (.int .i64 to)
          have hkk := Kept.ofGrown (P := fun y => y = ab) as2 (fun g e => (Option.some.inj e).symm)
          have HH3 : Hid (HeapAtB (wr.setCell ⟨ab, k, none⟩ (.int .i64 to)) hb v mb 35 #[] (zs.length : Int) R ∧ HeapAtB (wr.setCell ⟨ab, k, none⟩ (.int .i64 to)) hc vc mc 35 #[] (zs.length : Int) R) := ⟨HH.out.1.kept hkk (fun x hx e => hn1 (e ▸ hx)), HH.out.2.kept hkk (fun x hx e => hn2 (e ▸ hx))⟩
          have HAR3 : Hid (zs.length ≠ 0 → (some ⟨ab, 0, none⟩ : Option Addr) = some ⟨ab, 0, none⟩ ∧ ARow (wr.setCell ⟨ab, k, none⟩ (.int .i64 to)) ab zs.length ∧ ¬ Mine hb v mb ab ∧ ¬ Mine hc vc mc ab) := fun _ => ⟨rfl, as1, hn1, hn2⟩
          have HB3 : Hid (Below w.heap.size w (wr.setCell ⟨ab, k, none⟩ (.int .i64 to))) := HB.out.grown as2 HB.out.size (fun g e => by have := Option.some.inj e; have := HABn.out.1; omega)
          clear har hn1 hn2 as1 as2 hkk
          go_wp2_with fail
          go_roundg (zs.length - (k + 1))
          case measure => omega
          case rel => exact ⟨k + 1, by go_num, by omega, Nat.le_refl _, HH3, HAR3, HB3⟩
        · have t1 : ¬ (k : Int) < (zs.length : Int) := by omega
          go_wp2_with fail
          go_loopg [50] zs.length (fun gk s50 wr => ∃ k : Nat, s50 = .int .i64 (k : Int) ∧ k ≤ zs.length ∧ zs.length - k ≤ gk ∧ Hid (HeapAtB wr hb v mb 35 #[] (zs.length : Int) R ∧ HeapAtB wr hc vc mc 35 #[] (zs.length : Int) R) ∧ Hid (Below w.heap.size w wr))
          case atStart => exact ⟨0, rfl, Nat.zero_le _, Nat.le_refl _, HH, HB⟩
          case round =>
            clear HH HB hgk
            obtain ⟨k, rfl, hk, hgk, HH, HB⟩ := hrel
            by_cases hkn : k < zs.length
            · have t1 : (k : Int) < (zs.length : Int) := by omega
              obtain ⟨rfl, _, _, _⟩ := HAR.out (by omega)
              have hwf : (Lit.int .i64 ((k : Int) + 1)).wf = true := WalkArith.wf_i64 (by omega)
              have HG := getB wr hb mb v _ _ _ R ((k : Int) + 1) HH.out.1 hwf
              rw [HI.out.get hkn] at HG
              have HGH : Hid (Calls Try.prog 38 #[.pointer (some ⟨hb, 0, none⟩), .int .i64 ((k : Int) + 1)] wr _) := HG
              clear HG
              go_wp2_with fail
              refine HGH.out.mono ?_
              rintro e w3 ⟨rfl, B3⟩
              have HH3 : Hid (HeapAtB w3 hb v mb 35 #[] (zs.length : Int) R ∧ HeapAtB w3 hc vc mc 35 #[] (zs.length : Int) R) := ⟨HH.out.1.kept (Kept.ofBelow (P := fun _ => False) B3) (fun _ _ h => h), HH.out.2.kept (Kept.ofBelow (P := fun _ => False) B3) (fun _ _ h => h)⟩
              have HB3 : Hid (Below w.heap.size w w3) := HB.out.trans (B3.mono HB.out.size)
              clear B3 HGH
              obtain ⟨wx, hwx⟩ : ∃ wx, wx = w3.alloc (.cells #[.pointer (some ⟨ab, k, none⟩)] 74) := ⟨_, rfl⟩
              have B4 : Below w3.heap.size w3 wx := by rw [hwx]; exact (Below.refl _ w3).alloc (Nat.le_refl _) _
              have hx0 : wx.cell? ⟨w3.heap.size, 0, none⟩ = some (.pointer (some ⟨ab, k, none⟩)) := by rw [hwx]; simp
              have HH4 : Hid (HeapAtB wx hb v mb 35 #[] (zs.length : Int) R ∧ HeapAtB wx hc vc mc 35 #[] (zs.length : Int) R) := ⟨HH3.out.1.kept (Kept.ofBelow (P := fun _ => False) B4) (fun _ _ h => h), HH3.out.2.kept (Kept.ofBelow (P := fun _ => False) B4) (fun _ _ h => h)⟩
              have HB4 : Hid (Below w.heap.size w wx) := HB3.out.trans (B4.mono HB3.out.size)
              have HX0 : Hid (wx.cell? ⟨w3.heap.size, 0, none⟩ = some (.pointer (some ⟨ab, k, none⟩))) := hx0
              have HG := getB wx hc mc vc _ _ _ R ((k : Int) + 1) HH4.out.2 hwf
              rw [HI.out.get hkn] at HG
              have HGH : Hid (Calls Try.prog 38 #[.pointer (some ⟨hc, 0, none⟩), .int .i64 ((k : Int) + 1)] wx _) := HG
              have HWX : Hid (wx = w3.alloc (.cells #[.pointer (some ⟨ab, k, none⟩)] 74)) := hwx
              obtain ⟨xb, hxb⟩ : ∃ xb, xb = w3.heap.size := ⟨_, rfl⟩
              have HXB : Hid (xb = w3.heap.size) := hxb
              clear HG B4 hx0 hwx hxb
              go_wp2_with fail
              rw [← HWX.out]
              refine HGH.out.mono ?_
              rintro e w5 ⟨rfl, B5⟩
              have HH5 : Hid (HeapAtB w5 hb v mb 35 #[] (zs.length : Int) R ∧ HeapAtB w5 hc vc mc 35 #[] (zs.length : Int) R) := ⟨HH4.out.1.kept (Kept.ofBelow (P := fun _ => False) B5) (fun _ _ h => h), HH4.out.2.kept (Kept.ofBelow (P := fun _ => False) B5) (fun _ _ h => h)⟩
              have HB5 : Hid (Below w.heap.size w w5) := HB4.out.trans (B5.mono HB4.out.size)
              have cx : w5.cell? ⟨w3.heap.size, 0, none⟩ = some (.pointer (some ⟨ab, k, none⟩)) := (B5.cell (p := ⟨w3.heap.size, 0, none⟩) (cell_lt HX0.out)).trans HX0.out
              have hlx : w3.heap.size < w5.heap.size := cell_lt cx
              clear B5 HGH HXB
              go_wp2_with fail
              go_quiet (fail)
              go_wp2_with fail
              go_roundg (zs.length - (k + 1))
              case measure => omega
              case rel =>
                have B6 : Below w5.heap.size w5 (w5.alloc (.cells #[.pointer (some ⟨ab, k, none⟩)] 74)) := (Below.refl _ w5).alloc (Nat.le_refl _) _
                refine ⟨k + 1, by go_num, by omega, Nat.le_refl _, ?_, ?_⟩
                · exact ⟨HH5.out.1.kept (P := fun _ => False) ⟨rfl, rfl, rfl, B6.size, fun k hk _ => B6.block k hk⟩ (fun _ _ h => h), HH5.out.2.kept (P := fun _ => False) ⟨rfl, rfl, rfl, B6.size, fun k hk _ => B6.block k hk⟩ (fun _ _ h => h)⟩
                · exact HB5.out.trans ⟨rfl, rfl, rfl, B6.size, fun k hk => B6.block k (Nat.lt_of_lt_of_le hk HB5.out.size)⟩
            · have t1 : ¬ (k : Int) < (zs.length : Int) := by omega
              have HLN := lenB wr hb mb v _ _ _ R HH.out.1
              have HLC := lenB wr hc mc vc _ _ _ R HH.out.2
              rw [HI.out.len] at HLN HLC
              have HLH : Hid (Calls Try.prog 39 #[.pointer (some ⟨hb, 0, none⟩)] wr _) := HLN
              have HLD : Hid (Calls Try.prog 39 #[.pointer (some ⟨hc, 0, none⟩)] wr _) := HLC
              clear HLN HLC
              go_wp2_with fail
              refine HLH.out.mono ?_
              rintro e w3 ⟨rfl, hW⟩
              have hW := hW.symm
              subst hW
              go_wp2_with fail
              refine HLD.out.mono ?_
              rintro e w4 ⟨rfl, hW⟩
              have hW := hW.symm
              subst hW
              go_wp2_with fail
              go_ret
              exact ⟨rfl, HB.out⟩
end Go.Proofs.Ytdgepinpabiabaa.heapShares
