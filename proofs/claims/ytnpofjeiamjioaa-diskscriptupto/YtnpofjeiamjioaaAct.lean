/-
  Acts1, Acts2, DoW.
-/
import Derived.Test.YtnpofjeiamjioaaSetW
import Derived.Deep.RegionHeld3
namespace Go.Proofs.Ytnpofjeiamjioaa
open Go.RowKit Go.Maps

theorem right_ins {q : Int} {L : List Fl} (h : Right q L) {f : Fl} (hs : f.safe ≤ f.data.length) (hn : 1 ≤ f.num ∧ f.num ≤ 1099511627776) (ht : (total L : Int) + f.data.length ≤ q + lenOf (look L f.num)) : Right q (ins L f) := by
  refine ⟨ins_rising h.rise f, fun x hx => ?_, h.quota, ?_⟩
  · rcases mem_ins hx with rfl | hx
    · exact ⟨hs, hn⟩
    · exact h.ok x hx
  · have := total_ins h.rise f
    omega
/-- A call on a disk: what it answers, what it makes of the files, what has turned. -/
def DoPost (w : World) (db mb : Nat) (q : Int) (L : List Fl) (vs : Int → Value) (r : Int × List Fl) (e : Ending) (w' : World) : Prop :=
  e = .returned (.int .i64 r.1) ∧ ∃ vs', DiskAt w' db mb q r.2 vs' ∧ Turned w w' db mb L vs r.2 vs'
theorem Turned.laid {w w1 w2 : World} {db mb : Nat} {L : List Fl} {vs : Int → Value} (hb : Turned w w1 db mb L vs L vs) (hr : Rising L) (hk : Kept (fun k => k = db ∨ k = mb) w1 w2) (f : Fl) (v : Value)
    (hv : ∀ k, v.ownBlock = some k → Mine db mb L vs k ∨ w.heap.size ≤ k) : Turned w w2 db mb L vs (ins L f) (upd vs f.num v) := by
  refine ⟨hb.kept.step hk (fun j _ e => ?_), fun k e => ?_⟩
  · rcases e with e | e
    · exact .inl e
    · exact .inr (.inl e)
  · rcases e with e | e | ⟨g, hg, e⟩
    · exact .inl (.inl e)
    · exact .inl (.inr (.inl e))
    · unfold upd at e
      rcases mem_ins_other hr hg with rfl | ⟨hg, hn⟩
      · rw [if_pos rfl] at e
        exact hv k e
      · rw [if_neg hn] at e
        exact .inl (.inr (.inr ⟨g, hg, e⟩))
/-- What a file is laid with: nothing of another file's. -/
theorem DiskAt.apart_old {w : World} {db mb : Nat} {q : Int} {L : List Fl} {vs : Int → Value} (h : DiskAt w db mb q L vs) {f : Fl} (hf : f ∈ L) {w0 : World} (hL : ∀ k, Mine db mb L vs k → k < w0.heap.size) {v : Value} (hv : v = vs f.num ∨ ∃ k, v.ownBlock = some k ∧ w0.heap.size ≤ k) :
    (∀ x ∈ L, x.num ≠ f.num → ∀ k, v.ownBlock = some k → (vs x.num).ownBlock ≠ some k) ∧ ∀ k, v.ownBlock = some k → Mine db mb L vs k ∨ w0.heap.size ≤ k := by
  rcases hv with rfl | ⟨g, e, hg⟩
  · exact ⟨fun x hx hn k e1 e2 => hn (h.apart x hx f hf k e2 e1), fun k e => .inl (.inr (.inr ⟨f, hf, e⟩))⟩
  · refine ⟨fun x hx _ k e1 e2 => ?_, fun k e1 => ?_⟩
    · have := hL k (.inr (.inr ⟨x, hx, e2⟩))
      rw [e] at e1
      cases e1
      omega
    · rw [e] at e1
      cases e1
      exact .inr hg

theorem slot_none {L : List Fl} {vs : Int → Value} {t : Int} (h : look L t = none) : slot L vs t = none := by simp [slot, h]
theorem slot_some {L : List Fl} {vs : Int → Value} {t : Int} {f : Fl} (h : look L t = some f) : slot L vs t = some (vs t, (f.safe : Int)) := by simp [slot, h]

set_option maxHeartbeats 1000000 in
set_option maxRecDepth 1000000 in
theorem create_any (w : World) (db mb : Nat) (q : Int) (L : List Fl) (vs : Int → Value) (h : DiskAt w db mb q L vs) (n : Int) :
    Calls Try.prog 44 #[.pointer (some ⟨db, 0, none⟩), .int .i64 n] w (DoPost w db mb q L vs (actCreate L n)) := by
  have HH : Hid (DiskAt w db mb q L vs) := h
  obtain ⟨_, _, k2⟩ := h.cell
  have hdl : db < w.heap.size := h.lt (.inl rfl)
  clear h
  by_cases hn : 1 ≤ n ∧ n ≤ 1099511627776
  · have hwf : (Lit.int .i64 n).wf = true := WalkArith.wf_i64 (by omega)
    have hwb : withinB n 1 1099511627776 = true := by simp [withinB, hn]
    cases hl : look L n with
    | some f =>
      have HA : Hid (actCreate L n = (112, L)) := by show _ = _; simp [actCreate, hn, hl]
      have hs : (slot L vs n).isSome = true := by rw [slot_some hl]; rfl
      obtain ⟨a0, c0, s0, hthere⟩ := HH.out.there n
      obtain ⟨n0, hn0⟩ : ∃ n0, n0 = lenOf (look L n) := ⟨_, rfl⟩
      rw [← hn0] at hthere
      clear hl hn0 hn
      go_enter Try.func44, Try.ntmps44
      go_wp2_with (first
        | (go_at_call 58; refine (within_any n 1 1099511627776 _).mono ?_; rintro e w1 ⟨rfl, hW⟩; have hW := hW.symm; subst hW; rw [hwb])
        | (at_lookup; refine wpList_flook rfl _ _ rfl mb L.length (slot L vs) n rfl rfl HH.out.tab hwf ?_; rw [hthere, hs]))
      go_ret
      rw [HA.out]
      have B : Below w.heap.size w (w.alloc (.cells #[.slice a0 n0 c0, .int .i64 s0] 87)) := (Below.refl _ w).alloc (Nat.le_refl _) _
      exact ⟨rfl, vs, HH.out.below B, Turned.ofBelow B⟩
    | none =>
      have HA : Hid (actCreate L n = (0, ins L ⟨n, [], 0⟩)) := by show _ = _; simp [actCreate, hn, hl]
      have hs : (slot L vs n).isSome = false := by rw [slot_none hl]; rfl
      have hthere : fileV ((slot L vs n).getD noFile) = .agg #[.slice none 0 0, .int .i64 0] := by rw [slot_none hl]; rfl
      have HR : Hid (Right q (ins L ⟨n, [], 0⟩)) := right_ins HH.out.right (Nat.le_refl _) hn (by have := HH.out.right.fits; simp; omega)
      obtain ⟨w1, hw1⟩ : ∃ w1, w1 = w.alloc (.cells #[.slice none 0 0, .int .i64 0] 87) := ⟨_, rfl⟩
      have B1 : Below w.heap.size w w1 := by rw [hw1]; exact (Below.refl _ w).alloc (Nat.le_refl _) _
      have HB : Hid (Below w.heap.size w w1) := B1
      clear hl hn B1
      go_enter Try.func44, Try.ntmps44
      go_wp2_with (first
        | (go_at_call 58; refine (within_any n 1 1099511627776 _).mono ?_; rintro e w1 ⟨rfl, hW⟩; have hW := hW.symm; subst hW; rw [hwb])
        | (at_lookup; refine wpList_flook rfl _ _ rfl mb L.length (slot L vs) n rfl rfl HH.out.tab hwf ?_; rw [hthere, hs])
        | (go_at_call 50
           rw [← hw1]
           refine (set_any w1 db mb q L vs (HH.out.below HB.out) ⟨n, [], 0⟩ (.slice none 0 0) (Own.nil _ _) (fun _ _ _ k e => by cases e) HR.out).mono ?_
           rintro e w2 ⟨rfl, d2, k2'⟩
           have H2 : Hid (DiskAt w2 db mb q (ins L ⟨n, [], 0⟩) (upd vs n (.slice none 0 0)) ∧ Kept (fun k => k = db ∨ k = mb) w1 w2) := ⟨d2, k2'⟩
           clear d2 k2'))
      go_ret
      rw [HA.out]
      exact ⟨rfl, _, H2.out.1, (Turned.ofBelow HB.out).laid HH.out.right.rise H2.out.2 ⟨n, [], 0⟩ (.slice none 0 0) (fun k e => by cases e)⟩
  · have hwb : withinB n 1 1099511627776 = false := by simp [withinB]; omega
    have HA : Hid (actCreate L n = (111, L)) := by show _ = _; rw [actCreate, if_neg hn]
    clear hn
    go_enter Try.func44, Try.ntmps44
    go_wp2_with (first
      | (go_at_call 58; refine (within_any n 1 1099511627776 _).mono ?_; rintro e w1 ⟨rfl, hW⟩; have hW := hW.symm; subst hW; rw [hwb]))
    go_ret
    rw [HA.out]
    exact ⟨rfl, vs, HH.out, Turned.refl _ _ _ _ _⟩

/-- A file that is there: its value in the map, as the walk sees it. -/
theorem DiskAt.is {w : World} {db mb : Nat} {q : Int} {L : List Fl} {vs : Int → Value} (h : DiskAt w db mb q L vs) {t : Int} {f : Fl} (hl : look L t = some f) :
    ∃ (a : Option Addr) (c : Nat), vs t = .slice a f.data.length c ∧ Own w 0 (.slice a f.data.length c) f.data ∧ fileV ((slot L vs t).getD noFile) = .agg #[.slice a f.data.length c, .int .i64 (f.safe : Int)] := by
  obtain ⟨hf, rfl⟩ := look_mem hl
  obtain ⟨a, c, hv, _⟩ := (h.own f hf).shape
  exact ⟨a, c, hv, hv ▸ h.own f hf, by rw [slot_some hl]; simp [fileV, hv]⟩
theorem DiskAt.wf {w : World} {db mb : Nat} {q : Int} {L : List Fl} {vs : Int → Value} (h : DiskAt w db mb q L vs) {t : Int} {f : Fl} (hl : look L t = some f) : f ∈ L ∧ f.num = t ∧ f.data.length ≤ 67108864 ∧ f.safe ≤ f.data.length ∧ 1 ≤ t ∧ t ≤ 1099511627776 := by
  obtain ⟨hf, rfl⟩ := look_mem hl
  have h1 := len_le hf
  have h2 := h.right.fits
  have h3 := h.right.quota
  exact ⟨hf, rfl, by omega, h.right.ok f hf⟩

set_option maxHeartbeats 1000000 in
set_option maxRecDepth 1000000 in
theorem sync_any (w : World) (db mb : Nat) (q : Int) (L : List Fl) (vs : Int → Value) (h : DiskAt w db mb q L vs) (n : Int) (hwf : (Lit.int .i64 n).wf = true) :
    Calls Try.prog 46 #[.pointer (some ⟨db, 0, none⟩), .int .i64 n] w (DoPost w db mb q L vs (actSync L n)) := by
  have HH : Hid (DiskAt w db mb q L vs) := h
  obtain ⟨_, _, k2⟩ := h.cell
  have hdl : db < w.heap.size := h.lt (.inl rfl)
  clear h
  cases hl : look L n with
  | none =>
    have HA : Hid (actSync L n = (113, L)) := by show _ = _; simp [actSync, hl]
    have hs : (slot L vs n).isSome = false := by rw [slot_none hl]; rfl
    have hthere : fileV ((slot L vs n).getD noFile) = .agg #[.slice none 0 0, .int .i64 0] := by rw [slot_none hl]; rfl
    clear hl
    go_enter Try.func46, Try.ntmps46
    go_wp2_with (at_lookup; refine wpList_flook rfl _ _ rfl mb L.length (slot L vs) n rfl rfl HH.out.tab hwf ?_; rw [hthere, hs])
    go_ret
    rw [HA.out]
    have B : Below w.heap.size w (w.alloc (.cells #[.slice none 0 0, .int .i64 0] 87)) := (Below.refl _ w).alloc (Nat.le_refl _) _
    exact ⟨rfl, vs, HH.out.below B, Turned.ofBelow B⟩
  | some f =>
    obtain ⟨a0, c0, hvs, hown, hthere⟩ := HH.out.is hl
    obtain ⟨hf, hfn, hfl, hfs, hn1⟩ := HH.out.wf hl
    have hs : (slot L vs n).isSome = true := by rw [slot_some hl]; rfl
    obtain ⟨n0, hn0⟩ : ∃ n0, n0 = f.data.length := ⟨_, rfl⟩
    have HA : Hid (actSync L n = (0, ins L ⟨n, f.data.take n0, n0⟩)) := by
      show _ = _
      rw [actSync, hl, hn0]
      simp
    have HR : Hid (Right q (ins L ⟨n, f.data.take n0, n0⟩)) := right_ins HH.out.right (by rw [hn0]; simp) hn1 (by have := HH.out.right.fits; rw [hl, hn0]; simp [lenOf]; omega)
    rw [← hn0] at hthere hvs hown
    obtain ⟨w1, hw1⟩ : ∃ w1, w1 = w.alloc (.cells #[.slice a0 n0 c0, .int .i64 (f.safe : Int)] 87) := ⟨_, rfl⟩
    have B1 : Below w.heap.size w w1 := by rw [hw1]; exact (Below.refl _ w).alloc (Nat.le_refl _) _
    have HB : Hid (Below w.heap.size w w1 ∧ Own w1 0 (.slice a0 n0 c0) f.data ∧ vs n = .slice a0 n0 c0 ∧ f ∈ L ∧ f.num = n) := ⟨B1, hown.below B1, hvs, hf, hfn⟩
    have hn0b : n0 ≤ 67108864 := by omega
    clear hl B1 hvs hown hf hfn hfl hfs hn1 hn0
    go_enter Try.func46, Try.ntmps46
    go_wp2_with (first
      | (at_lookup; refine wpList_flook rfl _ _ rfl mb L.length (slot L vs) n rfl rfl HH.out.tab hwf ?_; rw [hthere, hs])
      | (go_at_call 51
         rw [← hw1]
         refine (first_any (.slice a0 n0 c0) f.data (f.safe : Int) n0 w1 HB.out.2.1 hn0b).mono ?_
         rintro e w2 ⟨v2, rfl, o2, b2, m2⟩
         have H2 : Hid (Own w2 0 v2 (f.data.take n0) ∧ Below w1.heap.size w1 w2 ∧ (v2 = .slice a0 n0 c0 ∨ ∃ k, v2.ownBlock = some k ∧ w1.heap.size ≤ k)) := ⟨o2, b2, m2⟩
         clear o2 b2 m2)
      | (go_at_call 50
         have hd2 : DiskAt w2 db mb q L vs := (HH.out.below HB.out.1).below H2.out.2.1
         have hap := hd2.apart_old HB.out.2.2.2.1 (w0 := w1) (fun k hk => (HH.out.below HB.out.1).lt hk) (v := v2) (by rw [HB.out.2.2.2.2, HB.out.2.2.1]; exact H2.out.2.2)
         have HP : Hid (∀ k, v2.ownBlock = some k → Mine db mb L vs k ∨ w1.heap.size ≤ k) := hap.2
         refine (set_any w2 db mb q L vs hd2 ⟨n, f.data.take n0, n0⟩ v2 H2.out.1 (by have := hap.1; rw [HB.out.2.2.2.2] at this; exact this) HR.out).mono ?_
         rintro e w3 ⟨rfl, d3, k3⟩
         have H3 : Hid (DiskAt w3 db mb q (ins L ⟨n, f.data.take n0, n0⟩) (upd vs n v2) ∧ Kept (fun k => k = db ∨ k = mb) w2 w3) := ⟨d3, k3⟩
         clear d3 k3 hd2 hap))
    go_ret
    rw [HA.out]
    have hw : w.heap.size ≤ w1.heap.size := HB.out.1.size
    exact ⟨rfl, _, H3.out.1, (Turned.ofBelow (HB.out.1.trans (H2.out.2.1.mono HB.out.1.size))).laid HH.out.right.rise H3.out.2 ⟨n, f.data.take n0, n0⟩ v2 (fun k e => by
      rcases HP.out k e with e | e
      · exact .inl e
      · exact .inr (by omega))⟩

set_option maxHeartbeats 1000000 in
set_option maxRecDepth 1000000 in
theorem cut_any (w : World) (db mb : Nat) (q : Int) (L : List Fl) (vs : Int → Value) (h : DiskAt w db mb q L vs) (n z : Int) (hwf : (Lit.int .i64 n).wf = true) :
    Calls Try.prog 47 #[.pointer (some ⟨db, 0, none⟩), .int .i64 n, .int .i64 z] w (DoPost w db mb q L vs (actCut L n z)) := by
  have HH : Hid (DiskAt w db mb q L vs) := h
  obtain ⟨_, _, k2⟩ := h.cell
  have hdl : db < w.heap.size := h.lt (.inl rfl)
  clear h
  cases hl : look L n with
  | none =>
    have HA : Hid (actCut L n z = (113, L)) := by show _ = _; simp [actCut, hl]
    have hs : (slot L vs n).isSome = false := by rw [slot_none hl]; rfl
    have hthere : fileV ((slot L vs n).getD noFile) = .agg #[.slice none 0 0, .int .i64 0] := by rw [slot_none hl]; rfl
    clear hl
    go_enter Try.func47, Try.ntmps47
    go_wp2_with (at_lookup; refine wpList_flook rfl _ _ rfl mb L.length (slot L vs) n rfl rfl HH.out.tab hwf ?_; rw [hthere, hs])
    go_ret
    rw [HA.out]
    have B : Below w.heap.size w (w.alloc (.cells #[.slice none 0 0, .int .i64 0] 87)) := (Below.refl _ w).alloc (Nat.le_refl _) _
    exact ⟨rfl, vs, HH.out.below B, Turned.ofBelow B⟩
  | some f =>
    obtain ⟨a0, c0, hvs, hown, hthere⟩ := HH.out.is hl
    obtain ⟨hf, hfn, hfl, hfs, hn1⟩ := HH.out.wf hl
    have hs : (slot L vs n).isSome = true := by rw [slot_some hl]; rfl
    obtain ⟨w1, hw1⟩ : ∃ w1, w1 = w.alloc (.cells #[.slice a0 f.data.length c0, .int .i64 (f.safe : Int)] 87) := ⟨_, rfl⟩
    have B1 : Below w.heap.size w w1 := by rw [hw1]; exact (Below.refl _ w).alloc (Nat.le_refl _) _
    have HB : Hid (Below w.heap.size w w1 ∧ Own w1 0 (.slice a0 f.data.length c0) f.data ∧ vs n = .slice a0 f.data.length c0 ∧ f ∈ L ∧ f.num = n) := ⟨B1, hown.below B1, hvs, hf, hfn⟩
    by_cases hz : 0 ≤ z ∧ z ≤ f.data.length
    · obtain ⟨zn, rfl⟩ := Int.eq_ofNat_of_zero_le hz.1
      have hzb : zn ≤ 67108864 := by omega
      have hwb : withinB (zn : Int) 0 (f.data.length : Int) = true := by simp [withinB]; omega
      have HA : Hid (actCut L n (zn : Int) = (0, ins L ⟨n, f.data.take zn, zn⟩)) := by
        show _ = _
        rw [actCut, hl]
        simp only []
        rw [if_pos hz]
        simp
      have HR : Hid (Right q (ins L ⟨n, f.data.take zn, zn⟩)) := right_ins HH.out.right (by simp; omega) hn1 (by have := HH.out.right.fits; rw [hl]; simp [lenOf]; omega)
      clear hl B1 hvs hown hf hfn hfl hfs hn1 hz
      go_enter Try.func47, Try.ntmps47
      go_wp2_with (first
        | (at_lookup; refine wpList_flook rfl _ _ rfl mb L.length (slot L vs) n rfl rfl HH.out.tab hwf ?_; rw [hthere, hs])
        | (go_at_call 58; refine (within_any (zn : Int) 0 (f.data.length : Int) _).mono ?_; rintro e wx ⟨rfl, hW⟩; have hW := hW.symm; subst hW; rw [hwb])
        | (go_at_call 51
           rw [← hw1]
           refine (first_any (.slice a0 f.data.length c0) f.data (f.safe : Int) zn w1 HB.out.2.1 hzb).mono ?_
           rintro e w2 ⟨v2, rfl, o2, b2, m2⟩
           have H2 : Hid (Own w2 0 v2 (f.data.take zn) ∧ Below w1.heap.size w1 w2 ∧ (v2 = .slice a0 f.data.length c0 ∨ ∃ k, v2.ownBlock = some k ∧ w1.heap.size ≤ k)) := ⟨o2, b2, m2⟩
           clear o2 b2 m2)
        | (go_at_call 50
           have hd2 : DiskAt w2 db mb q L vs := (HH.out.below HB.out.1).below H2.out.2.1
           have hap := hd2.apart_old HB.out.2.2.2.1 (w0 := w1) (fun k hk => (HH.out.below HB.out.1).lt hk) (v := v2) (by rw [HB.out.2.2.2.2, HB.out.2.2.1]; exact H2.out.2.2)
           have HP : Hid (∀ k, v2.ownBlock = some k → Mine db mb L vs k ∨ w1.heap.size ≤ k) := hap.2
           refine (set_any w2 db mb q L vs hd2 ⟨n, f.data.take zn, zn⟩ v2 H2.out.1 (by have := hap.1; rw [HB.out.2.2.2.2] at this; exact this) HR.out).mono ?_
           rintro e w3 ⟨rfl, d3, k3⟩
           have H3 : Hid (DiskAt w3 db mb q (ins L ⟨n, f.data.take zn, zn⟩) (upd vs n v2) ∧ Kept (fun k => k = db ∨ k = mb) w2 w3) := ⟨d3, k3⟩
           clear d3 k3 hd2 hap))
      go_ret
      rw [HA.out]
      have hw : w.heap.size ≤ w1.heap.size := HB.out.1.size
      exact ⟨rfl, _, H3.out.1, (Turned.ofBelow (HB.out.1.trans (H2.out.2.1.mono HB.out.1.size))).laid HH.out.right.rise H3.out.2 ⟨n, f.data.take zn, zn⟩ v2 (fun k e => by
        rcases HP.out k e with e | e
        · exact .inl e
        · exact .inr (by omega))⟩
    · have hwb : withinB z 0 (f.data.length : Int) = false := by simp [withinB]; omega
      have HA : Hid (actCut L n z = (114, L)) := by
        show _ = _
        rw [actCut, hl]
        simp only []
        rw [if_neg hz]
      clear hl B1 hvs hown hf hfn hfl hfs hn1 hz
      go_enter Try.func47, Try.ntmps47
      go_wp2_with (first
        | (at_lookup; refine wpList_flook rfl _ _ rfl mb L.length (slot L vs) n rfl rfl HH.out.tab hwf ?_; rw [hthere, hs])
        | (go_at_call 58; refine (within_any z 0 (f.data.length : Int) _).mono ?_; rintro e wx ⟨rfl, hW⟩; have hW := hW.symm; subst hW; rw [hwb]))
      go_ret
      rw [HA.out, ← hw1]
      exact ⟨rfl, vs, HH.out.below HB.out.1, Turned.ofBelow HB.out.1⟩
end Go.Proofs.Ytnpofjeiamjioaa

namespace Go.Proofs.Ytnpofjeiamjioaa
open Go.RowKit Go.Maps

/-- 'append' of bytes onto bytes, at a step of a region that draws. -/
theorem step_append8 {w : World} {ops : Array Oper} {o : Oper} {a : Act} {K : Act → World → Prop} {Q : Exit → Act → World → Prop} {E : Prop} (hgd : o.guard = none) (s x : Operand)
    (ho : o.op = .call { callee := .builtin .append, args := #[s, x], argTypes := #[37, 37] })
    (B : Nat) (v : Value) (l : List UInt8) (hs : a.eval s = v) (hown : Own w B v l) (ad : Option Addr) (c : Nat) (m : List UInt8) (hx : a.eval x = .slice ad m.length c) (hm : IsBytes w ad c m)
    (hb : l.length + m.length ≤ 140737488355328) (hbase : B ≤ w.heap.size)
    (h : ∀ v' w', Own w' B v' (l ++ m) → w.grownBy w' v.ownBlock → (∀ (b0 : Nat) (u : Value) (ys : List UInt8), Own w b0 u ys → (u.ownBlock = v.ownBlock → ys.length ≤ l.length) → Own w' b0 u ys) → (v'.ownBlock = v.ownBlock ∨ v'.ownBlock = some w.heap.size) →
      K (a.put o.dst v') w') : if Region.wanted o (yielded ops a.tmps) = true then Oper.wp Try.prog o a w K Q else E := by
  have hw : Region.wanted o (yielded ops a.tmps) = true := by simp [Region.wanted, hgd]
  rw [if_pos hw]
  obtain ⟨i, hi, hz0, hz1, hz2⟩ := info_parts info_u8
  obtain ⟨v', w', hr, h2, h3, h4, h5, _⟩ := run_append_keeps (P := Try.prog) w B 37 o.type 5 i (.int .u8 0) Try.underlying37 hi hz0 hz1 rfl v l.length (u8s l) hown ad m.length c (u8s m) (u8s_length m) hm.src (u8s_one m) (by unfold maxLen; omega) (by rw [hz2]; omega) hbase
  unfold Oper.wp execOp
  simp only [ho, resolve, invoke, builtin, Sem.run_bind, Sem.run_pure, Result.andThen_ok, List.map_toArray, List.map_cons, List.map_nil, hs, hx, hr]
  refine h v' w' ?_ h3 (fun b0 u ys hu hle => h4 b0 u ys.length (u8s ys) hu hle) h5
  unfold Own
  rw [List.length_append, show u8s (l ++ m) = u8s l ++ u8s m by simp [u8s]]
  exact h2

theorem below_drewN {B : Nat} {w w1 : World} (h : Below B w w1) (n : Nat) : Below B w (w1.drewN n) := ⟨h.os, h.tape, h.output, h.size, h.block⟩
/-- A disk, when bytes were put behind one of its files' bytes. -/
theorem DiskAt.appended {w w3 : World} {db mb : Nat} {q : Int} {L : List Fl} {vs : Int → Value} (h : DiskAt w db mb q L vs) {f : Fl} (hf : f ∈ L) (hg : w.grownBy w3 (vs f.num).ownBlock)
    (hp : ∀ (b0 : Nat) (u : Value) (ys : List UInt8), Own w b0 u ys → (u.ownBlock = (vs f.num).ownBlock → ys.length ≤ f.data.length) → Own w3 b0 u ys) : DiskAt w3 db mb q L vs := by
  have hnot : ∀ k, (vs f.num).ownBlock = some k → k ≠ db ∧ k ≠ mb := fun k e => h.notRow (h.own f hf) e
  refine ⟨(hg.block db (h.lt (.inl rfl)) (fun e => (hnot db e.symm).1 rfl)).trans h.cells, h.tab.block (hg.block mb h.tab.lt (fun e => (hnot mb e.symm).2 rfl)), fun x hx => hp _ _ _ (h.own x hx) (fun e => ?_), h.apart, h.right⟩
  cases hb : (vs f.num).ownBlock with
  | none =>
    rw [hb] at e
    rcases (h.own x hx).2 with ⟨_, h0⟩ | ⟨g, cap, cur, hv, _⟩
    · omega
    · rw [hv] at e
      cases e
  | some k =>
    rw [hb] at e
    rw [mem_unique h.right.rise hx hf (h.apart x hx f hf k e hb)]
    exact Nat.le_refl _

set_option maxHeartbeats 2000000 in
set_option maxRecDepth 1000000 in
theorem add_any (w : World) (db mb : Nat) (q : Int) (L : List Fl) (vs : Int → Value) (h : DiskAt w db mb q L vs) (n : Int) (hwf : (Lit.int .i64 n).wf = true) (ad : Option Addr) (dc : Nat) (d : List UInt8) (hd : IsBytes w ad dc d) (hdm : d.length ≤ 140737488355328) :
    Calls Try.prog 45 #[.pointer (some ⟨db, 0, none⟩), .int .i64 n, .slice ad d.length dc] w (DoPost w db mb q L vs (actAppend q L n d)) := by
  have HH : Hid (DiskAt w db mb q L vs) := h
  have HD : Hid (IsBytes w ad dc d) := hd
  obtain ⟨_, _, k2⟩ := h.cell
  have hdl : db < w.heap.size := h.lt (.inl rfl)
  clear h hd
  cases hl : look L n with
  | none =>
    have HA : Hid (actAppend q L n d = (113, L)) := by show _ = _; simp [actAppend, hl]
    have hs : (slot L vs n).isSome = false := by rw [slot_none hl]; rfl
    have hthere : fileV ((slot L vs n).getD noFile) = .agg #[.slice none 0 0, .int .i64 0] := by rw [slot_none hl]; rfl
    clear hl
    go_enter Try.func45, Try.ntmps45
    go_wp2_with (at_lookup; refine wpList_flook rfl _ _ rfl mb L.length (slot L vs) n rfl rfl HH.out.tab hwf ?_; rw [hthere, hs])
    go_ret
    rw [HA.out]
    have B : Below w.heap.size w (w.alloc (.cells #[.slice none 0 0, .int .i64 0] 87)) := (Below.refl _ w).alloc (Nat.le_refl _) _
    exact ⟨rfl, vs, HH.out.below B, Turned.ofBelow B⟩
  | some f =>
    obtain ⟨a0, c0, hvs, hown, hthere⟩ := HH.out.is hl
    obtain ⟨hf, hfn, hfl, hfs, hn1⟩ := HH.out.wf hl
    have hs : (slot L vs n).isSome = true := by rw [slot_some hl]; rfl
    obtain ⟨w1, hw1⟩ : ∃ w1, w1 = w.alloc (.cells #[.slice a0 f.data.length c0, .int .i64 (f.safe : Int)] 87) := ⟨_, rfl⟩
    obtain ⟨bx, hbx⟩ : ∃ bx, bx = w.heap.size := ⟨_, rfl⟩
    have B1 : Below w.heap.size w w1 := by rw [hw1]; exact (Below.refl _ w).alloc (Nat.le_refl _) _
    have hb1 : w1.heap[bx]? = some (.cells #[.slice a0 f.data.length c0, .int .i64 (f.safe : Int)] 87 (0, 0)) := by rw [hw1, hbx]; exact heap_alloc_new w _
    have HB : Hid (Below w.heap.size w w1 ∧ Own w1 0 (.slice a0 f.data.length c0) f.data ∧ vs n = .slice a0 f.data.length c0 ∧ f ∈ L ∧ f.num = n ∧ w1.heap[bx]? = some (.cells #[.slice a0 f.data.length c0, .int .i64 (f.safe : Int)] 87 (0, 0)) ∧ bx = w.heap.size) := ⟨B1, hown.below B1, hvs, hf, hfn, hb1, hbx⟩
    obtain ⟨m0, m1, m2⟩ := (HH.out.below B1).cell
    have hfit := HH.out.right.fits
    have hqq := HH.out.right.quota
    have i0 : (total L : Int) ≤ 67108864 := by omega
    have i1 : (d.length : Int) ≤ 140737488355328 := by omega
    by_cases hz : q < (total L : Int) + d.length
    · have HA : Hid (actAppend q L n d = (115, L)) := by show _ = _; rw [actAppend, hl]; simp only []; rw [if_pos hz]
      clear hl B1 hvs hown hf hfn hfl hfs hn1 hb1
      go_enter Try.func45, Try.ntmps45
      go_wp2_with (at_lookup; refine wpList_flook rfl _ _ rfl mb L.length (slot L vs) n rfl rfl HH.out.tab hwf ?_; rw [hthere, hs])
      rw [← hw1]
      clear hw1
      go_quiet (fail)
      go_wp2_with fail
      go_ret
      rw [HA.out]
      have B : Below w.heap.size w (w1.drewN nq) := below_drewN HB.out.1 nq
      exact ⟨rfl, vs, HH.out.below B, Turned.ofBelow B⟩
    · have HA : Hid (actAppend q L n d = (0, ins L ⟨n, f.data ++ d, f.safe⟩)) := by show _ = _; rw [actAppend, hl]; simp only []; rw [if_neg hz]
      have HR : Hid (Right q (ins L ⟨n, f.data ++ d, f.safe⟩)) := right_ins HH.out.right (by simp; omega) hn1 (by rw [hl]; simp [lenOf]; omega)
      have hnz : (total L : Int) + d.length ≤ q := by omega
      have hbd : f.data.length + d.length ≤ 140737488355328 := by omega
      clear hl B1 hvs hown hf hfn hfl hfs hn1 hz hb1
      go_enter Try.func45, Try.ntmps45
      go_wp2_with (at_lookup; refine wpList_flook rfl _ _ rfl mb L.length (slot L vs) n rfl rfl HH.out.tab hwf ?_; rw [hthere, hs])
      rw [← hw1, ← hbx]
      clear hw1 hbx
      go_quiet (fail)
      go_wp2_with fail
      obtain ⟨w2, hw2⟩ : ∃ w2, w2 = w1.drewN nq := ⟨_, rfl⟩
      rw [← hw2]
      have B2 : Below w.heap.size w w2 := by rw [hw2]; exact below_drewN HB.out.1 nq
      have D2 : Hid (DiskAt w2 db mb q L vs ∧ Own w2 0 (.slice a0 f.data.length c0) f.data ∧ IsBytes w2 ad dc d ∧ Below w.heap.size w w2) :=
        ⟨HH.out.below B2, by rw [hw2]; exact HB.out.2.1.below (below_drewN (Below.refl _ _) nq), HD.out.below B2, B2⟩
      have e2 : w2.heap[bx]? = some (.cells #[.slice a0 f.data.length c0, .int .i64 (f.safe : Int)] 87 (0, 0)) := by rw [hw2]; exact HB.out.2.2.2.2.2.1
      have x0 : w2.cell? ⟨bx, 0, none⟩ = some (.slice a0 f.data.length c0) := by simp [World.cell?, e2]
      have x1 : w2.cell? ⟨bx, 1, none⟩ = some (.int .i64 (f.safe : Int)) := by simp [World.cell?, e2]
      have E2 : Hid (w2.heap[bx]? = some (.cells #[.slice a0 f.data.length c0, .int .i64 (f.safe : Int)] 87 (0, 0))) := e2
      clear hw2 B2 e2 m0 m1 m2
      go_region_held3 (fun w' => w'.cell? ⟨bx, 0, none⟩ = some (.slice a0 f.data.length c0) ∧ w'.cell? ⟨bx, 1, none⟩ = some (.int .i64 (f.safe : Int)))
        (first | exact ⟨x0, x1⟩ | assumption)
        (first
          | (refine step_append8 rfl (.tmp 35) (.tmp 36) rfl 0 (.slice a0 f.data.length c0) f.data (by rfl) (D2.out.2.1.below (Below.refl _ _).drew) ad dc d (by rfl) (D2.out.2.2.1.below (Below.refl _ _).drew) hbd (Nat.zero_le _) ?_
             intro v3 w3 o3 g3 p3 l3
             obtain ⟨a3, c3, rfl, _⟩ := o3.shape
             obtain ⟨n3, hn3⟩ : ∃ n3, n3 = (f.data ++ d).length := ⟨_, rfl⟩
             rw [← hn3] at o3 l3 ⊢
             have A3 : Hid (Own w3 0 (.slice a3 n3 c3) (f.data ++ d) ∧ w2.grownBy w3 (Value.slice a0 f.data.length c0).ownBlock ∧ DiskAt w3 db mb q L vs ∧ ((Value.slice a3 n3 c3).ownBlock = (Value.slice a0 f.data.length c0).ownBlock ∨ (Value.slice a3 n3 c3).ownBlock = some w2.heap.size)) :=
               ⟨o3, grown_of_drew g3, D2.out.1.appended HB.out.2.2.2.1 (by rw [HB.out.2.2.2.2.1, HB.out.2.2.1]; exact grown_of_drew g3) (by rw [HB.out.2.2.2.2.1, HB.out.2.2.1]; exact p3), l3⟩
             have y01 : w3.cell? ⟨bx, 0, none⟩ = some (.slice a0 f.data.length c0) ∧ w3.cell? ⟨bx, 1, none⟩ = some (.int .i64 (f.safe : Int)) := by
               have hb3 : w3.heap[bx]? = w2.heap[bx]? := A3.out.2.1.block bx (Array.getElem?_eq_some_iff.1 E2.out).1 (fun e => by
                 obtain ⟨cur, hc⟩ := D2.out.2.1.row e.symm
                 rw [E2.out] at hc
                 simp at hc)
               simp [World.cell?, hb3, E2.out]
             have N3 : Hid (n3 = (f.data ++ d).length) := hn3
             clear o3 g3 p3 l3 hn3)
          | (go_at_call 50
             have hap : ∀ x ∈ L, x.num ≠ n → ∀ k, (Value.slice a3 n3 c3).ownBlock = some k → (vs x.num).ownBlock ≠ some k := by
               intro x hx hne k e1 e2
               rcases A3.out.2.2.2 with e | e
               · rw [e] at e1
                 refine hne ((A3.out.2.2.1.apart x hx f HB.out.2.2.2.1 k e2 ?_).trans HB.out.2.2.2.2.1)
                 rw [HB.out.2.2.2.2.1, HB.out.2.2.1]
                 exact e1
               · rw [e] at e1
                 have := D2.out.1.lt (.inr (.inr ⟨x, hx, e2⟩))
                 cases e1
                 omega
             refine (set_any w3 db mb q L vs A3.out.2.2.1 ⟨n, f.data ++ d, f.safe⟩ (.slice a3 n3 c3) A3.out.1 hap HR.out).mono ?_
             rintro e w4 ⟨rfl, d4, k4⟩
             have H4 : Hid (DiskAt w4 db mb q (ins L ⟨n, f.data ++ d, f.safe⟩) (upd vs n (.slice a3 n3 c3)) ∧ Kept (fun k => k = db ∨ k = mb) w3 w4) := ⟨d4, k4⟩
             have z01 : w4.cell? ⟨bx, 0, none⟩ = some (.slice a0 f.data.length c0) ∧ w4.cell? ⟨bx, 1, none⟩ = some (.int .i64 (f.safe : Int)) := by
               have hm := HH.out.tab.lt
               have hx := HB.out.2.2.2.2.2.2
               have hnb : ¬ (bx = db ∨ bx = mb) := by omega
               exact ⟨k4.cell hnb y01.1, k4.cell hnb y01.2⟩
             clear d4 k4 hap))
      go_wp2_with fail
      go_ret
      rw [HA.out]
      have hw : w.heap.size ≤ w2.heap.size := D2.out.2.2.2.size
      have hT : Turned w w3 db mb L vs L vs := by
        refine (Turned.ofBelow D2.out.2.2.2).trans ⟨Kept.ofGrown A3.out.2.1 (fun g e => ?_), fun _ e => .inl e⟩
        refine .inr (.inr ⟨f, HB.out.2.2.2.1, ?_⟩)
        rw [HB.out.2.2.2.2.1, HB.out.2.2.1]
        exact e
      exact ⟨rfl, _, H4.out.1, hT.laid HH.out.right.rise H4.out.2 ⟨n, f.data ++ d, f.safe⟩ (.slice a3 n3 c3) (fun k e => by
        rcases A3.out.2.2.2 with e1 | e1
        · rw [e1] at e
          refine .inl (.inr (.inr ⟨f, HB.out.2.2.2.1, ?_⟩))
          rw [HB.out.2.2.2.2.1, HB.out.2.2.1]
          exact e
        · rw [e1] at e
          cases e
          exact .inr hw)⟩

theorem right_del {q : Int} {L : List Fl} (h : Right q L) (t : Int) : Right q (del L t) := by
  refine ⟨del_rising h.rise t, fun x hx => h.ok x (mem_del.1 hx).1, h.quota, ?_⟩
  have := total_del h.rise t
  have := h.fits
  omega
/-- A disk of which a file was struck. -/
theorem DiskAt.struck {w w' : World} {db mb : Nat} {q : Int} {L : List Fl} {vs : Int → Value} (h : DiskAt w db mb q L vs) (t : Int) (hk : Kept (fun k => k = db ∨ k = mb) w w')
    (hc : w'.heap[db]? = some (.cells #[.int .i64 q, .int .i64 (total (del L t) : Int), .map (some mb)] 90 (0, 0)))
    (ht : FTab w' mb (if (slot L vs t).isSome then L.length - 1 else L.length) (delAt (slot L vs) t)) : DiskAt w' db mb q (del L t) vs := by
  refine ⟨hc, ht.congr ?_ ?_, fun x hx => (h.own x (mem_del.1 hx).1).kept hk (fun k e => ?_), fun x hx y hy => h.apart x (mem_del.1 hx).1 y (mem_del.1 hy).1, right_del h.right t⟩
  · rw [length_del h.right.rise]
    unfold slot
    cases look L t <;> rfl
  · intro x
    unfold slot delAt
    rw [look_del]
    by_cases e : x = t
    · simp [e]
    · simp [e]
  · have := h.notRow (h.own x (mem_del.1 hx).1) e
    omega

set_option maxHeartbeats 1000000 in
set_option maxRecDepth 1000000 in
theorem remove_any (w : World) (db mb : Nat) (q : Int) (L : List Fl) (vs : Int → Value) (h : DiskAt w db mb q L vs) (n : Int) (hwf : (Lit.int .i64 n).wf = true) :
    Calls Try.prog 48 #[.pointer (some ⟨db, 0, none⟩), .int .i64 n] w (DoPost w db mb q L vs (actRemove L n)) := by
  have HH : Hid (DiskAt w db mb q L vs) := h
  obtain ⟨_, _, k2⟩ := h.cell
  have hdl : db < w.heap.size := h.lt (.inl rfl)
  clear h
  cases hl : look L n with
  | none =>
    have HA : Hid (actRemove L n = (113, L)) := by show _ = _; simp [actRemove, hl]
    have hs : (slot L vs n).isSome = false := by rw [slot_none hl]; rfl
    have hthere : fileV ((slot L vs n).getD noFile) = .agg #[.slice none 0 0, .int .i64 0] := by rw [slot_none hl]; rfl
    clear hl
    go_enter Try.func48, Try.ntmps48
    go_wp2_with (at_lookup; refine wpList_flook rfl _ _ rfl mb L.length (slot L vs) n rfl rfl HH.out.tab hwf ?_; rw [hthere, hs])
    go_ret
    rw [HA.out]
    have B : Below w.heap.size w (w.alloc (.cells #[.slice none 0 0, .int .i64 0] 87)) := (Below.refl _ w).alloc (Nat.le_refl _) _
    exact ⟨rfl, vs, HH.out.below B, Turned.ofBelow B⟩
  | some f =>
    obtain ⟨a0, c0, hvs, hown, hthere⟩ := HH.out.is hl
    obtain ⟨hf, hfn, hfl, hfs, hn1⟩ := HH.out.wf hl
    have hs : (slot L vs n).isSome = true := by rw [slot_some hl]; rfl
    have htot := total_del HH.out.right.rise n
    rw [hl] at htot
    simp only [lenOf] at htot
    have hfit := HH.out.right.fits
    have hqq := HH.out.right.quota
    obtain ⟨T0, hT0⟩ : ∃ T0, T0 = total L := ⟨_, rfl⟩
    have i0 : (T0 : Int) ≤ 67108864 := by omega
    have i1 : (f.data.length : Int) ≤ 67108864 := by omega
    obtain ⟨u, hu⟩ : ∃ u : Int, u = (T0 : Int) - (f.data.length : Int) := ⟨_, rfl⟩
    have HU : Hid (u = (total (del L n) : Int)) := by show _ = _; omega
    have HA : Hid (actRemove L n = (0, del L n)) := by show _ = _; simp [actRemove, hl]
    obtain ⟨w1, hw1⟩ : ∃ w1, w1 = w.alloc (.cells #[.slice a0 f.data.length c0, .int .i64 (f.safe : Int)] 87) := ⟨_, rfl⟩
    have B1 : Below w.heap.size w w1 := by rw [hw1]; exact (Below.refl _ w).alloc (Nat.le_refl _) _
    have hbx : w1.heap[w.heap.size]? = some (.cells #[.slice a0 f.data.length c0, .int .i64 (f.safe : Int)] 87 (0, 0)) := by rw [hw1]; exact heap_alloc_new w _
    have e0 : w1.cell? ⟨w.heap.size, 0, none⟩ = some (.slice a0 f.data.length c0) := by simp [World.cell?, hbx]
    have H1 : Hid (DiskAt w1 db mb q L vs ∧ Below w.heap.size w w1) := ⟨HH.out.below B1, B1⟩
    obtain ⟨m0, m1, m2⟩ := H1.out.1.cell
    rw [← hT0] at m1
    have fz : w1.frozen? ⟨db, 1, none⟩ = false := by simp [World.frozen?, H1.out.1.cells]
    obtain ⟨w2, hw2⟩ : ∃ w2, w2 = (w1.setCell ⟨db, 1, none⟩ (.int .i64 u)).drew := ⟨_, rfl⟩
    have hb2 : w2.heap[db]? = some (.cells #[.int .i64 q, .int .i64 u, .map (some mb)] 90 (0, 0)) := by rw [hw2]; exact (set_cells H1.out.1.cells 1 (.int .i64 u)).1
    have hk2 : Kept (fun k => k = db) w1 w2 := by rw [hw2]; exact (Kept.setCell (fun k => k = db) _ _ _ _ rfl).trans (Kept.ofBelow (Below.refl _ _).drew)
    have x2 : w2.cell? ⟨db, 2, none⟩ = some (.map (some mb)) := by simp [World.cell?, hb2]
    have H2 : Hid (FTab w2 mb L.length (slot L vs) ∧ Kept (fun k => k = db) w1 w2 ∧ w2.heap[db]? = some (.cells #[.int .i64 q, .int .i64 u, .map (some mb)] 90 (0, 0))) :=
      ⟨H1.out.1.tab.block (hk2.block mb H1.out.1.tab.lt (fun e => H1.out.1.ne e.symm)), hk2, hb2⟩
    clear hl hvs hown hf hfn hfl hfs hn1 B1 hbx htot hfit hqq hT0 hb2 hk2
    go_enter Try.func48, Try.ntmps48
    go_wp2_with (at_lookup; refine wpList_flook rfl _ _ rfl mb L.length (slot L vs) n rfl rfl HH.out.tab hwf ?_; rw [hthere, hs])
    rw [← hw1]
    clear hw1
    refine wp_tail 10 mixed (by kernel_rfl) ?_
    simp only [List.take_succ_cons, List.take_zero, List.drop_succ_cons, List.drop_zero]
    repeat still_step
    refine wpStill_nil ?_
    rw [IntWalk.i64_in ((T0 : Int) - (f.data.length : Int)) (by omega), ← hu]
    clear hu
    go_wp2_with (at_delete
                 rw [← hw2]
                 refine wpList_fstrike rfl _ _ rfl mb L.length (slot L vs) n rfl rfl H2.out.1 hwf ?_
                 intro w3 ht3 hg3
                 have hk3 : Kept (fun k => k = mb) w2 w3 := Kept.ofGrown hg3 (fun g e => by cases e; rfl)
                 have hkk : Kept (fun k => k = db ∨ k = mb) w w3 :=
                   ((Kept.ofBelow H1.out.2).step (H2.out.2.1.mono (Q := fun k => k = db ∨ k = mb) (fun _ _ e => .inl e)) (fun _ _ e => e)).trans (hk3.mono (fun _ _ e => .inr e))
                 have H3 : Hid (DiskAt w3 db mb q (del L n) vs ∧ Kept (fun k => k = db ∨ k = mb) w w3) :=
                   ⟨HH.out.struck n hkk (by rw [← HU.out]; exact (hk3.block db (Array.getElem?_eq_some_iff.1 H2.out.2.2).1 H1.out.1.ne).trans H2.out.2.2) ht3, hkk⟩
                 clear ht3 hg3 hk3 hkk)
    go_ret
    rw [HA.out]
    refine ⟨rfl, vs, H3.out.1, H3.out.2.mono (fun k _ e => ?_), fun k e => .inl ?_⟩
    · rcases e with e | e
      · exact .inl e
      · exact .inr (.inl e)
    · rcases e with e | e | ⟨x, hx, e⟩
      · exact .inl e
      · exact .inr (.inl e)
      · exact .inr (.inr ⟨x, (mem_del.1 hx).1, e⟩)
end Go.Proofs.Ytnpofjeiamjioaa

namespace Go.Proofs.Ytnpofjeiamjioaa
open Go.RowKit Go.Maps

theorem DoPost.box {w w1 w' : World} {db mb : Nat} {q : Int} {L : List Fl} {vs : Int → Value} {r : Int × List Fl} {e : Ending} (hb : Below w.heap.size w w1) (h : DoPost w1 db mb q L vs r e w') : DoPost w db mb q L vs r e w' := by
  obtain ⟨h1, vs', h2, h3⟩ := h
  exact ⟨h1, vs', h2, (Turned.ofBelow hb).trans h3⟩

set_option maxHeartbeats 1000000 in
set_option maxRecDepth 1000000 in
theorem do_any (w : World) (db mb : Nat) (q : Int) (L : List Fl) (vs : Int → Value) (h : DiskAt w db mb q L vs) (k n z : Int) (hwf : (Lit.int .i64 n).wf = true) (ad : Option Addr) (dc : Nat) (d : List UInt8) (hd : IsBytes w ad dc d) (hdm : d.length ≤ 140737488355328) :
    Calls Try.prog 18 #[.pointer (some ⟨db, 0, none⟩), .agg #[.int .i64 k, .int .i64 n, .slice ad d.length dc, .int .i64 z]] w (DoPost w db mb q L vs (act q L k n d z)) := by
  obtain ⟨w1, hw1⟩ : ∃ w1, w1 = w.alloc (.cells #[.int .i64 k, .int .i64 n, .slice ad d.length dc, .int .i64 z] 39) := ⟨_, rfl⟩
  have B1 : Below w.heap.size w w1 := by rw [hw1]; exact (Below.refl _ w).alloc (Nat.le_refl _) _
  have H1 : Hid (DiskAt w1 db mb q L vs ∧ IsBytes w1 ad dc d ∧ Below w.heap.size w w1) := ⟨h.below B1, hd.below B1, B1⟩
  have HH : Hid (DiskAt w db mb q L vs) := h
  clear h hd B1
  by_cases k1 : k = 1
  · subst k1
    have HA : Hid (act q L 1 n d z = actCreate L n) := rfl
    go_enter Try.func18, Try.ntmps18
    go_wp2_with (go_at_call 44
                 rw [← hw1]
                 refine (create_any w1 db mb q L vs H1.out.1 n).mono ?_
                 rintro e w2 ⟨rfl, p2⟩
                 have P2 : Hid (∃ vs', DiskAt w2 db mb q (actCreate L n).2 vs' ∧ Turned w1 w2 db mb L vs (actCreate L n).2 vs') := p2
                 clear p2)
    go_ret
    rw [HA.out]
    exact DoPost.box H1.out.2.2 ⟨rfl, P2.out⟩
  by_cases k2 : k = 2
  · subst k2
    have HA : Hid (act q L 2 n d z = actAppend q L n d) := rfl
    go_enter Try.func18, Try.ntmps18
    go_wp2_with (go_at_call 45
                 rw [← hw1]
                 refine (add_any w1 db mb q L vs H1.out.1 n hwf ad dc d H1.out.2.1 hdm).mono ?_
                 rintro e w2 ⟨rfl, p2⟩
                 have P2 : Hid (∃ vs', DiskAt w2 db mb q (actAppend q L n d).2 vs' ∧ Turned w1 w2 db mb L vs (actAppend q L n d).2 vs') := p2
                 clear p2)
    go_ret
    rw [HA.out]
    exact DoPost.box H1.out.2.2 ⟨rfl, P2.out⟩
  by_cases k3 : k = 3
  · subst k3
    have HA : Hid (act q L 3 n d z = actSync L n) := rfl
    go_enter Try.func18, Try.ntmps18
    go_wp2_with (go_at_call 46
                 rw [← hw1]
                 refine (sync_any w1 db mb q L vs H1.out.1 n hwf).mono ?_
                 rintro e w2 ⟨rfl, p2⟩
                 have P2 : Hid (∃ vs', DiskAt w2 db mb q (actSync L n).2 vs' ∧ Turned w1 w2 db mb L vs (actSync L n).2 vs') := p2
                 clear p2)
    go_ret
    rw [HA.out]
    exact DoPost.box H1.out.2.2 ⟨rfl, P2.out⟩
  by_cases k4 : k = 4
  · subst k4
    have HA : Hid (act q L 4 n d z = actCut L n z) := rfl
    go_enter Try.func18, Try.ntmps18
    go_wp2_with (go_at_call 47
                 rw [← hw1]
                 refine (cut_any w1 db mb q L vs H1.out.1 n z hwf).mono ?_
                 rintro e w2 ⟨rfl, p2⟩
                 have P2 : Hid (∃ vs', DiskAt w2 db mb q (actCut L n z).2 vs' ∧ Turned w1 w2 db mb L vs (actCut L n z).2 vs') := p2
                 clear p2)
    go_ret
    rw [HA.out]
    exact DoPost.box H1.out.2.2 ⟨rfl, P2.out⟩
  by_cases k5 : k = 5
  · subst k5
    have HA : Hid (act q L 5 n d z = actRemove L n) := rfl
    go_enter Try.func18, Try.ntmps18
    go_wp2_with (go_at_call 48
                 rw [← hw1]
                 refine (remove_any w1 db mb q L vs H1.out.1 n hwf).mono ?_
                 rintro e w2 ⟨rfl, p2⟩
                 have P2 : Hid (∃ vs', DiskAt w2 db mb q (actRemove L n).2 vs' ∧ Turned w1 w2 db mb L vs (actRemove L n).2 vs') := p2
                 clear p2)
    go_ret
    rw [HA.out]
    exact DoPost.box H1.out.2.2 ⟨rfl, P2.out⟩
  have HA : Hid (act q L k n d z = (116, L)) := by show _ = _; simp [act, k1, k2, k3, k4, k5]
  have b1 : (k == 1) = false := by simpa using k1
  have b2 : (k == 2) = false := by simpa using k2
  have b3 : (k == 3) = false := by simpa using k3
  have b4 : (k == 4) = false := by simpa using k4
  have b5 : (k == 5) = false := by simpa using k5
  go_enter Try.func18, Try.ntmps18
  go_wp2_with fail
  rw [← hw1]
  go_ret
  rw [HA.out]
  exact DoPost.box H1.out.2.2 ⟨rfl, vs, H1.out.1, Turned.refl _ _ _ _ _⟩

set_option maxRecDepth 1000000 in
theorem used_any (w : World) (db mb : Nat) (q : Int) (L : List Fl) (vs : Int → Value) (h : DiskAt w db mb q L vs) :
    Calls Try.prog 21 #[.pointer (some ⟨db, 0, none⟩)] w fun e w' => e = .returned (.int .i64 (total L : Int)) ∧ w' = w := by
  obtain ⟨_, k1, _⟩ := h.cell
  clear h
  go_enter Try.func21, Try.ntmps21
  go_wp2
  go_ret
  exact ⟨rfl, rfl⟩
end Go.Proofs.Ytnpofjeiamjioaa
