/-
  The walks of create, sync, cut.
-/
import Derived.Test.YtkmolklcbemfbaaSetW
namespace Go.Proofs.Ytkmolklcbemfbaa
open Go.RowKit Go.Maps

theorem right_ins {q : Int} {L : List Fl} (h : Right q L) {f : Fl} (hs : f.safe ≤ f.data.length) (hn : 1 ≤ f.num ∧ f.num ≤ 1099511627776) (ht : (total L : Int) + f.data.length ≤ q + lenOf (look L f.num)) : Right q (ins L f) := by
  refine ⟨ins_rising h.rise f, fun x hx => ?_, h.quota, ?_⟩
  · rcases mem_ins hx with rfl | hx
    · exact ⟨hs, hn⟩
    · exact h.ok x hx
  · have := total_ins h.rise f
    omega
/-- A call on a disk: what it answers, what it makes of the files, what has turned. -/
def DoPost (w : World) (db mb : Nat) (q : Int) (L : List Fl) (vs : Int → Value) (r : Int × List Fl) (e : Ending) (w' : World) : Prop :=
  e = .returned (.int .i64 r.1) ∧ ∃ vs', DiskAt w' db mb q r.2 vs' ∧ Turned w w' db mb L vs r.2 vs'
theorem Turned.laid {w w1 w2 : World} {db mb : Nat} {L : List Fl} {vs : Int → Value} (hb : Turned w w1 db mb L vs L vs) (hr : Rising L) (hk : Kept (fun k => k = db ∨ k = mb) w1 w2) (f : Fl) (v : Value)
    (hv : ∀ k, v.ownBlock = some k → Mine db mb L vs k ∨ w.heap.size ≤ k) : Turned w w2 db mb L vs (ins L f) (upd vs f.num v) := by
  refine ⟨hb.kept.step hk (fun j _ e => ?_), fun k e => ?_⟩
  · rcases e with e | e
    · exact .inl e
    · exact .inr (.inl e)
  · rcases e with e | e | ⟨g, hg, e⟩
    · exact .inl (.inl e)
    · exact .inl (.inr (.inl e))
    · unfold upd at e
      rcases mem_ins_other hr hg with rfl | ⟨hg, hn⟩
      · rw [if_pos rfl] at e
        exact hv k e
      · rw [if_neg hn] at e
        exact .inl (.inr (.inr ⟨g, hg, e⟩))
/-- What a file is laid with: nothing of another file's. -/
theorem DiskAt.apart_old {w : World} {db mb : Nat} {q : Int} {L : List Fl} {vs : Int → Value} (h : DiskAt w db mb q L vs) {f : Fl} (hf : f ∈ L) {w0 : World} (hL : ∀ k, Mine db mb L vs k → k < w0.heap.size) {v : Value} (hv : v = vs f.num ∨ ∃ k, v.ownBlock = some k ∧ w0.heap.size ≤ k) :
    (∀ x ∈ L, x.num ≠ f.num → ∀ k, v.ownBlock = some k → (vs x.num).ownBlock ≠ some k) ∧ ∀ k, v.ownBlock = some k → Mine db mb L vs k ∨ w0.heap.size ≤ k := by
  rcases hv with rfl | ⟨g, e, hg⟩
  · exact ⟨fun x hx hn k e1 e2 => hn (h.apart x hx f hf k e2 e1), fun k e => .inl (.inr (.inr ⟨f, hf, e⟩))⟩
  · refine ⟨fun x hx _ k e1 e2 => ?_, fun k e1 => ?_⟩
    · have := hL k (.inr (.inr ⟨x, hx, e2⟩))
      rw [e] at e1
      cases e1
      omega
    · rw [e] at e1
      cases e1
      exact .inr hg

theorem slot_none {L : List Fl} {vs : Int → Value} {t : Int} (h : look L t = none) : slot L vs t = none := by simp [slot, h]
theorem slot_some {L : List Fl} {vs : Int → Value} {t : Int} {f : Fl} (h : look L t = some f) : slot L vs t = some (vs t, (f.safe : Int)) := by simp [slot, h]

set_option maxHeartbeats 1000000 in
set_option maxRecDepth 1000000 in
theorem create_any (w : World) (db mb : Nat) (q : Int) (L : List Fl) (vs : Int → Value) (h : DiskAt w db mb q L vs) (n : Int) :
    Calls Try.prog 48 #[.pointer (some ⟨db, 0, none⟩), .int .i64 n] w (DoPost w db mb q L vs (actCreate L n)) := by
  have HH : Hid (DiskAt w db mb q L vs) := h
  obtain ⟨_, _, k2⟩ := h.cell
  have hdl : db < w.heap.size := h.lt (.inl rfl)
  clear h
  by_cases hn : 1 ≤ n ∧ n ≤ 1099511627776
  · have hwf : (Lit.int .i64 n).wf = true := WalkArith.wf_i64 (by omega)
    have hwb : withinB n 1 1099511627776 = true := by simp [withinB, hn]
    cases hl : look L n with
    | some f =>
      have HA : Hid (actCreate L n = (112, L)) := by show _ = _; simp [actCreate, hn, hl]
      have hs : (slot L vs n).isSome = true := by rw [slot_some hl]; rfl
      obtain ⟨a0, c0, s0, hthere⟩ := HH.out.there n
      obtain ⟨n0, hn0⟩ : ∃ n0, n0 = lenOf (look L n) := ⟨_, rfl⟩
      rw [← hn0] at hthere
      clear hl hn0 hn
      go_enter Try.func48, Try.ntmps48
      go_wp2_with (first
        | (go_at_call 62; refine (within_any n 1 1099511627776 _).mono ?_; rintro e w1 ⟨rfl, hW⟩; have hW := hW.symm; subst hW; rw [hwb])
        | (at_lookup; refine wpList_flook rfl _ _ rfl mb L.length (slot L vs) n rfl rfl HH.out.tab hwf ?_; rw [hthere, hs]))
      go_ret
      rw [HA.out]
      have B : Below w.heap.size w (w.alloc (.cells #[.slice a0 n0 c0, .int .i64 s0] 92)) := (Below.refl _ w).alloc (Nat.le_refl _) _
      exact ⟨rfl, vs, HH.out.below B, Turned.ofBelow B⟩
    | none =>
      have HA : Hid (actCreate L n = (0, ins L ⟨n, [], 0⟩)) := by show _ = _; simp [actCreate, hn, hl]
      have hs : (slot L vs n).isSome = false := by rw [slot_none hl]; rfl
      have hthere : fileV ((slot L vs n).getD noFile) = .agg #[.slice none 0 0, .int .i64 0] := by rw [slot_none hl]; rfl
      have HR : Hid (Right q (ins L ⟨n, [], 0⟩)) := right_ins HH.out.right (Nat.le_refl _) hn (by have := HH.out.right.fits; simp; omega)
      obtain ⟨w1, hw1⟩ : ∃ w1, w1 = w.alloc (.cells #[.slice none 0 0, .int .i64 0] 92) := ⟨_, rfl⟩
      have B1 : Below w.heap.size w w1 := by rw [hw1]; exact (Below.refl _ w).alloc (Nat.le_refl _) _
      have HB : Hid (Below w.heap.size w w1) := B1
      clear hl hn B1
      go_enter Try.func48, Try.ntmps48
      go_wp2_with (first
        | (go_at_call 62; refine (within_any n 1 1099511627776 _).mono ?_; rintro e w1 ⟨rfl, hW⟩; have hW := hW.symm; subst hW; rw [hwb])
        | (at_lookup; refine wpList_flook rfl _ _ rfl mb L.length (slot L vs) n rfl rfl HH.out.tab hwf ?_; rw [hthere, hs])
        | (go_at_call 55
           rw [← hw1]
           refine (set_any w1 db mb q L vs (HH.out.below HB.out) ⟨n, [], 0⟩ (.slice none 0 0) (Own.nil _ _) (fun _ _ _ k e => by cases e) HR.out).mono ?_
           rintro e w2 ⟨rfl, d2, k2'⟩
           have H2 : Hid (DiskAt w2 db mb q (ins L ⟨n, [], 0⟩) (upd vs n (.slice none 0 0)) ∧ Kept (fun k => k = db ∨ k = mb) w1 w2) := ⟨d2, k2'⟩
           clear d2 k2'))
      go_ret
      rw [HA.out]
      exact ⟨rfl, _, H2.out.1, (Turned.ofBelow HB.out).laid HH.out.right.rise H2.out.2 ⟨n, [], 0⟩ (.slice none 0 0) (fun k e => by cases e)⟩
  · have hwb : withinB n 1 1099511627776 = false := by simp [withinB]; omega
    have HA : Hid (actCreate L n = (111, L)) := by show _ = _; rw [actCreate, if_neg hn]
    clear hn
    go_enter Try.func48, Try.ntmps48
    go_wp2_with (first
      | (go_at_call 62; refine (within_any n 1 1099511627776 _).mono ?_; rintro e w1 ⟨rfl, hW⟩; have hW := hW.symm; subst hW; rw [hwb]))
    go_ret
    rw [HA.out]
    exact ⟨rfl, vs, HH.out, Turned.refl _ _ _ _ _⟩

/-- A file that is there: its value in the map, as the walk sees it. -/
theorem DiskAt.is {w : World} {db mb : Nat} {q : Int} {L : List Fl} {vs : Int → Value} (h : DiskAt w db mb q L vs) {t : Int} {f : Fl} (hl : look L t = some f) :
    ∃ (a : Option Addr) (c : Nat), vs t = .slice a f.data.length c ∧ Own w 0 (.slice a f.data.length c) f.data ∧ fileV ((slot L vs t).getD noFile) = .agg #[.slice a f.data.length c, .int .i64 (f.safe : Int)] := by
  obtain ⟨hf, rfl⟩ := look_mem hl
  obtain ⟨a, c, hv, _⟩ := (h.own f hf).shape
  exact ⟨a, c, hv, hv ▸ h.own f hf, by rw [slot_some hl]; simp [fileV, hv]⟩
theorem DiskAt.wf {w : World} {db mb : Nat} {q : Int} {L : List Fl} {vs : Int → Value} (h : DiskAt w db mb q L vs) {t : Int} {f : Fl} (hl : look L t = some f) : f ∈ L ∧ f.num = t ∧ f.data.length ≤ 67108864 ∧ f.safe ≤ f.data.length ∧ 1 ≤ t ∧ t ≤ 1099511627776 := by
  obtain ⟨hf, rfl⟩ := look_mem hl
  have h1 := len_le hf
  have h2 := h.right.fits
  have h3 := h.right.quota
  exact ⟨hf, rfl, by omega, h.right.ok f hf⟩

set_option maxHeartbeats 1000000 in
set_option maxRecDepth 1000000 in
theorem sync_any (w : World) (db mb : Nat) (q : Int) (L : List Fl) (vs : Int → Value) (h : DiskAt w db mb q L vs) (n : Int) (hwf : (Lit.int .i64 n).wf = true) :
    Calls Try.prog 50 #[.pointer (some ⟨db, 0, none⟩), .int .i64 n] w (DoPost w db mb q L vs (actSync L n)) := by
  have HH : Hid (DiskAt w db mb q L vs) := h
  obtain ⟨_, _, k2⟩ := h.cell
  have hdl : db < w.heap.size := h.lt (.inl rfl)
  clear h
  cases hl : look L n with
  | none =>
    have HA : Hid (actSync L n = (113, L)) := by show _ = _; simp [actSync, hl]
    have hs : (slot L vs n).isSome = false := by rw [slot_none hl]; rfl
    have hthere : fileV ((slot L vs n).getD noFile) = .agg #[.slice none 0 0, .int .i64 0] := by rw [slot_none hl]; rfl
    clear hl
    go_enter Try.func50, Try.ntmps50
    go_wp2_with (at_lookup; refine wpList_flook rfl _ _ rfl mb L.length (slot L vs) n rfl rfl HH.out.tab hwf ?_; rw [hthere, hs])
    go_ret
    rw [HA.out]
    have B : Below w.heap.size w (w.alloc (.cells #[.slice none 0 0, .int .i64 0] 92)) := (Below.refl _ w).alloc (Nat.le_refl _) _
    exact ⟨rfl, vs, HH.out.below B, Turned.ofBelow B⟩
  | some f =>
    obtain ⟨a0, c0, hvs, hown, hthere⟩ := HH.out.is hl
    obtain ⟨hf, hfn, hfl, hfs, hn1⟩ := HH.out.wf hl
    have hs : (slot L vs n).isSome = true := by rw [slot_some hl]; rfl
    obtain ⟨n0, hn0⟩ : ∃ n0, n0 = f.data.length := ⟨_, rfl⟩
    have HA : Hid (actSync L n = (0, ins L ⟨n, f.data.take n0, n0⟩)) := by
      show _ = _
      rw [actSync, hl, hn0]
      simp
    have HR : Hid (Right q (ins L ⟨n, f.data.take n0, n0⟩)) := right_ins HH.out.right (by rw [hn0]; simp) hn1 (by have := HH.out.right.fits; rw [hl, hn0]; simp [lenOf]; omega)
    rw [← hn0] at hthere hvs hown
    obtain ⟨w1, hw1⟩ : ∃ w1, w1 = w.alloc (.cells #[.slice a0 n0 c0, .int .i64 (f.safe : Int)] 92) := ⟨_, rfl⟩
    have B1 : Below w.heap.size w w1 := by rw [hw1]; exact (Below.refl _ w).alloc (Nat.le_refl _) _
    have HB : Hid (Below w.heap.size w w1 ∧ Own w1 0 (.slice a0 n0 c0) f.data ∧ vs n = .slice a0 n0 c0 ∧ f ∈ L ∧ f.num = n) := ⟨B1, hown.below B1, hvs, hf, hfn⟩
    have hn0b : n0 ≤ 67108864 := by omega
    clear hl B1 hvs hown hf hfn hfl hfs hn1 hn0
    go_enter Try.func50, Try.ntmps50
    go_wp2_with (first
      | (at_lookup; refine wpList_flook rfl _ _ rfl mb L.length (slot L vs) n rfl rfl HH.out.tab hwf ?_; rw [hthere, hs])
      | (go_at_call 56
         rw [← hw1]
         refine (first_any (.slice a0 n0 c0) f.data (f.safe : Int) n0 w1 HB.out.2.1 hn0b).mono ?_
         rintro e w2 ⟨v2, rfl, o2, b2, m2⟩
         have H2 : Hid (Own w2 0 v2 (f.data.take n0) ∧ Below w1.heap.size w1 w2 ∧ (v2 = .slice a0 n0 c0 ∨ ∃ k, v2.ownBlock = some k ∧ w1.heap.size ≤ k)) := ⟨o2, b2, m2⟩
         clear o2 b2 m2)
      | (go_at_call 55
         have hd2 : DiskAt w2 db mb q L vs := (HH.out.below HB.out.1).below H2.out.2.1
         have hap := hd2.apart_old HB.out.2.2.2.1 (w0 := w1) (fun k hk => (HH.out.below HB.out.1).lt hk) (v := v2) (by rw [HB.out.2.2.2.2, HB.out.2.2.1]; exact H2.out.2.2)
         have HP : Hid (∀ k, v2.ownBlock = some k → Mine db mb L vs k ∨ w1.heap.size ≤ k) := hap.2
         refine (set_any w2 db mb q L vs hd2 ⟨n, f.data.take n0, n0⟩ v2 H2.out.1 (by have := hap.1; rw [HB.out.2.2.2.2] at this; exact this) HR.out).mono ?_
         rintro e w3 ⟨rfl, d3, k3⟩
         have H3 : Hid (DiskAt w3 db mb q (ins L ⟨n, f.data.take n0, n0⟩) (upd vs n v2) ∧ Kept (fun k => k = db ∨ k = mb) w2 w3) := ⟨d3, k3⟩
         clear d3 k3 hd2 hap))
    go_ret
    rw [HA.out]
    have hw : w.heap.size ≤ w1.heap.size := HB.out.1.size
    exact ⟨rfl, _, H3.out.1, (Turned.ofBelow (HB.out.1.trans (H2.out.2.1.mono HB.out.1.size))).laid HH.out.right.rise H3.out.2 ⟨n, f.data.take n0, n0⟩ v2 (fun k e => by
      rcases HP.out k e with e | e
      · exact .inl e
      · exact .inr (by omega))⟩

set_option maxHeartbeats 1000000 in
set_option maxRecDepth 1000000 in
theorem cut_any (w : World) (db mb : Nat) (q : Int) (L : List Fl) (vs : Int → Value) (h : DiskAt w db mb q L vs) (n z : Int) (hwf : (Lit.int .i64 n).wf = true) :
    Calls Try.prog 51 #[.pointer (some ⟨db, 0, none⟩), .int .i64 n, .int .i64 z] w (DoPost w db mb q L vs (actCut L n z)) := by
  have HH : Hid (DiskAt w db mb q L vs) := h
  obtain ⟨_, _, k2⟩ := h.cell
  have hdl : db < w.heap.size := h.lt (.inl rfl)
  clear h
  cases hl : look L n with
  | none =>
    have HA : Hid (actCut L n z = (113, L)) := by show _ = _; simp [actCut, hl]
    have hs : (slot L vs n).isSome = false := by rw [slot_none hl]; rfl
    have hthere : fileV ((slot L vs n).getD noFile) = .agg #[.slice none 0 0, .int .i64 0] := by rw [slot_none hl]; rfl
    clear hl
    go_enter Try.func51, Try.ntmps51
    go_wp2_with (at_lookup; refine wpList_flook rfl _ _ rfl mb L.length (slot L vs) n rfl rfl HH.out.tab hwf ?_; rw [hthere, hs])
    go_ret
    rw [HA.out]
    have B : Below w.heap.size w (w.alloc (.cells #[.slice none 0 0, .int .i64 0] 92)) := (Below.refl _ w).alloc (Nat.le_refl _) _
    exact ⟨rfl, vs, HH.out.below B, Turned.ofBelow B⟩
  | some f =>
    obtain ⟨a0, c0, hvs, hown, hthere⟩ := HH.out.is hl
    obtain ⟨hf, hfn, hfl, hfs, hn1⟩ := HH.out.wf hl
    have hs : (slot L vs n).isSome = true := by rw [slot_some hl]; rfl
    obtain ⟨w1, hw1⟩ : ∃ w1, w1 = w.alloc (.cells #[.slice a0 f.data.length c0, .int .i64 (f.safe : Int)] 92) := ⟨_, rfl⟩
    have B1 : Below w.heap.size w w1 := by rw [hw1]; exact (Below.refl _ w).alloc (Nat.le_refl _) _
    have HB : Hid (Below w.heap.size w w1 ∧ Own w1 0 (.slice a0 f.data.length c0) f.data ∧ vs n = .slice a0 f.data.length c0 ∧ f ∈ L ∧ f.num = n) := ⟨B1, hown.below B1, hvs, hf, hfn⟩
    by_cases hz : 0 ≤ z ∧ z ≤ f.data.length
    · obtain ⟨zn, rfl⟩ := Int.eq_ofNat_of_zero_le hz.1
      have hzb : zn ≤ 67108864 := by omega
      have hwb : withinB (zn : Int) 0 (f.data.length : Int) = true := by simp [withinB]; omega
      have HA : Hid (actCut L n (zn : Int) = (0, ins L ⟨n, f.data.take zn, zn⟩)) := by
        show _ = _
        rw [actCut, hl]
        simp only []
        rw [if_pos hz]
        simp
      have HR : Hid (Right q (ins L ⟨n, f.data.take zn, zn⟩)) := right_ins HH.out.right (by simp; omega) hn1 (by have := HH.out.right.fits; rw [hl]; simp [lenOf]; omega)
      clear hl B1 hvs hown hf hfn hfl hfs hn1 hz
      go_enter Try.func51, Try.ntmps51
      go_wp2_with (first
        | (at_lookup; refine wpList_flook rfl _ _ rfl mb L.length (slot L vs) n rfl rfl HH.out.tab hwf ?_; rw [hthere, hs])
        | (go_at_call 62; refine (within_any (zn : Int) 0 (f.data.length : Int) _).mono ?_; rintro e wx ⟨rfl, hW⟩; have hW := hW.symm; subst hW; rw [hwb])
        | (go_at_call 56
           rw [← hw1]
           refine (first_any (.slice a0 f.data.length c0) f.data (f.safe : Int) zn w1 HB.out.2.1 hzb).mono ?_
           rintro e w2 ⟨v2, rfl, o2, b2, m2⟩
           have H2 : Hid (Own w2 0 v2 (f.data.take zn) ∧ Below w1.heap.size w1 w2 ∧ (v2 = .slice a0 f.data.length c0 ∨ ∃ k, v2.ownBlock = some k ∧ w1.heap.size ≤ k)) := ⟨o2, b2, m2⟩
           clear o2 b2 m2)
        | (go_at_call 55
           have hd2 : DiskAt w2 db mb q L vs := (HH.out.below HB.out.1).below H2.out.2.1
           have hap := hd2.apart_old HB.out.2.2.2.1 (w0 := w1) (fun k hk => (HH.out.below HB.out.1).lt hk) (v := v2) (by rw [HB.out.2.2.2.2, HB.out.2.2.1]; exact H2.out.2.2)
           have HP : Hid (∀ k, v2.ownBlock = some k → Mine db mb L vs k ∨ w1.heap.size ≤ k) := hap.2
           refine (set_any w2 db mb q L vs hd2 ⟨n, f.data.take zn, zn⟩ v2 H2.out.1 (by have := hap.1; rw [HB.out.2.2.2.2] at this; exact this) HR.out).mono ?_
           rintro e w3 ⟨rfl, d3, k3⟩
           have H3 : Hid (DiskAt w3 db mb q (ins L ⟨n, f.data.take zn, zn⟩) (upd vs n v2) ∧ Kept (fun k => k = db ∨ k = mb) w2 w3) := ⟨d3, k3⟩
           clear d3 k3 hd2 hap))
      go_ret
      rw [HA.out]
      have hw : w.heap.size ≤ w1.heap.size := HB.out.1.size
      exact ⟨rfl, _, H3.out.1, (Turned.ofBelow (HB.out.1.trans (H2.out.2.1.mono HB.out.1.size))).laid HH.out.right.rise H3.out.2 ⟨n, f.data.take zn, zn⟩ v2 (fun k e => by
        rcases HP.out k e with e | e
        · exact .inl e
        · exact .inr (by omega))⟩
    · have hwb : withinB z 0 (f.data.length : Int) = false := by simp [withinB]; omega
      have HA : Hid (actCut L n z = (114, L)) := by
        show _ = _
        rw [actCut, hl]
        simp only []
        rw [if_neg hz]
      clear hl B1 hvs hown hf hfn hfl hfs hn1 hz
      go_enter Try.func51, Try.ntmps51
      go_wp2_with (first
        | (at_lookup; refine wpList_flook rfl _ _ rfl mb L.length (slot L vs) n rfl rfl HH.out.tab hwf ?_; rw [hthere, hs])
        | (go_at_call 62; refine (within_any z 0 (f.data.length : Int) _).mono ?_; rintro e wx ⟨rfl, hW⟩; have hW := hW.symm; subst hW; rw [hwb]))
      go_ret
      rw [HA.out, ← hw1]
      exact ⟨rfl, vs, HH.out.below HB.out.1, Turned.ofBelow HB.out.1⟩
end Go.Proofs.Ytkmolklcbemfbaa
