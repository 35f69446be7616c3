/-
  The walk of the document's Feed.
-/
import Derived.Test.YtomgnailgddchaaDoorRQA
namespace Go.Proofs.YtomgnailgddchaaDoor
open Go.RowKit Go.Sort

theorem repsF_len : ∀ (f : Nat) (b : List UInt8), (repsF f b).length ≤ b.length
  | 0, _ => Nat.zero_le _
  | f + 1, b => by
    unfold repsF
    by_cases h : (readP b).2.2 = 0
    · rw [if_pos h]
      have hg := read_good b h
      have := repsF_len f (b.drop (readP b).2.1)
      rw [List.length_drop] at this
      simp only [List.length_cons]
      omega
    · rw [if_neg h]
      exact Nat.zero_le _
theorem DRel.bounds {A : List UInt8} {g : Nat} {d : Dc} (h : DRel A g d) (hb : d.bad = false) : d.L.length ≤ A.length ∧ d.line.length ≤ A.length ∧ d.r.body.length ≤ A.length ∧ d.cnt ≤ A.length ∧ (d.inB = true → -1099511627776 ≤ d.left ∧ d.left ≤ 1099511627776) := by
  have hz : (scan A).2 = 0 := by
    have := h.bad
    rw [hb] at this
    simpa using this.symm
  have hL : d.L.length ≤ A.length := by
    rw [h.L]
    refine Nat.le_trans (repsF_len _ _) ?_
    rw [List.length_drop]
    omega
  have hc := h.cnt
  rw [if_pos hz] at hc
  have hU : (A.drop (scan A).1).length ≤ A.length := by rw [List.length_drop]; omega
  generalize hu : A.drop (scan A).1 = U at hU
  have hrel := h.rel hz
  rw [hu] at hrel
  rcases hrel.st with ⟨i1, i2, i3, _⟩ | ⟨k, k1, k2, _, _, i1, i2, i3, i4, i5, i6⟩
  · exact ⟨hL, by rw [i2]; exact hU, by rw [i3]; exact Nat.zero_le _, by omega, fun e => by rw [i1] at e; cases e⟩
  · have hs := (sizeR_bound k (by omega) U)
    have hs2 : (lnS k U).size ≤ 4294967295 := by
      have e : (lnS k U).size = (lineS k U st0).size := (ln_same k U _).2
      rw [e]
      exact (size_bound k (by omega) U).2
    refine ⟨hL, ?_, ?_, by omega, fun _ => ⟨by omega, ?_⟩⟩
    · rw [i2, List.length_take]; omega
    · rw [i3]
      show ((U.drop _).take _).length ≤ _
      rw [List.length_take, List.length_drop]
      omega
    · have : (lnS k U).pos ≤ U.length := ln_good k U (by assumption)
      omega
theorem feedR_cons (d : Dc) (c : UInt8) (b : List UInt8) : feedR d (c :: b) = if d.bad = true then d else feedR (oneR d c) b := by rw [feedR]
theorem feedR_bad (d : Dc) (b : List UInt8) (h : d.bad = true) : feedR d b = d := by
  cases b with
  | nil => rfl
  | cons c b => rw [feedR_cons, if_pos h]

set_option maxHeartbeats 4000000 in
set_option maxRecDepth 1000000 in
theorem refFeed8_any (w : World) (rb : Nat) (M : Nat → Prop) (d : Dc) (A b : List UInt8) (g : Nat) (a : Option Addr) (c : Nat) (h : ∃ vl vn vb P, RcAt w rb vl vn vb P d ∧ ∀ k, MineD rb vl vn vb P k → M k) (hd : DRel A g d) (hb : IsBytes w a c b) (hap : ∀ q o, a = some ⟨q, o, none⟩ → b ≠ [] → ¬ M q) (hA : A.length + b.length ≤ 1073741823) :
    Calls Tryd.prog 21 #[.pointer (some ⟨rb, 0, none⟩), .slice a b.length c] w fun e w' => e = .returned (.tuple #[]) ∧ WentD w rb M (feedR d b) w' := by
  have hbl : b.length ≤ 9223372036854775807 := by omega
  have HB := hide hb
  have HAP : Hid (∀ q o, a = some ⟨q, o, none⟩ → b ≠ [] → ¬ M q) := hap
  have H0 : Hid (WentD w rb M d w) := by
    obtain ⟨vl, vn, vb, P, h1, h2⟩ := h
    exact ⟨vl, vn, vb, P, h1, Kept.refl _ _, fun k hk => .inl (h2 k hk)⟩
  have HD := hide hd
  clear h hd hb hap
  go_enter Tryd.func21, Tryd.ntmps21
  go_wp2_with fail
  go_loopg [4] b.length (fun gk i wr => ∃ (k : Nat) (e : Dc), i = .int .i64 k ∧ k ≤ b.length ∧ b.length - k ≤ gk ∧ Hid (feedR d b = feedR e (b.drop k)) ∧ Hid (DRel (A ++ b.take k) g e) ∧ Hid (WentD w rb M e wr))
  case atStart => exact ⟨0, d, rfl, Nat.zero_le _, by omega, by rw [List.drop_zero]; exact rfl, by rw [List.take_zero, List.append_nil]; exact HD.out, H0.out⟩
  case round =>
    clear H0 HD
    obtain ⟨k, e, rfl, hk, hgk, HF, HD, HW⟩ := hrel
    obtain ⟨vl, vn, vb, P, hr, hkp, hm⟩ := HW.out
    obtain ⟨c0, c1, c2, c7, c8, c9, c10⟩ := hr.box.cell
    have hltr := hr.box.lt
    clear c0 c1 c2 c7 c8 c9
    by_cases hlt : k < b.length
    · obtain ⟨x, hx⟩ : ∃ x, b[k]? = some x := ⟨_, List.getElem?_eq_getElem hlt⟩
      obtain ⟨q, o, hab, hq, hc⟩ := HB.out.get (by intro h0; rw [h0] at hlt; cases hlt)
      subst hab
      have hnq := HAP.out q o rfl (by intro h0; rw [h0] at hlt; cases hlt)
      have cx : wr.cell? ⟨q, o + k, none⟩ = some (.int .u8 (x.toNat : Int)) := (World.cell?_of_block (hkp.block q hq hnq)).trans (hc k x hx)
      cases hbad : e.bad with
      | true =>
        rw [hbad] at c10
        have HE : Hid (feedR d b = e) := HF.out.trans (feedR_bad _ _ hbad)
        clear hx hc hr hkp hm hbad hq hnq
        go_wp2_with fail
        go_end0
        exact ⟨rfl, by rw [HE.out]; exact HW.out⟩
      | false =>
        rw [hbad] at c10
        have HE : Hid (feedR d b = feedR (oneR e x) (b.drop (k + 1))) := by
          show feedR d b = _
          rw [HF.out, drop_get hx, feedR_cons, if_neg (by rw [hbad]; simp)]
        have hD2 := HD.out.one hbad x
        rw [List.append_assoc, show b.take k ++ [x] = b.take (k + 1) by rw [List.take_add_one, hx]; rfl] at hD2
        have HD2 := hide hD2
        obtain ⟨s1, s2, s3, s4, s5⟩ := HD.out.bounds hbad
        rw [List.length_append, List.length_take] at s1 s2 s3 s4
        have hPl : P.length ≤ 1073741823 := by
          have := congrArg List.length hr.list
          rw [List.length_map] at this
          omega
        have CO : Hid (Calls Tryd.prog 35 #[.pointer (some ⟨rb, 0, none⟩), .int .u8 x.toNat] wr fun e' w' => e' = .returned (.tuple #[]) ∧ WentD wr rb (MineD rb vl vn vb P) (oneR e x) w') := by
          show Calls _ _ _ _ _
          cases hi : e.inB with
          | true => exact one_body wr rb vl vn vb P e x hr hi hPl (by omega) (by omega) (by omega) (s5 hi).1 (s5 hi).2
          | false => exact one_line wr rb vl vn vb P e x hr hi hPl (by omega) (by omega)
        have HK := hide hkp
        have HMm := hide hm
        clear hx hc hr hkp hm hbad hq hnq hD2 s1 s2 s3 s4 s5
        go_wp2_with (go_at_call 35; refine CO.out.mono ?_; rintro e' w5 ⟨rfl, wd⟩; have WD := hide (WentD.trans HK.out HMm.out wd); clear wd)
        go_roundg (b.length - (k + 1))
        case measure => omega
        case rel => exact ⟨k + 1, oneR e x, by go_num, hlt, Nat.le_refl _, HE, HD2, WD⟩
    · have HE : Hid (feedR d b = e) := by
        show feedR d b = _
        rw [HF.out, List.drop_of_length_le (by omega)]
        rfl
      clear hr hkp hm
      go_wp2_with fail
      go_end0
      exact ⟨rfl, by rw [HE.out]; exact HW.out⟩
end Go.Proofs.YtomgnailgddchaaDoor
