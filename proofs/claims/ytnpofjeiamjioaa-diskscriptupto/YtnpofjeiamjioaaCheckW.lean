/-
  The walk of check; a list of files that is handed in.
-/
import Derived.Test.YtnpofjeiamjioaaFilesW
import Derived.Test.YtnpofjeiamjioaaRawF
namespace Go.Proofs.Ytnpofjeiamjioaa
open Go.RowKit Go.Maps

set_option maxHeartbeats 2000000 in
set_option maxRecDepth 1000000 in
theorem check_any (q : Int) (a : Option Addr) (c : Nat) (R : List Rf) (w : World) (h : IsRaw w a c R) (ht : totR R ≤ 4611686018427387904) :
    Calls Try.prog 54 #[.int .i64 q, .slice a R.length c] w fun e w' => e = .returned (.int .i64 (chk q R)) ∧ Below w.heap.size w w' := by
  have HH : Hid (IsRaw w a c R) := h
  have hcl : R.length ≤ 9223372036854775807 := by have := h.1; have := h.2.1; unfold maxLen at this; omega
  clear h
  cases hq : withinB q 1024 67108864 with
  | false =>
    have HC : Hid (chk q R = 110) := by show _ = _; rw [chk, hq]; rfl
    go_enter Try.func54, Try.ntmps54
    go_wp2_with (go_at_call 58; refine (within_any q 1024 67108864 _).mono ?_; rintro e w1 ⟨rfl, hW⟩; have hW := hW.symm; subst hW; rw [hq])
    go_ret
    exact ⟨by rw [HC.out]; rfl, Below.refl _ _⟩
  | true =>
    have HC : Hid (chk q R = (if chkL 0 R = 0 then (if q < (totR R : Int) then 115 else 0) else chkL 0 R)) := by show _ = _; rw [chk, hq]; rfl
    go_enter Try.func54, Try.ntmps54
    go_wp2_with (go_at_call 58; refine (within_any q 1024 67108864 _).mono ?_; rintro e w1 ⟨rfl, hW⟩; have hW := hW.symm; subst hW; rw [hq])
    clear hq
    go_loopg [5, 6, 14] R.length (fun gk l u i wr => ∃ (k t : Nat) (la : Int), l = .int .i64 la ∧ u = .int .i64 t ∧ i = .int .i64 k ∧ k ≤ R.length ∧ R.length - k ≤ gk ∧ Hid (la = lastR R k ∧ t = totR (R.take k) ∧ chkL 0 R = chkL la (R.drop k) ∧ 0 ≤ la ∧ la ≤ 1099511627776 ∧ Below w.heap.size w wr))
    case atStart => exact ⟨0, 0, 0, rfl, rfl, rfl, Nat.zero_le _, Nat.le_refl _, rfl, by simp [totR], by simp, by omega, by omega, Below.refl _ _⟩
    case round =>
      obtain ⟨k, t, la, rfl, rfl, rfl, hk, hgk, HI⟩ := hrel
      have hla0 : 0 ≤ la := HI.out.2.2.2.1
      have hla1 : la ≤ 1099511627776 := HI.out.2.2.2.2.1
      have htb : (t : Int) ≤ 4611686018427387904 := by have := totR_le R k; have := HI.out.2.1; omega
      by_cases hp : k < R.length
      · have hpi : (k : Int) < (R.length : Int) := by omega
        obtain ⟨x, hx⟩ : ∃ x, R[k]? = some x := ⟨_, List.getElem?_eq_getElem hp⟩
        obtain ⟨b, o, rfl, hb, k0, ⟨xa, xc, k1, kb⟩, k2⟩ := (HH.out.below HI.out.2.2.2.2.2).at hx
        have hxl : (x.data.length : Int) ≤ 4611686018427387904 := by have := totR_le R (k + 1); rw [totR_take R k x hx] at this; omega
        have hst : chkL 0 R = (if withinB x.num (la + 1) 1099511627776 = true then (if withinB x.safe 0 (x.data.length : Int) = true then chkL x.num (R.drop (k + 1)) else 114) else 111) := by
          rw [HI.out.2.2.1, drop_at hx]
          rfl
        have HS : Hid (chkL 0 R = (if withinB x.num (la + 1) 1099511627776 = true then (if withinB x.safe 0 (x.data.length : Int) = true then chkL x.num (R.drop (k + 1)) else 114) else 111) ∧ R[k]? = some x) := ⟨hst, hx⟩
        obtain ⟨w1, hw1⟩ : ∃ w1, w1 = wr.alloc (.cells #[.int .i64 x.num, .slice xa x.data.length xc, .int .i64 x.safe] 62) := ⟨_, rfl⟩
        have B1 : Below w.heap.size w w1 := by rw [hw1]; exact HI.out.2.2.2.2.2.alloc HI.out.2.2.2.2.2.size _
        have HB : Hid (Below w.heap.size w w1) := B1
        clear hst hx B1
        cases hn : withinB x.num (la + 1) 1099511627776 with
        | false =>
          go_wp2_with (go_at_call 58; refine (within_any _ _ _ _).mono ?_; rintro e wx ⟨rfl, hW⟩; have hW := hW.symm; subst hW; rw [hn])
          go_ret
          have h1 : chkL 0 R = 111 := by rw [HS.out.1, hn]; rfl
          rw [← hw1]
          exact ⟨by rw [HC.out, h1]; rfl, HB.out⟩
        | true =>
          have hnb : 0 ≤ x.num ∧ x.num ≤ 1099511627776 := by simp [withinB] at hn; omega
          cases hs : withinB x.safe 0 (x.data.length : Int) with
          | false =>
            go_wp2_with (go_at_call 58; refine (within_any _ _ _ _).mono ?_; rintro e wx ⟨rfl, hW⟩; have hW := hW.symm; subst hW; first | rw [hn] | rw [hs])
            go_ret
            have h1 : chkL 0 R = 114 := by rw [HS.out.1, hn, hs]; rfl
            rw [← hw1]
            exact ⟨by rw [HC.out, h1]; rfl, HB.out⟩
          | true =>
            obtain ⟨hn0, hn1⟩ := hnb
            obtain ⟨t2, ht2⟩ : ∃ t2 : Nat, t2 = t + x.data.length := ⟨_, rfl⟩
            have HT2 : Hid (t2 = totR (R.take (k + 1)) ∧ t2 ≤ 4611686018427387904) := by
              have h1 := totR_take R k x HS.out.2
              have h2 := totR_le R (k + 1)
              have h3 := HI.out.2.1
              refine ⟨?_, ?_⟩ <;> omega
            go_wp2_with (go_at_call 58; refine (within_any _ _ _ _).mono ?_; rintro e wx ⟨rfl, hW⟩; have hW := hW.symm; subst hW; first | rw [hn] | rw [hs])
            rw [← hw1]
            have hbx : w1.heap[wr.heap.size]? = some (.cells #[.int .i64 x.num, .slice xa x.data.length xc, .int .i64 x.safe] 62 (0, 0)) := by rw [hw1]; exact heap_alloc_new wr _
            have e0 : w1.cell? ⟨wr.heap.size, 0, none⟩ = some (.int .i64 x.num) := by simp [World.cell?, hbx]
            have e1 : w1.cell? ⟨wr.heap.size, 1, none⟩ = some (.slice xa x.data.length xc) := by simp [World.cell?, hbx]
            have hts : (t : Int) + (x.data.length : Int) = (t2 : Int) := by omega
            have htw : IntKind.i64.wrap (t2 : Int) = (t2 : Int) := IntWalk.i64_in _ (by have := HT2.out.2; omega)
            have htw2 : wrap64 (t2 : Int) = (t2 : Int) := by rw [← IntWalk.i64_left]; exact htw
            clear hw1 hbx k0 k1 k2 kb ht2 hxl htb
            go_quiet (fail)
            go_wp2_with fail
            go_roundg (R.length - (k + 1))
            case measure => omega
            case rel =>
              refine ⟨k + 1, t2, x.num, rfl, rfl, by go_num, by omega, Nat.le_refl _, ?_⟩
              exact ⟨by simp [lastR, HS.out.2], HT2.out.1, by rw [HS.out.1, hn, hs]; rfl, hn0, hn1, below_drewN HB.out _⟩
      · have hpi : ¬ (k : Int) < (R.length : Int) := by omega
        have hz : chkL 0 R = 0 := by rw [HI.out.2.2.1, List.drop_eq_nil_of_le (by omega)]; rfl
        have htt : t = totR R := by rw [HI.out.2.1, List.take_of_length_le (by omega)]
        have HZ : Hid (chkL 0 R = 0 ∧ t = totR R) := ⟨hz, htt⟩
        clear hz htt
        by_cases hqt : q < (t : Int)
        · go_wp2_with fail
          go_ret
          exact ⟨by rw [HC.out, if_pos HZ.out.1, if_pos (by rw [← HZ.out.2]; exact hqt)]; rfl, HI.out.2.2.2.2.2⟩
        · go_wp2_with fail
          go_ret
          exact ⟨by rw [HC.out, if_pos HZ.out.1, if_neg (by rw [← HZ.out.2]; omega)]; rfl, HI.out.2.2.2.2.2⟩
end Go.Proofs.Ytnpofjeiamjioaa
