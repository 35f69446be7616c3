/-
  The walk of check; a list of files that is handed in.
-/
import Derived.Test.YtkmolklcbemfbaaFilesW
namespace Go.Proofs.Ytkmolklcbemfbaa
open Go.RowKit Go.Maps

/-- A file as it is handed in. -/
structure Rf where
  num : Int
  data : List UInt8
  safe : Int
def raw (f : Fl) : Rf := ⟨f.num, f.data, f.safe⟩
def cook (x : Rf) : Fl := ⟨x.num, x.data, x.safe.toNat⟩
theorem cook_raw (f : Fl) : cook (raw f) = f := by simp [cook, raw]
def totR (R : List Rf) : Nat := (R.map fun x => x.data.length).sum
def chkL : Int → List Rf → Int
  | _, [] => 0
  | last, x :: r => if withinB x.num (last + 1) 1099511627776 = true then (if withinB x.safe 0 (x.data.length : Int) = true then chkL x.num r else 114) else 111
/-- Whether a disk may have that quota and these files. -/
def chk (q : Int) (R : List Rf) : Int := if withinB q 1024 67108864 = true then (if chkL 0 R = 0 then (if q < (totR R : Int) then 115 else 0) else chkL 0 R) else 110

/-- The cells of one. -/
def RawAt (w : World) (b o : Nat) (x : Rf) : Prop :=
  w.cell? ⟨b, o, none⟩ = some (.int .i64 x.num) ∧ (∃ a c, w.cell? ⟨b, o + 1, none⟩ = some (.slice a x.data.length c) ∧ IsBytes w a c x.data) ∧ w.cell? ⟨b, o + 2, none⟩ = some (.int .i64 x.safe)
def rawFits (x : Rf) : Prop := (Lit.int .i64 x.num).wf = true ∧ (Lit.int .i64 x.safe).wf = true
/-- The slice at 'a', of capacity c, has the files R. -/
def IsRaw (w : World) (a : Option Addr) (c : Nat) (R : List Rf) : Prop :=
  R.length ≤ c ∧ c ≤ maxLen ∧ (∀ x ∈ R, rawFits x) ∧ (R = [] ∨ ∃ b o, a = some ⟨b, o, none⟩ ∧ b < w.heap.size ∧ ∀ (j : Nat) x, R[j]? = some x → RawAt w b (o + j * 3) x)
theorem RawAt.below {w w' : World} {b o : Nat} {x : Rf} (h : RawAt w b o x) (hb : b < w.heap.size) (hB : Below w.heap.size w w') : RawAt w' b o x := by
  obtain ⟨h0, ⟨a, c, h1, h2⟩, h3⟩ := h
  exact ⟨(hB.cell (p := ⟨b, o, none⟩) hb).trans h0, ⟨a, c, (hB.cell (p := ⟨b, o + 1, none⟩) hb).trans h1, h2.below hB⟩, (hB.cell (p := ⟨b, o + 2, none⟩) hb).trans h3⟩
theorem IsRaw.below {w w' : World} {a : Option Addr} {c : Nat} {R : List Rf} (h : IsRaw w a c R) (hB : Below w.heap.size w w') : IsRaw w' a c R := by
  obtain ⟨h1, h2, h3, h4⟩ := h
  refine ⟨h1, h2, h3, ?_⟩
  rcases h4 with h | ⟨b, o, ha, hb, hc⟩
  · exact .inl h
  · exact .inr ⟨b, o, ha, Nat.lt_of_lt_of_le hb hB.size, fun j x hj => (hc j x hj).below hb hB⟩
theorem IsRaw.at {w : World} {a : Option Addr} {c : Nat} {R : List Rf} (h : IsRaw w a c R) {j : Nat} {x : Rf} (hx : R[j]? = some x) : ∃ b o, a = some ⟨b, o, none⟩ ∧ b < w.heap.size ∧ RawAt w b (o + j * 3) x := by
  rcases h.2.2.2 with rfl | ⟨b, o, ha, hb, hc⟩
  · simp at hx
  · exact ⟨b, o, ha, hb, hc j x hx⟩

theorem totR_take (R : List Rf) (k : Nat) (x : Rf) (h : R[k]? = some x) : totR (R.take (k + 1)) = totR (R.take k) + x.data.length := by
  unfold totR
  rw [List.take_add_one, h]
  simp
theorem totR_le (R : List Rf) (k : Nat) : totR (R.take k) ≤ totR R := by
  have h : totR R = totR (R.take k) + totR (R.drop k) := by unfold totR; rw [← List.sum_append, ← List.map_append, List.take_append_drop]
  omega
/-- The number ahead of the k-th file. -/
def lastR (R : List Rf) : Nat → Int
  | 0 => 0
  | k + 1 => match R[k]? with | some x => x.num | none => 0
theorem drop_at {α : Type} {R : List α} {k : Nat} {x : α} (h : R[k]? = some x) : R.drop k = x :: R.drop (k + 1) := by
  obtain ⟨hk, rfl⟩ := List.getElem?_eq_some_iff.1 h
  exact List.drop_eq_getElem_cons hk

set_option maxHeartbeats 2000000 in
set_option maxRecDepth 1000000 in
theorem check_any (q : Int) (a : Option Addr) (c : Nat) (R : List Rf) (w : World) (h : IsRaw w a c R) (ht : totR R ≤ 4611686018427387904) :
    Calls Try.prog 58 #[.int .i64 q, .slice a R.length c] w fun e w' => e = .returned (.int .i64 (chk q R)) ∧ Below w.heap.size w w' := by
  have HH : Hid (IsRaw w a c R) := h
  have hcl : R.length ≤ 9223372036854775807 := by have := h.1; have := h.2.1; unfold maxLen at this; omega
  clear h
  cases hq : withinB q 1024 67108864 with
  | false =>
    have HC : Hid (chk q R = 110) := by show _ = _; rw [chk, hq]; rfl
    go_enter Try.func58, Try.ntmps58
    go_wp2_with (go_at_call 62; refine (within_any q 1024 67108864 _).mono ?_; rintro e w1 ⟨rfl, hW⟩; have hW := hW.symm; subst hW; rw [hq])
    go_ret
    exact ⟨by rw [HC.out]; rfl, Below.refl _ _⟩
  | true =>
    have HC : Hid (chk q R = (if chkL 0 R = 0 then (if q < (totR R : Int) then 115 else 0) else chkL 0 R)) := by show _ = _; rw [chk, hq]; rfl
    go_enter Try.func58, Try.ntmps58
    go_wp2_with (go_at_call 62; refine (within_any q 1024 67108864 _).mono ?_; rintro e w1 ⟨rfl, hW⟩; have hW := hW.symm; subst hW; rw [hq])
    clear hq
    go_loopg [5, 6, 14] R.length (fun gk l u i wr => ∃ (k t : Nat) (la : Int), l = .int .i64 la ∧ u = .int .i64 t ∧ i = .int .i64 k ∧ k ≤ R.length ∧ R.length - k ≤ gk ∧ Hid (la = lastR R k ∧ t = totR (R.take k) ∧ chkL 0 R = chkL la (R.drop k) ∧ 0 ≤ la ∧ la ≤ 1099511627776 ∧ Below w.heap.size w wr))
    case atStart => exact ⟨0, 0, 0, rfl, rfl, rfl, Nat.zero_le _, Nat.le_refl _, rfl, by simp [totR], by simp, by omega, by omega, Below.refl _ _⟩
    case round =>
      obtain ⟨k, t, la, rfl, rfl, rfl, hk, hgk, HI⟩ := hrel
      have hla0 : 0 ≤ la := HI.out.2.2.2.1
      have hla1 : la ≤ 1099511627776 := HI.out.2.2.2.2.1
      have htb : (t : Int) ≤ 4611686018427387904 := by have := totR_le R k; have := HI.out.2.1; omega
      by_cases hp : k < R.length
      · have hpi : (k : Int) < (R.length : Int) := by omega
        obtain ⟨x, hx⟩ : ∃ x, R[k]? = some x := ⟨_, List.getElem?_eq_getElem hp⟩
        obtain ⟨b, o, rfl, hb, k0, ⟨xa, xc, k1, kb⟩, k2⟩ := (HH.out.below HI.out.2.2.2.2.2).at hx
        have hxl : (x.data.length : Int) ≤ 4611686018427387904 := by have := totR_le R (k + 1); rw [totR_take R k x hx] at this; omega
        have hst : chkL 0 R = (if withinB x.num (la + 1) 1099511627776 = true then (if withinB x.safe 0 (x.data.length : Int) = true then chkL x.num (R.drop (k + 1)) else 114) else 111) := by
          rw [HI.out.2.2.1, drop_at hx]
          rfl
        have HS : Hid (chkL 0 R = (if withinB x.num (la + 1) 1099511627776 = true then (if withinB x.safe 0 (x.data.length : Int) = true then chkL x.num (R.drop (k + 1)) else 114) else 111) ∧ R[k]? = some x) := ⟨hst, hx⟩
        obtain ⟨w1, hw1⟩ : ∃ w1, w1 = wr.alloc (.cells #[.int .i64 x.num, .slice xa x.data.length xc, .int .i64 x.safe] 61) := ⟨_, rfl⟩
        have B1 : Below w.heap.size w w1 := by rw [hw1]; exact HI.out.2.2.2.2.2.alloc HI.out.2.2.2.2.2.size _
        have HB : Hid (Below w.heap.size w w1) := B1
        clear hst hx B1
        cases hn : withinB x.num (la + 1) 1099511627776 with
        | false =>
          go_wp2_with (go_at_call 62; refine (within_any _ _ _ _).mono ?_; rintro e wx ⟨rfl, hW⟩; have hW := hW.symm; subst hW; rw [hn])
          go_ret
          have h1 : chkL 0 R = 111 := by rw [HS.out.1, hn]; rfl
          rw [← hw1]
          exact ⟨by rw [HC.out, h1]; rfl, HB.out⟩
        | true =>
          have hnb : 0 ≤ x.num ∧ x.num ≤ 1099511627776 := by simp [withinB] at hn; omega
          cases hs : withinB x.safe 0 (x.data.length : Int) with
          | false =>
            go_wp2_with (go_at_call 62; refine (within_any _ _ _ _).mono ?_; rintro e wx ⟨rfl, hW⟩; have hW := hW.symm; subst hW; first | rw [hn] | rw [hs])
            go_ret
            have h1 : chkL 0 R = 114 := by rw [HS.out.1, hn, hs]; rfl
            rw [← hw1]
            exact ⟨by rw [HC.out, h1]; rfl, HB.out⟩
          | true =>
            obtain ⟨hn0, hn1⟩ := hnb
            obtain ⟨t2, ht2⟩ : ∃ t2 : Nat, t2 = t + x.data.length := ⟨_, rfl⟩
            have HT2 : Hid (t2 = totR (R.take (k + 1)) ∧ t2 ≤ 4611686018427387904) := by
              have h1 := totR_take R k x HS.out.2
              have h2 := totR_le R (k + 1)
              have h3 := HI.out.2.1
              refine ⟨?_, ?_⟩ <;> omega
            go_wp2_with (go_at_call 62; refine (within_any _ _ _ _).mono ?_; rintro e wx ⟨rfl, hW⟩; have hW := hW.symm; subst hW; first | rw [hn] | rw [hs])
            rw [← hw1]
            have hbx : w1.heap[wr.heap.size]? = some (.cells #[.int .i64 x.num, .slice xa x.data.length xc, .int .i64 x.safe] 61 (0, 0)) := by rw [hw1]; exact heap_alloc_new wr _
            have e0 : w1.cell? ⟨wr.heap.size, 0, none⟩ = some (.int .i64 x.num) := by simp [World.cell?, hbx]
            have e1 : w1.cell? ⟨wr.heap.size, 1, none⟩ = some (.slice xa x.data.length xc) := by simp [World.cell?, hbx]
            have hts : (t : Int) + (x.data.length : Int) = (t2 : Int) := by omega
            have htw : IntKind.i64.wrap (t2 : Int) = (t2 : Int) := IntWalk.i64_in _ (by have := HT2.out.2; omega)
            have htw2 : wrap64 (t2 : Int) = (t2 : Int) := by rw [← IntWalk.i64_left]; exact htw
            clear hw1 hbx k0 k1 k2 kb ht2 hxl htb
            go_quiet (fail)
            go_wp2_with fail
            go_roundg (R.length - (k + 1))
            case measure => omega
            case rel =>
              refine ⟨k + 1, t2, x.num, rfl, rfl, by go_num, by omega, Nat.le_refl _, ?_⟩
              exact ⟨by simp [lastR, HS.out.2], HT2.out.1, by rw [HS.out.1, hn, hs]; rfl, hn0, hn1, below_drewN HB.out _⟩
      · have hpi : ¬ (k : Int) < (R.length : Int) := by omega
        have hz : chkL 0 R = 0 := by rw [HI.out.2.2.1, List.drop_eq_nil_of_le (by omega)]; rfl
        have htt : t = totR R := by rw [HI.out.2.1, List.take_of_length_le (by omega)]
        have HZ : Hid (chkL 0 R = 0 ∧ t = totR R) := ⟨hz, htt⟩
        clear hz htt
        by_cases hqt : q < (t : Int)
        · go_wp2_with fail
          go_ret
          exact ⟨by rw [HC.out, if_pos HZ.out.1, if_pos (by rw [← HZ.out.2]; exact hqt)]; rfl, HI.out.2.2.2.2.2⟩
        · go_wp2_with fail
          go_ret
          exact ⟨by rw [HC.out, if_pos HZ.out.1, if_neg (by rw [← HZ.out.2]; omega)]; rfl, HI.out.2.2.2.2.2⟩
end Go.Proofs.Ytkmolklcbemfbaa
