/-
  The walk of Do; Used.
-/
import Derived.Test.YtkmolklcbemfbaaActs2
namespace Go.Proofs.Ytkmolklcbemfbaa
open Go.RowKit Go.Maps

theorem DoPost.box {w w1 w' : World} {db mb : Nat} {q : Int} {L : List Fl} {vs : Int → Value} {r : Int × List Fl} {e : Ending} (hb : Below w.heap.size w w1) (h : DoPost w1 db mb q L vs r e w') : DoPost w db mb q L vs r e w' := by
  obtain ⟨h1, vs', h2, h3⟩ := h
  exact ⟨h1, vs', h2, (Turned.ofBelow hb).trans h3⟩

set_option maxHeartbeats 1000000 in
set_option maxRecDepth 1000000 in
theorem do_any (w : World) (db mb : Nat) (q : Int) (L : List Fl) (vs : Int → Value) (h : DiskAt w db mb q L vs) (k n z : Int) (hwf : (Lit.int .i64 n).wf = true) (ad : Option Addr) (dc : Nat) (d : List UInt8) (hd : IsBytes w ad dc d) (hdm : d.length ≤ 140737488355328) :
    Calls Try.prog 20 #[.pointer (some ⟨db, 0, none⟩), .agg #[.int .i64 k, .int .i64 n, .slice ad d.length dc, .int .i64 z]] w (DoPost w db mb q L vs (act q L k n d z)) := by
  obtain ⟨w1, hw1⟩ : ∃ w1, w1 = w.alloc (.cells #[.int .i64 k, .int .i64 n, .slice ad d.length dc, .int .i64 z] 39) := ⟨_, rfl⟩
  have B1 : Below w.heap.size w w1 := by rw [hw1]; exact (Below.refl _ w).alloc (Nat.le_refl _) _
  have H1 : Hid (DiskAt w1 db mb q L vs ∧ IsBytes w1 ad dc d ∧ Below w.heap.size w w1) := ⟨h.below B1, hd.below B1, B1⟩
  have HH : Hid (DiskAt w db mb q L vs) := h
  clear h hd B1
  by_cases k1 : k = 1
  · subst k1
    have HA : Hid (act q L 1 n d z = actCreate L n) := rfl
    go_enter Try.func20, Try.ntmps20
    go_wp2_with (go_at_call 48
                 rw [← hw1]
                 refine (create_any w1 db mb q L vs H1.out.1 n).mono ?_
                 rintro e w2 ⟨rfl, p2⟩
                 have P2 : Hid (∃ vs', DiskAt w2 db mb q (actCreate L n).2 vs' ∧ Turned w1 w2 db mb L vs (actCreate L n).2 vs') := p2
                 clear p2)
    go_ret
    rw [HA.out]
    exact DoPost.box H1.out.2.2 ⟨rfl, P2.out⟩
  by_cases k2 : k = 2
  · subst k2
    have HA : Hid (act q L 2 n d z = actAppend q L n d) := rfl
    go_enter Try.func20, Try.ntmps20
    go_wp2_with (go_at_call 49
                 rw [← hw1]
                 refine (add_any w1 db mb q L vs H1.out.1 n hwf ad dc d H1.out.2.1 hdm).mono ?_
                 rintro e w2 ⟨rfl, p2⟩
                 have P2 : Hid (∃ vs', DiskAt w2 db mb q (actAppend q L n d).2 vs' ∧ Turned w1 w2 db mb L vs (actAppend q L n d).2 vs') := p2
                 clear p2)
    go_ret
    rw [HA.out]
    exact DoPost.box H1.out.2.2 ⟨rfl, P2.out⟩
  by_cases k3 : k = 3
  · subst k3
    have HA : Hid (act q L 3 n d z = actSync L n) := rfl
    go_enter Try.func20, Try.ntmps20
    go_wp2_with (go_at_call 50
                 rw [← hw1]
                 refine (sync_any w1 db mb q L vs H1.out.1 n hwf).mono ?_
                 rintro e w2 ⟨rfl, p2⟩
                 have P2 : Hid (∃ vs', DiskAt w2 db mb q (actSync L n).2 vs' ∧ Turned w1 w2 db mb L vs (actSync L n).2 vs') := p2
                 clear p2)
    go_ret
    rw [HA.out]
    exact DoPost.box H1.out.2.2 ⟨rfl, P2.out⟩
  by_cases k4 : k = 4
  · subst k4
    have HA : Hid (act q L 4 n d z = actCut L n z) := rfl
    go_enter Try.func20, Try.ntmps20
    go_wp2_with (go_at_call 51
                 rw [← hw1]
                 refine (cut_any w1 db mb q L vs H1.out.1 n z hwf).mono ?_
                 rintro e w2 ⟨rfl, p2⟩
                 have P2 : Hid (∃ vs', DiskAt w2 db mb q (actCut L n z).2 vs' ∧ Turned w1 w2 db mb L vs (actCut L n z).2 vs') := p2
                 clear p2)
    go_ret
    rw [HA.out]
    exact DoPost.box H1.out.2.2 ⟨rfl, P2.out⟩
  by_cases k5 : k = 5
  · subst k5
    have HA : Hid (act q L 5 n d z = actRemove L n) := rfl
    go_enter Try.func20, Try.ntmps20
    go_wp2_with (go_at_call 52
                 rw [← hw1]
                 refine (remove_any w1 db mb q L vs H1.out.1 n hwf).mono ?_
                 rintro e w2 ⟨rfl, p2⟩
                 have P2 : Hid (∃ vs', DiskAt w2 db mb q (actRemove L n).2 vs' ∧ Turned w1 w2 db mb L vs (actRemove L n).2 vs') := p2
                 clear p2)
    go_ret
    rw [HA.out]
    exact DoPost.box H1.out.2.2 ⟨rfl, P2.out⟩
  have HA : Hid (act q L k n d z = (116, L)) := by show _ = _; simp [act, k1, k2, k3, k4, k5]
  have b1 : (k == 1) = false := by simpa using k1
  have b2 : (k == 2) = false := by simpa using k2
  have b3 : (k == 3) = false := by simpa using k3
  have b4 : (k == 4) = false := by simpa using k4
  have b5 : (k == 5) = false := by simpa using k5
  go_enter Try.func20, Try.ntmps20
  go_wp2_with fail
  rw [← hw1]
  go_ret
  rw [HA.out]
  exact DoPost.box H1.out.2.2 ⟨rfl, vs, H1.out.1, Turned.refl _ _ _ _ _⟩

set_option maxRecDepth 1000000 in
theorem used_any (w : World) (db mb : Nat) (q : Int) (L : List Fl) (vs : Int → Value) (h : DiskAt w db mb q L vs) :
    Calls Try.prog 21 #[.pointer (some ⟨db, 0, none⟩)] w fun e w' => e = .returned (.int .i64 (total L : Int)) ∧ w' = w := by
  obtain ⟨_, k1, _⟩ := h.cell
  clear h
  go_enter Try.func21, Try.ntmps21
  go_wp2
  go_ret
  exact ⟨rfl, rfl⟩
end Go.Proofs.Ytkmolklcbemfbaa
