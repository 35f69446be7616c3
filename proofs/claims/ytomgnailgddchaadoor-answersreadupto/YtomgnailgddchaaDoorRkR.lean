/-
  The walk of rest.
-/
import Derived.Test.YtomgnailgddchaaDoorRkN
namespace Go.Proofs.YtomgnailgddchaaDoor
open Go.RowKit Go.Sort

/-- In the midst of rest. -/
def RS8 (w0 W1 wr : World) (lab1 : Nat → Tag) (Hb : Nat) (es : List Ent) (P Q : Pq) (i1 i2 B3 : Nat) (mb n : Nat) : Prop :=
  ∃ lab' es' P', BS w0 wr lab' Hb es' P' Q i1 i2 ∧ Mv lab1 W1 lab' wr ∧ es'.length + n + mb ≤ es.length + P.d.L.length + 1 ∧ P'.rb = P.rb ∧ P'.db = P.db ∧ P'.A = P.A ∧ P'.d.L.length = n ∧ PairB wr B3 P
theorem Pq.Ok.len {w0 w : World} {p : Pq} (h : p.Ok w0 w) : ∃ al cl, w.cell? ⟨p.db, 0, none⟩ = some (.slice al p.d.L.length cl) := by
  have hl := congrArg List.length h.c.list
  rw [List.length_map] at hl
  have hc := h.c.box.cell.1
  rcases h.c.row.2 with ⟨e, h0⟩ | ⟨gl, cap, cur, e, _⟩
  · exact ⟨none, 0, by rw [hc, e, hl, h0]⟩
  · exact ⟨_, _, by rw [hc, e, hl]⟩
theorem Mv.pair {lab lab' : Nat → Tag} {W W' : World} {b : Nat} {p : Pq} (h : Mv lab W lab' W') (hb : PairB W b p) (hl : lab b = .user 0) : PairB W' b p := hb.kept h.kept (fun e => e hl)
theorem RS8.step {w0 W1 wr w' : World} {lab1 : Nat → Tag} {Hb : Nat} {es : List Ent} {P Q : Pq} {i1 i2 B3 mb n : Nat} {lab2 : Nat → Tag} {es2 : List Ent} {P2 : Pq} (hl : lab1 B3 = .user 0) (hB : B3 < W1.heap.size) (hp : PairB wr B3 P)
    (m2 : Mv lab1 W1 lab2 wr) (h2 : es2.length + n + 1 ≤ es.length + P.d.L.length + 1) (e3 : P2.A = P.A) (e4 : P2.d.L.length = n) (hmb : n - 1 + mb ≤ n)
    (h : ∃ lab' es' P', BS w0 w' lab' Hb es' P' Q i1 i2 ∧ es'.length = es2.length + 1 ∧ Mv lab2 wr lab' w' ∧ P'.rb = P.rb ∧ P'.db = P.db ∧ P'.A = P2.A ∧ P'.d.L.length = P2.d.L.length - 1) : RS8 w0 W1 w' lab1 Hb es P Q i1 i2 B3 mb (n - 1) := by
  obtain ⟨lab', es', P', bs, el, mv, q1, q2, q3, q4⟩ := h
  exact ⟨lab', es', P', bs, m2.trans mv, by omega, q1, q2, q3.trans e3, by rw [q4, e4], mv.pair hp ((m2.same B3 hB).trans hl)⟩

set_option maxHeartbeats 8000000 in
set_option maxRecDepth 1000000 in
theorem rest_any (w0 W : World) (lab : Nat → Tag) (Hb : Nat) (es : List Ent) (P Q : Pq) (i1 i2 : Nat) (h : BS w0 W lab Hb es P Q i1 i2) (hT : Tabs w0) (hA : P.A.length ≤ 1073741823) (he : es.length + P.A.length ≤ 1073741000) :
    Calls Tryd.prog 14 #[.agg #[.pointer (some ⟨P.rb, 0, none⟩), .pointer (some ⟨P.db, 0, none⟩)], .pointer (some ⟨Hb, 0, none⟩)] W fun e w' => e = .returned (.bool true) ∧ ∃ lab' es' P', BS w0 w' lab' Hb es' P' Q i1 i2 ∧ es'.length ≤ es.length + P.A.length + 2 ∧ Mv lab W lab' w' ∧ P'.rb = P.rb ∧ P'.db = P.db ∧ P'.A = P.A := by
  have HB := hide h
  have HT := hide hT
  have hfew := h.pP.rel.few.1
  clear h hT
  go_enter Tryd.func14, Tryd.ntmps14
  go_upto_region 1 with fail
  obtain ⟨W1, hW1⟩ : ∃ W1, W1 = W.alloc (.cells #[.pointer (some ⟨P.rb, 0, none⟩), .pointer (some ⟨P.db, 0, none⟩)] 30) := ⟨_, rfl⟩
  obtain ⟨B3, hB3⟩ : ∃ B3, B3 = W.heap.size := ⟨_, rfl⟩
  rw [← hW1, ← hB3]
  have B1 : Below W.heap.size W W1 := by rw [hW1]; exact (Below.refl _ W).alloc (Nat.le_refl _) _
  have X1 : PairB W1 B3 P := by rw [hW1, hB3]; exact heap_alloc_new _ _
  have hBl := X1.cell.2.2
  obtain ⟨lab1, bs1, mv1, fr1⟩ := HB.out.fresh B1
  have LB : Hid (lab1 B3 = .user 0) := (by rw [hB3]; exact fr1 _ (Nat.le_refl _) : lab1 B3 = .user 0)
  have MV1 := hide mv1
  have S0 : Hid (RS8 w0 W1 W1 lab1 Hb es P Q i1 i2 B3 1 P.d.L.length) := ⟨lab1, es, P, bs1, Mv.refl _ _, by omega, rfl, rfl, rfl, rfl, X1⟩
  clear hW1 hB3 X1 bs1 mv1 fr1 B1
  go_wp2_with fail
  go_loopg [5] (P.d.L.length + 1) (fun gk v wr => ∃ (mb : Bool) (n : Nat), v = .bool mb ∧ (if mb = true then 1 else 0) + n ≤ gk ∧ Hid (RS8 w0 W1 wr lab1 Hb es P Q i1 i2 B3 (if mb = true then 1 else 0) n))
  case atStart => exact ⟨true, P.d.L.length, rfl, by simp; omega, S0.out⟩
  case round =>
    clear S0
    obtain ⟨mb, n, rfl, hgk, HS⟩ := hrel
    obtain ⟨lab2, es2, P2, bs2, mv2, hl2, e1, e2, e3, e4, pb⟩ := HS.out
    have hA2 : P2.A.length ≤ 1073741823 := by rw [e3]; exact hA
    have CN := hide (nextR_any w0 wr lab2 Hb es2 P2 Q i1 i2 bs2 HT.out hA2 (by omega))
    obtain ⟨x0, x1, xl⟩ := pb.cell
    have HPB := hide pb
    have HMV := hide mv2
    have HE := hide (And.intro hl2 (And.intro e1 (And.intro e2 (And.intro e3 e4))))
    rw [e1, e2] at CN
    cases mb with
    | true =>
      simp only [if_true] at hgk hl2
      obtain ⟨al, cl, y0⟩ := bs2.pP.len
      rw [e2, e4] at y0
      have yl : P.db < wr.heap.size := by
        have := bs2.pP.c.box.lt
        rw [e2] at this
        exact this
      clear pb mv2 e1 e2 e3 e4 bs2 HS hA2
      by_cases hn : 0 < n
      · have hn2 : (0 : Int) < (n : Int) := by omega
        clear hl2
        go_wp2_with (first
          | (refine wpList_load_row rfl 30 (.tmp 2) rfl B3 rfl 30 #[.pointer (some ⟨P.rb, 0, none⟩), .pointer (some ⟨P.db, 0, none⟩)] (0, 0) _ HPB.out Tryd.underlying30 rfl (by kernel_rfl) ?_)
          | (go_at_call 9; refine CN.out.mono ?_; rintro e w5 ⟨rfl, nx⟩; have NX : Hid (RS8 w0 W1 w5 lab1 Hb es P Q i1 i2 B3 1 (n - 1)) := RS8.step LB.out hBl HPB.out HMV.out (by have := HE.out.1; simp only [if_true] at this; omega) HE.out.2.2.2.1 HE.out.2.2.2.2 (by omega) nx; clear nx))
        go_roundg n
        case measure => omega
        case rel => exact ⟨true, n - 1, rfl, by simp; omega, NX.out⟩
      · obtain rfl : n = 0 := by omega
        clear hl2
        go_wp2_with (first
          | (refine wpList_load_row rfl 30 (.tmp 2) rfl B3 rfl 30 #[.pointer (some ⟨P.rb, 0, none⟩), .pointer (some ⟨P.db, 0, none⟩)] (0, 0) _ HPB.out Tryd.underlying30 rfl (by kernel_rfl) ?_)
          | (go_at_call 9; refine CN.out.mono ?_; rintro e w5 ⟨rfl, nx⟩; have NX : Hid (RS8 w0 W1 w5 lab1 Hb es P Q i1 i2 B3 0 0) := RS8.step LB.out hBl HPB.out HMV.out (by have := HE.out.1; simp only [if_true] at this; omega) HE.out.2.2.2.1 HE.out.2.2.2.2 (by omega) nx; clear nx))
        go_roundg 0
        case measure => omega
        case rel => exact ⟨false, 0, rfl, by simp, NX.out⟩
    | false =>
      clear pb mv2 e1 e2 e3 e4 bs2 HS hA2 hl2
      go_wp2_with (first
          | (refine wpList_load_row rfl 30 (.tmp 2) rfl B3 rfl 30 #[.pointer (some ⟨P.rb, 0, none⟩), .pointer (some ⟨P.db, 0, none⟩)] (0, 0) _ HPB.out Tryd.underlying30 rfl (by kernel_rfl) ?_)
          | (go_at_call 9; refine CN.out.mono ?_; rintro e w5 ⟨rfl, nx⟩; have NX := hide nx; clear nx))
      go_ret
      obtain ⟨lab', es', P', bs, el, mv, q1, q2, q3, q4⟩ := NX.out
      obtain ⟨h1, h2, h3, h4, h5⟩ := HE.out
      exact ⟨rfl, lab', es', P', bs, by simp at h1; omega, (MV1.out.trans HMV.out).trans mv, q1, q2, q3.trans h4⟩
end Go.Proofs.YtomgnailgddchaaDoor
