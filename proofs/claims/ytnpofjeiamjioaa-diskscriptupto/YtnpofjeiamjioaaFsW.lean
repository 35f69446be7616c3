/-
  The walk of the book's spoil.
-/
import Derived.Test.YtnpofjeiamjioaaFsY
namespace Go.Proofs.Ytnpofjeiamjioaa
open Go.RowKit

theorem neg_fit {n : Nat} (h : n ≤ 16777216) : IntKind.i64.wrap (-((n : Int) + 1)) = -((n : Int) + 1) ∧ -9223372036854775808 ≤ -((n : Int) + 1) ∧ -((n : Int) + 1) ≤ 9223372036854775807 := by
  refine ⟨by rw [IntKind.wrap_i64]; omega, by omega, by omega⟩
theorem pos_fit {n : Nat} (h : n ≤ 16777216) : IntKind.i64.wrap ((n : Int) + 1) = (n : Int) + 1 := by rw [IntKind.wrap_i64]; omega
/-- How far the wants are put anew. -/
structure S3 (N T i k : Nat) (Q : List Ls) : Prop where
  rap : Rap Q
  len : Q.length = N
  few : ∀ x ∈ Q, x.l.length ≤ T ∧ ∀ z ∈ x.l, z.ob.length ≤ 1073741823
  done : ∀ (j : Nat) x (m : Nat) z, Q[j]? = some x → x.l[m]? = some z → (j < i ∨ (j = i ∧ m < k)) → z.ob = z.wb
theorem S3.put {N T i k : Nat} {Q : List Ls} {x : Ls} {z : Fz} {v : Value} (h : S3 N T i k Q) (hx : Q[i]? = some x) (hz : x.l[k]? = some z) : S3 N T i (k + 1) (Q.set i (x.putw k z v)) ∧ ∃ y, (Q.set i (x.putw k z v))[i]? = some y ∧ y.l.length = x.l.length := by
  obtain ⟨m1, m2⟩ := map_ov (y := x.putw k z v) hx rfl rfl
  refine ⟨⟨h.rap.congr m1 m2, by rw [List.length_set]; exact h.len, fun y hy => ?_, fun j y m a hy ha hjm => ?_⟩, x.putw k z v, List.getElem?_set_self (List.getElem?_eq_some_iff.1 hx).1, by simp [Ls.putw]⟩
  · obtain ⟨j, hj⟩ := List.getElem?_of_mem hy
    rcases set_keyR hj with ⟨_, rfl⟩ | ⟨_, hj⟩
    · have := h.few x (List.mem_of_getElem? hx)
      refine ⟨by simpa [Ls.putw] using this.1, fun a ha => ?_⟩
      obtain ⟨n, hn⟩ := List.getElem?_of_mem ha
      rcases set_keyR hn with ⟨_, rfl⟩ | ⟨_, hn⟩
      · exact this.2 z (List.mem_of_getElem? hz)
      · exact this.2 a (List.mem_of_getElem? hn)
    · exact h.few y (List.mem_of_getElem? hj)
  · rcases set_keyR hy with ⟨e, rfl⟩ | ⟨hne, hj⟩
    · rcases set_keyR ha with ⟨_, rfl⟩ | ⟨hm, ha⟩
      · rfl
      · exact h.done i x m a hx ha (by omega)
    · exact h.done j y m a hj ha (by omega)
theorem S3.next {N T i k : Nat} {Q : List Ls} {x : Ls} (h : S3 N T i k Q) (hx : Q[i]? = some x) (hk : x.l.length ≤ k) : S3 N T (i + 1) 0 Q :=
  ⟨h.rap, h.len, h.few, fun j y m a hy ha hjm => by
    by_cases hji : j = i
    · subst hji
      rw [hx] at hy
      cases hy
      have := (List.getElem?_eq_some_iff.1 ha).1
      exact h.done j x m a hx ha (.inr ⟨rfl, by omega⟩)
    · exact h.done j y m a hy ha (.inl (by omega))⟩
theorem n9_fit {i : Nat} (h : i ≤ 536870911) : IntKind.i64.wrap (-9000 - (i : Int)) = -9000 - (i : Int) ∧ -9223372036854775808 ≤ -9000 - (i : Int) ∧ -9000 - (i : Int) ≤ 9223372036854775807 := by
  refine ⟨by rw [IntKind.wrap_i64]; omega, by omega, by omega⟩
/-- Two lists that grow, alike. -/
structure GF (s0 n : Nat) (G M : List (Fl × Value)) : Prop where
  gl : G.length = n
  ml : M.length = n
  eq : G.map (·.1) = M.map (·.1)
  fit : ∀ p ∈ G, -9223372036854775808 ≤ p.1.num ∧ p.1.num ≤ 9223372036854775807 ∧ p.1.safe ≤ 9223372036854775807
  new : ∀ p ∈ M, ∀ g, p.2.ownBlock = some g → s0 ≤ g
theorem GF.snoc {s0 n : Nat} {G M : List (Fl × Value)} (h : GF s0 n G M) (i : Nat) (hi : i ≤ 536870911) : GF s0 (n + 1) (G ++ [((⟨-9000 - (i : Int), [], 0⟩ : Fl), Value.slice none 0 0)]) (M ++ [((⟨-9000 - (i : Int), [], 0⟩ : Fl), Value.slice none 0 0)]) := by
  refine ⟨by rw [List.length_append, h.gl]; rfl, by rw [List.length_append, h.ml]; rfl, by rw [List.map_append, List.map_append, h.eq], fun p hp => ?_, fun p hp g e => ?_⟩
  · rcases List.mem_append.1 hp with hp | hp
    · exact h.fit p hp
    · have : p = ((⟨-9000 - (i : Int), [], 0⟩ : Fl), Value.slice none 0 0) := by simpa using hp
      rw [this]
      exact ⟨(n9_fit hi).2.1, (n9_fit hi).2.2, Nat.zero_le _⟩
  · rcases List.mem_append.1 hp with hp | hp
    · exact h.new p hp g e
    · have : p = ((⟨-9000 - (i : Int), [], 0⟩ : Fl), Value.slice none 0 0) := by simpa using hp
      rw [this] at e
      cases e
/-- What spoil leaves of the book. -/
def SpoilFP (w : World) (B hb : Nat) (vo vw : Value) (P : List Ls) (w' : World) : Prop :=
  Kept (FdB hb vo vw P) w w' ∧ ∃ vo' vw' P' sz', FdAt w' B hb vo' vw' P' sz' ∧ P'.length ≤ P.length + P.length ∧ ∀ g, FdR hb vo' vw' P' g → FdB hb vo vw P g ∨ w.heap.size ≤ g
set_option linter.unusedSimpArgs false in
set_option maxHeartbeats 8000000 in
set_option maxRecDepth 1000000 in
theorem fspoil_any (w : World) (B hb : Nat) (vo vw : Value) (P : List Ls) (sz : Int) (h : FdAt w B hb vo vw P sz) (ha : Aps P) (he : Eql P) (hB : B ≤ w.heap.size) (hn : (odb (skL P)).length ≤ 16777216) (hd : ∀ x ∈ P, ∀ z ∈ x.l, z.ob.length ≤ 1073741823) (hP : P.length ≤ 536870911) :
    Calls Try.prog 12 #[.pointer (some ⟨hb, 0, none⟩)] w fun e w' => e = .returned (.bool true) ∧ SpoilFP w B hb vo vw P w' := by
  obtain ⟨ao, c0, aw, cw, rfl, rfl⟩ := h.rows.forms
  rw [List.length_map, List.length_map] at h ⊢
  obtain ⟨N, hN⟩ : ∃ N, N = P.length := ⟨_, rfl⟩
  obtain ⟨T, hT⟩ : ∃ T, T = (odb (skL P)).length := ⟨_, rfl⟩
  have HT := hideR hT
  have HN := hideR hN
  rw [← hT] at hn
  rw [← hN] at h hP ⊢
  have H0 := hideR h
  have HA := hideR ha
  have HE := hideR he
  have HD := hideR hd
  have CH := hideR (fholds_any w B hb (.slice ao N c0) (.slice aw N cw) P sz h he)
  clear h ha he hd hN hT
  go_enter Try.func12, Try.ntmps12
  go_wp2_with (go_at_call 10
               refine CH.out.mono ?_
               rintro e w1 ⟨rfl, m1, hm1⟩
               have b1 : Below w.heap.size w w1 := by rw [hm1]; exact below_drewN (Below.refl _ w) m1
               have z1 : w1.heap.size = w.heap.size := by rw [hm1]; rfl
               have H1 := hideR (H0.out.later b1)
               have HB1 := hideR b1
               have HI := hideR (SpI.start H1.out b1 (by omega))
               obtain ⟨k0, _, _, _⟩ := HI.out.fd.rows.cells
               clear hm1 b1)
  obtain ⟨bx, hbx⟩ : ∃ bx, bx = w.heap.size := ⟨_, rfl⟩
  obtain ⟨w2, hw2⟩ : ∃ w2, w2 = w1.alloc (.cells #[.slice none 0 0, .slice none 0 0] 74) := ⟨_, rfl⟩
  have hz2 : w2.heap.size = bx + 1 := by rw [hw2, World.size_alloc, z1, hbx]
  rw [← hw2] at HI k0 ⊢
  rw [z1, ← hbx] at HI
  rw [← hbx]
  have HBX := hideR (And.intro hbx z1)
  have hB2 : B ≤ bx := by omega
  clear hw2 z1 hbx
  go_loopg [4, 6] N (fun gk s4 s6 wr => ∃ (i n : Nat) (Pm : List Ls) (es : List Ent) (lab : Nat → Tag), s4 = .int .i64 (n : Int) ∧ s6 = .int .i64 (i : Int) ∧ N - i ≤ gk ∧ i ≤ N ∧ bx < wr.heap.size ∧ HidR (SpI w B hb (.slice ao N c0) (.slice aw N cw) P sz bx n Pm es lab wr ∧ n = off (skL P) i))
  case atStart => exact ⟨0, 0, P, [], _, rfl, rfl, by omega, by omega, by omega, ⟨⟨HI.out, by simp [off]⟩⟩⟩
  case round =>
    clear HI k0
    obtain ⟨i, n, Pm, es, lab, rfl, rfl, hgo, hi, hbr, HW⟩ := hrel
    by_cases hlt : i < N
    · have tlt : (i : Int) < (N : Int) := by omega
      obtain ⟨x0, hx0⟩ : ∃ x0, P[i]? = some x0 := ⟨_, List.getElem?_eq_getElem (by have := HN.out; omega)⟩
      obtain ⟨L, hL⟩ : ∃ L, L = x0.l.length := ⟨_, rfl⟩
      have HX0 := hideR (And.intro hx0 hL)
      have hLT : off (skL P) i + L ≤ T := by
        have h1 := off_succ (skL_at hx0)
        have h2 : x0.k.l.length = L := by rw [hL]; simp [Ls.k]
        have h3 := off_le (skL P) (i + 1)
        rw [h2] at h1
        have := HT.out
        omega
      clear hx0 hL
      go_wp2_with fail
      go_loopg [4, 7] L (fun gk s4 s7 wr => ∃ (k n : Nat) (Pm : List Ls) (es : List Ent) (lab : Nat → Tag), s4 = .int .i64 (n : Int) ∧ s7 = .int .i64 (k : Int) ∧ L - k ≤ gk ∧ k ≤ L ∧ bx < wr.heap.size ∧ HidR (SpI w B hb (.slice ao N c0) (.slice aw N cw) P sz bx n Pm es lab wr ∧ n = off (skL P) i + k))
      case atStart => exact ⟨0, n, Pm, es, lab, rfl, rfl, by omega, by omega, hbr, ⟨⟨HW.out.1, by have := HW.out.2; omega⟩⟩⟩
      case round =>
        clear HW hbr
        clear Pm es lab
        obtain ⟨k, n, Pm, es, lab, rfl, rfl, hgk, hk, hbr, HW⟩ := hrel
        obtain ⟨x, hx, exy⟩ := at_skL (show (skL Pm)[i]? = some x0.k by rw [HW.out.1.sk]; exact skL_at HX0.out.1)
        have hxl : x.l.length = L := by have := congrArg (fun y => y.l.length) exy; simp only [Ls.k, List.length_map] at this; have := HX0.out.2; omega
        have hPl : Pm.length = N := by have := congrArg List.length HW.out.1.sk; simp only [skL, List.length_map] at this; have := HN.out; omega
        obtain ⟨q0, q1, _, _⟩ := HW.out.1.fd.rows.cells
        obtain ⟨gv, ca, gu, cb, ev, eu, r0, r1, nv, nu⟩ := HW.out.1.fd.read hx
        rw [hPl] at ev eu
        simp only [Value.slice.injEq, true_and] at ev eu
        obtain ⟨rfl, rfl⟩ := ev
        obtain ⟨rfl, rfl⟩ := eu
        obtain ⟨xa, xc, exo⟩ := row_formR (HW.out.1.fd.ls x (List.mem_of_getElem? hx)).ro
        rw [hxl] at exo
        rw [exo] at r0
        by_cases hkl : k < L
        · have tkl : (k : Int) < (L : Int) := by omega
          obtain ⟨z, hz⟩ : ∃ z, x.l[k]? = some z := ⟨_, List.getElem?_eq_getElem (by omega)⟩
          have lx := HW.out.1.fd.ls x (List.mem_of_getElem? hx)
          obtain ⟨go, co, gw, cw2, eo, ew, m0, m1, fz1, m2, m3, fz2⟩ := lx.read hz
          rw [hxl] at eo ew
          rw [eo] at exo
          simp only [Value.slice.injEq, true_and] at exo
          obtain ⟨rfl, rfl⟩ := exo
          rw [ew] at r1
          obtain ⟨da, dc, ed, _⟩ := (lx.oo z (List.mem_of_getElem? hz)).shape
          rw [ed] at m1
          have hod : (odb (skL P))[n]? = some (z.od, z.ob) := by
            rw [HW.out.2, ← HW.out.1.sk]
            have := odb_at (skL Pm) i k x.k z.k (skL_at hx) (k_at hz)
            exact this
          have hzl : z.ob.length ≤ 1073741823 := by
            obtain ⟨y, hy, a, ha2, e⟩ := odb_mem (List.mem_of_getElem? hod)
            simp only [Prod.mk.injEq] at e
            rw [e.2]
            exact HD.out y hy a ha2
          have hnT : n < T := by rw [HT.out]; exact (List.getElem?_eq_some_iff.1 hod).1
          have hel : es.length = n := by have := congrArg List.length HW.out.1.es; rw [List.length_map, List.length_take] at this; have := HT.out; omega
          have htag : Tagged lab z.od (.out es.length) := fun g e => by
            have hb2 : g < w1.heap.size := H1.out.blt (FdB_congr HW.out.1.sk (.inr (.inr (.inr ⟨x, List.mem_of_getElem? hx, .inr (.inr ⟨z, List.mem_of_getElem? hz, .inl e⟩)⟩))))
            rw [HW.out.1.lab g (by have := HBX.out; omega), hel]
            exact lab0_od HA.out (p := (z.od, z.ob)) hod (fun g2 e2 => by rw [e] at e2; cases e2; have := HBX.out; omega) g e
          have hodo := lx.oo z (List.mem_of_getElem? hz)
          have CK := keep_any wr B lab bx 0 es da dc z.ob HW.out.1.held (by omega) (by rw [← ed]; exact hodo) (by rw [← ed]; exact htag) (by omega) (by omega)
          have HCK := hideR CK
          have HXZ := hideR (And.intro hx (And.intro hz (And.intro ed (And.intro hod (And.intro (show x.ov = .slice (some ⟨go, 0, none⟩) x.l.length co by rw [hxl]; exact eo) (show x.wv = .slice (some ⟨gw, 0, none⟩) x.l.length cw2 by rw [hxl]; exact ew))))))
          have hn16 : n ≤ 16777216 := by omega
          have wn1 := pos_fit hn16
          have hNe := hideR (And.intro nv nu)
          clear hx hz CK htag hodo lx ed exy hod eo ew hel hxl hPl nv nu m0 m2 m3 fz1 fz2
          go_upto_region 14 with (go_at_call 31
                                  refine HCK.out.mono ?_
                                  rintro e w5 ⟨rfl, lab5, cw5, h5, l5, k5⟩
                                  have I5 := hideR (HW.out.1.keep (e := ⟨.slice da z.ob.length dc, cw5, z.ob⟩) H1.out (by have := HBX.out; omega) (by have := HBX.out; omega) hbr (by rw [HXZ.out.2.2.2.1, HXZ.out.2.2.1]) h5 l5 k5)
                                  have hbr5 := Nat.lt_of_lt_of_le hbr k5.size
                                  clear h5 l5 k5)
          clear q0 q1 r0 r1 m1
          obtain ⟨q0, q1, _, _⟩ := I5.out.fd.rows.cells
          obtain ⟨gv2, ca2, gu2, cb2, ev, eu, r0, r1, nv, nu⟩ := I5.out.fd.read HXZ.out.1
          simp only [Value.slice.injEq, Option.some.injEq, Addr.mk.injEq, and_true] at ev eu
          obtain ⟨rfl, ev1, ev2⟩ := ev
          obtain ⟨rfl, eu1, eu2⟩ := eu
          clear ev1 ev2 eu1 eu2
          have lx := I5.out.fd.ls x (List.mem_of_getElem? HXZ.out.1)
          obtain ⟨go2, co2, gw2, cw3, eo, ew, m0, _, fz1, m2, _, fz2⟩ := lx.read HXZ.out.2.1
          rw [HXZ.out.2.2.2.2.1] at eo
          rw [HXZ.out.2.2.2.2.2] at ew
          simp only [Value.slice.injEq, Option.some.injEq, Addr.mk.injEq, and_true, true_and] at eo ew
          obtain ⟨rfl, eo1⟩ := eo
          obtain ⟨rfl, ew1⟩ := ew
          clear eo1 ew1
          rw [HXZ.out.2.2.2.2.1] at r0
          rw [HXZ.out.2.2.2.2.2] at r1
          have hxl : x.l.length = L := by
            have := congrArg (fun S => S[i]?.map fun y => y.l.length) HW.out.1.sk
            simp only [skL_at HXZ.out.1, skL_at HX0.out.1, Option.map_some, Option.some.injEq, Ls.k, List.length_map] at this
            have := HX0.out.2
            omega
          rw [hxl] at r0 r1
          have wneg := (neg_fit hn16).1
          have f0 := fz1 (k * 3)
          have g0 := fz2 (k * 3)
          have tgo := row_typeR lx.ro (g := go) (by rw [HXZ.out.2.2.2.2.1]; rfl)
          have hgw : gw ≠ go := fun e => by
            have := ((HA.out.congr I5.out.sk).rr i i x x HXZ.out.1 HXZ.out.1).2 go (by rw [HXZ.out.2.2.2.2.1]; rfl)
            rw [HXZ.out.2.2.2.2.2, e] at this
            exact this rfl
          have hhb : hb ≠ go := fun e => by
            obtain ⟨c, hc⟩ := tgo
            rw [← e] at hc
            exact clashF hc I5.out.fd.rows.box (by decide)
          have hgu : gu ≠ go := fun e => by
            obtain ⟨c, hc⟩ := tgo
            obtain ⟨c2, hc2⟩ := I5.out.fd.rows.tyW (g := gu) rfl
            rw [e] at hc2
            exact clashF hc hc2 (by decide)
          have y1 := (cell_set_other w5 go (k * 3) (.int .i64 (-((n : Int) + 1))) hb 1 hhb).trans q1
          have y2 := (cell_set_other w5 go (k * 3) (.int .i64 (-((n : Int) + 1))) gu i hgu).trans r1
          have y3 := (cell_set_other w5 go (k * 3) (.int .i64 (-((n : Int) + 1))) gw (k * 3) hgw).trans m2
          have y4 := (frozen_set_other w5 go (k * 3) (.int .i64 (-((n : Int) + 1))) gw (k * 3) hgw).trans g0
          have I6 := hideR (I5.out.mark HA.out H1.out (by have := HBX.out; omega) HXZ.out.1 HXZ.out.2.1 HXZ.out.2.2.2.2.1 HXZ.out.2.2.2.2.2 (-((n : Int) + 1)) (neg_fit hn16).2)
          clear lx fz1 fz2 tgo nv nu m2 g0 hxl
          go_wp2_with fail
          go_roundg (L - (k + 1))
          case measure => omega
          case rel => exact ⟨k + 1, n + 1, _, _, lab5, by go_num, by go_num, Nat.le_refl _, hkl, by simpa using hbr5, ⟨⟨I6.out, congrArg (· + 1) HW.out.2⟩⟩⟩
        · have tkl : ¬ (k : Int) < (L : Int) := by omega
          clear hx exy
          go_wp2_with fail
          go_roundg (N - (i + 1))
          case measure => omega
          case rel => exact ⟨i + 1, n, Pm, es, lab, rfl, by go_num, Nat.le_refl _, hlt, hbr, ⟨⟨HW.out.1, by
            have h1 := off_succ (skL_at HX0.out.1)
            have h2 : x0.k.l.length = L := by rw [HX0.out.2]; simp [Ls.k]
            have := HW.out.2
            omega⟩⟩⟩
    · have tlt : ¬ (i : Int) < (N : Int) := by omega
      have hel : es.length ≤ T := by have := congrArg List.length HW.out.1.es; rw [List.length_map, List.length_take] at this; have := HT.out; omega
      have hnn : (odb (skL P)).length ≤ n := by
        have h1 := HW.out.2
        have h2 := off_all (skL P)
        have h3 : (skL P).length = N := by simp [skL, HN.out]
        rw [h3] at h2
        have h4 : i = N := by omega
        rw [h4] at h1
        omega
      have heb : ∀ (j : Nat) e, es[j]? = some e → e.bytes.length ≤ 4294967296 := fun j e hj => by
        have h1 := congrArg (·[j]?) HW.out.1.es
        simp only [List.getElem?_map, hj, Option.map_some] at h1
        have h2 := List.mem_of_mem_take (List.mem_of_getElem? h1.symm)
        obtain ⟨y, hy, a, ha2, e2⟩ := odb_mem h2
        simp only [Prod.mk.injEq] at e2
        rw [e2.2]
        have := HD.out y hy a ha2
        omega
      have CH2 := hideR (fholds_any wr B hb (.slice ao N c0) (.slice aw N cw) Pm sz HW.out.1.fd (HE.out.congr HW.out.1.sk))
      have HNN := hideR (And.intro hnn heb)
      clear hnn heb
      go_wp2_with (first
        | (go_at_call 10
           refine CH2.out.mono ?_
           rintro e w3 ⟨rfl, m3, hm3⟩
           have b3 : Below wr.heap.size wr w3 := by rw [hm3]; exact below_drewN (Below.refl _ wr) m3
           have I3 := hideR (HW.out.1.later b3)
           have hz3 := b3.size
           have CS := hideR (spoil_any w3 B lab bx es I3.out.held (by omega) (by omega) HNN.out.2)
           clear hm3 b3)
        | (go_at_call 32
           refine CS.out.mono ?_
           rintro e w4 ⟨rfl, hs4⟩
           obtain ⟨f, lab5, es5, j5, hf5⟩ := I3.out.spoilt HA.out H1.out (by have := HBX.out; omega) (by have := HBX.out; omega) (by omega) HNN.out.1 hs4
           have J4 := hideR j5
           have HF5 := hideR hf5
           clear j5 hs4 hf5))
      have hPl : Pm.length = N := by have := congrArg List.length HW.out.1.sk; simp only [skL, List.length_map] at this; have := HN.out; omega
      have HRM : HidR ((reb f Pm).map (·.ov) = Pm.map (·.ov) ∧ (reb f Pm).map (·.wv) = Pm.map (·.wv) ∧ (reb f Pm).length = N) := ⟨by have := reb_maps f Pm; rw [hPl] at this; exact this⟩
      have HRP : HidR (Rap Pm) := ⟨(HA.out.congr HW.out.1.sk).rr⟩
      have HLEN : HidR (∀ x ∈ reb f Pm, x.l.length ≤ T ∧ ∀ z ∈ x.l, z.ob.length ≤ 1073741823) := ⟨fun x hx => by
        obtain ⟨j, hj⟩ := List.getElem?_of_mem hx
        obtain ⟨y, hy, rfl⟩ := reb_get hj
        refine ⟨?_, fun z hz => ?_⟩
        · rw [(rebX_cells (f j) y).2.2]
          have h1 := off_succ (skL_at hy)
          have h3 := off_le (skL Pm) (j + 1)
          rw [HW.out.1.sk] at h1 h3
          have h2 : y.k.l.length = y.l.length := by simp [Ls.k]
          have := HT.out
          omega
        · obtain ⟨k, hk⟩ := List.getElem?_of_mem hz
          obtain ⟨a, ha2, rfl⟩ := rebX_get hk
          show (f j k).length ≤ _
          rw [HF5.out j y k a hy ha2]
          have hod := odb_at (skL Pm) j k y.k a.k (skL_at hy) (k_at ha2)
          rw [HW.out.1.sk] at hod
          obtain ⟨y2, hy2, a2, ha3, e⟩ := odb_mem (List.mem_of_getElem? hod)
          simp only [Fz.k, Prod.mk.injEq] at e
          rw [e.2]
          exact HD.out y2 hy2 a2 ha3⟩
      obtain ⟨P3, hP3⟩ : ∃ P3, P3 = reb f Pm := ⟨_, rfl⟩
      obtain ⟨M0, hM0⟩ : ∃ M0, M0 = es.length := ⟨_, rfl⟩
      obtain ⟨s0, hs0⟩ : ∃ s0, s0 = w4.heap.size := ⟨_, rfl⟩
      rw [← hP3] at J4 HRM HLEN
      rw [← hM0, ← hs0] at J4
      have HRP3 : HidR (Rap P3) := ⟨HRP.out.congr HRM.out.1 HRM.out.2.1⟩
      clear HRP HF5 hP3 hM0 hs0 HW CH2 HNN I3 CS hPl hel hz3 HRM
      clear hgo hi hbr tlt hlt
      go_loopg [8] N (fun gk s8 wr => ∃ (i : Nat) (Q : List Ls), s8 = .int .i64 (i : Int) ∧ N - i ≤ gk ∧ i ≤ N ∧ HidR (SpJ w B hb (.slice ao N c0) (.slice aw N cw) P s0 bx M0 es5 lab5 (.slice ao N c0) (.slice aw N cw) Q sz wr ∧ S3 N T i 0 Q))
      case atStart => exact ⟨0, P3, rfl, by omega, by omega, ⟨⟨J4.out, HRP3.out, by have := J4.out.fd.len; omega, HLEN.out, fun j x k z _ _ h => by omega⟩⟩⟩
      case round =>
        clear J4 HRP3 HLEN
        obtain ⟨i, Q, rfl, hgo, hi, HW⟩ := hrel
        by_cases hlt : i < N
        · have tlt : (i : Int) < (N : Int) := by omega
          obtain ⟨x, hx⟩ : ∃ x, Q[i]? = some x := ⟨_, List.getElem?_eq_getElem (by have := HW.out.2.len; omega)⟩
          obtain ⟨L, hL⟩ : ∃ L, L = x.l.length := ⟨_, rfl⟩
          have HX : HidR (∃ x, Q[i]? = some x ∧ x.l.length = L) := ⟨⟨x, hx, hL.symm⟩⟩
          have hLT : L ≤ T := by rw [hL]; exact (HW.out.2.few x (List.mem_of_getElem? hx)).1
          clear hx hL
          clear x
          go_wp2_with fail
          go_loopg [9] L (fun gk s9 wr => ∃ (k : Nat) (Q : List Ls), s9 = .int .i64 (k : Int) ∧ L - k ≤ gk ∧ k ≤ L ∧ HidR (SpJ w B hb (.slice ao N c0) (.slice aw N cw) P s0 bx M0 es5 lab5 (.slice ao N c0) (.slice aw N cw) Q sz wr ∧ S3 N T i k Q) ∧ HidR (∃ x, Q[i]? = some x ∧ x.l.length = L))
          case atStart => exact ⟨0, Q, rfl, by omega, by omega, HW, HX⟩
          case round =>
            clear HW HX
            clear Q
            obtain ⟨k, Q, rfl, hgk, hk, HW, HX⟩ := hrel
            obtain ⟨x, hx, hxl⟩ := HX.out
            have hQl := HW.out.2.len
            obtain ⟨q0, q1, _, _⟩ := HW.out.1.fd.rows.cells
            obtain ⟨gv, ca, gu, cb, ev, eu, r0, r1, nv, nu⟩ := HW.out.1.fd.read hx
            rw [hQl] at ev eu
            simp only [Value.slice.injEq, true_and] at ev eu
            obtain ⟨rfl, rfl⟩ := ev
            obtain ⟨rfl, rfl⟩ := eu
            obtain ⟨xa, xc, exo⟩ := row_formR (HW.out.1.fd.ls x (List.mem_of_getElem? hx)).ro
            rw [hxl] at exo
            rw [exo] at r0
            by_cases hkl : k < L
            · have tkl : (k : Int) < (L : Int) := by omega
              obtain ⟨z, hz⟩ : ∃ z, x.l[k]? = some z := ⟨_, List.getElem?_eq_getElem (by omega)⟩
              have lx := HW.out.1.fd.ls x (List.mem_of_getElem? hx)
              obtain ⟨go, co, gw, cw2, eo, ew, m0, m1, fz1, m2, m3, fz2⟩ := lx.read hz
              rw [hxl] at eo ew
              rw [eo] at exo
              simp only [Value.slice.injEq, true_and] at exo
              obtain ⟨rfl, rfl⟩ := exo
              rw [ew] at r1
              obtain ⟨da, dc, ed, hib⟩ := (lx.oo z (List.mem_of_getElem? hz)).shape
              rw [ed] at m1
              have hzl := (HW.out.2.few x (List.mem_of_getElem? hx)).2 z (List.mem_of_getElem? hz)
              have CO := hideR (lcopied_any da dc z.ob wr.drew (hib.below (Below.refl _ wr).drew) (by omega))
              have tgw := row_typeR lx.rw (g := gw) (by rw [ew]; rfl)
              have n1 : go ≠ gw := fun e => (HW.out.2.rap i i x x hx hx).2 go (by rw [eo]; rfl) (by rw [ew, e]; rfl)
              have n2 : hb ≠ gw := fun e => by
                obtain ⟨c, hc⟩ := tgw
                rw [← e] at hc
                exact clashF hc HW.out.1.fd.rows.box (by decide)
              have n3 : gv ≠ gw := fun e => by
                obtain ⟨c, hc⟩ := tgw
                obtain ⟨c2, hc2⟩ := HW.out.1.fd.rows.tyO (g := gv) rfl
                rw [e] at hc2
                exact clashF hc hc2 (by decide)
              have n4 : gu ≠ gw := fun e => by
                obtain ⟨c, hc⟩ := tgw
                obtain ⟨c2, hc2⟩ := HW.out.1.fd.rows.tyW (g := gu) rfl
                rw [e] at hc2
                exact clashF hc hc2 (by decide)
              have HXZ := hideR (And.intro hx (And.intro hz (show x.wv = .slice (some ⟨gw, 0, none⟩) x.l.length cw2 by rw [hxl]; exact ew)))
              have HXL := hideR hxl
              have sq : (fun X : World => X.cell? ⟨hb, 0, none⟩ = some (.slice (some ⟨gv, 0, none⟩) N c0) ∧ X.cell? ⟨hb, 1, none⟩ = some (.slice (some ⟨gu, 0, none⟩) N cw) ∧ X.cell? ⟨gv, i, none⟩ = some (.slice (some ⟨go, 0, none⟩) L co) ∧ X.cell? ⟨gu, i, none⟩ = some (.slice (some ⟨gw, 0, none⟩) L cw2) ∧ X.cell? ⟨go, k * 3 + 1, none⟩ = some (.slice da z.ob.length dc)) wr.drew := ⟨q0, q1, r0, r1, m1⟩
              clear hx hz lx ed hib eo ew hxl hQl nv nu m0 m2 fz1 tgw
              go_upto_region 24 with fail
              refine wp_region_held_drew (S := fun X => X.cell? ⟨hb, 0, none⟩ = some (.slice (some ⟨gv, 0, none⟩) N c0) ∧ X.cell? ⟨hb, 1, none⟩ = some (.slice (some ⟨gu, 0, none⟩) N cw) ∧ X.cell? ⟨gv, i, none⟩ = some (.slice (some ⟨go, 0, none⟩) L co) ∧ X.cell? ⟨gu, i, none⟩ = some (.slice (some ⟨gw, 0, none⟩) L cw2) ∧ X.cell? ⟨go, k * 3 + 1, none⟩ = some (.slice da z.ob.length dc)) (by kernel_rfl) sq (fun _ => ?_)
              refine H_take (i := 0) (v := .pointer (some ⟨hb, 0, none⟩)) (some 102) rfl rfl (by kernel_rfl) (by kernel_rfl) (by kernel_rfl) (fun _ _ _ h => h) rfl (fun X hX => ?_) sq ?_
              · go_simp
              simp only [Act.put, List.setIfInBounds_toArray, List.set_cons_zero, List.set_cons_succ]
              refine H_take (i := 1) (v := .pointer (some ⟨hb, 0, none⟩)) (some 103) rfl rfl (by kernel_rfl) (by kernel_rfl) (by kernel_rfl) (fun _ _ _ h => h) rfl (fun X hX => ?_) sq ?_
              · go_simp
              simp only [Act.put, List.setIfInBounds_toArray, List.set_cons_zero, List.set_cons_succ]
              refine H_take (i := 2) (v := .pointer (some ⟨hb, 1, none⟩)) (some 104) rfl rfl (by kernel_rfl) (by kernel_rfl) (by kernel_rfl) (fun _ _ _ h => h) rfl (fun X hX => ?_) sq ?_
              · go_simp
              simp only [Act.put, List.setIfInBounds_toArray, List.set_cons_zero, List.set_cons_succ]
              refine H_take (i := 3) (v := .slice (some ⟨gu, 0, none⟩) N cw) (some 105) rfl rfl (by kernel_rfl) (by kernel_rfl) (by kernel_rfl) (fun _ _ _ h => h) rfl (fun X hX => ?_) sq ?_
              · simp [go_sem, hX.2.1]
              simp only [Act.put, List.setIfInBounds_toArray, List.set_cons_zero, List.set_cons_succ]
              refine H_take (i := 4) (v := .int .i64 (i : Int)) (some 106) rfl rfl (by kernel_rfl) (by kernel_rfl) (by kernel_rfl) (fun _ _ _ h => h) rfl (fun X hX => ?_) sq ?_
              · go_simp
              simp only [Act.put, List.setIfInBounds_toArray, List.set_cons_zero, List.set_cons_succ]
              refine H_take (i := 5) (v := .pointer (some ⟨gu, i, none⟩)) (some 107) rfl rfl (by kernel_rfl) (by kernel_rfl) (by kernel_rfl) (fun _ _ _ h => h) rfl (fun X hX => ?_) sq ?_
              · simp [go_sem, tlt]
              simp only [Act.put, List.setIfInBounds_toArray, List.set_cons_zero, List.set_cons_succ]
              refine H_take (i := 6) (v := .slice (some ⟨gw, 0, none⟩) L cw2) (some 108) rfl rfl (by kernel_rfl) (by kernel_rfl) (by kernel_rfl) (fun _ _ _ h => h) rfl (fun X hX => ?_) sq ?_
              · simp [go_sem, hX.2.2.2.1]
              simp only [Act.put, List.setIfInBounds_toArray, List.set_cons_zero, List.set_cons_succ]
              refine H_take (i := 7) (v := .int .i64 (k : Int)) (some 109) rfl rfl (by kernel_rfl) (by kernel_rfl) (by kernel_rfl) (fun _ _ _ h => h) rfl (fun X hX => ?_) sq ?_
              · go_simp
              simp only [Act.put, List.setIfInBounds_toArray, List.set_cons_zero, List.set_cons_succ]
              refine H_take (i := 8) (v := .pointer (some ⟨hb, 0, none⟩)) (some 110) rfl rfl (by kernel_rfl) (by kernel_rfl) (by kernel_rfl) (fun _ _ _ h => h) rfl (fun X hX => ?_) sq ?_
              · go_simp
              simp only [Act.put, List.setIfInBounds_toArray, List.set_cons_zero, List.set_cons_succ]
              refine H_take (i := 9) (v := .pointer (some ⟨hb, 0, none⟩)) (some 111) rfl rfl (by kernel_rfl) (by kernel_rfl) (by kernel_rfl) (fun _ _ _ h => h) rfl (fun X hX => ?_) sq ?_
              · go_simp
              simp only [Act.put, List.setIfInBounds_toArray, List.set_cons_zero, List.set_cons_succ]
              refine H_take (i := 10) (v := .pointer (some ⟨hb, 0, none⟩)) (some 112) rfl rfl (by kernel_rfl) (by kernel_rfl) (by kernel_rfl) (fun _ _ _ h => h) rfl (fun X hX => ?_) sq ?_
              · go_simp
              simp only [Act.put, List.setIfInBounds_toArray, List.set_cons_zero, List.set_cons_succ]
              refine H_take (i := 11) (v := .slice (some ⟨gv, 0, none⟩) N c0) (some 113) rfl rfl (by kernel_rfl) (by kernel_rfl) (by kernel_rfl) (fun _ _ _ h => h) rfl (fun X hX => ?_) sq ?_
              · simp [go_sem, hX.1]
              simp only [Act.put, List.setIfInBounds_toArray, List.set_cons_zero, List.set_cons_succ]
              refine H_take (i := 12) (v := .int .i64 (i : Int)) (some 114) rfl rfl (by kernel_rfl) (by kernel_rfl) (by kernel_rfl) (fun _ _ _ h => h) rfl (fun X hX => ?_) sq ?_
              · go_simp
              simp only [Act.put, List.setIfInBounds_toArray, List.set_cons_zero, List.set_cons_succ]
              refine H_take (i := 13) (v := .pointer (some ⟨gv, i, none⟩)) (some 115) rfl rfl (by kernel_rfl) (by kernel_rfl) (by kernel_rfl) (fun _ _ _ h => h) rfl (fun X hX => ?_) sq ?_
              · simp [go_sem, tlt]
              simp only [Act.put, List.setIfInBounds_toArray, List.set_cons_zero, List.set_cons_succ]
              refine H_take (i := 14) (v := .slice (some ⟨go, 0, none⟩) L co) (some 116) rfl rfl (by kernel_rfl) (by kernel_rfl) (by kernel_rfl) (fun _ _ _ h => h) rfl (fun X hX => ?_) sq ?_
              · simp [go_sem, hX.2.2.1]
              simp only [Act.put, List.setIfInBounds_toArray, List.set_cons_zero, List.set_cons_succ]
              refine H_take (i := 15) (v := .int .i64 (k : Int)) (some 117) rfl rfl (by kernel_rfl) (by kernel_rfl) (by kernel_rfl) (fun _ _ _ h => h) rfl (fun X hX => ?_) sq ?_
              · go_simp
              simp only [Act.put, List.setIfInBounds_toArray, List.set_cons_zero, List.set_cons_succ]
              refine H_take (i := 16) (v := .pointer (some ⟨go, k * 3, none⟩)) (some 118) rfl rfl (by kernel_rfl) (by kernel_rfl) (by kernel_rfl) (fun _ _ _ h => h) rfl (fun X hX => ?_) sq ?_
              · simp [go_sem, tkl]
              simp only [Act.put, List.setIfInBounds_toArray, List.set_cons_zero, List.set_cons_succ]
              refine H_take (i := 17) (v := .pointer (some ⟨go, k * 3 + 1, none⟩)) (some 119) rfl rfl (by kernel_rfl) (by kernel_rfl) (by kernel_rfl) (fun _ _ _ h => h) rfl (fun X hX => ?_) sq ?_
              · go_simp
              simp only [Act.put, List.setIfInBounds_toArray, List.set_cons_zero, List.set_cons_succ]
              refine H_take (i := 18) (v := .slice da z.ob.length dc) (some 120) rfl rfl (by kernel_rfl) (by kernel_rfl) (by kernel_rfl) (fun _ _ _ h => h) rfl (fun X hX => ?_) sq ?_
              · simp [go_sem, hX.2.2.2.2]
              simp only [Act.put, List.setIfInBounds_toArray, List.set_cons_zero, List.set_cons_succ]
              refine wpAnyH_all (rs := [19]) (by kernel_rfl) (by decide) (fun jj hj => ?_)
              obtain rfl : jj = 19 := by simpa using hj
              refine op_call (f := 33) (args := #[.slice da z.ob.length dc]) rfl rfl (by simp [go_sem]) (CO.out.mono ?_)
              rintro e w5 ⟨v5, rfl, o5, b5', _⟩
              have b5 : Below wr.heap.size wr w5 := (Below.refl _ wr).drew.trans b5'
              have J5 := hideR (HW.out.1.later b5)
              have hs5 := HW.out.1.size
              have sq5 : w5.cell? ⟨hb, 0, none⟩ = some (.slice (some ⟨gv, 0, none⟩) N c0) ∧ w5.cell? ⟨hb, 1, none⟩ = some (.slice (some ⟨gu, 0, none⟩) N cw) ∧ w5.cell? ⟨gv, i, none⟩ = some (.slice (some ⟨go, 0, none⟩) L co) ∧ w5.cell? ⟨gu, i, none⟩ = some (.slice (some ⟨gw, 0, none⟩) L cw2) ∧ w5.cell? ⟨go, k * 3 + 1, none⟩ = some (.slice da z.ob.length dc) :=
                ⟨(b5.cell (p := ⟨hb, 0, none⟩) (cell_lt q0)).trans q0, (b5.cell (p := ⟨hb, 1, none⟩) (cell_lt q1)).trans q1, (b5.cell (p := ⟨gv, i, none⟩) (cell_lt r0)).trans r0, (b5.cell (p := ⟨gu, i, none⟩) (cell_lt r1)).trans r1, (b5.cell (p := ⟨go, k * 3 + 1, none⟩) (cell_lt m1)).trans m1⟩
              have m5 := (b5.cell (p := ⟨gw, k * 3 + 1, none⟩) (cell_lt m3)).trans m3
              have f5 := (b5.frozen (p := ⟨gw, k * 3 + 1, none⟩) (cell_lt m3)).trans (fz2 (k * 3 + 1))
              have J6 := hideR (J5.out.putw HW.out.2.rap HXZ.out.1 HXZ.out.2.1 HXZ.out.2.2 (v := v5) (o5.mono (Nat.le_trans (Nat.le_trans hB2 (by have := HW.out.1.ws; have := HBX.out; omega)) hs5)) (fun g e => Nat.le_trans hs5 (o5.lt g e).1))
              obtain ⟨a5, c5, e5, _⟩ := o5.shape
              subst e5
              clear b5' o5 b5
              refine ⟨_, rfl, sq5, ?_⟩
              simp only [Act.put, List.setIfInBounds_toArray, List.set_cons_zero, List.set_cons_succ]
              refine H_take (i := 20) (v := .pointer (some ⟨gw, k * 3, none⟩)) (some 122) rfl rfl (by kernel_rfl) (by kernel_rfl) (by kernel_rfl) (fun _ _ _ h => h) rfl (fun X hX => ?_) sq5 ?_
              · simp [go_sem, tkl]
              simp only [Act.put, List.setIfInBounds_toArray, List.set_cons_zero, List.set_cons_succ]
              refine H_take (i := 21) (v := .pointer (some ⟨gw, k * 3 + 1, none⟩)) (some 123) rfl rfl (by kernel_rfl) (by kernel_rfl) (by kernel_rfl) (fun _ _ _ h => h) rfl (fun X hX => ?_) sq5 ?_
              · go_simp
              simp only [Act.put, List.setIfInBounds_toArray, List.set_cons_zero, List.set_cons_succ]
              refine wpAnyH_all (rs := [22]) (by kernel_rfl) (by decide) (fun jj hj => ?_)
              obtain rfl : jj = 22 := by simpa using hj
              refine op_skip (w' := w5.setCell ⟨gw, k * 3 + 1, none⟩ (.slice a5 z.ob.length c5)) rfl rfl (by simp [go_sem, m5, f5]) ⟨⟨(cell_set_other w5 gw _ _ hb 0 n2).trans sq5.1, (cell_set_other w5 gw _ _ hb 1 n2).trans sq5.2.1, (cell_set_other w5 gw _ _ gv i n3).trans sq5.2.2.1, (cell_set_other w5 gw _ _ gu i n4).trans sq5.2.2.2.1, (cell_set_other w5 gw _ _ go (k * 3 + 1) n1).trans sq5.2.2.2.2⟩, ?_⟩
              refine wpAnyH_done (by kernel_rfl) ?_ _
              simp only [Act.put, List.setIfInBounds_toArray, List.set_cons_zero, List.set_cons_succ]
              have P6 := hideR (HW.out.2.put (v := .slice a5 z.ob.length c5) HXZ.out.1 HXZ.out.2.1)
              clear m5 f5 sq5 sq q0 q1 r0 r1 m1 m3 fz2
              go_wp2_with fail
              go_roundg (L - (k + 1))
              case measure => omega
              case rel => exact ⟨k + 1, _, by go_num, Nat.le_refl _, hkl, ⟨⟨J6.out, P6.out.1⟩⟩, ⟨by
                obtain ⟨y, hy, hyl⟩ := P6.out.2
                exact ⟨y, hy, hyl.trans HXL.out⟩⟩⟩
            · have tkl : ¬ (k : Int) < (L : Int) := by omega
              have HXX := hideR (And.intro hx hxl)
              clear hx
              go_wp2_with fail
              go_roundg (N - (i + 1))
              case measure => omega
              case rel => exact ⟨i + 1, Q, by go_num, Nat.le_refl _, hlt, ⟨⟨HW.out.1, HW.out.2.next HXX.out.1 (by have := HXX.out.2; omega)⟩⟩⟩
        · have tlt : ¬ (i : Int) < (N : Int) := by omega
          have S40 := hideR (S4.start HW.out.2.len HW.out.2.rap HW.out.2.few (fun x hx z hz => by
            obtain ⟨j, hj⟩ := List.getElem?_of_mem hx
            obtain ⟨k, hk⟩ := List.getElem?_of_mem hz
            exact HW.out.2.done j x k z hj hk (.inl (by have := (List.getElem?_eq_some_iff.1 hj).1; have := HW.out.2.len; omega))))
          have J40 := hideR HW.out.1
          clear HW
          go_wp2_with fail
          clear tlt hlt hgo hi
          go_loopg [10] N (fun gk s10 wr => ∃ (i : Nat) (R : List Ls) (ao' aw' : Option Addr) (co' cw' : Nat), s10 = .int .i64 (i : Int) ∧ N - i ≤ gk ∧ i ≤ N ∧ HidR (SpJ w B hb (.slice ao N c0) (.slice aw N cw) P s0 bx M0 es5 lab5 (.slice ao' (N + i) co') (.slice aw' (N + i) cw') (Q ++ R) sz wr ∧ S4 N T i Q R))
          case atStart => exact ⟨0, [], ao, aw, c0, cw, rfl, by omega, by omega, ⟨⟨by rw [List.append_nil]; exact J40.out, S40.out⟩⟩⟩
          case round =>
            clear J40 S40
            obtain ⟨i, R, ao', aw', co', cw', rfl, hgo, hi, HW⟩ := hrel
            by_cases hlt : i < N
            · have tlt : (i : Int) < (N : Int) := by omega
              have tlt2 : (i : Int) < (N : Int) + (i : Int) := by omega
              have hi5 : i ≤ 536870911 := by omega
              obtain ⟨x, hx⟩ : ∃ x, Q[i]? = some x := ⟨_, List.getElem?_eq_getElem (by have := HW.out.2.len; omega)⟩
              have hxa : (Q ++ R)[i]? = some x := by rw [List.getElem?_append_left (List.getElem?_eq_some_iff.1 hx).1]; exact hx
              have hxm : x ∈ Q ++ R := List.mem_of_getElem? hxa
              have hal : (Q ++ R).length = N + i := by rw [List.length_append, HW.out.2.len, HW.out.2.rl]
              obtain ⟨q0, q1, _, _⟩ := HW.out.1.fd.rows.cells
              obtain ⟨gv, ca, gu, cb, ev, eu, r0, r1, nv, nu⟩ := HW.out.1.fd.read hxa
              rw [hal] at ev eu
              simp only [Value.slice.injEq, true_and] at ev eu
              obtain ⟨rfl, rfl⟩ := ev
              obtain ⟨rfl, rfl⟩ := eu
              obtain ⟨L, hL⟩ : ∃ L, L = x.l.length := ⟨_, rfl⟩
              have lx := HW.out.1.fd.ls x hxm
              obtain ⟨xa, xc, exo⟩ := row_formR lx.ro
              obtain ⟨wa, wc, exw, hraw⟩ := lx.rawW
              rw [← hL] at exo exw
              rw [exo] at r0
              rw [exw] at r1
              have hfw := HW.out.2.few x (List.mem_of_getElem? hx)
              rw [← hL] at hfw
              have hL1 := hfw.1
              have co2 := ownFiles_any wr wa wc (x.l.map fun z => z.w.1) (by rw [List.map_map]; exact hraw) (by rw [List.length_map, ← hL]; omega) (fun f hf => by
                obtain ⟨z, hz, rfl⟩ := List.mem_map.1 hf
                have h1 := HW.out.2.eql x hxm z hz
                have h2 := hfw.2 z hz
                rw [h1] at h2
                exact h2)
              rw [List.length_map, ← hL] at co2
              have CO := hideR co2
              have hBr : B ≤ wr.heap.size := Nat.le_trans hB2 (Nat.le_trans (by have := HW.out.1.ws; have := HBX.out; omega) HW.out.1.size)
              have HXX := hideR (And.intro hx (And.intro hxm (And.intro exo hL)))
              have HXA := hideR (And.intro hxa (HW.out.2.gap i x (Nat.le_refl _) hx))
              clear hx hxa hxm hal lx exo exw hraw hfw co2 hL nv nu
              go_wp2_with (first
                | (go_at_call 34
                   refine CO.out.mono ?_
                   rintro e w2 ⟨b2, u, M, rfl, f2, hm⟩
                   have G2 := GrI.start HW.out.1 HXX.out.2.1 b2 f2 hBr
                   have hml : M.length = L := by have := congrArg List.length hm; simp only [List.length_map] at this; have := HXX.out.2.2.2; omega
                   obtain ⟨ua, uc, eu⟩ := row_formR f2.row
                   rw [hml] at eu
                   rw [HXX.out.2.2.1, eu] at G2
                   have J2 := hideR (HW.out.1.later b2)
                   have HG2 := hideR G2
                   have F2 : HidR (GF s0 L (x.l.map Fz.o) M) := ⟨⟨by rw [List.length_map]; exact HXX.out.2.2.2.symm, hml, by
                     rw [hm, List.map_map]
                     exact List.map_congr_left (fun z hz => by
                       have := HW.out.2.eql x HXX.out.2.1 z hz
                       simp [Fz.o, Fz.w, this]), fun p hp => by
                     obtain ⟨z, hz, rfl⟩ := List.mem_map.1 hp
                     exact (HW.out.1.fd.ls x HXX.out.2.1).fit z hz, fun p hp g e => Nat.le_trans HW.out.1.size ((f2.own p hp).lt g e).1⟩⟩
                   subst eu
                   clear b2 f2 hm hml G2))
              clear q0 q1 r0 r1
              go_loopg [11, 12, 13] 20 (fun gk s11 s12 s13 wr => ∃ (k : Nat) (va ua : Option Addr) (vc uc : Nat) (G M : List (Fl × Value)), s11 = .slice va (L + k) vc ∧ s12 = .slice ua (L + k) uc ∧ s13 = .int .i64 (k : Int) ∧ 20 - k ≤ gk ∧ k ≤ 20 ∧ HidR (SpJ w B hb (.slice ao N c0) (.slice aw N cw) P s0 bx M0 es5 lab5 (.slice (some ⟨gv, 0, none⟩) (N + i) co') (.slice (some ⟨gu, 0, none⟩) (N + i) cw') (Q ++ R) sz wr ∧ GrI B hb (.slice (some ⟨gv, 0, none⟩) (N + i) co') (.slice (some ⟨gu, 0, none⟩) (N + i) cw') (Q ++ R) sz s0 x (.slice va (L + k) vc) (.slice ua (L + k) uc) G M wr ∧ GF s0 (L + k) G M))
              case atStart => exact ⟨0, xa, ua, xc, uc, _, M, rfl, rfl, rfl, by omega, by omega, ⟨⟨J2.out, HG2.out, F2.out⟩⟩⟩
              case round =>
                clear J2 HG2 F2
                obtain ⟨k, va, ua, vc, uc, G, M, rfl, rfl, rfl, hgk, hk, HG⟩ := hrel
                by_cases hk20 : k < 20
                · have tk : (k : Int) < 20 := by omega
                  have n9 := (n9_fit hi5).1
                  have al : Below wr.heap.size wr (wr.alloc (.cells #[.int .i64 (-9000 - (i : Int)), .slice none 0 0, .int .i64 0] 62)) := (Below.refl _ wr).alloc (Nat.le_refl _) _
                  have GA := hideR (And.intro (HG.out.1.later al) (HG.out.2.1.later al))
                  have hss := HG.out.1.size
                  have hBr2 : B ≤ wr.heap.size := Nat.le_trans hB2 (Nat.le_trans (by have := HG.out.1.ws; have := HBX.out; omega) hss)
                  clear al
                  go_wp2_with (first
                    | (refine wpList_fapp rfl (.tmp 148) (.tmp 152) rfl B (.slice va (L + k) vc) (L + k) (flatR G) rfl (by have := GA.out.2.rv; rw [HG.out.2.2.gl] at this; exact this) (some ⟨wr.heap.size, 0, none⟩) 1 1 [.int .i64 (-9000 - (i : Int)), .slice none 0 0, .int .i64 0] rfl rfl (.inr (src_one wr (-9000 - (i : Int)) 0 (.slice none 0 0))) one_file (by omega) (by rw [World.size_alloc]; omega) ?_
                       intro v5 w5 o5 g5 kp5 lv5 _
                       obtain ⟨a5, c5, e5⟩ := row_formR o5
                       rw [show L + k + 1 = L + (k + 1) by omega] at e5
                       have go5 := GA.out.2.out (p := ((⟨-9000 - (i : Int), [], 0⟩ : Fl), Value.slice none 0 0)) HXA.out.1 HXA.out.2 (by rw [World.size_alloc]; omega) (by rw [HG.out.2.2.gl]; exact o5) g5 (by rw [HG.out.2.2.gl]; exact kp5) lv5 (Own.nil _ _)
                       have j5 := GA.out.1.step go5.2 (GA.out.2.kv HXX.out.2.1) go5.1.fd (fun _ e => .inl e)
                       have al5 : Below w5.heap.size w5 (w5.alloc (.cells #[.int .i64 (-9000 - (i : Int)), .slice none 0 0, .int .i64 0] 62)) := (Below.refl _ w5).alloc (Nat.le_refl _) _
                       have GB := hideR (And.intro (j5.later al5) (go5.1.later al5))
                       have hz5 := go5.2.size
                       rw [World.size_alloc] at hz5
                       subst e5
                       clear o5 g5 kp5 lv5 go5 j5 al5)
                    | (refine wpList_fapp rfl (.tmp 154) (.tmp 158) rfl B (.slice ua (L + k) uc) (L + k) (flatR M) rfl (by have := GB.out.2.ru; rw [HG.out.2.2.ml] at this; exact this) (some ⟨w5.heap.size, 0, none⟩) 1 1 [.int .i64 (-9000 - (i : Int)), .slice none 0 0, .int .i64 0] rfl rfl (.inr (src_one w5 (-9000 - (i : Int)) 0 (.slice none 0 0))) one_file (by omega) (by rw [World.size_alloc]; omega) ?_
                       intro v6 w6 o6 g6 _ lv6 _
                       obtain ⟨a6, c6, e6⟩ := row_formR o6
                       rw [show L + k + 1 = L + (k + 1) by omega] at e6
                       have go6 := GB.out.2.want (p := ((⟨-9000 - (i : Int), [], 0⟩ : Fl), Value.slice none 0 0)) (by rw [World.size_alloc]; omega) (by rw [HG.out.2.2.ml]; exact o6) g6 lv6 (Own.nil _ _)
                       have j6 := GB.out.1.step go6.2 GB.out.2.ku go6.1.fd (fun _ e => .inl e)
                       have G6 := hideR (And.intro j6 go6.1)
                       subst e6
                       clear o6 g6 lv6 go6 j6))
                  go_roundg (20 - (k + 1))
                  case measure => omega
                  case rel => exact ⟨k + 1, a5, a6, c5, c6, _, _, rfl, rfl, by go_num, Nat.le_refl _, hk20, ⟨⟨G6.out.1, G6.out.2, HG.out.2.2.snoc i hi5⟩⟩⟩
                · have tk : ¬ (k : Int) < 20 := by omega
                  obtain rfl : k = 20 := by omega
                  obtain ⟨k0, _, _, _⟩ := HG.out.1.fd.rows.cells
                  have hal : ((Q ++ R).map (·.ov)).length = N + i ∧ ((Q ++ R).map (·.wv)).length = N + i := by simp [HW.out.2.len, HW.out.2.rl]
                  have HAL := hideR hal
                  have hss := HG.out.1.size
                  have hBr2 : B ≤ wr.heap.size := Nat.le_trans hB2 (Nat.le_trans (by have := HG.out.1.ws; have := HBX.out; omega) hss)
                  have al1 : Below wr.heap.size wr (wr.alloc (.cells #[.slice va (L + 20) vc] 48)) := (Below.refl _ wr).alloc (Nat.le_refl _) _
                  have A1 := hideR al1
                  clear al1 hal
                  go_wp2_with (first
                    | (refine wpList_pushF rfl (.tmp 164) (.tmp 166) rfl B (.slice (some ⟨gv, 0, none⟩) (N + i) co') (N + i) ((Q ++ R).map (·.ov)) rfl (by have := HG.out.1.fd.rows.ro; rw [HAL.out.1] at this; exact this) (.slice va (L + 20) vc) wr.heap.size rfl rfl rfl (by omega) hBr2 ?_
                       intro vo' w2 o2 g2 l2
                       obtain ⟨r3, kp3, c3, f3⟩ := (HG.out.1.fd.rows.later A1.out).pushOut (by rw [HAL.out.1]; exact o2) g2 (by simpa using l2)
                       obtain ⟨ap, cp, e2⟩ := row_formR o2
                       rw [show N + i + 1 = N + (i + 1) by omega] at e2
                       subst e2
                       have L2 : HidR (∀ g, (Value.slice ap (N + (i + 1)) cp).ownBlock = some g → (Value.slice (some ⟨gv, 0, none⟩) (N + i) co').ownBlock = some g ∨ s0 ≤ g) := ⟨fun g e => by
                         rcases l2 with l | l
                         · exact .inl (l ▸ e)
                         · rw [l] at e
                           simp only [Option.some.injEq] at e
                           right
                           omega⟩
                       obtain ⟨w3, hw3⟩ : ∃ w3, w3 = w2.setCell ⟨hb, 0, none⟩ (.slice ap (N + (i + 1)) cp) := ⟨_, rfl⟩
                       have HW3 := hideR hw3
                       rw [← hw3] at r3 kp3
                       have R3 := hideR r3
                       have K3 := hideR kp3
                       have hz3 := kp3.size
                       rw [World.size_alloc] at hz3
                       obtain ⟨_, q1, _, _⟩ := r3.cells
                       rw [hw3] at q1
                       clear o2 g2 l2 r3 kp3 hw3)
                    | (rw [← HW3.out]
                       refine wpList_pushF rfl (.tmp 174) (.tmp 176) rfl B (.slice (some ⟨gu, 0, none⟩) (N + i) cw') (N + i) ((Q ++ R).map (·.wv)) rfl (by have := R3.out.rw; rw [HAL.out.2] at this; exact this) (.slice ua (L + 20) uc) w2.heap.size (by rw [HW3.out]; simp) rfl rfl (by omega) (by omega) ?_
                       intro vw' w4 o4 g4 l4
                       have al3 : Below w3.heap.size w3 (w3.alloc (.cells #[.slice ua (L + 20) uc] 48)) := (Below.refl _ w3).alloc (Nat.le_refl _) _
                       obtain ⟨r5, kp5, c5, f5⟩ := (R3.out.later al3).pushWant (by rw [HAL.out.2]; exact o4) g4 (by simpa using l4)
                       obtain ⟨aq, cq, e4⟩ := row_formR o4
                       rw [show N + i + 1 = N + (i + 1) by omega] at e4
                       subst e4
                       have L4 : HidR (∀ g, (Value.slice aq (N + (i + 1)) cq).ownBlock = some g → (Value.slice (some ⟨gu, 0, none⟩) (N + i) cw').ownBlock = some g ∨ s0 ≤ g) := ⟨fun g e => by
                         rcases l4 with l | l
                         · exact .inl (l ▸ e)
                         · rw [l] at e
                           simp only [Option.some.injEq] at e
                           right
                           omega⟩
                       have KW : Kept (fun g => g = hb ∨ (Value.slice (some ⟨gv, 0, none⟩) (N + i) co').ownBlock = some g ∨ (Value.slice (some ⟨gu, 0, none⟩) (N + i) cw').ownBlock = some g) wr (w4.setCell ⟨hb, 1, none⟩ (.slice aq (N + (i + 1)) cq)) := (((Kept.ofBelow A1.out).trans (K3.out.mono (fun g _ e => by rcases e with e | e; exact .inl e; exact .inr (.inl e))))).trans (((Kept.ofBelow al3).trans kp5).mono (fun g _ e => by rcases e with e | e; exact .inl e; exact .inr (.inr e)))
                       have J7 := hideR (HG.out.1.pushed HG.out.2.1 HXX.out.2.1 HG.out.2.2.eq HG.out.2.2.fit HG.out.2.2.new KW r5 L2.out L4.out)
                       have S7 := hideR (HW.out.2.next HXX.out.1 HG.out.2.1 HG.out.2.2.eq)
                       clear o4 g4 l4 r5 kp5 al3 KW))
                  go_roundg (N - (i + 1))
                  case measure => omega
                  case rel => exact ⟨i + 1, _, ap, aq, cp, cq, by go_num, Nat.le_refl _, hlt, ⟨⟨by rw [← List.append_assoc]; exact J7.out, S7.out⟩⟩⟩
            · have tlt : ¬ (i : Int) < (N : Int) := by omega
              have CH3 := hideR (fholds_any wr B hb _ _ (Q ++ R) sz HW.out.1.fd HW.out.2.eql)
              go_wp2_with (first
                | (go_at_call 10
                   refine CH3.out.mono ?_
                   rintro e w6 ⟨rfl, m6, hm6⟩
                   have b6 : Below wr.heap.size wr w6 := by rw [hm6]; exact below_drewN (Below.refl _ wr) m6
                   have J6 := hideR (HW.out.1.later b6)
                   have CB := hideR (holds_any w6 B lab5 bx M0 es5 J6.out.held)
                   clear hm6 b6)
                | (go_at_call 35
                   refine CB.out.mono ?_
                   rintro e w7 ⟨rfl, m7, hm7⟩
                   have b7 : Below w6.heap.size w6 w7 := by rw [hm7]; exact below_drewN (Below.refl _ w6) m7
                   have J7 := hideR (J6.out.later b7)
                   clear hm7 b7))
              go_ret
              refine ⟨rfl, J7.out.kept, _, _, _, sz, J7.out.fd, by have h1 := HW.out.2.len; have h2 := HW.out.2.rl; have h3 := HN.out; rw [List.length_append]; omega, fun g e => ?_⟩
              rcases J7.out.org g e with e | e
              · exact .inl e.b
              · exact .inr (Nat.le_trans J7.out.ws e)
end Go.Proofs.Ytnpofjeiamjioaa
