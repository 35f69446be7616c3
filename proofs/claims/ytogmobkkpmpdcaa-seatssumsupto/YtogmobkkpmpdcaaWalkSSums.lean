/-
  The walk of SeatsSums.
-/
import Derived.Test.YtogmobkkpmpdcaaSPure
import Derived.Test.YtogmobkkpmpdcaaSSteps
import Derived.Deep.MidRow
namespace Go.Proofs.Ytogmobkkpmpdcaa.seatsSums
open Go.RowKit
theorem IsStps.at {w W : World} {a : Option Addr} {c : Nat} {l : List StpI} (h : IsStps w a c l) (hb : Below w.heap.size w W) {k : Nat} (hk : k < l.length) : ∃ (b o : Nat) (x : StpI), a = some ⟨b, o, none⟩ ∧ x.fits ∧ b < w.heap.size ∧ W.rangeAt b (o + k * 7) x.cells := by
  rcases h.2.2.2 with rfl | ⟨b, o, rfl, hlt, hc⟩
  · cases hk
  · obtain ⟨x, hx⟩ : ∃ x, l[k]? = some x := ⟨_, List.getElem?_eq_getElem hk⟩
    exact ⟨b, o, x, rfl, h.2.2.1 x (List.mem_of_getElem? hx), hlt, fun i u hu => (hb.cell (p := ⟨b, o + k * 7 + i, none⟩) hlt).trans (hc k x hx i u hu)⟩
theorem step_size (x : StpI) : (Try.prog.info? 28).map (·.size) = some x.cells.length := by
  show _ = some 7
  kernel_rfl
theorem wrap_small (x : Int) (h0 : -9223372036854775808 ≤ x) (h1 : x ≤ 9223372036854775807) : IntKind.i64.wrap x = x := by rw [IntKind.wrap_i64]; omega
theorem sum_le (f : Int → Nat) {b : Nat} (h : ∀ i, True → f i ≤ b) (l : List Int) : (l.map f).sum ≤ l.length * b := by
  induction l with
  | nil => simp
  | cons a r ih =>
    have := h a trivial
    simp only [List.map_cons, List.sum_cons, List.length_cons, Nat.add_mul, Nat.one_mul]
    omega
theorem sum_ge (f g : Text → Nat) (l : List Text) (h : ∀ t ∈ l, 1 ≤ f t + g t) : l.length ≤ (l.map f).sum + (l.map g).sum := by
  induction l with
  | nil => simp
  | cons a r ih =>
    have h1 := h a (by simp)
    have h2 := ih (fun t ht => h t (List.mem_cons_of_mem _ ht))
    simp only [List.map_cons, List.sum_cons, List.length_cons]
    omega
/-- Connections, when so many steps were done. -/
structure G1 (w : World) (B sb : Nat) (N : Nat) (W : World) : Prop where
  bel : Below w.heap.size w W
  base : w.heap.size ≤ B
  le : B ≤ W.heap.size
  gd : ∃ S, Gd B W sb S N
set_option maxHeartbeats 8000000 in
set_option maxRecDepth 1000000 in
theorem walk (a0 : Option Addr) (c0 : Nat) (l0 : List StpI) (w : World) (f0 : IsStps w a0 c0 l0 ∧ (a0 = none → c0 = 0)) (hb0 : l0.length ≤ 1048576) :
    Calls Try.prog 3 #[.slice a0 l0.length c0] w fun e w' => e = .returned (.bool true) ∧ Below w.heap.size w w' := by
  have hnn := fun w p => s_not_nil w p
  have CS : Hid (Calls Try.prog 6 #[] w fun e w' => e = .returned (.bool true) ∧ Below w.heap.size w w') := shown_any w
  have CN : Hid (∀ W, Calls Try.prog 7 #[] W fun e w' => ∃ sb, e = .returned (ptrV sb) ∧ (∃ S, Gd W.heap.size w' sb S 1) ∧ Below W.heap.size W w') := fun W => (sNew_any W).mono fun e w' ⟨sb, lab, mb, qb, qm, h1, h2, h3⟩ => ⟨sb, h1, ⟨_, ⟨lab, h2⟩, ⟨fun r hr => (by cases hr), fun i x hx => (by cases hx)⟩, ⟨Nat.zero_le _, (by show (0 : Int) ≤ _; decide), Nat.zero_le _, fun i x hx => (by cases hx)⟩, fun i x hx => (by cases hx)⟩, h3⟩
  have F0 : Hid (IsStps w a0 c0 l0) := f0.1
  obtain ⟨n0, hn0⟩ : ∃ n, n = l0.length := ⟨_, rfl⟩
  have N0 : Hid (n0 = l0.length) := hn0
  have g0c : n0 ≤ c0 := by have := f0.1.1; omega
  have hnl : n0 ≤ 1048576 := by omega
  rw [← hn0]
  clear hn0 f0 hb0
  go_enter Try.func3, Try.ntmps3
  go_upto_region 6 with (first
    | (go_at_call 6; refine CS.out.mono ?_; rintro e w1 ⟨rfl, b1⟩; have B1 : Hid (Below w.heap.size w w1) := b1; clear b1)
    | (go_at_call 7; refine (CN.out _).mono ?_; rintro e w2 ⟨sb, rfl, s2, b2⟩; have H2 : Hid ((∃ S, Gd w1.heap.size w2 sb S 1) ∧ Below w1.heap.size w1 w2) := ⟨s2, b2⟩; clear s2 b2))
  obtain ⟨B, hB⟩ : ∃ B, B = w1.heap.size := ⟨_, rfl⟩
  have L0 : Hid (G1 w B sb 1 w2) := by
    obtain ⟨s2, b2⟩ := H2.out
    have z1 := B1.out.size
    rw [hB]
    exact ⟨B1.out.trans (b2.mono z1), z1, b2.size, s2⟩
  clear hB H2 B1 CS CN
  go_loopw [5] (fun i wr => ∃ k : Nat, i = .int .i64 k ∧ k ≤ n0 ∧ Hid (G1 w B sb (1 + k) wr)) (fun i _ => n0 - (intOf i).toNat)
  case atStart => exact ⟨0, rfl, Nat.zero_le _, L0⟩
  case round =>
    obtain ⟨k, rfl, hk, HL⟩ := hrel
    clear L0
    by_cases hlt : k < n0
    · as_aux_lemma =>
        have hltI : (k : Int) < (n0 : Int) := by omega
        have hk0 : (0 : Int) ≤ (k : Int) := by omega
        obtain ⟨b, o, x, rfl, hfit, hbl, hrg⟩ := IsStps.at F0.out HL.out.bel (show k < l0.length by rw [← N0.out]; exact hlt)
        have RG : Hid (wr.rangeAt b (o + k * 7) x.cells) := hrg
        obtain ⟨S, hS⟩ := HL.out.gd
        have CD : Hid (Calls Try.prog 8 #[ptrV sb, .agg x.cells.toArray] wr fun e w' => e = .returned (.tuple #[]) ∧ Went B wr sb (1 + k) w') := does_any x.k x.on x.n x.t x.u x.p x.q hS (by omega) (by omega) HL.out.le hfit.2.1
        obtain ⟨cs, hcs⟩ : ∃ cs, cs = x.cells := ⟨_, rfl⟩
        have SZ : Hid ((Try.prog.info? 28).map (·.size) = some cs.length) := by rw [hcs]; exact step_size x
        rw [← hcs] at RG CD
        clear hcs hS hrg hfit
        go_wp2_with (first
          | (refine wpList_load_mid rfl 28 (.tmp 38) rfl b (o + k * 7) rfl cs _ RG.out Try.underlying28 rfl SZ.out ?_)
          | (go_at_call 8; refine CD.out.mono ?_; rintro e w5 ⟨rfl, h5⟩; have L5 : Hid (G1 w B sb (1 + k + 1) w5) := ⟨HL.out.bel.trans (h5.2.mono HL.out.base), HL.out.base, Nat.le_trans HL.out.le h5.2.size, h5.1⟩; clear h5))
        exact ⟨⟨k + 1, by go_num, by omega, L5⟩, by simp [intOf]; omega⟩
    · have hltI : ¬ (k : Int) < (n0 : Int) := by omega
      obtain ⟨S, hS⟩ := HL.out.gd
      have HG : Hid (Gd B wr sb S 2000000 ∧ Below w.heap.size w wr) := ⟨hS.mono (by omega), HL.out.bel⟩
      have CNU : Hid (Calls Try.prog 9 #[ptrV sb] wr fun e w' => ∃ v, e = .returned v ∧ Nums w' wr.heap.size v (numsL S) ∧ Below wr.heap.size wr w') := by
        obtain ⟨lab, hs⟩ := hS.seat
        exact nums_any B wr lab sb S hs (by have := nn_64 hs; omega)
      clear hS HL
      go_upto_region 12 with (go_at_call 9; refine CNU.out.mono ?_; rintro e w3 ⟨v3, rfl, r3, b3⟩; have H3 : Hid (Nums w3 wr.heap.size v3 (numsL S) ∧ Below wr.heap.size wr w3) := ⟨r3, b3⟩; clear r3 b3)
      obtain ⟨av, cv, rfl⟩ := H3.out.1.form
      obtain ⟨P, hP⟩ : ∃ P, P = numsL S := ⟨_, rfl⟩
      have HPP : Hid (P = numsL S) := hP
      obtain ⟨m, hm⟩ : ∃ m, m = P.length := ⟨_, rfl⟩
      have HMM : Hid (m = P.length) := hm
      have hml : m ≤ 64 := by rw [hm, hP]; exact numsL_len S
      rw [← hP] at H3 ⊢
      rw [← hm]
      clear hm hP
      go_loopw [7, 8] (fun al i wx => ∃ (j A : Nat), al = .int .i64 A ∧ i = .int .i64 j ∧ j ≤ m ∧ Hid (A = ((P.take j).map (nOf S)).sum ∧ A ≤ j * 2000000) ∧ Hid (Below w3.heap.size w3 wx)) (fun _ i _ => m - (intOf i).toNat)
      case atStart => exact ⟨0, 0, rfl, rfl, Nat.zero_le _, ⟨rfl, Nat.zero_le _⟩, Below.refl _ _⟩
      case round =>
        obtain ⟨j, A, rfl, rfl, hj, HA, HB⟩ := hrel
        by_cases hjm : j < m
        · as_aux_lemma =>
            have hjI : (j : Int) < (m : Int) := by omega
            have hj0 : (0 : Int) ≤ (j : Int) := by omega
            obtain ⟨y, hy⟩ : ∃ y, P[j]? = some y := ⟨_, List.getElem?_eq_getElem (by rw [← HMM.out]; exact hjm)⟩
            obtain ⟨lab, hsa⟩ := HG.out.1.seat
            obtain ⟨x, hx⟩ := Option.isSome_iff_exists.1 ((numsL_mem hsa y).1 (by rw [← HPP.out]; exact List.mem_of_getElem? hy))
            obtain ⟨g, rfl, cy⟩ := H3.out.1.cell hy
            have cy2 : wr.cell? ⟨g, j, none⟩ = some (.int .i64 y) := (HB.out.cell (p := ⟨g, j, none⟩) (cell_lt cy)).trans cy
            have gl3 : g < w3.heap.size := cell_lt cy
            have hcv : m ≤ cv := by
              have h1 := HMM.out
              rcases H3.out.1.2 with ⟨h0, _⟩ | ⟨g', cap, cur, hv, _, _, h2, _⟩
              · cases h0
              · simp only [Value.slice.injEq] at hv; omega
            obtain ⟨o1, o2, o3, _⟩ := HG.out.1.ok y x hx
            have hxn := HG.out.1.few.n y x hx
            have HNX : Hid (A + x.n = ((P.take (j + 1)).map (nOf S)).sum ∧ A + x.n ≤ (j + 1) * 2000000) := by
              refine ⟨?_, by have := HA.out.2; omega⟩
              rw [List.take_add_one, hy, Option.toList_some, List.map_append, List.sum_append, HA.out.1]
              simp [nOf, hx]
            have CG : Hid (Calls Try.prog 10 #[ptrV sb, .int .i64 y] wr fun e w' => ∃ (us : ByteArray) (pu ta : Bool) (gb cap : Nat), e = .returned (.tuple #[.agg #[.int .i64 y, .string us, .slice (some ⟨gb, 0, none⟩) x.n cap, .bool (x.tk != 0), .int .i64 x.un, .bool pu, .bool ta], .bool true]) ∧ x.n ≤ cap ∧ Below wr.heap.size wr w') := gGet (HG.out.1.later (H3.out.2.trans (HB.out.mono H3.out.2.size))) (by omega) hx
            obtain ⟨xn, hxn'⟩ : ∃ xn, xn = x.n := ⟨_, rfl⟩
            obtain ⟨xu, hxu⟩ : ∃ xu, xu = x.un := ⟨_, rfl⟩
            rw [← hxn'] at CG HNX o2 hxn
            rw [← hxu] at CG o3
            have hA2 := HA.out.2
            have hx1 : ((xn : Int) == 0) = false := by simp; omega
            have HUP : Hid (∀ y0, P[j - 1]? = some y0 → 0 < j → y0 < y) := fun y0 h0 hp => by
              have hup := numsL_up S
              rw [← HPP.out] at hup
              obtain ⟨p1, p2⟩ := List.getElem?_eq_some_iff.1 h0
              obtain ⟨p3, p4⟩ := List.getElem?_eq_some_iff.1 hy
              have := List.pairwise_iff_getElem.1 hup (j - 1) j p1 p3 (by omega)
              rw [p2, p4] at this
              exact this
            clear cy hy hxn' hxu hsa hx
            go_upto_region 15 with (go_at_call 10; refine CG.out.mono ?_; rintro e' w6 ⟨us, pu, ta, gb, cap, rfl, h1, h5⟩; have hxc : xn ≤ cap := h1; have H6 : Hid (Below wr.heap.size wr w6) := h5; clear h1 h5)
            obtain ⟨w7, hw7⟩ : ∃ w7, w7 = w6.alloc (.cells #[.int .i64 y, .string us, .slice (some ⟨gb, 0, none⟩) xn cap, .bool (x.tk != 0), .int .i64 xu, .bool pu, .bool ta] 33) := ⟨_, rfl⟩
            have b7 : Below w6.heap.size w6 w7 := by rw [hw7]; exact (Below.refl _ w6).alloc (Nat.le_refl _) _
            have x7 : w7.heap[w6.heap.size]? = some (.cells #[.int .i64 y, .string us, .slice (some ⟨gb, 0, none⟩) xn cap, .bool (x.tk != 0), .int .i64 xu, .bool pu, .bool ta] 33 (0, 0)) := by rw [hw7]; exact heap_alloc_new w6 _
            have q0 : w7.cell? ⟨w6.heap.size, 0, none⟩ = some (.int .i64 y) := by simp [World.cell?, x7]
            have q2 : w7.cell? ⟨w6.heap.size, 2, none⟩ = some (.slice (some ⟨gb, 0, none⟩) xn cap) := by simp [World.cell?, x7]
            have q3 : w7.cell? ⟨w6.heap.size, 3, none⟩ = some (.bool (x.tk != 0)) := by simp [World.cell?, x7]
            have q4 : w7.cell? ⟨w6.heap.size, 4, none⟩ = some (.int .i64 xu) := by simp [World.cell?, x7]
            have xlt : w6.heap.size < w7.heap.size := (Array.getElem?_eq_some_iff.1 x7).1
            have B7 : Hid (Below w3.heap.size w3 w7) := by
              have s1 := HB.out.size
              have s2 := H6.out.size
              exact HB.out.trans ((H6.out.mono s1).trans (b7.mono (by omega)))
            have cn7 : w7.cell? ⟨g, j, none⟩ = some (.int .i64 y) := ((H6.out.trans (b7.mono H6.out.size)).cell (p := ⟨g, j, none⟩) (cell_lt cy2)).trans cy2
            rw [← hw7]
            obtain ⟨xb, hxb⟩ : ∃ xb, xb = w6.heap.size := ⟨_, rfl⟩
            rw [← hxb]
            rw [← hxb] at q0 q2 q3 q4 xlt
            have HP0 : Hid (∀ y0, P[j - 1]? = some y0 → w7.cell? ⟨g, j - 1, none⟩ = some (.int .i64 y0)) := fun y0 h0 => by
              obtain ⟨g', e, c⟩ := H3.out.1.cell h0
              cases e
              exact (B7.out.cell (p := ⟨g, j - 1, none⟩) (cell_lt c)).trans c
            clear hw7 b7 x7 hxb H6 cy2 CG
            have hyy : (y != y) = false := by simp
            by_cases hz : j = 0
            · subst hz
              have hgt : ¬ (0 : Int) < (0 : Int) := by omega
              by_cases htk : x.tk = 0
              · have htb : (x.tk != 0) = false := by simpa using htk
                have hxu0 := o3 htk
                subst hxu0
                rw [htb] at q3
                rw [htb]
                go_quiet (fail)
                generalize hWd : w7.drewN _ = Wd
                have HB9 : Hid (Below w3.heap.size w3 Wd) := by rw [← hWd]; exact B7.out.trans ⟨rfl, rfl, rfl, Nat.le_refl _, fun _ _ => rfl⟩
                have q2d : Wd.cell? ⟨xb, 2, none⟩ = some (.slice (some ⟨gb, 0, none⟩) xn cap) := by rw [← hWd]; exact q2
                have xld : xb < Wd.heap.size := by rw [← hWd]; exact xlt
                clear hWd q0 q2 q3 q4 xlt
                go_wp2_with fail
                exact ⟨⟨0 + 1, A + xn, by go_num, by go_num, by omega, HNX, HB9⟩, by simp [intOf]; omega⟩
              · have htb : (x.tk != 0) = true := by simpa using htk
                rw [htb] at q3
                rw [htb]
                go_quiet (fail)
                generalize hWd : w7.drewN _ = Wd
                have HB9 : Hid (Below w3.heap.size w3 Wd) := by rw [← hWd]; exact B7.out.trans ⟨rfl, rfl, rfl, Nat.le_refl _, fun _ _ => rfl⟩
                have q2d : Wd.cell? ⟨xb, 2, none⟩ = some (.slice (some ⟨gb, 0, none⟩) xn cap) := by rw [← hWd]; exact q2
                have xld : xb < Wd.heap.size := by rw [← hWd]; exact xlt
                clear hWd q0 q2 q3 q4 xlt
                go_wp2_with fail
                exact ⟨⟨0 + 1, A + xn, by go_num, by go_num, by omega, HNX, HB9⟩, by simp [intOf]; omega⟩
            · have hgt : (0 : Int) < (j : Int) := by omega
              obtain ⟨y0, hy0⟩ : ∃ y0, P[j - 1]? = some y0 := ⟨_, List.getElem?_eq_getElem (by rw [← HMM.out]; omega)⟩
              have hup := HUP.out y0 hy0 (by omega)
              have cm1 := HP0.out y0 hy0
              have hq1 : (0 : Int) ≤ (j : Int) - 1 := by omega
              have hq2 : (j : Int) - 1 < (m : Int) := by omega
              have hq3 : ((j : Int) - 1).toNat = j - 1 := by omega
              have hwr := wrap_small ((j : Int) - 1) (by omega) (by omega)
              have hgn : 0 < j := by omega
              have hgd : decide ((0 : Int) < (j : Int)) = true := decide_eq_true hgt
              have hge : ¬ y ≤ y0 := by omega
              clear hy0
              by_cases htk : x.tk = 0
              · have htb : (x.tk != 0) = false := by simpa using htk
                have hxu0 := o3 htk
                subst hxu0
                rw [htb] at q3
                rw [htb]
                go_quiet (fail)
                generalize hWd : w7.drewN _ = Wd
                have HB9 : Hid (Below w3.heap.size w3 Wd) := by rw [← hWd]; exact B7.out.trans ⟨rfl, rfl, rfl, Nat.le_refl _, fun _ _ => rfl⟩
                have q2d : Wd.cell? ⟨xb, 2, none⟩ = some (.slice (some ⟨gb, 0, none⟩) xn cap) := by rw [← hWd]; exact q2
                have xld : xb < Wd.heap.size := by rw [← hWd]; exact xlt
                clear hWd q0 q2 q3 q4 xlt
                go_wp2_with fail
                exact ⟨⟨j + 1, A + xn, by go_num, by go_num, by omega, HNX, HB9⟩, by simp [intOf]; omega⟩
              · have htb : (x.tk != 0) = true := by simpa using htk
                rw [htb] at q3
                rw [htb]
                go_quiet (fail)
                generalize hWd : w7.drewN _ = Wd
                have HB9 : Hid (Below w3.heap.size w3 Wd) := by rw [← hWd]; exact B7.out.trans ⟨rfl, rfl, rfl, Nat.le_refl _, fun _ _ => rfl⟩
                have q2d : Wd.cell? ⟨xb, 2, none⟩ = some (.slice (some ⟨gb, 0, none⟩) xn cap) := by rw [← hWd]; exact q2
                have xld : xb < Wd.heap.size := by rw [← hWd]; exact xlt
                clear hWd q0 q2 q3 q4 xlt
                go_wp2_with fail
                exact ⟨⟨j + 1, A + xn, by go_num, by go_num, by omega, HNX, HB9⟩, by simp [intOf]; omega⟩
        · have hjI : ¬ (j : Int) < (m : Int) := by omega
          obtain rfl : j = m := by omega
          have TB4 : Hid (∀ W, Below wr.heap.size wr W → True) := fun _ _ => trivial
          clear TB4
          have GW0 : Hid (Gd B wr sb S 2000000 ∧ Below w.heap.size w wr) := by
            have b := H3.out.2.trans (HB.out.mono H3.out.2.size)
            exact ⟨HG.out.1.later b, HG.out.2.trans (b.mono HG.out.2.size)⟩
          have CT : Hid (Calls Try.prog 11 #[ptrV sb] wr fun e w' => ∃ (v : Value) (ts : List Text), e = .returned v ∧ Tb S ts ∧ ts.Pairwise (fun x y => less x y = true) ∧ (∀ t ∈ ts, t.length ≤ maxLen) ∧ w'.ownsRow wr.heap.size 9 1 v ts.length (ts.map encStr) ∧ Below wr.heap.size wr w') := by
            obtain ⟨lab, hs⟩ := GW0.out.1.seat
            refine (tubes_any B wr lab sb S 2000000 hs (nn_64 hs) (by decide) (fun i x hx => ⟨(GW0.out.1.ok i x hx).1, GW0.out.1.few.n i x hx⟩)).mono ?_
            rintro e w' ⟨v, g, T, ss, rfl, hT, hc, hss, ho, hb⟩
            refine ⟨v, T.map Prod.fst, rfl, Tb.of GW0.out.1 hT hc hss, List.pairwise_map.2 hT.up, fun t ht => ?_, ?_, hb⟩
            · obtain ⟨i, _, x, hx, hu⟩ := ((Tb.of GW0.out.1 hT hc hss).mem t).1 ht
              have hv : validB t = true := by
                rcases hu with hu | hu
                · rw [← hu]; exact (GW0.out.1.ok i x hx).1
                · obtain ⟨v', hv'⟩ := Option.isSome_iff_exists.1 hu
                  exact (hs.each i x hx).book.ok t v' hv'
              unfold validB at hv
              simp only [Bool.and_eq_true, decide_eq_true_eq] at hv
              unfold maxLen
              omega
            · rw [List.length_map, List.map_map]
              exact ho
          have HAF : Hid (A = ((numsL S).map (nOf S)).sum) := by
            have h1 := HA.out.1
            rw [List.take_of_length_le (by rw [← HMM.out]; exact Nat.le_refl _), HPP.out] at h1
            exact h1
          clear HA HB H3 HG
          go_upto_region 22 with (go_at_call 11; refine CT.out.mono ?_; rintro e w4 ⟨v4, ts, rfl, h1, h2, h3, h4, h5⟩; have H4 : Hid (Tb S ts ∧ ts.Pairwise (fun x y => less x y = true) ∧ (∀ t ∈ ts, t.length ≤ maxLen) ∧ w4.ownsRow wr.heap.size 9 1 v4 ts.length (ts.map encStr) ∧ Below wr.heap.size wr w4) := ⟨h1, h2, h3, h4, h5⟩; clear h1 h2 h3 h4 h5)
          have HR : Hid (∃ av cv, v4 = .slice av ts.length cv ∧ ts.length ≤ cv ∧ ∀ (k : Nat) (x : Text), ts[k]? = some x → ∃ g, av = some ⟨g, 0, none⟩ ∧ g < w4.heap.size ∧ w4.cell? ⟨g, k, none⟩ = some (.string ⟨x.toArray⟩)) := by
            rcases H4.out.2.2.2.1.2 with ⟨rfl, h0⟩ | ⟨g, cap, cur, rfl, hB, hgh, hnc, hcm, hcs, htake⟩
            · exact ⟨none, 0, by rw [h0], by omega, fun k p hp => by have := (List.getElem?_eq_some_iff.1 hp).1; omega⟩
            · refine ⟨_, _, rfl, hnc, fun k x hx => ⟨g, rfl, (Array.getElem?_eq_some_iff.1 hgh).1, ?_⟩⟩
              have hlt := (List.getElem?_eq_some_iff.1 hx).1
              have hy : (cur.toList.take (ts.length * 1))[k]? = some (.string ⟨x.toArray⟩) := by rw [htake, List.getElem?_map, hx]; rfl
              rw [List.getElem?_take_of_lt (by omega)] at hy
              simpa [World.cell?, hgh] using hy
          obtain ⟨at', ct, rfl, hct, hrd⟩ := HR.out
          have HRD : Hid (∀ (k : Nat) (x : Text), ts[k]? = some x → ∃ g, at' = some ⟨g, 0, none⟩ ∧ g < w4.heap.size ∧ w4.cell? ⟨g, k, none⟩ = some (.string ⟨x.toArray⟩)) := hrd
          obtain ⟨r, hr⟩ : ∃ r, r = ts.length := ⟨_, rfl⟩
          have HRR : Hid (r = ts.length) := hr
          have hrl : r ≤ 1000000000 := by
            rw [hr]
            have g4 := GW0.out.1
            have s1 := sum_uses g4 H4.out.1
            have s2 := sum_sees g4 H4.out.1
            have s3 := numsL_len S
            have s4 : ((numsL S).map (nOf S)).sum ≤ (numsL S).length * 2000000 := sum_le _ (fun i hi => by
              unfold nOf
              cases hF : S.F i with
              | none => exact Nat.zero_le _
              | some x => exact g4.few.n i x hF) _
            have s5 : ts.length ≤ (ts.map (fun t => cntB S (usesP t) (numsL S))).sum + (ts.map (fun t => cntB S (seesP t) (numsL S))).sum := sum_ge _ _ ts (fun t ht => by
              obtain ⟨i, hi, x, hx, h1⟩ := (H4.out.1.mem t).1 ht
              obtain ⟨lab, hsa⟩ := g4.seat
              rcases h1 with h1 | h1
              · have : 0 < cntB S (usesP t) (numsL S) := cntB_pos.2 ⟨i, hi, x, hx, by simp [usesP, h1]⟩
                omega
              · have : 0 < cntB S (seesP t) (numsL S) := cntB_pos.2 ⟨i, hi, x, hx, by simpa [seesP] using (some_held (hsa.each i x hx).book t).1 h1⟩
                omega)
            omega
          have GW : Hid (∀ W, Below w4.heap.size w4 W → Gd B W sb S 2000000) := fun W hW => GW0.out.1.later (H4.out.2.2.2.2.trans (hW.mono H4.out.2.2.2.2.size))
          have BW4 : Hid (Below w.heap.size w w4) := GW0.out.2.trans (H4.out.2.2.2.2.mono GW0.out.2.size)
          have HTB : Hid (Tb S ts ∧ ts.Pairwise (fun x y => less x y = true) ∧ ∀ t ∈ ts, t.length ≤ maxLen) := ⟨H4.out.1, H4.out.2.1, H4.out.2.2.1⟩
          rw [← hr] at hct ⊢
          clear hr hrd HR H4 GW0 CT
          go_loopw [12, 13, 14] (fun us ws i wx => ∃ (q U V : Nat), us = .int .i64 U ∧ ws = .int .i64 V ∧ i = .int .i64 q ∧ q ≤ r ∧ Hid ((U = ((ts.take q).map (fun t => cntB S (usesP t) (numsL S))).sum ∧ V = ((ts.take q).map (fun t => cntB S (seesP t) (numsL S))).sum) ∧ U ≤ q * 64 ∧ V ≤ q * 64) ∧ Hid (Below w4.heap.size w4 wx)) (fun _ _ i _ => r - (intOf i).toNat)
          case atStart => exact ⟨0, 0, 0, rfl, rfl, rfl, Nat.zero_le _, ⟨⟨rfl, rfl⟩, Nat.zero_le _, Nat.zero_le _⟩, Below.refl _ _⟩
          case round =>
            obtain ⟨q, U, V, rfl, rfl, rfl, hq, HU, HB⟩ := hrel
            by_cases hqr : q < r
            · as_aux_lemma =>
                have hqI : (q : Int) < (r : Int) := by omega
                have hq0 : (0 : Int) ≤ (q : Int) := by omega
                obtain ⟨t, ht⟩ : ∃ t, ts[q]? = some t := ⟨_, List.getElem?_eq_getElem (by rw [← HRR.out]; exact hqr)⟩
                obtain ⟨g, rfl, gl, ct0⟩ := HRD.out q t ht
                have htl := HTB.out.2.2 t (List.mem_of_getElem? ht)
                obtain ⟨u, hu⟩ : ∃ u, u = cntB S (usesP t) (numsL S) := ⟨_, rfl⟩
                obtain ⟨v, hv⟩ : ∃ v, v = cntB S (seesP t) (numsL S) := ⟨_, rfl⟩
                obtain ⟨c, hc⟩ : ∃ c, c = cntB S (fun x => waitsB x t) (numsL S) := ⟨_, rfl⟩
                obtain ⟨f, hf'⟩ : ∃ f, f = firstW S t := ⟨_, rfl⟩
                have hnl64 := numsL_len S
                have hu64 : u ≤ 64 := by rw [hu]; exact Nat.le_trans (cntB_le _ _ _) hnl64
                have hv64 : v ≤ 64 := by rw [hv]; exact Nat.le_trans (cntB_le _ _ _) hnl64
                have hcv : c ≤ v := by rw [hc, hv]; exact cntB_mono S _ _ (fun x hx => by simp only [waitsB, Bool.and_eq_true] at hx; exact hx.2) _
                have huv : 1 ≤ u + v := by
                  obtain ⟨i, hi, x, hx, h1⟩ := (HTB.out.1.mem t).1 (List.mem_of_getElem? ht)
                  obtain ⟨lab, hsa⟩ := (GW.out _ (Below.refl _ w4)).seat
                  rcases h1 with h1 | h1
                  · have : 0 < u := by rw [hu]; exact cntB_pos.2 ⟨i, hi, x, hx, by simp [usesP, h1]⟩
                    omega
                  · have : 0 < v := by rw [hv]; exact cntB_pos.2 ⟨i, hi, x, hx, by simpa [seesP] using (some_held (hsa.each i x hx).book t).1 h1⟩
                    omega
                have hfc := first_cases (GW.out _ (Below.refl _ w4)) t
                rw [← hc, ← hf'] at hfc
                have HNX : Hid ((U + u = ((ts.take (q + 1)).map (fun t => cntB S (usesP t) (numsL S))).sum ∧ V + v = ((ts.take (q + 1)).map (fun t => cntB S (seesP t) (numsL S))).sum) ∧ U + u ≤ (q + 1) * 64 ∧ V + v ≤ (q + 1) * 64) := by
                  obtain ⟨⟨e1, e2⟩, e3, e4⟩ := HU.out
                  refine ⟨⟨?_, ?_⟩, by omega, by omega⟩
                  · rw [List.take_add_one, ht, Option.toList_some, List.map_append, List.sum_append, ← e1, hu]; simp
                  · rw [List.take_add_one, ht, Option.toList_some, List.map_append, List.sum_append, ← e2, hv]; simp
                have hU64 := HU.out.2.1; have hV64 := HU.out.2.2
                have CU : Hid (∀ W, Below w4.heap.size w4 W → Calls Try.prog 12 #[ptrV sb, .string ⟨t.toArray⟩] W fun e w' => e = .returned (.int .i64 (u : Nat)) ∧ Below W.heap.size W w') := fun W hW => by rw [hu]; exact gUsing (GW.out W hW) t htl
                have CV : Hid (∀ W, Below w4.heap.size w4 W → Calls Try.prog 13 #[ptrV sb, .string ⟨t.toArray⟩] W fun e w' => e = .returned (.int .i64 (v : Nat)) ∧ Below W.heap.size W w') := fun W hW => by rw [hv]; exact gWatching (GW.out W hW) t htl
                have CW : Hid (∀ W, Below w4.heap.size w4 W → Calls Try.prog 14 #[ptrV sb, .string ⟨t.toArray⟩] W fun e w' => e = .returned (.int .i64 (c : Nat)) ∧ Below W.heap.size W w') := fun W hW => by rw [hc]; exact gWaiting (GW.out W hW) t htl
                have CF : Hid (∀ W, Below w4.heap.size w4 W → Calls Try.prog 15 #[ptrV sb, .string ⟨t.toArray⟩] W fun e w' => e = .returned (.int .i64 f) ∧ Below W.heap.size W w') := fun W hW => by rw [hf']; exact gFirst (GW.out W hW) (by decide) t htl
                have HTT : Hid (ts[q]? = some t) := ht
                have HC0 : Hid (w4.cell? ⟨g, q, none⟩ = some (.string ⟨t.toArray⟩) ∧ g < w4.heap.size) := ⟨ct0, gl⟩
                have ctr : wr.cell? ⟨g, q, none⟩ = some (.string ⟨t.toArray⟩) := (HB.out.cell (p := ⟨g, q, none⟩) gl).trans ct0
                clear hu hv hc hf' ht htl ct0 hnl64
                go_upto_region 30 with (first
                  | (go_at_call 12; refine (CU.out _ HB.out).mono ?_; rintro e w6 ⟨rfl, b6⟩; have B6 : Hid (Below w4.heap.size w4 w6) := HB.out.trans (b6.mono HB.out.size); have ct6 : w6.cell? ⟨g, q, none⟩ = some (.string ⟨t.toArray⟩) := (B6.out.cell (p := ⟨g, q, none⟩) HC0.out.2).trans HC0.out.1; clear b6 CU)
                  | (go_at_call 13; refine (CV.out _ B6.out).mono ?_; rintro e w7 ⟨rfl, b7⟩; have B7 : Hid (Below w4.heap.size w4 w7) := B6.out.trans (b7.mono B6.out.size); have ct7 : w7.cell? ⟨g, q, none⟩ = some (.string ⟨t.toArray⟩) := (B7.out.cell (p := ⟨g, q, none⟩) HC0.out.2).trans HC0.out.1; clear b7 CV)
                  | (go_at_call 14; refine (CW.out _ B7.out).mono ?_; rintro e w8 ⟨rfl, b8⟩; have B8 : Hid (Below w4.heap.size w4 w8) := B7.out.trans (b8.mono B7.out.size); have ct8 : w8.cell? ⟨g, q, none⟩ = some (.string ⟨t.toArray⟩) := (B8.out.cell (p := ⟨g, q, none⟩) HC0.out.2).trans HC0.out.1; clear b8 CW)
                  | (go_at_call 15; refine (CF.out _ B8.out).mono ?_; rintro e w9 ⟨rfl, b9⟩; have B9 : Hid (Below w4.heap.size w4 w9) := B8.out.trans (b9.mono B8.out.size); have ct9 : w9.cell? ⟨g, q, none⟩ = some (.string ⟨t.toArray⟩) := (B9.out.cell (p := ⟨g, q, none⟩) HC0.out.2).trans HC0.out.1; clear b9 CF))
                have hwuv := wrap_small ((u : Int) + (v : Int)) (by omega) (by omega)
                have sq : Below w4.heap.size w4 w9.drew := B9.out.drew
                obtain ⟨bz, hb1, hb2⟩ : ∃ bz : Bool, (f == -1) = bz ∧ ((c : Int) == 0) = bz := by
                  rcases hfc with ⟨hf, hc0⟩ | ⟨hf, hc0, x, hx, htk⟩
                  · exact ⟨true, by rw [hf]; rfl, by rw [hc0]; rfl⟩
                  · exact ⟨false, by simp; omega, by simp; omega⟩
                by_cases hz : q = 0
                · as_aux_lemma =>
                    refine wp_region_held_drew (S := fun X => Below w4.heap.size w4 X) (by kernel_rfl) sq (fun _ => ?_)
                    refine H_take (i := 0) (v := .int .i64 (u : Nat)) (some 144) rfl rfl (by kernel_rfl) (by kernel_rfl) (by kernel_rfl) (fun _ _ _ h => h) rfl (fun X hX => ?_) sq ?_
                    · simp [go_sem]
                    simp only [Act.put, List.setIfInBounds_toArray, List.set_cons_zero, List.set_cons_succ]
                    refine H_take (i := 1) (v := .int .i64 (v : Nat)) (some 145) rfl rfl (by kernel_rfl) (by kernel_rfl) (by kernel_rfl) (fun _ _ _ h => h) rfl (fun X hX => ?_) sq ?_
                    · simp [go_sem]
                    simp only [Act.put, List.setIfInBounds_toArray, List.set_cons_zero, List.set_cons_succ]
                    refine H_take (i := 2) (v := .int .i64 ((u : Int) + (v : Int))) (some 146) rfl rfl (by kernel_rfl) (by kernel_rfl) (by kernel_rfl) (fun _ _ _ h => h) rfl (fun X hX => ?_) sq ?_
                    · simp [go_sem, hwuv]
                    simp only [Act.put, List.setIfInBounds_toArray, List.set_cons_zero, List.set_cons_succ]
                    refine H_take (i := 3) (v := .bool false) (some 147) rfl rfl (by kernel_rfl) (by kernel_rfl) (by kernel_rfl) (fun _ _ _ h => h) rfl (fun X hX => ?_) sq ?_
                    · simp [go_sem]; omega
                    simp only [Act.put, List.setIfInBounds_toArray, List.set_cons_zero, List.set_cons_succ]
                    refine H_take (i := 4) (v := .bool false) (some 148) rfl rfl (by kernel_rfl) (by kernel_rfl) (by kernel_rfl) (fun _ _ _ h => h) rfl (fun X hX => ?_) sq ?_
                    · simp [go_sem]
                    simp only [Act.put, List.setIfInBounds_toArray, List.set_cons_zero, List.set_cons_succ]
                    refine H_take (i := 5) (v := .int .i64 (c : Nat)) (some 149) rfl rfl (by kernel_rfl) (by kernel_rfl) (by kernel_rfl) (fun _ _ _ h => h) rfl (fun X hX => ?_) sq ?_
                    · simp [go_sem]
                    simp only [Act.put, List.setIfInBounds_toArray, List.set_cons_zero, List.set_cons_succ]
                    refine H_take (i := 6) (v := .int .i64 (v : Nat)) (some 150) rfl rfl (by kernel_rfl) (by kernel_rfl) (by kernel_rfl) (fun _ _ _ h => h) rfl (fun X hX => ?_) sq ?_
                    · simp [go_sem]
                    simp only [Act.put, List.setIfInBounds_toArray, List.set_cons_zero, List.set_cons_succ]
                    refine H_take (i := 7) (v := .bool false) (some 151) rfl rfl (by kernel_rfl) (by kernel_rfl) (by kernel_rfl) (fun _ _ _ h => h) rfl (fun X hX => ?_) sq ?_
                    · simp [go_sem]; omega
                    simp only [Act.put, List.setIfInBounds_toArray, List.set_cons_zero, List.set_cons_succ]
                    refine H_take (i := 8) (v := .bool false) (some 152) rfl rfl (by kernel_rfl) (by kernel_rfl) (by kernel_rfl) (fun _ _ _ h => h) rfl (fun X hX => ?_) sq ?_
                    · simp [go_sem]
                    simp only [Act.put, List.setIfInBounds_toArray, List.set_cons_zero, List.set_cons_succ]
                    refine H_take (i := 9) (v := .bool false) (some 153) rfl rfl (by kernel_rfl) (by kernel_rfl) (by kernel_rfl) (fun _ _ _ h => h) rfl (fun X hX => ?_) sq ?_
                    · simp [go_sem]
                    simp only [Act.put, List.setIfInBounds_toArray, List.set_cons_zero, List.set_cons_succ]
                    refine H_take (i := 10) (v := .int .i64 f) (some 154) rfl rfl (by kernel_rfl) (by kernel_rfl) (by kernel_rfl) (fun _ _ _ h => h) rfl (fun X hX => ?_) sq ?_
                    · simp [go_sem]
                    simp only [Act.put, List.setIfInBounds_toArray, List.set_cons_zero, List.set_cons_succ]
                    refine H_take (i := 11) (v := .bool bz) (some 155) rfl rfl (by kernel_rfl) (by kernel_rfl) (by kernel_rfl) (fun _ _ _ h => h) rfl (fun X hX => ?_) sq ?_
                    · simp [go_sem, hb1]
                    simp only [Act.put, List.setIfInBounds_toArray, List.set_cons_zero, List.set_cons_succ]
                    refine H_take (i := 12) (v := .int .i64 (c : Nat)) (some 156) rfl rfl (by kernel_rfl) (by kernel_rfl) (by kernel_rfl) (fun _ _ _ h => h) rfl (fun X hX => ?_) sq ?_
                    · simp [go_sem]
                    simp only [Act.put, List.setIfInBounds_toArray, List.set_cons_zero, List.set_cons_succ]
                    refine H_take (i := 13) (v := .bool bz) (some 157) rfl rfl (by kernel_rfl) (by kernel_rfl) (by kernel_rfl) (fun _ _ _ h => h) rfl (fun X hX => ?_) sq ?_
                    · simp [go_sem, hb2]
                    simp only [Act.put, List.setIfInBounds_toArray, List.set_cons_zero, List.set_cons_succ]
                    refine H_take (i := 14) (v := .bool false) (some 158) rfl rfl (by kernel_rfl) (by kernel_rfl) (by kernel_rfl) (fun _ _ _ h => h) rfl (fun X hX => ?_) sq ?_
                    · simp [go_sem]
                    simp only [Act.put, List.setIfInBounds_toArray, List.set_cons_zero, List.set_cons_succ]
                    refine H_take (i := 15) (v := .bool false) (some 159) rfl rfl (by kernel_rfl) (by kernel_rfl) (by kernel_rfl) (fun _ _ _ h => h) rfl (fun X hX => ?_) sq ?_
                    · simp [go_sem]
                    simp only [Act.put, List.setIfInBounds_toArray, List.set_cons_zero, List.set_cons_succ]
                    refine H_take (i := 16) (v := .bool false) (some 160) rfl rfl (by kernel_rfl) (by kernel_rfl) (by kernel_rfl) (fun _ _ _ h => h) rfl (fun X hX => ?_) sq ?_
                    · simp [go_sem]
                    simp only [Act.put, List.setIfInBounds_toArray, List.set_cons_zero, List.set_cons_succ]
                    refine H_take (i := 17) (v := .int .i64 (q : Nat)) (some 161) rfl rfl (by kernel_rfl) (by kernel_rfl) (by kernel_rfl) (fun _ _ _ h => h) rfl (fun X hX => ?_) sq ?_
                    · simp [go_sem]
                    simp only [Act.put, List.setIfInBounds_toArray, List.set_cons_zero, List.set_cons_succ]
                    refine H_take (i := 18) (v := .bool false) (some 162) rfl rfl (by kernel_rfl) (by kernel_rfl) (by kernel_rfl) (fun _ _ _ h => h) rfl (fun X hX => ?_) sq ?_
                    · simp [go_sem]; omega
                    simp only [Act.put, List.setIfInBounds_toArray, List.set_cons_zero, List.set_cons_succ]
                    refine H_take (i := 19) (v := .bool false) (some 163) rfl rfl (by kernel_rfl) (by kernel_rfl) (by kernel_rfl) (fun _ _ _ h => h) rfl (fun X hX => ?_) sq ?_
                    · simp [go_sem]
                    simp only [Act.put, List.setIfInBounds_toArray, List.set_cons_zero, List.set_cons_succ]
                    refine H_pass (i := 20) (some 164) rfl rfl (by kernel_rfl) (by kernel_rfl) (by kernel_rfl) (fun _ _ _ h => h) rfl sq ?_
                    simp only [Act.put, List.setIfInBounds_toArray, List.set_cons_zero, List.set_cons_succ]
                    refine H_pass (i := 21) (some 165) rfl rfl (by kernel_rfl) (by kernel_rfl) (by kernel_rfl) (fun _ _ _ h => h) rfl sq ?_
                    simp only [Act.put, List.setIfInBounds_toArray, List.set_cons_zero, List.set_cons_succ]
                    refine H_pass (i := 22) (some 166) rfl rfl (by kernel_rfl) (by kernel_rfl) (by kernel_rfl) (fun _ _ _ h => h) rfl sq ?_
                    simp only [Act.put, List.setIfInBounds_toArray, List.set_cons_zero, List.set_cons_succ]
                    refine H_pass (i := 23) (some 167) rfl rfl (by kernel_rfl) (by kernel_rfl) (by kernel_rfl) (fun _ _ _ h => h) rfl sq ?_
                    simp only [Act.put, List.setIfInBounds_toArray, List.set_cons_zero, List.set_cons_succ]
                    refine H_pass (i := 24) (some 168) rfl rfl (by kernel_rfl) (by kernel_rfl) (by kernel_rfl) (fun _ _ _ h => h) rfl sq ?_
                    simp only [Act.put, List.setIfInBounds_toArray, List.set_cons_zero, List.set_cons_succ]
                    refine H_pass (i := 25) (some 169) rfl rfl (by kernel_rfl) (by kernel_rfl) (by kernel_rfl) (fun _ _ _ h => h) rfl sq ?_
                    simp only [Act.put, List.setIfInBounds_toArray, List.set_cons_zero, List.set_cons_succ]
                    refine H_pass (i := 26) (some 170) rfl rfl (by kernel_rfl) (by kernel_rfl) (by kernel_rfl) (fun _ _ _ h => h) rfl sq ?_
                    simp only [Act.put, List.setIfInBounds_toArray, List.set_cons_zero, List.set_cons_succ]
                    refine H_pass (i := 27) (some 171) rfl rfl (by kernel_rfl) (by kernel_rfl) (by kernel_rfl) (fun _ _ _ h => h) rfl sq ?_
                    simp only [Act.put, List.setIfInBounds_toArray, List.set_cons_zero, List.set_cons_succ]
                    refine H_pass (i := 28) (some 172) rfl rfl (by kernel_rfl) (by kernel_rfl) (by kernel_rfl) (fun _ _ _ h => h) rfl sq ?_
                    simp only [Act.put, List.setIfInBounds_toArray, List.set_cons_zero, List.set_cons_succ]
                    refine H_pass (i := 29) (some 173) rfl rfl (by kernel_rfl) (by kernel_rfl) (by kernel_rfl) (fun _ _ _ h => h) rfl sq ?_
                    simp only [Act.put, List.setIfInBounds_toArray, List.set_cons_zero, List.set_cons_succ]
                    refine H_take (i := 30) (v := .bool false) (some 174) rfl rfl (by kernel_rfl) (by kernel_rfl) (by kernel_rfl) (fun _ _ _ h => h) rfl (fun X hX => ?_) sq ?_
                    · simp [go_sem]
                    simp only [Act.put, List.setIfInBounds_toArray, List.set_cons_zero, List.set_cons_succ]
                    refine H_take (i := 31) (v := .bool false) (some 175) rfl rfl (by kernel_rfl) (by kernel_rfl) (by kernel_rfl) (fun _ _ _ h => h) rfl (fun X hX => ?_) sq ?_
                    · simp [go_sem]
                    simp only [Act.put, List.setIfInBounds_toArray, List.set_cons_zero, List.set_cons_succ]
                    refine wpAnyH_done (by kernel_rfl) ?_ _
                    have HB9 : Hid (Below w4.heap.size w4 w9.drew) := sq
                    revert HB9
                    generalize w9.drew = Wd
                    intro HB9
                    clear sq hb1 hb2
                    rcases hfc with ⟨hf, hc0⟩ | ⟨hf, hc0, x, hx, htk⟩
                    · subst hc0
                      subst hf
                      go_wp2_with fail
                      exact ⟨⟨q + 1, U + u, V + v, by go_num, by go_num, by go_num, by omega, HNX, HB9⟩, by simp [intOf]; omega⟩
                    · have hcn : (0 : Int) < (c : Int) := by omega
                      have CG : Hid (Calls Try.prog 10 #[ptrV sb, .int .i64 f] Wd fun e w' => ∃ (us : ByteArray) (pu ta : Bool) (gb cap : Nat), e = .returned (.tuple #[.agg #[.int .i64 f, .string us, .slice (some ⟨gb, 0, none⟩) x.n cap, .bool true, .int .i64 x.un, .bool pu, .bool ta], .bool true]) ∧ Below Wd.heap.size Wd w') := (gGet (GW.out _ HB9.out) (by decide) hx).mono fun e w' ⟨us, pu, ta, gb, cap, h1, _, h3⟩ => ⟨us, pu, ta, gb, cap, by rw [show (x.tk != 0) = true by simpa using htk] at h1; exact h1, h3⟩
                      clear hx htk
                      go_wp2_with (go_at_call 10; refine CG.out.mono ?_; rintro e' w10 ⟨us, pu, ta, gb, cap, rfl, h5⟩; have H10 : Hid (Below w4.heap.size w4 w10) := HB9.out.trans (h5.mono HB9.out.size); clear h5)
                      exact ⟨⟨q + 1, U + u, V + v, by go_num, by go_num, by go_num, by omega, HNX, H10.out.alloc H10.out.size _⟩, by simp [intOf]; omega⟩
                · as_aux_lemma =>
                    obtain ⟨t0, ht0⟩ : ∃ t0, ts[q - 1]? = some t0 := ⟨_, List.getElem?_eq_getElem (by rw [← HRR.out]; omega)⟩
                    obtain ⟨g', e', gl', ctp⟩ := HRD.out (q - 1) t0 ht0
                    cases e'
                    have hless : Op.bytesLess t0 t = true := by
                      obtain ⟨p1, p2⟩ := List.getElem?_eq_some_iff.1 ht0
                      obtain ⟨p3, p4⟩ := List.getElem?_eq_some_iff.1 HTT.out
                      have := List.pairwise_iff_getElem.1 HTB.out.2.1 (q - 1) q p1 p3 (by omega)
                      rw [p2, p4] at this
                      exact this
                    have hq1 : (0 : Int) ≤ (q : Int) - 1 := by omega
                    have hq2 : (q : Int) - 1 < (r : Int) := by omega
                    have hq3 : ((q : Int) - 1).toNat = q - 1 := by omega
                    have hwr := wrap_small ((q : Int) - 1) (by omega) (by omega)
                    clear ht0
                    refine wp_region_held_drew (S := fun X => Below w4.heap.size w4 X) (by kernel_rfl) sq (fun _ => ?_)
                    refine H_take (i := 0) (v := .int .i64 (u : Nat)) (some 144) rfl rfl (by kernel_rfl) (by kernel_rfl) (by kernel_rfl) (fun _ _ _ h => h) rfl (fun X hX => ?_) sq ?_
                    · simp [go_sem]
                    simp only [Act.put, List.setIfInBounds_toArray, List.set_cons_zero, List.set_cons_succ]
                    refine H_take (i := 1) (v := .int .i64 (v : Nat)) (some 145) rfl rfl (by kernel_rfl) (by kernel_rfl) (by kernel_rfl) (fun _ _ _ h => h) rfl (fun X hX => ?_) sq ?_
                    · simp [go_sem]
                    simp only [Act.put, List.setIfInBounds_toArray, List.set_cons_zero, List.set_cons_succ]
                    refine H_take (i := 2) (v := .int .i64 ((u : Int) + (v : Int))) (some 146) rfl rfl (by kernel_rfl) (by kernel_rfl) (by kernel_rfl) (fun _ _ _ h => h) rfl (fun X hX => ?_) sq ?_
                    · simp [go_sem, hwuv]
                    simp only [Act.put, List.setIfInBounds_toArray, List.set_cons_zero, List.set_cons_succ]
                    refine H_take (i := 3) (v := .bool false) (some 147) rfl rfl (by kernel_rfl) (by kernel_rfl) (by kernel_rfl) (fun _ _ _ h => h) rfl (fun X hX => ?_) sq ?_
                    · simp [go_sem]; omega
                    simp only [Act.put, List.setIfInBounds_toArray, List.set_cons_zero, List.set_cons_succ]
                    refine H_take (i := 4) (v := .bool false) (some 148) rfl rfl (by kernel_rfl) (by kernel_rfl) (by kernel_rfl) (fun _ _ _ h => h) rfl (fun X hX => ?_) sq ?_
                    · simp [go_sem]
                    simp only [Act.put, List.setIfInBounds_toArray, List.set_cons_zero, List.set_cons_succ]
                    refine H_take (i := 5) (v := .int .i64 (c : Nat)) (some 149) rfl rfl (by kernel_rfl) (by kernel_rfl) (by kernel_rfl) (fun _ _ _ h => h) rfl (fun X hX => ?_) sq ?_
                    · simp [go_sem]
                    simp only [Act.put, List.setIfInBounds_toArray, List.set_cons_zero, List.set_cons_succ]
                    refine H_take (i := 6) (v := .int .i64 (v : Nat)) (some 150) rfl rfl (by kernel_rfl) (by kernel_rfl) (by kernel_rfl) (fun _ _ _ h => h) rfl (fun X hX => ?_) sq ?_
                    · simp [go_sem]
                    simp only [Act.put, List.setIfInBounds_toArray, List.set_cons_zero, List.set_cons_succ]
                    refine H_take (i := 7) (v := .bool false) (some 151) rfl rfl (by kernel_rfl) (by kernel_rfl) (by kernel_rfl) (fun _ _ _ h => h) rfl (fun X hX => ?_) sq ?_
                    · simp [go_sem]; omega
                    simp only [Act.put, List.setIfInBounds_toArray, List.set_cons_zero, List.set_cons_succ]
                    refine H_take (i := 8) (v := .bool false) (some 152) rfl rfl (by kernel_rfl) (by kernel_rfl) (by kernel_rfl) (fun _ _ _ h => h) rfl (fun X hX => ?_) sq ?_
                    · simp [go_sem]
                    simp only [Act.put, List.setIfInBounds_toArray, List.set_cons_zero, List.set_cons_succ]
                    refine H_take (i := 9) (v := .bool false) (some 153) rfl rfl (by kernel_rfl) (by kernel_rfl) (by kernel_rfl) (fun _ _ _ h => h) rfl (fun X hX => ?_) sq ?_
                    · simp [go_sem]
                    simp only [Act.put, List.setIfInBounds_toArray, List.set_cons_zero, List.set_cons_succ]
                    refine H_take (i := 10) (v := .int .i64 f) (some 154) rfl rfl (by kernel_rfl) (by kernel_rfl) (by kernel_rfl) (fun _ _ _ h => h) rfl (fun X hX => ?_) sq ?_
                    · simp [go_sem]
                    simp only [Act.put, List.setIfInBounds_toArray, List.set_cons_zero, List.set_cons_succ]
                    refine H_take (i := 11) (v := .bool bz) (some 155) rfl rfl (by kernel_rfl) (by kernel_rfl) (by kernel_rfl) (fun _ _ _ h => h) rfl (fun X hX => ?_) sq ?_
                    · simp [go_sem, hb1]
                    simp only [Act.put, List.setIfInBounds_toArray, List.set_cons_zero, List.set_cons_succ]
                    refine H_take (i := 12) (v := .int .i64 (c : Nat)) (some 156) rfl rfl (by kernel_rfl) (by kernel_rfl) (by kernel_rfl) (fun _ _ _ h => h) rfl (fun X hX => ?_) sq ?_
                    · simp [go_sem]
                    simp only [Act.put, List.setIfInBounds_toArray, List.set_cons_zero, List.set_cons_succ]
                    refine H_take (i := 13) (v := .bool bz) (some 157) rfl rfl (by kernel_rfl) (by kernel_rfl) (by kernel_rfl) (fun _ _ _ h => h) rfl (fun X hX => ?_) sq ?_
                    · simp [go_sem, hb2]
                    simp only [Act.put, List.setIfInBounds_toArray, List.set_cons_zero, List.set_cons_succ]
                    refine H_take (i := 14) (v := .bool false) (some 158) rfl rfl (by kernel_rfl) (by kernel_rfl) (by kernel_rfl) (fun _ _ _ h => h) rfl (fun X hX => ?_) sq ?_
                    · simp [go_sem]
                    simp only [Act.put, List.setIfInBounds_toArray, List.set_cons_zero, List.set_cons_succ]
                    refine H_take (i := 15) (v := .bool false) (some 159) rfl rfl (by kernel_rfl) (by kernel_rfl) (by kernel_rfl) (fun _ _ _ h => h) rfl (fun X hX => ?_) sq ?_
                    · simp [go_sem]
                    simp only [Act.put, List.setIfInBounds_toArray, List.set_cons_zero, List.set_cons_succ]
                    refine H_take (i := 16) (v := .bool false) (some 160) rfl rfl (by kernel_rfl) (by kernel_rfl) (by kernel_rfl) (fun _ _ _ h => h) rfl (fun X hX => ?_) sq ?_
                    · simp [go_sem]
                    simp only [Act.put, List.setIfInBounds_toArray, List.set_cons_zero, List.set_cons_succ]
                    refine H_take (i := 17) (v := .int .i64 (q : Nat)) (some 161) rfl rfl (by kernel_rfl) (by kernel_rfl) (by kernel_rfl) (fun _ _ _ h => h) rfl (fun X hX => ?_) sq ?_
                    · simp [go_sem]
                    simp only [Act.put, List.setIfInBounds_toArray, List.set_cons_zero, List.set_cons_succ]
                    refine H_take (i := 18) (v := .bool true) (some 162) rfl rfl (by kernel_rfl) (by kernel_rfl) (by kernel_rfl) (fun _ _ _ h => h) rfl (fun X hX => ?_) sq ?_
                    · simp [go_sem]; omega
                    simp only [Act.put, List.setIfInBounds_toArray, List.set_cons_zero, List.set_cons_succ]
                    refine H_take (i := 19) (v := .bool true) (some 163) rfl rfl (by kernel_rfl) (by kernel_rfl) (by kernel_rfl) (fun _ _ _ h => h) rfl (fun X hX => ?_) sq ?_
                    · simp [go_sem]
                    simp only [Act.put, List.setIfInBounds_toArray, List.set_cons_zero, List.set_cons_succ]
                    refine H_take (i := 20) (v := .slice (some ⟨g, 0, none⟩) r ct) (some 164) rfl rfl (by kernel_rfl) (by kernel_rfl) (by kernel_rfl) (fun _ _ _ h => h) rfl (fun X hX => ?_) sq ?_
                    · simp [go_sem]
                    simp only [Act.put, List.setIfInBounds_toArray, List.set_cons_zero, List.set_cons_succ]
                    refine H_take (i := 21) (v := .int .i64 (q : Nat)) (some 165) rfl rfl (by kernel_rfl) (by kernel_rfl) (by kernel_rfl) (fun _ _ _ h => h) rfl (fun X hX => ?_) sq ?_
                    · simp [go_sem]
                    simp only [Act.put, List.setIfInBounds_toArray, List.set_cons_zero, List.set_cons_succ]
                    refine H_take (i := 22) (v := .int .i64 ((q : Int) - 1)) (some 166) rfl rfl (by kernel_rfl) (by kernel_rfl) (by kernel_rfl) (fun _ _ _ h => h) rfl (fun X hX => ?_) sq ?_
                    · simp [go_sem, hwr]
                    simp only [Act.put, List.setIfInBounds_toArray, List.set_cons_zero, List.set_cons_succ]
                    refine H_take (i := 23) (v := .pointer (some ⟨g, q - 1, none⟩)) (some 167) rfl rfl (by kernel_rfl) (by kernel_rfl) (by kernel_rfl) (fun _ _ _ h => h) rfl (fun X hX => ?_) sq ?_
                    · simp [go_sem, hq2, hq3]; intro h; omega
                    simp only [Act.put, List.setIfInBounds_toArray, List.set_cons_zero, List.set_cons_succ]
                    refine H_take (i := 24) (v := .string ⟨t0.toArray⟩) (some 168) rfl rfl (by kernel_rfl) (by kernel_rfl) (by kernel_rfl) (fun _ _ _ h => h) rfl (fun X hX => ?_) sq ?_
                    · exact run_load1 rfl rfl Try.isAgg9 ((hX.cell (p := ⟨g, q - 1, none⟩) gl').trans ctp)
                    simp only [Act.put, List.setIfInBounds_toArray, List.set_cons_zero, List.set_cons_succ]
                    refine H_take (i := 25) (v := .slice (some ⟨g, 0, none⟩) r ct) (some 169) rfl rfl (by kernel_rfl) (by kernel_rfl) (by kernel_rfl) (fun _ _ _ h => h) rfl (fun X hX => ?_) sq ?_
                    · simp [go_sem]
                    simp only [Act.put, List.setIfInBounds_toArray, List.set_cons_zero, List.set_cons_succ]
                    refine H_take (i := 26) (v := .int .i64 (q : Nat)) (some 170) rfl rfl (by kernel_rfl) (by kernel_rfl) (by kernel_rfl) (fun _ _ _ h => h) rfl (fun X hX => ?_) sq ?_
                    · simp [go_sem]
                    simp only [Act.put, List.setIfInBounds_toArray, List.set_cons_zero, List.set_cons_succ]
                    refine H_take (i := 27) (v := .pointer (some ⟨g, q, none⟩)) (some 171) rfl rfl (by kernel_rfl) (by kernel_rfl) (by kernel_rfl) (fun _ _ _ h => h) rfl (fun X hX => ?_) sq ?_
                    · simp [go_sem, hq0, hqI]
                    simp only [Act.put, List.setIfInBounds_toArray, List.set_cons_zero, List.set_cons_succ]
                    refine H_take (i := 28) (v := .string ⟨t.toArray⟩) (some 172) rfl rfl (by kernel_rfl) (by kernel_rfl) (by kernel_rfl) (fun _ _ _ h => h) rfl (fun X hX => ?_) sq ?_
                    · exact run_load1 rfl rfl Try.isAgg9 ((hX.cell (p := ⟨g, q, none⟩) HC0.out.2).trans HC0.out.1)
                    simp only [Act.put, List.setIfInBounds_toArray, List.set_cons_zero, List.set_cons_succ]
                    refine H_take (i := 29) (v := .bool false) (some 173) rfl rfl (by kernel_rfl) (by kernel_rfl) (by kernel_rfl) (fun _ _ _ h => h) rfl (fun X hX => ?_) sq ?_
                    · simp [go_sem, hless]
                    simp only [Act.put, List.setIfInBounds_toArray, List.set_cons_zero, List.set_cons_succ]
                    refine H_take (i := 30) (v := .bool false) (some 174) rfl rfl (by kernel_rfl) (by kernel_rfl) (by kernel_rfl) (fun _ _ _ h => h) rfl (fun X hX => ?_) sq ?_
                    · simp [go_sem]
                    simp only [Act.put, List.setIfInBounds_toArray, List.set_cons_zero, List.set_cons_succ]
                    refine H_take (i := 31) (v := .bool false) (some 175) rfl rfl (by kernel_rfl) (by kernel_rfl) (by kernel_rfl) (fun _ _ _ h => h) rfl (fun X hX => ?_) sq ?_
                    · simp [go_sem]
                    simp only [Act.put, List.setIfInBounds_toArray, List.set_cons_zero, List.set_cons_succ]
                    refine wpAnyH_done (by kernel_rfl) ?_ _
                    have HB9 : Hid (Below w4.heap.size w4 w9.drew) := sq
                    revert HB9
                    generalize w9.drew = Wd
                    intro HB9
                    clear sq hb1 hb2
                    rcases hfc with ⟨hf, hc0⟩ | ⟨hf, hc0, x, hx, htk⟩
                    · subst hc0
                      subst hf
                      go_wp2_with fail
                      exact ⟨⟨q + 1, U + u, V + v, by go_num, by go_num, by go_num, by omega, HNX, HB9⟩, by simp [intOf]; omega⟩
                    · have hcn : (0 : Int) < (c : Int) := by omega
                      have CG : Hid (Calls Try.prog 10 #[ptrV sb, .int .i64 f] Wd fun e w' => ∃ (us : ByteArray) (pu ta : Bool) (gb cap : Nat), e = .returned (.tuple #[.agg #[.int .i64 f, .string us, .slice (some ⟨gb, 0, none⟩) x.n cap, .bool true, .int .i64 x.un, .bool pu, .bool ta], .bool true]) ∧ Below Wd.heap.size Wd w') := (gGet (GW.out _ HB9.out) (by decide) hx).mono fun e w' ⟨us, pu, ta, gb, cap, h1, _, h3⟩ => ⟨us, pu, ta, gb, cap, by rw [show (x.tk != 0) = true by simpa using htk] at h1; exact h1, h3⟩
                      clear hx htk
                      go_wp2_with (go_at_call 10; refine CG.out.mono ?_; rintro e' w10 ⟨us, pu, ta, gb, cap, rfl, h5⟩; have H10 : Hid (Below w4.heap.size w4 w10) := HB9.out.trans (h5.mono HB9.out.size); clear h5)
                      exact ⟨⟨q + 1, U + u, V + v, by go_num, by go_num, by go_num, by omega, HNX, H10.out.alloc H10.out.size _⟩, by simp [intOf]; omega⟩
            · have hqI : ¬ (q : Int) < (r : Int) := by omega
              obtain rfl : q = r := by omega
              obtain ⟨⟨e1, e2⟩, _, _⟩ := HU.out
              rw [List.take_of_length_le (by rw [← HRR.out]; exact Nat.le_refl _)] at e1 e2
              have s1 := sum_uses (GW.out _ (Below.refl _ w4)) HTB.out.1
              have s2 := sum_sees (GW.out _ (Below.refl _ w4)) HTB.out.1
              have hUm : U = j := by rw [e1, s1, ← HPP.out, ← HMM.out]
              have hVA : V = A := by rw [e2, s2, HAF.out]
              subst hUm
              subst hVA
              have HB9 : Hid (Below w.heap.size w wr) := BW4.out.trans (HB.out.mono BW4.out.size)
              clear e1 e2 s1 s2 HU
              go_wp2_with fail
              go_ret
              exact ⟨rfl, HB9.out⟩
end Go.Proofs.Ytogmobkkpmpdcaa.seatsSums
