/-
  The document's disk: Load.
-/
import Derived.Test.YtnpofjeiamjioaaRDk
import Derived.Test.YtnpofjeiamjioaaRPu
import Derived.Test.YtnpofjeiamjioaaRawF
import Derived.Test.YtnpofjeiamjioaaRAp
namespace Go.Proofs.Ytnpofjeiamjioaa
open Go.RowKit Go.Maps

/-- Where the check is. -/
structure ChI (q : Int) (R : List Rf) (k t : Nat) (last : Int) : Prop where
  l0 : 0 ≤ last
  l1 : last ≤ 1099511627776
  le : t ≤ totR (R.take k)
  eq : (t : Int) ≤ q → t = totR (R.take k)
  ck : chkL 0 R = chkL last (R.drop k)
theorem ChI.bad {q : Int} {R : List Rf} {k t : Nat} {last : Int} {x : Rf} (h : ChI q R k t last) (hx : R[k]? = some x) (hb : ¬ (1 ≤ x.num ∧ x.num ≤ 1099511627776 ∧ last < x.num)) : chkL 0 R = 111 := by
  have h0 := h.l0
  rw [h.ck, drop_at hx, chkL, if_neg]
  simp [withinB]
  omega
theorem ChI.pastSafe {q : Int} {R : List Rf} {k t : Nat} {last : Int} {x : Rf} (h : ChI q R k t last) (hx : R[k]? = some x) (hb : 1 ≤ x.num ∧ x.num ≤ 1099511627776 ∧ last < x.num) (hs : ¬ (0 ≤ x.safe ∧ x.safe ≤ (x.data.length : Int))) : chkL 0 R = 114 := by
  rw [h.ck, drop_at hx, chkL, if_pos (by simp [withinB]; omega), if_neg]
  simp [withinB]
  omega
theorem ChI.next {q : Int} {R : List Rf} {k t : Nat} {last : Int} {x : Rf} (h : ChI q R k t last) (hx : R[k]? = some x) (hb : 1 ≤ x.num ∧ x.num ≤ 1099511627776 ∧ last < x.num) (hs : 0 ≤ x.safe ∧ x.safe ≤ (x.data.length : Int)) : ((t : Int) ≤ q → ChI q R (k + 1) (t + x.data.length) x.num) ∧ (¬ (t : Int) ≤ q → ChI q R (k + 1) t x.num) := by
  have hc : chkL 0 R = chkL x.num (R.drop (k + 1)) := by
    rw [h.ck, drop_at hx, chkL, if_pos (by simp [withinB]; omega), if_pos (by simp [withinB]; omega)]
  have ht := totR_take R k x hx
  have hle := h.le
  refine ⟨fun hq => ⟨by omega, hb.2.1, by omega, fun _ => by have := h.eq hq; omega, hc⟩, fun hq => ⟨by omega, hb.2.1, by omega, fun h2 => absurd h2 hq, hc⟩⟩
theorem chkL_ok : ∀ (R : List Rf) (last : Int), chkL last R = 0 → ∀ x ∈ R, 0 ≤ x.safe
  | [], _, _, x, hx => by simp at hx
  | y :: r, last, h, x, hx => by
    rw [chkL] at h
    split at h
    · split at h
      · rename_i h1 h2
        rcases List.mem_cons.1 hx with rfl | hx
        · simp [withinB] at h2
          exact h2.1
        · exact chkL_ok r _ h x hx
      · cases h
    · cases h
/-- A file is put behind the document's. -/
theorem RfAt.push {w1 w2 w4 : World} {B rb : Nat} {q : Int} {v v4 u : Value} {G : List (Fl × Value)} {f : Fl} {o : Obj} (h : RfAt w1 B rb q v G) (hb : Below w1.heap.size w1 w2) (hu : Own w2 w1.heap.size u f.data) (hB : B ≤ w1.heap.size)
    (ho : w4.ownsRow B 62 3 v4 (G ++ [(f, u)]).length (flatR (G ++ [(f, u)]))) (hg : (w2.alloc o).grownBy w4 v.ownBlock) :
    RfAt (w4.setCell ⟨rb, 1, none⟩ v4) B rb q v4 (G ++ [(f, u)]) ∧ Kept (fun g => g = rb ∨ v.ownBlock = some g) w1 (w4.setCell ⟨rb, 1, none⟩ v4) ∧ w4.frozen? ⟨rb, 1, none⟩ = false ∧ w4.cell? ⟨rb, 1, none⟩ = some v := by
  have h2 := h.later hb
  have ka : Kept (fun g => v.ownBlock = some g) w2 w4 := (Kept.ofBelow ((Below.refl _ w2).alloc (Nat.le_refl _) o)).trans (Kept.ofGrown hg (fun g e => e))
  have nv : v.ownBlock ≠ some rb := fun e => by
    obtain ⟨c1, q1⟩ := row_typeR h2.row e
    rw [h2.box] at q1
    simp at q1
  have bx := (ka.block rb (Array.getElem?_eq_some_iff.1 h2.box).1 nv).trans h2.box
  have ks : Kept (fun g => g = rb) w4 (w4.setCell ⟨rb, 1, none⟩ v4) := Kept.setCell _ _ _ _ _ rfl
  have n8 : ∀ {z : Value} {x : List UInt8} {Bz : Nat}, Own w2 Bz z x → Own (w4.setCell ⟨rb, 1, none⟩ v4) Bz z x := fun {z x Bz} hz => by
    have h4 : Own w4 Bz z x := Kept.own ka hz (fun g e e2 => by
      obtain ⟨c1, q1⟩ := row_typeR hz e
      obtain ⟨c2, q2⟩ := row_typeR h2.row e2
      rw [q1] at q2
      simp at q2)
    exact Kept.own ks h4 (fun g e e2 => by
      obtain ⟨c1, q1⟩ := row_typeR h4 e
      rw [e2, bx] at q1
      simp at q1)
  refine ⟨⟨(set_cells bx 1 v4).1, row_keptR ho ks (fun g e e2 => ?_), fun p hp => ?_⟩, ((Kept.ofBelow hb).trans (ka.mono (fun g _ e => .inr e))).trans (ks.mono (fun g _ e => .inl e)), by simp [World.frozen?, bx], by simp [World.cell?, bx]⟩
  · obtain ⟨c1, q1⟩ := row_typeR ho e
    rw [e2, bx] at q1
    simp at q1
  · rcases List.mem_append.1 hp with hp | hp
    · exact n8 (h2.own p hp)
    · have : p = (f, u) := by simpa using hp
      subst this
      exact (n8 hu).mono hB
def RLoadPost (q : Int) (R : List Rf) (w : World) (e : Ending) (w' : World) : Prop :=
  Below w.heap.size w w' ∧ ((chk q R ≠ 0 ∧ e = .returned (.tuple #[.pointer none, .int .i64 (chk q R)])) ∨
    (chk q R = 0 ∧ ∃ rb fv F, e = .returned (.tuple #[.pointer (some ⟨rb, 0, none⟩), .int .i64 0]) ∧ w.heap.size ≤ rb ∧ RfAt w' w.heap.size rb q fv F ∧ F.map (·.1) = R.map cook))
set_option linter.unusedSimpArgs false in
set_option maxHeartbeats 4000000 in
set_option maxRecDepth 1000000 in
theorem refLoad_any (q : Int) (a : Option Addr) (c : Nat) (R : List Rf) (w : World) (h : IsRaw w a c R) (ht : totR R ≤ 1073741823) (hn : R.length ≤ 1048576) :
    Calls Try.prog 37 #[.int .i64 q, .slice a R.length c] w (RLoadPost q R w) := by
  have HH := hideR h
  have hcl : R.length ≤ 9223372036854775807 := by have := h.1; have := h.2.1; unfold maxLen at this; omega
  have HLN := hideR hn
  clear h hn
  by_cases hq : 1024 ≤ q ∧ q ≤ 67108864
  · obtain ⟨q1, q2⟩ := hq
    have HCQ : HidR (chk q R = (if chkL 0 R = 0 then (if q < (totR R : Int) then 115 else 0) else chkL 0 R)) := ⟨by rw [chk, if_pos (by simp [withinB]; omega)]⟩
    have CN := hideR (new_yes11 w q q1 q2)
    obtain ⟨N, hN⟩ : ∃ N, N = R.length := ⟨_, rfl⟩
    have HN := hideR hN
    rw [← hN] at hcl ⊢
    clear hN
    go_enter Try.func37, Try.ntmps37
    go_wp2_with (go_at_call 8
                 refine CN.out.mono ?_
                 rintro e w1 ⟨rfl, b1, r1⟩
                 have H1 : HidR (Below w.heap.size w w1 ∧ RfAt w1 (w.heap.size + 1) w.heap.size q (.slice none 0 0) []) := ⟨⟨b1, r1⟩⟩
                 clear b1 r1)
    have C0 : HidR (ChI q R 0 0 0) := ⟨⟨by omega, by omega, by simp [totR], fun _ => by simp [totR], by simp⟩⟩
    go_loopg [8, 9, 10] N (fun gk s8 s9 s10 wr => ∃ (k t : Nat) (last : Int), s8 = .int .i64 last ∧ s9 = .int .i64 (t : Int) ∧ s10 = .int .i64 (k : Int) ∧ N - k ≤ gk ∧ k ≤ N ∧ HidR (Below w.heap.size w wr ∧ RfAt wr (w.heap.size + 1) w.heap.size q (.slice none 0 0) []) ∧ HidR (ChI q R k t last))
    case atStart => exact ⟨0, 0, 0, rfl, rfl, rfl, by omega, by omega, H1, C0⟩
    case round =>
      clear C0
      obtain ⟨k, t, last, rfl, rfl, rfl, hgk, hk, HW, HC⟩ := hrel
      by_cases hlt : k < N
      · have tlt : (k : Int) < (N : Int) := by omega
        obtain ⟨x, hx⟩ : ∃ x, R[k]? = some x := ⟨_, List.getElem?_eq_getElem (by have := HN.out; omega)⟩
        obtain ⟨b, o, ea, hbw, m0, ⟨da, dc, m1, hi⟩, m2⟩ := (HH.out.below HW.out.1).at hx
        subst ea
        have HX := hideR hx
        have htot : t + x.data.length ≤ 4611686018427387904 := by have h1 := HC.out.le; have h2 := totR_take R k x hx; have h3 := totR_le R (k + 1); omega
        obtain ⟨w2, hw2⟩ : ∃ w2, w2 = wr.alloc (.cells #[.int .i64 x.num, .slice da x.data.length dc, .int .i64 x.safe] 62) := ⟨_, rfl⟩
        have b2 : Below wr.heap.size wr w2 := by rw [hw2]; exact (Below.refl _ wr).alloc (Nat.le_refl _) _
        have x2 : w2.heap[wr.heap.size]? = some (.cells #[.int .i64 x.num, .slice da x.data.length dc, .int .i64 x.safe] 62 (0, 0)) := by rw [hw2]; exact heap_alloc_new wr _
        obtain ⟨c0, c1, c2⟩ : w2.cell? ⟨wr.heap.size, 0, none⟩ = some (.int .i64 x.num) ∧ w2.cell? ⟨wr.heap.size, 1, none⟩ = some (.slice da x.data.length dc) ∧ w2.cell? ⟨wr.heap.size, 2, none⟩ = some (.int .i64 x.safe) := by simp [World.cell?, x2]
        have HW2 := hideR hw2
        have HB2 : HidR (Below w.heap.size w w2 ∧ RfAt w2 (w.heap.size + 1) w.heap.size q (.slice none 0 0) []) := ⟨⟨HW.out.1.trans (b2.mono HW.out.1.size), HW.out.2.later b2⟩⟩
        have CNb := hideR (numbered_any11 w2 x.num)
        clear hx hi hbw hw2 b2 x2
        go_upto_region 10 with fail
        rw [← HW2.out]
        clear m0 m1 m2
        by_cases h1 : 1 ≤ x.num ∧ x.num ≤ 1099511627776
        · have eb : (decide (1 ≤ x.num) && decide (x.num ≤ 1099511627776)) = true := by simp [h1.1, h1.2]
          rw [eb] at CNb
          clear eb
          by_cases h2 : x.num ≤ last
          · have HE : HidR (chkL 0 R = 111) := ⟨HC.out.bad HX.out (by omega)⟩
            go_wp2_with (go_at_call 56
                         refine CNb.out.mono ?_
                         rintro e w3 ⟨rfl, hw⟩
                         have hw := hw.symm
                         subst hw)
            go_ret2
            exact ⟨HB2.out.1, .inl ⟨by rw [HCQ.out, HE.out]; simp, by rw [HCQ.out, HE.out]; rfl⟩⟩
          · by_cases h3 : x.safe < 0
            · have HE : HidR (chkL 0 R = 114) := ⟨HC.out.pastSafe HX.out (by omega) (by omega)⟩
              go_wp2_with (go_at_call 56
                           refine CNb.out.mono ?_
                           rintro e w3 ⟨rfl, hw⟩
                           have hw := hw.symm
                           subst hw)
              go_ret2
              exact ⟨HB2.out.1, .inl ⟨by rw [HCQ.out, HE.out]; simp, by rw [HCQ.out, HE.out]; rfl⟩⟩
            · by_cases h4 : (x.data.length : Int) < x.safe
              · have HE : HidR (chkL 0 R = 114) := ⟨HC.out.pastSafe HX.out (by omega) (by omega)⟩
                go_wp2_with (go_at_call 56
                             refine CNb.out.mono ?_
                             rintro e w3 ⟨rfl, hw⟩
                             have hw := hw.symm
                             subst hw)
                go_ret2
                exact ⟨HB2.out.1, .inl ⟨by rw [HCQ.out, HE.out]; simp, by rw [HCQ.out, HE.out]; rfl⟩⟩
              · have HN2 := hideR (HC.out.next HX.out (by omega) (by omega))
                by_cases h5 : (t : Int) ≤ q
                · have HN3 := hideR (HN2.out.1 h5)
                  go_wp2_with (go_at_call 56
                               refine CNb.out.mono ?_
                               rintro e w3 ⟨rfl, hw⟩
                               have hw := hw.symm
                               subst hw)
                  go_roundg (N - (k + 1))
                  case measure => omega
                  case rel => exact ⟨k + 1, t + x.data.length, x.num, rfl, by go_num, by go_num, Nat.le_refl _, hlt, HB2, HN3⟩
                · have HN3 := hideR (HN2.out.2 h5)
                  go_wp2_with (go_at_call 56
                               refine CNb.out.mono ?_
                               rintro e w3 ⟨rfl, hw⟩
                               have hw := hw.symm
                               subst hw)
                  go_roundg (N - (k + 1))
                  case measure => omega
                  case rel => exact ⟨k + 1, t, x.num, rfl, rfl, by go_num, Nat.le_refl _, hlt, HB2, HN3⟩
        · have eb : (decide (1 ≤ x.num) && decide (x.num ≤ 1099511627776)) = false := by rw [Bool.and_eq_false_iff]; simp; omega
          rw [eb] at CNb
          clear eb
          have HE : HidR (chkL 0 R = 111) := ⟨HC.out.bad HX.out (by omega)⟩
          go_wp2_with (go_at_call 56
                       refine CNb.out.mono ?_
                       rintro e w3 ⟨rfl, hw⟩
                       have hw := hw.symm
                       subst hw)
          go_ret2
          exact ⟨HB2.out.1, .inl ⟨by rw [HCQ.out, HE.out]; simp, by rw [HCQ.out, HE.out]; rfl⟩⟩
      · have tlt : ¬ (k : Int) < (N : Int) := by omega
        have HK : HidR (chkL 0 R = 0 ∧ k = R.length) := ⟨⟨by rw [HC.out.ck, List.drop_of_length_le (by have := HN.out; omega)]; rfl, by have := HN.out; omega⟩⟩
        by_cases h5 : q < (t : Int)
        · have HE : HidR (chk q R = 115) := ⟨by
            have h1 := HC.out.le
            have h2 := totR_le R k
            rw [HCQ.out, if_pos HK.out.1, if_pos (by omega)]⟩
          go_wp2_with fail
          go_ret2
          exact ⟨HW.out.1, .inl ⟨by rw [HE.out]; decide, by rw [HE.out]; rfl⟩⟩
        · have HE : HidR (chk q R = 0) := ⟨by
            have h1 := HC.out.eq (by omega)
            rw [List.take_of_length_le (by have := HK.out.2; omega)] at h1
            rw [HCQ.out, if_pos HK.out.1, if_neg (by omega)]⟩
          have HSF := hideR (chkL_ok R 0 HK.out.1)
          clear HC HK
          go_wp2_with fail
          go_loopg [12] N (fun gk s12 wr => ∃ (k : Nat) (fv : Value) (G : List (Fl × Value)), s12 = .int .i64 (k : Int) ∧ N - k ≤ gk ∧ k ≤ N ∧ HidR (Below w.heap.size w wr ∧ RfAt wr (w.heap.size + 1) w.heap.size q fv G) ∧ HidR (G.map (·.1) = (R.map cook).take k))
          case atStart => exact ⟨0, _, [], rfl, by omega, by omega, HW, ⟨by simp⟩⟩
          case round =>
            clear HW tlt hlt hgk hk
            obtain ⟨k, fv, G, rfl, hgk, hk, HW, HM⟩ := hrel
            by_cases hlt : k < N
            · have tlt : (k : Int) < (N : Int) := by omega
              have hgl : G.length = k := by have := congrArg List.length HM.out; simp at this; have := HN.out; omega
              obtain ⟨fa, fc, efv⟩ := HW.out.2.form
              rw [hgl] at efv
              subst efv
              obtain ⟨x, hx⟩ : ∃ x, R[k]? = some x := ⟨_, List.getElem?_eq_getElem (by have := HN.out; omega)⟩
              obtain ⟨b, o, ea, hbw, m0, ⟨da, dc, m1, hi⟩, m2⟩ := (HH.out.below HW.out.1).at hx
              subst ea
              obtain ⟨S, hS⟩ := Int.eq_ofNat_of_zero_le (HSF.out x (List.mem_of_getElem? hx))
              rw [hS] at m2
              have hdl : x.data.length ≤ 1073741823 := by have h2 := totR_take R k x hx; have h3 := totR_le R (k + 1); omega
              have HGL := hideR hgl
              have HX : HidR ((R.map cook).take (k + 1) = (R.map cook).take k ++ [(⟨x.num, x.data, S⟩ : Fl)]) := ⟨by rw [List.take_add_one, List.getElem?_map, hx]; simp [cook, hS]⟩
              obtain ⟨w2, hw2⟩ : ∃ w2, w2 = wr.alloc (.cells #[.int .i64 x.num, .slice da x.data.length dc, .int .i64 (S : Int)] 62) := ⟨_, rfl⟩
              have b2 : Below wr.heap.size wr w2 := by rw [hw2]; exact (Below.refl _ wr).alloc (Nat.le_refl _) _
              have x2 : w2.heap[wr.heap.size]? = some (.cells #[.int .i64 x.num, .slice da x.data.length dc, .int .i64 (S : Int)] 62 (0, 0)) := by rw [hw2]; exact heap_alloc_new wr _
              obtain ⟨c0, c1, c2⟩ : w2.cell? ⟨wr.heap.size, 0, none⟩ = some (.int .i64 x.num) ∧ w2.cell? ⟨wr.heap.size, 1, none⟩ = some (.slice da x.data.length dc) ∧ w2.cell? ⟨wr.heap.size, 2, none⟩ = some (.int .i64 (S : Int)) := by simp [World.cell?, x2]
              have HW2 := hideR hw2
              have HB2 : HidR (Below w.heap.size w w2 ∧ RfAt w2 (w.heap.size + 1) w.heap.size q (.slice fa k fc) G) := ⟨⟨HW.out.1.trans (b2.mono HW.out.1.size), HW.out.2.later b2⟩⟩
              have k1 := HB2.out.2.cells.2.1
              have CO : HidR (∀ X, Below w2.heap.size w2 X → Calls Try.prog 55 #[.slice da x.data.length dc] X fun e w' => Below X.heap.size X w' ∧ ∃ v, e = .returned v ∧ Own w' X.heap.size v x.data) := ⟨fun X hX => own_any11 X da dc x.data ((hi.below b2).below hX) (by omega)⟩
              have HX2 := hideR x2
              have hzb := (Array.getElem?_eq_some_iff.1 HB2.out.2.box).1
              have hz2 := b2.size
              clear hx hi hbw hw2 b2 x2 hS hgl
              go_upto_region 23 with fail
              rw [← HW2.out]
              clear m0 m1 m2
              have x01 : w2.cell? ⟨wr.heap.size, 0, none⟩ = some (.int .i64 x.num) ∧ w2.cell? ⟨wr.heap.size, 1, none⟩ = some (.slice da x.data.length dc) ∧ w2.cell? ⟨wr.heap.size, 2, none⟩ = some (.int .i64 (S : Int)) := ⟨c0, c1, c2⟩
              have sq : (fun X => X.cell? ⟨wr.heap.size, 0, none⟩ = some (.int .i64 x.num) ∧ X.cell? ⟨wr.heap.size, 1, none⟩ = some (.slice da x.data.length dc) ∧ X.cell? ⟨wr.heap.size, 2, none⟩ = some (.int .i64 (S : Int))) w2.drew := x01
              refine wp_region_held_drew (S := fun X => X.cell? ⟨wr.heap.size, 0, none⟩ = some (.int .i64 x.num) ∧ X.cell? ⟨wr.heap.size, 1, none⟩ = some (.slice da x.data.length dc) ∧ X.cell? ⟨wr.heap.size, 2, none⟩ = some (.int .i64 (S : Int))) (by kernel_rfl) sq (fun _ => ?_)
              refine H_take (i := 0) (v := .pointer (some ⟨w.heap.size, 0, none⟩)) (some 76) rfl rfl (by kernel_rfl) (by kernel_rfl) (by kernel_rfl) (fun _ _ _ h => h) rfl (fun X hX => ?_) sq ?_
              · go_simp
              simp only [Act.put, List.setIfInBounds_toArray, List.set_cons_zero, List.set_cons_succ]
              refine H_take (i := 1) (v := .pointer (some ⟨w.heap.size, 0, none⟩)) (some 77) rfl rfl (by kernel_rfl) (by kernel_rfl) (by kernel_rfl) (fun _ _ _ h => h) rfl (fun X hX => ?_) sq ?_
              · go_simp
              simp only [Act.put, List.setIfInBounds_toArray, List.set_cons_zero, List.set_cons_succ]
              refine H_take (i := 2) (v := .pointer (some ⟨w.heap.size, 0, none⟩)) (some 78) rfl rfl (by kernel_rfl) (by kernel_rfl) (by kernel_rfl) (fun _ _ _ h => h) rfl (fun X hX => ?_) sq ?_
              · go_simp
              simp only [Act.put, List.setIfInBounds_toArray, List.set_cons_zero, List.set_cons_succ]
              refine H_take (i := 3) (v := .pointer (some ⟨w.heap.size, 1, none⟩)) (some 79) rfl rfl (by kernel_rfl) (by kernel_rfl) (by kernel_rfl) (fun _ _ _ h => h) rfl (fun X hX => ?_) sq ?_
              · go_simp
              simp only [Act.put, List.setIfInBounds_toArray, List.set_cons_zero, List.set_cons_succ]
              refine H_take (i := 5) (v := .pointer (some ⟨wr.heap.size, 0, none⟩)) (some 81) rfl rfl (by kernel_rfl) (by kernel_rfl) (by kernel_rfl) (fun _ _ _ h => h) rfl (fun X hX => ?_) sq ?_
              · go_simp
              simp only [Act.put, List.setIfInBounds_toArray, List.set_cons_zero, List.set_cons_succ]
              refine H_take (i := 6) (v := .int .i64 x.num) (some 82) rfl rfl (by kernel_rfl) (by kernel_rfl) (by kernel_rfl) (fun _ _ _ h => h) rfl (fun X hX => ?_) sq ?_
              · simp [go_sem, hX.1]
              simp only [Act.put, List.setIfInBounds_toArray, List.set_cons_zero, List.set_cons_succ]
              refine H_take (i := 7) (v := .pointer (some ⟨wr.heap.size, 1, none⟩)) (some 83) rfl rfl (by kernel_rfl) (by kernel_rfl) (by kernel_rfl) (fun _ _ _ h => h) rfl (fun X hX => ?_) sq ?_
              · go_simp
              simp only [Act.put, List.setIfInBounds_toArray, List.set_cons_zero, List.set_cons_succ]
              refine H_take (i := 8) (v := .slice da x.data.length dc) (some 84) rfl rfl (by kernel_rfl) (by kernel_rfl) (by kernel_rfl) (fun _ _ _ h => h) rfl (fun X hX => ?_) sq ?_
              · simp [go_sem, hX.2.1]
              simp only [Act.put, List.setIfInBounds_toArray, List.set_cons_zero, List.set_cons_succ]
              refine H_take (i := 10) (v := .pointer (some ⟨wr.heap.size, 2, none⟩)) (some 86) rfl rfl (by kernel_rfl) (by kernel_rfl) (by kernel_rfl) (fun _ _ _ h => h) rfl (fun X hX => ?_) sq ?_
              · go_simp
              simp only [Act.put, List.setIfInBounds_toArray, List.set_cons_zero, List.set_cons_succ]
              refine H_take (i := 11) (v := .int .i64 (S : Int)) (some 87) rfl rfl (by kernel_rfl) (by kernel_rfl) (by kernel_rfl) (fun _ _ _ h => h) rfl (fun X hX => ?_) sq ?_
              · simp [go_sem, hX.2.2]
              simp only [Act.put, List.setIfInBounds_toArray, List.set_cons_zero, List.set_cons_succ]
              refine wpAnyH_all (rs := [4, 9]) (by kernel_rfl) (by decide) (fun j hj => ?_)
              rcases (show j = 4 ∨ j = 9 by simpa using hj) with rfl | rfl
              · refine op_value (v := .slice fa k fc) rfl rfl (by simp [go_sem, k1]) ⟨sq, ?_⟩
                simp only [Act.put, List.setIfInBounds_toArray, List.set_cons_zero, List.set_cons_succ]
                refine wpAnyH_all (rs := [9]) (by kernel_rfl) (by decide) (fun j hj => ?_)
                obtain rfl : j = 9 := by simpa using hj
                refine op_call (f := 55) (args := #[.slice da x.data.length dc]) rfl rfl (by simp [go_sem]) ((CO.out _ (Below.refl _ w2).drew).mono ?_)
                rintro e w3 ⟨b3, v, rfl, hv⟩
                obtain ⟨va, vc, ev, _⟩ := hv.shape
                subst ev
                have B3 : HidR (Below w2.heap.size w2 w3) := ⟨⟨b3.os, b3.tape, b3.output, b3.size, b3.block⟩⟩
                have V3 : HidR (Own w3 w2.heap.size (.slice va x.data.length vc) x.data) := ⟨hv⟩
                have hb3 := (B3.out.block _ (Array.getElem?_eq_some_iff.1 HX2.out).1).trans HX2.out
                have E3 : w3.cell? ⟨wr.heap.size, 0, none⟩ = some (.int .i64 x.num) ∧ w3.cell? ⟨wr.heap.size, 1, none⟩ = some (.slice da x.data.length dc) ∧ w3.cell? ⟨wr.heap.size, 2, none⟩ = some (.int .i64 (S : Int)) := by simp [World.cell?, hb3]
                have hbz := (Array.getElem?_eq_some_iff.1 hb3).1
                have hba := (heap_alloc_old w3 (.cells #[.int .i64 x.num, .slice va x.data.length vc, .int .i64 (S : Int)] 62) hbz).trans hb3
                have E3a : (w3.alloc (.cells #[.int .i64 x.num, .slice va x.data.length vc, .int .i64 (S : Int)] 62)).cell? ⟨wr.heap.size, 0, none⟩ = some (.int .i64 x.num) ∧ (w3.alloc (.cells #[.int .i64 x.num, .slice va x.data.length vc, .int .i64 (S : Int)] 62)).cell? ⟨wr.heap.size, 1, none⟩ = some (.slice da x.data.length dc) ∧ (w3.alloc (.cells #[.int .i64 x.num, .slice va x.data.length vc, .int .i64 (S : Int)] 62)).cell? ⟨wr.heap.size, 2, none⟩ = some (.int .i64 (S : Int)) := by simp [World.cell?, hba]
                have H3 := hideR (HB2.out.2.later B3.out)
                have k13 := H3.out.cells.2.1
                have k1a : (w3.alloc (.cells #[.int .i64 x.num, .slice va x.data.length vc, .int .i64 (S : Int)] 62)).cell? ⟨w.heap.size, 1, none⟩ = some (.slice fa k fc) := (H3.out.later ((Below.refl _ w3).alloc (Nat.le_refl _) _)).cells.2.1
                have hz3 := B3.out.size
                have HBA := hideR hba
                clear b3 hv hb3 hba hbz
                refine ⟨_, rfl, E3, ?_⟩
                simp only [Act.put, List.setIfInBounds_toArray, List.set_cons_zero, List.set_cons_succ]
                refine H_take (i := 12) (v := .agg #[.int .i64 x.num, .slice va x.data.length vc, .int .i64 (S : Int)]) (some 88) rfl rfl (by kernel_rfl) (by kernel_rfl) (by kernel_rfl) (fun _ _ _ h => h) rfl (fun X hX => ?_) E3 ?_
                · exact run_build1 rfl (by kernel_rfl)
                simp only [Act.put, List.setIfInBounds_toArray, List.set_cons_zero, List.set_cons_succ]
                refine wpAnyH_all (rs := [13]) (by kernel_rfl) (by decide) (fun j hj => ?_)
                obtain rfl : j = 13 := by simpa using hj
                refine op_value (v := .slice (some ⟨w3.heap.size, 0, none⟩) 1 1) (w' := w3.alloc (.cells #[.int .i64 x.num, .slice va x.data.length vc, .int .i64 (S : Int)] 62)) rfl rfl (by simp [go_sem]) ⟨E3a, ?_⟩
                simp only [Act.put, List.setIfInBounds_toArray, List.set_cons_zero, List.set_cons_succ]
                refine wpAnyH_all (rs := [14]) (by kernel_rfl) (by decide) (fun j hj => ?_)
                obtain rfl : j = 14 := by simpa using hj
                refine op_fapp rfl rfl (.tmp 80) (.tmp 89) rfl (w.heap.size + 1) (.slice fa k fc) G.length (flatR G) rfl (World.ownsRow.alloc H3.out.row _) (some ⟨w3.heap.size, 0, none⟩) 1 1 (flatR [((⟨x.num, x.data, S⟩ : Fl), .slice va x.data.length vc)]) rfl rfl (.inr (src_file w3 ⟨x.num, x.data, S⟩ _)) file_one (by have := HN.out; have := HLN.out; rw [HGL.out]; omega) (by rw [World.size_alloc]; omega) ?_
                intro v4 w4 ho hg _ _ _
                rw [← flatR_append, show G.length + 1 = (G ++ [((⟨x.num, x.data, S⟩ : Fl), Value.slice va x.data.length vc)]).length by simp] at ho
                obtain ⟨a4, c4, e4⟩ := row_formR ho
                rw [List.length_append, HGL.out] at e4
                simp only [List.length_cons, List.length_nil, Nat.zero_add] at e4
                subst e4
                obtain ⟨p1, p2, p3, p4⟩ := HB2.out.2.push B3.out V3.out (by omega) ho hg
                have F4 := hideR p1
                have hb4 := (hg.block wr.heap.size (Array.getElem?_eq_some_iff.1 HBA.out).1 (fun e => by have := (HW.out.2.row.lt _ e.symm).2; omega)).trans HBA.out
                have E4 : w4.cell? ⟨wr.heap.size, 0, none⟩ = some (.int .i64 x.num) ∧ w4.cell? ⟨wr.heap.size, 1, none⟩ = some (.slice da x.data.length dc) ∧ w4.cell? ⟨wr.heap.size, 2, none⟩ = some (.int .i64 (S : Int)) := by simp [World.cell?, hb4]
                have L4 : HidR (Below w.heap.size w (w4.setCell ⟨w.heap.size, 1, none⟩ (.slice a4 (k + 1) c4))) := ⟨HB2.out.1.trans (p2.below HB2.out.1.size (fun g hgw e => by
                  rcases e with e | e
                  · omega
                  · have := (HB2.out.2.row.lt g e).1; omega))⟩
                have E4s : (w4.setCell ⟨w.heap.size, 1, none⟩ (.slice a4 (k + 1) c4)).heap[wr.heap.size]? = some (.cells #[.int .i64 x.num, .slice da x.data.length dc, .int .i64 (S : Int)] 62 (0, 0)) := (Below.heap_setCell w4 ⟨w.heap.size, 1, none⟩ _ wr.heap.size (by have := (Array.getElem?_eq_some_iff.1 HW.out.2.box).1; show wr.heap.size ≠ w.heap.size; omega)).trans hb4
                refine ⟨E4, ?_⟩
                simp only [Act.put, List.setIfInBounds_toArray, List.set_cons_zero, List.set_cons_succ]
                clear ho hg p1 p2
                refine H_take (i := 15) (v := .pointer (some ⟨w.heap.size, 0, none⟩)) (some 91) rfl rfl (by kernel_rfl) (by kernel_rfl) (by kernel_rfl) (fun _ _ _ h => h) rfl (fun X hX => ?_) E4 ?_
                · go_simp
                simp only [Act.put, List.setIfInBounds_toArray, List.set_cons_zero, List.set_cons_succ]
                refine H_take (i := 16) (v := .pointer (some ⟨w.heap.size, 1, none⟩)) (some 92) rfl rfl (by kernel_rfl) (by kernel_rfl) (by kernel_rfl) (fun _ _ _ h => h) rfl (fun X hX => ?_) E4 ?_
                · go_simp
                simp only [Act.put, List.setIfInBounds_toArray, List.set_cons_zero, List.set_cons_succ]
                refine wpAnyH_all (rs := [17]) (by kernel_rfl) (by decide) (fun j hj => ?_)
                obtain rfl : j = 17 := by simpa using hj
                refine op_skip (w' := w4.setCell ⟨w.heap.size, 1, none⟩ (.slice a4 (k + 1) c4)) rfl rfl (by simp [go_sem, p3, p4]) ⟨by simp [World.cell?, E4s], ?_⟩
                refine wpAnyH_done (by kernel_rfl) ?_ _
                simp only [Act.put, List.setIfInBounds_toArray, List.set_cons_zero, List.set_cons_succ]
                go_wp2_with fail
                go_roundg (N - (k + 1))
                case measure => omega
                case rel => exact ⟨k + 1, _, G ++ [((⟨x.num, x.data, S⟩ : Fl), .slice va x.data.length vc)], by go_num, Nat.le_refl _, hlt, ⟨⟨L4.out, F4.out⟩⟩, ⟨by rw [List.map_append, HM.out, HX.out]; rfl⟩⟩
              · refine op_call (f := 55) (args := #[.slice da x.data.length dc]) rfl rfl (by simp [go_sem]) ((CO.out _ (Below.refl _ w2).drew).mono ?_)
                rintro e w3 ⟨b3, v, rfl, hv⟩
                obtain ⟨va, vc, ev, _⟩ := hv.shape
                subst ev
                have B3 : HidR (Below w2.heap.size w2 w3) := ⟨⟨b3.os, b3.tape, b3.output, b3.size, b3.block⟩⟩
                have V3 : HidR (Own w3 w2.heap.size (.slice va x.data.length vc) x.data) := ⟨hv⟩
                have hb3 := (B3.out.block _ (Array.getElem?_eq_some_iff.1 HX2.out).1).trans HX2.out
                have E3 : w3.cell? ⟨wr.heap.size, 0, none⟩ = some (.int .i64 x.num) ∧ w3.cell? ⟨wr.heap.size, 1, none⟩ = some (.slice da x.data.length dc) ∧ w3.cell? ⟨wr.heap.size, 2, none⟩ = some (.int .i64 (S : Int)) := by simp [World.cell?, hb3]
                have hbz := (Array.getElem?_eq_some_iff.1 hb3).1
                have hba := (heap_alloc_old w3 (.cells #[.int .i64 x.num, .slice va x.data.length vc, .int .i64 (S : Int)] 62) hbz).trans hb3
                have E3a : (w3.alloc (.cells #[.int .i64 x.num, .slice va x.data.length vc, .int .i64 (S : Int)] 62)).cell? ⟨wr.heap.size, 0, none⟩ = some (.int .i64 x.num) ∧ (w3.alloc (.cells #[.int .i64 x.num, .slice va x.data.length vc, .int .i64 (S : Int)] 62)).cell? ⟨wr.heap.size, 1, none⟩ = some (.slice da x.data.length dc) ∧ (w3.alloc (.cells #[.int .i64 x.num, .slice va x.data.length vc, .int .i64 (S : Int)] 62)).cell? ⟨wr.heap.size, 2, none⟩ = some (.int .i64 (S : Int)) := by simp [World.cell?, hba]
                have H3 := hideR (HB2.out.2.later B3.out)
                have k13 := H3.out.cells.2.1
                have k1a : (w3.alloc (.cells #[.int .i64 x.num, .slice va x.data.length vc, .int .i64 (S : Int)] 62)).cell? ⟨w.heap.size, 1, none⟩ = some (.slice fa k fc) := (H3.out.later ((Below.refl _ w3).alloc (Nat.le_refl _) _)).cells.2.1
                have hz3 := B3.out.size
                have HBA := hideR hba
                clear b3 hv hb3 hba hbz
                refine ⟨_, rfl, E3, ?_⟩
                simp only [Act.put, List.setIfInBounds_toArray, List.set_cons_zero, List.set_cons_succ]
                refine H_take (i := 12) (v := .agg #[.int .i64 x.num, .slice va x.data.length vc, .int .i64 (S : Int)]) (some 88) rfl rfl (by kernel_rfl) (by kernel_rfl) (by kernel_rfl) (fun _ _ _ h => h) rfl (fun X hX => ?_) E3 ?_
                · exact run_build1 rfl (by kernel_rfl)
                simp only [Act.put, List.setIfInBounds_toArray, List.set_cons_zero, List.set_cons_succ]
                refine wpAnyH_all (rs := [4, 13]) (by kernel_rfl) (by decide) (fun j hj => ?_)
                rcases (show j = 4 ∨ j = 13 by simpa using hj) with rfl | rfl
                · refine op_value (v := .slice fa k fc) rfl rfl (by simp [go_sem, k13]) ⟨E3, ?_⟩
                  simp only [Act.put, List.setIfInBounds_toArray, List.set_cons_zero, List.set_cons_succ]
                  refine wpAnyH_all (rs := [13]) (by kernel_rfl) (by decide) (fun j hj => ?_)
                  obtain rfl : j = 13 := by simpa using hj
                  refine op_value (v := .slice (some ⟨w3.heap.size, 0, none⟩) 1 1) (w' := w3.alloc (.cells #[.int .i64 x.num, .slice va x.data.length vc, .int .i64 (S : Int)] 62)) rfl rfl (by simp [go_sem]) ⟨E3a, ?_⟩
                  simp only [Act.put, List.setIfInBounds_toArray, List.set_cons_zero, List.set_cons_succ]
                  refine wpAnyH_all (rs := [14]) (by kernel_rfl) (by decide) (fun j hj => ?_)
                  obtain rfl : j = 14 := by simpa using hj
                  refine op_fapp rfl rfl (.tmp 80) (.tmp 89) rfl (w.heap.size + 1) (.slice fa k fc) G.length (flatR G) rfl (World.ownsRow.alloc H3.out.row _) (some ⟨w3.heap.size, 0, none⟩) 1 1 (flatR [((⟨x.num, x.data, S⟩ : Fl), .slice va x.data.length vc)]) rfl rfl (.inr (src_file w3 ⟨x.num, x.data, S⟩ _)) file_one (by have := HN.out; have := HLN.out; rw [HGL.out]; omega) (by rw [World.size_alloc]; omega) ?_
                  intro v4 w4 ho hg _ _ _
                  rw [← flatR_append, show G.length + 1 = (G ++ [((⟨x.num, x.data, S⟩ : Fl), Value.slice va x.data.length vc)]).length by simp] at ho
                  obtain ⟨a4, c4, e4⟩ := row_formR ho
                  rw [List.length_append, HGL.out] at e4
                  simp only [List.length_cons, List.length_nil, Nat.zero_add] at e4
                  subst e4
                  obtain ⟨p1, p2, p3, p4⟩ := HB2.out.2.push B3.out V3.out (by omega) ho hg
                  have F4 := hideR p1
                  have hb4 := (hg.block wr.heap.size (Array.getElem?_eq_some_iff.1 HBA.out).1 (fun e => by have := (HW.out.2.row.lt _ e.symm).2; omega)).trans HBA.out
                  have E4 : w4.cell? ⟨wr.heap.size, 0, none⟩ = some (.int .i64 x.num) ∧ w4.cell? ⟨wr.heap.size, 1, none⟩ = some (.slice da x.data.length dc) ∧ w4.cell? ⟨wr.heap.size, 2, none⟩ = some (.int .i64 (S : Int)) := by simp [World.cell?, hb4]
                  have L4 : HidR (Below w.heap.size w (w4.setCell ⟨w.heap.size, 1, none⟩ (.slice a4 (k + 1) c4))) := ⟨HB2.out.1.trans (p2.below HB2.out.1.size (fun g hgw e => by
                    rcases e with e | e
                    · omega
                    · have := (HB2.out.2.row.lt g e).1; omega))⟩
                  have E4s : (w4.setCell ⟨w.heap.size, 1, none⟩ (.slice a4 (k + 1) c4)).heap[wr.heap.size]? = some (.cells #[.int .i64 x.num, .slice da x.data.length dc, .int .i64 (S : Int)] 62 (0, 0)) := (Below.heap_setCell w4 ⟨w.heap.size, 1, none⟩ _ wr.heap.size (by have := (Array.getElem?_eq_some_iff.1 HW.out.2.box).1; show wr.heap.size ≠ w.heap.size; omega)).trans hb4
                  refine ⟨E4, ?_⟩
                  simp only [Act.put, List.setIfInBounds_toArray, List.set_cons_zero, List.set_cons_succ]
                  clear ho hg p1 p2
                  refine H_take (i := 15) (v := .pointer (some ⟨w.heap.size, 0, none⟩)) (some 91) rfl rfl (by kernel_rfl) (by kernel_rfl) (by kernel_rfl) (fun _ _ _ h => h) rfl (fun X hX => ?_) E4 ?_
                  · go_simp
                  simp only [Act.put, List.setIfInBounds_toArray, List.set_cons_zero, List.set_cons_succ]
                  refine H_take (i := 16) (v := .pointer (some ⟨w.heap.size, 1, none⟩)) (some 92) rfl rfl (by kernel_rfl) (by kernel_rfl) (by kernel_rfl) (fun _ _ _ h => h) rfl (fun X hX => ?_) E4 ?_
                  · go_simp
                  simp only [Act.put, List.setIfInBounds_toArray, List.set_cons_zero, List.set_cons_succ]
                  refine wpAnyH_all (rs := [17]) (by kernel_rfl) (by decide) (fun j hj => ?_)
                  obtain rfl : j = 17 := by simpa using hj
                  refine op_skip (w' := w4.setCell ⟨w.heap.size, 1, none⟩ (.slice a4 (k + 1) c4)) rfl rfl (by simp [go_sem, p3, p4]) ⟨by simp [World.cell?, E4s], ?_⟩
                  refine wpAnyH_done (by kernel_rfl) ?_ _
                  simp only [Act.put, List.setIfInBounds_toArray, List.set_cons_zero, List.set_cons_succ]
                  go_wp2_with fail
                  go_roundg (N - (k + 1))
                  case measure => omega
                  case rel => exact ⟨k + 1, _, G ++ [((⟨x.num, x.data, S⟩ : Fl), .slice va x.data.length vc)], by go_num, Nat.le_refl _, hlt, ⟨⟨L4.out, F4.out⟩⟩, ⟨by rw [List.map_append, HM.out, HX.out]; rfl⟩⟩
                · refine op_value (v := .slice (some ⟨w3.heap.size, 0, none⟩) 1 1) (w' := w3.alloc (.cells #[.int .i64 x.num, .slice va x.data.length vc, .int .i64 (S : Int)] 62)) rfl rfl (by simp [go_sem]) ⟨E3a, ?_⟩
                  simp only [Act.put, List.setIfInBounds_toArray, List.set_cons_zero, List.set_cons_succ]
                  refine wpAnyH_all (rs := [4]) (by kernel_rfl) (by decide) (fun j hj => ?_)
                  obtain rfl : j = 4 := by simpa using hj
                  refine op_value (v := .slice fa k fc) rfl rfl (by simp [go_sem, k1a]) ⟨E3a, ?_⟩
                  simp only [Act.put, List.setIfInBounds_toArray, List.set_cons_zero, List.set_cons_succ]
                  refine wpAnyH_all (rs := [14]) (by kernel_rfl) (by decide) (fun j hj => ?_)
                  obtain rfl : j = 14 := by simpa using hj
                  refine op_fapp rfl rfl (.tmp 80) (.tmp 89) rfl (w.heap.size + 1) (.slice fa k fc) G.length (flatR G) rfl (World.ownsRow.alloc H3.out.row _) (some ⟨w3.heap.size, 0, none⟩) 1 1 (flatR [((⟨x.num, x.data, S⟩ : Fl), .slice va x.data.length vc)]) rfl rfl (.inr (src_file w3 ⟨x.num, x.data, S⟩ _)) file_one (by have := HN.out; have := HLN.out; rw [HGL.out]; omega) (by rw [World.size_alloc]; omega) ?_
                  intro v4 w4 ho hg _ _ _
                  rw [← flatR_append, show G.length + 1 = (G ++ [((⟨x.num, x.data, S⟩ : Fl), Value.slice va x.data.length vc)]).length by simp] at ho
                  obtain ⟨a4, c4, e4⟩ := row_formR ho
                  rw [List.length_append, HGL.out] at e4
                  simp only [List.length_cons, List.length_nil, Nat.zero_add] at e4
                  subst e4
                  obtain ⟨p1, p2, p3, p4⟩ := HB2.out.2.push B3.out V3.out (by omega) ho hg
                  have F4 := hideR p1
                  have hb4 := (hg.block wr.heap.size (Array.getElem?_eq_some_iff.1 HBA.out).1 (fun e => by have := (HW.out.2.row.lt _ e.symm).2; omega)).trans HBA.out
                  have E4 : w4.cell? ⟨wr.heap.size, 0, none⟩ = some (.int .i64 x.num) ∧ w4.cell? ⟨wr.heap.size, 1, none⟩ = some (.slice da x.data.length dc) ∧ w4.cell? ⟨wr.heap.size, 2, none⟩ = some (.int .i64 (S : Int)) := by simp [World.cell?, hb4]
                  have L4 : HidR (Below w.heap.size w (w4.setCell ⟨w.heap.size, 1, none⟩ (.slice a4 (k + 1) c4))) := ⟨HB2.out.1.trans (p2.below HB2.out.1.size (fun g hgw e => by
                    rcases e with e | e
                    · omega
                    · have := (HB2.out.2.row.lt g e).1; omega))⟩
                  have E4s : (w4.setCell ⟨w.heap.size, 1, none⟩ (.slice a4 (k + 1) c4)).heap[wr.heap.size]? = some (.cells #[.int .i64 x.num, .slice da x.data.length dc, .int .i64 (S : Int)] 62 (0, 0)) := (Below.heap_setCell w4 ⟨w.heap.size, 1, none⟩ _ wr.heap.size (by have := (Array.getElem?_eq_some_iff.1 HW.out.2.box).1; show wr.heap.size ≠ w.heap.size; omega)).trans hb4
                  refine ⟨E4, ?_⟩
                  simp only [Act.put, List.setIfInBounds_toArray, List.set_cons_zero, List.set_cons_succ]
                  clear ho hg p1 p2
                  refine H_take (i := 15) (v := .pointer (some ⟨w.heap.size, 0, none⟩)) (some 91) rfl rfl (by kernel_rfl) (by kernel_rfl) (by kernel_rfl) (fun _ _ _ h => h) rfl (fun X hX => ?_) E4 ?_
                  · go_simp
                  simp only [Act.put, List.setIfInBounds_toArray, List.set_cons_zero, List.set_cons_succ]
                  refine H_take (i := 16) (v := .pointer (some ⟨w.heap.size, 1, none⟩)) (some 92) rfl rfl (by kernel_rfl) (by kernel_rfl) (by kernel_rfl) (fun _ _ _ h => h) rfl (fun X hX => ?_) E4 ?_
                  · go_simp
                  simp only [Act.put, List.setIfInBounds_toArray, List.set_cons_zero, List.set_cons_succ]
                  refine wpAnyH_all (rs := [17]) (by kernel_rfl) (by decide) (fun j hj => ?_)
                  obtain rfl : j = 17 := by simpa using hj
                  refine op_skip (w' := w4.setCell ⟨w.heap.size, 1, none⟩ (.slice a4 (k + 1) c4)) rfl rfl (by simp [go_sem, p3, p4]) ⟨by simp [World.cell?, E4s], ?_⟩
                  refine wpAnyH_done (by kernel_rfl) ?_ _
                  simp only [Act.put, List.setIfInBounds_toArray, List.set_cons_zero, List.set_cons_succ]
                  go_wp2_with fail
                  go_roundg (N - (k + 1))
                  case measure => omega
                  case rel => exact ⟨k + 1, _, G ++ [((⟨x.num, x.data, S⟩ : Fl), .slice va x.data.length vc)], by go_num, Nat.le_refl _, hlt, ⟨⟨L4.out, F4.out⟩⟩, ⟨by rw [List.map_append, HM.out, HX.out]; rfl⟩⟩
            · have tlt : ¬ (k : Int) < (N : Int) := by omega
              have HM2 : HidR (G.map (·.1) = R.map cook) := ⟨by rw [HM.out, List.take_of_length_le (by simp; have := HN.out; omega)]⟩
              go_wp2_with fail
              go_ret2
              exact ⟨HW.out.1, .inr ⟨HE.out, w.heap.size, fv, G, rfl, Nat.le_refl _, ⟨HW.out.2.box, HW.out.2.row.monoR (by omega), fun p hp => (HW.out.2.own p hp).mono (by omega)⟩, HM2.out⟩⟩
  · have CN := hideR (new_no11 w q (by omega))
    have HC : HidR (chk q R = 110) := ⟨by rw [chk, if_neg (by simp [withinB]; omega)]⟩
    go_enter Try.func37, Try.ntmps37
    go_wp2_with (go_at_call 8
                 refine CN.out.mono ?_
                 rintro e w1 ⟨rfl, hw⟩
                 have hw := hw.symm
                 subst hw)
    go_ret2
    exact ⟨Below.refl _ _, .inl ⟨by rw [HC.out]; decide, by rw [HC.out]; rfl⟩⟩
end Go.Proofs.Ytnpofjeiamjioaa
