/-
  The walk of DiskLoads. (Written by genwl.py.)
-/
import Derived.Test.YtnpofjeiamjioaaLdK
import Derived.Test.YtnpofjeiamjioaaArX
import Derived.Test.YtnpofjeiamjioaaBeyo
import Derived.Test.YtnpofjeiamjioaaShown
import Derived.Test.YtnpofjeiamjioaaPlainKeeps
namespace Go.Proofs.Ytnpofjeiamjioaa
open Go.RowKit Go.Maps

theorem info_filed : (Try.prog.info? 36).map (·.size) = some 3 := by kernel_rfl
theorem info_act4 : (Try.prog.info? 39).map (·.size) = some 4 := by kernel_rfl
theorem under_act4 : Try.prog.underlying 39 = some (.struct (Try.prog.fieldsOf 39)) := by kernel_rfl
theorem tot_mem {l : List ActI} {x : ActI} (h : x ∈ l) : x.data.length + 1 ≤ tot l := by
  induction l with
  | nil => cases h
  | cons y l ih =>
    simp only [tot, List.map_cons, List.sum_cons] at ih ⊢
    rcases List.mem_cons.1 h with rfl | h
    · omega
    · have := ih h; omega
theorem tot_len (l : List ActI) : l.length ≤ tot l := by
  induction l with
  | nil => simp
  | cons y l ih =>
    simp only [tot, List.map_cons, List.sum_cons, List.length_cons] at ih ⊢
    omega
theorem ints_laterL {w w' : World} {a : Option Addr} {c : Nat} {l : List Int} (h : IsInts w a c l) (hb : Below w.heap.size w w') : IsInts w' a c l := h.block hb.size (fun b _ _ hlt _ => hb.block b hlt)
theorem ints_lowL {w : World} {a : Option Addr} {c : Nat} {l : List Int} (h : IsInts w a c l) (hl : l ≠ []) {b o : Nat} (e : a = some ⟨b, o, none⟩) : b < w.heap.size := by
  rcases l with _ | ⟨x, l⟩
  · exact absurd rfl hl
  · obtain ⟨b', o', e', hc⟩ := h.cell (j := 0) (x := x) rfl
    rw [e] at e'
    simp only [Option.some.injEq, Addr.mk.injEq, and_true] at e'
    obtain ⟨rfl, rfl⟩ := e'
    exact World.block_lt_of_cell? _ _ hc
set_option linter.unusedSimpArgs false in
set_option maxHeartbeats 4000000 in
set_option maxRecDepth 1000000 in
theorem walk (q : Int) (a1 : Option Addr) (c1 : Nat) (R : List Rf) (a2 : Option Addr) (c2 : Nat) (l2 : List ActI) (a3 : Option Addr) (c3 : Nat) (keep : List Int) (w : World) (_ : -9223372036854775808 ≤ q ∧ q ≤ 9223372036854775807) (h1 : IsRaw w a1 c1 R) (h2 : IsActs w a2 c2 l2) (h3 : IsInts w a3 c3 keep)
    (n1 : totR R + R.length ≤ 1048576) (n2 : tot l2 ≤ 1048576) (n3 : keep.length ≤ 1048576) :
    Calls Try.prog 4 #[.int .i64 q, .slice a1 R.length c1, .slice a2 l2.length c2, .slice a3 keep.length c3] w fun e w' => e = .returned (.bool true) ∧ Below w.heap.size w w' := by
  have HR := hideR h1
  have H2 := hideR h2
  have H3 := hideR h3
  have BE := hideR (beyond_no w a1 c1 R h1 (by omega) (by omega))
  have SH := hideR (shown_any w)
  have hdr : ∀ x ∈ R, x.data.length ≤ 1073741823 := fun x hx => by
    obtain ⟨k, hk⟩ := List.getElem?_of_mem hx
    have := totR_take R k x hk
    have := totR_le R (k + 1)
    omega
  have HDR := hideR (And.intro hdr n1)
  have hn2 := tot_len l2
  have HN2 := hideR (And.intro (fun x (hx : x ∈ l2) => tot_mem hx) n2)
  have hcl2 : (l2.length : Int) ≤ 1048576 := by omega
  clear h1 h2 h3 hdr n1 n2
  go_enter Try.func4, Try.ntmps4
  go_upto_region 3 with (go_at_call 13
                         refine BE.out.mono ?_
                         rintro e w1 ⟨rfl, hw⟩
                         have hw := hw.symm
                         subst hw)
  go_upto_region 5 with (go_at_call 6
                         refine SH.out.mono ?_
                         rintro e w1 ⟨rfl, b1⟩
                         have B1 := hideR b1
                         clear b1)
  have LO := hideR (loaded_any w1 q a1 c1 R (HR.out.below B1.out) (by have := HDR.out.2; omega) (by have := HDR.out.2; omega) HDR.out.1)
  by_cases hz : chk q R = 0
  · have HZ := hideR hz
    clear hz
    go_upto_region 6 with (go_at_call 14
                           refine LO.out.mono ?_
                           rintro e w2 ⟨b2, hc⟩
                           rcases hc with ⟨hc, _⟩ | ⟨_, db, mb, vs, rb, fv, F, rfl, pr2⟩
                           · exact absurd HZ.out hc
                           have PR2 := hideR pr2
                           have B2 := hideR b2
                           clear b2 pr2)
    obtain ⟨w3, hw3⟩ : ∃ w3, w3 = w2.alloc (.cells #[.pointer (some ⟨db, 0, none⟩), .pointer (some ⟨rb, 0, none⟩)] 33) := ⟨_, rfl⟩
    rw [← hw3]
    have b3 : Below w2.heap.size w2 w3 := by rw [hw3]; exact (Below.refl _ w2).alloc (Nat.le_refl _) _
    have x3 : w3.heap[w2.heap.size]? = some (.cells #[.pointer (some ⟨db, 0, none⟩), .pointer (some ⟨rb, 0, none⟩)] 33 (0, 0)) := by rw [hw3]; exact heap_alloc_new w2 _
    have z3 : w3.heap.size = w2.heap.size + 1 := by rw [hw3]; simp
    obtain ⟨pb, hpb⟩ : ∃ pb, pb = w2.heap.size := ⟨_, rfl⟩
    obtain ⟨k0, k1⟩ : w3.cell? ⟨pb, 0, none⟩ = some (.pointer (some ⟨db, 0, none⟩)) ∧ w3.cell? ⟨pb, 1, none⟩ = some (.pointer (some ⟨rb, 0, none⟩)) := by rw [hpb]; simp [World.cell?, x3]
    rw [← hpb] at x3 z3
    have HX3 := hideR (And.intro b3 (And.intro x3 (And.intro z3 hpb)))
    rw [← hpb]
    clear hw3 b3 x3 z3 hpb
    go_upto_region 9 with fail
    obtain ⟨w4, hw4⟩ : ∃ w4, w4 = w3.alloc (.cells #[.slice none 0 0, .slice none 0 0, .int .i64 0] 36) := ⟨_, rfl⟩
    rw [← hw4]
    have b4 : Below w3.heap.size w3 w4 := by rw [hw4]; exact (Below.refl _ w3).alloc (Nat.le_refl _) _
    have x4 : w4.heap[w3.heap.size]? = some (.cells #[.slice none 0 0, .slice none 0 0, .int .i64 0] 36 (0, 0)) := by rw [hw4]; exact heap_alloc_new w3 _
    obtain ⟨hb, hhb⟩ : ∃ hb, hb = w3.heap.size := ⟨_, rfl⟩
    rw [← hhb] at x4
    rw [← hhb]
    obtain ⟨b3, x3, z3, hpb⟩ := HX3.out
    have b24 : Below w2.heap.size w2 w4 := b3.trans (b4.mono b3.size)
    have hs1 := B1.out.size
    have hs2 := B2.out.size
    have hs4 := b4.size
    have ds4 : Ds w w.heap.size pb db mb rb hb 2097152 q (R.map cook) 0 vs fv F (.slice none 0 0) (.slice none 0 0) [] 0 w4 := by
      have pr : Pr w4 w.heap.size db mb q (R.map cook) vs rb fv F := by
        have p2 := PR2.out
        have p4 := p2.later b24
        exact ⟨p4.dk, p4.rf.monoB hs1, p4.eq, p4.ap, fun g e => Nat.le_trans hs1 (p4.ge g e)⟩
      have plt : ∀ g, PM db mb (R.map cook) vs rb fv F g → g < w2.heap.size := fun g e => PR2.out.blt e
      refine ⟨pr, bk_nil x4 (by omega) _, rfl, fun g e e2 => ?_, (b4.block _ (by omega)).trans x3, fun e => ?_, fun e => ?_, B1.out.trans ((B2.out.trans (b24.mono B2.out.size)).mono hs1), by omega⟩
      · have := fdb_nil e
        have := plt g e2
        omega
      · have := plt pb e
        omega
      · have := fdb_nil e
        omega
    have DS4 := hideR ds4
    have LK1 := hideR (looks_any w4 w.heap.size db mb q (R.map cook) vs rb fv F ds4.pr hb _ _ [] 0 2097152 ds4.bk ds4.ap ds4.hB (by have := HDR.out.2; rw [List.length_map]; omega) (by omega) (by simp))
    clear k0 k1
    obtain ⟨k0, k1⟩ := ds4.cells
    clear hw4 b4 x4 hhb b3 x3 z3 hpb b24 hs1 hs2 hs4 ds4
    go_wp2_with fail
    refine LK1.out.mono ?_
    rintro e w5 ⟨rfl, hp5⟩
    have DS5 := hideR (DS4.out.looks hp5)
    clear hp5
    go_upto_region 11 with fail
    clear k0 k1 LK1
    go_wp2_with fail
    go_loopg [12] 200 (fun gk s12 wr => ∃ (i : Nat) (L : List Fl), s12 = .int .i64 (i : Int) ∧ 200 - i ≤ gk ∧ i ≤ 200 ∧ i ≤ l2.length ∧ L.length ≤ 1048576 + i ∧ HidR (∃ (vs : Int → Value) (fv : Value) (F : List (Fl × Value)) (vo vw : Value) (P : List Ls) (sz : Int), Ds w w.heap.size pb db mb rb hb 2097152 q L 2 vs fv F vo vw P sz wr))
    case atStart =>
      refine ⟨0, R.map cook, rfl, by omega, by omega, by omega, by have := HDR.out.2; rw [List.length_map]; omega, ⟨?_⟩⟩
      obtain ⟨vo', vw', sz', P', d⟩ := DS5.out
      exact ⟨vs, fv, F, vo', vw', P', sz', d⟩
    case round =>
      obtain ⟨i, L, rfl, hgk, hi, hi2, hL, HS⟩ := hrel
      clear DS4 DS5 PR2 LO SH BE HZ
      obtain ⟨vs1, fv1, F1, vo1, vw1, P1, sz1, ds⟩ := HS.out
      have DS := hideR ds
      clear HS
      by_cases hlt : i < 200 ∧ i < l2.length
      · obtain ⟨hlt1, hlt2⟩ := hlt
        have t1 : (i : Int) < 200 := by omega
        have t2 : (i : Int) < (l2.length : Int) := by omega
        obtain ⟨x, hx⟩ : ∃ x, l2[i]? = some x := ⟨_, List.getElem?_eq_getElem hlt2⟩
        have hfit := H2.out.2.2.1 x (List.mem_of_getElem? hx)
        have hxl : x.data.length + 1 ≤ 1048576 := by have := HN2.out.1 x (List.mem_of_getElem? hx); have := HN2.out.2; omega
        obtain ⟨b, o, ea, hbw, m0, m1, ⟨da, dc, m2, hib⟩, m3⟩ := (H2.out).at hx
        subst ea
        have HM := hideR (And.intro m0 (And.intro m1 (And.intro m2 m3)))
        have rng : ∀ X, Below w.heap.size w X → X.rangeAt b (o + i * 4) [.int .i64 x.kind, .int .i64 x.file, .slice da x.data.length dc, .int .i64 x.size] := fun X hX j v hj => by
          obtain ⟨m0, m1, m2, m3⟩ := HM.out
          match j, hj with
          | 0, hj => cases hj; exact (hX.cell (p := ⟨b, o + i * 4, none⟩) hbw).trans m0
          | 1, hj => cases hj; exact (hX.cell (p := ⟨b, o + i * 4 + 1, none⟩) hbw).trans m1
          | 2, hj => cases hj; exact (hX.cell (p := ⟨b, o + i * 4 + 2, none⟩) hbw).trans m2
          | 3, hj => cases hj; exact (hX.cell (p := ⟨b, o + i * 4 + 3, none⟩) hbw).trans m3
        have RNG := hideR rng
        have DO := hideR (fun (W : World) (hW : W = wr.drew) => does_any W w.heap.size db mb q L vs1 rb fv1 F1 (hW ▸ ds.pr.later (Below.refl _ wr).drew) (by rw [hW]; exact ds.hB) (by omega) x.kind x.file x.size hfit.2.1 da dc x.data (fun X hX => hib.below (ds.bw.trans ((hW ▸ (Below.refl _ wr).drew.mono ds.hB : Below w.heap.size wr W).trans hX))) (by omega))
        have LAL : (act q L x.kind x.file x.data x.size).2.length ≤ L.length + 1 := act_len ds.pr.dk.right _ _ _ _
        obtain ⟨L', hL'⟩ : ∃ L', L' = (act q L x.kind x.file x.data x.size).2 := ⟨_, rfl⟩
        rw [← hL'] at DO LAL
        clear hib m0 m1 m2 m3 hx rng hfit hL'
        have sq : (fun X : World => X.heap[pb]? = some (.cells #[.pointer (some ⟨db, 0, none⟩), .pointer (some ⟨rb, 0, none⟩)] 33 (0, 0)) ∧ Below w.heap.size w X) wr.drew := ⟨ds.box, ds.bw.drew⟩
        clear ds
        go_upto_region 14 with fail
        refine wp_region_held_drew (S := fun X => X.heap[pb]? = some (.cells #[.pointer (some ⟨db, 0, none⟩), .pointer (some ⟨rb, 0, none⟩)] 33 (0, 0)) ∧ Below w.heap.size w X) (by kernel_rfl) sq (fun _ => ?_)
        refine H_take (i := 0) (v := .agg #[.pointer (some ⟨db, 0, none⟩), .pointer (some ⟨rb, 0, none⟩)]) (some 45) rfl rfl (by kernel_rfl) (by kernel_rfl) (by kernel_rfl) (fun _ _ _ h => h) rfl (fun X hX => ?_) sq ?_
        · exact run_loadRow rfl rfl hX.1 under_pair rfl info_pair
        simp only [Act.put, List.setIfInBounds_toArray, List.set_cons_zero, List.set_cons_succ]
        refine H_take (i := 1) (v := .slice (some ⟨b, o, none⟩) l2.length c2) (some 46) rfl rfl (by kernel_rfl) (by kernel_rfl) (by kernel_rfl) (fun _ _ _ h => h) rfl (fun X hX => ?_) sq ?_
        · simp [go_sem]
        simp only [Act.put, List.setIfInBounds_toArray, List.set_cons_zero, List.set_cons_succ]
        refine H_take (i := 2) (v := .int .i64 (i : Int)) (some 47) rfl rfl (by kernel_rfl) (by kernel_rfl) (by kernel_rfl) (fun _ _ _ h => h) rfl (fun X hX => ?_) sq ?_
        · simp [go_sem]
        simp only [Act.put, List.setIfInBounds_toArray, List.set_cons_zero, List.set_cons_succ]
        refine H_take (i := 3) (v := .pointer (some ⟨b, o + i * 4, none⟩)) (some 48) rfl rfl (by kernel_rfl) (by kernel_rfl) (by kernel_rfl) (fun _ _ _ h => h) rfl (fun X hX => ?_) sq ?_
        · go_simp
        simp only [Act.put, List.setIfInBounds_toArray, List.set_cons_zero, List.set_cons_succ]
        refine H_take (i := 4) (v := .agg #[.int .i64 x.kind, .int .i64 x.file, .slice da x.data.length dc, .int .i64 x.size]) (some 49) rfl rfl (by kernel_rfl) (by kernel_rfl) (by kernel_rfl) (fun _ _ _ h => h) rfl (fun X hX => ?_) sq ?_
        · exact run_loadM rfl rfl (RNG.out X hX.2) under_act4 rfl info_act4
        simp only [Act.put, List.setIfInBounds_toArray, List.set_cons_zero, List.set_cons_succ]
        refine H_call (i := 5) (f := 15) (args := #[.agg #[.pointer (some ⟨db, 0, none⟩), .pointer (some ⟨rb, 0, none⟩)], .agg #[.int .i64 x.kind, .int .i64 x.file, .slice da x.data.length dc, .int .i64 x.size]]) (some 50) rfl rfl (by kernel_rfl) rfl (by simp [go_sem]) ((DO.out _ rfl).mono ?_)
        rintro e w6 ⟨rfl, hp6⟩
        obtain ⟨vs6, fv6, F6, ds6⟩ := (DS.out.drew).does hp6
        have sq6 : (fun X : World => X.heap[pb]? = some (.cells #[.pointer (some ⟨db, 0, none⟩), .pointer (some ⟨rb, 0, none⟩)] 33 (0, 0)) ∧ Below w.heap.size w X) w6 := ⟨ds6.box, ds6.bw⟩
        have DS6 := hideR ds6
        clear hp6 ds6
        refine ⟨_, rfl, sq6, ?_⟩
        simp only [Act.put, List.setIfInBounds_toArray, List.set_cons_zero, List.set_cons_succ]
        refine H_take (i := 6) (v := .bool false) (some 51) rfl rfl (by kernel_rfl) (by kernel_rfl) (by kernel_rfl) (fun _ _ _ h => h) rfl (fun X hX => ?_) sq6 ?_
        · simp [go_sem]
        simp only [Act.put, List.setIfInBounds_toArray, List.set_cons_zero, List.set_cons_succ]
        refine wpAnyH_done (by kernel_rfl) ?_ _
        go_wp2_with fail
        go_roundg (200 - (i + 1))
        case measure => omega
        case rel => exact ⟨i + 1, L', by go_num, Nat.le_refl _, hlt1, hlt2, by omega, ⟨⟨vs6, fv6, F6, vo1, vw1, P1, sz1, DS6.out⟩⟩⟩
      · by_cases hlt1 : i < l2.length
        · have t1 : (i : Int) < (l2.length : Int) := by omega
          have t2 : ¬ (i : Int) < 200 := by omega
          have LK1 := hideR (looks_any wr w.heap.size db mb q L vs1 rb fv1 F1 ds.pr hb _ _ P1 sz1 2097152 ds.bk ds.ap ds.hB (by omega) (by omega) (by rw [ds.len]; omega))
          obtain ⟨k0, k1⟩ := ds.cells
          have hlc : (crash keep L).length ≤ 1048776 := by rw [crash_length]; omega
          clear ds
          go_wp2_with fail
          refine LK1.out.mono ?_
          rintro e w6 ⟨rfl, hp6⟩
          obtain ⟨vo6, vw6, sz6, P6, ds6⟩ := DS.out.looks hp6
          have DS6 := hideR ds6
          clear k0 k1
          obtain ⟨k0, k1⟩ := ds6.cells
          have CR := hideR (crashes_any w6 w.heap.size db mb q L vs1 rb fv1 F1 ds6.pr ds6.hB (by omega) a3 c3 keep (fun X hX => ints_laterL H3.out (ds6.bw.trans hX)) (fun b o e hne => ints_lowL H3.out hne e) (by omega))
          clear hp6 ds6 LK1
          go_wp2_with fail
          refine CR.out.mono ?_
          rintro e w7 ⟨rfl, hp7⟩
          obtain ⟨vs7, fv7, F7, ds7⟩ := DS6.out.does hp7
          have DS7 := hideR ds7
          clear k0 k1
          obtain ⟨k0, k1⟩ := ds7.cells
          have LK2 := hideR (looks_any w7 w.heap.size db mb q (crash keep L) vs7 rb fv7 F7 ds7.pr hb _ _ P6 sz6 2097152 ds7.bk ds7.ap ds7.hB (by omega) (by omega) (by rw [ds7.len]; omega))
          clear hp7 ds7 CR
          go_wp2_with fail
          refine LK2.out.mono ?_
          rintro e w8 ⟨rfl, hp8⟩
          obtain ⟨vo8, vw8, sz8, P8, ds8⟩ := DS7.out.looks hp8
          have DS8 := hideR ds8
          have SP := hideR (fspoil_any w8 w.heap.size hb vo8 vw8 P8 sz8 ds8.bk.fd ds8.bk.ap ds8.bk.eq ds8.hB (ds8.fews (by omega)) (fun x hx z hz => by have := (ds8.bk.few x hx).2 z hz; omega) (by rw [ds8.len]; omega))
          clear hp8 ds8 LK2 k0 k1
          go_wp2_with fail
          refine SP.out.mono ?_
          rintro e w9 ⟨rfl, hp9⟩
          have HP9 := hideR hp9
          clear hp9
          go_wp2_with fail
          go_ret
          obtain ⟨kk, _⟩ := HP9.out
          exact ⟨by simp, DS8.out.bw.trans (kk.below DS8.out.hB (fun j hj e => by have := DS8.out.bk.fd.bge e; omega))⟩
        · have t1 : ¬ (i : Int) < (l2.length : Int) := by omega
          have LK1 := hideR (looks_any wr w.heap.size db mb q L vs1 rb fv1 F1 ds.pr hb _ _ P1 sz1 2097152 ds.bk ds.ap ds.hB (by omega) (by omega) (by rw [ds.len]; omega))
          obtain ⟨k0, k1⟩ := ds.cells
          have hlc : (crash keep L).length ≤ 1048776 := by rw [crash_length]; omega
          clear ds
          go_wp2_with fail
          refine LK1.out.mono ?_
          rintro e w6 ⟨rfl, hp6⟩
          obtain ⟨vo6, vw6, sz6, P6, ds6⟩ := DS.out.looks hp6
          have DS6 := hideR ds6
          clear k0 k1
          obtain ⟨k0, k1⟩ := ds6.cells
          have CR := hideR (crashes_any w6 w.heap.size db mb q L vs1 rb fv1 F1 ds6.pr ds6.hB (by omega) a3 c3 keep (fun X hX => ints_laterL H3.out (ds6.bw.trans hX)) (fun b o e hne => ints_lowL H3.out hne e) (by omega))
          clear hp6 ds6 LK1
          go_wp2_with fail
          refine CR.out.mono ?_
          rintro e w7 ⟨rfl, hp7⟩
          obtain ⟨vs7, fv7, F7, ds7⟩ := DS6.out.does hp7
          have DS7 := hideR ds7
          clear k0 k1
          obtain ⟨k0, k1⟩ := ds7.cells
          have LK2 := hideR (looks_any w7 w.heap.size db mb q (crash keep L) vs7 rb fv7 F7 ds7.pr hb _ _ P6 sz6 2097152 ds7.bk ds7.ap ds7.hB (by omega) (by omega) (by rw [ds7.len]; omega))
          clear hp7 ds7 CR
          go_wp2_with fail
          refine LK2.out.mono ?_
          rintro e w8 ⟨rfl, hp8⟩
          obtain ⟨vo8, vw8, sz8, P8, ds8⟩ := DS7.out.looks hp8
          have DS8 := hideR ds8
          have SP := hideR (fspoil_any w8 w.heap.size hb vo8 vw8 P8 sz8 ds8.bk.fd ds8.bk.ap ds8.bk.eq ds8.hB (ds8.fews (by omega)) (fun x hx z hz => by have := (ds8.bk.few x hx).2 z hz; omega) (by rw [ds8.len]; omega))
          clear hp8 ds8 LK2 k0 k1
          go_wp2_with fail
          refine SP.out.mono ?_
          rintro e w9 ⟨rfl, hp9⟩
          have HP9 := hideR hp9
          clear hp9
          go_wp2_with fail
          go_ret
          obtain ⟨kk, _⟩ := HP9.out
          exact ⟨by simp, DS8.out.bw.trans (kk.below DS8.out.hB (fun j hj e => by have := DS8.out.bk.fd.bge e; omega))⟩
  · have HZ := hideR hz
    clear hz
    go_upto_region 6 with (go_at_call 14
                           refine LO.out.mono ?_
                           rintro e w2 ⟨b2, hc⟩
                           rcases hc with ⟨_, rfl⟩ | ⟨hc, _⟩
                           case inr => exact absurd hc HZ.out
                           have B2 := hideR b2
                           clear b2)
    obtain ⟨w3, hw3⟩ : ∃ w3, w3 = w2.alloc (.cells #[.pointer none, .pointer none] 33) := ⟨_, rfl⟩
    rw [← hw3]
    have b3 : Below w2.heap.size w2 w3 := by rw [hw3]; exact (Below.refl _ w2).alloc (Nat.le_refl _) _
    have x3 : w3.heap[w2.heap.size]? = some (.cells #[.pointer none, .pointer none] 33 (0, 0)) := by rw [hw3]; exact heap_alloc_new w2 _
    obtain ⟨k0, k1⟩ : w3.cell? ⟨w2.heap.size, 0, none⟩ = some (.pointer none) ∧ w3.cell? ⟨w2.heap.size, 1, none⟩ = some (.pointer none) := by simp [World.cell?, x3]
    clear hw3 x3
    go_wp2_with fail
    go_ret
    exact ⟨rfl, B1.out.trans ((B2.out.trans (b3.mono B2.out.size)).mono B1.out.size)⟩
end Go.Proofs.Ytnpofjeiamjioaa
