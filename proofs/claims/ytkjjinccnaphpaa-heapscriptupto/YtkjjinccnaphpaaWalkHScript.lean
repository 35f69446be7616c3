/-
  The walk of HeapScript.
-/
import Derived.Test.YtkjjinccnaphpaaHMadeM
import Derived.Deep.RegionLaw
namespace Go.Proofs.Ytkjjinccnaphpaa.heapScript
open Go.RowKit

/-- The desk, in whatever state. -/
def Dk (w0 W : World) (Db n l : Nat) : Prop := ∃ lab va vb f es ps top, DeskS w0 W lab Db va vb f es ps top n ∧ 3 ≤ top ∧ l ≤ ps.length
theorem Dk.later {w0 W W' : World} {Db n l : Nat} (h : Dk w0 W Db n l) (hb : Below W.heap.size W W') : Dk w0 W' Db n l := by
  obtain ⟨lab, va, vb, f, es, ps, top, h1, h2, h3⟩ := h
  exact ⟨lab, va, vb, f, es, ps, top, DeskG.later h1 hb, h2, h3⟩
theorem Dk.act {w0 W : World} {Db n : Nat} (h : Dk w0 W Db n 3) (x : ActI) (hx : actFits x) (hn : n ≤ 2000000) :
    Calls Try.prog 8 #[.pointer (some ⟨Db, 0, none⟩), actV x] W fun e w' => e = .returned (.bool true) ∧ Dk w0 w' Db (n + 1) 3 := by
  obtain ⟨lab, va, vb, f, es, ps, top, h1, h2, h3⟩ := h
  refine (act_any h1 h2 (by omega) x hx hn).mono ?_
  rintro e w' ⟨rfl, lab', va', vb', f', es', ps', top', g1, g2, g3⟩
  exact ⟨rfl, lab', va', vb', f', es', ps', top', g1, g2, by omega⟩
theorem Dk.holds {w0 W : World} {Db n l : Nat} (h : Dk w0 W Db n l) (hn : n ≤ 2000000) :
    Calls Try.prog 9 #[.pointer (some ⟨Db, 2, none⟩)] W fun e w' => e = .returned (.bool true) ∧ Dk w0 w' Db n l := by
  obtain ⟨lab, va, vb, f, es, ps, top, h1, h2, h3⟩ := h
  refine (DeskG.holds h1 hn).mono ?_
  rintro e w' ⟨rfl, g1⟩
  exact ⟨rfl, lab, va, vb, f, es, ps, top, g1, h2, h3⟩
theorem Dk.write {w0 W : World} {Db n l : Nat} (h : Dk w0 W Db n l) (hn : n ≤ 2000000) :
    Calls Try.prog 11 #[.pointer (some ⟨Db, 2, none⟩)] W fun e w' => e = .returned (.bool true) ∧ Dk w0 w' Db (n + 1) l := by
  obtain ⟨lab, va, vb, f, es, ps, top, h1, h2, h3⟩ := h
  refine (DeskG.write h1 hn).mono ?_
  rintro e w' ⟨rfl, lab', f', es', g1⟩
  exact ⟨rfl, lab', va, vb, f', es', ps, top, g1, h2, h3⟩
theorem Dk.stands {w0 W : World} {Db n l : Nat} (h : Dk w0 W Db n l) (hn : n ≤ 1999990) :
    Calls Try.prog 10 #[.pointer (some ⟨Db, 0, none⟩)] W fun e w' => e = .returned (.bool true) ∧ Dk w0 w' Db (n + 4) l := by
  obtain ⟨lab, va, vb, f, es, ps, top, h1, h2, h3⟩ := h
  refine (stands_any h1 hn).mono ?_
  rintro e w' ⟨rfl, lab', es', g1⟩
  exact ⟨rfl, lab', va, vb, f, es', ps, top, g1, h2, h3⟩

/-- In the midst of a round: the program's heap is laid, the document's not yet. -/
def MidA (w0 W : World) (Db k : Nat) (f : FuncId) : Prop := ∃ lab va vb ps hb mb, ps.length = k ∧ DeskG w0 W lab Db va vb 0 [] ps (3 + k) 0 (ps.map ptrA ++ [.pointer (some ⟨hb, 0, none⟩)]) (ps.map ptrB) ∧ HeapAtT W hb (.slice none 0 0) mb f #[] 0 [] ∧ lab hb = .user (3 + k) ∧ lab mb = .user (3 + k) ∧ w0.heap.size ≤ hb ∧ w0.heap.size ≤ mb
theorem heap_on {w w' : World} {hb mb i top Db : Nat} {f : FuncId} {lab : Nat → Tag} (h : HeapAtT w hb (.slice none 0 0) mb f #[] 0 []) (l1 : lab hb = .user top) (l2 : lab mb = .user top) (hi : i ≠ top) (hDb : lab Db = .box) (K : Kept (fun j => lab j = .user i ∨ j = Db) w w') : HeapAtT w' hb (.slice none 0 0) mb f #[] 0 [] := by
  refine h.kept K (fun j hj e => ?_)
  have h1 : lab j = .user top := by
    rcases hj with rfl | hj | rfl
    · exact l1
    · cases hj
    · exact l2
  rcases e with e | e
  · rw [e] at h1
    simp at h1
    exact hi h1
  · rw [e, hDb] at h1
    simp at h1
theorem heap_lt {w : World} {hb mb : Nat} {f : FuncId} (h : HeapAtT w hb (.slice none 0 0) mb f #[] 0 []) : hb < w.heap.size ∧ mb < w.heap.size := by
  refine ⟨(Array.getElem?_eq_some_iff.1 h.box).1, ?_⟩
  obtain ⟨g, hT, _⟩ := h.tab
  obtain ⟨_, _, hm⟩ := hT.map
  exact (Array.getElem?_eq_some_iff.1 hm).1

theorem ref_on {w w' : World} {lo db i top Db : Nat} {way : Int} {lab : Nat → Tag} (h : RefH w lo db (.slice none 0 0) way 0 []) (l1 : lab db = .user top) (hi : i ≠ top) (hDb : lab Db = .box) (K : Kept (fun j => lab j = .user i ∨ j = Db) w w') : RefH w' lo db (.slice none 0 0) way 0 [] := by
  refine h.kept K (fun j hj e => ?_)
  have h1 : lab j = .user top := by
    rcases hj with rfl | hj
    · exact l1
    · cases hj
  rcases e with e | e
  · rw [e] at h1
    simp at h1
    exact hi h1
  · rw [e, hDb] at h1
    simp at h1
theorem pair_new {w0 w : World} {hb mb db : Nat} {f : FuncId} {way : Int} (G : Grower f (kW way)) (h : HeapAtT w hb (.slice none 0 0) mb f #[] 0 []) (d : RefH w w0.heap.size db (.slice none 0 0) way 0 []) (g1 : w0.heap.size ≤ hb) (g2 : w0.heap.size ≤ mb) : HAt w0 w ⟨hb, mb, .slice none 0 0, f, way, 0, [], db, .slice none 0 0, []⟩ :=
  ⟨h, d, G, fun i r q _ hr => by simp at hr, List.Perm.nil, List.Pairwise.nil, fun r hr => by simp at hr, Int.le_refl _, fun k hk => by rcases hk with rfl | hk | rfl; exact g1; cases hk; exact g2, fun k hk => by rcases hk with rfl | hk; exact d.low; cases hk⟩

set_option maxHeartbeats 8000000 in
set_option maxRecDepth 1000000 in
theorem walk (a : Option Addr) (cap : Nat) (acts : List ActI) (w : World) (ha : IsActs w a cap acts ∧ (a = none → cap = 0)) (hn : acts.length ≤ 1048576) :
    Calls Try.prog 3 #[.slice a acts.length cap] w fun e w' => e = .returned (.bool true) ∧ Below w.heap.size w w' := by
  have HA : Hid (IsActs w a cap acts) := ha.1
  clear ha
  obtain ⟨ia, hia, ia0, ia1, ia2⟩ := info_parts info_pa
  obtain ⟨ib, hib, ib0, ib1, ib2⟩ := info_parts info_pb
  go_enter Try.func3, Try.ntmps3
  go_wp2_with (first
    | (go_at_call 4
       refine (shown_any w).mono ?_
       rintro e w1 ⟨rfl, B1⟩
       have HB1 := hide3 B1
       clear B1)
    | (go_at_call 5
       refine (new_nil w1).mono ?_
       rintro e w2 ⟨rfl, B2⟩
       have HB2 : Hid (Below w.heap.size w w2) := HB1.out.trans (B2.mono HB1.out.size)
       clear B2))
  obtain ⟨lab0, hd0⟩ := desk_new w w2 HB2.out
  generalize hW3 : w2.alloc (.cells #[.slice none 0 0, .slice none 0 0, .slice none 0 0, .slice none 0 0, .int .i64 0] 35) = W3 at hd0 ⊢
  generalize hDb : w2.heap.size = Db at hd0 ⊢
  have HD0 := hide3 hd0
  clear hd0 hW3 hDb HB2
  go_loopw [15] (fun i wr => ∃ (k : Nat) (lab : Nat → Tag) (va vb : Value) (ps : List (Nat × Hpr)), k ≤ 3 ∧ i = .int .i64 k ∧ ps.length = k ∧ DeskS w wr lab Db va vb 0 [] ps (3 + k) 0) (fun i _ => 3 - (intOf i).toNat)
  case atStart => exact ⟨0, lab0, _, _, [], by omega, rfl, rfl, HD0.out⟩
  case round =>
    obtain ⟨k, lab, va, vb, ps, hk, rfl, hpl, hd⟩ := hrel
    have HPL := hide3 hpl
    by_cases hlt : k < 3
    · have hki : (k : Int) < 3 := by omega
      obtain ⟨f, hG, CM⟩ := made_any k hlt
      have HG := hide3 hG
      have HCM := hide3 CM
      obtain ⟨aa, ca, hva, _⟩ := row_shape (DeskG.ra hd)
      rw [List.length_map] at hva
      obtain ⟨b0, b1, hDb, f0, f1, hD0, lDb⟩ := DeskG.box hd
      have HD := hide3 hd
      have hw : w.heap.size ≤ wr.heap.size := (DeskG.bel hd).size
      have hps : ps.length ≤ 4 := DeskG.few hd
      subst hva
      clear hd CM hG hpl
      go_upto_region 7 with fail
      go_cut [4] from 18 to 40 (fun v4 wx => v4 = .int .i64 (k : Int) ∧ MidA w wx Db k f)
      case first =>
        go_region_law (first
          | (go_simp
             go_at_call 6
             refine (HCM.out _).mono ?_
             rintro e w5 ⟨hb, mb, rfl, h5, B5, g1, g2⟩
             have Bb : Below wr.heap.size wr w5 := by first | exact (Below.refl _ wr).drew.trans B5 | exact B5
             have HB5 := hide3 Bb
             have x0 : w5.cell? ⟨Db, 0, none⟩ = _ := (Bb.cell (p := ⟨Db, 0, none⟩) hDb).trans b0
             have H5 : Hid (HeapAtT w5 hb (.slice none 0 0) mb f #[] 0 [] ∧ wr.heap.size ≤ hb ∧ wr.heap.size ≤ mb) := ⟨h5, g1, g2⟩
             obtain ⟨lab5, hd5, hl5, _⟩ := DeskG.newM HD.out (fun j => j = hb ∨ j = mb) Bb (fun j hj => by rcases hj with rfl | rfl; exact g1; exact g2)
             have HD5 := hide3 (And.intro hd5 hl5)
             have hw5 : w.heap.size ≤ w5.heap.size := Nat.le_trans hw Bb.size
             have hDb5 : Db < w5.heap.size := Nat.lt_of_lt_of_le hDb Bb.size
             clear h5 B5 g1 g2 Bb hd5 hl5)
          | (refine step_row rfl (.tmp 22) (.tmp 25) 29 rfl _ w.heap.size 24 ia _ Try.underlying29 hia ia0 ia1 rfl (.slice aa ps.length ca) (ps.map ptrA).length (ps.map ptrA) (by first | rfl | simp [Act.eval, Act.put]) (World.ownsRow.alloc (DeskG.ra HD5.out.1) _) (some ⟨w5.heap.size, 0, none⟩) 1 1 [.pointer (some ⟨hb, 0, none⟩)] (by first | rfl | simp [Act.eval, Act.put]) rfl (.inr (one_new w5 _ _)) (by intro y hy; simp at hy; subst hy; rfl) (by unfold maxLen; simp; omega) (by rw [ia2]; simp; omega) (by simp; omega) ?_
             intro va' w6 ho hg hv
             obtain ⟨a6, c6, hva', _⟩ := row_shape ho
             rw [List.length_map] at hva'
             subst hva'
             obtain ⟨lab6, hd6, hl6, hk6, hb6⟩ := DeskG.pushA HD5.out.1 _ ho (by first | exact hg | simpa using hg) (by first | exact hv | simpa using hv)
             have z0 : w6.cell? ⟨Db, 0, none⟩ = _ := (World.cell?_of_block hb6).trans x0
             have z1 : w6.frozen? ⟨Db, 0, none⟩ = false := (World.frozen?_of_block hb6).trans (DeskG.box HD5.out.1).2.2.2.1
             have hDb6 : Db < w6.heap.size := cell_lt z0
             have HD6 := hide3 (And.intro hd6 (And.intro hl6 hk6))
             clear ho hg hv hd6 hl6 hk6 hb6))
        all_goals (go_wp2_with fail; go_meet)
        all_goals (
          have h5 := H5.out
          have hlt5 := heap_lt h5.1
          have l1 : lab5 hb = .user (3 + k) := HD5.out.2 hb (.inl rfl)
          have l2 : lab5 mb = .user (3 + k) := HD5.out.2 mb (.inr rfl)
          exact ⟨rfl, lab6, _, _, ps, hb, mb, HPL.out, HD6.out.1, heap_on h5.1 l1 l2 (by omega) (DeskG.box HD5.out.1).2.2.2.2.2.2 HD6.out.2.2, (HD6.out.2.1 hb (by omega)).trans l1, (HD6.out.2.1 mb (by omega)).trans l2, by omega, by omega⟩)
      case rest =>
        obtain ⟨rfl, lab6, va6, vb6, ps6, hb, mb, hpl6, hd6, hh6, l1, l2, g1, g2⟩ := hcut
        obtain ⟨ab, cb, hvb, _⟩ := row_shape (DeskG.rb hd6)
        rw [List.length_map] at hvb
        subst hvb
        obtain ⟨_, b1', hDb6, _, f1', _, _⟩ := DeskG.box hd6
        have HD6 := hide3 hd6
        have HM6 := hide3 (And.intro hh6 (And.intro l1 (And.intro l2 (And.intro g1 g2))))
        have HPL6 := hide3 hpl6
        have hw6 : w.heap.size ≤ wc.heap.size := (DeskG.bel hd6).size
        have hps6 : ps6.length ≤ 4 := DeskG.few hd6
        have hlo : w.heap.size ≤ wc.drew.heap.size := hw6
        clear hd6 hh6 l1 l2 g1 g2 hpl6 b0 b1 HD
        go_upto_region 8 with fail
        go_region_law (first
          | (go_simp
             go_at_call 7
             refine (hNew_any _ w.heap.size (k : Int) hlo).mono ?_
             rintro e w7 ⟨rfl, hr7, B7⟩
             have Bb : Below wc.heap.size wc w7 := by first | exact (Below.refl _ wc).drew.trans B7 | exact B7
             have x1 : w7.cell? ⟨Db, 1, none⟩ = _ := (Bb.cell (p := ⟨Db, 1, none⟩) hDb6).trans b1'
             obtain ⟨lab7, hd7, hl7, hl7'⟩ := DeskG.newM HD6.out (fun j => j = wc.heap.size) Bb (fun j hj => by omega)
             have HD7 := hide3 (And.intro hd7 (And.intro hl7 hl7'))
             have HR7 : Hid (RefH w7 w.heap.size wc.heap.size (.slice none 0 0) (k : Int) 0 []) := hr7
             have HB7 := hide3 Bb
             have hw7 : w.heap.size ≤ w7.heap.size := Nat.le_trans hw6 Bb.size
             have hDb7 : Db < w7.heap.size := Nat.lt_of_lt_of_le hDb6 Bb.size
             clear hr7 B7 Bb hd7 hl7 hl7')
          | (refine step_row rfl (.tmp 33) (.tmp 36) 30 rfl _ w.heap.size 37 ib _ Try.underlying30 hib ib0 ib1 rfl (.slice ab ps6.length cb) (ps6.map ptrB).length (ps6.map ptrB) (by first | rfl | simp [Act.eval, Act.put]) (World.ownsRow.alloc (DeskG.rb HD7.out.1) _) (some ⟨w7.heap.size, 0, none⟩) 1 1 [.pointer (some ⟨wc.heap.size, 0, none⟩)] (by first | rfl | simp [Act.eval, Act.put]) rfl (.inr (one_new w7 _ _)) (by intro y hy; simp at hy; subst hy; rfl) (by unfold maxLen; simp; omega) (by rw [ib2]; simp; omega) (by simp; omega) ?_
             intro vb' w8 ho hg hv
             obtain ⟨a8, c8, hvb', _⟩ := row_shape ho
             rw [List.length_map] at hvb'
             subst hvb'
             obtain ⟨lab8, hd8, hl8, hk8, hb8⟩ := DeskG.pushB HD7.out.1 _ ho (by first | exact hg | simpa using hg) (by first | exact hv | simpa using hv)
             have z0 : w8.cell? ⟨Db, 1, none⟩ = _ := (World.cell?_of_block hb8).trans x1
             have z1 : w8.frozen? ⟨Db, 1, none⟩ = false := (World.frozen?_of_block hb8).trans (DeskG.box HD7.out.1).2.2.2.2.1
             have hDb8 : Db < w8.heap.size := cell_lt z0
             have HD8 := hide3 (And.intro hd8 (And.intro hl8 hk8))
             clear ho hg hv hd8 hl8 hk8 hb8))
        all_goals (
          have HF : Hid (∃ (lab : Nat → Tag) (va vb : Value) (ps : List (Nat × Hpr)), ps.length = k + 1 ∧ DeskS w (w8.setCell ⟨Db, 1, none⟩ (.slice a8 (ps6.length + 1) c8)) lab Db va vb 0 [] ps (3 + (k + 1)) 0) := by
            obtain ⟨hh6, l1, l2, g1, g2⟩ := HM6.out
            have hlt6 := heap_lt hh6
            have hz7 := HB7.out.size
            have m1 : lab7 hb = .user (3 + k) := (HD7.out.2.2 hb hlt6.1).trans l1
            have m2 : lab7 mb = .user (3 + k) := (HD7.out.2.2 mb hlt6.2).trans l2
            have m3 : lab7 wc.heap.size = .user (3 + k) := HD7.out.2.1 _ rfl
            have bx := (DeskG.box HD7.out.1).2.2.2.2.2.2
            have h7 : HeapAtT w7 hb (.slice none 0 0) mb f #[] 0 [] := hh6.kept (Kept.ofBelow (P := fun _ => False) HB7.out) (fun _ _ h => h)
            have h8 := heap_on h7 m1 m2 (i := 2) (by omega) bx HD8.out.2.2
            have r8 := ref_on HR7.out m3 (i := 2) (by omega) bx HD8.out.2.2
            have hlt7 := heap_lt h7
            have hr7 := (Array.getElem?_eq_some_iff.1 HR7.out.box).1
            refine ⟨lab8, _, _, ps6 ++ [(3 + k, ⟨hb, mb, .slice none 0 0, f, (k : Int), 0, [], wc.heap.size, .slice none 0 0, []⟩)], by simp [HPL6.out], DeskG.add HD8.out.1 (by omega) (pair_new HG.out h8 r8 g1 g2) (fun j hj => ?_) (by rw [HPL6.out]; omega) ⟨Nat.le_refl _, Int.le_refl _⟩⟩
            rcases hj with (e | hj | e) | (e | hj)
            · rw [show j = hb from e]
              exact (HD8.out.2.1 hb (by omega)).trans m1
            · cases hj
            · rw [show j = mb from e]
              exact (HD8.out.2.1 mb (by omega)).trans m2
            · rw [show j = wc.heap.size from e]
              exact (HD8.out.2.1 wc.heap.size (by omega)).trans m3
            · cases hj
          go_wp2_with fail
          go_roundw)
        all_goals try (simp [intOf]; omega)
        all_goals (
          obtain ⟨lab9, va9, vb9, ps9, hp9, hd9⟩ := HF.out
          exact ⟨k + 1, lab9, va9, vb9, ps9, by omega, by go_num, hp9, hd9⟩)
    · have hki : ¬ (k : Int) < 3 := by omega
      have hk3 : k = 3 := by omega
      have hdk : Dk w wr Db 0 3 := ⟨lab, va, vb, 0, [], ps, 3 + k, hd, by omega, by omega⟩
      have HD := hide3 hdk
      clear hd hdk HPL
      have HB : Hid (Below w.heap.size w wr) := by
        obtain ⟨_, _, _, _, _, _, _, h1, _⟩ := HD.out
        exact DeskG.bel h1
      go_wp2_with fail
      go_loopw [43] (fun i wr => ∃ (k : Nat), k ≤ acts.length ∧ i = .int .i64 k ∧ Dk w wr Db k 3) (fun i _ => acts.length - (intOf i).toNat)
      case atStart => exact ⟨0, Nat.zero_le _, rfl, HD.out⟩
      case round =>
        obtain ⟨k, hk, rfl, hd⟩ := hrel
        by_cases hkn : k < acts.length
        · have t1 : (k : Int) < (acts.length : Int) := by omega
          obtain ⟨x, hx⟩ : ∃ x, acts[k]? = some x := ⟨_, List.getElem?_eq_getElem hkn⟩
          obtain ⟨ba, oa, rfl, hba, hca⟩ : ∃ b o, a = some ⟨b, o, none⟩ ∧ b < w.heap.size ∧ ∀ (j : Nat) x, acts[j]? = some x → ∀ k u, (actCells x)[k]? = some u → w.cell? ⟨b, o + j * 5 + k, none⟩ = some u := by
            rcases HA.out.2.2.2 with h | h
            · rw [h] at hx; simp at hx
            · exact h
          have hfit := HA.out.2.2.1 x (List.mem_of_getElem? hx)
          obtain ⟨x0, x1, x2, x3, x4⟩ := x
          have hbel : Below w.heap.size w wr := by
            obtain ⟨_, _, _, _, _, _, _, h1, _⟩ := hd
            exact DeskG.bel h1
          have cell : ∀ j u, (actCells (x0, x1, x2, x3, x4))[j]? = some u → wr.cell? ⟨ba, oa + k * 5 + j, none⟩ = some u := fun j u hu => (hbel.cell (p := ⟨ba, oa + k * 5 + j, none⟩) hba).trans (hca k _ hx j u hu)
          have c0 := cell 0 _ rfl
          have c1 := cell 1 _ rfl
          have c2 := cell 2 _ rfl
          have c3 := cell 3 _ rfl
          have c4 := cell 4 _ rfl
          rw [Nat.add_zero] at c0
          have BX : Below wr.heap.size wr (wr.alloc (.cells #[.int .i64 x0, .int .i64 x1, .int .i64 x2, .int .i64 x3, .int .i64 x4] 40)) := (Below.refl _ wr).alloc (Nat.le_refl _) _
          have CA := hide3 (Dk.act (hd.later BX) (x0, x1, x2, x3, x4) hfit (by omega))
          unfold actV at CA
          simp only [] at CA
          have hbar : ba < wr.heap.size := cell_lt c0
          clear cell hca hx hfit hba hbel BX hd
          by_cases h3 : (k : Int) < 300
          · go_wp2_with (first
              | (go_at_call 8
                 refine CA.out.mono ?_
                 rintro e w5 ⟨rfl, hd5⟩
                 have CH := hide3 (Dk.holds hd5 (by omega))
                 clear hd5)
              | (go_at_call 9
                 refine CH.out.mono ?_
                 rintro e w6 ⟨rfl, hd6⟩
                 have H6 := hide3 hd6
                 clear hd6))
            go_roundw
            case rel => exact ⟨k + 1, by omega, by go_num, H6.out⟩
            case measure => simp [intOf]; omega
          · go_wp2_with (go_at_call 8
                         refine CA.out.mono ?_
                         rintro e w5 ⟨rfl, hd5⟩
                         have H6 := hide3 hd5
                         clear hd5)
            go_roundw
            case rel => exact ⟨k + 1, by omega, by go_num, H6.out⟩
            case measure => simp [intOf]; omega
        · have t1 : ¬ (k : Int) < (acts.length : Int) := by omega
          have C1 := hide3 (Dk.stands hd (by omega))
          clear hd
          go_wp2_with (first
            | (go_at_call 11
               refine C4.out.mono ?_
               rintro e w8 ⟨rfl, hd8⟩
               have H8 := hide3 hd8
               clear hd8)
            | (go_at_call 10
               refine C3.out.mono ?_
               rintro e w7 ⟨rfl, hd7⟩
               have C4 := hide3 (Dk.write hd7 (by omega))
               clear hd7)
            | (go_at_call 11
               refine C2.out.mono ?_
               rintro e w6 ⟨rfl, hd6⟩
               have C3 := hide3 (Dk.stands hd6 (by omega))
               clear hd6)
            | (go_at_call 10
               refine C1.out.mono ?_
               rintro e w5 ⟨rfl, hd5⟩
               have C2 := hide3 (Dk.write hd5 (by omega))
               clear hd5))
          go_ret
          refine ⟨rfl, ?_⟩
          obtain ⟨_, _, _, _, _, _, _, h1, _⟩ := H8.out
          exact DeskG.bel h1
end Go.Proofs.Ytkjjinccnaphpaa.heapScript
