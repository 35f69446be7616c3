/-
  The walk of read.
-/
import Derived.Test.YtfecbepleeoibaaDoorCommand
import Derived.Test.YtfecbepleeoibaaDoorValid
import Derived.Test.YtfecbepleeoibaaDoorPlainPrint
import Derived.Test.YtfecbepleeoibaaDoorParse
import Derived.Test.YtfecbepleeoibaaDoorSplit
import Derived.Laws.ResultCell
import Derived.Laws.Tables
namespace Go.Proofs.YtfecbepleeoibaaDoor
open Go.RowKit Go.Lib

def zero8A : Array Value := #[.int .i64 0, .int .i64 0, .int .i64 0, .int .i64 0, .int .i64 0, .int .i64 0, .string ⟨#[]⟩, .slice none 0 0]
theorem results_cmd {fn : Func} {p u : Tmp} (h : fn.results = #[.cell p 27, .tmp u]) (tmps : Array Value) (w : World) (g : Nat) (cs : Array Value) (hsz : cs.size = 8)
    (hp : tmps.getD p undef = .pointer (some ⟨g, 0, none⟩)) (hg : w.heap[g]? = some (.cells cs 27 (0, 0))) :
    (results fn tmps).run Tryd.prog w = .ok (.tuple #[.agg cs, tmps.getD u undef]) w := by
  have hl := run_loadVar_row (P := Tryd.prog) w g 27 27 cs (0, 0) _ hg Tryd.underlying27 rfl (by rw [hsz]; kernel_rfl)
  rw [results_cell_tmp h, hp]
  simp [asAddr, hl]
/-- What is read of a line, as a command. -/
def readC (k : Nat) (l : List UInt8) : Cm := match readL k l with
  | none => zeroC
  | some (v, t) => mkC k v t
theorem read_none {k : Nat} {l : List UInt8} (h : readL k l = none) : readC k l = zeroC ∧ (readL k l).isSome = false := by
  unfold readC
  rw [h]
  exact ⟨rfl, rfl⟩
theorem read_some {k : Nat} {l : List UInt8} {v : Nat → Int} {t : List UInt8} (h : readL k l = some (v, t)) : readC k l = mkC k v t ∧ (readL k l).isSome = true := by
  unfold readC
  rw [h]
  exact ⟨rfl, rfl⟩
theorem split_no {s : ByteArray} {w w' : World} {e : Ending} (h : splitL s.data.toList = none) (h3 : (splitL s.data.toList = none ∧ e = .returned (.tuple #[.slice none 0 0, .bool false])) ∨
    ∃ (ws : List ByteArray) (g cap : Nat), splitL s.data.toList = some (ws.map (·.data.toList)) ∧ e = .returned (.tuple #[.slice (some ⟨g, 0, none⟩) ws.length cap, .bool true]) ∧
      w.heap.size ≤ g ∧ w'.ownsRow w.heap.size 9 1 (.slice (some ⟨g, 0, none⟩) ws.length cap) ws.length (ws.map Value.string)) : e = .returned (.tuple #[.slice none 0 0, .bool false]) := by
  rcases h3 with h3 | ⟨ws, g, cap, hw, _⟩
  · exact h3.2
  · rw [h] at hw; cases hw
theorem drop_at {α : Type} {l : List α} {i : Nat} {a : α} (h : l[i]? = some a) : l.drop i = a :: l.drop (i + 1) := by
  obtain ⟨hi, e⟩ := List.getElem?_eq_some_iff.1 h
  rw [List.drop_eq_getElem_cons hi, e]
theorem great_bounds (f : Nat) : -9223372036854775808 ≤ great f ∧ great f ≤ 9223372036854775807 := by
  match f with
  | 0 => decide
  | 1 => decide
  | 2 => decide
  | 3 => decide
  | 4 => decide
  | 5 => decide
  | n + 6 => exact ⟨by show (-9223372036854775808 : Int) ≤ 0; decide, by show (0 : Int) ≤ 9223372036854775807; decide⟩
theorem split_yes {s : ByteArray} {w w' : World} {e : Ending} {wl : List (List UInt8)} (h : splitL s.data.toList = some wl) (h3 : (splitL s.data.toList = none ∧ e = .returned (.tuple #[.slice none 0 0, .bool false])) ∨
    ∃ (ws : List ByteArray) (g cap : Nat), splitL s.data.toList = some (ws.map (·.data.toList)) ∧ e = .returned (.tuple #[.slice (some ⟨g, 0, none⟩) ws.length cap, .bool true]) ∧
      w.heap.size ≤ g ∧ w'.ownsRow w.heap.size 9 1 (.slice (some ⟨g, 0, none⟩) ws.length cap) ws.length (ws.map Value.string)) :
    ∃ (ws : List ByteArray) (g cap : Nat), wl = ws.map (·.data.toList) ∧ e = .returned (.tuple #[.slice (some ⟨g, 0, none⟩) ws.length cap, .bool true]) ∧
      w.heap.size ≤ g ∧ w'.ownsRow w.heap.size 9 1 (.slice (some ⟨g, 0, none⟩) ws.length cap) ws.length (ws.map Value.string) := by
  rcases h3 with h3 | ⟨ws, g, cap, hw, he, hg, ho⟩
  · rw [h] at h3; cases h3.1
  · exact ⟨ws, g, cap, Option.some.inj (h.symm.trans hw), he, hg, ho⟩
theorem strs_cells {w : World} {B g c n : Nat} {ws : List ByteArray} (h : w.ownsRow B 9 1 (.slice (some ⟨g, 0, none⟩) n c) n (ws.map Value.string)) (i : Nat) (x : ByteArray) (hx : ws[i]? = some x) : w.cell? ⟨g, i, none⟩ = some (.string x) := by
  obtain ⟨a, cap, he, hc⟩ := own_form h
  cases he
  obtain ⟨g', e, _, _, h4⟩ := hc i (.string x) (by rw [List.getElem?_map, hx]; rfl)
  cases e
  exact h4
set_option maxHeartbeats 2000000 in
set_option maxRecDepth 1000000 in
theorem read_any (k : Nat) (hk : k < 26) (s : ByteArray) (w : World) (T : Tabs w) (hs : s.size ≤ 4398046511104) :
    Calls Tryd.prog 26 #[.int .i64 k, .string s] w fun e w' => e = .returned (.tuple #[cmdV (readC k s.data.toList) (.slice none 0 0), .bool (readL k s.data.toList).isSome]) ∧ Below w.heap.size w w' := by
  have HT := hide T
  have HS := hide hs
  have HK := hide hk
  clear T hs
  obtain ⟨r, hr⟩ : ∃ r, readL k s.data.toList = r := ⟨_, rfl⟩
  have HR := hide hr
  obtain ⟨cv, hcv⟩ : ∃ cv, readC k s.data.toList = cv := ⟨_, rfl⟩
  obtain ⟨bv, hbv⟩ : ∃ bv, r.isSome = bv := ⟨_, rfl⟩
  have HCV := hide hcv
  have HBV := hide hbv
  rw [hcv, hr, hbv]
  clear hr hcv hbv
  go_enter Tryd.func26, Tryd.ntmps26
  go_wp2_with fail
  refine (fieldsOf_any k hk _ (HT.out.alloc _)).mono ?_
  rintro e w1 ⟨v1, rfl, B1, O1⟩
  have HT1 := hide ((HT.out.alloc _).below B1)
  have HG1 : Hid (w1.heap[w.heap.size]? = some (.cells zero8A 27 (0, 0))) := (B1.block w.heap.size (by simp)).trans (heap_alloc_new _ _)
  have HB1 : Hid (Below w.heap.size w w1) := ((Below.refl _ w).alloc (Nat.le_refl _) _).trans (B1.mono (by simp))
  have hs1 : w.heap.size + 1 ≤ w1.heap.size := by simpa using B1.size
  obtain ⟨a1, cap1, rfl, hc1⟩ := own_form O1
  have HC1 : Hid (∀ (i : Nat) x, (fldV (formOf k))[i]? = some x → ∃ g, a1 = some ⟨g, 0, none⟩ ∧ w.heap.size + 1 ≤ g ∧ g < w1.heap.size ∧ w1.cell? ⟨g, i, none⟩ = some x) := by
    intro i x hx
    obtain ⟨g, h1, h2, h3, h4⟩ := hc1 i x hx
    exact ⟨g, h1, by simpa using h2, h3, h4⟩
  obtain ⟨n, hn⟩ : ∃ n, (formOf k).length = n := ⟨_, rfl⟩
  have hn4 : n ≤ 4 := by rw [← hn]; exact form_len k hk
  have HN := hide hn
  rw [hn]
  clear hn B1 O1 hc1
  by_cases hc : countByte s.data.toList 32 = n
  · have HC := hide hc
    have hb : ((n : Int) != (n : Int)) = false := by simp
    clear hc
    cases hsp : splitL s.data.toList with
    | none =>
      have HSP := hide hsp
      clear hsp
      go_wp2_with (first
        | (go_at_call 41; refine (Tryd.strings_Count_one s 32 _).mono ?_; rintro e w2 ⟨rfl, rfl⟩; rw [HC.out])
        | (go_at_call 42
           refine (split_any s _ HS.out).mono ?_
           rintro e w3 ⟨B3, h3⟩
           have he : e = .returned (.tuple #[.slice none 0 0, .bool false]) := split_no HSP.out h3
           subst he
           have HG3 := hide ((B3.block w.heap.size (by omega)).trans HG1.out)
           have HB3 : Hid (Below w.heap.size w w3) := HB1.out.trans (B3.mono HB1.out.size)
           obtain ⟨c0, c1, c2, c3, c4, c5, c6, c7, fz⟩ := zero8 HG3.out
           have f0 := fz 0; have f1 := fz 1; have f2 := fz 2; have f3 := fz 3; have f4 := fz 4; have f5 := fz 5; have f6 := fz 6; have f7 := fz 7
           clear fz h3 B3))
      have hz := read_none (read_split (k := k) HSP.out)
      obtain ⟨g1, g2⟩ := set8 HG3.out (.int .i64 0) (.int .i64 0) (.int .i64 0) (.int .i64 0) (.int .i64 0) (.int .i64 0) (.string ⟨#[]⟩) (.slice none 0 0)
      refine bodyPost_ret (results_cmd rfl _ _ w.heap.size _ rfl rfl g1) rfl ⟨?_, grown_below HB3.out g2 (Nat.le_refl _) (Nat.le_refl _)⟩
      rw [← HCV.out, ← HBV.out, ← HR.out, hz.1, hz.2]
      rfl
    | some wl =>
      have HSP := hide hsp
      have hlw := split_count hsp
      rw [HC.out] at hlw
      clear hsp
      go_wp2_with (first
        | (go_at_call 41; refine (Tryd.strings_Count_one s 32 _).mono ?_; rintro e w2 ⟨rfl, rfl⟩; rw [HC.out])
        | (go_at_call 42
           refine (split_any s _ HS.out).mono ?_
           rintro e w3 ⟨B3, h3⟩
           obtain ⟨ws, gw, capw, hws, rfl, hgw, how⟩ := split_yes HSP.out h3
           have HG3 := hide ((B3.block w.heap.size (by omega)).trans HG1.out)
           have HB3 : Hid (Below w.heap.size w w3) := HB1.out.trans (B3.mono HB1.out.size)
           have HK3 := hide B3
           have HWS := hide hws
           have hlen : ws.length = n + 1 := by rw [← hlw, hws, List.length_map]
           have HL := hide hlen
           have HW : Hid (∀ (i : Nat) x, ws[i]? = some x → w3.cell? ⟨gw, i, none⟩ = some (.string x)) := strs_cells how
           have hg3 : gw < w3.heap.size := (how.lt gw rfl).2
           have hs3 := B3.size
           rw [hlen]
           clear h3 B3 hws how hlen))
      obtain ⟨w4, hw4⟩ : ∃ w4, w4 = w3.alloc (.cells #[.int .i64 0, .int .i64 0, .int .i64 0, .int .i64 0, .int .i64 0, .int .i64 0] 58) := ⟨_, rfl⟩
      rw [← hw4]
      have HV4 : Hid (w4.heap[w3.heap.size]? = some (.cells (numsA zeros) 58 (0, 0))) := by show w4.heap[w3.heap.size]? = _; rw [hw4]; exact heap_alloc_new _ _
      have B4 : Below w3.heap.size w3 w4 := by rw [hw4]; exact (Below.refl _ w3).alloc (Nat.le_refl _) _
      have hs4 : w4.heap.size = w3.heap.size + 1 := by rw [hw4]; simp
      have hs4' : w3.heap.size < w4.heap.size := by omega
      clear hs4 hw4
      have HB4 : Hid (Below w.heap.size w w4) := HB3.out.trans (B4.mono HB3.out.size)
      have HG4 := hide ((B4.block w.heap.size (by omega)).trans HG3.out)
      have HT4 := hide ((HT1.out.below HK3.out).below B4)
      have HW4 : Hid (∀ (i : Nat) x, ws[i]? = some x → w4.cell? ⟨gw, i, none⟩ = some (.string x)) := fun i x hx => (B4.cell (p := ⟨gw, i, none⟩) hg3).trans (HW.out i x hx)
      have HC4 : Hid (∀ (i : Nat) x, (fldV (formOf k))[i]? = some x → ∃ g, a1 = some ⟨g, 0, none⟩ ∧ g < w3.heap.size ∧ w4.cell? ⟨g, i, none⟩ = some x) := fun i x hx => by
        obtain ⟨g, h1, h2, h3, h4⟩ := HC1.out i x hx
        exact ⟨g, h1, by omega, (B4.cell (p := ⟨g, i, none⟩) (by simp only []; omega)).trans ((HK3.out.cell (p := ⟨g, i, none⟩) h3).trans h4)⟩
      have HF0 : Hid (fill ((formOf k).drop 0) ((ws.map (·.data.toList)).drop 1) zeros [] = r) := by
        show fill ((formOf k).drop 0) ((ws.map (·.data.toList)).drop 1) zeros [] = r
        rw [← HR.out, List.drop_zero, ← HWS.out]
        exact (read_fill HSP.out (by rw [HC.out, HN.out])).symm
      clear B4 HW HC1 HG3 HB3 HT1 HG1 HB1
      go_loopg [10, 32] n (fun gk t10 i wx => ∃ (j : Nat) (v : Nat → Int) (tb : ByteArray), i = .int .i64 j ∧ j ≤ n ∧ n - j ≤ gk ∧ t10 = .string tb ∧ tb.size ≤ 200 ∧ Kept (fun b => b = w3.heap.size) w4 wx ∧
        Hid (wx.heap[w3.heap.size]? = some (.cells (numsA v) 58 (0, 0))) ∧ Hid (fill ((formOf k).drop j) ((ws.map (·.data.toList)).drop (j + 1)) v tb.data.toList = r))
      case atStart => exact ⟨0, zeros, ⟨#[]⟩, rfl, by omega, by omega, rfl, by decide, Kept.refl _ _, HV4.out, HF0.out⟩
      case round =>
        obtain ⟨j, v, tb, rfl, hj, hgk, rfl, htb, hke, HVx, HFx⟩ := hrel
        have hszx := hke.size
        have HBx : Hid (Below w.heap.size w wr) := HB4.out.trans (hke.below HB4.out.size (fun b hb e => by omega))
        have HGx := hide ((hke.block w.heap.size (by omega) (by omega)).trans HG4.out)
        by_cases hlt : j < n
        · obtain ⟨f, hf⟩ : ∃ f, (formOf k)[j]? = some f := ⟨_, List.getElem?_eq_getElem (by rw [HN.out]; exact hlt)⟩
          obtain ⟨x, hx⟩ : ∃ x, ws[j + 1]? = some x := ⟨_, List.getElem?_eq_getElem (by rw [HL.out]; omega)⟩
          obtain ⟨g, rfl, hg2, hgc⟩ := HC4.out j (.int .u8 (f : Int)) (by unfold fldV; rw [List.getElem?_map, hf]; rfl)
          have hcw := hke.cell (by omega) hgc
          have hcx := hke.cell (by omega) (HW4.out (j + 1) x hx)
          have hfr := form_field k HK.out f (List.mem_of_getElem? hf)
          have HF : Hid (fill (f :: (formOf k).drop (j + 1)) (x.data.toList :: (ws.map (·.data.toList)).drop (j + 2)) v tb.data.toList = r) := by
            have h := HFx.out
            rw [drop_at hf, drop_at (show (ws.map (·.data.toList))[j + 1]? = some x.data.toList by rw [List.getElem?_map, hx]; rfl)] at h
            exact h
          have HTx := hide (HT4.out.kept hke (fun b hb e => by have := HT.out.lt.2.2; have : 2 < w.heap.size := this; omega))
          have e1 : (0 : Int) ≤ (j : Int) + 1 := by omega
          have e2 : (j : Int) + 1 < (n : Int) + 1 := by omega
          clear hf hx hgc HFx
          by_cases h6 : f = 6
          · subst h6
            cases hv : validB x.data.toList
            · have HV := hide hv
              clear hv
              obtain ⟨c0, c1, c2, c3, c4, c5, c6, c7, fz⟩ := zero8 HGx.out
              have f0 := fz 0; have f1 := fz 1; have f2 := fz 2; have f3 := fz 3; have f4 := fz 4; have f5 := fz 5; have f6 := fz 6; have f7 := fz 7
              clear fz
              go_wp2_with (go_at_call 43; refine (valid_any _ _).mono ?_; rintro e w5 ⟨rfl, hw5⟩; rw [HV.out]; have hw5 := hw5.symm; subst hw5)
              have hz := read_none (k := k) (l := s.data.toList) (by rw [HR.out, ← HF.out]; exact (by rw [fill, if_pos rfl, if_neg (by rw [HV.out]; decide)]))
              obtain ⟨g1, g2⟩ := set8 HGx.out (.int .i64 0) (.int .i64 0) (.int .i64 0) (.int .i64 0) (.int .i64 0) (.int .i64 0) (.string ⟨#[]⟩) (.slice none 0 0)
              refine bodyPost_ret (results_cmd rfl _ _ w.heap.size _ rfl rfl g1) rfl ⟨?_, grown_below HBx.out g2 (Nat.le_refl _) (Nat.le_refl _)⟩
              rw [← HCV.out, ← HBV.out, ← HR.out, hz.1, hz.2]
              rfl
            · have HV := hide hv
              clear hv
              go_wp2_with (go_at_call 43; refine (valid_any _ _).mono ?_; rintro e w5 ⟨rfl, hw5⟩; rw [HV.out]; have hw5 := hw5.symm; subst hw5)
              go_roundg (n - (j + 1))
              case measure => omega
              case rel => exact ⟨j + 1, v, x, by go_num, by omega, Nat.le_refl _, rfl, by have := valid_len HV.out; simpa using this, hke, HVx, by have := HF.out; rw [fill, if_pos rfl, if_pos HV.out] at this; exact this⟩
          · have hcg := HTx.out.great f (by omega)
            have i1 : (0 : Int) ≤ (f : Int) := by omega
            have i2 : (f : Int) < 6 := by omega
            have i3 : ((f : Int) == 6) = false := by rw [beq_eq_false_iff_ne]; omega
            have HGR := hide (great_bounds f)
            obtain ⟨pv, hpv⟩ : ∃ pv, parseV x.data.toList (great f) = pv := ⟨_, rfl⟩
            have HPV := hide hpv
            clear hpv
            cases hp : parseB x.data.toList (great f)
            · have HP := hide hp
              clear hp
              go_wp2_with (first
                | (go_at_call 44
                   refine (parse_any x (great f) _ HGR.out.1 HGR.out.2).mono ?_
                   rintro e w5 ⟨rfl, p, hw5⟩
                   rw [HPV.out, HP.out]
                   have B5 : Below wr.heap.size wr w5 := by rw [hw5]; exact (Below.refl _ wr).alloc (Nat.le_refl _) _
                   clear hw5
                   have HV5 := hide ((B5.block w3.heap.size (by omega)).trans HVx.out)
                   have hco := cells_at HV5.out (numsA_at _ f (by omega))
                   have hfz : w5.frozen? ⟨w3.heap.size, f, none⟩ = false := by have := HV5.out; simp [World.frozen?, this]
                   have a5 := set_cells HV5.out f (.int .i64 pv)
                   have HG5 : Hid ((w5.setCell ⟨w3.heap.size, f, none⟩ (.int .i64 pv)).heap[w.heap.size]? = some (.cells zero8A 27 (0, 0))) := (a5.2.block w.heap.size (by have := B5.size; omega) (fun e => by have := Option.some.inj e; omega)).trans ((B5.block w.heap.size (by omega)).trans HGx.out)
                   have HB5 : Hid (Below w.heap.size w (w5.setCell ⟨w3.heap.size, f, none⟩ (.int .i64 pv))) := grown_below (HBx.out.trans (B5.mono HBx.out.size)) a5.2 (by omega) (Nat.le_refl _)
                   obtain ⟨c0, c1, c2, c3, c4, c5, c6, c7, fz⟩ := zero8 HG5.out
                   have f0 := fz 0; have f1 := fz 1; have f2 := fz 2; have f3 := fz 3; have f4 := fz 4; have f5 := fz 5; have f6 := fz 6; have f7 := fz 7
                   clear fz a5 B5))
              have hz := read_none (k := k) (l := s.data.toList) (by rw [HR.out, ← HF.out]; exact (by rw [fill, if_neg h6, if_neg (by rw [HP.out]; decide)]))
              obtain ⟨g1, g2⟩ := set8 HG5.out (.int .i64 0) (.int .i64 0) (.int .i64 0) (.int .i64 0) (.int .i64 0) (.int .i64 0) (.string ⟨#[]⟩) (.slice none 0 0)
              refine bodyPost_ret (results_cmd rfl _ _ w.heap.size _ rfl rfl g1) rfl ⟨?_, grown_below HB5.out g2 (Nat.le_refl _) (Nat.le_refl _)⟩
              rw [← HCV.out, ← HBV.out, ← HR.out, hz.1, hz.2]
              rfl
            · have HP := hide hp
              clear hp
              go_wp2_with (first
                | (go_at_call 44
                   refine (parse_any x (great f) _ HGR.out.1 HGR.out.2).mono ?_
                   rintro e w5 ⟨rfl, p, hw5⟩
                   rw [HPV.out, HP.out]
                   have B5 : Below wr.heap.size wr w5 := by rw [hw5]; exact (Below.refl _ wr).alloc (Nat.le_refl _) _
                   clear hw5
                   have HV5 := hide ((B5.block w3.heap.size (by omega)).trans HVx.out)
                   have hco := cells_at HV5.out (numsA_at _ f (by omega))
                   have hfz : w5.frozen? ⟨w3.heap.size, f, none⟩ = false := by have := HV5.out; simp [World.frozen?, this]
                   have HB5 := hide B5
                   clear B5))
              go_roundg (n - (j + 1))
              case measure => omega
              case rel =>
                refine ⟨j + 1, upd v f pv, tb, by go_num, by omega, Nat.le_refl _, rfl, htb, (hke.trans (Kept.ofBelow HB5.out)).trans (Kept.setCell _ _ _ _ _ rfl), ?_, ?_⟩
                · have := (set_cells HV5.out f (.int .i64 pv)).1
                  rw [numsA_upd _ _ _ (by omega)] at this
                  exact this
                · have h := HF.out
                  rw [fill, if_neg h6, if_pos HP.out, HPV.out] at h
                  exact h
        · obtain rfl : j = n := by omega
          have hr : r = some (v, tb.data.toList) := by
            have h := HFx.out
            rw [List.drop_of_length_le (by rw [HN.out]; exact Nat.le_refl _), fill] at h
            exact h.symm
          have HRs := hide hr
          clear hr
          have x0 := cells_at HVx.out (numsA_at v 0 (by decide))
          have x1 := cells_at HVx.out (numsA_at v 1 (by decide))
          have x2 := cells_at HVx.out (numsA_at v 2 (by decide))
          have x3 := cells_at HVx.out (numsA_at v 3 (by decide))
          have x4 := cells_at HVx.out (numsA_at v 4 (by decide))
          have x5 := cells_at HVx.out (numsA_at v 5 (by decide))
          have hcm := command_any k v tb.data.toList wr (by have : tb.data.toList.length = tb.size := by simp
                                                            omega)
          obtain ⟨tt, htt⟩ : ∃ tt, (if k = 1 then max (v 4) 1 else v 4) = tt := ⟨_, rfl⟩
          have HTT := hide htt
          have hcc : cmdV (mkC k v tb.data.toList) (.slice none 0 0) = .agg #[.int .i64 k, .int .i64 (v 1), .int .i64 (v 2), .int .i64 (v 3), .int .i64 tt, .int .i64 (v 5), .string tb, .slice none 0 0] := by
            rw [← htt]; rfl
          rw [hcc] at hcm
          have HCC := hide hcc
          have HCM := hide hcm
          clear hcm hcc htt
          go_wp2_with (first
            | (go_at_call 45
               refine HCM.out.mono ?_
               rintro e w6 ⟨rfl, B6⟩
               have HG6 := hide ((B6.block w.heap.size (by omega)).trans HGx.out)
               have HB6 : Hid (Below w.heap.size w w6) := HBx.out.trans (B6.mono HBx.out.size)
               obtain ⟨c0, c1, c2, c3, c4, c5, c6, c7, fz⟩ := zero8 HG6.out
               have f0 := fz 0; have f1 := fz 1; have f2 := fz 2; have f3 := fz 3; have f4 := fz 4; have f5 := fz 5; have f6 := fz 6; have f7 := fz 7
               clear fz B6))
          have hz := read_some (k := k) (l := s.data.toList) (HR.out.trans HRs.out)
          obtain ⟨g1, g2⟩ := set8 HG6.out (.int .i64 k) (.int .i64 (v 1)) (.int .i64 (v 2)) (.int .i64 (v 3)) (.int .i64 tt) (.int .i64 (v 5)) (.string tb) (.slice none 0 0)
          refine bodyPost_ret (results_cmd rfl _ _ w.heap.size _ rfl rfl g1) rfl ⟨?_, grown_below HB6.out g2 (Nat.le_refl _) (Nat.le_refl _)⟩
          rw [← HCV.out, ← HBV.out, ← HR.out, hz.1, hz.2, HCC.out]
          rfl
  · have HC := hide hc
    have hb : ((countByte s.data.toList 32 : Int) != (n : Int)) = true := by simp; omega
    obtain ⟨m, hm⟩ : ∃ m : Nat, countByte s.data.toList 32 = m := ⟨_, rfl⟩
    rw [hm] at hb
    have HM := hide hm
    clear hc hm
    obtain ⟨c0, c1, c2, c3, c4, c5, c6, c7, fz⟩ := zero8 HG1.out
    have f0 := fz 0; have f1 := fz 1; have f2 := fz 2; have f3 := fz 3; have f4 := fz 4; have f5 := fz 5; have f6 := fz 6; have f7 := fz 7
    clear fz
    go_wp2_with (go_at_call 41; refine (Tryd.strings_Count_one s 32 _).mono ?_; rintro e w2 ⟨rfl, rfl⟩; rw [HM.out])
    have hz := read_none (read_count (k := k) (l := s.data.toList) (by rw [HN.out]; exact HC.out))
    obtain ⟨g1, g2⟩ := set8 HG1.out (.int .i64 0) (.int .i64 0) (.int .i64 0) (.int .i64 0) (.int .i64 0) (.int .i64 0) (.string ⟨#[]⟩) (.slice none 0 0)
    refine bodyPost_ret (results_cmd rfl _ _ w.heap.size _ rfl rfl g1) rfl ⟨?_, grown_below HB1.out g2 (Nat.le_refl _) (Nat.le_refl _)⟩
    rw [← HCV.out, ← HBV.out, ← HR.out, hz.1, hz.2]
    rfl
end Go.Proofs.YtfecbepleeoibaaDoor
