/-
  The walk of the document's Parse of a line.
-/
import Derived.Test.YtfecbepleeoibaaDoorEight
import Derived.Deep.RegionWith
namespace Go.Proofs.YtfecbepleeoibaaDoor
open Go.RowKit Go.Lib

/-- The kind that was found among those below j. -/
def kindBelow (v : List UInt8) (j : Nat) : Nat := if kindL v < j then kindL v else 0
theorem kindBelow_hit (v : List UInt8) (j : Nat) (h1 : 1 ≤ j) (h2 : j ≤ 25) (h : verbOf j = v) : kindBelow v (j + 1) = j := by
  have : kindL v = j := by rw [← h]; exact kind_verb j (by omega) h1
  unfold kindBelow
  rw [this, if_pos (by omega)]
theorem kindBelow_miss (v : List UInt8) (j : Nat) (h1 : 1 ≤ j) (h : ¬ verbOf j = v) : kindBelow v (j + 1) = kindBelow v j := by
  have hne : kindL v ≠ j := fun e => h (by rw [← e]; exact kindL_verb v (by omega))
  unfold kindBelow
  by_cases hl : kindL v < j
  · rw [if_pos hl, if_pos (by omega)]
  · rw [if_neg hl, if_neg (by omega)]
theorem kindBelow_end (v : List UInt8) : kindBelow v 26 = kindL v := by
  unfold kindBelow
  rw [if_pos (by have := kindL_le v; omega)]
theorem kindBelow_one (v : List UInt8) : kindBelow v 1 = 0 := by
  unfold kindBelow
  split <;> omega

theorem not_taken {l : List Nat} (hn : l.Nodup) {j f : Nat} (hf : l[j]? = some f) : (l.take j).contains f = false := by
  obtain ⟨hj, e⟩ := List.getElem?_eq_some_iff.1 hf
  simp only [List.contains_eq_mem, decide_eq_false_iff_not]
  intro hm
  obtain ⟨i, hi, hie⟩ := List.mem_take_iff_getElem.1 hm
  have hij : i < j := by omega
  have := (List.pairwise_iff_getElem.1 hn) i j (by omega) hj hij
  exact this (by rw [hie, e])
theorem mem_join_le : ∀ (ws : List (List UInt8)) (x : List UInt8), x ∈ ws → x.length ≤ (Lib.join ws [32]).length := by
  intro ws x hx
  cases ws with
  | nil => cases hx
  | cons a r =>
    rw [Lib.join_cons, List.length_append]
    rcases List.mem_cons.1 hx with rfl | hx
    · omega
    · have : x.length ≤ (Lib.joinTail [32] r).length := by
        unfold Lib.joinTail
        induction r with
        | nil => cases hx
        | cons b r ih =>
          simp only [List.map_cons, List.flatten_cons, List.length_append, List.length_cons, List.length_nil]
          rcases List.mem_cons.1 hx with rfl | hx
          · omega
          · have := ih (by simp [hx]) hx
            omega
      omega
theorem fill_no {f : Nat} {x : List UInt8} {fs : List Nat} {xs : List (List UInt8)} {v : Nat → Int} {t : List UInt8} (h : setB f x = false) : fill (f :: fs) (x :: xs) v t = none := by
  unfold setB at h
  rw [fill]
  by_cases h6 : f = 6
  · rw [if_pos h6] at h ⊢
    rw [if_neg (by rw [h]; decide)]
  · rw [if_neg h6] at h ⊢
    rw [if_neg (by rw [h]; decide)]
theorem fill_yes (k : Nat) {d : List Nat} {f : Nat} (hf : 1 ≤ f ∧ f ≤ 6) (hd : d.contains f = false) {x : List UInt8} {fs : List Nat} {xs : List (List UInt8)} {v : Nat → Int} {t : List UInt8} (h4 : 0 ≤ v 4) (h : setB f x = true) :
    ∃ v' t', fill (f :: fs) (x :: xs) v t = fill fs xs v' t' ∧ setC (midC k d v t) f x = midC k (d ++ [f]) v' t' ∧ 0 ≤ v' 4 := by
  unfold setB at h
  rw [fill]
  by_cases h6 : f = 6
  · subst h6
    rw [if_pos rfl] at h
    exact ⟨v, x, by rw [if_pos rfl, if_pos h], mid_tube k d v t x, h4⟩
  · rw [if_neg h6] at h
    refine ⟨upd v f (parseV x (great f)), t, by rw [if_neg h6, if_pos h], mid_set k d v t f hf h6 hd x, ?_⟩
    unfold upd
    split
    · exact parseV_nonneg _ _
    · exact h4
abbrev cellsK (k : Int) : Array Value := #[.int .i64 k, .int .i64 0, .int .i64 0, .int .i64 0, .int .i64 0, .int .i64 0, .string ⟨#[]⟩, .slice none 0 0]

set_option maxHeartbeats 4000000 in
set_option maxRecDepth 1000000 in
theorem refParseV_any (s : ByteArray) (w : World) (hs : s.size ≤ 4398046511104) :
    Calls Tryd.prog 13 #[.string s] w fun e w' => e = .returned (.tuple #[cmdV (parseC s.data.toList) (.slice none 0 0), .int .i64 (parseE s.data.toList)]) ∧ Below w.heap.size w w' := by
  have HS := hide hs
  clear hs
  obtain ⟨cv, hcv⟩ : ∃ cv, parseC s.data.toList = cv := ⟨_, rfl⟩
  obtain ⟨ev, hev⟩ : ∃ ev, parseE s.data.toList = ev := ⟨_, rfl⟩
  have HCV := hide hcv
  have HEV := hide hev
  rw [hcv, hev]
  clear hcv hev
  go_enter Tryd.func13, Tryd.ntmps13
  go_wp2_with fail
  refine (refFirst_any s _ (by have := HS.out; unfold maxLen; omega)).mono ?_
  rintro e w1 ⟨⟨fw, rfl, hfw⟩, hw1⟩
  have hgr : w1.heap[w.heap.size]? = some (.cells (cellsK 0) 27 (0, 0)) := by rw [hw1]; exact two_a _ _ _
  have hgc : w1.heap[w.heap.size + 1]? = some (.cells (cellsK 0) 27 (0, 0)) := by rw [hw1]; exact heap_alloc2_new _ _ _
  have hs1 : w1.heap.size = w.heap.size + 2 := by rw [hw1]; simp
  have B1 : Below w.heap.size w w1 := by rw [hw1]; exact ((Below.refl _ w).alloc (Nat.le_refl _) _).alloc (by simp) _
  have hs1' : w.heap.size + 1 < w1.heap.size := by omega
  have HGR := hide hgr
  have HGC := hide hgc
  have HB1 := hide B1
  have HFW := hide hfw
  clear hw1 hgr hgc hs1 B1 hfw
  go_wp2_with fail
  go_loopg [6] 26 (fun gk i wx => ∃ j : Nat, i = .int .i64 j ∧ 1 ≤ j ∧ j ≤ 26 ∧ 26 - j ≤ gk ∧ Hid (Kept (fun b => b = w.heap.size + 1) w1 wx) ∧ Hid (wx.heap[w.heap.size + 1]? = some (.cells (cellsK (kindBelow fw.data.toList j)) 27 (0, 0))))
  case atStart => exact ⟨1, rfl, Nat.le_refl _, by omega, by omega, Kept.refl _ _, by rw [kindBelow_one]; exact HGC.out⟩
  case round =>
    obtain ⟨j, rfl, hj1, hj2, hgk, HKE, HCx⟩ := hrel
    have hszx := HKE.out.size
    by_cases hp : j ≤ 25
    · have i1 : (0 : Int) ≤ (j : Int) := by omega
      have i2 : (j : Int) < 26 := by omega
      by_cases hv : verbOf j = fw.data.toList
      · have HV := hide hv
        have hvb : (verbOf j == fw.toList) = true := by rw [ByteArray.toList_eq, hv]; simp
        clear hv
        go_wp2_with (first
          | (go_at_call 23
             refine (refVerbs_use _).mono ?_
             rintro e w2 ⟨rfl, B2, C2⟩
             have hc := C2 j (by omega)
             have HC2 := hide ((B2.block (w.heap.size + 1) (by omega)).trans HCx.out)
             have HKE2 : Hid (Kept (fun b => b = w.heap.size + 1) w1 w2) := HKE.out.trans (Kept.ofBelow B2)
             obtain ⟨c0, _, _, _, _, _, _, _, fz⟩ := eight HC2.out
             have f0 := fz 0
             clear fz B2 C2))
        go_roundg (26 - (j + 1))
        case measure => omega
        case rel =>
          refine ⟨j + 1, by go_num, by omega, by omega, Nat.le_refl _, HKE2.out.trans (Kept.setCell _ _ _ _ _ rfl), ?_⟩
          have h := (set_cells HC2.out 0 (.int .i64 j)).1
          rw [kindBelow_hit _ j hj1 hp HV.out]
          exact h
      · have HV := hide hv
        have hvb : (verbOf j == fw.toList) = false := by rw [beq_eq_false_iff_ne, ByteArray.toList_eq]; exact hv
        clear hv
        go_wp2_with (first
          | (go_at_call 23
             refine (refVerbs_use _).mono ?_
             rintro e w2 ⟨rfl, B2, C2⟩
             have hc := C2 j (by omega)
             have HC2 := hide ((B2.block (w.heap.size + 1) (by omega)).trans HCx.out)
             have HKE2 : Hid (Kept (fun b => b = w.heap.size + 1) w1 w2) := HKE.out.trans (Kept.ofBelow B2)
             clear B2 C2))
        go_roundg (26 - (j + 1))
        case measure => omega
        case rel =>
          refine ⟨j + 1, by go_num, by omega, by omega, Nat.le_refl _, HKE2.out, ?_⟩
          rw [kindBelow_miss _ j hj1 HV.out]
          exact HC2.out
    · obtain rfl : j = 26 := by omega
      rw [kindBelow_end] at HCx
      obtain ⟨k, hk⟩ : ∃ k, kindL fw.data.toList = k := ⟨_, rfl⟩
      rw [hk] at HCx
      have hkl : k ≤ 25 := by rw [← hk]; exact kindL_le _
      rw [HFW.out] at hk
      have HK := hide hk
      clear hk
      have HGRx := hide ((HKE.out.block w.heap.size (by omega) (by omega)).trans HGR.out)
      have HBx : Hid (Below w.heap.size w wr) := HB1.out.trans (HKE.out.below HB1.out.size (fun b hb e => by omega))
      clear HKE HGR HGC HB1
      have hwr : w.heap.size + 1 < wr.heap.size := by omega
      by_cases hk0 : k = 0
      · subst hk0
        obtain ⟨d0, _, _, _, _, _, _, _, _⟩ := eight HCx.out
        obtain ⟨c0, c1, c2, c3, c4, c5, c6, c7, fz⟩ := zero8 HGRx.out
        have f0 := fz 0; have f1 := fz 1; have f2 := fz 2; have f3 := fz 3; have f4 := fz 4; have f5 := fz 5; have f6 := fz 6; have f7 := fz 7
        clear fz
        go_wp2_with fail
        have hz := parse_unknown HK.out
        obtain ⟨g1, g2⟩ := set8 HGRx.out (.int .i64 0) (.int .i64 0) (.int .i64 0) (.int .i64 0) (.int .i64 0) (.int .i64 0) (.string ⟨#[]⟩) (.slice none 0 0)
        refine bodyPost_ret (results_cmd rfl _ _ w.heap.size _ rfl rfl g1) rfl ⟨?_, grown_below HBx.out g2 (Nat.le_refl _) (Nat.le_refl _)⟩
        rw [← HCV.out, ← HEV.out, hz.1, hz.2]
        rfl

      · have hkb : ((k : Int) == 0) = false := by rw [beq_eq_false_iff_ne]; omega
        have hk26 : k < 26 := by omega
        have HK0 : Hid (kindL (firstL s.data.toList) ≠ 0) := (by rw [HK.out]; exact hk0 : kindL (firstL s.data.toList) ≠ 0)
        obtain ⟨d0, _, _, _, _, _, _, _, _⟩ := eight HCx.out
        cases hsp : splitL s.data.toList with
        | none =>
          have HSP := hide hsp
          clear hsp
          go_wp2_with (first
            | (go_at_call 28
               refine (refSplit_any s _ HS.out).mono ?_
               rintro e w3 ⟨B3, h3⟩
               have he : e = .returned (.tuple #[.slice none 0 0, .bool false]) := split_no HSP.out h3
               subst he
               have HC3 := hide ((B3.block _ hwr).trans HCx.out)
               obtain ⟨e0, _, _, _, _, _, _, _, _⟩ := eight HC3.out
               have HGR3 := hide ((B3.block w.heap.size (by omega)).trans HGRx.out)
               have HB3 : Hid (Below w.heap.size w w3) := HBx.out.trans (B3.mono HBx.out.size)
               have hs3 : w.heap.size + 1 < w3.heap.size := Nat.lt_of_lt_of_le hwr B3.size
               clear h3 B3)
            | (go_at_call 29
               refine (refForm_any k hk26 _).mono ?_
               rintro e w4 ⟨rfl, B4⟩
               have HGR4 := hide ((B4.block w.heap.size (by omega)).trans HGR3.out)
               have HB4 : Hid (Below w.heap.size w w4) := HB3.out.trans (B4.mono HB3.out.size)
               obtain ⟨c0, c1, c2, c3, c4, c5, c6, c7, fz⟩ := zero8 HGR4.out
               have f0 := fz 0; have f1 := fz 1; have f2 := fz 2; have f3 := fz 3; have f4 := fz 4; have f5 := fz 5; have f6 := fz 6; have f7 := fz 7
               clear fz B4))
          have hz := parse_form HK0.out (by rw [HK.out]; exact read_split HSP.out)
          obtain ⟨g1, g2⟩ := set8 HGR4.out (.int .i64 0) (.int .i64 0) (.int .i64 0) (.int .i64 0) (.int .i64 0) (.int .i64 0) (.string ⟨#[]⟩) (.slice none 0 0)
          refine bodyPost_ret (results_cmd rfl _ _ w.heap.size _ rfl rfl g1) rfl ⟨?_, grown_below HB4.out g2 (Nat.le_refl _) (Nat.le_refl _)⟩
          rw [← HCV.out, ← HEV.out, hz.1, hz.2]
          rfl

        | some wl =>
          have HSP := hide hsp
          clear hsp
          obtain ⟨sf, hsf⟩ : ∃ sf : ByteArray, sf = ⟨(formL k).toArray⟩ := ⟨_, rfl⟩
          have hsz : sf.size = (formOf k).length := by rw [hsf]; show (formL k).length = _; unfold formL; rw [List.length_map]
          have hs4 : sf.size ≤ 4 := by rw [hsz]; exact form_len k hk26
          have HFM := hide fun w => refForm_any k hk26 w
          rw [← hsf] at HFM
          have HSL : Hid (∀ j f, (formOf k)[j]? = some f → ∀ (h : j < sf.size), sf[j] = letterOf f) := by
            intro j f hf h
            subst hsf
            show (formL k)[j]'h = letterOf f
            have : (formL k)[j]? = some (letterOf f) := by unfold formL; rw [List.getElem?_map, hf]; rfl
            exact (List.getElem?_eq_some_iff.1 this).2
          have HSZS := hide hsz
          clear hsf hsz
          by_cases hle : wl.length = sf.size + 1
          · have HLE := hide hle
            clear hle
            have hpb : (((sf.size : Int) + 1) != (1 + (sf.size : Int))) = false := by simp; omega
            obtain ⟨rr, hrr⟩ : ∃ rr, readL k s.data.toList = rr := ⟨_, rfl⟩
            have HRR := hide hrr
            clear hrr
            go_wp2_with (first
              | (go_at_call 28
                 refine (refSplit_any s _ HS.out).mono ?_
                 rintro e w3 ⟨B3, h3⟩
                 obtain ⟨ws, gw, capw, hws, rfl, hgw, how⟩ := split_yes HSP.out h3
                 have hlen : ws.length = sf.size + 1 := by rw [← HLE.out, hws, List.length_map]
                 have HL := hide hlen
                 rw [hlen]
                 have HWS := hide hws
                 have HW : Hid (∀ (i : Nat) x, ws[i]? = some x → w3.cell? ⟨gw, i, none⟩ = some (.string x)) := strs_cells how
                 have hg3 : gw < w3.heap.size := (how.lt gw rfl).2
                 have hgl : w.heap.size + 2 ≤ gw := by omega
                 have HC3 := hide ((B3.block _ hwr).trans HCx.out)
                 obtain ⟨e0, _, _, _, _, _, _, _, _⟩ := eight HC3.out
                 have HGR3 := hide ((B3.block w.heap.size (by omega)).trans HGRx.out)
                 have HB3 : Hid (Below w.heap.size w w3) := HBx.out.trans (B3.mono HBx.out.size)
                 have hs3 : w.heap.size + 1 < w3.heap.size := Nat.lt_of_lt_of_le hwr B3.size
                 clear h3 B3 how hws hlen hgw)
              | (go_at_call 29
                 refine (HFM.out _).mono ?_
                 rintro e w4 ⟨rfl, B4⟩
                 have HGR4 := hide ((B4.block w.heap.size (by omega)).trans HGR3.out)
                 have HB4 : Hid (Below w.heap.size w w4) := HB3.out.trans (B4.mono HB3.out.size)
                 have HC4 := hide ((B4.block _ hs3).trans HC3.out)
                 have HW4 : Hid (∀ (i : Nat) x, ws[i]? = some x → w4.cell? ⟨gw, i, none⟩ = some (.string x)) := fun i x hx => (B4.cell (p := ⟨gw, i, none⟩) hg3).trans (HW.out i x hx)
                 have hs4' : w.heap.size + 1 < w4.heap.size := Nat.lt_of_lt_of_le hs3 B4.size
                 have hg4 : gw < w4.heap.size := Nat.lt_of_lt_of_le hg3 B4.size
                 clear B4))
            have HF0 : Hid (fill ((formOf k).drop 0) ((ws.map (·.data.toList)).drop 1) zeros [] = rr) := by
              show fill ((formOf k).drop 0) ((ws.map (·.data.toList)).drop 1) zeros [] = rr
              rw [← HRR.out, List.drop_zero, ← HWS.out]
              exact (read_fill HSP.out (by have := split_count HSP.out; rw [HLE.out, HSZS.out] at this; omega)).symm
            have HWZ : Hid (∀ x ∈ ws, x.size ≤ 4398046511104) := by
              intro x hx
              have h1 := join_split _ _ HSP.out
              have h2 := mem_join_le (ws.map (·.data.toList)) x.data.toList (List.mem_map_of_mem hx)
              rw [← HWS.out, h1.2] at h2
              have h3 := HS.out
              have h4 : x.data.toList.length = x.size := by simp
              have h5 : s.data.toList.length = s.size := by simp
              omega
            clear HCx HC3 HGR3 HB3 HW HGRx HBx d0 hwr e0 hs3 hg3
            go_loopg [10] sf.size (fun gk i wx => ∃ (j : Nat) (v : Nat → Int) (tb : List UInt8), i = .int .i64 j ∧ j ≤ sf.size ∧ sf.size - j ≤ gk ∧ Hid (Kept (fun b => b = w.heap.size + 1) w4 wx) ∧
              Hid (wx.heap[w.heap.size + 1]? = some (.cells (cmdA (midC k ((formOf k).take j) v tb) (.slice none 0 0)) 27 (0, 0))) ∧ Hid (0 ≤ v 4) ∧ Hid (fill ((formOf k).drop j) ((ws.map (·.data.toList)).drop (j + 1)) v tb = rr))
            case atStart => exact ⟨0, zeros, [], rfl, by omega, by omega, Kept.refl _ _, HC4.out, (by decide : (0 : Int) ≤ zeros 4), HF0.out⟩
            case round =>
              rename_i wq _
              obtain ⟨j, v, tb, rfl, hj, hgk, HKE, HCm, HV4, HF⟩ := hrel
              have hszx := HKE.out.size
              have HBx : Hid (Below w.heap.size w wr) := HB4.out.trans (HKE.out.below HB4.out.size (fun b hb e => by omega))
              have HGRx := hide ((HKE.out.block w.heap.size (by omega) (by omega)).trans HGR4.out)
              have hwr : w.heap.size + 1 < wr.heap.size := by omega
              obtain ⟨c, hc⟩ : ∃ c, midC k ((formOf k).take j) v tb = c := ⟨_, rfl⟩
              rw [hc] at HCm
              have HMC := hide hc
              clear hc
              by_cases hlt : j < sf.size
              · obtain ⟨f, hf⟩ : ∃ f, (formOf k)[j]? = some f := ⟨_, List.getElem?_eq_getElem (by rw [← HSZS.out]; exact hlt)⟩
                obtain ⟨x, hx⟩ : ∃ x, ws[j + 1]? = some x := ⟨_, List.getElem?_eq_getElem (by rw [HL.out]; omega)⟩
                have hsj := HSL.out j f hf hlt
                have hfr := form_field k hk26 f (List.mem_of_getElem? hf)
                have hcx := HKE.out.cell (by omega) (HW4.out (j + 1) x hx)
                have HSTP : Hid (fill (f :: (formOf k).drop (j + 1)) (x.data.toList :: (ws.map (·.data.toList)).drop (j + 2)) v tb = rr) := by
                  have h := HF.out
                  rw [drop_at hf, drop_at (show (ws.map (·.data.toList))[j + 1]? = some x.data.toList by rw [List.getElem?_map, hx]; rfl)] at h
                  exact h
                have HTK : Hid ((formOf k).take (j + 1) = (formOf k).take j ++ [f]) := by
                  show (formOf k).take (j + 1) = (formOf k).take j ++ [f]
                  rw [List.take_add_one, hf]; rfl
                have HND : Hid (((formOf k).take j).contains f = false) := not_taken (form_nodup k hk26) hf
                have HSET := hide fun w => set_any c f hfr x (by have := HWZ.out x (List.mem_of_getElem? hx); unfold maxLen; omega) w
                obtain ⟨c', hc'⟩ : ∃ c', setC c f x.data.toList = c' := ⟨_, rfl⟩
                obtain ⟨ok, hok⟩ : ∃ ok, setB f x.data.toList = ok := ⟨_, rfl⟩
                rw [hc', hok] at HSET
                have HC' := hide hc'
                have HOK := hide hok
                obtain ⟨lv, hlv⟩ : ∃ lv : Int, ((letterOf f).toNat : Int) = lv := ⟨_, rfl⟩
                rw [hlv] at HSET
                have hsn : (sf[j].toNat : Int) = lv := by rw [hsj]; exact hlv
                clear hsj hlv hf hx hc' hok HF
                obtain ⟨q0, q1, q2, q3, q4, q5, q6⟩ := c
                obtain ⟨p0, p1, p2, p3, p4, p5, p6⟩ := c'
                unfold cmdV at HSET
                unfold cmdA at HCm
                obtain ⟨y0, y1, y2, y3, y4, y5, y6, y7, _⟩ := eight HCm.out
                have i1 : (0 : Int) ≤ (j : Int) := by omega
                have i2 : (j : Int) < (sf.size : Int) := by omega
                have i3 : (0 : Int) ≤ (j : Int) + 1 := by omega
                have i4 : (j : Int) + 1 < ((sf.size + 1 : Nat) : Int) := by omega
                have i5 : (j : Int) + 1 < (sf.size : Int) + 1 := by omega
                have i6 : IntKind.i64.wrap ((j : Int) + 1) = (j : Int) + 1 := by rw [IntKind.wrap_i64]; omega
                go_wp2_with fail
                go_region_with (first
                  | (go_at_call 30
                     refine (HSET.out _).mono ?_
                     rintro e w5 ⟨rfl, B5⟩
                     have HC5 := hide ((B5.block _ (by simpa using hwr)).trans HCm.out)
                     obtain ⟨d0, d1, d2, d3, d4, d5, d6, d7, gz⟩ := eight HC5.out
                     have g0 := gz 0; have g1 := gz 1; have g2 := gz 2; have g3 := gz 3; have g4 := gz 4; have g5 := gz 5; have g6 := gz 6; have g7 := gz 7
                     have HK5 : Hid (Kept (fun b => b = w.heap.size + 1) w4 w5) := HKE.out.trans (Kept.ofBelow (⟨B5.os, B5.tape, B5.output, B5.size, B5.block⟩ : Below wr.heap.size wr w5))
                     have HGR5 := hide ((B5.block w.heap.size (show w.heap.size < wr.heap.size by omega)).trans HGRx.out)
                     have HB5 : Hid (Below w.heap.size w w5) := HBx.out.trans ((⟨B5.os, B5.tape, B5.output, B5.size, B5.block⟩ : Below wr.heap.size wr w5).mono HBx.out.size)
                     clear gz B5))
                all_goals (
                  obtain ⟨a6, r6⟩ := eight_set HC5.out (.int .i64 p0) (.int .i64 p1) (.int .i64 p2) (.int .i64 p3) (.int .i64 p4) (.int .i64 p5) (.string ⟨p6.toArray⟩) (.slice none 0 0)
                  obtain ⟨w6, hw6⟩ : ∃ w6, w6 = ((((((((w5.setCell ⟨w.heap.size + 1, 0, none⟩ (.int .i64 p0)).setCell ⟨w.heap.size + 1, 1, none⟩ (.int .i64 p1)).setCell ⟨w.heap.size + 1, 2, none⟩ (.int .i64 p2)).setCell ⟨w.heap.size + 1, 3, none⟩ (.int .i64 p3)).setCell ⟨w.heap.size + 1, 4, none⟩ (.int .i64 p4)).setCell ⟨w.heap.size + 1, 5, none⟩ (.int .i64 p5)).setCell ⟨w.heap.size + 1, 6, none⟩ (.string ⟨p6.toArray⟩)).setCell ⟨w.heap.size + 1, 7, none⟩ (.slice none 0 0)) := ⟨_, rfl⟩
                  rw [← hw6] at a6 r6 ⊢
                  have HC6 := hide a6
                  have HK6 : Hid (Kept (fun b => b = w.heap.size + 1) w4 w6) := HK5.out.trans (Kept.ofGrown r6 (fun g e => (Option.some.inj e).symm))
                  have HGR6 := hide ((r6.block w.heap.size (by have := HK5.out.size; omega) (fun e => by have := Option.some.inj e; omega)).trans HGR5.out)
                  have HB6 : Hid (Below w.heap.size w w6) := grown_below HB5.out r6 (by omega) (Nat.le_refl _)
                  clear a6 r6 hw6 d0 d1 d2 d3 d4 d5 d6 d7 g0 g1 g2 g3 g4 g5 g6 g7 y0 y1 y2 y3 y4 y5 y6 y7 hcx
                  cases ok
                  · obtain ⟨c0, c1, c2, c3, c4, c5, c6, c7, fz⟩ := zero8 HGR6.out
                    have f0 := fz 0; have f1 := fz 1; have f2 := fz 2; have f3 := fz 3; have f4 := fz 4; have f5 := fz 5; have f6 := fz 6; have f7 := fz 7
                    clear fz
                    go_wp2_with fail
                    have hz := parse_form HK0.out (by rw [HK.out, HRR.out, ← HSTP.out]; exact fill_no HOK.out)
                    obtain ⟨g1, g2⟩ := set8 HGR6.out (.int .i64 0) (.int .i64 0) (.int .i64 0) (.int .i64 0) (.int .i64 0) (.int .i64 0) (.string ⟨#[]⟩) (.slice none 0 0)
                    refine bodyPost_ret (results_cmd rfl _ _ w.heap.size _ rfl rfl g1) rfl ⟨?_, grown_below HB6.out g2 (Nat.le_refl _) (Nat.le_refl _)⟩
                    rw [← HCV.out, ← HEV.out, hz.1, hz.2]
                    rfl
                  · go_wp2_with fail
                    go_roundg (sf.size - (j + 1))
                    case measure => omega
                    case rel =>
                      obtain ⟨v', t', e1, e2, e3⟩ := fill_yes k hfr HND.out HV4.out HOK.out (t := tb) (fs := (formOf k).drop (j + 1)) (xs := (ws.map (·.data.toList)).drop (j + 2))
                      refine ⟨j + 1, v', t', by go_num, by omega, Nat.le_refl _, HK6, ?_, e3, ?_⟩
                      · show w6.heap[w.heap.size + 1]? = _
                        rw [HTK.out, ← e2, HMC.out, HC'.out]
                        exact HC6.out
                      · exact e1.symm.trans HSTP.out)
              · obtain rfl : j = sf.size := by omega
                have HRS : Hid (rr = some (v, tb)) := by
                  have h := HF.out
                  rw [List.drop_of_length_le (by rw [← HSZS.out]; exact Nat.le_refl _), fill] at h
                  exact h.symm
                have hmid : midC k ((formOf k).take sf.size) v tb = mkC k v tb := by
                  rw [HSZS.out, List.take_length]
                  exact mid_end k hk26 v tb HV4.out
                have HMK := hide (hmid.symm.trans HMC.out)
                clear hmid
                obtain ⟨q0, q1, q2, q3, q4, q5, q6⟩ := c
                unfold cmdA at HCm
                obtain ⟨y0, y1, y2, y3, y4, y5, y6, y7, _⟩ := eight HCm.out
                obtain ⟨c0, c1, c2, c3, c4, c5, c6, c7, fz⟩ := zero8 HGRx.out
                have f0 := fz 0; have f1 := fz 1; have f2 := fz 2; have f3 := fz 3; have f4 := fz 4; have f5 := fz 5; have f6 := fz 6; have f7 := fz 7
                clear fz
                go_wp2_with fail
                have hrs := read_some (k := k) (l := s.data.toList) (HRR.out.trans HRS.out)
                have hz := parse_ok HK0.out (by rw [HK.out]; exact HRR.out.trans HRS.out)
                rw [HK.out, hrs.1, HMK.out] at hz
                obtain ⟨g1, g2⟩ := set8 HGRx.out (.int .i64 q0) (.int .i64 q1) (.int .i64 q2) (.int .i64 q3) (.int .i64 q4) (.int .i64 q5) (.string ⟨q6.toArray⟩) (.slice none 0 0)
                refine bodyPost_ret (results_cmd rfl _ _ w.heap.size _ rfl rfl g1) rfl ⟨?_, grown_below HBx.out g2 (Nat.le_refl _) (Nat.le_refl _)⟩
                rw [← HCV.out, ← HEV.out, hz.1, hz.2]
                rfl
          · have HLE := hide hle
            obtain ⟨nw, hnw⟩ : ∃ nw, wl.length = nw := ⟨_, rfl⟩
            have hpb : (((nw : Int)) != (1 + (sf.size : Int))) = true := by rw [← hnw]; simp; omega
            have HNW := hide hnw
            clear hle hnw
            go_wp2_with (first
              | (go_at_call 28
                 refine (refSplit_any s _ HS.out).mono ?_
                 rintro e w3 ⟨B3, h3⟩
                 obtain ⟨ws, gw, capw, hws, rfl, hgw, how⟩ := split_yes HSP.out h3
                 have hlen : ws.length = nw := by rw [← HNW.out, hws, List.length_map]
                 rw [hlen]
                 have HC3 := hide ((B3.block _ hwr).trans HCx.out)
                 obtain ⟨e0, _, _, _, _, _, _, _, _⟩ := eight HC3.out
                 have HGR3 := hide ((B3.block w.heap.size (by omega)).trans HGRx.out)
                 have HB3 : Hid (Below w.heap.size w w3) := HBx.out.trans (B3.mono HBx.out.size)
                 have hs3 : w.heap.size + 1 < w3.heap.size := Nat.lt_of_lt_of_le hwr B3.size
                 clear h3 B3 how hws hlen)
              | (go_at_call 29
                 refine (HFM.out _).mono ?_
                 rintro e w4 ⟨rfl, B4⟩
                 have HGR4 := hide ((B4.block w.heap.size (by omega)).trans HGR3.out)
                 have HB4 : Hid (Below w.heap.size w w4) := HB3.out.trans (B4.mono HB3.out.size)
                 obtain ⟨c0, c1, c2, c3, c4, c5, c6, c7, fz⟩ := zero8 HGR4.out
                 have f0 := fz 0; have f1 := fz 1; have f2 := fz 2; have f3 := fz 3; have f4 := fz 4; have f5 := fz 5; have f6 := fz 6; have f7 := fz 7
                 clear fz B4))
            have hz := parse_form HK0.out (by
              rw [HK.out]
              unfold readL
              rw [HSP.out]
              simp only []
              rw [if_neg (by rw [← HSZS.out]; exact HLE.out)])
            obtain ⟨g1, g2⟩ := set8 HGR4.out (.int .i64 0) (.int .i64 0) (.int .i64 0) (.int .i64 0) (.int .i64 0) (.int .i64 0) (.string ⟨#[]⟩) (.slice none 0 0)
            refine bodyPost_ret (results_cmd rfl _ _ w.heap.size _ rfl rfl g1) rfl ⟨?_, grown_below HB4.out g2 (Nat.le_refl _) (Nat.le_refl _)⟩
            rw [← HCV.out, ← HEV.out, hz.1, hz.2]
            rfl

end Go.Proofs.YtfecbepleeoibaaDoor
