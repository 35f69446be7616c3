/-
  The walk of the document's Dict.
-/
import Derived.Test.YtimgjbjibkljhaaRefList
import Derived.Test.YtimgjbjibkljhaaDictW
namespace Go.Proofs.Ytimgjbjibkljhaa
open Go.RowKit

def RefDictPost (ps : List BP) (w : World) (e : Ending) (w' : World) : Prop := ∃ a c, e = .returned (.tuple #[.slice a (if dictE (ps.map un) = 0 then dictL (ps.map un) else []).length c, .int .i64 (dictE (ps.map un))]) ∧ NewB w w' a c (if dictE (ps.map un) = 0 then dictL (ps.map un) else []) ∧ Below w.heap.size w w'
theorem dictL_take5 {ps : List BP} {k : Nat} {p : BP} (h : ps[k]? = some p) : dictL ((ps.take (k + 1)).map un) = dictL ((ps.take k).map un) ++ p.1.data.toList ++ [58, 32] ++ p.2.data.toList ++ [10] := by
  rw [dictL_take h]
  simp [cat]
theorem refDict_err {ps : List BP} {w w' : World} {er : Int} (h : dictE (ps.map un) = er) (hne : er ≠ 0) (hb : Below w.heap.size w w') : RefDictPost ps w (.returned (.tuple #[.slice none 0 0, .int .i64 er])) w' := by
  unfold RefDictPost
  rw [h, if_neg hne]
  exact ⟨none, 0, rfl, NewB.nil w w', hb⟩

set_option maxHeartbeats 4000000 in
set_option maxRecDepth 1000000 in
theorem refDict_any (a : Option Addr) (c : Nat) (ps : List BP) (w : World) (h : IsPairs w a c ps) (hb : (dictL (ps.map un)).length < 140737488355328) :
    Calls Try.prog 20 #[.slice a ps.length c] w (RefDictPost ps w) := by
  have HS : Hid (IsPairs w a c ps) := h
  have hlc : ps.length ≤ c := h.1
  have hlen : (ps.length : Int) ≤ 9223372036854775807 := by have := h.2.1; omega
  have HZ : Hid (∀ k p, ps[k]? = some p → (dictL ((ps.take k).map un)).length + p.1.size + p.2.size + 3 < 140737488355328) := by
    intro k p hx
    have h1 := dictL_le ps (k + 1)
    rw [dictL_take5 hx] at h1
    simp only [List.length_append, List.length_cons, List.length_nil] at h1
    have e1 : p.1.data.toList.length = p.1.size := by simp
    have e2 : p.2.data.toList.length = p.2.size := by simp
    omega
  clear h hb
  by_cases hbig : 256 < ps.length
  · go_enter Try.func20, Try.ntmps20
    go_wp2
    go_ret2
    exact refDict_err (er := 1) (by unfold dictE; rw [if_pos (by simpa using hbig)]) (by decide) (Below.refl _ _)
  have HBG : Hid (¬ 256 < ps.length) := hbig
  obtain ⟨w1, hw1⟩ : ∃ w1, w1 = w.alloc (.cells #[.int .u8 45, .int .u8 45, .int .u8 45, .int .u8 10] 5 (4, 5)) := ⟨_, rfl⟩
  have HW1 : Hid (w1 = w.alloc (.cells #[.int .u8 45, .int .u8 45, .int .u8 45, .int .u8 10] 5 (4, 5))) := hw1
  have B1 : Below w.heap.size w w1 := by rw [hw1]; exact (Below.refl _ w).alloc (Nat.le_refl _) _
  have P1 : w1.heap[w.heap.size]? = some (.cells (u8s headL).toArray 5 (4, 5)) := by rw [hw1]; exact heap_alloc_new _ _
  have HO1 : Hid (OwnC w1 w.heap.size (.slice (some ⟨w.heap.size, 0, none⟩) 4 4) headL) := const_own headL P1 (by decide) (by decide) (Nat.le_refl _)
  have HB1 : Hid (Below w.heap.size w w1) := B1
  have kc := conv_new w #[.int .u8 45, .int .u8 45, .int .u8 45, .int .u8 10] 4 4
  clear hw1 B1 P1
  go_enter Try.func20, Try.ntmps20
  go_wp2_with fail
  rw [← HW1.out]
  clear kc
  go_loopg [4, 16] ps.length (fun gk v i wr => ∃ k : Nat, i = .int .i64 k ∧ k ≤ ps.length ∧ ps.length - k ≤ gk ∧ Hid (OwnC wr w.heap.size v (dictL ((ps.take k).map un))) ∧ Hid (Below w.heap.size w wr) ∧ Hid (okF [] ((ps.take k).map un)))
  case atStart => exact ⟨0, rfl, Nat.zero_le _, Nat.le_refl _, HO1.out, HB1.out, trivial⟩
  case round =>
    clear HO1 HB1
    obtain ⟨k, rfl, hk, hgk, HO, HB, HA⟩ := hrel
    by_cases hlt : k < ps.length
    · obtain ⟨p, hp⟩ : ∃ p, ps[k]? = some p := ⟨_, List.getElem?_eq_getElem hlt⟩
      obtain ⟨b, o, rfl, hbw, c0, c1⟩ := (HS.out.below HB.out).at hp
      have HX : Hid (ps[k]? = some p) := hp
      have HLk : Hid ((dictL ((ps.take k).map un)).length + p.1.size + p.2.size + 3 < 140737488355328) := HZ.out k p hp
      have hp1 : p.1.size ≤ 4611686018427387904 := by have := HLk.out; omega
      have hp2 : p.2.size ≤ 4611686018427387904 := by have := HLk.out; omega
      clear hp
      obtain ⟨w2, hw2⟩ : ∃ w2, w2 = wr.alloc (.cells #[.string p.1, .string p.2] 41) := ⟨_, rfl⟩
      have HW2 : Hid (w2 = wr.alloc (.cells #[.string p.1, .string p.2] 41)) := hw2
      have B2 : Below wr.heap.size wr w2 := by rw [hw2]; exact (Below.refl _ wr).alloc (Nat.le_refl _) _
      have hbl : w2.heap[wr.heap.size]? = some (.cells #[.string p.1, .string p.2] 41 (0, 0)) := by rw [hw2]; exact heap_alloc_new _ _
      have m0 : w2.cell? ⟨wr.heap.size, 0, none⟩ = some (.string p.1) := by simp [World.cell?, hbl]
      have m1 : w2.cell? ⟨wr.heap.size, 1, none⟩ = some (.string p.2) := by simp [World.cell?, hbl]
      have hlt2 : wr.heap.size < w2.heap.size := cell_lt m0
      have HO2 : Hid (OwnC w2 w.heap.size u4 (dictL ((ps.take k).map un))) := HO.out.below B2
      have HB2 : Hid (Below w.heap.size w w2) := HB.out.trans (B2.mono HB.out.size)
      have hkc : k ≤ c := by omega
      have hkci : (k : Int) ≤ (c : Int) := by omega
      have hrs : w.heap.size ≤ wr.heap.size := HB.out.size
      clear hw2 B2 hbl HO HB
      obtain ⟨kb, hkb⟩ : ∃ kb, keyB p.1.data.toList = kb := ⟨_, rfl⟩
      have HK : Hid (keyB p.1.data.toList = kb) := hkb
      clear hkb
      cases kb
      · go_wp2_with (first
          | (go_at_call 37; rw [← HW2.out]; refine (key_any p.1 _ hp1).mono ?_; rintro e w' ⟨rfl, hw'⟩; obtain rfl := hw'.symm; rw [HK.out]))
        go_ret2
        have hc := check_key (ps := ps.take k) (p := p) HK.out
        exact refDict_err (er := 90) ((dict_stop HBG.out HX.out HA.out (by rw [hc]; decide)).trans hc) (by decide) HB2.out
      · go_upto_region 9 with (first
          | (go_at_call 37; rw [← HW2.out]; refine (key_any p.1 _ hp1).mono ?_; rintro e w' ⟨rfl, hw'⟩; obtain rfl := hw'.symm; rw [HK.out]))
        obtain ⟨pb, hpb⟩ : ∃ pb, wr.heap.size = pb := ⟨_, rfl⟩
        rw [hpb] at m0 m1 hlt2 ⊢
        clear hpb
        go_wp2_with fail
        go_loopg [29] k (fun gk i wq => ∃ j : Nat, i = .int .i64 j ∧ j ≤ k ∧ k - j ≤ gk ∧ Hid (Below w2.heap.size w2 wq) ∧ Hid (∀ i q, i < j → (ps.take k)[i]? = some q → q.1 ≠ p.1))
        case atStart => exact ⟨0, rfl, Nat.zero_le _, Nat.le_refl _, Below.refl _ _, fun i q hi => by omega⟩
        case round =>
          obtain ⟨j, rfl, hj, hgj, HBq, HN⟩ := hrel
          by_cases hjk : j < k
          · obtain ⟨q, hq⟩ : ∃ q, ps[j]? = some q := ⟨_, List.getElem?_eq_getElem (by omega)⟩
            obtain ⟨b', o', e', hbq, d0, d1⟩ := ((HS.out.below HB2.out).below HBq.out).at hq
            cases e'
            have n0 : wr.cell? ⟨pb, 0, none⟩ = some (.string p.1) := (HBq.out.cell (p := ⟨pb, 0, none⟩) hlt2).trans m0
            have hpbr : pb < wr.heap.size := cell_lt n0
            have HQ : Hid ((ps.take k)[j]? = some q) := by show (ps.take k)[j]? = _; rw [List.getElem?_take_of_lt hjk]; exact hq
            clear hq
            have HA2 : Hid (Below w2.heap.size w2 (wr.alloc (.cells #[.string q.1, .string q.2] 41))) := HBq.out.alloc HBq.out.size _
            by_cases he : q.1 = p.1
            · have hxx : (q.1.toList == p.1.toList) = true := by rw [he]; simp
              have HH : Hid (hasB (ps.take k) p.1 = true) := has_yes HQ.out he
              clear he
              go_wp2_with fail
              go_ret2
              have hc := check_has (ps := ps.take k) (p := p) HH.out
              exact refDict_err (er := 90) ((dict_stop HBG.out HX.out HA.out (by rw [hc]; decide)).trans hc) (by decide) (HB2.out.trans (HA2.out.mono HB2.out.size))
            · have hxx : (q.1.toList == p.1.toList) = false := by rw [beq_eq_false_iff_ne]; exact fun e => he (list_inj e)
              have HH : Hid (∀ i q, i < j + 1 → (ps.take k)[i]? = some q → q.1 ≠ p.1) := has_step HQ.out he HN.out
              clear he
              go_wp2_with fail
              go_roundg (k - (j + 1))
              case measure => omega
              case rel => exact ⟨j + 1, by go_num, by omega, Nat.le_refl _, HA2.out, HH.out⟩
          · have HH : Hid (hasB (ps.take k) p.1 = false) := has_end (k := j) (by simp; omega) HN.out
            have n0 : wr.cell? ⟨pb, 0, none⟩ = some (.string p.1) := (HBq.out.cell (p := ⟨pb, 0, none⟩) hlt2).trans m0
            have n1 : wr.cell? ⟨pb, 1, none⟩ = some (.string p.2) := (HBq.out.cell (p := ⟨pb, 1, none⟩) hlt2).trans m1
            have hpbr : pb < wr.heap.size := cell_lt n0
            have HO3 : Hid (OwnC wr w.heap.size u4 (dictL ((ps.take k).map un))) := HO2.out.below HBq.out
            have HB3 : Hid (Below w.heap.size w wr) := HB2.out.trans (HBq.out.mono HB2.out.size)
            have hsz3 : w.heap.size ≤ wr.heap.size := HB3.out.size
            obtain ⟨tb, htb⟩ : ∃ tb, textB p.2.data.toList = tb := ⟨_, rfl⟩
            have HT : Hid (textB p.2.data.toList = tb) := htb
            clear htb
            cases tb
            · go_wp2_with (first
                | (go_at_call 33; refine (plain_any p.2 _ hp2).mono ?_; rintro e w' ⟨rfl, hw'⟩; obtain rfl := hw'.symm; rw [HT.out]))
              go_ret2
              have hc := check_text (ps := ps.take k) (p := p) HK.out HH.out HT.out
              exact refDict_err (er := 91) ((dict_stop HBG.out HX.out HA.out (by rw [hc]; decide)).trans hc) (by decide) HB3.out
            · have HC : Hid (checkE ((ps.take k).map un) (un p) = 0) := check_fine HK.out HH.out HT.out
              have e1 : p.1.data.toList.length = p.1.size := by simp
              have e2 : p.2.data.toList.length = p.2.size := by simp
              go_upto_region 18 with (first
                | (go_at_call 33; refine (plain_any p.2 _ hp2).mono ?_; rintro e w' ⟨rfl, hw'⟩; obtain rfl := hw'.symm; rw [HT.out])
                | (at_builtin; go_must (refine wpList_appendS rfl (.tmp 43) (.tmp 45) 9 rfl w.heap.size _ (dictL ((ps.take k).map un)) rfl HO3.out _ p.1.data.toList rfl (u8s_src _ p.1) (by have := HLk.out; rw [e1]; omega) hsz3 ?_); intro v5 w5 o5 b5 k5))
              have x0 : ¬ Value.ownBlock u4 = some pb := HO3.out.ne (by simp [dictL, headL]) n0
              have n50 : w5.cell? ⟨pb, 0, none⟩ = some (.string p.1) := k5.cell x0 n0
              have n51 : w5.cell? ⟨pb, 1, none⟩ = some (.string p.2) := k5.cell x0 n1
              have HO5 : Hid (OwnC w5 w.heap.size v5 (dictL ((ps.take k).map un) ++ p.1.data.toList)) := o5
              have HB5 : Hid (Below w.heap.size w w5) := HB3.out.trans b5
              have hsz5 : w.heap.size ≤ w5.heap.size := HB5.out.size
              have hpb5 : pb < w5.heap.size := cell_lt n50
              clear o5 b5 k5 x0
              go_upto_region 19 with (at_builtin; go_must (refine wpList_appendS rfl (.tmp 47) _ 9 rfl w.heap.size _ (dictL ((ps.take k).map un) ++ p.1.data.toList) rfl HO5.out _ [58, 32] rfl (u8s_src _ ⟨#[58, 32]⟩) (by have := HLk.out; simp only [List.length_append, List.length_cons, List.length_nil, e1]; omega) hsz5 ?_); intro v6 w6 o6 b6 k6)
              have x0 : ¬ v5.ownBlock = some pb := HO5.out.ne (by simp [dictL, headL]) n50
              have n60 : w6.cell? ⟨pb, 0, none⟩ = some (.string p.1) := k6.cell x0 n50
              have n61 : w6.cell? ⟨pb, 1, none⟩ = some (.string p.2) := k6.cell x0 n51
              have HO6 : Hid (OwnC w6 w.heap.size v6 (dictL ((ps.take k).map un) ++ p.1.data.toList ++ [58, 32])) := o6
              have HB6 : Hid (Below w.heap.size w w6) := HB5.out.trans b6
              have hsz6 : w.heap.size ≤ w6.heap.size := HB6.out.size
              have hpb6 : pb < w6.heap.size := cell_lt n60
              clear o6 b6 k6 x0
              go_upto_region 20 with (at_builtin; go_must (refine wpList_appendS rfl (.tmp 49) (.tmp 51) 9 rfl w.heap.size _ (dictL ((ps.take k).map un) ++ p.1.data.toList ++ [58, 32]) rfl HO6.out _ p.2.data.toList rfl (u8s_src _ p.2) (by have := HLk.out; simp only [List.length_append, List.length_cons, List.length_nil, e1, e2]; omega) hsz6 ?_); intro v7 w7 o7 b7 _)
              have HO7 : Hid (OwnC w7 w.heap.size v7 (dictL ((ps.take k).map un) ++ p.1.data.toList ++ [58, 32] ++ p.2.data.toList)) := o7
              have HB7 : Hid (Below w.heap.size w w7) := HB6.out.trans b7
              have hsz7 : w.heap.size ≤ w7.heap.size := HB7.out.size
              clear o7 b7
              obtain ⟨w8, hw8⟩ : ∃ w8, w8 = w7.alloc (.cells #[.int .u8 10] 5) := ⟨_, rfl⟩
              have HW8 : Hid (w8 = w7.alloc (.cells #[.int .u8 10] 5)) := hw8
              have B8 : Below w7.heap.size w7 w8 := by rw [hw8]; exact (Below.refl _ w7).alloc (Nat.le_refl _) _
              have HT8 : Hid (Src Try.prog 1 31 (.slice (some ⟨w7.heap.size, 0, none⟩) 1 1) ([10] : List UInt8).length (u8s [10]) w8) := by show Src _ _ _ _ _ _ _; rw [hw8]; exact ten_src w7
              have HO8 : Hid (OwnC w8 w.heap.size v7 (dictL ((ps.take k).map un) ++ p.1.data.toList ++ [58, 32] ++ p.2.data.toList)) := HO7.out.below B8
              have HB8 : Hid (Below w.heap.size w w8) := HB7.out.trans (B8.mono HB7.out.size)
              have hsz8 : w.heap.size ≤ w8.heap.size := HB8.out.size
              clear hw8 B8
              go_wp2_with (at_builtin; go_must (rw [← HW8.out]; refine wpList_appendS rfl (.tmp 53) (.tmp 54) 31 rfl w.heap.size _ (dictL ((ps.take k).map un) ++ p.1.data.toList ++ [58, 32] ++ p.2.data.toList) rfl HO8.out _ [10] rfl HT8.out (by have := HLk.out; simp only [List.length_append, List.length_cons, List.length_nil, e1, e2]; omega) hsz8 ?_); intro v9 w9 o9 b9 _)
              have HO9 : Hid (OwnC w9 w.heap.size v9 (dictL ((ps.take (k + 1)).map un))) := by show OwnC _ _ _ _; rw [dictL_take5 HX.out]; exact o9
              have HB9 : Hid (Below w.heap.size w w9) := HB8.out.trans b9
              go_roundg (ps.length - (k + 1))
              case measure => omega
              case rel => exact ⟨k + 1, by go_num, by omega, Nat.le_refl _, HO9.out, HB9.out, ok_step HX.out HA.out HC.out⟩
    · have HE : Hid (dictE (ps.map un) = 0) := dict_fine HBG.out (by omega) HA.out
      go_wp2_with fail
      go_ret2
      have e := HE.out
      have o := HO.out
      rw [List.take_of_length_le (by omega)] at o
      obtain ⟨a9, c9, hv, hi, hn9⟩ := o.is
      unfold RefDictPost
      rw [e, if_pos rfl]
      exact ⟨a9, c9, by rw [← hv]; rfl, ⟨hi, hn9⟩, HB.out⟩
end Go.Proofs.Ytimgjbjibkljhaa
