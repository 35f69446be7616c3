/-
  The document's right and Written.
-/
import Derived.Test.YtpfbfkjmdlogcaaDoorRemA
import Derived.Deep.RegionLaw
namespace Go.Proofs.YtpfbfkjmdlogcaaDoor
open Go.RowKit

set_option maxHeartbeats 1000000 in
set_option maxRecDepth 1000000 in
theorem refRight_any (n : Int) (w : World) : Calls Tryd.prog 59 #[.int .i64 n] w fun e w' => e = .returned (.bool (numOkB n true)) ∧ w' = w := by
  by_cases h1 : 0 ≤ n
  · by_cases h2 : n ≤ 4611686018427387903
    · have e : numOkB n true = true := by simp [numOkB, h1, h2, maxWord]
      rw [e]
      go_enter Tryd.func59, Tryd.ntmps59
      go_wp2_with fail
      go_ret
      exact ⟨rfl, rfl⟩
    · have e : numOkB n true = false := by simp [numOkB, h2, maxWord]
      rw [e]
      have h3 : decide (n ≤ 4611686018427387903) = false := by simpa using h2
      go_enter Tryd.func59, Tryd.ntmps59
      go_wp2_with fail
      go_ret
      exact ⟨by first | rfl | simp [h3], rfl⟩
  · have e : numOkB n true = false := by simp [numOkB, h1]
    rw [e]
    have h3 : decide (0 ≤ n) = false := by simpa using h1
    go_enter Tryd.func59, Tryd.ntmps59
    go_wp2_with fail
    go_ret
    exact ⟨by first | rfl | simp [h3], rfl⟩
theorem step_append8 {ops : Array Oper} {o : Oper} {a : Act} {K : Act → World → Prop} {Q : Exit → Act → World → Prop} {F : Prop} (hgd : o.guard = none) (s x : Operand)
    (ho : o.op = .call { callee := .builtin .append, args := #[s, x], argTypes := #[41, 41] })
    (w : World) (B : Nat) (v : Value) (l : List UInt8) (hs : a.eval s = v) (hown : Own w B v l) (ad : Option Addr) (c : Nat) (m : List UInt8) (hx : a.eval x = .slice ad m.length c) (hm : IsBytes w ad c m)
    (hb : l.length + m.length ≤ 140737488355328) (hbase : B ≤ w.heap.size)
    (h : ∀ v' w', Own w' B v' (l ++ m) → w.grownBy w' v.ownBlock → K (a.put o.dst v') w') :
    if Region.wanted o (yielded ops a.tmps) = true then Oper.wp Tryd.prog o a w K Q else F := by
  have hw : Region.wanted o (yielded ops a.tmps) = true := by simp [Region.wanted, hgd]
  rw [if_pos hw]
  obtain ⟨i, hi, hz0, hz1, hz2⟩ := info_parts info_u8
  obtain ⟨v', w', hr, h2, h3, h4, h5, h6⟩ := run_append_keeps (P := Tryd.prog) w B 41 o.type 5 i (.int .u8 0) Tryd.underlying41 hi hz0 hz1 rfl v l.length (u8s l) hown ad m.length c (u8s m) (u8s_length m) hm.src (u8s_one m) (by unfold maxLen; omega) (by rw [hz2]; omega) hbase
  unfold Oper.wp execOp
  simp only [ho, resolve, invoke, builtin, Sem.run_bind, Sem.run_pure, Result.andThen_ok, List.map_toArray, List.map_cons, List.map_nil, hs, hx, hr]
  refine h v' w' ?_ h3
  unfold Own
  rw [List.length_append, show u8s (l ++ m) = u8s l ++ u8s m by simp [u8s]]
  exact h2
set_option maxHeartbeats 4000000 in
set_option maxRecDepth 1000000 in
theorem refWritten_any (W : World) (a : Option Addr) (c : Nat) (l : List UInt8) (h : IsBytes W a c l) (hl : l.length ≤ 1048576) :
    Calls Tryd.prog 60 #[.slice a l.length c] W fun e w' => e = .returned (.string ⟨(dataW l).toArray⟩) ∧ Below W.heap.size W w' := by
  have HI := hide h
  have HO0 := hide (own_made W W.heap.size [61] #[.int .u8 61] rfl (Nat.le_refl _) (by decide))
  clear h
  go_enter Tryd.func60, Tryd.ntmps60
  go_wp2_with fail
  go_loopg [3, 5] l.length (fun gk v i wr => ∃ n : Nat, i = .int .i64 (n : Int) ∧ l.length - n ≤ gk ∧ n ≤ l.length ∧ Hid (Below W.heap.size W wr) ∧ Hid (Own wr W.heap.size v (61 :: (l.take n).flatMap shortP)))
  case atStart => exact ⟨0, rfl, by omega, by omega, (Below.refl _ W).alloc (Nat.le_refl _) _, HO0⟩
  case round =>
    obtain ⟨n, rfl, hgk, hn, HB, HO⟩ := hrel
    have hz := HB.out.size
    by_cases hlt : n < l.length
    · have tlt : (n : Int) < (l.length : Int) := by omega
      obtain ⟨y, hy⟩ : ∃ y, l[n]? = some y := ⟨_, List.getElem?_eq_getElem hlt⟩
      have HF : Hid (61 :: (l.take (n + 1)).flatMap shortP = (61 :: (l.take n).flatMap shortP) ++ shortP y) := by
        show _ = _
        rw [take_flat shortP l n y hy]
        rfl
      have hfl : (61 :: (l.take n).flatMap shortP).length ≤ 4194305 := by
        have h4 : ∀ (m : List UInt8), (m.flatMap shortP).length ≤ 4 * m.length := by
          intro m
          induction m with
          | nil => simp
          | cons z m ih =>
            have := short_len z
            simp only [List.flatMap_cons, List.length_append, List.length_cons]
            omega
        have h5 := h4 (l.take n)
        have h6 : (l.take n).length ≤ n := by rw [List.length_take]; omega
        simp only [List.length_cons]
        omega
      rcases HI.out.2.2 with h0 | ⟨bq, oq, e, hbq, hcq⟩
      · rw [h0] at hlt; simp at hlt
      subst e
      have cy : wr.cell? ⟨bq, oq + n, none⟩ = some (.int .u8 (y.toNat : Int)) := (HB.out.cell (p := ⟨bq, oq + n, none⟩) hbq).trans (hcq n y hy)
      clear hy hcq
      obtain ⟨m, hm⟩ : ∃ m : Nat, y.toNat = m := ⟨_, rfl⟩
      have HM := hide hm
      have hm8 : m < 256 := by rw [← hm]; exact UInt8.toNat_lt y
      have hk1 := mean_ne y
      rw [hm] at cy hk1
      by_cases hmk : meanK y < 4
      · obtain ⟨q1, q2⟩ := mean_eq y hmk
        rw [hm] at q1
        rw [q2] at HF
        obtain ⟨kk, hkk⟩ : ∃ kk, meanK y = kk := ⟨_, rfl⟩
        rw [hkk] at q1 HF hk1 hmk
        clear q2 hm hkk hk1
        rcases (show kk = 0 ∨ kk = 1 ∨ kk = 2 ∨ kk = 3 by omega) with rfl | rfl | rfl | rfl
        · obtain rfl : m = 32 := by simpa [letM] using q1.symm
          have al : Below wr.heap.size wr (wr.alloc (.cells #[.int .u8 92, .int .u8 115] 5)) := (Below.refl _ wr).alloc (Nat.le_refl _) _
          have O2 := hide (HO.out.below al)
          have B2 := hide (HB.out.trans (al.mono hz))
          have hzB : W.heap.size ≤ (wr.alloc (.cells #[.int .u8 92, .int .u8 115] 5)).heap.size := by rw [World.size_alloc]; omega
          clear al q1
          go_wp2_with (at_builtin
                       refine wpList_append8 rfl (.tmp 42) (.tmp 43) rfl W.heap.size u3 (61 :: (l.take n).flatMap shortP) rfl O2.out (some ⟨wr.heap.size, 0, none⟩) 2 [92, 115] rfl (one8 wr #[.int .u8 92, .int .u8 115] [92, 115] rfl (by simp)) (by simp only [List.length_cons, List.length_nil]; simp only [List.length_cons] at hfl; omega) hzB ?_
                       intro v5 w5 ho5 hg5 _ _ _
                       have O5 : Hid (Own w5 W.heap.size v5 (61 :: (l.take (n + 1)).flatMap shortP)) := by rw [HF.out]; exact ho5
                       have B5 : Hid (Below W.heap.size W w5) := B2.out.grown hg5 hzB (fun g e => (O2.out.lt g e).1)
                       clear ho5 hg5)
          go_roundg (l.length - (n + 1))
          case measure => omega
          case rel => exact ⟨n + 1, by go_num, Nat.le_refl _, hlt, B5, O5⟩
        · obtain rfl : m = 13 := by simpa [letM] using q1.symm
          have al : Below wr.heap.size wr (wr.alloc (.cells #[.int .u8 92, .int .u8 114] 5)) := (Below.refl _ wr).alloc (Nat.le_refl _) _
          have O2 := hide (HO.out.below al)
          have B2 := hide (HB.out.trans (al.mono hz))
          have hzB : W.heap.size ≤ (wr.alloc (.cells #[.int .u8 92, .int .u8 114] 5)).heap.size := by rw [World.size_alloc]; omega
          clear al q1
          go_wp2_with (at_builtin
                       refine wpList_append8 rfl (.tmp 47) (.tmp 48) rfl W.heap.size u3 (61 :: (l.take n).flatMap shortP) rfl O2.out (some ⟨wr.heap.size, 0, none⟩) 2 [92, 114] rfl (one8 wr #[.int .u8 92, .int .u8 114] [92, 114] rfl (by simp)) (by simp only [List.length_cons, List.length_nil]; simp only [List.length_cons] at hfl; omega) hzB ?_
                       intro v5 w5 ho5 hg5 _ _ _
                       have O5 : Hid (Own w5 W.heap.size v5 (61 :: (l.take (n + 1)).flatMap shortP)) := by rw [HF.out]; exact ho5
                       have B5 : Hid (Below W.heap.size W w5) := B2.out.grown hg5 hzB (fun g e => (O2.out.lt g e).1)
                       clear ho5 hg5)
          go_roundg (l.length - (n + 1))
          case measure => omega
          case rel => exact ⟨n + 1, by go_num, Nat.le_refl _, hlt, B5, O5⟩
        · obtain rfl : m = 10 := by simpa [letM] using q1.symm
          have al : Below wr.heap.size wr (wr.alloc (.cells #[.int .u8 92, .int .u8 110] 5)) := (Below.refl _ wr).alloc (Nat.le_refl _) _
          have O2 := hide (HO.out.below al)
          have B2 := hide (HB.out.trans (al.mono hz))
          have hzB : W.heap.size ≤ (wr.alloc (.cells #[.int .u8 92, .int .u8 110] 5)).heap.size := by rw [World.size_alloc]; omega
          clear al q1
          go_wp2_with (at_builtin
                       refine wpList_append8 rfl (.tmp 52) (.tmp 53) rfl W.heap.size u3 (61 :: (l.take n).flatMap shortP) rfl O2.out (some ⟨wr.heap.size, 0, none⟩) 2 [92, 110] rfl (one8 wr #[.int .u8 92, .int .u8 110] [92, 110] rfl (by simp)) (by simp only [List.length_cons, List.length_nil]; simp only [List.length_cons] at hfl; omega) hzB ?_
                       intro v5 w5 ho5 hg5 _ _ _
                       have O5 : Hid (Own w5 W.heap.size v5 (61 :: (l.take (n + 1)).flatMap shortP)) := by rw [HF.out]; exact ho5
                       have B5 : Hid (Below W.heap.size W w5) := B2.out.grown hg5 hzB (fun g e => (O2.out.lt g e).1)
                       clear ho5 hg5)
          go_roundg (l.length - (n + 1))
          case measure => omega
          case rel => exact ⟨n + 1, by go_num, Nat.le_refl _, hlt, B5, O5⟩
        · obtain rfl : m = 92 := by simpa [letM] using q1.symm
          have al : Below wr.heap.size wr (wr.alloc (.cells #[.int .u8 92, .int .u8 92] 5)) := (Below.refl _ wr).alloc (Nat.le_refl _) _
          have O2 := hide (HO.out.below al)
          have B2 := hide (HB.out.trans (al.mono hz))
          have hzB : W.heap.size ≤ (wr.alloc (.cells #[.int .u8 92, .int .u8 92] 5)).heap.size := by rw [World.size_alloc]; omega
          clear al q1
          go_wp2_with (at_builtin
                       refine wpList_append8 rfl (.tmp 57) (.tmp 58) rfl W.heap.size u3 (61 :: (l.take n).flatMap shortP) rfl O2.out (some ⟨wr.heap.size, 0, none⟩) 2 [92, 92] rfl (one8 wr #[.int .u8 92, .int .u8 92] [92, 92] rfl (by simp)) (by simp only [List.length_cons, List.length_nil]; simp only [List.length_cons] at hfl; omega) hzB ?_
                       intro v5 w5 ho5 hg5 _ _ _
                       have O5 : Hid (Own w5 W.heap.size v5 (61 :: (l.take (n + 1)).flatMap shortP)) := by rw [HF.out]; exact ho5
                       have B5 : Hid (Below W.heap.size W w5) := B2.out.grown hg5 hzB (fun g e => (O2.out.lt g e).1)
                       clear ho5 hg5)
          go_roundg (l.length - (n + 1))
          case measure => omega
          case rel => exact ⟨n + 1, by go_num, Nat.le_refl _, hlt, B5, O5⟩
      · have hno := mean_no y hmk
        rw [hm] at hno
        have n0 : ((m : Int) == 32) = false := by have := hk1 0 (by omega); rw [beq_eq_false_iff_ne]; simp only [letM] at this; omega
        have n1 : ((m : Int) == 13) = false := by have := hk1 1 (by omega); rw [beq_eq_false_iff_ne]; simp only [letM] at this; omega
        have n2 : ((m : Int) == 10) = false := by have := hk1 2 (by omega); rw [beq_eq_false_iff_ne]; simp only [letM] at this; omega
        have n3 : ((m : Int) == 92) = false := by have := hk1 3 (by omega); rw [beq_eq_false_iff_ne]; simp only [letM] at this; omega
        clear hm hk1
        by_cases hp : m < 33 ∨ 126 < m
        · rw [if_pos hp] at hno
          rw [hno] at HF
          have d1 : (0 : Int) ≤ (m : Int) / 16 := by omega
          have d2 : (m : Int) / 16 < 16 := by omega
          have d3 : (0 : Int) ≤ (m : Int) % 16 := by omega
          have d4 : (m : Int) % 16 < 16 := by omega
          have g1 := hex_at ((m : Int) / 16) (m / 16) (by omega) (by omega)
          have g2 := hex_at ((m : Int) % 16) (m % 16) (by omega) (by omega)
          have hw16 : IntKind.wrap .u8 ((m : Int) / 16) = (m : Int) / 16 := by rw [IntKind.wrap_u8]; omega
          have r1 : Int.tdiv (m : Int) 16 = (m : Int) / 16 := Int.tdiv_eq_ediv_of_nonneg (by omega)
          have r2 : Int.tmod (m : Int) 16 = (m : Int) % 16 := Int.tmod_eq_emod_of_nonneg (by omega)
          have al : Below wr.heap.size wr (wr.alloc (.cells #[.int .u8 92, .int .u8 120, .int .u8 ((hexD (m / 16)).toNat : Int), .int .u8 ((hexD (m % 16)).toNat : Int)] 5)) := (Below.refl _ wr).alloc (Nat.le_refl _) _
          have O2 := hide (HO.out.below al)
          have B2 := hide (HB.out.trans (al.mono hz))
          have hzB : W.heap.size ≤ (wr.alloc (.cells #[.int .u8 92, .int .u8 120, .int .u8 ((hexD (m / 16)).toNat : Int), .int .u8 ((hexD (m % 16)).toNat : Int)] 5)).heap.size := by rw [World.size_alloc]; omega
          have I4 := hide (one8 wr #[.int .u8 92, .int .u8 120, .int .u8 ((hexD (m / 16)).toNat : Int), .int .u8 ((hexD (m % 16)).toNat : Int)] [92, 120, hexD (m / 16), hexD (m % 16)] rfl (by simp))
          have HG : Hid (m < 33 ∨ 33 ≤ m ∧ 126 < m) := by show _ ∨ _; omega
          obtain ⟨bg, hbg⟩ : ∃ bg : Bool, (decide ((33 : Int) ≤ (m : Int)) && decide ((m : Int) ≤ 126)) = bg := ⟨_, rfl⟩
          have hbg2 : bg = false := by rw [← hbg]; rcases hp with h | h <;> simp <;> omega
          subst hbg2
          clear al hno hbg
          rcases HG.out with h33 | ⟨h33, h126⟩
          · have k1 : decide ((33 : Int) ≤ (m : Int)) = false := by simp; omega
            go_wp2_with fail
            go_region_law (refine step_append8 rfl (.tmp 29) (.tmp 38) rfl _ W.heap.size u3 (61 :: (l.take n).flatMap shortP) (by first | rfl | simp [Act.eval, Act.put]) (by first | exact O2.out | exact O2.out.below (Below.refl _ _).drew) (some ⟨wr.heap.size, 0, none⟩) 4 [92, 120, hexD (m / 16), hexD (m % 16)] (by first | rfl | simp [Act.eval, Act.put]) (by first | exact I4.out | exact I4.out.drew) (by simp only [List.length_cons, List.length_nil]; simp only [List.length_cons] at hfl; omega) (by first | exact hzB | (simp; omega)) ?_
                           intro v5 w5 ho5 hg5
                           have O5 : Hid (Own w5 W.heap.size v5 (61 :: (l.take (n + 1)).flatMap shortP)) := by rw [HF.out]; exact ho5
                           have B5 : Hid (Below W.heap.size W w5) := B2.out.grown (by first | exact hg5 | exact grown_of_drew hg5) hzB (fun g e => (O2.out.lt g e).1)
                           clear ho5 hg5)
            all_goals (
              go_wp2_with fail
              go_roundg (l.length - (n + 1))
              case measure => omega
              case rel => exact ⟨n + 1, by go_num, Nat.le_refl _, hlt, B5, O5⟩)
          · have k1 : (33 : Int) ≤ (m : Int) := by omega
            have k2 : decide ((m : Int) ≤ 126) = false := by simp; omega
            go_wp2_with fail
            go_region_law (refine step_append8 rfl (.tmp 29) (.tmp 38) rfl _ W.heap.size u3 (61 :: (l.take n).flatMap shortP) (by first | rfl | simp [Act.eval, Act.put]) (by first | exact O2.out | exact O2.out.below (Below.refl _ _).drew) (some ⟨wr.heap.size, 0, none⟩) 4 [92, 120, hexD (m / 16), hexD (m % 16)] (by first | rfl | simp [Act.eval, Act.put]) (by first | exact I4.out | exact I4.out.drew) (by simp only [List.length_cons, List.length_nil]; simp only [List.length_cons] at hfl; omega) (by first | exact hzB | (simp; omega)) ?_
                           intro v5 w5 ho5 hg5
                           have O5 : Hid (Own w5 W.heap.size v5 (61 :: (l.take (n + 1)).flatMap shortP)) := by rw [HF.out]; exact ho5
                           have B5 : Hid (Below W.heap.size W w5) := B2.out.grown (by first | exact hg5 | exact grown_of_drew hg5) hzB (fun g e => (O2.out.lt g e).1)
                           clear ho5 hg5)
            all_goals (
              go_wp2_with fail
              go_roundg (l.length - (n + 1))
              case measure => omega
              case rel => exact ⟨n + 1, by go_num, Nat.le_refl _, hlt, B5, O5⟩)
        · rw [if_neg hp] at hno
          rw [hno] at HF
          have t1 : (33 : Int) ≤ (m : Int) := by omega
          have t2 : (m : Int) ≤ 126 := by omega
          have al : Below wr.heap.size wr (wr.alloc (.cells #[.int .u8 (m : Int)] 5)) := (Below.refl _ wr).alloc (Nat.le_refl _) _
          have O2 := hide (HO.out.below al)
          have B2 := hide (HB.out.trans (al.mono hz))
          have hzB : W.heap.size ≤ (wr.alloc (.cells #[.int .u8 (m : Int)] 5)).heap.size := by rw [World.size_alloc]; omega
          clear al hno
          go_wp2_with (at_builtin
                       refine wpList_append8 rfl (.tmp 25) (.tmp 27) rfl W.heap.size u3 (61 :: (l.take n).flatMap shortP) rfl O2.out (some ⟨wr.heap.size, 0, none⟩) 1 [y] rfl (one8 wr #[.int .u8 (m : Int)] [y] (by rw [← HM.out]; rfl) (by simp)) (by simp only [List.length_cons, List.length_nil]; simp only [List.length_cons] at hfl; omega) hzB ?_
                       intro v5 w5 ho5 hg5 _ _ _
                       have O5 : Hid (Own w5 W.heap.size v5 (61 :: (l.take (n + 1)).flatMap shortP)) := by rw [HF.out]; exact ho5
                       have B5 : Hid (Below W.heap.size W w5) := B2.out.grown hg5 hzB (fun g e => (O2.out.lt g e).1)
                       clear ho5 hg5)
          go_roundg (l.length - (n + 1))
          case measure => omega
          case rel => exact ⟨n + 1, by go_num, Nat.le_refl _, hlt, B5, O5⟩
    · have tlt : ¬ (n : Int) < (l.length : Int) := by omega
      have e9 : l.take n = l := List.take_of_length_le (by omega)
      rw [e9] at HO
      have HO2 : Hid (Own wr W.heap.size u3 (dataW l)) := HO
      obtain ⟨va, vc, hv, hb⟩ := HO2.out.shape
      subst hv
      have kv := conv_is hb rfl
      clear hb e9
      go_wp2_with fail
      go_ret
      exact ⟨rfl, HB.out⟩
end Go.Proofs.YtpfbfkjmdlogcaaDoor
