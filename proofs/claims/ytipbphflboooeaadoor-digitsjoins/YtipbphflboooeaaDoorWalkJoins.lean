/-
  The walk of the statement on joining.
-/
import Derived.Test.YtipbphflboooeaaDoorShown
import Derived.Test.YtipbphflboooeaaDoorJoinStrs
import Derived.Test.YtipbphflboooeaaDoorOwn
namespace Go.Proofs.YtipbphflboooeaaDoor.digitsJoins
open Go.RowKit

/-- The words of the marks that stand behind the list. -/
def behind : ByteArray := ⟨#[98, 101, 104, 105, 110, 100]⟩
def it : ByteArray := ⟨#[105, 116]⟩

/-- The list the other way round. -/
def turned (ss : List ByteArray) (k : Nat) : List ByteArray := ss.reverse.take k ++ ss.drop k

theorem turned_set (ss : List ByteArray) (k : Nat) (x : ByteArray) (hk : k < ss.length) (hx : ss[ss.length - 1 - k]? = some x) (r : List ByteArray) : (turned ss k ++ r).set k x = turned ss (k + 1) ++ r := by
  have hr : ss.reverse[k]? = some x := by rw [List.getElem?_reverse hk]; exact hx
  have hl : (ss.reverse.take k).length = k := by simp; omega
  unfold turned
  rw [List.take_add_one, hr, List.drop_eq_getElem_cons hk, List.append_assoc, List.set_append_right _ _ (by omega), hl, Nat.sub_self, List.cons_append, List.set_cons_zero]
  simp
theorem turned_all (ss : List ByteArray) (k : Nat) (hk : ss.length ≤ k) : turned ss k = ss.reverse := by
  unfold turned
  rw [List.take_of_length_le (by simp; omega), List.drop_of_length_le hk, List.append_nil]
theorem turned_length (ss : List ByteArray) (k : Nat) (hk : k ≤ ss.length) : (turned ss k).length = ss.length := by
  unfold turned
  simp; omega
theorem turned_sum (ss : List ByteArray) : ss.reverse.length + (ss.reverse.map ByteArray.size).sum = ss.length + (ss.map ByteArray.size).sum := by
  rw [List.length_reverse, List.map_reverse, List.sum_reverse]

set_option maxHeartbeats 1000000 in
set_option maxRecDepth 1000000 in
theorem walk (a : Option Addr) (len cap : Nat) (ss : List ByteArray) (w : World) (hi : IsStrs w a cap ss ∧ ss.length = len ∧ ∀ x ∈ ss, x.size ≤ maxLen)
    (htab : Lib.TabIs Tryd.prog w "internal/strconv.uint64pow10" .u64 Lib.pow10Tab) :
    Calls Tryd.prog 7 #[.slice a len cap] w fun e w' => e = .returned (.bool true) ∧ Below w.heap.size w w' := by
  obtain ⟨hi, rfl, hz⟩ := hi
  have HT : Hid (Lib.TabIs Tryd.prog w "internal/strconv.uint64pow10" .u64 Lib.pow10Tab) := htab
  have HI : Hid (IsStrs w a cap ss) := hi
  have HZ : Hid (∀ x ∈ ss, x.size ≤ maxLen) := hz
  clear htab hi hz
  go_enter Tryd.func7, Tryd.ntmps7
  go_wp2_with fail
  refine (beyond_any a cap ss w HI.out HZ.out).mono ?_
  rintro e w1 ⟨rfl, hw⟩
  have hw := hw.symm
  subst hw
  cases hbe : beyondFrom ss 0
  case true =>
    clear hbe
    go_wp2
    go_ret
    exact ⟨rfl, Below.refl _ _⟩
  have hsum := beyond_bound ss 0 (by decide) hbe
  unfold lim at hsum
  have HB : Hid (ss.length + (ss.map ByteArray.size).sum ≤ 2147483647) := by show ss.length + (ss.map ByteArray.size).sum ≤ 2147483647; omega
  have hlen : (ss.length : Int) ≤ 2147483647 := by omega
  clear hbe hsum
  go_wp2_with fail
  refine (shown_any _ HT.out).mono ?_
  rintro e w1 ⟨rfl, hb1⟩
  have hz1 := hb1.size
  obtain ⟨i9, hi9, hq0, hq1, hq2⟩ := info_parts info_string
  obtain ⟨W2, hmk, hown2, hgr2⟩ := run_make_full (P := Tryd.prog) w1 w.heap.size 34 9 i9 _ 1 Tryd.underlying34 hi9 hq0 hq1 .i64 .i64 (ss.length + 2) (by rw [hq2]; omega) (by unfold maxLen; omega) hz1
  rw [show ((ss.length + 2 : Nat) : Int) = (ss.length : Int) + 2 by omega] at hmk
  rw [show (Value.string ⟨#[]⟩).cells = #[Value.string ⟨#[]⟩] from rfl, Nat.mul_one, toList_madeCells_one] at hown2
  have hown2 : W2.ownsRow w.heap.size 9 1 (.slice (some ⟨w1.heap.size, 0, none⟩) (ss.length + 2) (ss.length + 2)) (ss.length + 2) ((List.replicate (ss.length + 2) (⟨#[]⟩ : ByteArray)).map Value.string) := by simpa using hown2
  have B2 : Below w.heap.size w W2 := hb1.grown hgr2 hz1 (fun k hk => by cases hk)
  obtain ⟨W3, hcp, hown3, hgr3⟩ := copy_own hown2 (by simp) a cap ss (HI.out.below B2) (by omega)
  have B3 : Below w.heap.size w W3 := B2.grown hgr3 B2.size (fun k hk => by cases hk; exact hz1)
  generalize hg : w1.heap.size = g at hmk hcp hown3
  rw [hg] at hz1
  clear hown2 hgr2 hgr3 B2 hg
  have e3 : ss ++ List.drop ss.length (List.replicate (ss.length + 2) (⟨#[]⟩ : ByteArray)) = ss ++ [⟨#[]⟩, ⟨#[]⟩] := by
    rw [List.drop_replicate, Nat.add_sub_cancel_left]; rfl
  rw [e3] at hown3
  clear e3
  have c0 : W3.cell? ⟨g, ss.length, none⟩ = some (.string ⟨#[]⟩) := cell_own hown3 ss.length ⟨#[]⟩ (by simp) (by omega)
  have f0 : W3.frozen? ⟨g, ss.length, none⟩ = false := hown3.frozenAt ss.length
  have c1 : W3.cell? ⟨g, ss.length + 1, none⟩ = some (.string ⟨#[]⟩) := cell_own hown3 (ss.length + 1) ⟨#[]⟩ (by simp) (by omega)
  have f1 : W3.frozen? ⟨g, ss.length + 1, none⟩ = false := hown3.frozenAt (ss.length + 1)
  have s4 := store_own hown3 ss.length behind
  have s5 := store_own s4.1 (ss.length + 1) it
  have B5 := (B3.grown s4.2 B3.size (fun k hk => by cases hk; exact hz1)).grown s5.2 (by have := B3.size; simp [World.setCell]; omega) (fun k hk => by cases hk; exact hz1)
  have e5 : ((ss ++ [(⟨#[]⟩ : ByteArray), ⟨#[]⟩]).set ss.length behind).set (ss.length + 1) it = ss ++ [behind, it] := by simp
  rw [e5] at s5
  have hown5 := s5.1
  clear s4 s5 e5 hown3 B3
  go_wp2_with fail
  change Calls Tryd.prog _ _ ((W3.setCell ⟨g, ss.length, none⟩ (.string behind)).setCell ⟨g, ss.length + 1, none⟩ (.string it)) _
  clear c0 c1 f0 f1
  generalize (W3.setCell ⟨g, ss.length, none⟩ (.string behind)).setCell ⟨g, ss.length + 1, none⟩ (.string it) = W5 at hown5 B5 ⊢
  have et : (ss ++ [behind, it]).take ss.length = ss := by simp
  have HI5 : Hid (IsStrs W5 (some ⟨g, 0, none⟩) (ss.length + 2) ss) := by
    have := strs_own (n := ss.length) hown5 (by omega)
    rw [et] at this
    exact this
  refine (join_strs _ _ ss _ HI5.out HB.out).mono ?_
  rintro e w6 ⟨rfl, hb6⟩
  have HI6 : Hid (IsStrs w6 (some ⟨g, 0, none⟩) (ss.length + 2) ss) := HI5.out.below hb6
  have B6 := B5.trans (hb6.mono B5.size)
  have hown6 := own_below hown5 hb6
  clear hb6 hown5 B5 HI5
  go_wp2_with fail
  refine (join_strs _ _ ss _ HI6.out HB.out).mono ?_
  rintro e w7 ⟨rfl, hb7⟩
  have HI7 : Hid (IsStrs w7 (some ⟨g, 0, none⟩) (ss.length + 2) ss) := HI6.out.below hb7
  have B7 := B6.trans (hb7.mono B6.size)
  have hown7 := own_below hown6 hb7
  clear hb7 hown6 B6 HI6
  go_wp2_with fail
  have HA7 : Hid (IsStrs w7 a cap ss) := HI.out.below B7
  refine (refJoin_any _ _ ss _ HA7.out HB.out).mono ?_
  rintro e w8 ⟨rfl, hb8⟩
  have HI8 : Hid (IsStrs w8 (some ⟨g, 0, none⟩) (ss.length + 2) ss) := HI7.out.below hb8
  have B8 := B7.trans (hb8.mono B7.size)
  have hown8 := own_below hown7 hb8
  clear hb8 hown7 B7 HI7 HA7
  have HA8 : Hid (IsStrs w8 a cap ss) := HI.out.below B8
  generalize hJ : (⟨(joinV (ss.map (·.data.toList))).toArray⟩ : ByteArray) = J
  generalize hJb : joinB (ss.map (·.data.toList)) = Jb
  clear hJ hJb
  go_wp2_with fail
  refine (same_any _ _ _ _ ss ss _ HI8.out HA8.out).mono ?_
  rintro e w9 ⟨rfl, n9, rfl⟩
  rw [decide_eq_true rfl]
  have c8 : w8.cell? ⟨g, ss.length, none⟩ = some (.string ⟨#[98, 101, 104, 105, 110, 100]⟩) := cell_own hown8 ss.length behind (by simp) (by omega)
  have d8 : w8.cell? ⟨g, ss.length + 1, none⟩ = some (.string ⟨#[105, 116]⟩) := cell_own hown8 (ss.length + 1) it (by simp) (by omega)
  have hJJ : (J.toList == J.toList) = true := by simp
  have hJJb : (Jb != Jb) = false := by simp
  go_wp2
  clear c8 d8 hJJ hJJb HI8 HA8
  go_loopw [14] (fun i wr => ∃ k : Nat, k ≤ ss.length ∧ i = .int .i64 k ∧ wr.ownsRow w.heap.size 9 1 (.slice (some ⟨g, 0, none⟩) (ss.length + 2) (ss.length + 2)) (ss.length + 2) ((turned ss k ++ [behind, it]).map Value.string) ∧ Below w.heap.size w wr) (fun i _ => ss.length - (intOf i).toNat)
  case atStart => exact ⟨0, Nat.zero_le _, rfl, (show w8.ownsRow _ _ _ _ _ _ by simpa [turned] using hown8), below_drewN B8 n9⟩
  case round =>
    obtain ⟨k, hk, rfl, hown, hb⟩ := hrel
    clear hown8 B8 hcp hmk hb1
    by_cases hlt : k < ss.length
    · obtain ⟨b, o, rfl, hbk, hc⟩ : ∃ b o, a = some ⟨b, o, none⟩ ∧ b < w.heap.size ∧ ∀ (j : Nat) x, ss[j]? = some x → w.cell? ⟨b, o + j, none⟩ = some (.string x) := by
        rcases HI.out.2.2 with h | h
        · subst h; simp at hlt
        · exact h
      obtain ⟨x, hx⟩ : ∃ x, ss[ss.length - 1 - k]? = some x := ⟨_, List.getElem?_eq_getElem (by omega)⟩
      have hcx : wr.cell? ⟨b, o + (ss.length - 1 - k), none⟩ = some (.string x) := (hb.cell (p := ⟨b, o + (ss.length - 1 - k), none⟩) hbk).trans (hc _ x hx)
      obtain ⟨old, hold⟩ : ∃ old, (turned ss k ++ [behind, it])[k]? = some old := ⟨_, List.getElem?_eq_getElem (by simp [turned_length ss k hk]; omega)⟩
      have hcg := cell_own hown k old hold (by omega)
      have hfg := hown.frozenAt k
      have st := store_own hown k x
      rw [turned_set ss k x hlt hx] at st
      have st1 := st.1
      have B2 := hb.grown st.2 hb.size (fun j hj => by cases hj; exact hz1)
      have HX : Hid (ss[ss.length - 1 - k]? = some x) := hx
      clear hx hold hc st
      go_wp2
      go_roundw
      case rel => exact ⟨k + 1, by omega, by go_num, st1, B2⟩
      case measure => simp [intOf]; omega
    · rw [turned_all ss k (by omega)] at hown
      have et2 : (ss.reverse ++ [behind, it]).take ss.length = ss.reverse := by rw [List.take_append_of_le_length (by simp), List.take_of_length_le (by simp)]
      have HIr : Hid (IsStrs wr (some ⟨g, 0, none⟩) (ss.length + 2) ss.reverse) := by
        have := strs_own (n := ss.length) hown (by omega)
        rw [et2] at this
        exact this
      have HBr : Hid (ss.reverse.length + (ss.reverse.map ByteArray.size).sum ≤ 2147483647) := by
        show ss.reverse.length + (ss.reverse.map ByteArray.size).sum ≤ 2147483647
        rw [turned_sum]; exact HB.out
      have hrl : ss.reverse.length = ss.length := List.length_reverse
      generalize ss.reverse = rs at HIr HBr hown hrl
      clear et et2
      have HRL : Hid (rs.length = ss.length) := hrl
      clear hrl hown
      go_wp2_with fail
      have cJ := join_strs (some ⟨g, 0, none⟩) (ss.length + 2) rs wr HIr.out HBr.out
      rw [HRL.out] at cJ
      refine cJ.mono ?_
      clear cJ
      rintro e w10 ⟨rfl, hb10⟩
      have HI10 : Hid (IsStrs w10 (some ⟨g, 0, none⟩) (ss.length + 2) rs) := HIr.out.below hb10
      have B10 := hb.trans (hb10.mono hb.size)
      clear hb hb10 HIr
      have hnews : ∀ j u, (rs.map Value.string)[j]? = some u → (w10.alloc (.cells #[] 9)).cell? ((⟨g, 0, none⟩ : Addr).add j) = some u := by
        intro j u hj
        simp only [List.getElem?_map, Option.map_eq_some_iff] at hj
        obtain ⟨x, hx, rfl⟩ := hj
        rcases (HI10.out.below ((Below.refl _ w10).alloc (Nat.le_refl _) (.cells #[] 9))).2.2 with h | ⟨b, o, hbo, _, hc⟩
        · rw [h] at hx; simp at hx
        · cases hbo
          have := hc j x hx
          cases j with
          | zero => simpa [Addr.add] using this
          | succ j => simpa [Addr.add] using this
      have hone : ∀ u ∈ rs.map Value.string, u.oneCell' = true := by intro u hu; simp at hu; obtain ⟨x, _, rfl⟩ := hu; rfl
      have hml : (rs.map Value.string).length = ss.length * 1 := by simp [HRL.out]
      have HNE : Hid (∀ j u, (rs.map Value.string)[j]? = some u → (w10.alloc (.cells #[] 9)).cell? ((⟨g, 0, none⟩ : Addr).add j) = some u) := hnews
      have HON : Hid (∀ u ∈ rs.map Value.string, u.oneCell' = true) := hone
      have HML : Hid ((rs.map Value.string).length = ss.length * 1) := hml
      clear hnews hone hml
      generalize hK : (⟨(joinV (rs.map (·.data.toList))).toArray⟩ : ByteArray) = K
      generalize hKb : joinB (rs.map (·.data.toList)) = Kb
      have HK : Hid ((⟨(joinV (rs.map (·.data.toList))).toArray⟩ : ByteArray) = K) := hK
      have HKb : Hid (joinB (rs.map (·.data.toList)) = Kb) := hKb
      clear hK hKb
      go_wp2_with (at_builtin; go_must (refine wpList_append_own _ rfl _ _ 34 rfl w.heap.size 9 i9 (.string ⟨#[]⟩) 1 16 Tryd.underlying34 hi9 hq0 hq1 hq2 rfl (by decide) _ _ _ rfl (World.ownsRow_lit w10 #[] 0 B10.size (by decide) (by simp)) ⟨g, 0, none⟩ ss.length (ss.length + 2) (rs.map Value.string) rfl HML.out HNE.out HON.out (by unfold maxLen; omega) (by omega) (by have := B10.size; simp; omega) ?_; intro v3 w3 hown3 hgrow3 hnil3))
      have B11 : Below w.heap.size w w3 := (B10.alloc B10.size _).grown hgrow3 (by have := B10.size; simp; omega) (fun j hj => by cases hj; exact B10.size)
      have hne : v3 ≠ .slice none 0 0 := fun h => by cases (hnil3.1 h).1
      simp only [Nat.zero_add, List.nil_append] at hown3
      rw [← HRL.out] at hown3
      obtain ⟨g3, cap3, rfl⟩ : ∃ g3 cap3, v3 = .slice (some ⟨g3, 0, none⟩) rs.length cap3 := by
        rcases hown3.2 with ⟨h, _⟩ | ⟨g5, cap5, _, h, _⟩
        · exact absurd h hne
        · exact ⟨g5, cap5, h⟩
      have HI11 : Hid (IsStrs w3 (some ⟨g3, 0, none⟩) cap3 rs) := IsStrs.own hown3 (by rw [HRL.out]; unfold maxLen; omega)
      clear hown3 hgrow3 hnil3 hne B10 HI10
      refine (refJoin_any _ _ rs _ HI11.out HBr.out).mono ?_
      rintro e w12 ⟨rfl, hb12⟩
      rw [HK.out, HKb.out]
      have hKK : (K.toList == K.toList) = true := by simp
      have hKKb : (Kb == Kb) = true := by simp
      go_wp2
      go_ret
      exact ⟨rfl, B11.trans (hb12.mono B11.size)⟩
end Go.Proofs.YtipbphflboooeaaDoor.digitsJoins
