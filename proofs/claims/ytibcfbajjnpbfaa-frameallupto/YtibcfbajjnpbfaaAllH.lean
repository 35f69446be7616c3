/-
  The iterator of All once more: its own blocks lie from lo to hi, other blocks may have come since.
-/
import Derived.Test.YtibcfbajjnpbfaaAll
namespace Go.Proofs.Ytibcfbajjnpbfaa
open Go.RowKit

/-- What an iterator of All holds, from block lo on, below hi. -/
def AllH (w : World) (lo hi Bf Bk : Nat) (f : Int) (l : List UInt8) : Prop :=
  ∃ a c, w.cell? ⟨Bf, 0, none⟩ = some (.int .i64 f) ∧ w.cell? ⟨Bk, 0, none⟩ = some (.slice a l.length c) ∧ IsBytes w a c l ∧ (lo ≤ Bf ∧ Bf < hi) ∧ (lo ≤ Bk ∧ Bk < hi) ∧ (∀ d, a = some d → l ≠ [] → lo ≤ d.block ∧ d.block < hi) ∧ hi ≤ w.heap.size
theorem AllAt.toH {w : World} {lo Bf Bk : Nat} {f : Int} {l : List UInt8} (h : AllAt w lo Bf Bk f l) : AllH w lo w.heap.size Bf Bk f l := by
  obtain ⟨a, c, h1, h2, h3, h4, h5, h6⟩ := h
  refine ⟨a, c, h1, h2, h3, h4, h5, fun d e hl => ⟨h6 d e, ?_⟩, Nat.le_refl _⟩
  rcases h3.2.2 with h | ⟨b, o, e', hb, _⟩
  · exact (hl h).elim
  · rw [e] at e'
    cases e'
    exact hb
/-- Its blocks have stayed. -/
theorem AllH.stay {w w' : World} {lo hi Bf Bk : Nat} {f : Int} {l : List UInt8} (h : AllH w lo hi Bf Bk f l) (hb : ∀ k, lo ≤ k → k < hi → w'.heap[k]? = w.heap[k]?) (hs : w.heap.size ≤ w'.heap.size) : AllH w' lo hi Bf Bk f l := by
  obtain ⟨a, c, h1, h2, h3, ⟨h4, h5⟩, ⟨h6, h7⟩, h8, h9⟩ := h
  refine ⟨a, c, (World.cell?_of_block (a := ⟨Bf, 0, none⟩) (hb Bf h4 h5)).trans h1, (World.cell?_of_block (a := ⟨Bk, 0, none⟩) (hb Bk h6 h7)).trans h2, ⟨h3.1, h3.2.1, ?_⟩, ⟨h4, h5⟩, ⟨h6, h7⟩, h8, Nat.le_trans h9 hs⟩
  by_cases hl : l = []
  · exact .inl hl
  · rcases h3.2.2 with h | ⟨b, o, e, hbl, hc⟩
    · exact .inl h
    · have h10 := h8 _ e hl
      exact .inr ⟨b, o, e, Nat.lt_of_lt_of_le hbl hs, fun j x hj => (World.cell?_of_block (a := ⟨b, o + j, none⟩) (hb b h10.1 h10.2)).trans (hc j x hj)⟩

attribute [local go_sem] Oper.semAt_some
set_option maxHeartbeats 1000000 in
set_option maxRecDepth 1000000 in
theorem all1_toldH (n lo hi Bf Bk : Nat) (f : Int) (l : List UInt8) (w : World) (h : AllH w lo hi Bf Bk f l) (hb : l.length ≤ 140737488355328) :
    SeqTold Fence.wide n Try.prog 41 #[.pointer (some ⟨Bf, 0, none⟩), .pointer (some ⟨Bk, 0, none⟩)] (fun x : Given => #[.int .i64 (x.1 : Int), x.2.1]) (Mid lo hi) (toldAll f l) (fun xs => xs.map Given.pr = frames f l 0) (fun pre => pre.map Given.pr <+: frames f l 0) (frames f l 0).length w := by
  obtain ⟨a, c, hf, hk, his, ⟨hBf0, hBf⟩, ⟨hBk0, hBk⟩, hlies, hhi⟩ := h
  have HLIES : Hid (∀ d, a = some d → l ≠ [] → lo ≤ d.block ∧ d.block < hi) := hlies
  clear hlies
  intro id J Jx W hW hJ hJx hY h0
  have HIS : Hid (IsBytes w a c l) := his
  have HF : Hid (w.cell? ⟨Bf, 0, none⟩ = some (.int .i64 f)) := hf
  have HK : Hid (w.cell? ⟨Bk, 0, none⟩ = some (.slice a l.length c)) := hk
  have HJ : Hid (AbidesFrom W.heap.size J) := hJ
  have HJX : Hid (AbidesFrom W.heap.size Jx) := hJx
  have HY : Hid (∀ pre x A W1, J pre A → Below A.heap.size A W1 → toldAll f l pre x A W1 → pre.length < (frames f l 0).length → YieldAt Fence.wide (n - 1) Try.prog id #[.int .i64 (x.1 : Int), x.2.1] W1 fun e W' =>
      (e = .returned (.bool true) ∧ J (pre ++ [x]) W' ∧ Mid lo hi W1 W') ∨ (e = .returned (.bool false) ∧ Jx (pre ++ [x]) W')) := hY
  clear his hf hk hJ hJx hY
  refine callsIn_of_wp Try.func41 rfl trivial ?_ rfl
  simp only [Try.ntmps41, List.size_toArray, List.length_cons, List.length_nil, Nat.reduceAdd, Nat.reduceSub, Array.replicate_succ, Array.replicate_zero, List.push_toArray, List.append_toArray, List.nil_append, List.cons_append]
  gi_wp2
  gi_loopw [4] (fun i wr => ∃ (p : Nat) (pre : List Given), i = .int .i64 p ∧ p ≤ l.length ∧ frames f l 0 = pre.map Given.pr ++ frames f l p ∧ J pre wr ∧ Mid lo hi w wr) (fun i _ => l.length - (intOf i).toNat)
  case atStart => exact ⟨0, [], rfl, Nat.zero_le _, by simp, h0, Mid.of_below hW hhi⟩
  case round =>
    obtain ⟨p, pre, rfl, hp, hfr, hJs, hB⟩ := hrel
    have c1 : wr.cell? ⟨Bf, 0, none⟩ = some (.int .i64 f) := (hB.cell (p := ⟨Bf, 0, none⟩) hBf0 hBf).trans HF.out
    have c2 : wr.cell? ⟨Bk, 0, none⟩ = some (.slice a l.length c) := (hB.cell (p := ⟨Bk, 0, none⟩) hBk0 hBk).trans HK.out
    have C1 : Hid (wr.cell? ⟨Bf, 0, none⟩ = some (.int .i64 f)) := c1
    have C2 : Hid (wr.cell? ⟨Bk, 0, none⟩ = some (.slice a l.length c)) := c2
    have HJS : Hid (J pre wr) := hJs
    have HFR : Hid (frames f l 0 = pre.map Given.pr ++ frames f l p) := hfr
    have HB : Hid (Mid lo hi w wr) := hB
    have hcb := HIS.out.1
    have hcm := HIS.out.2.1
    unfold maxLen at hcm
    have IS3 : Hid (l = [] ∨ ∃ b o, a = some ⟨b, o, none⟩ ∧ b < w.heap.size ∧ ∀ (j : Nat) x, l[j]? = some x → w.cell? ⟨b, o + j, none⟩ = some (.int .u8 (x.toNat : Int))) := HIS.out.2.2
    clear hJs hfr hB
    rcases IS3.out with rfl | ⟨g, o, rfl, hg, hcell⟩
    · obtain rfl : p = 0 := by simpa using hp
      have hE : ∀ x : Int, takeE f (0 : Nat) [] = x → x ≠ 0 := by
        rintro x rfl
        unfold takeE
        simp
        split <;> omega
      obtain ⟨x, hx⟩ : ∃ x, x = takeE f (0 : Nat) [] := ⟨_, rfl⟩
      have hx0 := hE x hx.symm
      have hxb : (x != 0) = true := by simpa using hx0
      have HEND : Hid (frames f [] 0 = []) := frames_end (f := f) (l := []) (p := 0) (by rw [List.drop_nil, ← hx]; exact hx0)
      have TK2 : Hid (∀ a2 c2, c2 ≤ maxLen → Calls Try.prog 21 #[.int .i64 f, .int .i64 0, .slice a2 0 c2] wr.drew fun e w1 => ∃ v, e = .returned (.tuple #[v, .int .i64 0, .int .i64 x]) ∧ J pre w1) := by
        intro a2 c2 hc2
        refine (take_any f 0 a2 c2 [] wr.drew ⟨Nat.zero_le _, hc2, .inl rfl⟩).mono ?_
        rintro e w1 ⟨v, rfl, own1, B1⟩
        have hx2 : takeE f 0 [] = x := hx.symm
        exact ⟨v, by unfold takeN; rw [hx2, if_neg hx0], HJ.out pre wr w1 none HJS.out (grown_of_below ((Below.refl _ wr).drew.trans B1)) (fun r e => by cases e)⟩
      clear hE hx hx0
      cases a with
      | none =>
        gi_wp2
        refine wpIn_wide.2 ?_
        go_region_with (go_at_call 21; refine (TK2.out _ _ (by unfold maxLen; omega)).mono ?_; rintro e w1 ⟨v, rfl, hJ1⟩; have HJ1 : Hid (J pre w1) := hJ1; clear hJ1)
        all_goals
          gi_wp2
          refine ⟨fun _ h => (by cases h), ?_⟩
          gi_wp2
          refine bodyPost_ret (results_none rfl _ _ _) rfl ?_
          exact ⟨⟨_, rfl⟩, .inl ⟨_, by rw [HFR.out, HEND.out]; simp, HJ1.out⟩⟩
      | some ad =>
        gi_wp2
        refine wpIn_wide.2 ?_
        go_region_with (go_at_call 21; refine (TK2.out _ _ (by unfold maxLen; omega)).mono ?_; rintro e w1 ⟨v, rfl, hJ1⟩; have HJ1 : Hid (J pre w1) := hJ1; clear hJ1)
        all_goals
          gi_wp2
          refine ⟨fun _ h => (by cases h), ?_⟩
          gi_wp2
          refine bodyPost_ret (results_none rfl _ _ _) rfl ?_
          exact ⟨⟨_, rfl⟩, .inl ⟨_, by rw [HFR.out, HEND.out]; simp, HJ1.out⟩⟩
    · have TK : Hid (Calls Try.prog 21 #[.int .i64 f, .int .i64 p, .slice (if c = p then some ⟨g, o, none⟩ else some ⟨g, o + p, none⟩) (l.length - p) (c - p)] wr.drew (TakePost f p (l.drop p) wr.drew)) := by
        have his : IsBytes wr.drew (if c = p then some ⟨g, o, none⟩ else some ⟨g, o + p, none⟩) (c - p) (l.drop p) := by
          refine ⟨by simp; omega, by unfold maxLen; omega, ?_⟩
          by_cases hcp : c = p
          · exact .inl (List.drop_eq_nil_of_le (by omega))
          · rw [if_neg hcp]
            refine .inr ⟨g, o + p, rfl, Nat.lt_of_lt_of_le hg HB.out.size, fun j x hj => ?_⟩
            rw [List.getElem?_drop] at hj
            rw [Nat.add_assoc]
            exact (HB.out.cell (p := ⟨g, o + (p + j), none⟩) (HLIES.out ⟨g, o, none⟩ rfl (by rintro rfl; simp at hj)).1 (HLIES.out ⟨g, o, none⟩ rfl (by rintro rfl; simp at hj)).2).trans (hcell _ x hj)
        have := take_any f p (if c = p then some ⟨g, o, none⟩ else some ⟨g, o + p, none⟩) (c - p) (l.drop p) wr.drew his
        rw [List.length_drop] at this
        exact this
      have hJabs : ∀ W2, Below wr.heap.size wr W2 → J pre W2 := fun W2 h2 => HJ.out pre wr W2 none HJS.out (grown_of_below h2) (fun r e => by cases e)
      have HJA : Hid (∀ W2, Below wr.heap.size wr W2 → J pre W2) := hJabs
      clear hJabs
      by_cases hE : takeE f p (l.drop p) = 0
      · have hT := take_len hE
        rw [List.length_drop] at hT
        have hN : takeN f p (l.drop p) = ((8 + takeLen (l.drop p) : Nat) : Int) := by unfold takeN; rw [if_pos hE]
        have hL : takeL f p (l.drop p) = takePay (l.drop p) := by unfold takeL; rw [if_pos hE]
        have hstep := frames_step hE
        obtain ⟨sz, hsz⟩ : ∃ sz, sz = 8 + takeLen (l.drop p) := ⟨_, rfl⟩
        rw [← hsz] at hN hT hstep
        have hcp : ¬ c = p := by omega
        have hs9 : 9 ≤ sz := by omega
        have TK2 : Hid (Calls Try.prog 21 #[.int .i64 f, .int .i64 p, .slice (some ⟨g, o + p, none⟩) (l.length - p) (c - p)] wr.drew fun e w1 => ∃ v, e = .returned (.tuple #[v, .int .i64 (sz : Int), .int .i64 0]) ∧ Own w1 wr.heap.size v (takePay (l.drop p)) ∧ Below wr.heap.size wr w1) := by
          have hTK := TK.out
          rw [if_neg hcp] at hTK
          refine hTK.mono ?_
          rintro e w1 ⟨v, rfl, own1, B1⟩
          exact ⟨v, by rw [hN, hE], by rw [← hL]; exact own1, (Below.refl _ wr).drew.trans B1⟩
        have HSTEP : Hid (frames f l p = (p, takePay (l.drop p)) :: frames f l (p + sz)) := hstep
        clear hE hN hL hsz hstep TK
        gi_wp2
        refine wpIn_wide.2 ?_
        go_region_with (go_at_call 21; refine TK2.out.mono ?_; rintro e w1 ⟨v, rfl, own1, B1⟩; have OWN1 : Hid (Own w1 wr.heap.size v (takePay (l.drop p))) := own1; have HB1 : Hid (Below wr.heap.size wr w1) := B1; clear own1 B1)
        all_goals
          obtain ⟨fn, tmps, assign, body, hy, hR⟩ := HY.out pre (p, v, takePay (l.drop p)) wr w1 HJS.out HB1.out ⟨by rw [HFR.out, HSTEP.out]; simp [Given.pr], OWN1.out⟩ (by rw [HFR.out, HSTEP.out]; simp)
          dsimp only at hy
          gi_wp2
          refine ⟨fun h => (by cases h), ?_⟩
          refine hR.mono ?_
          rintro e W3 (⟨rfl, hJ3, hk3⟩ | ⟨rfl, hJx3⟩)
          · have HJ3 : Hid (J (pre ++ [(p, v, takePay (l.drop p))]) W3) := hJ3
            have HK3 : Hid (Mid lo hi w1 W3) := hk3
            clear hJ3 hk3 hy hR
            gi_wp2
            go_roundw
            case rel =>
              refine ⟨p + sz, _, by go_num, by omega, ?_, HJ3.out, ?_⟩
              · rw [HFR.out, HSTEP.out]; simp [Given.pr]
              · exact HB.out.trans ((Mid.of_below HB1.out (Nat.le_trans hhi HB.out.size)).trans HK3.out)
            case measure => simp [intOf]; omega
          · have HJX3 : Hid (Jx (pre ++ [(p, v, takePay (l.drop p))]) W3) := hJx3
            clear hJx3 hy hR
            gi_wp2
            refine bodyPost_ret (results_none rfl _ _ _) rfl ?_
            exact ⟨⟨_, rfl⟩, .inr ⟨_, ⟨frames f l (p + sz), by rw [HFR.out, HSTEP.out]; simp [Given.pr]⟩, HJX3.out⟩⟩
      · obtain ⟨x, hx⟩ : ∃ x, x = takeE f p (l.drop p) := ⟨_, rfl⟩
        rw [← hx] at hE
        have hxb : (x != 0) = true := by simpa using hE
        have hend := frames_end (f := f) (l := l) (p := p) (by rw [← hx]; exact hE)
        have hN : takeN f p (l.drop p) = 0 := by unfold takeN; rw [← hx, if_neg hE]
        have TK2 : Hid (Calls Try.prog 21 #[.int .i64 f, .int .i64 p, .slice (if c = p then some ⟨g, o, none⟩ else some ⟨g, o + p, none⟩) (l.length - p) (c - p)] wr.drew fun e w1 => ∃ v, e = .returned (.tuple #[v, .int .i64 0, .int .i64 x]) ∧ J pre w1) := by
          refine TK.out.mono ?_
          rintro e w1 ⟨v, rfl, own1, B1⟩
          exact ⟨v, by rw [hN, hx], HJA.out _ ((Below.refl _ wr).drew.trans B1)⟩
        have HEND : Hid (frames f l p = []) := hend
        clear hE hN hend TK hx
        by_cases hcp : c = p
        · subst hcp
          rw [if_pos rfl, Nat.sub_self, Nat.sub_eq_zero_of_le hcb] at TK2
          gi_wp2
          refine wpIn_wide.2 ?_
          go_region_with (go_at_call 21; refine TK2.out.mono ?_; rintro e w1 ⟨v, rfl, hJ1⟩; have HJ1 : Hid (J pre w1) := hJ1; clear hJ1)
          all_goals
            gi_wp2
            refine ⟨fun _ h => (by cases h), ?_⟩
            gi_wp2
            refine bodyPost_ret (results_none rfl _ _ _) rfl ?_
            exact ⟨⟨_, rfl⟩, .inl ⟨_, by rw [HFR.out, HEND.out]; simp, HJ1.out⟩⟩
        · rw [if_neg hcp] at TK2
          gi_wp2
          refine wpIn_wide.2 ?_
          go_region_with (go_at_call 21; refine TK2.out.mono ?_; rintro e w1 ⟨v, rfl, hJ1⟩; have HJ1 : Hid (J pre w1) := hJ1; clear hJ1)
          all_goals
            gi_wp2
            refine ⟨fun _ h => (by cases h), ?_⟩
            gi_wp2
            refine bodyPost_ret (results_none rfl _ _ _) rfl ?_
            exact ⟨⟨_, rfl⟩, .inl ⟨_, by rw [HFR.out, HEND.out]; simp, HJ1.out⟩⟩
end Go.Proofs.Ytibcfbajjnpbfaa
