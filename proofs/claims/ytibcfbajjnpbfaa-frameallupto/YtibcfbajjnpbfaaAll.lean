/-
  The walks of All and of what it answers.
-/
import Derived.Test.YtibcfbajjnpbfaaFrames
import Derived.Test.YtibcfbajjnpbfaaTold
import Derived.Shelf.Abstract
import Derived.Shelf.RegionOpen
import Derived.OwnWalkIn
import Derived.TacticsInMore
import Derived.LoopNIn
import Derived.LoopIn
import Derived.Sort.QuietIn
namespace Go.Proofs.Ytibcfbajjnpbfaa
open Go.RowKit

theorem cell_new (W : World) (v : Value) (t : TypeId) : (W.alloc (.cells #[v] t)).cell? ⟨W.heap.size, 0, none⟩ = some v := by
  exact (Boxed.new W t v).cell

/-- The blocks from lo to hi lie as they lay. -/
structure Mid (lo hi : Nat) (w w' : World) : Prop where
  size : w.heap.size ≤ w'.heap.size
  block : ∀ k, lo ≤ k → k < hi → w'.heap[k]? = w.heap[k]?
theorem Mid.trans {lo hi : Nat} {A B C : World} (h : Mid lo hi A B) (k : Mid lo hi B C) : Mid lo hi A C := ⟨Nat.le_trans h.size k.size, fun i h1 h2 => (k.block i h1 h2).trans (h.block i h1 h2)⟩
theorem Mid.refl (lo hi : Nat) (A : World) : Mid lo hi A A := ⟨Nat.le_refl _, fun _ _ _ => rfl⟩
theorem Mid.of_below {lo hi B : Nat} {A C : World} (h : Below B A C) (hB : hi ≤ B) : Mid lo hi A C := ⟨h.size, fun k _ h2 => h.block k (Nat.lt_of_lt_of_le h2 hB)⟩
theorem Mid.cell {lo hi : Nat} {A C : World} (h : Mid lo hi A C) {p : Addr} (h1 : lo ≤ p.block) (h2 : p.block < hi) : C.cell? p = A.cell? p := World.cell?_of_block (h.block _ h1 h2)
theorem Mid.set {lo hi : Nat} {A C : World} (h : Mid lo hi A C) {p : Addr} (hp : p.block < lo ∨ hi ≤ p.block) (v : Value) : Mid lo hi A (C.setCell p v) :=
  h.trans ⟨by simp [World.setCell], fun k h1 h2 => Below.heap_setCell C p v k (by omega)⟩
theorem Mid.grown {lo hi : Nat} {A C D : World} {row : Option Nat} (h : Mid lo hi A C) (hg : C.grownBy D row) (hC : hi ≤ C.heap.size) (hr : ∀ k, row = some k → k < lo ∨ hi ≤ k) : Mid lo hi A D :=
  h.trans ⟨hg.size, fun k h1 h2 => hg.block k (by omega) (fun e => by have := hr k e.symm; omega)⟩
theorem midK_b {lo hi : Nat} {w : World} (hn : hi ≤ w.heap.size) (W : World) (l : Nat) (o o' : Obj) (hl : w.heap.size ≤ l) (_ : W.heap[l]? = some o) (_ : o.isCells = false) (_ : o.isWalk = false) : Mid lo hi W (W.putObj l o') :=
  ⟨by simp, fun k _ h2 => World.putObj_heap_other (by omega)⟩

/-- What an iterator of All holds, from block lo on. -/
def AllAt (w : World) (lo Bf Bk : Nat) (f : Int) (l : List UInt8) : Prop :=
  ∃ a c, w.cell? ⟨Bf, 0, none⟩ = some (.int .i64 f) ∧ w.cell? ⟨Bk, 0, none⟩ = some (.slice a l.length c) ∧ IsBytes w a c l ∧ (lo ≤ Bf ∧ Bf < w.heap.size) ∧ (lo ≤ Bk ∧ Bk < w.heap.size) ∧ ∀ d, a = some d → lo ≤ d.block

theorem AllAt.below {w w' : World} {lo Bf Bk : Nat} {f : Int} {l : List UInt8} (h : AllAt w lo Bf Bk f l) (hb : Below w.heap.size w w') : AllAt w' lo Bf Bk f l := by
  obtain ⟨a, c, h1, h2, h3, ⟨h4, h5⟩, ⟨h6, h7⟩, h8⟩ := h
  exact ⟨a, c, (hb.cell (p := ⟨Bf, 0, none⟩) h5).trans h1, (hb.cell (p := ⟨Bk, 0, none⟩) h7).trans h2, h3.below hb, ⟨h4, Nat.lt_of_lt_of_le h5 hb.size⟩, ⟨h6, Nat.lt_of_lt_of_le h7 hb.size⟩, h8⟩
theorem Own.lies {w : World} {B : Nat} {a : Option Addr} {n c : Nat} {l : List UInt8} (h : Own w B (.slice a n c) l) : ∀ d, a = some d → B ≤ d.block := by
  rintro d rfl
  rcases h.2 with ⟨h0, _⟩ | ⟨g, cap, cur, hv, hB, _⟩
  · cases h0
  · cases hv; exact hB

def seqOf (Bf Bk : Nat) : Value := .func (.func 41) #[] #[.pointer (some ⟨Bf, 0, none⟩), .pointer (some ⟨Bk, 0, none⟩)]

set_option maxHeartbeats 1000000 in
set_option maxRecDepth 1000000 in
theorem all_any (f : Int) (a : Option Addr) (c : Nat) (l : List UInt8) (w : World) (hl : IsBytes w a c l) (hb : l.length ≤ 140737488355328) (hc0 : a = none → c = 0) :
    Calls Try.prog 40 #[.int .i64 f, .slice a l.length c] w fun e w' => ∃ Bf Bk, e = .returned (seqOf Bf Bk) ∧ AllAt w' w.heap.size Bf Bk f l ∧ Below w.heap.size w w' := by
  have HL : Hid (IsBytes w a c l) := hl
  clear hl
  go_enter Try.func40, Try.ntmps40
  go_wp2_with (go_at_call 37; refine (clone_any a c l _ (HL.out.below ((Below.refl _ w).alloc (Nat.le_refl _) _)) hb hc0).mono ?_; rintro e w1 ⟨v1, rfl, own1, B1⟩; obtain ⟨a1, c1, hv1, is1⟩ := own1.shape; subst hv1; have IS1 : Hid (IsBytes w1 a1 c1 l) := is1; have LIES : Hid (∀ d, a1 = some d → (w.alloc (.cells #[.int .i64 f] 3)).heap.size ≤ d.block) := own1.lies; have HB1 : Hid (Below (World.heap _).size _ w1) := B1; clear is1 own1 B1)
  go_ret
  have hz := HB1.out.size
  rw [World.size_alloc] at hz
  have hB2 : Below (w.heap.size + 1) (w.alloc (.cells #[.int .i64 f] 3)) (w1.alloc (.cells #[.slice a1 l.length c1] 22)) := by
    have := HB1.out.alloc (by rw [World.size_alloc]; exact hz) (.cells #[.slice a1 l.length c1] 22)
    rwa [World.size_alloc] at this
  refine ⟨w.heap.size, w1.heap.size, rfl, ⟨a1, c1, (hB2.cell (p := ⟨w.heap.size, 0, none⟩) (Nat.lt_succ_self _)).trans (cell_new w _ _), (cell_new w1 _ _), IS1.out.below ((Below.refl _ w1).alloc (Nat.le_refl _) _), ⟨Nat.le_refl _, by simp; omega⟩, ⟨by omega, by simp⟩, fun d e => by have := LIES.out d e; rw [World.size_alloc] at this; omega⟩, ?_⟩
  exact ((Below.refl _ w).alloc (Nat.le_refl _) _).trans (hB2.mono (by omega))

/-- What a round of All is told: the next frame, in memory that was not there before. -/
abbrev Given := Nat × Value × List UInt8
def Given.pr (x : Given) : Nat × List UInt8 := (x.1, x.2.2)
def toldAll (f : Int) (l : List UInt8) (pre : List Given) (x : Given) (A W : World) : Prop := (frames f l 0)[pre.length]? = some x.pr ∧ Own W A.heap.size x.2.1 x.2.2

theorem Own.turned {w w' : World} {B : Nat} {v : Value} {l : List UInt8} {row : Option Nat} (h : Own w B v l) (hg : w.grownBy w' row) (hr : ∀ r, row = some r → ∃ o : Obj, w.heap[r]? = some o ∧ o.isCells = false) : Own w' B v l := by
  refine ⟨h.1, ?_⟩
  rcases h.2 with h0 | ⟨g, cap, cur, hv, hB, hgc, rest⟩
  · exact .inl h0
  · exact .inr ⟨g, cap, cur, hv, hB, (grownBy_keeps_cells hg hr hgc rfl).trans hgc, rest⟩
theorem toldAll_own (f : Int) (l : List UInt8) (B : Nat) (pre : List Given) (x : Given) (A : World) : OwnFrom B (fun (_ : Unit) W => toldAll f l pre x A W) :=
  fun _ _ _ _ hs hg hr => ⟨hs.1, hs.2.turned hg (fun r e => (hr r e).2)⟩

theorem grown_of_below {A W : World} (h : Below A.heap.size A W) : A.grownBy W none := ⟨h.os, h.tape, h.output, h.size, fun k hk _ => h.block k hk⟩

attribute [local go_sem] Oper.semAt_some
set_option maxHeartbeats 1000000 in
set_option maxRecDepth 1000000 in
theorem all1_told (n lo Bf Bk : Nat) (f : Int) (l : List UInt8) (w : World) (h : AllAt w lo Bf Bk f l) (hb : l.length ≤ 140737488355328) :
    SeqTold Fence.wide n Try.prog 41 #[.pointer (some ⟨Bf, 0, none⟩), .pointer (some ⟨Bk, 0, none⟩)] (fun x : Given => #[.int .i64 (x.1 : Int), x.2.1]) (Mid lo w.heap.size) (toldAll f l) (fun xs => xs.map Given.pr = frames f l 0) (fun pre => pre.map Given.pr <+: frames f l 0) (frames f l 0).length w := by
  obtain ⟨a, c, hf, hk, his, ⟨hBf0, hBf⟩, ⟨hBk0, hBk⟩, hlies⟩ := h
  have HLIES : Hid (∀ d, a = some d → lo ≤ d.block) := hlies
  clear hlies
  intro id J Jx W hW hJ hJx hY h0
  have HIS : Hid (IsBytes w a c l) := his
  have HF : Hid (w.cell? ⟨Bf, 0, none⟩ = some (.int .i64 f)) := hf
  have HK : Hid (w.cell? ⟨Bk, 0, none⟩ = some (.slice a l.length c)) := hk
  have HJ : Hid (AbidesFrom W.heap.size J) := hJ
  have HJX : Hid (AbidesFrom W.heap.size Jx) := hJx
  have HY : Hid (∀ pre x A W1, J pre A → Below A.heap.size A W1 → toldAll f l pre x A W1 → pre.length < (frames f l 0).length → YieldAt Fence.wide (n - 1) Try.prog id #[.int .i64 (x.1 : Int), x.2.1] W1 fun e W' =>
      (e = .returned (.bool true) ∧ J (pre ++ [x]) W' ∧ Mid lo w.heap.size W1 W') ∨ (e = .returned (.bool false) ∧ Jx (pre ++ [x]) W')) := hY
  clear his hf hk hJ hJx hY
  refine callsIn_of_wp Try.func41 rfl trivial ?_ rfl
  simp only [Try.ntmps41, List.size_toArray, List.length_cons, List.length_nil, Nat.reduceAdd, Nat.reduceSub, Array.replicate_succ, Array.replicate_zero, List.push_toArray, List.append_toArray, List.nil_append, List.cons_append]
  gi_wp2
  gi_loopw [4] (fun i wr => ∃ (p : Nat) (pre : List Given), i = .int .i64 p ∧ p ≤ l.length ∧ frames f l 0 = pre.map Given.pr ++ frames f l p ∧ J pre wr ∧ Mid lo w.heap.size w wr) (fun i _ => l.length - (intOf i).toNat)
  case atStart => exact ⟨0, [], rfl, Nat.zero_le _, by simp, h0, Mid.of_below hW (Nat.le_refl _)⟩
  case round =>
    obtain ⟨p, pre, rfl, hp, hfr, hJs, hB⟩ := hrel
    have c1 : wr.cell? ⟨Bf, 0, none⟩ = some (.int .i64 f) := (hB.cell (p := ⟨Bf, 0, none⟩) hBf0 hBf).trans HF.out
    have c2 : wr.cell? ⟨Bk, 0, none⟩ = some (.slice a l.length c) := (hB.cell (p := ⟨Bk, 0, none⟩) hBk0 hBk).trans HK.out
    have C1 : Hid (wr.cell? ⟨Bf, 0, none⟩ = some (.int .i64 f)) := c1
    have C2 : Hid (wr.cell? ⟨Bk, 0, none⟩ = some (.slice a l.length c)) := c2
    have HJS : Hid (J pre wr) := hJs
    have HFR : Hid (frames f l 0 = pre.map Given.pr ++ frames f l p) := hfr
    have HB : Hid (Mid lo w.heap.size w wr) := hB
    have hcb := HIS.out.1
    have hcm := HIS.out.2.1
    unfold maxLen at hcm
    have IS3 : Hid (l = [] ∨ ∃ b o, a = some ⟨b, o, none⟩ ∧ b < w.heap.size ∧ ∀ (j : Nat) x, l[j]? = some x → w.cell? ⟨b, o + j, none⟩ = some (.int .u8 (x.toNat : Int))) := HIS.out.2.2
    clear hJs hfr hB
    rcases IS3.out with rfl | ⟨g, o, rfl, hg, hcell⟩
    · obtain rfl : p = 0 := by simpa using hp
      have hE : ∀ x : Int, takeE f (0 : Nat) [] = x → x ≠ 0 := by
        rintro x rfl
        unfold takeE
        simp
        split <;> omega
      obtain ⟨x, hx⟩ : ∃ x, x = takeE f (0 : Nat) [] := ⟨_, rfl⟩
      have hx0 := hE x hx.symm
      have hxb : (x != 0) = true := by simpa using hx0
      have HEND : Hid (frames f [] 0 = []) := frames_end (f := f) (l := []) (p := 0) (by rw [List.drop_nil, ← hx]; exact hx0)
      have TK2 : Hid (∀ a2 c2, c2 ≤ maxLen → Calls Try.prog 21 #[.int .i64 f, .int .i64 0, .slice a2 0 c2] wr.drew fun e w1 => ∃ v, e = .returned (.tuple #[v, .int .i64 0, .int .i64 x]) ∧ J pre w1) := by
        intro a2 c2 hc2
        refine (take_any f 0 a2 c2 [] wr.drew ⟨Nat.zero_le _, hc2, .inl rfl⟩).mono ?_
        rintro e w1 ⟨v, rfl, own1, B1⟩
        have hx2 : takeE f 0 [] = x := hx.symm
        exact ⟨v, by unfold takeN; rw [hx2, if_neg hx0], HJ.out pre wr w1 none HJS.out (grown_of_below ((Below.refl _ wr).drew.trans B1)) (fun r e => by cases e)⟩
      clear hE hx hx0
      cases a with
      | none =>
        gi_wp2
        refine wpIn_wide.2 ?_
        go_region_with (go_at_call 21; refine (TK2.out _ _ (by unfold maxLen; omega)).mono ?_; rintro e w1 ⟨v, rfl, hJ1⟩; have HJ1 : Hid (J pre w1) := hJ1; clear hJ1)
        all_goals
          gi_wp2
          refine ⟨fun _ h => (by cases h), ?_⟩
          gi_wp2
          refine bodyPost_ret (results_none rfl _ _ _) rfl ?_
          exact ⟨⟨_, rfl⟩, .inl ⟨_, by rw [HFR.out, HEND.out]; simp, HJ1.out⟩⟩
      | some ad =>
        gi_wp2
        refine wpIn_wide.2 ?_
        go_region_with (go_at_call 21; refine (TK2.out _ _ (by unfold maxLen; omega)).mono ?_; rintro e w1 ⟨v, rfl, hJ1⟩; have HJ1 : Hid (J pre w1) := hJ1; clear hJ1)
        all_goals
          gi_wp2
          refine ⟨fun _ h => (by cases h), ?_⟩
          gi_wp2
          refine bodyPost_ret (results_none rfl _ _ _) rfl ?_
          exact ⟨⟨_, rfl⟩, .inl ⟨_, by rw [HFR.out, HEND.out]; simp, HJ1.out⟩⟩
    · have TK : Hid (Calls Try.prog 21 #[.int .i64 f, .int .i64 p, .slice (if c = p then some ⟨g, o, none⟩ else some ⟨g, o + p, none⟩) (l.length - p) (c - p)] wr.drew (TakePost f p (l.drop p) wr.drew)) := by
        have his : IsBytes wr.drew (if c = p then some ⟨g, o, none⟩ else some ⟨g, o + p, none⟩) (c - p) (l.drop p) := by
          refine ⟨by simp; omega, by unfold maxLen; omega, ?_⟩
          by_cases hcp : c = p
          · exact .inl (List.drop_eq_nil_of_le (by omega))
          · rw [if_neg hcp]
            refine .inr ⟨g, o + p, rfl, Nat.lt_of_lt_of_le hg HB.out.size, fun j x hj => ?_⟩
            rw [List.getElem?_drop] at hj
            rw [Nat.add_assoc]
            exact (HB.out.cell (p := ⟨g, o + (p + j), none⟩) (HLIES.out ⟨g, o, none⟩ rfl) hg).trans (hcell _ x hj)
        have := take_any f p (if c = p then some ⟨g, o, none⟩ else some ⟨g, o + p, none⟩) (c - p) (l.drop p) wr.drew his
        rw [List.length_drop] at this
        exact this
      have hJabs : ∀ W2, Below wr.heap.size wr W2 → J pre W2 := fun W2 h2 => HJ.out pre wr W2 none HJS.out (grown_of_below h2) (fun r e => by cases e)
      have HJA : Hid (∀ W2, Below wr.heap.size wr W2 → J pre W2) := hJabs
      clear hJabs
      by_cases hE : takeE f p (l.drop p) = 0
      · have hT := take_len hE
        rw [List.length_drop] at hT
        have hN : takeN f p (l.drop p) = ((8 + takeLen (l.drop p) : Nat) : Int) := by unfold takeN; rw [if_pos hE]
        have hL : takeL f p (l.drop p) = takePay (l.drop p) := by unfold takeL; rw [if_pos hE]
        have hstep := frames_step hE
        obtain ⟨sz, hsz⟩ : ∃ sz, sz = 8 + takeLen (l.drop p) := ⟨_, rfl⟩
        rw [← hsz] at hN hT hstep
        have hcp : ¬ c = p := by omega
        have hs9 : 9 ≤ sz := by omega
        have TK2 : Hid (Calls Try.prog 21 #[.int .i64 f, .int .i64 p, .slice (some ⟨g, o + p, none⟩) (l.length - p) (c - p)] wr.drew fun e w1 => ∃ v, e = .returned (.tuple #[v, .int .i64 (sz : Int), .int .i64 0]) ∧ Own w1 wr.heap.size v (takePay (l.drop p)) ∧ Below wr.heap.size wr w1) := by
          have hTK := TK.out
          rw [if_neg hcp] at hTK
          refine hTK.mono ?_
          rintro e w1 ⟨v, rfl, own1, B1⟩
          exact ⟨v, by rw [hN, hE], by rw [← hL]; exact own1, (Below.refl _ wr).drew.trans B1⟩
        have HSTEP : Hid (frames f l p = (p, takePay (l.drop p)) :: frames f l (p + sz)) := hstep
        clear hE hN hL hsz hstep TK
        gi_wp2
        refine wpIn_wide.2 ?_
        go_region_with (go_at_call 21; refine TK2.out.mono ?_; rintro e w1 ⟨v, rfl, own1, B1⟩; have OWN1 : Hid (Own w1 wr.heap.size v (takePay (l.drop p))) := own1; have HB1 : Hid (Below wr.heap.size wr w1) := B1; clear own1 B1)
        all_goals
          obtain ⟨fn, tmps, assign, body, hy, hR⟩ := HY.out pre (p, v, takePay (l.drop p)) wr w1 HJS.out HB1.out ⟨by rw [HFR.out, HSTEP.out]; simp [Given.pr], OWN1.out⟩ (by rw [HFR.out, HSTEP.out]; simp)
          dsimp only at hy
          gi_wp2
          refine ⟨fun h => (by cases h), ?_⟩
          refine hR.mono ?_
          rintro e W3 (⟨rfl, hJ3, hk3⟩ | ⟨rfl, hJx3⟩)
          · have HJ3 : Hid (J (pre ++ [(p, v, takePay (l.drop p))]) W3) := hJ3
            have HK3 : Hid (Mid lo w.heap.size w1 W3) := hk3
            clear hJ3 hk3 hy hR
            gi_wp2
            go_roundw
            case rel =>
              refine ⟨p + sz, _, by go_num, by omega, ?_, HJ3.out, ?_⟩
              · rw [HFR.out, HSTEP.out]; simp [Given.pr]
              · exact HB.out.trans ((Mid.of_below HB1.out HB.out.size).trans HK3.out)
            case measure => simp [intOf]; omega
          · have HJX3 : Hid (Jx (pre ++ [(p, v, takePay (l.drop p))]) W3) := hJx3
            clear hJx3 hy hR
            gi_wp2
            refine bodyPost_ret (results_none rfl _ _ _) rfl ?_
            exact ⟨⟨_, rfl⟩, .inr ⟨_, ⟨frames f l (p + sz), by rw [HFR.out, HSTEP.out]; simp [Given.pr]⟩, HJX3.out⟩⟩
      · obtain ⟨x, hx⟩ : ∃ x, x = takeE f p (l.drop p) := ⟨_, rfl⟩
        rw [← hx] at hE
        have hxb : (x != 0) = true := by simpa using hE
        have hend := frames_end (f := f) (l := l) (p := p) (by rw [← hx]; exact hE)
        have hN : takeN f p (l.drop p) = 0 := by unfold takeN; rw [← hx, if_neg hE]
        have TK2 : Hid (Calls Try.prog 21 #[.int .i64 f, .int .i64 p, .slice (if c = p then some ⟨g, o, none⟩ else some ⟨g, o + p, none⟩) (l.length - p) (c - p)] wr.drew fun e w1 => ∃ v, e = .returned (.tuple #[v, .int .i64 0, .int .i64 x]) ∧ J pre w1) := by
          refine TK.out.mono ?_
          rintro e w1 ⟨v, rfl, own1, B1⟩
          exact ⟨v, by rw [hN, hx], HJA.out _ ((Below.refl _ wr).drew.trans B1)⟩
        have HEND : Hid (frames f l p = []) := hend
        clear hE hN hend TK hx
        by_cases hcp : c = p
        · subst hcp
          rw [if_pos rfl, Nat.sub_self, Nat.sub_eq_zero_of_le hcb] at TK2
          gi_wp2
          refine wpIn_wide.2 ?_
          go_region_with (go_at_call 21; refine TK2.out.mono ?_; rintro e w1 ⟨v, rfl, hJ1⟩; have HJ1 : Hid (J pre w1) := hJ1; clear hJ1)
          all_goals
            gi_wp2
            refine ⟨fun _ h => (by cases h), ?_⟩
            gi_wp2
            refine bodyPost_ret (results_none rfl _ _ _) rfl ?_
            exact ⟨⟨_, rfl⟩, .inl ⟨_, by rw [HFR.out, HEND.out]; simp, HJ1.out⟩⟩
        · rw [if_neg hcp] at TK2
          gi_wp2
          refine wpIn_wide.2 ?_
          go_region_with (go_at_call 21; refine TK2.out.mono ?_; rintro e w1 ⟨v, rfl, hJ1⟩; have HJ1 : Hid (J pre w1) := hJ1; clear hJ1)
          all_goals
            gi_wp2
            refine ⟨fun _ h => (by cases h), ?_⟩
            gi_wp2
            refine bodyPost_ret (results_none rfl _ _ _) rfl ?_
            exact ⟨⟨_, rfl⟩, .inl ⟨_, by rw [HFR.out, HEND.out]; simp, HJ1.out⟩⟩
end Go.Proofs.Ytibcfbajjnpbfaa
