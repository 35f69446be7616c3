/-
  ReadW, ReadA.
-/
import Derived.Test.YteaccpolmmkclaaDoorRStepW
import Derived.Test.YteaccpolmmkclaaDoorWoS
import Derived.BigQuiet
import Derived.Deep.QuietTactic
namespace Go.Proofs.YteaccpolmmkclaaDoor
open Go.RowKit

theorem rd_next {W : World} {rb : Nat} {j s q : Int} {sv : Value} {hd : Bool} {n m : Int} (h : RdBox W rb j s q sv hd n) : RdBox (W.setCell ⟨rb, 5, none⟩ (.int .i64 m)) rb j s q sv hd m := (set_cells h 5 _).1
theorem first_byte {x : ByteArray} {c : UInt8} {r : Tx} (hx : x.data.toList = c :: r) : ∃ hp : 0 < x.size, x[0]'hp = c := by
  rcases x with ⟨⟨l⟩⟩
  simp only [] at hx
  subst hx
  exact ⟨by simp [ByteArray.size], rfl⟩
set_option maxHeartbeats 2000000 in
set_option maxRecDepth 1000000 in
theorem read_pass (W : World) (rb : Nat) (x : ByteArray) (j s q : Int) (sv : Value) (hd : Bool) (n : Int) (hr : RdBox W rb j s q sv hd n) (h0 : 0 ≤ n) (h1 : n ≤ 1073741823) (hx : x.data.toList = [] ∨ ∃ r, x.data.toList = 35 :: r) :
    Calls Tryd.prog 13 #[.pointer (some ⟨rb, 0, none⟩), .string x] W fun e w' => e = .returned (.tuple #[]) ∧ w' = W.setCell ⟨rb, 5, none⟩ (.int .i64 (n + 1)) := by
  obtain ⟨_, _, _, _, _, y5, yf, yl⟩ := hr.cells
  have y5f := yf 5
  have hi : IntKind.wrap .i64 (n + 1) = n + 1 := by rw [IntKind.wrap_i64]; omega
  clear yf hr
  rcases hx with hx | ⟨r, hx⟩
  · have hse : (x.toList == []) = true := by rw [ByteArray.toList_eq, beq_iff_eq]; exact hx
    go_enter Tryd.func13, Tryd.ntmps13
    go_wp2_with fail
    refine bodyPost_ret (results_none rfl _ _ _) rfl ?_
    exact ⟨rfl, rfl⟩
  · have hse : (x.toList == []) = false := by rw [ByteArray.toList_eq, hx]; rfl
    obtain ⟨hp, hb⟩ := first_byte hx
    have hb2 : (((x[0]'hp).toNat : Int) == 35) = true := by rw [hb]; rfl
    clear hb hx
    go_enter Tryd.func13, Tryd.ntmps13
    go_wp2_with fail
    refine bodyPost_ret (results_none rfl _ _ _) rfl ?_
    exact ⟨rfl, rfl⟩
/-- What read leaves. -/
def ReadPost (W : World) (rb : Nat) (sv : Value) (n : Int) (B : Nat) (r : Except Int Rd) (e : Ending) (w' : World) : Prop :=
  Kept (fun i => i = rb ∨ sv.ownBlock = some i) W w' ∧ match r with
    | .ok st' => e = .returned (.tuple #[]) ∧ ∃ sv' l', RdBox w' rb st'.j st'.s st'.q sv' st'.hd (n + 1) ∧ StepsAt w' B sv' l' ∧ l'.map (·.p) = st'.steps ∧ (sv'.ownBlock = sv.ownBlock ∨ ∀ g, sv'.ownBlock = some g → W.heap.size ≤ g) ∧ ApartS l'
    | .error c => e = pan c ∧ ∃ j s q sv' hd, RdBox w' rb j s q sv' hd (n + 1)
theorem rd_not_rows {w : World} {rb : Nat} {j s q : Int} {sv sv2 : Value} {hd : Bool} {n : Int} {B : Nat} {l : List Sq} (h : RdBox w rb j s q sv2 hd n) (st : StepsAt w B sv l) : (∀ g, sv.ownBlock = some g → ¬ g = rb) ∧ ∀ x ∈ l, (∀ g, x.dv.ownBlock = some g → ¬ g = rb) ∧ ∀ g, x.kv.ownBlock = some g → ¬ g = rb := by
  have hx : ∀ {e : TypeId} {cur : Array Value}, w.heap[rb]? = some (.cells cur e (0, 0)) → e = 44 := fun {e cur} hc => by
    unfold RdBox at h
    rw [h] at hc
    simp only [Option.some.injEq, Obj.cells.injEq] at hc
    exact hc.2.1.symm
  refine ⟨fun g hg e => ?_, fun x hm => ⟨fun g hg e => ?_, fun g hg e => ?_⟩⟩
  · obtain ⟨cur, hc⟩ := row5_type st.1 hg
    rw [e] at hc
    exact absurd (hx hc) (by decide)
  · obtain ⟨cur, hc⟩ := row_of_type (st.2 x hm).1 hg
    rw [e] at hc
    exact absurd (hx hc) (by decide)
  · obtain ⟨cur, hc⟩ := row_of_type (st.2 x hm).2 hg
    rw [e] at hc
    exact absurd (hx hc) (by decide)
/-- Ahead of a line: the count goes on. -/
theorem rd_count {W : World} {rb : Nat} {j s q : Int} {sv : Value} {hd : Bool} {n m : Int} {B : Nat} {l : List Sq} (T : Tabs W) (h6 : 6 ≤ rb) (hr : RdBox W rb j s q sv hd n) (st : StepsAt W B sv l) :
    Kept (fun i => i = rb) W (W.setCell ⟨rb, 5, none⟩ (.int .i64 m)) ∧ Tabs (W.setCell ⟨rb, 5, none⟩ (.int .i64 m)) ∧ RdBox (W.setCell ⟨rb, 5, none⟩ (.int .i64 m)) rb j s q sv hd m ∧ StepsAt (W.setCell ⟨rb, 5, none⟩ (.int .i64 m)) B sv l := by
  have k : Kept (fun i => i = rb) W (W.setCell ⟨rb, 5, none⟩ (.int .i64 m)) := Kept.setCell _ _ _ _ _ rfl
  have hl := hr.cells.2.2.2.2.2.2.2
  have hn := rd_not_rows hr st
  exact ⟨k, T.keptB (k.below (by omega) (fun i hi e => by omega)), rd_next hr, st.kept k hn.1 hn.2⟩
set_option maxHeartbeats 2000000 in
set_option maxRecDepth 1000000 in
theorem read_bad (W : World) (rb : Nat) (x : ByteArray) (j s q : Int) (sv : Value) (hd : Bool) (n : Int) (hr : RdBox W rb j s q sv hd n) (h0 : 0 ≤ n) (h1 : n ≤ 1073741823) (c : UInt8) (r : Tx) (hx : x.data.toList = c :: r) (hc : c ≠ 35) (hz : x.size ≤ 1048576) (hs : splitL x.data.toList = none) :
    Calls Tryd.prog 13 #[.pointer (some ⟨rb, 0, none⟩), .string x] W fun e w' => e = pan 191 ∧ Below (W.setCell ⟨rb, 5, none⟩ (.int .i64 (n + 1))).heap.size (W.setCell ⟨rb, 5, none⟩ (.int .i64 (n + 1))) w' := by
  obtain ⟨_, _, _, _, _, y5, yf, yl⟩ := hr.cells
  have y5f := yf 5
  have hi : IntKind.wrap .i64 (n + 1) = n + 1 := by rw [IntKind.wrap_i64]; omega
  have hse : (x.toList == []) = false := by rw [ByteArray.toList_eq, hx]; rfl
  obtain ⟨hp, hb⟩ := first_byte hx
  have hb2 : (((x[0]'hp).toNat : Int) == 35) = false := by
    rw [hb, beq_eq_false_iff_ne]
    intro e
    exact hc (UInt8.toNat_inj.1 (by have : (35 : UInt8).toNat = 35 := rfl; omega))
  have CS := hide (split_any x (W.setCell ⟨rb, 5, none⟩ (.int .i64 (n + 1))) (by omega))
  have HS := hide hs
  unfold pan
  clear hb hx yf hr hs
  go_enter Tryd.func13, Tryd.ntmps13
  go_wp2_with (go_at_call 31
               refine CS.out.mono ?_
               rintro e w1 ⟨b1, h1⟩
               rcases h1 with ⟨_, rfl⟩ | ⟨ws, g, cap, h2, _⟩
               rotate_left
               · exact absurd (HS.out.symm.trans h2) (by simp))
  exact ⟨rfl, rfl, b1⟩
theorem words_tail {w : World} {B g cap : Nat} {y : ByteArray} {ys : List ByteArray} (h : w.ownsRow B 9 1 (.slice (some ⟨g, 0, none⟩) (y :: ys).length cap) (y :: ys).length ((y :: ys).map Value.string)) (hm : (y :: ys).length ≤ 1048577) :
    w.cell? ⟨g, 0, none⟩ = some (.string y) ∧ (y :: ys).length ≤ cap ∧ WordsV w (.slice (some ⟨g, 1, none⟩) ys.length (cap - 1)) ys := by
  have hs := IsStrs.own h (by unfold maxLen; omega)
  obtain ⟨s1, s2, s3⟩ := hs
  rcases s3 with s3 | ⟨b, o, e, hb, hc⟩
  · cases s3
  · cases e
    refine ⟨by simpa using hc 0 y rfl, s1, some ⟨g, 1, none⟩, cap - 1, rfl, ⟨by simp at s1; omega, by simp at s2; omega, .inr ⟨g, 1, rfl, hb, fun j x hj => ?_⟩⟩, fun b o e => ?_⟩
    · have := hc (j + 1) x (by simpa using hj)
      rw [Nat.zero_add] at this
      rw [Nat.add_comm 1 j]
      exact this
    · cases e
      rcases h.2 with ⟨h0, _⟩ | ⟨g', cap', cur, e, _, hg, _⟩
      · cases h0
      · cases e
        exact ⟨cur, hg⟩
theorem head_all (W : World) (rb : Nat) (x : ByteArray) (v : Value) (ss : List ByteArray) (j s q : Int) (sv : Value) (hd : Bool) (n : Int) (hw : WordsV W v ss) (hr : RdBox W rb j s q sv hd n) :
    Calls Tryd.prog 33 #[.pointer (some ⟨rb, 0, none⟩), .string x, v] W (HeadPost W rb j s q sv hd n (headP x.data.toList (tl ss))) := by
  by_cases hx : x.data.toList = stintW
  · exact head_any W rb x v ss j s q sv hd n hx hw hr
  · have hv : ∃ a m c, v = .slice a m c := by
      obtain ⟨a, c, h, _⟩ := hw
      exact ⟨a, _, c, h⟩
    refine (head_word W rb x v hx hv).mono ?_
    rintro e w' ⟨rfl, hb⟩
    have : headP x.data.toList (tl ss) = .error 191 := by
      unfold headP
      rw [if_pos hx]
    rw [this]
    exact ⟨Kept.ofBelow hb, rfl, rd_later hr hb⟩
theorem rstep_all (W : World) (rb : Nat) (x : ByteArray) (v : Value) (ss : List ByteArray) (j s q : Int) (sv : Value) (hd : Bool) (n : Int) (B : Nat) (l : List Sq) (T : Tabs W) (h6 : 6 ≤ W.heap.size) (hw : WordsV W v ss) (hr : RdBox W rb j s q sv hd n) (hst : StepsAt W B sv l) (hB : B ≤ W.heap.size) (hl : l.length ≤ 4000) (hsl : ss.length ≤ 1048576) (hss : ∀ y ∈ ss, y.size ≤ 1073741823) :
    Calls Tryd.prog 32 #[.pointer (some ⟨rb, 0, none⟩), .string x, v] W (RStepPost W rb j s q sv hd n B l (rstepP x.data.toList l.length (tl ss))) := by
  unfold rstepP
  by_cases hk : kindP x.data.toList = 0
  · rw [if_pos hk]
    exact rstep_word W rb x v ss j s q sv hd n B l T hw hr hk
  · rw [if_neg hk]
    by_cases hm : l.length = 4000
    · rw [if_pos hm]
      exact rstep_many W rb x v ss j s q sv hd n B l T hw hr hst hk hm
    · rw [if_neg hm]
      cases hn : stepK (kindP x.data.toList) (tl ss) with
      | none => exact rstep_bad W rb x v ss j s q sv hd n B l T h6 hw hr hst hk (by omega) hsl hss hn
      | some p => exact rstep_ok W rb x v ss j s q sv hd n B l T h6 hw hr hst hB hk (by omega) hsl hss p hn
theorem WordsV.later {W W' : World} {v : Value} {ss : List ByteArray} (h : WordsV W v ss) (hb : Below W.heap.size W W') : WordsV W' v ss := by
  obtain ⟨a, c, rfl, h1, h2⟩ := h
  refine ⟨a, c, rfl, h1.below hb, fun b o e => ?_⟩
  obtain ⟨cur, hc⟩ := h2 b o e
  exact ⟨cur, (hb.block b (Array.getElem?_eq_some_iff.1 hc).1).trans hc⟩
theorem WordsV.none {W : World} {g o g' : Nat} {ss : List ByteArray} {n c : Nat} (h : WordsV W (.slice (some ⟨g, o, Option.none⟩) n c) ss) (h0 : ss = []) : WordsV W (.slice (some ⟨g, g', Option.none⟩) 0 0) ss := by
  subst h0
  obtain ⟨a, c, e, h1, h2⟩ := h
  cases e
  refine ⟨_, 0, rfl, ⟨by simp, by simp, .inl rfl⟩, fun b o' e => ?_⟩
  cases e
  exact h2 g o rfl
theorem head_ret {W : World} {rb : Nat} {j s q : Int} {sv : Value} {hd : Bool} {n : Int} {r : Except Int (Int × Int × Int)} {v : Value} {w' : World} (h : HeadPost W rb j s q sv hd n r (.returned v) w') : v = .tuple #[] := by
  cases r with
  | ok p => have := h.2.1; simpa using this
  | error c => have := h.2.1; simp [pan] at this
theorem head_out {W : World} {rb : Nat} {j s q : Int} {sv : Value} {hd : Bool} {n : Int} {r : Except Int (Int × Int × Int)} {w' : World} (h : HeadPost W rb j s q sv hd n r .outgrown w') : False := by
  cases r with
  | ok p => have := h.2.1; simp at this
  | error c => have := h.2.1; simp [pan] at this
theorem rstep_ret {W : World} {rb : Nat} {j s q : Int} {sv : Value} {hd : Bool} {n : Int} {B : Nat} {l : List Sq} {r : Except Int StepP} {v : Value} {w' : World} (h : RStepPost W rb j s q sv hd n B l r (.returned v) w') : v = .tuple #[] := by
  cases r with
  | ok p => have := h.2.1; simpa using this
  | error c => have := h.2.1; simp [pan] at this
theorem rstep_out {W : World} {rb : Nat} {j s q : Int} {sv : Value} {hd : Bool} {n : Int} {B : Nat} {l : List Sq} {r : Except Int StepP} {w' : World} (h : RStepPost W rb j s q sv hd n B l r .outgrown w') : False := by
  cases r with
  | ok p => have := h.2.1; simp at this
  | error c => have := h.2.1; simp [pan] at this
set_option maxHeartbeats 2000000 in
set_option maxRecDepth 1000000 in
theorem read_head (W : World) (rb : Nat) (x : ByteArray) (j s q : Int) (sv : Value) (n : Int) (hr : RdBox W rb j s q sv false n) (B : Nat) (l : List Sq) (T : Tabs W) (h6 : 6 ≤ rb) (hst : StepsAt W B sv l) (h0 : 0 ≤ n) (h1 : n ≤ 1073741823) (c : UInt8) (r : Tx) (hx : x.data.toList = c :: r) (hc : c ≠ 35) (hz : x.size ≤ 1048576) (y : Tx) (ys : List Tx) (hs : splitL x.data.toList = some (y :: ys)) :
    Calls Tryd.prog 13 #[.pointer (some ⟨rb, 0, none⟩), .string x] W fun e w' => ∃ w1, Below (W.setCell ⟨rb, 5, none⟩ (.int .i64 (n + 1))).heap.size (W.setCell ⟨rb, 5, none⟩ (.int .i64 (n + 1))) w1 ∧ HeadPost w1 rb j s q sv false (n + 1) (headP y ys) e w' := by
  obtain ⟨_, _, _, _, _, y5, yf, yl⟩ := hr.cells
  have y5f := yf 5
  have hi : IntKind.wrap .i64 (n + 1) = n + 1 := by rw [IntKind.wrap_i64]; omega
  have hse : (x.toList == []) = false := by rw [ByteArray.toList_eq, hx]; rfl
  obtain ⟨hp, hb⟩ := first_byte hx
  have hb2 : (((x[0]'hp).toNat : Int) == 35) = false := by
    rw [hb, beq_eq_false_iff_ne]
    intro e
    exact hc (UInt8.toNat_inj.1 (by have : (35 : UInt8).toNat = 35 := rfl; omega))
  have CS := hide (split_any x (W.setCell ⟨rb, 5, none⟩ (.int .i64 (n + 1))) (by omega))
  have HS := hide hs
  have HZ := hide (split_sizes hs)
  have HX : Hid (x.data.toList.length ≤ 1048576) := by show _ ≤ _; simpa using hz
  have HR := hide (rd_count (m := n + 1) T h6 hr hst)
  clear T hst
  clear hb hx yf hr hs
  go_enter Tryd.func13, Tryd.ntmps13
  go_wp2_with (go_at_call 31
               refine CS.out.mono ?_
               rintro e w1 ⟨b1, h1⟩
               rcases h1 with ⟨h2, _⟩ | ⟨ws, g, cap, h2, rfl, h3, h4⟩
               · exact absurd (HS.out.symm.trans h2) (by simp)
               have HB1 := hide b1
               have HW := hide (And.intro (Option.some.inj (HS.out.symm.trans h2)) h4)
               have hcl : ws.length ≤ cap := by
                 rcases h4.2 with ⟨hv, _⟩ | ⟨g', cap', cur, hv, _, _, hx⟩
                 · cases hv
                 · cases hv; exact hx.1
               obtain ⟨wl, hwl⟩ : ∃ wl, ws.length = wl := ⟨_, rfl⟩
               rw [hwl] at hcl ⊢
               have HWL := hide hwl
               clear b1 h2 h3 h4 hwl)
  cases ws with
  | nil => exact absurd HW.out.1 (by simp)
  | cons z zs =>
  obtain ⟨hz1, hz2⟩ := List.cons.inj HW.out.1
  have hlen : (z :: zs).length ≤ 1048577 := by have := HZ.out.1; have := HX.out; have e := congrArg List.length HW.out.1; simp only [List.length_map] at e; omega
  have hws := words_tail HW.out.2 hlen
  obtain ⟨g0, _, g1⟩ := hws
  have hl1 : zs.length + 1 = wl := HWL.out
  subst hl1
  have HG := hide g1
  have y4 : w1.cell? ⟨rb, 4, none⟩ = some (.bool false) := (rd_later HR.out.2.2.1 HB1.out).cells.2.2.2.2.1
  have i1 : (0 : Int) < (zs.length : Int) + 1 := by omega
  have i2 : (1 : Int) ≤ (zs.length : Int) + 1 := by omega
  have CC : Hid (∀ X v, Below w1.heap.size w1 X → WordsV w1 v zs → Calls Tryd.prog 33 #[.pointer (some ⟨rb, 0, none⟩), .string z, v] X (HeadPost X rb j s q sv false (n + 1) (headP y ys))) := fun X v hX hv => by
    have HB2 := HB1.out.trans (hX.mono HB1.out.size)
    rw [show y = z.data.toList from hz1, show ys = tl zs from hz2]
    exact head_all X rb z v zs j s q sv false (n + 1) (hv.later hX) (rd_later HR.out.2.2.1 HB2)
  clear hz1 hz2 g1 hlen
  by_cases hcap : cap = 1
  · subst hcap
    have hz0 : zs = [] := List.eq_nil_of_length_eq_zero (by omega)
    have HG0 := hide (HG.out.none (g' := 0) hz0)
    go_quiet (fail)
    generalize hWd : w1.drewN _ = Wd
    have HBd : Hid (Below w1.heap.size w1 Wd) := by rw [← hWd]; exact ⟨rfl, rfl, rfl, Nat.le_refl _, fun _ _ => rfl⟩
    have y4d : Wd.cell? ⟨rb, 4, none⟩ = some (.bool false) := by rw [← hWd]; exact y4
    clear hWd y4
    go_wp2_with (go_at_call 33
                 refine (CC.out Wd _ HBd.out HG0.out).mono ?_
                 intro e w2 h2
                 have H2 := hide h2
                 clear h2
                 rcases e with v | ch | _
                 rotate_right
                 · exact (head_out H2.out).elim)
    · obtain rfl := head_ret H2.out
      go_end0
      exact ⟨Wd, HB1.out.trans (HBd.out.mono HB1.out.size), H2.out⟩
    · exact ⟨rfl, Wd, HB1.out.trans (HBd.out.mono HB1.out.size), H2.out⟩
  · go_quiet (fail)
    generalize hWd : w1.drewN _ = Wd
    have HBd : Hid (Below w1.heap.size w1 Wd) := by rw [← hWd]; exact ⟨rfl, rfl, rfl, Nat.le_refl _, fun _ _ => rfl⟩
    have y4d : Wd.cell? ⟨rb, 4, none⟩ = some (.bool false) := by rw [← hWd]; exact y4
    clear hWd y4
    go_wp2_with (go_at_call 33
                 refine (CC.out Wd _ HBd.out HG.out).mono ?_
                 intro e w2 h2
                 have H2 := hide h2
                 clear h2
                 rcases e with v | ch | _
                 rotate_right
                 · exact (head_out H2.out).elim)
    · obtain rfl := head_ret H2.out
      go_end0
      exact ⟨Wd, HB1.out.trans (HBd.out.mono HB1.out.size), H2.out⟩
    · exact ⟨rfl, Wd, HB1.out.trans (HBd.out.mono HB1.out.size), H2.out⟩
set_option maxHeartbeats 2000000 in
set_option maxRecDepth 1000000 in
theorem read_step (W : World) (rb : Nat) (x : ByteArray) (j s q : Int) (sv : Value) (n : Int) (hr : RdBox W rb j s q sv true n) (B : Nat) (l : List Sq) (T : Tabs W) (h6 : 6 ≤ rb) (hst : StepsAt W B sv l) (hB : B ≤ W.heap.size) (hl4 : l.length ≤ 4000) (h0 : 0 ≤ n) (h1 : n ≤ 1073741823) (c : UInt8) (r : Tx) (hx : x.data.toList = c :: r) (hc : c ≠ 35) (hz : x.size ≤ 1048576) (y : Tx) (ys : List Tx) (hs : splitL x.data.toList = some (y :: ys)) :
    Calls Tryd.prog 13 #[.pointer (some ⟨rb, 0, none⟩), .string x] W fun e w' => ∃ w1, Below (W.setCell ⟨rb, 5, none⟩ (.int .i64 (n + 1))).heap.size (W.setCell ⟨rb, 5, none⟩ (.int .i64 (n + 1))) w1 ∧ RStepPost w1 rb j s q sv true (n + 1) B l (rstepP y l.length ys) e w' := by
  obtain ⟨_, _, _, _, _, y5, yf, yl⟩ := hr.cells
  have y5f := yf 5
  have hi : IntKind.wrap .i64 (n + 1) = n + 1 := by rw [IntKind.wrap_i64]; omega
  have hse : (x.toList == []) = false := by rw [ByteArray.toList_eq, hx]; rfl
  obtain ⟨hp, hb⟩ := first_byte hx
  have hb2 : (((x[0]'hp).toNat : Int) == 35) = false := by
    rw [hb, beq_eq_false_iff_ne]
    intro e
    exact hc (UInt8.toNat_inj.1 (by have : (35 : UInt8).toNat = 35 := rfl; omega))
  have CS := hide (split_any x (W.setCell ⟨rb, 5, none⟩ (.int .i64 (n + 1))) (by omega))
  have HS := hide hs
  have HZ := hide (split_sizes hs)
  have HX : Hid (x.data.toList.length ≤ 1048576) := by show _ ≤ _; simpa using hz
  have HR := hide (rd_count (m := n + 1) T h6 hr hst)
  clear T hst
  clear hb hx yf hr hs
  go_enter Tryd.func13, Tryd.ntmps13
  go_wp2_with (go_at_call 31
               refine CS.out.mono ?_
               rintro e w1 ⟨b1, h1⟩
               rcases h1 with ⟨h2, _⟩ | ⟨ws, g, cap, h2, rfl, h3, h4⟩
               · exact absurd (HS.out.symm.trans h2) (by simp)
               have HB1 := hide b1
               have HW := hide (And.intro (Option.some.inj (HS.out.symm.trans h2)) h4)
               have hcl : ws.length ≤ cap := by
                 rcases h4.2 with ⟨hv, _⟩ | ⟨g', cap', cur, hv, _, _, hx⟩
                 · cases hv
                 · cases hv; exact hx.1
               obtain ⟨wl, hwl⟩ : ∃ wl, ws.length = wl := ⟨_, rfl⟩
               rw [hwl] at hcl ⊢
               have HWL := hide hwl
               clear b1 h2 h3 h4 hwl)
  cases ws with
  | nil => exact absurd HW.out.1 (by simp)
  | cons z zs =>
  obtain ⟨hz1, hz2⟩ := List.cons.inj HW.out.1
  have hlen : (z :: zs).length ≤ 1048577 := by have := HZ.out.1; have := HX.out; have e := congrArg List.length HW.out.1; simp only [List.length_map] at e; omega
  have hws := words_tail HW.out.2 hlen
  obtain ⟨g0, _, g1⟩ := hws
  have hl1 : zs.length + 1 = wl := HWL.out
  subst hl1
  have HG := hide g1
  have y4 : w1.cell? ⟨rb, 4, none⟩ = some (.bool true) := (rd_later HR.out.2.2.1 HB1.out).cells.2.2.2.2.1
  have i1 : (0 : Int) < (zs.length : Int) + 1 := by omega
  have i2 : (1 : Int) ≤ (zs.length : Int) + 1 := by omega
  have CC : Hid (∀ X v, Below w1.heap.size w1 X → WordsV w1 v zs → Calls Tryd.prog 32 #[.pointer (some ⟨rb, 0, none⟩), .string z, v] X (RStepPost X rb j s q sv true (n + 1) B l (rstepP y l.length ys))) := fun X v hX hv => by
    have HB2 := HB1.out.trans (hX.mono HB1.out.size)
    rw [show y = z.data.toList from hz1, show ys = tl zs from hz2]
    have hsz : (W.setCell ⟨rb, 5, none⟩ (.int .i64 (n + 1))).heap.size = W.heap.size := by simp
    have h7 := HB2.size
    refine rstep_all X rb z v zs j s q sv true (n + 1) B l (HR.out.2.1.below HB2) (by omega) (hv.later hX) (rd_later HR.out.2.2.1 HB2) (HR.out.2.2.2.kept (P := fun _ => False) (Kept.ofBelow HB2) (fun _ _ h => h) (fun _ _ => ⟨fun _ _ h => h, fun _ _ h => h⟩)) (by omega) hl4 (by simp at hlen; omega) (fun u hu => ?_)
    have := HZ.out.2 u.data.toList (by rw [HW.out.1]; exact List.mem_map.2 ⟨u, by simp [hu], rfl⟩)
    have e : u.data.toList.length = u.size := by simp
    have := HX.out
    omega
  clear hz1 hz2 g1 hlen
  by_cases hcap : cap = 1
  · subst hcap
    have hz0 : zs = [] := List.eq_nil_of_length_eq_zero (by omega)
    have HG0 := hide (HG.out.none (g' := 0) hz0)
    go_quiet (fail)
    generalize hWd : w1.drewN _ = Wd
    have HBd : Hid (Below w1.heap.size w1 Wd) := by rw [← hWd]; exact ⟨rfl, rfl, rfl, Nat.le_refl _, fun _ _ => rfl⟩
    have y4d : Wd.cell? ⟨rb, 4, none⟩ = some (.bool true) := by rw [← hWd]; exact y4
    clear hWd y4
    go_wp2_with (go_at_call 32
                 refine (CC.out Wd _ HBd.out HG0.out).mono ?_
                 intro e w2 h2
                 have H2 := hide h2
                 clear h2
                 rcases e with v | ch | _
                 rotate_right
                 · exact (rstep_out H2.out).elim)
    · obtain rfl := rstep_ret H2.out
      go_end0
      exact ⟨Wd, HB1.out.trans (HBd.out.mono HB1.out.size), H2.out⟩
    · exact ⟨rfl, Wd, HB1.out.trans (HBd.out.mono HB1.out.size), H2.out⟩
  · go_quiet (fail)
    generalize hWd : w1.drewN _ = Wd
    have HBd : Hid (Below w1.heap.size w1 Wd) := by rw [← hWd]; exact ⟨rfl, rfl, rfl, Nat.le_refl _, fun _ _ => rfl⟩
    have y4d : Wd.cell? ⟨rb, 4, none⟩ = some (.bool true) := by rw [← hWd]; exact y4
    clear hWd y4
    go_wp2_with (go_at_call 32
                 refine (CC.out Wd _ HBd.out HG.out).mono ?_
                 intro e w2 h2
                 have H2 := hide h2
                 clear h2
                 rcases e with v | ch | _
                 rotate_right
                 · exact (rstep_out H2.out).elim)
    · obtain rfl := rstep_ret H2.out
      go_end0
      exact ⟨Wd, HB1.out.trans (HBd.out.mono HB1.out.size), H2.out⟩
    · exact ⟨rfl, Wd, HB1.out.trans (HBd.out.mono HB1.out.size), H2.out⟩
end Go.Proofs.YteaccpolmmkclaaDoor

namespace Go.Proofs.YteaccpolmmkclaaDoor
open Go.RowKit

theorem split_ne {l : Tx} (h : splitL l = some []) : False := by
  unfold splitL at h
  split at h
  · have hn : ∀ (l cur : Tx), pieces l cur ≠ [] := by
      intro l
      induction l with
      | nil => intro cur; simp [pieces]
      | cons c r ih =>
        intro cur
        rw [pieces]
        split
        · simp
        · exact ih _
    exact hn l [] (Option.some.inj h)
  · cases h
theorem line_few {st st' : Rd} {x : Tx} (h : lineP st x = .ok st') (hf : st.steps.length ≤ 4000) : st'.steps.length ≤ 4000 := by
  unfold lineP at h
  split at h
  · cases h; exact hf
  · split at h
    · cases h; exact hf
    · split at h
      · cases h
      · cases h
      · rename_i y l hs
        split at h
        · cases hr : rstepP y st.steps.length l with
          | error e => rw [hr] at h; cases h
          | ok p =>
            rw [hr] at h
            cases h
            unfold rstepP at hr
            split at hr
            · cases hr
            · split at hr
              · cases hr
              · simp only [List.length_append, List.length_cons, List.length_nil]
                omega
        · cases hr : headP y l with
          | error e => rw [hr] at h; cases h
          | ok p =>
            obtain ⟨a, b, c⟩ := p
            rw [hr] at h
            cases h
            exact hf
theorem read_any (W : World) (rb : Nat) (x : ByteArray) (st : Rd) (sv : Value) (n : Int) (B : Nat) (l : List Sq) (hap : ApartS l) (T : Tabs W) (h6 : 6 ≤ rb) (hr : RdBox W rb st.j st.s st.q sv st.hd n) (hst : StepsAt W B sv l) (hlp : l.map (·.p) = st.steps) (hB : B ≤ W.heap.size) (hl4 : l.length ≤ 4000) (h0 : 0 ≤ n) (h1 : n ≤ 1073741823) (hz : x.size ≤ 1048576) :
    Calls Tryd.prog 13 #[.pointer (some ⟨rb, 0, none⟩), .string x] W (ReadPost W rb sv n B (lineP st x.data.toList)) := by
  have hc := rd_count (m := n + 1) T h6 hr hst
  have hpass : (x.data.toList = [] ∨ ∃ r, x.data.toList = 35 :: r) → lineP st x.data.toList = .ok st → Calls Tryd.prog 13 #[.pointer (some ⟨rb, 0, none⟩), .string x] W (ReadPost W rb sv n B (lineP st x.data.toList)) := fun hx he => by
    rw [he]
    refine (read_pass W rb x _ _ _ sv _ n hr h0 h1 hx).mono ?_
    rintro e w' ⟨rfl, rfl⟩
    exact ⟨hc.1.mono (fun i _ h => .inl h), rfl, sv, l, hc.2.2.1, hc.2.2.2, hlp, .inl rfl, hap⟩
  cases hx : x.data.toList with
  | nil => rw [← hx]; exact hpass (.inl hx) (by rw [hx]; rfl)
  | cons c r =>
    by_cases h35 : c = 35
    · subst h35
      rw [← hx]
      exact hpass (.inr ⟨r, hx⟩) (by rw [hx]; unfold lineP; simp)
    · cases hs : splitL (c :: r) with
      | none =>
        have he : lineP st (c :: r) = .error 191 := by
          unfold lineP
          simp only []
          rw [if_neg h35, hs]
        rw [he]
        refine (read_bad W rb x _ _ _ sv _ n hr h0 h1 c r hx h35 hz (by rw [hx]; exact hs)).mono ?_
        rintro e w' ⟨rfl, hb⟩
        exact ⟨(hc.1.mono (fun i _ h => .inl h)).trans (Kept.ofBelow hb), rfl, _, _, _, _, _, rd_later hc.2.2.1 hb⟩
      | some ws =>
        cases ws with
        | nil => exact (split_ne hs).elim
        | cons y ys =>
          cases hd : st.hd with
          | true =>
            rw [hd] at hr hc
            refine (read_step W rb x _ _ _ sv n hr B l T h6 hst hB hl4 h0 h1 c r hx h35 hz y ys (by rw [hx]; exact hs)).mono ?_
            rintro e w' ⟨w1, hb, k, hp⟩
            have K : Kept (fun i => i = rb ∨ sv.ownBlock = some i) W w' := ((hc.1.mono (fun i _ h => .inl h)).trans (Kept.ofBelow hb)).trans k
            have hlen : l.length = st.steps.length := by rw [← hlp]; simp
            have he : lineP st (c :: r) = match rstepP y l.length ys with | .ok p => .ok { st with steps := st.steps ++ [p] } | .error e => .error e := by
              unfold lineP
              simp only []
              rw [if_neg h35, hs, hlen]
              simp only []
              rw [hd]
              simp only [if_true]
              cases rstepP y st.steps.length ys <;> rfl
            rw [he]
            cases hq : rstepP y l.length ys with
            | error c =>
              rw [hq] at hp
              exact ⟨K, hp.1, _, _, _, _, _, hp.2⟩
            | ok p =>
              rw [hq] at hp
              obtain ⟨rfl, sv', dv, kv, a1, a2, a3, a4, a5⟩ := hp
              have hw1 : W.heap.size ≤ w1.heap.size := by
                have := hb.size
                have e : (W.setCell ⟨rb, 5, none⟩ (.int .i64 (n + 1))).heap.size = W.heap.size := by simp
                omega
              refine ⟨K, rfl, sv', _, ?_, a2, ?_, ?_, hap.snoc hst (fun g hg => Nat.le_trans hw1 (a4 g hg)) (fun g hg => Nat.le_trans hw1 (a5 g hg))⟩
              · show RdBox w' rb st.j st.s st.q sv' st.hd (n + 1)
                rw [hd]
                exact a1
              · simp [hlp]
              · rcases a3 with a3 | a3
                · exact .inl a3
                · refine .inr (fun g hg => ?_)
                  have := a3 g hg
                  have := hb.size
                  have e : (W.setCell ⟨rb, 5, none⟩ (.int .i64 (n + 1))).heap.size = W.heap.size := by simp
                  omega
          | false =>
            rw [hd] at hr hc
            refine (read_head W rb x _ _ _ sv n hr B l T h6 hst h0 h1 c r hx h35 hz y ys (by rw [hx]; exact hs)).mono ?_
            rintro e w' ⟨w1, hb, k, hp⟩
            have hnr := rd_not_rows (rd_later hc.2.2.1 hb) (hc.2.2.2.kept (P := fun _ => False) (Kept.ofBelow hb) (fun _ _ h => h) (fun _ _ => ⟨fun _ _ h => h, fun _ _ h => h⟩))
            have K : Kept (fun i => i = rb ∨ sv.ownBlock = some i) W w' := ((hc.1.mono (fun i _ h => .inl h)).trans (Kept.ofBelow hb)).trans (k.mono (fun i _ h => .inl h))
            have S1 : StepsAt w' B sv l := (hc.2.2.2.kept (P := fun _ => False) (Kept.ofBelow hb) (fun _ _ h => h) (fun _ _ => ⟨fun _ _ h => h, fun _ _ h => h⟩)).kept k hnr.1 hnr.2
            have he : lineP st (c :: r) = match headP y ys with | .ok (a, b, c) => .ok { st with hd := true, j := a, s := b, q := c } | .error e => .error e := by
              unfold lineP
              simp only []
              rw [if_neg h35, hs]
              simp only []
              rw [hd]
              simp only [Bool.false_eq_true, if_false]
              cases headP y ys <;> rfl
            rw [he]
            cases hq : headP y ys with
            | error c =>
              rw [hq] at hp
              exact ⟨K, hp.1, _, _, _, _, _, hp.2⟩
            | ok p =>
              obtain ⟨a, b, c⟩ := p
              rw [hq] at hp
              exact ⟨K, hp.1, sv, l, hp.2, S1, hlp, .inl rfl, hap⟩
end Go.Proofs.YteaccpolmmkclaaDoor
