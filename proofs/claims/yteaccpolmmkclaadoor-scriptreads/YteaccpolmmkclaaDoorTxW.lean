/-
  TextA, WrtW.
-/
import Derived.Test.YteaccpolmmkclaaDoorMemA
import Derived.Lib.AppendStr
import Derived.Test.YteaccpolmmkclaaDoorPanA
import Derived.Test.YteaccpolmmkclaaDoorPrint
import Derived.Test.YteaccpolmmkclaaDoorPlB
namespace Go.Proofs.YteaccpolmmkclaaDoor
open Go.RowKit

/-- 'append' of a text onto bytes of the call's own. -/
theorem wpList_append_text {w : World} {ops : Array Oper} {rest : List Oper} {o : Oper} {a : Act} {Q : Exit → Act → World → Prop} (hgd : o.guard = none) (s x : Operand)
    (ho : o.op = .call { callee := .builtin .append, args := #[s, x], argTypes := #[37, 9] })
    (B : Nat) (v : Value) (l : List UInt8) (hs : a.eval s = v) (hown : Own w B v l) (t : ByteArray) (hx : a.eval x = .string t)
    (hb : l.length + t.size ≤ 140737488355328) (hbase : B ≤ w.heap.size)
    (h : ∀ v' w', Own w' B v' (l ++ t.data.toList) → w.grownBy w' v.ownBlock → wpList Tryd.prog ops Q rest (a.put o.dst v') w') : wpList Tryd.prog ops Q (o :: rest) a w := by
  obtain ⟨i, hi, hz0, hz1, hz2⟩ := info_parts info_u8
  refine Lib.wpList_append_own_string w hgd s x 37 9 ho B 5 i Tryd.underlying37 Tryd.underlying9 hi hz0 hz1 hz2 v l.length (u8s l) hs hown t hx (by unfold maxLen; omega) hb hbase ?_
  intro v' w' h1 h2 _
  refine h v' w' ?_ h2
  unfold Own
  have e : t.data.toList.length = t.size := by simp
  rw [List.length_append, e, show u8s (l ++ t.data.toList) = u8s l ++ Lib.strCells t by simp [u8s, Lib.strCells]]
  exact h1

end Go.Proofs.YteaccpolmmkclaaDoor

namespace Go.Proofs.YteaccpolmmkclaaDoor
open Go.RowKit

/-- The writer at tb, with its text. -/
def WtAt (w : World) (B tb : Nat) (t : Tx) : Prop := ∃ v, w.heap[tb]? = some (.cells #[v] 68 (0, 0)) ∧ Own w B v t ∧ B ≤ tb
/-- The blocks that writing may turn. -/
def Wr (B tb : Nat) (W : World) (i : Nat) : Prop := B ≤ i ∧ (i = tb ∨ ∃ cur, W.heap[i]? = some (.cells cur 5 (0, 0)))
theorem Wr.trans {B tb : Nat} {W w1 w2 : World} (h1 : Kept (Wr B tb W) W w1) (h2 : Kept (Wr B tb w1) w1 w2) : Kept (Wr B tb W) W w2 := by
  refine h1.step h2 (fun j hj h => ?_)
  by_cases hp : Wr B tb W j
  · exact hp
  · refine ⟨h.1, ?_⟩
    rcases h.2 with e | ⟨cur, e⟩
    · exact .inl e
    · exact .inr ⟨cur, (h1.block j hj hp).symm.trans e⟩
theorem WtAt.lt {w : World} {B tb : Nat} {t : Tx} (h : WtAt w B tb t) : tb < w.heap.size := by
  obtain ⟨v, h, _⟩ := h
  exact (Array.getElem?_eq_some_iff.1 h).1
theorem WtAt.later {w w' : World} {B tb : Nat} {t : Tx} (h : WtAt w B tb t) (hb : Below w.heap.size w w') : WtAt w' B tb t := by
  have hl := h.lt
  obtain ⟨v, h1, h2, h3⟩ := h
  exact ⟨v, (hb.block tb hl).trans h1, h2.below hb, h3⟩
theorem own8_type {w : World} {B : Nat} {v : Value} {l : List UInt8} (h : Own w B v l) {g : Nat} (hg : v.ownBlock = some g) : B ≤ g ∧ ∃ cur, w.heap[g]? = some (.cells cur 5 (0, 0)) := by
  rcases h.2 with ⟨rfl, _⟩ | ⟨g', cap, cur, rfl, hB, hc, _⟩
  · cases hg
  · cases hg
    exact ⟨hB, cur, hc⟩
/-- What writing a piece leaves. -/
def AddPost (W : World) (B tb : Nat) (t s : Tx) (e : Ending) (w' : World) : Prop :=
  Kept (Wr B tb W) W w' ∧ (((t ++ s).length ≤ 1048576 ∧ e = .returned (.tuple #[]) ∧ WtAt w' B tb (t ++ s)) ∨ (1048576 < (t ++ s).length ∧ e = pan 193))
theorem add_done {w1 w2 : World} {B tb : Nat} {v v2 : Value} {t s : Tx} (h : w1.heap[tb]? = some (.cells #[v] 68 (0, 0))) (ho : Own w1 B v t) (hB : B ≤ tb) (o2 : Own w2 B v2 (t ++ s)) (g2 : w1.grownBy w2 v.ownBlock) :
    Kept (Wr B tb w1) w1 (w2.setCell ⟨tb, 0, none⟩ v2) ∧ WtAt (w2.setCell ⟨tb, 0, none⟩ v2) B tb (t ++ s) := by
  have hn : ∀ g, v.ownBlock = some g → g ≠ tb := fun g hg e => by
    obtain ⟨_, cur, hc⟩ := own8_type ho hg
    rw [e, h] at hc
    simp at hc
  have k1 : Kept (Wr B tb w1) w1 w2 := Kept.ofGrown g2 (fun g hg => ⟨(own8_type ho hg).1, .inr (own8_type ho hg).2⟩)
  have hl := (Array.getElem?_eq_some_iff.1 h).1
  have h2 : w2.heap[tb]? = some (.cells #[v] 68 (0, 0)) := (g2.block tb hl (fun e => hn tb e.symm rfl)).trans h
  have k2 : Kept (fun i => i = tb) w2 (w2.setCell ⟨tb, 0, none⟩ v2) := Kept.setCell _ _ _ _ _ rfl
  refine ⟨k1.step k2 (fun j _ e => ⟨by omega, .inl e⟩), v2, (set_cells h2 0 v2).1, Kept.own k2 o2 (fun g hg e => ?_), hB⟩
  obtain ⟨_, cur, hc⟩ := own8_type o2 hg
  rw [e, h2] at hc
  simp at hc
set_option maxHeartbeats 1000000 in
set_option maxRecDepth 1000000 in
theorem add_any (W : World) (B tb : Nat) (t : Tx) (s : ByteArray) (h : WtAt W B tb t) (hBW : B ≤ W.heap.size) (ht : t.length ≤ 1048576) (hs : s.size ≤ 1073741823) :
    Calls Tryd.prog 42 #[.pointer (some ⟨tb, 0, none⟩), .string s] W (AddPost W B tb t s.data.toList) := by
  obtain ⟨v, h1, h2, h3⟩ := h
  obtain ⟨av, cv, rfl, _⟩ := h2.shape
  have c0 : W.cell? ⟨tb, 0, none⟩ = some (.slice av t.length cv) := by simp [World.cell?, h1]
  have f0 : W.frozen? ⟨tb, 0, none⟩ = false := by simp [World.frozen?, h1]
  have hl := (Array.getElem?_eq_some_iff.1 h1).1
  have e1 : (t ++ s.data.toList).length = t.length + s.size := by simp
  have HO := hide (And.intro h1 (And.intro h2 h3))
  obtain ⟨tl', htl⟩ : ∃ n, t.length = n := ⟨_, rfl⟩
  obtain ⟨sl, hsl⟩ : ∃ n, s.size = n := ⟨_, rfl⟩
  have HE := hide (And.intro e1 (And.intro htl hsl))
  rw [htl] at c0 ht
  rw [hsl] at hs
  rw [htl] at HO
  clear e1 h1 h2 h3 htl
  by_cases hm : tl' + sl ≤ 1048576
  · go_enter Tryd.func42, Tryd.ntmps42
    go_wp2_with (at_builtin
                 refine wpList_append_text rfl (.tmp 18) (.tmp 19) rfl B (.slice av tl' cv) t rfl HO.out.2.1 s rfl (by have := HE.out.2.1; have := HE.out.2.2; omega) hBW ?_
                 intro v2 w2 o2 g2
                 have HA := hide (add_done HO.out.1 HO.out.2.1 HO.out.2.2 o2 g2)
                 obtain ⟨a2, c2, hv2, _⟩ := o2.shape
                 rw [HE.out.1, HE.out.2.1, HE.out.2.2] at hv2
                 subst hv2
                 have hw2 : w2.heap[tb]? = some (.cells #[.slice av tl' cv] 68 (0, 0)) := (g2.block tb hl (fun e => by obtain ⟨_, cur, hc⟩ := own8_type HO.out.2.1 e.symm; rw [HO.out.1] at hc; simp at hc)).trans HO.out.1
                 have d2 : w2.cell? ⟨tb, 0, none⟩ = some (.slice av tl' cv) := by simp [World.cell?, hw2]
                 have f2 : w2.frozen? ⟨tb, 0, none⟩ = false := by simp [World.frozen?, hw2]
                 clear o2 g2 hw2)
    go_end0
    exact ⟨HA.out.1, .inl ⟨by have := HE.out; omega, rfl, HA.out.2⟩⟩
  · unfold AddPost pan
    go_enter Tryd.func42, Tryd.ntmps42
    go_wp2_with fail
    exact ⟨rfl, Kept.refl _ W, .inr ⟨by have := HE.out; omega, rfl⟩⟩
set_option maxHeartbeats 1000000 in
set_option maxRecDepth 1000000 in
theorem word_anyW (W : World) (B tb : Nat) (t : Tx) (s : ByteArray) (h : WtAt W B tb t) (hBW : B ≤ W.heap.size) (ht : t.length ≤ 1048576) (hs : s.size ≤ 1048576) :
    Calls Tryd.prog 45 #[.pointer (some ⟨tb, 0, none⟩), .string s] W (AddPost W B tb t (32 :: s.data.toList)) := by
  have CA : Hid (∀ x : ByteArray, x.data.toList = 32 :: s.data.toList → Calls Tryd.prog 42 #[.pointer (some ⟨tb, 0, none⟩), .string x] W (AddPost W B tb t (32 :: s.data.toList))) := fun x hx => by
    rw [← hx]
    refine add_any W B tb t x h hBW ht ?_
    have : x.data.toList.length = x.size := by simp
    have h2 : s.data.toList.length = s.size := by simp
    rw [hx, List.length_cons] at this
    omega
  clear h
  go_enter Tryd.func45, Tryd.ntmps45
  go_wp2_with (go_at_call 42
               refine (CA.out _ (by simp)).mono ?_
               rintro e w1 ⟨k1, ⟨h1, rfl, h3⟩ | ⟨h1, he⟩⟩
               all_goals try (unfold pan at he; subst he))
  · go_end0
    exact ⟨k1, .inl ⟨h1, rfl, h3⟩⟩
  · exact ⟨rfl, k1, .inr ⟨h1, rfl⟩⟩
theorem AddPost.after {W w1 w2 : World} {B tb : Nat} {t s : Tx} {e : Ending} (h1 : Kept (Wr B tb W) W w1) (h : AddPost w1 B tb t s e w2) : AddPost W B tb t s e w2 := ⟨Wr.trans h1 h.1, h.2⟩
theorem Wr.ofBelow {W w1 : World} {B tb : Nat} (h : Below W.heap.size W w1) : Kept (Wr B tb W) W w1 := Kept.ofBelow h
theorem itoa_short {n : Int} (h0 : 0 ≤ n) (h1 : n ≤ maxWord) : (printL n).length ≤ 19 := by
  rw [print_dec h0]
  have : ∀ (k u : Nat), u < 10 ^ (k + 1) → (Lib.decDigits u).length ≤ k + 1 := by
    intro k
    induction k with
    | zero => intro u h; rw [dec_small (by simpa using h)]; simp
    | succ k ih =>
      intro u h
      by_cases hs : u < 10
      · rw [dec_small hs]; simp
      · have := ih (u / 10) (by rw [Nat.pow_succ] at h; omega)
        rw [dec_big hs]
        simp
        omega
  have h2 : n.toNat < 10 ^ (18 + 1) := by
    unfold maxWord at h1
    omega
  exact this 18 _ h2
set_option maxHeartbeats 1000000 in
set_option maxRecDepth 1000000 in
theorem number_anyW (W : World) (B tb : Nat) (t : Tx) (n : Int) (T : Tabs W) (h : WtAt W B tb t) (hBW : B ≤ W.heap.size) (ht : t.length ≤ 1048576) (h0 : 0 ≤ n) (h1 : n ≤ maxWord) :
    Calls Tryd.prog 43 #[.pointer (some ⟨tb, 0, none⟩), .int .i64 n] W (AddPost W B tb t (32 :: printL n)) := by
  have hs := itoa_short h0 h1
  have CP := hide (print_any n W (by omega) (by unfold maxWord at h1; omega) T.pow)
  have CW : Hid (∀ w1, Below W.heap.size W w1 → Calls Tryd.prog 45 #[.pointer (some ⟨tb, 0, none⟩), .string ⟨(printL n).toArray⟩] w1 (AddPost w1 B tb t (32 :: printL n))) := fun w1 hb => by
    have := word_anyW w1 B tb t ⟨(printL n).toArray⟩ (h.later hb) (Nat.le_trans hBW hb.size) ht (by show (printL n).toArray.size ≤ _; simp; omega)
    simpa using this
  clear h T hs
  go_enter Tryd.func43, Tryd.ntmps43
  go_wp2_with (first
    | (go_at_call 55
       refine CP.out.mono ?_
       rintro e w1 ⟨rfl, b1⟩
       have HB1 := hide b1
       clear b1)
    | (go_at_call 45
       refine (CW.out _ HB1.out).mono ?_
       rintro e w2 ⟨k1, ⟨h1, rfl, h3⟩ | ⟨h1, he⟩⟩
       all_goals try (unfold pan at he; subst he)))
  · go_end0
    exact ⟨Wr.trans (Wr.ofBelow HB1.out) k1, .inl ⟨h1, rfl, h3⟩⟩
  · exact ⟨rfl, Wr.trans (Wr.ofBelow HB1.out) k1, .inr ⟨h1, rfl⟩⟩
set_option maxHeartbeats 1000000 in
set_option maxRecDepth 1000000 in
theorem checkNumber_yes (W : World) (n : Int) (b : Bool) (h : numOkB n b = true) :
    Calls Tryd.prog 44 #[.int .i64 n, .bool b] W fun e w' => e = .returned (.tuple #[]) ∧ w' = W := by
  unfold numOkB maxWord at h
  simp only [Bool.and_eq_true, decide_eq_true_eq, Bool.or_eq_true, beq_iff_eq] at h
  obtain ⟨⟨h0, h1⟩, h2⟩ := h
  cases b
  · have hn : n = 0 := by simpa using h2
    subst hn
    go_enter Tryd.func44, Tryd.ntmps44
    go_wp2
    go_end0
    exact ⟨rfl, rfl⟩
  · clear h2
    by_cases hn : n = 0
    · subst hn
      go_enter Tryd.func44, Tryd.ntmps44
      go_wp2
      go_end0
      exact ⟨rfl, rfl⟩
    · have hb : (n != 0) = true := by simpa using hn
      go_enter Tryd.func44, Tryd.ntmps44
      go_wp2
      go_end0
      exact ⟨rfl, rfl⟩
set_option maxHeartbeats 1000000 in
set_option maxRecDepth 1000000 in
theorem checkNumber_no (W : World) (n : Int) (b : Bool) (h : numOkB n b = false) :
    Calls Tryd.prog 44 #[.int .i64 n, .bool b] W fun e w' => e = pan 192 ∧ w' = W := by
  unfold pan
  unfold numOkB maxWord at h
  by_cases h0 : n < 0
  · clear h
    go_enter Tryd.func44, Tryd.ntmps44
    go_wp2
    exact ⟨rfl, rfl, rfl⟩
  · by_cases h1 : 4611686018427387903 < n
    · clear h
      go_enter Tryd.func44, Tryd.ntmps44
      go_wp2
      exact ⟨rfl, rfl, rfl⟩
    · have e0 : decide (0 ≤ n) = true := by simpa using h0
      have e1 : decide (n ≤ 4611686018427387903) = true := by simpa using h1
      rw [e0, e1] at h
      cases b
      · have hb : (n != 0) = true := by simpa using h
        clear h
        go_enter Tryd.func44, Tryd.ntmps44
        go_wp2
        exact ⟨rfl, rfl, rfl⟩
      · simp at h
end Go.Proofs.YteaccpolmmkclaaDoor
