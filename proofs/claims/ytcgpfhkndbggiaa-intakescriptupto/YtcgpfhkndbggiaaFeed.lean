/-
  The walk of Feed.
-/
import Derived.Test.YtcgpfhkndbggiaaTurn
import Derived.Deep.RegionLaw
namespace Go.Proofs.Ytcgpfhkndbggiaa
open Go.RowKit

theorem step_append8 {ops : Array Oper} {o : Oper} {a : Act} {K : Act → World → Prop} {Q : Exit → Act → World → Prop} {E : Prop} (hgd : o.guard = none) (s x : Operand)
    (ho : o.op = .call { callee := .builtin .append, args := #[s, x], argTypes := #[30, 30] })
    (w : World) (B : Nat) (v : Value) (l : List UInt8) (hs : a.eval s = v) (hown : Own w B v l) (ad : Option Addr) (c M L : Nat) (m : List UInt8) (hM : m.length = M) (hL : l.length + m.length = L) (hx : a.eval x = .slice ad M c) (hm : IsBytes w ad c m)
    (hb : L ≤ 140737488355328) (hbase : B ≤ w.heap.size)
    (h : ∀ a' c' w', Own w' B (.slice a' L c') (l ++ m) → w.grownBy w' v.ownBlock → (Value.ownBlock (.slice a' L c') = v.ownBlock ∨ Value.ownBlock (.slice a' L c') = some w.heap.size) → K (a.put o.dst (.slice a' L c')) w') :
    if Region.wanted o (yielded ops a.tmps) = true then Oper.wp Try.prog o a w K Q else E := by
  subst hM
  have hw : Region.wanted o (yielded ops a.tmps) = true := by simp [Region.wanted, hgd]
  rw [if_pos hw]
  obtain ⟨i, hi, hz0, hz1, hz2⟩ := info_parts info_u8
  obtain ⟨v', w', hr, h2, h3, h4, h5, h6⟩ := run_append_keeps (P := Try.prog) w B 30 o.type 5 i (.int .u8 0) Try.underlying30 hi hz0 hz1 rfl v l.length (u8s l) hown ad m.length c (u8s m) (u8s_length m) hm.src (u8s_one m) (by unfold maxLen; omega) (by rw [hz2]; omega) hbase
  have ow : Own w' B v' (l ++ m) := by
    unfold Own
    rw [List.length_append, show u8s (l ++ m) = u8s l ++ u8s m by simp [u8s]]
    exact h2
  obtain ⟨a', c', e, _⟩ := ow.slice
  rw [List.length_append, hL] at e
  subst e
  unfold Oper.wp
  simp [execOp, ho, resolve, invoke, builtin, hs, hx, hr, Result.andThen]
  exact h a' c' w' ow h3 h5

theorem IsBytes.kept {P : Nat → Prop} {w w' : World} {a : Option Addr} {c : Nat} {l : List UInt8} (h : IsBytes w a c l) (hk : Kept P w w') (hP : ∀ b o, a = some ⟨b, o, none⟩ → l ≠ [] → ¬ P b) : IsBytes w' a c l := by
  obtain ⟨h1, h2, h3⟩ := h
  refine ⟨h1, h2, ?_⟩
  rcases h3 with h | ⟨b, o, rfl, hb, hc⟩
  · exact .inl h
  · by_cases hl : l = []
    · exact .inl hl
    · exact .inr ⟨b, o, rfl, Nat.lt_of_lt_of_le hb hk.size, fun j x hj => hk.cell (hP b o rfl hl) (hc j x hj)⟩
theorem IsBytes.apart {w : World} {ib : Nat} {m : Int} {st nd : Nat} {v : Value} {g : Nat} {a : Option Addr} {c : Nat} {l : List UInt8} (h : IsBytes w a c l) (hb : BoxAt w ib m st nd v g) (hv : ∃ a n c, v = .slice a n c) : ∀ b o, a = some ⟨b, o, none⟩ → l ≠ [] → b ≠ ib := by
  intro b o e hl
  obtain ⟨b', o', e', _, hc⟩ := h.get hl
  rw [e] at e'
  cases e'
  obtain ⟨x, r, rfl⟩ : ∃ x r, l = x :: r := by cases l with | nil => exact absurd rfl hl | cons x r => exact ⟨x, r, rfl⟩
  exact hb.apart hv (hc 0 x rfl)

theorem feed_fin {w w1 w2 : World} {ib g N k L : Nat} {s : In} {av a' : Option Addr} {cv c' : Nat} {came b : List UInt8} (hX : BoxAt w ib s.most s.stand s.need (.slice av N cv) g) (hO : Own w 0 (.slice av N cv) came) (hL : (letGo s.stand s.need b).1 = k) (hH : came.drop g = s.held) (hg : g ≤ came.length) (hgh : g ≤ s.held.length)
    (bx1 : BoxAt w1 ib s.most s.stand (letGo s.stand s.need b).2 (.slice av N cv) g) (K1 : Kept (fun k => k = ib) w w1) (own2 : Own w2 0 (.slice a' L c') (came ++ b.drop k)) (gr2 : w1.grownBy w2 (Value.ownBlock (.slice av N cv)))
    (hat : Value.ownBlock (.slice a' L c') = Value.ownBlock (.slice av N cv) ∨ Value.ownBlock (.slice a' L c') = some w1.heap.size) :
    Went w ib (.slice av N cv) (s.feed b) (w2.setCell ⟨ib, 3, none⟩ (.slice a' L c')) ∧ w2.cell? ⟨ib, 3, none⟩ = some (.slice av N cv) ∧ w2.frozen? ⟨ib, 3, none⟩ = false ∧ ib < w2.heap.size := by
  have K2 : Kept (fun k => Value.ownBlock (.slice av N cv) = some k) w1 w2 := Kept.ofGrown gr2 (fun _ h => h)
  have bx2 : BoxAt w2 ib s.most s.stand (letGo s.stand s.need b).2 (.slice av N cv) g := bx1.kept K2 (fun e => hO.apart hX ib e rfl)
  obtain ⟨bx3, K3⟩ := bx2.setCame (.slice a' L c')
  have hheld : (came ++ b.drop k).drop g = (s.feed b).held := by
    show _ = s.held ++ b.drop (letGo s.stand s.need b).1
    rw [hL, ← hH, List.drop_append_of_le_length hg]
  refine ⟨⟨_, ⟨g, came ++ b.drop k, bx3, own2.kept K3 (own2.apart bx2), by simp; omega, hheld, ?_⟩, ?_, ?_⟩, bx2.cell.2.2.2.1, bx2.free 3, bx2.lt⟩
  · rw [← hH, List.length_drop] at hgh
    rw [← hheld, List.length_drop, List.length_append]
    omega
  · exact ((K1.mono (fun _ _ h => Or.inl h)).trans (K2.mono (fun _ _ h => Or.inr h))).trans (K3.mono (fun _ _ h => Or.inl h))
  · rintro j (rfl | hj)
    · exact .inl (.inl rfl)
    · rcases hat with e | e
      · exact .inl (.inr (e.symm.trans hj))
      · rw [e] at hj; cases hj; exact .inr K1.size

set_option maxHeartbeats 2000000 in
set_option maxRecDepth 1000000 in
theorem feed_any (w : World) (ib : Nat) (v : Value) (s : In) (a : Option Addr) (c : Nat) (b : List UInt8) (h : InAt w ib v s) (hb : IsBytes w a c b) (hl : s.held.length ≤ 2147483648) (hbl : b.length ≤ 2147483648) (hnd : s.need ≤ 4294967297) (hm : MaxAt w) :
    Calls Try.prog 18 #[.pointer (some ⟨ib, 0, none⟩), .slice a b.length c] w fun e w' => e = .returned (.tuple #[]) ∧ Went w ib v (s.feed b) w' := by
  obtain ⟨g, came, hbox, hown, hg, hheld, hgh⟩ := h
  have hcl : came.length = g + s.held.length := by rw [← hheld]; simp; omega
  obtain ⟨N, hN⟩ : ∃ N, N = came.length := ⟨_, rfl⟩
  obtain ⟨av, cv, rfl, _⟩ := hown.slice
  rw [← hN] at hbox hown ⊢
  have k3 : w.cell? ⟨ib, 3, none⟩ = some (.slice av N cv) := hbox.cell.2.2.2.1
  have f3 : w.frozen? ⟨ib, 3, none⟩ = false := hbox.free 3
  have hlt := hbox.lt
  have hbc : b.length ≤ c := hb.1
  have hcm : c ≤ 9223372036854775807 := by have := hb.2.1; unfold maxLen at this; omega
  have hle := letGo_le s.stand s.need b
  obtain ⟨k, hk⟩ : ∃ k, k = (letGo s.stand s.need b).1 := ⟨_, rfl⟩
  have HL : Hid ((letGo s.stand s.need b).1 = k) := hk.symm
  rw [← hk] at hle
  have HN : Hid (N = came.length ∧ came.length = g + s.held.length ∧ g ≤ s.held.length) := ⟨hN, hcl, hgh⟩
  have HX : Hid (BoxAt w ib s.most s.stand s.need (.slice av N cv) g) := hbox
  have HO : Hid (Own w 0 (.slice av N cv) came) := hown
  have HB : Hid (IsBytes w a c b) := hb
  have HM : Hid (MaxAt w) := hm
  have HH : Hid (came.drop g = s.held) := hheld
  have HA := HB.out.apart HX.out ⟨_, _, _, rfl⟩
  have HA : Hid (∀ b' o, a = some ⟨b', o, none⟩ → b ≠ [] → b' ≠ ib) := HA
  -- what is appended
  have HS : Hid (∀ w1, Kept (fun k => k = ib) w w1 → ∀ ad c', ((ad = a ∧ c = k) ∨ (ad = a.map (fun x => x.add k) ∧ c' = c - k)) → c' ≤ maxLen → IsBytes w1 ad c' (b.drop k)) := by
    intro w1 K1 ad c' h hc'
    have h1 := HB.out.kept K1 HA.out
    rcases h with ⟨rfl, e⟩ | ⟨rfl, rfl⟩
    · rw [List.drop_eq_nil_of_le (by omega)]; exact IsBytes.empty _ _ hc'
    · exact h1.map k hle
  clear hbox hown hb hm hheld hk hN hcl hgh
  have hNl : N ≤ 4294967296 := by have := HN.out; omega
  by_cases hck : c = k
  · subst hck
    go_enter Try.func18, Try.ntmps18
    go_wp2_with fail
    go_region_law (first
      | (go_simp
         go_at_call 36
         refine (letGo_any w.drew ib _ s.stand s.need (.slice av N cv) g a c b HX.out HB.out.drew ⟨_, _, _, rfl⟩ hnd (by omega) HM.out).mono ?_
         rintro e w1 ⟨rfl, bx1, K1⟩
         rw [HL.out]
         have i3 : w1.cell? ⟨ib, 3, none⟩ = some (.slice av N cv) := bx1.cell.2.2.2.1
         have hlt1 := bx1.lt
         have HX1 : Hid (BoxAt w1 ib s.most s.stand (letGo s.stand s.need b).2 (.slice av N cv) g) := bx1
         have HK1 : Hid (Kept (fun k => k = ib) w w1) := (⟨K1.os, K1.tape, K1.output, K1.size, K1.block⟩ : Kept (fun k => k = ib) w w1)
         clear bx1 K1)
      | (refine step_append8 rfl (.tmp 8) (.tmp 13) rfl w1 0 (.slice av N cv) came (by simp [Act.eval, Act.put] <;> omega) (HO.out.kept HK1.out (HO.out.apart HX.out)) a 0 0 N (b.drop c) (by simp; omega) (by simp; have := HN.out; omega) (by simp [Act.eval, Act.put] <;> omega) (HS.out w1 HK1.out a 0 (.inl ⟨rfl, by first | rfl | trivial⟩) (Nat.zero_le _)) (by omega) (Nat.zero_le _) ?_
         intro a' c' w2 own2 gr2 hat
         obtain ⟨WENT, i3, j3, hlt2⟩ := feed_fin HX.out HO.out HL.out HH.out hg HN.out.2.2 HX1.out HK1.out own2 gr2 hat
         have HWENT : Hid (Went w ib (.slice av N cv) (s.feed b) (w2.setCell ⟨ib, 3, none⟩ (.slice a' N c'))) := WENT
         clear own2 gr2 hat WENT))
    all_goals go_wp2
    all_goals go_end0
    all_goals exact ⟨rfl, HWENT.out⟩
  · obtain ⟨ad, hadm⟩ : ∃ ad, ad = a.map (fun x => x.add k) := ⟨_, rfl⟩
    have hckb : (c == k) = false := by simpa using hck
    go_enter Try.func18, Try.ntmps18
    go_wp2_with fail
    go_region_law (first
      | (refine step_append8 rfl (.tmp 8) (.tmp 13) rfl w1 0 (.slice av N cv) came (by simp [Act.eval, Act.put] <;> omega) (HO.out.kept HK1.out (HO.out.apart HX.out)) (a.map (fun x => x.add k)) (c - k) (b.length - k) (N + (b.length - k)) (b.drop k) (by simp) (by simp; have := HN.out; omega) (by simp [Act.eval, Act.put] <;> omega) (HS.out w1 HK1.out _ (c - k) (.inr ⟨rfl, rfl⟩) (by unfold maxLen; omega)) (by omega) (Nat.zero_le _) ?_
         intro a' c' w2 own2 gr2 hat
         obtain ⟨WENT, i3, j3, hlt2⟩ := feed_fin HX.out HO.out HL.out HH.out hg HN.out.2.2 HX1.out HK1.out own2 gr2 hat
         have HWENT : Hid (Went w ib (.slice av N cv) (s.feed b) (w2.setCell ⟨ib, 3, none⟩ (.slice a' (N + (b.length - k)) c'))) := WENT
         clear own2 gr2 hat WENT)
      | (go_simp
         go_at_call 36
         refine (letGo_any w.drew ib _ s.stand s.need (.slice av N cv) g a c b HX.out HB.out.drew ⟨_, _, _, rfl⟩ hnd (by omega) HM.out).mono ?_
         rintro e w1 ⟨rfl, bx1, K1⟩
         rw [HL.out]
         have i3 : w1.cell? ⟨ib, 3, none⟩ = some (.slice av N cv) := bx1.cell.2.2.2.1
         have hlt1 := bx1.lt
         have HX1 : Hid (BoxAt w1 ib s.most s.stand (letGo s.stand s.need b).2 (.slice av N cv) g) := bx1
         have HK1 : Hid (Kept (fun k => k = ib) w w1) := (⟨K1.os, K1.tape, K1.output, K1.size, K1.block⟩ : Kept (fun k => k = ib) w w1)
         clear bx1 K1))
    all_goals go_wp2
    all_goals go_end0
    all_goals exact ⟨rfl, HWENT.out⟩
end Go.Proofs.Ytcgpfhkndbggiaa
