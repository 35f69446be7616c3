/-
  The walk of Next.
-/
import Derived.Test.YtcgpfhkndbggiaaBody
import Derived.WalkMore
namespace Go.Proofs.Ytcgpfhkndbggiaa
open Go.RowKit

theorem results_item {fn : Func} {p u : Tmp} (h : fn.results = #[.cell p 54, .tmp u]) (tmps : Array Value) (w : World) (g : Nat) (a b c : Value)
    (hp : tmps.getD p undef = .pointer (some ⟨g, 0, none⟩)) (hg : w.heap[g]? = some (.cells #[a, b, c] 54 (0, 0))) :
    (results fn tmps).run Try.prog w = .ok (.tuple #[.agg #[a, b, c], tmps.getD u undef]) w := by
  have hl := run_loadVar_row (P := Try.prog) w g 54 54 #[a, b, c] (0, 0) _ hg Try.underlying54 rfl (by kernel_rfl)
  rw [results_cell_tmp h, hp]
  simp [asAddr, hl]
theorem WentX.trans {vb : Value} {w w1 w2 : World} {ib : Nat} {v v1 : Value} {s1 s2 : In} {body : List UInt8} (hI : InAt w1 ib v1 s1) (hk : Kept (Mine ib v) w w1) (hn : ∀ k, Mine ib v1 k → Mine ib v k ∨ w.heap.size ≤ k) (ho : Own w2 w1.heap.size vb body) (h : WentX vb w1 ib v1 s2 w2) : WentX vb w ib v s2 w2 := by
  obtain ⟨v2, h2, k2, n2⟩ := h
  refine ⟨v2, h2, hk.step k2 (fun j hj h => (hn j h).elim id (fun h => by omega)), fun k h => ?_⟩
  rcases n2 k h with h | h
  · rcases hn k h with h' | h'
    · exact .inl h'
    · refine .inr ⟨h', fun e => ?_⟩
      have := hI.lt k h
      have := (ho.old k e).1
      omega
  · exact .inr ⟨Nat.le_trans hk.size h.1, h.2⟩

/-- What may be asked of it. -/
structure In.Fit (s : In) : Prop where
  stand : s.stand < 4
  need : s.need ≤ 4294967297
  held : s.held.length ≤ 2147483648

/-- As the loop finds it. -/
def Rounds (gk : Nat) (w : World) (ib : Nat) (v : Value) (s : In) (wr : World) : Prop := ∃ v1 t, InAt wr ib v1 t ∧ t.Fit ∧ ((t = s ∧ 1 ≤ gk ∧ MaxAt wr) ∨ (s.stand = 0 ∧ s.tooLong = true ∧ t = s.turn 1 2)) ∧ Kept (Mine ib v) w wr ∧ (∀ k, Mine ib v1 k → Mine ib v k ∨ w.heap.size ≤ k) ∧
  wr.heap[w.heap.size]? = some (.cells #[.int .i64 0, .string ⟨#[]⟩, .slice none 0 0] 54 (0, 0)) ∧ wr.heap[w.heap.size + 1]? = some (.cells #[.int .i64 0, .string ⟨#[]⟩, .slice none 0 0] 54 (0, 0))

theorem WentX.drew {vb : Value} {w w1 : World} {ib : Nat} {v : Value} {s : In} (h : WentX vb w ib v s w1) : WentX vb w ib v s w1.drew := by
  obtain ⟨v', h1, h2, h3⟩ := h
  exact ⟨v', h1, ⟨h2.os, h2.tape, h2.output, h2.size, h2.block⟩, h3⟩
/-- What stands behind the telling. -/
theorem next_fin {w wr w' : World} {ib : Nat} {v v1 vb : Value} {t t2 : In} {kd : Int} {tx : ByteArray} {body : List UInt8} (hI : InAt wr ib v1 t) (hk : Kept (Mine ib v) w wr) (hn : ∀ k, Mine ib v1 k → Mine ib v k ∨ w.heap.size ≤ k)
    (hR : wr.heap[w.heap.size]? = some (.cells #[.int .i64 0, .string ⟨#[]⟩, .slice none 0 0] 54 (0, 0))) (hJ : wr.heap[w.heap.size + 1]? = some (.cells #[.int .i64 0, .string ⟨#[]⟩, .slice none 0 0] 54 (0, 0)))
    (ho : Own w' wr.heap.size vb body) (hw : WentX vb wr ib v1 t2 w') :
    w'.heap[w.heap.size + 1]? = some (.cells #[.int .i64 0, .string ⟨#[]⟩, .slice none 0 0] 54 (0, 0)) ∧
    ∀ W1, W1 = ((w'.setCell ⟨w.heap.size + 1, 0, none⟩ (.int .i64 kd)).setCell ⟨w.heap.size + 1, 1, none⟩ (.string tx)).setCell ⟨w.heap.size + 1, 2, none⟩ vb →
      W1.heap[w.heap.size + 1]? = some (.cells #[.int .i64 kd, .string tx, vb] 54 (0, 0)) ∧ W1.heap[w.heap.size]? = some (.cells #[.int .i64 0, .string ⟨#[]⟩, .slice none 0 0] 54 (0, 0)) ∧
      ∀ W2, W2 = ((W1.setCell ⟨w.heap.size, 0, none⟩ (.int .i64 kd)).setCell ⟨w.heap.size, 1, none⟩ (.string tx)).setCell ⟨w.heap.size, 2, none⟩ vb →
        W2.heap[w.heap.size]? = some (.cells #[.int .i64 kd, .string tx, vb] 54 (0, 0)) ∧ Own W2 w.heap.size vb body ∧ WentX vb w ib v t2 W2 := by
  have hszr : w.heap.size + 1 < wr.heap.size := (Array.getElem?_eq_some_iff.1 hJ).1
  have hk' := hw.went.kept
  have hJ' := (hk'.block (w.heap.size + 1) hszr (hI.item hJ)).trans hJ
  have hR' := (hk'.block w.heap.size (by omega) (hI.item hR)).trans hR
  have hw2 := WentX.trans hI hk hn ho hw
  have hne : ∀ k, vb.ownBlock = some k → ¬ (k = w.heap.size ∨ k = w.heap.size + 1) := fun k h e => by have := (ho.old k h).1; omega
  have sets : ∀ {W : World} (j i : Nat) (u : Value), (j = w.heap.size ∨ j = w.heap.size + 1) → Own W wr.heap.size vb body → Own (W.setCell ⟨j, i, none⟩ u) wr.heap.size vb body := fun j i u hj h => h.kept (Kept.setCell (fun k => k = w.heap.size ∨ k = w.heap.size + 1) _ j i u hj) hne
  refine ⟨hJ', ?_⟩
  rintro W1 rfl
  obtain ⟨q1, q2⟩ := hw2.item (rb := w.heap.size + 1) (by omega) hJ' (.int .i64 kd) (.string tx) vb
  have hR1 : (((w'.setCell ⟨w.heap.size + 1, 0, none⟩ (.int .i64 kd)).setCell ⟨w.heap.size + 1, 1, none⟩ (.string tx)).setCell ⟨w.heap.size + 1, 2, none⟩ vb).heap[w.heap.size]? = some (.cells #[.int .i64 0, .string ⟨#[]⟩, .slice none 0 0] 54 (0, 0)) := by
    rw [Below.heap_setCell _ _ _ _ (by simp), Below.heap_setCell _ _ _ _ (by simp), Below.heap_setCell _ _ _ _ (by simp)]
    exact hR'
  refine ⟨q2, hR1, ?_⟩
  rintro W2 rfl
  obtain ⟨z1, z2⟩ := q1.item (Nat.le_refl _) hR1 (.int .i64 kd) (.string tx) vb
  exact ⟨z2, (sets _ _ _ (.inl rfl) (sets _ _ _ (.inl rfl) (sets _ _ _ (.inl rfl) (sets _ _ _ (.inr rfl) (sets _ _ _ (.inr rfl) (sets _ _ _ (.inr rfl) ho)))))).mono (by omega), z1⟩
theorem letGo_need (st nd : Nat) (b : List UInt8) : (letGo st nd b).2 ≤ max nd 2 := by
  unfold letGo
  split
  · unfold letGoLine
    split
    · exact Nat.le_max_left _ _
    · split
      · exact Nat.zero_le _
      · cases hf : find b with
        | none => rw [lineEnd_none hf]; show (if _ then 1 else 2) ≤ _; split <;> omega
        | some k => rw [lineEnd_some hf]; exact Nat.zero_le _
  · split
    · show nd - _ ≤ _; omega
    · exact Nat.le_max_left _ _
theorem In.turn_fit {s : In} (h : s.Fit) (st nd : Nat) (hst : st < 4) (hnd : nd ≤ 4294967297) : (s.turn st nd).Fit :=
  ⟨hst, by have := letGo_need st nd s.held; show (letGo st nd s.held).2 ≤ _; omega, by have := h.held; show (s.held.drop _).length ≤ _; simp; omega⟩
theorem In.next_tell {s : In} (h : ¬ (s.stand = 0 ∧ s.tooLong = true)) : s.next = s.tell := by unfold In.next; rw [if_neg h]
theorem In.next_turn {s : In} (h : s.stand = 0) (h2 : s.tooLong = true) : s.next = (s.turn 1 2).tell := by unfold In.next; rw [if_pos ⟨h, h2⟩]

set_option maxHeartbeats 4000000 in
set_option maxRecDepth 1000000 in
theorem next_any (w : World) (ib : Nat) (v : Value) (s : In) (h : InAt w ib v s) (hs : s.Fit) (hm : MaxAt w) (h0 : 0 ≠ ib) :
    Calls Try.prog 26 #[.pointer (some ⟨ib, 0, none⟩)] w fun e w' => ∃ vb, e = .returned (.tuple #[itemV s.next.1.kind s.next.1.text vb, .bool (s.next.1.kind != 0)]) ∧ Own w' w.heap.size vb s.next.1.body ∧ WentX vb w ib v s.next.2 w' := by
  have B2 : Below w.heap.size w ((w.alloc (.cells #[.int .i64 0, .string ⟨#[]⟩, .slice none 0 0] 54)).alloc (.cells #[.int .i64 0, .string ⟨#[]⟩, .slice none 0 0] 54)) := ((Below.refl _ w).alloc (Nat.le_refl _) _).alloc (by simp) _
  have HR : Hid (Rounds 1 w ib v s ((w.alloc (.cells #[.int .i64 0, .string ⟨#[]⟩, .slice none 0 0] 54)).alloc (.cells #[.int .i64 0, .string ⟨#[]⟩, .slice none 0 0] 54))) :=
    ⟨v, s, h.below B2, hs, .inl ⟨rfl, Nat.le_refl _, hm.below B2 hm.lt⟩, Kept.ofBelow B2, fun k hk => .inl hk, by
      rw [heap_alloc_old _ _ (by simp)]; exact heap_alloc_last _ _, by
      have := heap_alloc_last (w.alloc (.cells #[.int .i64 0, .string ⟨#[]⟩, .slice none 0 0] 54)) (.cells #[.int .i64 0, .string ⟨#[]⟩, .slice none 0 0] 54)
      rwa [World.size_alloc] at this⟩
  clear B2 h hs hm
  go_enter Try.func26, Try.ntmps26
  go_wp2
  go_step3
  go_wp2
  go_step3
  go_wp2
  go_loopg [] 1 (fun gk wr => Rounds gk w ib v s wr)
  case atStart => exact HR.out
  case round =>
    obtain ⟨v1, t, hI, hF, hts, hK, hN, hR, hJ⟩ := hrel
    have HF : Hid (InAt wr ib v1 t ∧ Kept (Mine ib v) w wr ∧ (∀ k, Mine ib v1 k → Mine ib v k ∨ w.heap.size ≤ k) ∧ wr.heap[w.heap.size]? = some (.cells #[.int .i64 0, .string ⟨#[]⟩, .slice none 0 0] 54 (0, 0)) ∧ wr.heap[w.heap.size + 1]? = some (.cells #[.int .i64 0, .string ⟨#[]⟩, .slice none 0 0] 54 (0, 0))) := ⟨hI, hK, hN, hR, hJ⟩
    have HFit : Hid t.Fit := hF
    have k1 : wr.cell? ⟨ib, 1, none⟩ = some (.int .i64 t.stand) := by obtain ⟨g, came, hb, _⟩ := hI; exact hb.cell.2.1
    have hltr : ib < wr.heap.size := hI.lt ib (.inl rfl)
    have hst := hF.stand
    have HS : Hid ((t = s ∧ 1 ≤ gk ∧ MaxAt wr) ∨ (s.stand = 0 ∧ s.tooLong = true ∧ t = s.turn 1 2)) := hts
    clear hI hF hts hK hN hR hJ HR
    by_cases h0s : t.stand = 0
    · have hts : t = s ∧ 1 ≤ gk ∧ MaxAt wr := by
        rcases HS.out with h | ⟨_, _, h⟩
        · exact h
        · rw [h] at h0s; exact absurd h0s (by simp [In.turn])
      obtain ⟨rfl, hgk, hM⟩ := hts
      have HM : Hid (MaxAt wr) := hM
      have HZ : Hid (t.stand = 0) := h0s
      have e0 : ((t.stand : Int) == 0) = true := by simp [h0s]
      clear hM h0s HS
      by_cases hlong : t.tooLong = true
      · have HL : Hid (t.tooLong = true) := hlong
        clear hlong
        go_wp2_with fail
        refine (tooLong_any wr ib v1 t HF.out.1 HFit.out.held HM.out).mono ?_
        rintro e w3 ⟨rfl, B3⟩
        rw [HL.out]
        have HB3 : Hid (Below wr.heap.size wr w3) := B3
        clear B3
        go_wp2_with fail
        have TU := turn_any w3 ib v1 t 1 2 (HF.out.1.below HB3.out) HFit.out.held (by decide) (HM.out.below HB3.out HM.out.lt) h0
        refine TU.mono ?_
        clear TU
        rintro e w4 ⟨rfl, WT⟩
        have HR4 : Hid (Rounds 0 w ib v t w4) := by
          obtain ⟨v4, hI4, K4, N4⟩ := WT
          have hI3 := HF.out.1.below HB3.out
          have hsz := HB3.out.size
          have hJr := HF.out.2.2.2.2
          have hRr := HF.out.2.2.2.1
          have hszr : w.heap.size + 1 < wr.heap.size := (Array.getElem?_eq_some_iff.1 hJr).1
          have r3 := (HB3.out.block w.heap.size (by omega)).trans hRr
          have j3 := (HB3.out.block (w.heap.size + 1) hszr).trans hJr
          refine ⟨v4, t.turn 1 2, hI4, In.turn_fit HFit.out 1 2 (by decide) (by decide), .inr ⟨HZ.out, HL.out, rfl⟩, (HF.out.2.1.step (Kept.ofBelow (P := fun _ => False) HB3.out) (fun _ _ h => h.elim)).step K4 (fun j hj h => (HF.out.2.2.1 j h).elim id (fun h => by omega)), fun k hk => ?_, (K4.block w.heap.size (by omega) (hI3.item r3)).trans r3, (K4.block (w.heap.size + 1) (by omega) (hI3.item j3)).trans j3⟩
          rcases N4 k hk with h | h
          · exact HF.out.2.2.1 k h
          · exact .inr (by omega)
        clear WT
        go_wp2_with fail
        go_roundg 0
        case measure => omega
        case rel => exact HR4.out
      · have hl' : t.tooLong = false := by simpa using hlong
        have HL : Hid (t.tooLong = false) := hl'
        clear hl'
        have HNX : Hid (t.next = t.tellLine) := by
          show t.next = _
          rw [In.next_tell (fun h => hlong h.2)]
          unfold In.tell
          rw [if_pos HZ.out]
        clear hlong
        go_wp2_with fail
        refine (tooLong_any wr ib v1 t HF.out.1 HFit.out.held HM.out).mono ?_
        rintro e w3 ⟨rfl, B3⟩
        rw [HL.out]
        have HB3 : Hid (Below wr.heap.size wr w3) := B3
        clear B3
        go_wp2_with fail
        refine (tellLine_any w3 ib v1 t (HF.out.1.below HB3.out) HFit.out.held (HM.out.below HB3.out HM.out.lt)).mono ?_
        rintro e w4 ⟨rfl, hb4, WT⟩
        have HF3 : Hid (InAt w3 ib v1 t ∧ Kept (Mine ib v) w w3 ∧ (∀ k, Mine ib v1 k → Mine ib v k ∨ w.heap.size ≤ k) ∧ w3.heap[w.heap.size]? = some (.cells #[.int .i64 0, .string ⟨#[]⟩, .slice none 0 0] 54 (0, 0)) ∧ w3.heap[w.heap.size + 1]? = some (.cells #[.int .i64 0, .string ⟨#[]⟩, .slice none 0 0] 54 (0, 0))) := by
          have hszr : w.heap.size + 1 < wr.heap.size := (Array.getElem?_eq_some_iff.1 HF.out.2.2.2.2).1
          exact ⟨HF.out.1.below HB3.out, HF.out.2.1.step (Kept.ofBelow (P := fun _ => False) HB3.out) (fun _ _ h => h.elim), HF.out.2.2.1, (HB3.out.block w.heap.size (by omega)).trans HF.out.2.2.2.1, (HB3.out.block (w.heap.size + 1) hszr).trans HF.out.2.2.2.2⟩
        have OWN : Own w4 w3.heap.size (.slice none 0 0) t.tellLine.1.body := by rw [hb4]; exact Own.nil _ _
        have WENT := WT.x
        clear hb4 WT
        obtain ⟨kd, hkd⟩ : ∃ kd, kd = t.tellLine.1.kind := ⟨_, rfl⟩
        obtain ⟨tx, htx⟩ : ∃ tx : ByteArray, tx = ⟨t.tellLine.1.text.toArray⟩ := ⟨_, rfl⟩
        have HKD : Hid (itemV t.tellLine.1.kind t.tellLine.1.text (.slice none 0 0) = .agg #[.int .i64 kd, .string tx, .slice none 0 0] ∧ t.tellLine.1.kind = kd) := ⟨by unfold itemV; rw [hkd, htx], hkd.symm⟩
        rw [HKD.out.1]
        clear hkd htx
        obtain ⟨hJ4, fin⟩ := next_fin (kd := kd) (tx := tx) HF3.out.1 HF3.out.2.1 HF3.out.2.2.1 HF3.out.2.2.2.1 HF3.out.2.2.2.2 OWN WENT
        have c0 : w4.cell? ⟨w.heap.size + 1, 0, none⟩ = some (.int .i64 0) := by simp [World.cell?, hJ4]
        have c1 : w4.cell? ⟨w.heap.size + 1, 1, none⟩ = some (.string ⟨#[]⟩) := by simp [World.cell?, hJ4]
        have c2 : w4.cell? ⟨w.heap.size + 1, 2, none⟩ = some (.slice none 0 0) := by simp [World.cell?, hJ4]
        have f0 : ∀ i, w4.frozen? ⟨w.heap.size + 1, i, none⟩ = false := fun i => by simp [World.frozen?, hJ4]
        have f00 := f0 0
        have f01 := f0 1
        have f02 := f0 2
        obtain ⟨w5, hw5⟩ : ∃ w5, w5 = ((w4.setCell ⟨w.heap.size + 1, 0, none⟩ (.int .i64 kd)).setCell ⟨w.heap.size + 1, 1, none⟩ (.string tx)).setCell ⟨w.heap.size + 1, 2, none⟩ (.slice none 0 0) := ⟨_, rfl⟩
        obtain ⟨hJ5, hR5, fin2⟩ := fin w5 hw5
        have d0 : w5.cell? ⟨w.heap.size + 1, 0, none⟩ = some (.int .i64 kd) := by simp [World.cell?, hJ5]
        have d1 : w5.cell? ⟨w.heap.size + 1, 1, none⟩ = some (.string tx) := by simp [World.cell?, hJ5]
        have d2 : w5.cell? ⟨w.heap.size + 1, 2, none⟩ = some (.slice none 0 0) := by simp [World.cell?, hJ5]
        have e0 : w5.cell? ⟨w.heap.size, 0, none⟩ = some (.int .i64 0) := by simp [World.cell?, hR5]
        have e1 : w5.cell? ⟨w.heap.size, 1, none⟩ = some (.string ⟨#[]⟩) := by simp [World.cell?, hR5]
        have e2 : w5.cell? ⟨w.heap.size, 2, none⟩ = some (.slice none 0 0) := by simp [World.cell?, hR5]
        have g0 : ∀ i, w5.frozen? ⟨w.heap.size, i, none⟩ = false := fun i => by simp [World.frozen?, hR5]
        have g00 := g0 0
        have g01 := g0 1
        have g02 := g0 2
        have FIN : Hid (∀ W2, W2 = ((w5.setCell ⟨w.heap.size, 0, none⟩ (.int .i64 kd)).setCell ⟨w.heap.size, 1, none⟩ (.string tx)).setCell ⟨w.heap.size, 2, none⟩ (.slice none 0 0) →
          W2.heap[w.heap.size]? = some (.cells #[.int .i64 kd, .string tx, (.slice none 0 0)] 54 (0, 0)) ∧ Own W2 w.heap.size (.slice none 0 0) t.tellLine.1.body ∧ WentX (.slice none 0 0) w ib v t.tellLine.2 W2) := fin2
        have HW5 : Hid (w5 = ((w4.setCell ⟨w.heap.size + 1, 0, none⟩ (.int .i64 kd)).setCell ⟨w.heap.size + 1, 1, none⟩ (.string tx)).setCell ⟨w.heap.size + 1, 2, none⟩ (.slice none 0 0)) := hw5
        clear hJ4 fin f0 hw5 hJ5 hR5 fin2 g0 OWN WENT
        go_upto_region 13 with fail
        rw [← HW5.out]
        go_region
        all_goals go_wp2
        all_goals (
          try rw [Exit.noGoto_ret]
          obtain ⟨z1, z2, z3⟩ := FIN.out _ rfl
          refine bodyPost_ret (results_item rfl _ _ w.heap.size _ _ _ rfl z1) rfl ?_
          rw [HNX.out]
          exact ⟨_, by rw [HKD.out.1, HKD.out.2]; rfl, z2, z3.drew⟩)
    · have HTN : Hid (s.next = t.tell) := by
        show s.next = t.tell
        rcases HS.out with ⟨rfl, _⟩ | ⟨h1, h2, rfl⟩
        · exact In.next_tell (fun h => h0s h.1)
        · exact In.next_turn h1 h2
      have n0 : ((t.stand : Int) == 0) = false := by simp; omega
      clear HS
      by_cases h1s : t.stand = 1
      · have HNX : Hid (s.next = t.tellLoss 2) := by
          show s.next = _
          rw [HTN.out]; unfold In.tell; rw [if_neg h0s, if_pos h1s]
        have n1 : ((t.stand : Int) == 1) = true := by simp [h1s]
        clear HTN h0s h1s hst
        go_wp2_with fail
        refine (tellLoss_any wr ib v1 t 2 HF.out.1 HFit.out.need).mono ?_
        rintro e w4 ⟨rfl, hb4, WT⟩
        have OWN : Own w4 wr.heap.size (.slice none 0 0) (t.tellLoss 2).1.body := by rw [hb4]; exact Own.nil _ _
        have WENT := WT.x
        clear hb4 WT
        obtain ⟨kd, hkd⟩ : ∃ kd, kd = (t.tellLoss 2).1.kind := ⟨_, rfl⟩
        obtain ⟨tx, htx⟩ : ∃ tx : ByteArray, tx = ⟨(t.tellLoss 2).1.text.toArray⟩ := ⟨_, rfl⟩
        have HKD : Hid (itemV (t.tellLoss 2).1.kind (t.tellLoss 2).1.text (.slice none 0 0) = .agg #[.int .i64 kd, .string tx, .slice none 0 0] ∧ (t.tellLoss 2).1.kind = kd) := ⟨by unfold itemV; rw [hkd, htx], hkd.symm⟩
        rw [HKD.out.1]
        clear hkd htx
        obtain ⟨hJ4, fin⟩ := next_fin (kd := kd) (tx := tx) HF.out.1 HF.out.2.1 HF.out.2.2.1 HF.out.2.2.2.1 HF.out.2.2.2.2 OWN WENT
        have c0 : w4.cell? ⟨w.heap.size + 1, 0, none⟩ = some (.int .i64 0) := by simp [World.cell?, hJ4]
        have c1 : w4.cell? ⟨w.heap.size + 1, 1, none⟩ = some (.string ⟨#[]⟩) := by simp [World.cell?, hJ4]
        have c2 : w4.cell? ⟨w.heap.size + 1, 2, none⟩ = some (.slice none 0 0) := by simp [World.cell?, hJ4]
        have f0 : ∀ i, w4.frozen? ⟨w.heap.size + 1, i, none⟩ = false := fun i => by simp [World.frozen?, hJ4]
        have f00 := f0 0
        have f01 := f0 1
        have f02 := f0 2
        obtain ⟨w5, hw5⟩ : ∃ w5, w5 = ((w4.setCell ⟨w.heap.size + 1, 0, none⟩ (.int .i64 kd)).setCell ⟨w.heap.size + 1, 1, none⟩ (.string tx)).setCell ⟨w.heap.size + 1, 2, none⟩ (.slice none 0 0) := ⟨_, rfl⟩
        obtain ⟨hJ5, hR5, fin2⟩ := fin w5 hw5
        have d0 : w5.cell? ⟨w.heap.size + 1, 0, none⟩ = some (.int .i64 kd) := by simp [World.cell?, hJ5]
        have d1 : w5.cell? ⟨w.heap.size + 1, 1, none⟩ = some (.string tx) := by simp [World.cell?, hJ5]
        have d2 : w5.cell? ⟨w.heap.size + 1, 2, none⟩ = some (.slice none 0 0) := by simp [World.cell?, hJ5]
        have e0 : w5.cell? ⟨w.heap.size, 0, none⟩ = some (.int .i64 0) := by simp [World.cell?, hR5]
        have e1 : w5.cell? ⟨w.heap.size, 1, none⟩ = some (.string ⟨#[]⟩) := by simp [World.cell?, hR5]
        have e2 : w5.cell? ⟨w.heap.size, 2, none⟩ = some (.slice none 0 0) := by simp [World.cell?, hR5]
        have g0 : ∀ i, w5.frozen? ⟨w.heap.size, i, none⟩ = false := fun i => by simp [World.frozen?, hR5]
        have g00 := g0 0
        have g01 := g0 1
        have g02 := g0 2
        have FIN : Hid (∀ W2, W2 = ((w5.setCell ⟨w.heap.size, 0, none⟩ (.int .i64 kd)).setCell ⟨w.heap.size, 1, none⟩ (.string tx)).setCell ⟨w.heap.size, 2, none⟩ (.slice none 0 0) →
          W2.heap[w.heap.size]? = some (.cells #[.int .i64 kd, .string tx, (.slice none 0 0)] 54 (0, 0)) ∧ Own W2 w.heap.size (.slice none 0 0) (t.tellLoss 2).1.body ∧ WentX (.slice none 0 0) w ib v (t.tellLoss 2).2 W2) := fin2
        have HW5 : Hid (w5 = ((w4.setCell ⟨w.heap.size + 1, 0, none⟩ (.int .i64 kd)).setCell ⟨w.heap.size + 1, 1, none⟩ (.string tx)).setCell ⟨w.heap.size + 1, 2, none⟩ (.slice none 0 0)) := hw5
        clear hJ4 fin f0 hw5 hJ5 hR5 fin2 g0 OWN WENT
        go_upto_region 13 with fail
        rw [← HW5.out]
        go_region
        all_goals go_wp2
        all_goals (
          try rw [Exit.noGoto_ret]
          obtain ⟨z1, z2, z3⟩ := FIN.out _ rfl
          refine bodyPost_ret (results_item rfl _ _ w.heap.size _ _ _ rfl z1) rfl ?_
          rw [HNX.out]
          exact ⟨_, by rw [HKD.out.1, HKD.out.2]; rfl, z2, z3.drew⟩)
      have n1 : ((t.stand : Int) == 1) = false := by simp; omega
      by_cases h2s : t.stand = 2
      · have HNX : Hid (s.next = t.tellBody) := by
          show s.next = _
          rw [HTN.out]; unfold In.tell; rw [if_neg h0s, if_neg h1s, if_pos h2s]
        have n2 : ((t.stand : Int) == 2) = true := by simp [h2s]
        clear HTN h0s h1s h2s hst
        go_wp2_with fail
        refine (tellBody_any wr ib v1 t HF.out.1 HFit.out.held).mono ?_
        rintro e w4 ⟨vb, rfl, OWN, WENT⟩
        obtain ⟨ab, cb, hvb, _⟩ := OWN.slice
        obtain ⟨lb, hlb⟩ : ∃ lb, lb = t.tellBody.1.body.length := ⟨_, rfl⟩
        rw [← hlb] at hvb
        subst hvb
        obtain ⟨kd, hkd⟩ : ∃ kd, kd = t.tellBody.1.kind := ⟨_, rfl⟩
        obtain ⟨tx, htx⟩ : ∃ tx : ByteArray, tx = ⟨t.tellBody.1.text.toArray⟩ := ⟨_, rfl⟩
        have HKD : Hid (itemV t.tellBody.1.kind t.tellBody.1.text (.slice ab lb cb) = .agg #[.int .i64 kd, .string tx, .slice ab lb cb] ∧ t.tellBody.1.kind = kd) := ⟨by unfold itemV; rw [hkd, htx], hkd.symm⟩
        rw [HKD.out.1]
        clear hkd htx hlb
        obtain ⟨hJ4, fin⟩ := next_fin (kd := kd) (tx := tx) HF.out.1 HF.out.2.1 HF.out.2.2.1 HF.out.2.2.2.1 HF.out.2.2.2.2 OWN WENT
        have c0 : w4.cell? ⟨w.heap.size + 1, 0, none⟩ = some (.int .i64 0) := by simp [World.cell?, hJ4]
        have c1 : w4.cell? ⟨w.heap.size + 1, 1, none⟩ = some (.string ⟨#[]⟩) := by simp [World.cell?, hJ4]
        have c2 : w4.cell? ⟨w.heap.size + 1, 2, none⟩ = some (.slice none 0 0) := by simp [World.cell?, hJ4]
        have f0 : ∀ i, w4.frozen? ⟨w.heap.size + 1, i, none⟩ = false := fun i => by simp [World.frozen?, hJ4]
        have f00 := f0 0
        have f01 := f0 1
        have f02 := f0 2
        obtain ⟨w5, hw5⟩ : ∃ w5, w5 = ((w4.setCell ⟨w.heap.size + 1, 0, none⟩ (.int .i64 kd)).setCell ⟨w.heap.size + 1, 1, none⟩ (.string tx)).setCell ⟨w.heap.size + 1, 2, none⟩ (.slice ab lb cb) := ⟨_, rfl⟩
        obtain ⟨hJ5, hR5, fin2⟩ := fin w5 hw5
        have d0 : w5.cell? ⟨w.heap.size + 1, 0, none⟩ = some (.int .i64 kd) := by simp [World.cell?, hJ5]
        have d1 : w5.cell? ⟨w.heap.size + 1, 1, none⟩ = some (.string tx) := by simp [World.cell?, hJ5]
        have d2 : w5.cell? ⟨w.heap.size + 1, 2, none⟩ = some (.slice ab lb cb) := by simp [World.cell?, hJ5]
        have e0 : w5.cell? ⟨w.heap.size, 0, none⟩ = some (.int .i64 0) := by simp [World.cell?, hR5]
        have e1 : w5.cell? ⟨w.heap.size, 1, none⟩ = some (.string ⟨#[]⟩) := by simp [World.cell?, hR5]
        have e2 : w5.cell? ⟨w.heap.size, 2, none⟩ = some (.slice none 0 0) := by simp [World.cell?, hR5]
        have g0 : ∀ i, w5.frozen? ⟨w.heap.size, i, none⟩ = false := fun i => by simp [World.frozen?, hR5]
        have g00 := g0 0
        have g01 := g0 1
        have g02 := g0 2
        have FIN : Hid (∀ W2, W2 = ((w5.setCell ⟨w.heap.size, 0, none⟩ (.int .i64 kd)).setCell ⟨w.heap.size, 1, none⟩ (.string tx)).setCell ⟨w.heap.size, 2, none⟩ (.slice ab lb cb) →
          W2.heap[w.heap.size]? = some (.cells #[.int .i64 kd, .string tx, (.slice ab lb cb)] 54 (0, 0)) ∧ Own W2 w.heap.size (.slice ab lb cb) t.tellBody.1.body ∧ WentX (.slice ab lb cb) w ib v t.tellBody.2 W2) := fin2
        have HW5 : Hid (w5 = ((w4.setCell ⟨w.heap.size + 1, 0, none⟩ (.int .i64 kd)).setCell ⟨w.heap.size + 1, 1, none⟩ (.string tx)).setCell ⟨w.heap.size + 1, 2, none⟩ (.slice ab lb cb)) := hw5
        clear hJ4 fin f0 hw5 hJ5 hR5 fin2 g0 OWN WENT
        go_upto_region 13 with fail
        rw [← HW5.out]
        go_region
        all_goals go_wp2
        all_goals (
          try rw [Exit.noGoto_ret]
          obtain ⟨z1, z2, z3⟩ := FIN.out _ rfl
          refine bodyPost_ret (results_item rfl _ _ w.heap.size _ _ _ rfl z1) rfl ?_
          rw [HNX.out]
          exact ⟨_, by rw [HKD.out.1, HKD.out.2]; rfl, z2, z3.drew⟩)
      have n2 : ((t.stand : Int) == 2) = false := by simp; omega
      have n3 : ((t.stand : Int) == 3) = true := by simp; omega
      have HNX : Hid (s.next = t.tellLoss 4) := by
        show s.next = _
        rw [HTN.out]; unfold In.tell; rw [if_neg h0s, if_neg h1s, if_neg h2s]
      clear HTN h0s h1s h2s hst
      go_wp2_with fail
      refine (tellLoss_any wr ib v1 t 4 HF.out.1 HFit.out.need).mono ?_
      rintro e w4 ⟨rfl, hb4, WT⟩
      have OWN : Own w4 wr.heap.size (.slice none 0 0) (t.tellLoss 4).1.body := by rw [hb4]; exact Own.nil _ _
      have WENT := WT.x
      clear hb4 WT
      obtain ⟨kd, hkd⟩ : ∃ kd, kd = (t.tellLoss 4).1.kind := ⟨_, rfl⟩
      obtain ⟨tx, htx⟩ : ∃ tx : ByteArray, tx = ⟨(t.tellLoss 4).1.text.toArray⟩ := ⟨_, rfl⟩
      have HKD : Hid (itemV (t.tellLoss 4).1.kind (t.tellLoss 4).1.text (.slice none 0 0) = .agg #[.int .i64 kd, .string tx, .slice none 0 0] ∧ (t.tellLoss 4).1.kind = kd) := ⟨by unfold itemV; rw [hkd, htx], hkd.symm⟩
      rw [HKD.out.1]
      clear hkd htx
      obtain ⟨hJ4, fin⟩ := next_fin (kd := kd) (tx := tx) HF.out.1 HF.out.2.1 HF.out.2.2.1 HF.out.2.2.2.1 HF.out.2.2.2.2 OWN WENT
      have c0 : w4.cell? ⟨w.heap.size + 1, 0, none⟩ = some (.int .i64 0) := by simp [World.cell?, hJ4]
      have c1 : w4.cell? ⟨w.heap.size + 1, 1, none⟩ = some (.string ⟨#[]⟩) := by simp [World.cell?, hJ4]
      have c2 : w4.cell? ⟨w.heap.size + 1, 2, none⟩ = some (.slice none 0 0) := by simp [World.cell?, hJ4]
      have f0 : ∀ i, w4.frozen? ⟨w.heap.size + 1, i, none⟩ = false := fun i => by simp [World.frozen?, hJ4]
      have f00 := f0 0
      have f01 := f0 1
      have f02 := f0 2
      obtain ⟨w5, hw5⟩ : ∃ w5, w5 = ((w4.setCell ⟨w.heap.size + 1, 0, none⟩ (.int .i64 kd)).setCell ⟨w.heap.size + 1, 1, none⟩ (.string tx)).setCell ⟨w.heap.size + 1, 2, none⟩ (.slice none 0 0) := ⟨_, rfl⟩
      obtain ⟨hJ5, hR5, fin2⟩ := fin w5 hw5
      have d0 : w5.cell? ⟨w.heap.size + 1, 0, none⟩ = some (.int .i64 kd) := by simp [World.cell?, hJ5]
      have d1 : w5.cell? ⟨w.heap.size + 1, 1, none⟩ = some (.string tx) := by simp [World.cell?, hJ5]
      have d2 : w5.cell? ⟨w.heap.size + 1, 2, none⟩ = some (.slice none 0 0) := by simp [World.cell?, hJ5]
      have e0 : w5.cell? ⟨w.heap.size, 0, none⟩ = some (.int .i64 0) := by simp [World.cell?, hR5]
      have e1 : w5.cell? ⟨w.heap.size, 1, none⟩ = some (.string ⟨#[]⟩) := by simp [World.cell?, hR5]
      have e2 : w5.cell? ⟨w.heap.size, 2, none⟩ = some (.slice none 0 0) := by simp [World.cell?, hR5]
      have g0 : ∀ i, w5.frozen? ⟨w.heap.size, i, none⟩ = false := fun i => by simp [World.frozen?, hR5]
      have g00 := g0 0
      have g01 := g0 1
      have g02 := g0 2
      have FIN : Hid (∀ W2, W2 = ((w5.setCell ⟨w.heap.size, 0, none⟩ (.int .i64 kd)).setCell ⟨w.heap.size, 1, none⟩ (.string tx)).setCell ⟨w.heap.size, 2, none⟩ (.slice none 0 0) →
        W2.heap[w.heap.size]? = some (.cells #[.int .i64 kd, .string tx, (.slice none 0 0)] 54 (0, 0)) ∧ Own W2 w.heap.size (.slice none 0 0) (t.tellLoss 4).1.body ∧ WentX (.slice none 0 0) w ib v (t.tellLoss 4).2 W2) := fin2
      have HW5 : Hid (w5 = ((w4.setCell ⟨w.heap.size + 1, 0, none⟩ (.int .i64 kd)).setCell ⟨w.heap.size + 1, 1, none⟩ (.string tx)).setCell ⟨w.heap.size + 1, 2, none⟩ (.slice none 0 0)) := hw5
      clear hJ4 fin f0 hw5 hJ5 hR5 fin2 g0 OWN WENT
      go_upto_region 13 with fail
      rw [← HW5.out]
      go_region
      all_goals go_wp2
      all_goals (
        try rw [Exit.noGoto_ret]
        obtain ⟨z1, z2, z3⟩ := FIN.out _ rfl
        refine bodyPost_ret (results_item rfl _ _ w.heap.size _ _ _ rfl z1) rfl ?_
        rw [HNX.out]
        exact ⟨_, by rw [HKD.out.1, HKD.out.2]; rfl, z2, z3.drew⟩)
end Go.Proofs.Ytcgpfhkndbggiaa
