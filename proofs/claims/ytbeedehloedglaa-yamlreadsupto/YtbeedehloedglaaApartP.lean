/-
  The walk of apartPairs.
-/
import Derived.Test.YtbeedehloedglaaLanesP
import Derived.Test.YtbeedehloedglaaMark
import Derived.Deep.RegionLaw
import Derived.Deep.RegionWith
import Derived.Deep.Cut
import Derived.Deep.CutRange
namespace Go.Proofs.Ytbeedehloedglaa
open Go.RowKit

def mkP (i : Nat) : BP := (mkT i, ⟨#[]⟩)
theorem Prs.form {W : World} {B : Nat} {v : Value} {ts : List BP} (h : Prs W B v ts) : ∃ a c, v = .slice a ts.length c ∧ (0 < ts.length → ∃ g, a = some ⟨g, 0, none⟩) := by
  rcases h.2 with ⟨rfl, h0⟩ | ⟨g, cap, cur, rfl, _⟩
  · exact ⟨none, 0, by rw [h0], fun h => by omega⟩
  · exact ⟨_, _, rfl, fun _ => ⟨g, rfl⟩⟩
theorem Prs.cellAt {W : World} {B g c n : Nat} {ts : List BP} (h : Prs W B (.slice (some ⟨g, 0, none⟩) n c) ts) {k : Nat} {x : BP} (hx : ts[k]? = some x) : (W.cell? ⟨g, k * 2, none⟩ = some (.string x.1) ∧ W.cell? ⟨g, k * 2 + 1, none⟩ = some (.string x.2)) ∧ ∀ m, W.frozen? ⟨g, m, none⟩ = false := by
  obtain ⟨h1, h2⟩ := twos_get ts k x hx
  have a1 := h.cells (g := g) rfl _ _ h1
  have a2 := h.cells (g := g) rfl _ _ h2
  rw [Go.WideShapes.add_plain, Nat.zero_add] at a1 a2
  refine ⟨⟨a1, a2⟩, fun m => ?_⟩
  rcases h.2 with ⟨h0, _⟩ | ⟨g', cap', cur, hv, hB, hg, _⟩
  · cases h0
  · simp only [Value.slice.injEq, Option.some.injEq, Addr.mk.injEq, and_true] at hv
    obtain ⟨rfl, _⟩ := hv
    simp [World.frozen?, hg]
/-- All of a list are one text. -/
def SameP (ts : List BP) (x : BP) : Prop := ∀ (k : Nat) y, ts[k]? = some y → y = x

/-- Phase one: the lists are marked, up to lane i, and k things of it. -/
structure Pq1 (w wr : World) (B Hb : Nat) (lab : Nat → Nat) (v : Nat → Value) (N : Nat → Nat) (i k : Nat) (L : Nat → List BP) : Prop where
  lanes : LanesP wr B lab v L
  len : ∀ j, j < 3 → (L j).length = N j
  done : ∀ j, j < i → SameP (L j) (mkP j)
  part : ∀ (m : Nat) y, m < k → (L i)[m]? = some y → y = mkP i
  all : AllP wr Hb v
  kept : Kept (VBP v) w wr

theorem Pq1.mark {w wr w5 : World} {B Hb : Nat} {lab : Nat → Nat} {v : Nat → Value} {N : Nat → Nat} {i k : Nat} {L : Nat → List BP} (h : Pq1 w wr B Hb lab v N i k L) (hi : i < 3) (hb : Below wr.heap.size wr w5) (hlb : lab Hb = 3) {g n cap : Nat} (hv : v i = .slice (some ⟨g, 0, none⟩) n cap) :
    Pq1 w ((w5.setCell ⟨g, k * 2, none⟩ (.string (mkP i).1)).setCell ⟨g, k * 2 + 1, none⟩ (.string (mkP i).2)) B Hb lab v N i (k + 1) (updP L i ((L i).set k (mkP i))) := by
  have h5 := h.lanes.below hb
  obtain ⟨q1, q2⟩ := h5.set hi hv k (mkP i)
  have hgi : lab g = i := (h.lanes i hi).2 g (by rw [hv]; rfl)
  have a5 : AllP w5 Hb v := h.all.kept (P := fun _ => False) (Kept.ofBelow hb) (fun h => h)
  refine ⟨q1, fun j hj => ?_, fun j hj => ?_, fun m y hm hy => ?_, a5.kept q2 (fun e => by rw [e, hgi] at hlb; omega), h.kept.trans ((Kept.ofBelow hb).trans (q2.mono (fun k _ e => ⟨i, hi, by rw [hv, e]; rfl⟩)))⟩
  · by_cases hji : j = i
    · subst hji; rw [upd_atP, List.length_set]; exact h.len j hj
    · rw [upd_neP _ _ hji]; exact h.len j hj
  · rw [upd_neP _ _ (by omega)]; exact h.done j hj
  · rw [upd_atP, List.getElem?_set] at hy
    split at hy
    · split at hy
      · simpa using hy.symm
      · cases hy
    · rename_i hne
      exact h.part m y (by omega) hy
theorem Pq1.next {w wr : World} {B Hb : Nat} {lab : Nat → Nat} {v : Nat → Value} {N : Nat → Nat} {i k : Nat} {L : Nat → List BP} (h : Pq1 w wr B Hb lab v N i k L) (hk : (L i).length ≤ k) : Pq1 w wr B Hb lab v N (i + 1) 0 L := by
  refine ⟨h.lanes, h.len, fun j hj => ?_, fun m y hm _ => by omega, h.all, h.kept⟩
  by_cases hji : j = i
  · subst hji
    intro m y hy
    exact h.part m y (by have := (List.getElem?_eq_some_iff.1 hy).1; omega) hy
  · exact h.done j (by omega)

/-- Phase two: the lists grow. -/
structure Pq2 (w wr : World) (B Hb : Nat) (lab : Nat → Nat) (v u : Nat → Value) (N : Nat → Nat) (L M : Nat → List BP) : Prop where
  lv : LanesP wr B lab v L
  lu : LanesP wr B lab u M
  len : ∀ j, j < 3 → (L j).length = N j
  mlen : ∀ j, j < 3 → N j ≤ (M j).length ∧ (M j).length ≤ N j + 20
  dl : ∀ j, j < 3 → SameP (L j) (mkP j)
  dm : ∀ j, j < 3 → SameP (M j) (mkP j)
  all : AllP wr Hb u
  lb : lab Hb = 3
  kept : Kept (VBP v) w wr
  own : ∀ j, j < 3 → ∀ g, (u j).ownBlock = some g → g < w.heap.size → (v j).ownBlock = some g
theorem samep_snoc {ts : List BP} {x : BP} (h : SameP ts x) : SameP (ts ++ [x]) x := by
  intro k y hy
  rcases Nat.lt_or_ge k ts.length with hlt | hge
  · rw [List.getElem?_append_left hlt] at hy
    exact h k y hy
  · rw [List.getElem?_append_right hge] at hy
    have := List.mem_of_getElem? hy
    simpa using this

theorem LanesP.setOther {w : World} {B : Nat} {lab : Nat → Nat} {v : Nat → Value} {L : Nat → List BP} (h : LanesP w B lab v L) {Hb : Nat} (hlb : lab Hb = 3) (i : Nat) (x : Value) : LanesP (w.setCell ⟨Hb, i, none⟩ x) B lab v L :=
  fun j hj => ⟨row_keptP (Kept.setCell (fun q => q = Hb) w Hb i x rfl) (h j hj).1 (fun g hg e => by have := (h j hj).2 g hg; rw [e, hlb] at this; omega), (h j hj).2⟩
theorem Pq2.below' {w wr w5 : World} {B Hb : Nat} {lab : Nat → Nat} {v u : Nat → Value} {N : Nat → Nat} {L M : Nat → List BP} (h : Pq2 w wr B Hb lab v u N L M) (hb : Below wr.heap.size wr w5) : Pq2 w w5 B Hb lab v u N L M :=
  ⟨h.lv.below hb, h.lu.below hb, h.len, h.mlen, h.dl, h.dm, h.all.kept (P := fun _ => False) (Kept.ofBelow hb) (fun h => h), h.lb, h.kept.trans (Kept.ofBelow hb), h.own⟩
theorem Pq2.push {w w5 w6 : World} {B Hb : Nat} {lab : Nat → Nat} {v u : Nat → Value} {N : Nat → Nat} {L M : Nat → List BP} (h : Pq2 w w5 B Hb lab v u N L M) {i : Nat} (hi : i < 3) (hM : (M i).length < N i + 20) (hBh : w.heap.size ≤ Hb) {v6 : Value}
    (o : Prs w6 B v6 (M i ++ [mkP i])) (hg : (w5.alloc (.cells #[.string (mkP i).1, .string (mkP i).2] 41)).grownBy w6 (u i).ownBlock) (hk : ∀ (y : Value) (ys : List BP), Prs w5 B y ys → (y.ownBlock = (u i).ownBlock → ys.length ≤ (M i).length) → Prs w6 B y ys) (hat : v6.ownBlock = (u i).ownBlock ∨ v6.ownBlock = some (w5.heap.size + 1)) :
    AllP w6 Hb u ∧ ∃ lab', Pq2 w (w6.setCell ⟨Hb, i, none⟩ v6) B Hb lab' v (updP u i v6) N L (updP M i (M i ++ [mkP i])) := by
  obtain ⟨q1, q2, q3, q4, q5⟩ := h.lv.push h.lu h.all h.lb hi (by rw [h.len i hi]; exact (h.mlen i hi).1) o hg hk hat
  refine ⟨q3, _, ⟨q1.setOther q5 i v6, q2.setOther q5 i v6, h.len, fun j hj => ?_, h.dl, fun j hj => ?_, q3.set hi v6, q5, (h.kept.step q4 (fun k hk e => ⟨i, hi, h.own i hi k e hk⟩)).step (Kept.setCell (fun q => q = Hb) w6 Hb i v6 rfl) (fun k hk e => by omega), fun j hj g hg' hgl => ?_⟩⟩
  · by_cases hji : j = i
    · subst hji
      rw [upd_atP, List.length_append, List.length_singleton]
      have := h.mlen j hj
      omega
    · rw [upd_neP _ _ hji]; exact h.mlen j hj
  · by_cases hji : j = i
    · subst hji
      rw [upd_atP]
      exact samep_snoc (h.dm j hj)
    · rw [upd_neP _ _ hji]; exact h.dm j hj
  · by_cases hji : j = i
    · subst hji
      rw [upd_atP] at hg'
      rcases hat with hat | hat
      · exact h.own j hj g (hat.symm.trans hg') hgl
      · rw [hat] at hg'
        have hs := h.kept.size
        simp only [Option.some.injEq] at hg'
        omega
    · rw [upd_neP _ _ hji] at hg'; exact h.own j hj g hg' hgl
theorem Pq1.two {w wr : World} {B Hb : Nat} {lab : Nat → Nat} {v : Nat → Value} {N : Nat → Nat} {L : Nat → List BP} (h : Pq1 w wr B Hb lab v N 3 0 L) (hlb : lab Hb = 3) : Pq2 w wr B Hb lab v v N L L :=
  ⟨h.lanes, h.lanes, h.len, (fun j hj => by rw [h.len j hj]; omega), h.done, h.done, h.all, hlb, h.kept, fun _ _ _ e _ => e⟩

/-- The six lists in the end. -/
def sixV (u v : Nat → Value) : Nat → Value := fun j => if j < 3 then u j else v (j - 3)
def sixL (M L : Nat → List BP) : Nat → List BP := fun j => if j < 3 then M j else L (j - 3)
def All6 (w : World) (Hc : Nat) (f : Nat → Value) : Prop := w.heap[Hc]? = some (.cells #[f 0, f 1, f 2, f 3, f 4, f 5] 37 (0, 0))
theorem All6.lt {w : World} {Hb : Nat} {u : Nat → Value} (h : All6 w Hb u) : Hb < w.heap.size := by
  have h : w.heap[Hb]? = _ := h
  exact (Array.getElem?_eq_some_iff.1 h).1
theorem All6.cell {w : World} {Hb : Nat} {u : Nat → Value} (h : All6 w Hb u) {i : Nat} (hi : i < 6) : w.cell? ⟨Hb, i, none⟩ = some (u i) := by
  have h : w.heap[Hb]? = _ := h
  match i, hi with
  | 0, _ => simp [World.cell?, h]
  | 1, _ => simp [World.cell?, h]
  | 2, _ => simp [World.cell?, h]
  | 3, _ => simp [World.cell?, h]
  | 4, _ => simp [World.cell?, h]
  | 5, _ => simp [World.cell?, h]
theorem All6.kept {P : Nat → Prop} {w w1 : World} {Hb : Nat} {u : Nat → Value} (h : All6 w Hb u) (hk : Kept P w w1) (hP : ¬ P Hb) : All6 w1 Hb u := (hk.block Hb h.lt hP).trans h
theorem Pq2.six {w wr : World} {B Hb : Nat} {lab : Nat → Nat} {v u : Nat → Value} {N : Nat → Nat} {L M : Nat → List BP} (h : Pq2 w wr B Hb lab v u N L M) {j : Nat} (hj : j < 6) : Prs wr B (sixV u v j) (sixL M L j) ∧ SameP (sixL M L j) (mkP (j % 3)) ∧ ∃ i, i < 3 ∧ (sixL M L j).length ≤ N i + 20 := by
  unfold sixV sixL
  by_cases h3 : j < 3
  · rw [if_pos h3, if_pos h3, Nat.mod_eq_of_lt h3]
    exact ⟨(h.lu j h3).1, h.dm j h3, j, h3, (h.mlen j h3).2⟩
  · rw [if_neg h3, if_neg h3, show j % 3 = j - 3 by omega]
    exact ⟨(h.lv (j - 3) (by omega)).1, h.dl (j - 3) (by omega), j - 3, by omega, by rw [h.len (j - 3) (by omega)]; omega⟩

set_option maxHeartbeats 4000000 in
set_option maxRecDepth 1000000 in
theorem apartPairs_any (w : World) (B : Nat) (lab : Nat → Nat) (v : Nat → Value) (L : Nat → List BP) (h : LanesP w B lab v L) (hB : B ≤ w.heap.size) (hl : ∀ j, j < 3 → (L j).length ≤ 1073741000) :
    Calls Try.prog 26 #[v 0, v 1, v 2] w fun e w' => e = .returned (.bool true) ∧ Kept (VBP v) w w' := by
  obtain ⟨Hb, hHb⟩ : ∃ Hb, Hb = w.heap.size := ⟨_, rfl⟩
  obtain ⟨a0, c0, hv0, _⟩ := (h 0 (by omega)).1.form
  obtain ⟨a1, c1, hv1, _⟩ := (h 1 (by omega)).1.form
  obtain ⟨a2, c2, hv2, _⟩ := (h 2 (by omega)).1.form
  obtain ⟨w0, hw0⟩ : ∃ w0, w0 = w.alloc (.cells #[.slice a0 (L 0).length c0, .slice a1 (L 1).length c1, .slice a2 (L 2).length c2] 37) := ⟨_, rfl⟩
  obtain ⟨lab0, hlab0⟩ : ∃ lab0 : Nat → Nat, lab0 = fun k => if k = Hb then 3 else lab k := ⟨_, rfl⟩
  have hlb : lab0 Hb = 3 := by rw [hlab0]; simp
  have B0 : Below w.heap.size w w0 := by rw [hw0]; exact (Below.refl _ w).alloc (Nat.le_refl _) _
  have A0 : AllP w0 Hb v := by unfold AllP; rw [hw0, hHb, hv0, hv1, hv2]; exact heap_alloc_new _ _
  have HP0 : Hid (Pq1 w w0 B Hb lab0 v (fun j => (L j).length) 0 0 L) := ⟨(h.relabel (fun k hk => by rw [hlab0]; exact if_neg (by omega))).below B0, fun j _ => rfl, (fun j hj => by omega), (fun m y hm _ => by omega), A0, Kept.ofBelow B0⟩
  have HW0 : Hid (w0 = w.alloc (.cells #[.slice a0 (L 0).length c0, .slice a1 (L 1).length c1, .slice a2 (L 2).length c2] 37)) := hw0
  have HV : Hid (v 0 = .slice a0 (L 0).length c0 ∧ v 1 = .slice a1 (L 1).length c1 ∧ v 2 = .slice a2 (L 2).length c2) := ⟨hv0, hv1, hv2⟩
  rw [hv0, hv1, hv2]
  have HHb : Hid (Hb = w.heap.size) := hHb
  obtain ⟨N, hN⟩ : ∃ N : Nat → Nat, N = fun j => (L j).length := ⟨_, rfl⟩
  rw [← hN] at HP0
  have HNL : Hid (∀ j, j < 3 → N j ≤ 1073741000) := fun j hj => by rw [hN]; exact hl j hj
  have HLB : Hid (lab0 Hb = 3) := hlb
  have HBW : Hid (B ≤ w.heap.size) := hB
  clear h hl hHb hw0 hlab0 hlb B0 A0 hN hB hv0 hv1 hv2
  go_enter Try.func26, Try.ntmps26
  go_wp2_with fail
  rw [← HW0.out, ← HHb.out]
  go_loopg [22] 3 (fun gk q wr => ∃ (i : Nat) (L' : Nat → List BP), q = .int .i64 i ∧ i ≤ 3 ∧ 3 - i ≤ gk ∧ Hid (Pq1 w wr B Hb lab0 v N i 0 L'))
  case atStart => exact ⟨0, L, rfl, by omega, by omega, HP0.out⟩
  case round =>
    clear HP0
    obtain ⟨i, L1, rfl, hi, hgk, HP⟩ := hrel
    by_cases hlt : i < 3
    · have hib : decide ((i : Int) < 3) = true := by simp; omega
      obtain ⟨a9, c9, hv9, hg9⟩ := (HP.out.lanes i hlt).1.form
      have c0 : wr.cell? ⟨Hb, i, none⟩ = some (.slice a9 (N i) c9) := by rw [HP.out.all.cell hlt, hv9, HP.out.len i hlt]
      have hHbr : Hb < wr.heap.size := HP.out.all.lt
      rw [HP.out.len i hlt] at hv9 hg9
      have HV9 : Hid (v i = .slice a9 (N i) c9) := hv9
      have HG9 : Hid (0 < N i → ∃ g, a9 = some ⟨g, 0, none⟩) := hg9
      clear hv9 hg9
      go_wp2_with fail
      go_loopg [29] (N i) (fun gk q wq => ∃ (k : Nat) (L' : Nat → List BP), q = .int .i64 k ∧ k ≤ N i ∧ N i - k ≤ gk ∧ Hid (Pq1 w wq B Hb lab0 v N i k L'))
      case atStart => exact ⟨0, L1, rfl, Nat.zero_le _, Nat.le_refl _, HP.out⟩
      case round =>
        clear HP c0 hHbr
        obtain ⟨k, L2, rfl, hk, hgi, HP⟩ := hrel
        have hni : N i ≤ 1073741000 := HNL.out i hlt
        by_cases hkn : k < N i
        · obtain ⟨g, rfl⟩ := HG9.out (by omega)
          obtain ⟨x, hx⟩ : ∃ x, (L2 i)[k]? = some x := ⟨_, List.getElem?_eq_getElem (by rw [HP.out.len i hlt]; exact hkn)⟩
          have hrow := (HP.out.lanes i hlt).1
          rw [HV9.out] at hrow
          obtain ⟨⟨z1, z3⟩, z2⟩ := hrow.cellAt hx
          have hgl : g < wr.heap.size := cell_lt z1
          have HBr : Hid (B ≤ wr.heap.size) := Nat.le_trans HBW.out HP.out.kept.size
          clear hrow hx
          go_wp2_with (go_at_call 42; refine (mark_any i hlt _).mono ?_; rintro e w5 ⟨rfl, b5⟩; have y1 : w5.cell? ⟨g, k * 2, none⟩ = some (.string x.1) := (b5.cell (p := ⟨g, k * 2, none⟩) hgl).trans z1; have y3 : w5.cell? ⟨g, k * 2 + 1, none⟩ = some (.string x.2) := (b5.cell (p := ⟨g, k * 2 + 1, none⟩) hgl).trans z3; have y2 : w5.frozen? ⟨g, k * 2, none⟩ = false := (World.frozen?_of_block (b5.block g hgl)).trans (z2 _); have y4 : w5.frozen? ⟨g, k * 2 + 1, none⟩ = false := (World.frozen?_of_block (b5.block g hgl)).trans (z2 _); have hgl5 : g < w5.heap.size := Nat.lt_of_lt_of_le hgl b5.size; have HP5 : Hid (Pq1 w ((w5.setCell ⟨g, k * 2, none⟩ (.string (mkP i).1)).setCell ⟨g, k * 2 + 1, none⟩ (.string (mkP i).2)) B Hb lab0 v N i (k + 1) (updP L2 i ((L2 i).set k (mkP i)))) := HP.out.mark hlt b5 HLB.out HV9.out; clear b5)
          go_roundg (N i - (k + 1))
          case measure => omega
          case rel => exact ⟨k + 1, _, by go_num, by omega, Nat.le_refl _, HP5.out⟩
        · have HPN : Hid (Pq1 w wr B Hb lab0 v N (i + 1) 0 L2) := HP.out.next (by rw [HP.out.len i hlt]; omega)
          go_wp2_with fail
          go_roundg (3 - (i + 1))
          case measure => omega
          case rel => exact ⟨i + 1, L2, by go_num, by omega, by omega, HPN.out⟩
    · obtain rfl : i = 3 := by omega
      have HP2 : Hid (Pq2 w wr B Hb lab0 v v N L1 L1) := HP.out.two HLB.out
      have HBH : Hid (w.heap.size ≤ Hb) := by show _ ≤ Hb; rw [HHb.out]; exact Nat.le_refl _
      clear HP
      go_wp2_with fail
      go_loopg [42] 3 (fun gk q wr => ∃ (i : Nat) (lab : Nat → Nat) (u : Nat → Value) (M : Nat → List BP), q = .int .i64 i ∧ i ≤ 3 ∧ 3 - i ≤ gk ∧ Hid (Pq2 w wr B Hb lab v u N L1 M) ∧ Hid (∀ j, j < 3 → i ≤ j → (M j).length = N j))
      case atStart => exact ⟨0, lab0, v, L1, rfl, by omega, by omega, HP2.out, fun j hj _ => HP2.out.len j hj⟩
      case round =>
        clear HP2
        obtain ⟨i, lab1, u, M, rfl, hi, hgk, HP, HE⟩ := hrel
        by_cases hlt : i < 3
        · have hni : N i ≤ 1073741000 := HNL.out i hlt
          have hib : decide ((i : Int) < 3) = true := by simp; omega
          go_wp2_with fail
          go_loopg [45] 20 (fun gk q wr => ∃ (t : Nat) (lab : Nat → Nat) (u : Nat → Value) (M : Nat → List BP), q = .int .i64 t ∧ t ≤ 20 ∧ 20 - t ≤ gk ∧ Hid (Pq2 w wr B Hb lab v u N L1 M) ∧ Hid ((M i).length = N i + t) ∧ Hid (∀ j, j < 3 → i < j → (M j).length = N j))
          case atStart => exact ⟨0, lab1, u, M, rfl, by omega, by omega, HP.out, HE.out i hlt (Nat.le_refl _), fun j hj hij => HE.out j hj (by omega)⟩
          case round =>
            clear HP HE
            obtain ⟨t, lab2, u2, M2, rfl, ht, hgt, HP, HL, HE⟩ := hrel
            by_cases ht20 : t < 20
            · obtain ⟨aU, cU, hvU, _⟩ := (HP.out.lu i hlt).1.form
              rw [HL.out] at hvU
              have c0 : wr.cell? ⟨Hb, i, none⟩ = some (.slice aU (N i + t) cU) := by rw [HP.out.all.cell hlt, hvU]
              have hHbr : Hb < wr.heap.size := HP.out.all.lt
              have HVU : Hid (u2 i = .slice aU (N i + t) cU) := hvU
              have HBr : Hid (B ≤ wr.heap.size) := Nat.le_trans HBW.out HP.out.kept.size
              have hMl : (M2 i).length ≤ 1073741823 := by have := HL.out; omega
              have HML : Hid ((M2 i).length < N i + 20) := by have := HL.out; show _ < _; omega
              have hii : (i : Int) < 3 := by omega
              clear hvU hib
              go_wp2_with fail
              go_region_law (first
                | (go_simp
                   go_at_call 42
                   refine (mark_any i hlt _).mono ?_
                   rintro e w5 ⟨rfl, b5⟩
                   have B5 : Below wr.heap.size wr w5 := (by first | exact b5 | exact ((Below.refl _ wr).drew).trans b5)
                   have HP5 : Hid (Pq2 w w5 B Hb lab2 v u2 N L1 M2) := HP.out.below' B5
                   have d0 : w5.cell? ⟨Hb, i, none⟩ = some (.slice aU (N i + t) cU) := (by rw [HP5.out.all.cell hlt, HVU.out])
                   have hHb5 : Hb < w5.heap.size := HP5.out.all.lt
                   have hB5 : B ≤ w5.heap.size := Nat.le_trans HBr.out B5.size
                   have HR5 : Hid (Prs w5 B (.slice aU (N i + t) cU) (M2 i)) := (by have := (HP5.out.lu i hlt).1; rwa [HVU.out] at this)
                   clear b5 B5)
                | (refine step_keepsP rfl (.tmp 52) (.tmp 56) rfl B w5 (.slice aU (N i + t) cU) (M2 i) (mkP i) HR5.out hB5 hMl (by simp [Act.eval]) (by simp [Act.eval]) ?_
                   intro v6 w6 o6 g6 k6 at6
                   rw [← HVU.out] at g6 k6 at6
                   obtain ⟨A6, lab6, P6⟩ := HP5.out.push hlt HML.out HBH.out o6 g6 k6 at6
                   have e0 : w6.cell? ⟨Hb, i, none⟩ = some (.slice aU (N i + t) cU) := (by rw [A6.cell hlt, HVU.out])
                   have e1 : w6.frozen? ⟨Hb, i, none⟩ = false := A6.frozen i
                   have hHb6 : Hb < w6.heap.size := A6.lt
                   have HP6 : Hid (Pq2 w (w6.setCell ⟨Hb, i, none⟩ v6) B Hb lab6 v (updP u2 i v6) N L1 (updP M2 i (M2 i ++ [mkP i]))) := P6
                   obtain ⟨a6, c6, hv6, _⟩ := o6.form
                   clear A6 P6 o6 g6 k6 at6))
              all_goals (
                have hv7 : v6 = .slice a6 ((M2 i).length + 1) c6 := by simpa using hv6
                have HL6 : Hid ((updP M2 i (M2 i ++ [mkP i]) i).length = N i + (t + 1)) := by show _ = _; rw [upd_atP, List.length_append, List.length_singleton, HL.out]; omega
                have HE6 : Hid (∀ j, j < 3 → i < j → (updP M2 i (M2 i ++ [mkP i]) j).length = N j) := fun j hj hij => by rw [upd_neP _ _ (by omega)]; exact HE.out j hj hij
                rw [← hv7]
                clear hv6 hv7
                go_wp2_with fail
                go_roundg (20 - (t + 1)))
              all_goals first
                | omega
                | exact ⟨t + 1, lab6, updP u2 i v6, updP M2 i (M2 i ++ [mkP i]), by go_num, by omega, by omega, HP6.out, HL6.out, HE6.out⟩
            · have HEN : Hid (∀ j, j < 3 → i + 1 ≤ j → (M2 j).length = N j) := fun j hj hij => HE.out j hj (by omega)
              go_wp2_with fail
              go_roundg (3 - (i + 1))
              case measure => omega
              case rel => exact ⟨i + 1, lab2, u2, M2, by go_num, by omega, by omega, HP.out, HEN.out⟩
        · obtain ⟨b0, d0, hu0, _⟩ := (HP.out.lu 0 (by omega)).1.form
          obtain ⟨b1, d1, hu1, _⟩ := (HP.out.lu 1 (by omega)).1.form
          obtain ⟨b2, d2, hu2, _⟩ := (HP.out.lu 2 (by omega)).1.form
          have k0 : wr.cell? ⟨Hb, 0, none⟩ = some (.slice b0 (M 0).length d0) := by rw [HP.out.all.cell (by omega), hu0]
          have k1 : wr.cell? ⟨Hb, 1, none⟩ = some (.slice b1 (M 1).length d1) := by rw [HP.out.all.cell (by omega), hu1]
          have k2 : wr.cell? ⟨Hb, 2, none⟩ = some (.slice b2 (M 2).length d2) := by rw [HP.out.all.cell (by omega), hu2]
          have hHbr : Hb < wr.heap.size := HP.out.all.lt
          have hib : decide ((i : Int) < 3) = false := by simp; omega
          obtain ⟨Hc, hHc⟩ : ∃ Hc, Hc = wr.heap.size := ⟨_, rfl⟩
          have HHc : Hid (Hc = wr.heap.size) := hHc
          have HU : Hid (u 0 = .slice b0 (M 0).length d0 ∧ u 1 = .slice b1 (M 1).length d1 ∧ u 2 = .slice b2 (M 2).length d2) := ⟨hu0, hu1, hu2⟩
          obtain ⟨w9, hw9⟩ : ∃ w9, w9 = (wr.alloc (.cells #[.slice b0 (M 0).length d0, .slice b1 (M 1).length d1, .slice b2 (M 2).length d2, .slice a0 (L 0).length c0, .slice a1 (L 1).length c1, .slice a2 (L 2).length c2] 37)).drew := ⟨_, rfl⟩
          have HW9 : Hid (w9 = (wr.alloc (.cells #[.slice b0 (M 0).length d0, .slice b1 (M 1).length d1, .slice b2 (M 2).length d2, .slice a0 (L 0).length c0, .slice a1 (L 1).length c1, .slice a2 (L 2).length c2] 37)).drew) := hw9
          have B9 : Below wr.heap.size wr w9 := by rw [hw9]; exact ((Below.refl _ wr).alloc (Nat.le_refl _) _).drew
          have HA9 : Hid (All6 w9 Hc (sixV u v)) := by
            show w9.heap[Hc]? = some (.cells #[u 0, u 1, u 2, v 0, v 1, v 2] 37 (0, 0))
            rw [hw9, hHc, HV.out.1, HV.out.2.1, HV.out.2.2, hu0, hu1, hu2]
            exact heap_alloc_new _ _
          have HP9 : Hid (Pq2 w w9 B Hb lab1 v u N L1 M) := HP.out.below' B9
          clear hu0 hu1 hu2 hHc HE hw9 B9 HP
          go_wp2_with fail
          go_region
          rw [← HW9.out, ← HHc.out]
          obtain ⟨F, hF⟩ : ∃ F, F = sixV u v := ⟨_, rfl⟩
          obtain ⟨G, hG⟩ : ∃ G, G = sixL M L1 := ⟨_, rfl⟩
          have HSX : Hid (∀ (wq : World), Pq2 w wq B Hb lab1 v u N L1 M → ∀ j, j < 6 → Prs wq B (F j) (G j) ∧ SameP (G j) (mkP (j % 3)) ∧ ∃ i, i < 3 ∧ (G j).length ≤ N i + 20) := fun wq hq j hj => by rw [hF, hG]; exact hq.six hj
          rw [← hF] at HA9
          clear hF hG k0 k1 k2 hHbr hib hlt hi hgk HW9 HHc HU
          go_wp2_with fail
          go_loopg [75] 6 (fun gk q wr => ∃ (j : Nat), q = .int .i64 j ∧ j ≤ 6 ∧ 6 - j ≤ gk ∧ Hid (Pq2 w wr B Hb lab1 v u N L1 M) ∧ Hid (All6 wr Hc F))
          case atStart => exact ⟨0, rfl, by omega, by omega, HP9.out, HA9.out⟩
          case round =>
            clear HP9 HA9
            obtain ⟨j, rfl, hj, hgj, HP, HA⟩ := hrel
            by_cases hlt : j < 6
            · have hjb : decide ((j : Int) < 6) = true := by simp; omega
              obtain ⟨hsx1, _, i3, hi3, hsx3⟩ := HSX.out wr HP.out j hlt
              obtain ⟨aU, cU, hvU, hgU⟩ := hsx1.form
              have d0 : wr.cell? ⟨Hc, j, none⟩ = some (.slice aU (G j).length cU) := by rw [HA.out.cell hlt, hvU]
              have hHcr : Hc < wr.heap.size := HA.out.lt
              have HVU : Hid (F j = .slice aU (G j).length cU) := hvU
              have HGU : Hid (0 < (G j).length → ∃ g, aU = some ⟨g, 0, none⟩) := hgU
              have hMl : (G j).length ≤ 1073741823 := by have := HNL.out i3 hi3; omega
              clear hvU hgU hsx1 hsx3
              go_wp2_with fail
              go_loopg [82] (G j).length (fun gk q wq => ∃ (k : Nat), q = .int .i64 k ∧ k ≤ (G j).length ∧ (G j).length - k ≤ gk ∧ Hid (Pq2 w wq B Hb lab1 v u N L1 M) ∧ Hid (All6 wq Hc F))
              case atStart => exact ⟨0, rfl, Nat.zero_le _, Nat.le_refl _, HP.out, HA.out⟩
              case round =>
                clear HP HA d0 hHcr
                obtain ⟨k, rfl, hk, hgk, HP, HA⟩ := hrel
                by_cases hkn : k < (G j).length
                · obtain ⟨g, rfl⟩ := HGU.out (by omega)
                  obtain ⟨x, hx⟩ : ∃ x, (G j)[k]? = some x := ⟨_, List.getElem?_eq_getElem hkn⟩
                  obtain ⟨hrow, hsm, _⟩ := HSX.out wr HP.out j hlt
                  rw [HVU.out] at hrow
                  obtain ⟨⟨y1, y3⟩, _⟩ := hrow.cellAt hx
                  obtain rfl := hsm k x hx
                  have z1 : wr.cell? ⟨g, k * 2, none⟩ = some (.string (mkT (j % 3))) := y1
                  have z3 : wr.cell? ⟨g, k * 2 + 1, none⟩ = some (.string ⟨#[]⟩) := y3
                  clear y1 y3
                  have hgl : g < wr.heap.size := cell_lt z1
                  have HBr : Hid (B ≤ wr.heap.size) := Nat.le_trans HBW.out HP.out.kept.size
                  have hxx : ((mkT (j % 3)).toList == (mkT (j % 3)).toList) = true := by simp
                  have hj3 : j % 3 < 3 := Nat.mod_lt _ (by decide)
                  obtain ⟨w2, hw2⟩ : ∃ w2, w2 = wr.alloc (.cells #[.string (mkT (j % 3)), .string ⟨#[]⟩] 41) := ⟨_, rfl⟩
                  have HW2 : Hid (w2 = wr.alloc (.cells #[.string (mkT (j % 3)), .string ⟨#[]⟩] 41)) := hw2
                  have B2 : Below wr.heap.size wr w2 := by rw [hw2]; exact (Below.refl _ wr).alloc (Nat.le_refl _) _
                  obtain ⟨pb, hpb⟩ : ∃ pb, pb = wr.heap.size := ⟨_, rfl⟩
                  have HPB : Hid (pb = wr.heap.size) := hpb
                  have hbl : w2.heap[pb]? = some (.cells #[.string (mkT (j % 3)), .string ⟨#[]⟩] 41 (0, 0)) := by rw [hw2, hpb]; exact heap_alloc_new _ _
                  have m0 : w2.cell? ⟨pb, 0, none⟩ = some (.string (mkT (j % 3))) := by simp [World.cell?, hbl]
                  have m1 : w2.cell? ⟨pb, 1, none⟩ = some (.string ⟨#[]⟩) := by simp [World.cell?, hbl]
                  have hlt2 : pb < w2.heap.size := cell_lt m0
                  have HP2 : Hid (Pq2 w w2 B Hb lab1 v u N L1 M) := HP.out.below' B2
                  have HA2 : Hid (All6 w2 Hc F) := HA.out.kept (P := fun _ => False) (Kept.ofBelow B2) (fun h => h)
                  have HBr2 : Hid (B ≤ w2.heap.size) := Nat.le_trans HBr.out B2.size
                  clear hrow hx hsm hw2 B2 hpb hbl HP HA
                  go_upto_region 25 with fail
                  rw [← HW2.out, ← HPB.out]
                  go_region_law (first
                    | (go_simp
                       go_at_call 42
                       refine (mark_any (j % 3) hj3 _).mono ?_
                       rintro e w5 ⟨rfl, b5⟩
                       have B5 : Below w2.heap.size w2 w5 := (by first | exact b5 | exact ((Below.refl _ w2).drew).trans b5)
                       have n0 : w5.cell? ⟨pb, 0, none⟩ = some (.string (mkT (j % 3))) := (B5.cell (p := ⟨pb, 0, none⟩) hlt2).trans m0
                       have n1 : w5.cell? ⟨pb, 1, none⟩ = some (.string ⟨#[]⟩) := (B5.cell (p := ⟨pb, 1, none⟩) hlt2).trans m1
                       have hlt5 : pb < w5.heap.size := cell_lt n0
                       have HP5 : Hid (Pq2 w w5 B Hb lab1 v u N L1 M) := HP2.out.below' B5
                       have HA5 : Hid (All6 w5 Hc F) := HA2.out.kept (P := fun _ => False) (Kept.ofBelow B5) (fun h => h)
                       clear b5 B5))
                  all_goals (
                    go_wp2_with fail
                    go_roundg ((G j).length - (k + 1)))
                  all_goals first
                    | omega
                    | exact ⟨k + 1, by go_num, by omega, Nat.le_refl _, HP5.out, HA5.out⟩
                · go_wp2_with fail
                  go_roundg (6 - (j + 1))
                  case measure => omega
                  case rel => exact ⟨j + 1, by go_num, by omega, by omega, HP.out, HA.out⟩
            · go_wp2_with fail
              go_ret
              exact ⟨rfl, HP.out.kept⟩
end Go.Proofs.Ytbeedehloedglaa
