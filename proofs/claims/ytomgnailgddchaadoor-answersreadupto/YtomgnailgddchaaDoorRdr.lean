/-
  A reader in memory; the walks of keep, Held, New, copyOf.
-/
import Derived.Test.YtomgnailgddchaaDoorReadA
import Derived.Test.YtomgnailgddchaaDoorShelf
import Derived.Deep.RegionLaw
import Derived.Laws.CopyOwn
namespace Go.Proofs.YtomgnailgddchaaDoor
open Go.RowKit Go.Sort

def nums (l : List UInt8) : List Int := l.map fun x => (x.toNat : Int)
theorem nums_length (l : List UInt8) : (nums l).length = l.length := by simp [nums]
theorem nums_range (l : List UInt8) : ∀ x ∈ nums l, 0 ≤ x ∧ x < 256 := by
  intro x hx
  obtain ⟨y, _, rfl⟩ := List.mem_map.1 hx
  have := UInt8.toNat_lt y
  omega
theorem nums_get (l : List UInt8) (i : Nat) (x : UInt8) (h : l[i]? = some x) : (nums l).getD i 0 = (x.toNat : Int) := by simp [nums, List.getD, h]
theorem IsBytes.at {w : World} {p : Addr} {c : Nat} {l : List UInt8} (h : IsBytes w (some p) c l) : ∀ i, i < l.length → w.cell? (p.add i) = some (.int .u8 ((nums l).getD i 0)) := by
  intro i hi
  obtain ⟨x, hx⟩ : ∃ x, l[i]? = some x := ⟨_, List.getElem?_eq_getElem hi⟩
  rcases h.2.2 with rfl | ⟨b, o, e, _, hc⟩
  · simp at hi
  · cases e
    rw [Go.WideShapes.add_plain, nums_get l i x hx]
    exact hc i x hx
theorem nums_u8s (l : List UInt8) : (nums l).map (Value.int .u8) = u8s l := by simp [nums, u8s]

theorem clone_any (a : Option Addr) (c : Nat) (l : List UInt8) (w : World) (h : IsBytes w a c l) (hb : l.length ≤ 140737488355328) :
    Calls Tryd.prog 36 #[.slice a l.length c] w fun e w' => ∃ v', e = .returned v' ∧ Own w' w.heap.size v' l ∧ Below w.heap.size w w' := by
  cases a with
  | none =>
    obtain rfl : l = [] := by
      rcases h.2.2 with h | ⟨_, _, e, _⟩
      · exact h
      · cases e
    refine (Tryd.bytes_Clone_nil 0 c w).mono ?_
    rintro e w' ⟨rfl, rfl⟩
    exact ⟨_, rfl, Own.nil _ _, Below.refl _ _⟩
  | some p =>
    refine (Tryd.bytes_Clone_at p l.length c (nums l) w (nums_length l) hb h.at).mono ?_
    rintro e w' ⟨v', rfl, ho, _, B⟩
    rw [nums_u8s] at ho
    exact ⟨v', rfl, ho, B⟩
theorem Own.kept {P : Nat → Prop} {w w1 : World} {B : Nat} {v : Value} {l : List UInt8} (ho : Own w B v l) (h : Kept P w w1) (hP : ∀ k, v.ownBlock = some k → ¬ P k) : Own w1 B v l := Kept.own h ho hP
theorem Own.old {w : World} {B : Nat} {v : Value} {l : List UInt8} (h : Own w B v l) : ∀ k, v.ownBlock = some k → B ≤ k ∧ k < w.heap.size := by
  intro k hk
  rcases h.2 with ⟨rfl, _⟩ | ⟨g', cap, cur, rfl, hB, hg, _⟩
  · cases hk
  · cases hk
    exact ⟨hB, (Array.getElem?_eq_some_iff.1 hg).1⟩

theorem Own.slice {w : World} {B : Nat} {v : Value} {l : List UInt8} (h : Own w B v l) : ∃ a c, v = .slice a l.length c ∧ IsBytes w a c l ∧ (a = none → c = 0) := by
  rcases h.2 with ⟨rfl, h0⟩ | ⟨g, cap, cur, rfl, hb, hg, hnc, hcm, hcs, htake⟩
  · have : l = [] := List.eq_nil_of_length_eq_zero h0
    subst this
    exact ⟨none, 0, rfl, ⟨by simp, by unfold maxLen; omega, .inl rfl⟩, fun _ => rfl⟩
  · obtain ⟨a, c, e, hi⟩ := h.shape
    exact ⟨a, c, e, hi, fun h0 => by subst h0; cases e⟩

/-- A reader's own block. -/
def RdBox (w : World) (rb : Nat) (v : Value) (g wh lk sp : Nat) : Prop := w.heap[rb]? = some (.cells #[v, .int .i64 (g : Int), .int .i64 (wh : Int), .int .i64 (lk : Int), .int .i64 (sp : Int)] 51 (0, 0))
theorem RdBox.lt {w : World} {rb : Nat} {v : Value} {g wh lk sp : Nat} (h : RdBox w rb v g wh lk sp) : rb < w.heap.size := (Array.getElem?_eq_some_iff.1 h).1
theorem RdBox.cell {w : World} {rb : Nat} {v : Value} {g wh lk sp : Nat} (h : RdBox w rb v g wh lk sp) : w.cell? ⟨rb, 0, none⟩ = some v ∧ w.cell? ⟨rb, 1, none⟩ = some (.int .i64 (g : Int)) ∧ w.cell? ⟨rb, 2, none⟩ = some (.int .i64 (wh : Int)) ∧ w.cell? ⟨rb, 3, none⟩ = some (.int .i64 (lk : Int)) ∧ w.cell? ⟨rb, 4, none⟩ = some (.int .i64 (sp : Int)) :=
  ⟨cells_at h rfl, cells_at h rfl, cells_at h rfl, cells_at h rfl, cells_at h rfl⟩
theorem RdBox.free {w : World} {rb : Nat} {v : Value} {g wh lk sp : Nat} (h : RdBox w rb v g wh lk sp) (j : Nat) : w.frozen? ⟨rb, j, none⟩ = false := by
  unfold RdBox at h
  simp [World.frozen?, h]
theorem RdBox.kept {P : Nat → Prop} {w w' : World} {rb : Nat} {v : Value} {g wh lk sp : Nat} (h : RdBox w rb v g wh lk sp) (hk : Kept P w w') (hP : ¬ P rb) : RdBox w' rb v g wh lk sp := (hk.block rb h.lt hP).trans h
theorem RdBox.set {w : World} {rb : Nat} {v : Value} {g wh lk sp : Nat} (h : RdBox w rb v g wh lk sp) :
    (∀ x, RdBox (w.setCell ⟨rb, 0, none⟩ x) rb x g wh lk sp) ∧ (∀ x : Nat, RdBox (w.setCell ⟨rb, 1, none⟩ (.int .i64 (x : Int))) rb v x wh lk sp) ∧ (∀ x : Nat, RdBox (w.setCell ⟨rb, 2, none⟩ (.int .i64 (x : Int))) rb v g x lk sp) ∧ (∀ x : Nat, RdBox (w.setCell ⟨rb, 3, none⟩ (.int .i64 (x : Int))) rb v g wh x sp) ∧ (∀ x : Nat, RdBox (w.setCell ⟨rb, 4, none⟩ (.int .i64 (x : Int))) rb v g wh lk x) :=
  ⟨fun x => by unfold RdBox; rw [(set_cells h 0 _).1]; simp, fun x => by unfold RdBox; rw [(set_cells h 1 _).1]; simp, fun x => by unfold RdBox; rw [(set_cells h 2 _).1]; simp, fun x => by unfold RdBox; rw [(set_cells h 3 _).1]; simp, fun x => by unfold RdBox; rw [(set_cells h 4 _).1]; simp⟩
theorem setK (w : World) (rb i : Nat) (x : Value) : Kept (fun k => k = rb) w (w.setCell ⟨rb, i, none⟩ x) := Kept.setCell _ w rb i x rfl
theorem Own.apart {w : World} {B rb : Nat} {v u : Value} {g wh lk sp : Nat} {l : List UInt8} (h : Own w B u l) (hb : RdBox w rb v g wh lk sp) : ∀ k, u.ownBlock = some k → k ≠ rb := by
  rintro k hk rfl
  rcases h.2 with ⟨rfl, _⟩ | ⟨g', cap, cur, rfl, _, hg, _⟩
  · cases hk
  · cases hk
    unfold RdBox at hb
    rw [hb] at hg
    simp at hg

set_option maxHeartbeats 2000000 in
set_option maxRecDepth 1000000 in
theorem held_any (w : World) (rb : Nat) (a : Option Addr) (n c g wh lk sp : Nat) (h : RdBox w rb (.slice a n c) g wh lk sp) (hg : g ≤ n) (hn : n ≤ 140737488355328) (hs : sp ≤ 140737488355328) :
    Calls Tryd.prog 19 #[.pointer (some ⟨rb, 0, none⟩)] w fun x w' => x = .returned (.int .i64 ((n - g + sp : Nat) : Int)) ∧ ∃ q, w' = w.drewN q := by
  obtain ⟨k0, k1, k2, k3, k4⟩ := h.cell
  have hlt := h.lt
  clear h
  go_enter Tryd.func19, Tryd.ntmps19
  go_wp2_with (first | go_region)
  go_ret
  exact ⟨by rw [show ((n - g + sp : Nat) : Int) = (n : Int) - (g : Int) + (sp : Int) by omega]; rfl, 1, rfl⟩

set_option maxHeartbeats 2000000 in
set_option maxRecDepth 1000000 in
theorem new_any (w : World) :
    Calls Tryd.prog 6 #[] w fun x w' => x = .returned (.pointer (some ⟨w.heap.size, 0, none⟩)) ∧ RdBox w' w.heap.size (.slice none 0 0) 0 0 0 0 ∧ Below w.heap.size w w' := by
  go_enter Tryd.func6, Tryd.ntmps6
  go_wp2_with fail
  go_ret
  exact ⟨rfl, heap_alloc_new w _, (Below.refl _ w).alloc (Nat.le_refl _) _⟩

theorem keepFin {w W : World} {rb : Nat} {v : Value} {g wh lk sp : Nat} {l : List UInt8} (h : RdBox W rb v g wh lk sp) (ho : Own W w.heap.size v l) (hk : Kept (fun k => k = rb) w W) (hlt : rb < w.heap.size) (hgw : g ≤ wh) (hgl : g ≤ lk) :
    RdBox (((W.setCell ⟨rb, 2, none⟩ (.int .i64 ((wh : Int) - (g : Int)))).setCell ⟨rb, 3, none⟩ (.int .i64 ((lk : Int) - (g : Int)))).setCell ⟨rb, 1, none⟩ (.int .i64 0)) rb v 0 (wh - g) (lk - g) sp ∧ Own (((W.setCell ⟨rb, 2, none⟩ (.int .i64 ((wh : Int) - (g : Int)))).setCell ⟨rb, 3, none⟩ (.int .i64 ((lk : Int) - (g : Int)))).setCell ⟨rb, 1, none⟩ (.int .i64 0)) w.heap.size v l ∧ Kept (fun k => k = rb) w (((W.setCell ⟨rb, 2, none⟩ (.int .i64 ((wh : Int) - (g : Int)))).setCell ⟨rb, 3, none⟩ (.int .i64 ((lk : Int) - (g : Int)))).setCell ⟨rb, 1, none⟩ (.int .i64 0)) := by
  rw [show (wh : Int) - (g : Int) = ((wh - g : Nat) : Int) by omega, show (lk : Int) - (g : Int) = ((lk - g : Nat) : Int) by omega]
  have b1 := (h.set.2.2.1 (wh - g)).set.2.2.2.1 (lk - g)
  have b2 := b1.set.2.1 0
  have K : Kept (fun k => k = rb) W _ := ((setK W rb 2 (.int .i64 ((wh - g : Nat) : Int))).trans (setK _ rb 3 (.int .i64 ((lk - g : Nat) : Int)))).trans (setK _ rb 1 (.int .i64 ((0 : Nat) : Int)))
  exact ⟨b2, ho.kept K (fun k hk e => by have := (ho.old k hk).1; have e : k = rb := e; omega), hk.trans K⟩
set_option maxHeartbeats 2000000 in
set_option maxRecDepth 1000000 in
theorem keep_any (w : World) (rb : Nat) (v : Value) (came : List UInt8) (g wh lk sp to : Nat) (h : RdBox w rb v g wh lk sp) (ho : Own w 0 v came) (hg : g ≤ to) (hto : to ≤ came.length) (hgw : g ≤ wh) (hgl : g ≤ lk) (hcl : came.length ≤ 140737488355328) (hwl : wh ≤ 140737488355328) (hll : lk ≤ 140737488355328) :
    Calls Tryd.prog 27 #[.pointer (some ⟨rb, 0, none⟩), .int .i64 (to : Int)] w fun x w' => x = .returned (.tuple #[]) ∧ ∃ v', RdBox w' rb v' 0 (wh - g) (lk - g) sp ∧ Own w' w.heap.size v' ((came.drop g).take (to - g)) ∧ Kept (fun k => k = rb) w w' := by
  obtain ⟨av, cv, rfl, hby, hnone⟩ := ho.slice
  obtain ⟨k0, k1, k2, k3, k4⟩ := h.cell
  have f0 := h.free 0
  have f1 := h.free 1
  have f2 := h.free 2
  have f3 := h.free 3
  have hlt := h.lt
  have hbc := hby.1
  have hcm : cv ≤ 9223372036854775807 := by
    have h2 := hby.2.1
    unfold maxLen at h2
    omega
  have HX := hide h
  have HB := hide hby
  obtain ⟨n, hn⟩ : ∃ n, n = came.length := ⟨_, rfl⟩
  rw [← hn] at hto hcl hbc k0
  have HN := hide hn
  clear h ho hby hn
  obtain ⟨bs, hbs⟩ : ∃ bs, bs = (came.drop g).take (to - g) := ⟨_, rfl⟩
  rw [← hbs]
  have hl : bs.length = to - g := by
    have := HN.out
    rw [hbs]
    simp
    omega
  have HC : Hid (∀ (ad : Option Addr) (q : Nat), ((ad = av ∧ cv = g) ∨ ad = av.map (fun x => x.add g)) → Calls Tryd.prog 36 #[.slice ad (to - g) (cv - g)] (w.drewN q) fun e w' => ∃ a1 c1, e = .returned (.slice a1 (to - g) c1) ∧ Own w' w.heap.size (.slice a1 (to - g) c1) bs ∧ Below w.heap.size w w') := by
    intro ad q had
    have hb : IsBytes (w.drewN q) ad (cv - g) bs := by
      rcases had with ⟨rfl, rfl⟩ | rfl
      · have : bs = [] := List.length_eq_zero_iff.1 (by rw [hl]; omega)
        rw [this]
        exact IsBytes.empty _ _ (by unfold maxLen; omega)
      · have := HN.out
        rw [hbs]
        exact ((HB.out.map g (by omega)).take (to - g))
    have := clone_any ad (cv - g) _ (w.drewN q) hb (by rw [hl]; omega)
    rw [hl] at this
    refine this.mono fun e w' ⟨v', h1, h2, h3⟩ => ?_
    obtain ⟨a1, c1, e1, _⟩ := h2.slice
    rw [hl] at e1
    subst e1
    exact ⟨a1, c1, h1, h2, ⟨h3.os, h3.tape, h3.output, h3.size, h3.block⟩⟩
  have htc : to ≤ cv := by omega
  have HFIN : Hid (∀ (w1 : World) (v' : Value), Own w1 w.heap.size v' bs → Below w.heap.size w w1 → RdBox (w1.setCell ⟨rb, 0, none⟩ v') rb v' g wh lk sp ∧ Own (w1.setCell ⟨rb, 0, none⟩ v') w.heap.size v' bs ∧ Kept (fun k => k = rb) w (w1.setCell ⟨rb, 0, none⟩ v')) := by
    intro w1 v' h1 h2
    have K1 : Kept (fun k => k = rb) w w1 := Kept.ofBelow h2
    have b1 : RdBox w1 rb _ g wh lk sp := (h2.block rb hlt).trans HX.out
    exact ⟨b1.set.1 v', h1.kept (setK w1 rb 0 v') (fun k hk e => by have := (h1.old k hk).1; have e : k = rb := e; omega), K1.trans (setK w1 rb 0 v')⟩
  clear hbs hl
  by_cases hck : cv = g
  · subst hck
    obtain rfl : to = cv := by omega
    have HC1 := hide (HC.out av 1 (.inl ⟨rfl, rfl⟩))
    rw [Nat.sub_self] at HC1
    clear HC
    go_enter Tryd.func27, Tryd.ntmps27
    go_wp2_with fail
    go_region_law (first
      | (go_simp
         go_at_call 36
         refine HC1.out.mono ?_
         rintro e w1 ⟨a1, c1, rfl, o1, B1⟩
         have bx1 : RdBox w1 rb _ _ wh lk sp := (B1.block rb hlt).trans HX.out
         have j0 := bx1.cell.1
         have ff0 := bx1.free 0
         have hlt1 := bx1.lt
         have HFI := hide (HFIN.out w1 _ o1 B1)
         clear o1 B1 bx1))
    all_goals (
      obtain ⟨W2, hW2⟩ : ∃ W2, W2 = w1.setCell ⟨rb, 0, none⟩ (.slice a1 0 c1) := ⟨_, rfl⟩
      rw [← hW2] at HFI ⊢
      clear hW2 j0 ff0 k0 k1 k2 k3 k4 f0 f1 f2 f3 hlt1
      obtain ⟨bx2, ow2, K2⟩ := HFI.out
      obtain ⟨k0, k1, k2, k3, k4⟩ := bx2.cell
      have f1 := bx2.free 1
      have f2 := bx2.free 2
      have f3 := bx2.free 3
      have hlt2 := bx2.lt
      have HF2 := hide (keepFin bx2 ow2 K2 hlt hgw hgl)
      clear bx2 ow2 K2 HFI
      go_wp2_with (first | go_region)
      go_end0
      obtain ⟨z1, z2, z3⟩ := HF2.out
      exact ⟨rfl, _, z1, z2, ⟨z3.os, z3.tape, z3.output, z3.size, z3.block⟩⟩)
  · have hckb : (cv == g) = false := by simpa using hck
    go_enter Tryd.func27, Tryd.ntmps27
    go_wp2_with fail
    go_region_law (first
      | (go_simp
         go_at_call 36
         refine (HC.out _ 1 (.inr rfl)).mono ?_
         rintro e w1 ⟨a1, c1, rfl, o1, B1⟩
         have bx1 : RdBox w1 rb _ _ wh lk sp := (B1.block rb hlt).trans HX.out
         have j0 := bx1.cell.1
         have ff0 := bx1.free 0
         have hlt1 := bx1.lt
         have HFI := hide (HFIN.out w1 _ o1 B1)
         clear o1 B1 bx1))
    all_goals (
      obtain ⟨W2, hW2⟩ : ∃ W2, W2 = w1.setCell ⟨rb, 0, none⟩ (.slice a1 (to - g) c1) := ⟨_, rfl⟩
      rw [← hW2] at HFI ⊢
      clear hW2 j0 ff0 k0 k1 k2 k3 k4 f0 f1 f2 f3 hlt1
      obtain ⟨bx2, ow2, K2⟩ := HFI.out
      obtain ⟨k0, k1, k2, k3, k4⟩ := bx2.cell
      have f1 := bx2.free 1
      have f2 := bx2.free 2
      have f3 := bx2.free 3
      have hlt2 := bx2.lt
      have HF2 := hide (keepFin bx2 ow2 K2 hlt hgw hgl)
      clear bx2 ow2 K2 HFI
      go_wp2_with (first | go_region)
      go_end0
      obtain ⟨z1, z2, z3⟩ := HF2.out
      exact ⟨rfl, _, z1, z2, ⟨z3.os, z3.tape, z3.output, z3.size, z3.block⟩⟩)
end Go.Proofs.YtomgnailgddchaaDoor
