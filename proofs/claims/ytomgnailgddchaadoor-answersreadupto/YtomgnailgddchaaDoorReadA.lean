/-
  The walk of read.
-/
import Derived.Test.YtomgnailgddchaaDoorKind
namespace Go.Proofs.YtomgnailgddchaaDoor
open Go.RowKit Go.Sort


/-- A reply in a value. -/
def rpV (r : Rp) (b : Value) : Value := .agg #[.int .i64 r.kind, .int .i64 r.id, .int .i64 r.num, .string ⟨r.tube.toArray⟩, b]
theorem from_here (b : List UInt8) (n k far : Nat) (h : (kindS k b).st ≠ 2) : readFrom b (n + 1) k far = (rpOf k (kindS k b), (kindS k b).pos, (kindS k b).st) := by
  rw [readFrom, if_neg h]
theorem from_on (b : List UInt8) (n k far : Nat) (h : (kindS k b).st = 2) : readFrom b (n + 1) k far = readFrom b n (k + 1) (max far (kindS k b).pos) := by
  rw [readFrom, if_pos h]

/-- What lies about in read. -/
structure Rk (w0 W : World) (a : Option Addr) (n c far : Nat) : Prop where
  r0 : RepAt W w0.heap.size 0 0 0 [] (.slice none 0 0)
  r1 : TrAt W (w0.heap.size + 1) none 0 0 0 0
  r2 : TrAt W (w0.heap.size + 1 + 1) a n c far 2
  kept : Kept (fun j => w0.heap.size ≤ j) w0 W
theorem Rk.start (w : World) (a : Option Addr) (n c : Nat) : Rk w (((w.alloc (.cells #[.int .i64 0, .int .i64 0, .int .i64 0, .string ⟨#[]⟩, .slice none 0 0] 45)).alloc (.cells #[.slice none 0 0, .int .i64 0, .int .i64 0] 70)).alloc (.cells #[.slice a n c, .int .i64 0, .int .i64 2] 70)) a n c 0 := by
  obtain ⟨w1, e1⟩ : ∃ w1, w1 = w.alloc (.cells #[.int .i64 0, .int .i64 0, .int .i64 0, .string ⟨#[]⟩, .slice none 0 0] 45) := ⟨_, rfl⟩
  rw [← e1]
  obtain ⟨w2, e2⟩ : ∃ w2, w2 = w1.alloc (.cells #[.slice none 0 0, .int .i64 0, .int .i64 0] 70) := ⟨_, rfl⟩
  rw [← e2]
  obtain ⟨w3, e3⟩ : ∃ w3, w3 = w2.alloc (.cells #[.slice a n c, .int .i64 0, .int .i64 2] 70) := ⟨_, rfl⟩
  rw [← e3]
  have z1 : w1.heap.size = w.heap.size + 1 := by rw [e1]; simp
  have z2 : w2.heap.size = w.heap.size + 1 + 1 := by rw [e2]; simp; omega
  have h1 : RepAt w1 w.heap.size 0 0 0 [] (.slice none 0 0) := by unfold RepAt; rw [e1]; exact heap_alloc_new _ _
  have h2 : TrAt w2 (w.heap.size + 1) none 0 0 0 0 := by unfold TrAt; rw [e2, ← z1]; exact heap_alloc_new _ _
  have h3 : TrAt w3 (w.heap.size + 1 + 1) a n c 0 2 := by unfold TrAt; rw [e3, ← z2]; exact heap_alloc_new _ _
  have B0 : Below w.heap.size w w1 := by rw [e1]; exact (Below.refl _ w).alloc (Nat.le_refl _) _
  have B1 : Below w1.heap.size w1 w2 := by rw [e2]; exact (Below.refl _ w1).alloc (Nat.le_refl _) _
  have B2 : Below w2.heap.size w2 w3 := by rw [e3]; exact (Below.refl _ w2).alloc (Nat.le_refl _) _
  have K1 : Kept (fun _ => False) w1 w2 := Kept.ofBelow B1
  have K2 : Kept (fun _ => False) w2 w3 := Kept.ofBelow B2
  exact ⟨(h1.kept K1 (fun h => h)).kept K2 (fun h => h), h2.kept K2 (fun h => h), h3, Kept.ofBelow ((B0.trans (B1.mono (by omega))).trans (B2.mono (by omega)))⟩
theorem Rk.below {w0 W W' : World} {a : Option Addr} {n c far : Nat} (h : Rk w0 W a n c far) (hb : Below W.heap.size W W') : Rk w0 W' a n c far := by
  have K : Kept (fun _ => False) W W' := Kept.ofBelow hb
  exact ⟨h.r0.kept K (fun h => h), h.r1.kept K (fun h => h), h.r2.kept K (fun h => h), h.kept.step K (fun j hj e => e.elim)⟩
theorem Rk.alloc {w0 W : World} {a : Option Addr} {n c far : Nat} (h : Rk w0 W a n c far) (o : Obj) : Rk w0 (W.alloc o) a n c far := h.below ((Below.refl _ W).alloc (Nat.le_refl _) o)
theorem alloc_heap {w : World} {o x : Obj} {j : Nat} (h : w.heap[j]? = some x) : (w.alloc o).heap[j]? = some x := by
  show (w.heap.push o)[j]? = some x
  rw [Array.getElem?_push, if_neg (Nat.ne_of_lt (Array.getElem?_eq_some_iff.1 h).1)]
  exact h
theorem Rk.max {w0 W : World} {a : Option Addr} {n c far : Nat} (h : Rk w0 W a n c far) (q : Nat) : Rk w0 (W.setCell ⟨w0.heap.size + 1 + 1, 1, none⟩ (.int .i64 (q : Int))) a n c q := by
  obtain ⟨q1, q2⟩ := h.r2.setPos q
  exact ⟨h.r0.kept q2 (fun e => by have e : w0.heap.size = w0.heap.size + 1 + 1 := e; omega), h.r1.kept q2 (fun e => by have e : w0.heap.size + 1 = w0.heap.size + 1 + 1 := e; omega), q1, h.kept.step q2 (fun j hj e => by have e : j = w0.heap.size + 1 + 1 := e; omega)⟩
theorem Rk.cells {w0 W : World} {a : Option Addr} {n c far : Nat} (h : Rk w0 W a n c far) :
    (W.cell? ⟨w0.heap.size, 0, none⟩ = some (.int .i64 0) ∧ W.cell? ⟨w0.heap.size, 1, none⟩ = some (.int .i64 0) ∧ W.cell? ⟨w0.heap.size, 2, none⟩ = some (.int .i64 0) ∧ W.cell? ⟨w0.heap.size, 3, none⟩ = some (.string ⟨#[]⟩) ∧ W.cell? ⟨w0.heap.size, 4, none⟩ = some (.slice none 0 0)) ∧
    (W.cell? ⟨w0.heap.size + 1, 0, none⟩ = some (.slice none 0 0) ∧ W.cell? ⟨w0.heap.size + 1, 1, none⟩ = some (.int .i64 0) ∧ W.cell? ⟨w0.heap.size + 1, 2, none⟩ = some (.int .i64 0)) ∧
    (W.cell? ⟨w0.heap.size + 1 + 1, 0, none⟩ = some (.slice a n c) ∧ W.cell? ⟨w0.heap.size + 1 + 1, 1, none⟩ = some (.int .i64 (far : Int)) ∧ W.cell? ⟨w0.heap.size + 1 + 1, 2, none⟩ = some (.int .i64 2)) ∧
    (∀ i, W.frozen? ⟨w0.heap.size, i, none⟩ = false) ∧ (∀ i, W.frozen? ⟨w0.heap.size + 1, i, none⟩ = false) ∧ (∀ i, W.frozen? ⟨w0.heap.size + 1 + 1, i, none⟩ = false) ∧ w0.heap.size < W.heap.size ∧ w0.heap.size + 1 < W.heap.size ∧ w0.heap.size + 1 + 1 < W.heap.size := by
  have hx : W.heap[w0.heap.size]? = _ := h.r0
  have hy : W.heap[w0.heap.size + 1]? = _ := h.r1
  have hz : W.heap[w0.heap.size + 1 + 1]? = _ := h.r2
  exact ⟨⟨cells_at hx rfl, cells_at hx rfl, cells_at hx rfl, cells_at hx rfl, cells_at hx rfl⟩, ⟨cells_at hy rfl, cells_at hy rfl, cells_at hy rfl⟩, ⟨cells_at hz rfl, cells_at hz rfl, cells_at hz rfl⟩, fun i => by simp [World.frozen?, hx], fun i => by simp [World.frozen?, hy], fun i => by simp [World.frozen?, hz], (Array.getElem?_eq_some_iff.1 hx).1, (Array.getElem?_eq_some_iff.1 hy).1, (Array.getElem?_eq_some_iff.1 hz).1⟩
theorem Rk.fin {w0 W : World} {a : Option Addr} {n c far : Nat} (h : Rk w0 W a n c far) {a' a2 : Option Addr} {c' n2 c2 : Nat} {l : List UInt8} (hb : IsBytes W a' c' l) (k id num : Int) (tube : ByteArray) (p e : Int) (W1 W2 : World)
    (e1 : W1 = ((((W.setCell ⟨w0.heap.size, 0, none⟩ (.int .i64 k)).setCell ⟨w0.heap.size, 1, none⟩ (.int .i64 id)).setCell ⟨w0.heap.size, 2, none⟩ (.int .i64 num)).setCell ⟨w0.heap.size, 3, none⟩ (.string tube)).setCell ⟨w0.heap.size, 4, none⟩ (.slice a' l.length c'))
    (e2 : W2 = ((W1.setCell ⟨w0.heap.size + 1, 0, none⟩ (.slice a2 n2 c2)).setCell ⟨w0.heap.size + 1, 1, none⟩ (.int .i64 p)).setCell ⟨w0.heap.size + 1, 2, none⟩ (.int .i64 e)) :
    W2.heap[w0.heap.size]? = some (.cells #[.int .i64 k, .int .i64 id, .int .i64 num, .string tube, .slice a' l.length c'] 45 (0, 0)) ∧
    W2.heap[w0.heap.size + 1]? = some (.cells #[.slice a2 n2 c2, .int .i64 p, .int .i64 e] 70 (0, 0)) ∧ IsBytes W2 a' c' l ∧ Below w0.heap.size w0 W2 := by
  obtain ⟨g1, g2⟩ := set5 h.r0 (.int .i64 k) (.int .i64 id) (.int .i64 num) (.string tube) (.slice a' l.length c')
  rw [← e1] at g1 g2
  clear e1
  have K1 : Kept (fun j => j = w0.heap.size) W W1 := Kept.ofGrown g2 (fun g e => (Option.some.inj e).symm)
  have r1 := h.r1.kept K1 (fun e => by have e : w0.heap.size + 1 = w0.heap.size := e; omega)
  obtain ⟨g3, g4⟩ := set3 r1 (.slice a2 n2 c2) (.int .i64 p) (.int .i64 e)
  rw [← e2] at g3 g4
  clear e2
  have K2 : Kept (fun j => j = w0.heap.size + 1) W1 W2 := Kept.ofGrown g4 (fun g e => (Option.some.inj e).symm)
  have b1 := hb.kept K1 (hb.notRep h.r0 ⟨_, _, _, rfl⟩)
  have b2 := b1.kept K2 (b1.not r1)
  refine ⟨(K2.block _ (Array.getElem?_eq_some_iff.1 g1).1 (fun e => by have e : w0.heap.size = w0.heap.size + 1 := e; omega)).trans g1, g3, b2, ?_⟩
  have KK := (h.kept.step K1 (fun j hj e => by have e : j = w0.heap.size := e; omega)).step K2 (fun j hj e => by have e : j = w0.heap.size + 1 := e; omega)
  exact (KK.below (Nat.le_refl _) (fun j hj e => by have e : w0.heap.size ≤ j := e; omega))

theorem Rk.fin2 {w0 W : World} {a : Option Addr} {n c far : Nat} (h : Rk w0 W a n c far) {a' a2 : Option Addr} {c' n2 c2 : Nat} {l : List UInt8} (hb : IsBytes W a' c' l) (k id num : Int) (tube : ByteArray) (p e : Int) (o1 o2 : Obj) (W1 W2 W3 : World)
    (e1 : W1 = ((((W.setCell ⟨w0.heap.size, 0, none⟩ (.int .i64 k)).setCell ⟨w0.heap.size, 1, none⟩ (.int .i64 id)).setCell ⟨w0.heap.size, 2, none⟩ (.int .i64 num)).setCell ⟨w0.heap.size, 3, none⟩ (.string tube)).setCell ⟨w0.heap.size, 4, none⟩ (.slice a' l.length c'))
    (e2 : W2 = ((W1.setCell ⟨w0.heap.size + 1, 0, none⟩ (.slice a2 n2 c2)).setCell ⟨w0.heap.size + 1, 1, none⟩ (.int .i64 p)).setCell ⟨w0.heap.size + 1, 2, none⟩ (.int .i64 e))
    (e3 : W3 = ((W2.alloc o1).alloc o2).drew) :
    W3.heap[w0.heap.size]? = some (.cells #[.int .i64 k, .int .i64 id, .int .i64 num, .string tube, .slice a' l.length c'] 45 (0, 0)) ∧
    W3.heap[w0.heap.size + 1]? = some (.cells #[.slice a2 n2 c2, .int .i64 p, .int .i64 e] 70 (0, 0)) ∧ IsBytes W3 a' c' l ∧ Below w0.heap.size w0 W3 := by
  obtain ⟨g1, g2, g3, g4⟩ := h.fin hb k id num tube p e W1 W2 e1 e2
  rw [e3]
  have B := below_two W2 o1 o2
  exact ⟨(B.block _ (Array.getElem?_eq_some_iff.1 g1).1).trans g1, (B.block _ (Array.getElem?_eq_some_iff.1 g2).1).trans g2, g3.below B, g4.trans (B.mono g4.size)⟩

theorem Rk.fin3 {w0 W : World} {a : Option Addr} {n c far : Nat} (h : Rk w0 W a n c far) (a2 : Option Addr) (n2 c2 : Nat) (p e : Int) (W1 W2 W3 : World)
    (e1 : W1 = ((((W.setCell ⟨w0.heap.size, 0, none⟩ (.int .i64 0)).setCell ⟨w0.heap.size, 1, none⟩ (.int .i64 0)).setCell ⟨w0.heap.size, 2, none⟩ (.int .i64 0)).setCell ⟨w0.heap.size, 3, none⟩ (.string ⟨#[]⟩)).setCell ⟨w0.heap.size, 4, none⟩ (.slice none 0 0))
    (e2 : W2 = ((W1.setCell ⟨w0.heap.size + 1, 0, none⟩ (.slice a2 n2 c2)).setCell ⟨w0.heap.size + 1, 1, none⟩ (.int .i64 p)).setCell ⟨w0.heap.size + 1, 2, none⟩ (.int .i64 e)) (e3 : W3 = W2.drew) :
    W3.heap[w0.heap.size]? = some (.cells #[.int .i64 0, .int .i64 0, .int .i64 0, .string ⟨#[]⟩, .slice none 0 0] 45 (0, 0)) ∧
    W3.heap[w0.heap.size + 1]? = some (.cells #[.slice a2 n2 c2, .int .i64 p, .int .i64 e] 70 (0, 0)) ∧ Below w0.heap.size w0 W3 := by
  obtain ⟨g1, g2, g3, g4⟩ := h.fin (l := []) (IsBytes.empty none 0 (Nat.zero_le _)) 0 0 0 ⟨#[]⟩ p e W1 W2 e1 e2
  rw [e3]
  exact ⟨g1, g2, g4.drew⟩

set_option maxHeartbeats 4000000 in
set_option maxRecDepth 1000000 in
theorem read_any (w : World) (a : Option Addr) (c : Nat) (b : List UInt8) (hb : IsBytes w a c b) (hbl : b.length ≤ 4294967296) (hT : Tabs w) (h5 : 5 ≤ w.heap.size) :
    Calls Tryd.prog 33 #[.slice a b.length c] w fun x w' => ∃ r p e a' c', (r, p, e) = readP b ∧ x = .returned (.tuple #[rpV r (.slice a' r.body.length c'), .agg #[.slice a b.length c, .int .i64 (p : Int), .int .i64 (e : Int)]]) ∧ IsBytes w' a' c' r.body ∧ Below w.heap.size w w' := by
  have HT : Hid (∀ W, Kept (fun j => w.heap.size ≤ j) w W → Tabs W) := fun W hW => hT.low h5 hW
  have HB : Hid (∀ W, Kept (fun j => w.heap.size ≤ j) w W → IsBytes W a c b) := fun W hW => hb.low hW
  obtain ⟨R, hR⟩ : ∃ R, R = readP b := ⟨_, rfl⟩
  rw [← hR]
  have HR := hide hR
  clear hT hb hR
  go_enter Tryd.func33, Tryd.ntmps33
  go_wp2_with fail
  go_loopg [5] 24 (fun gk i wr => ∃ (k far : Nat), i = .int .i64 k ∧ 1 ≤ k ∧ k ≤ 24 ∧ 24 - k ≤ gk ∧ Hid (Rk w wr a b.length c far) ∧ Hid (R = readFrom b (24 - k) k far))
  case atStart => exact ⟨1, 0, rfl, by omega, by omega, by omega, Rk.start w a b.length c, HR.out⟩
  case round =>
    obtain ⟨k, far, rfl, hk1, hk2, hgk, RK, HA⟩ := hrel
    obtain ⟨⟨x0, x1, x2, x3, x4⟩, ⟨y0, y1, y2⟩, ⟨z0, z1, z2⟩, fx, fy, fz, lx, ly, lz⟩ := RK.out.cells
    have hsz : 5 ≤ wr.heap.size := by omega
    by_cases hk : k ≤ 23
    · clear x0 x1 x2 x3 x4 y0 y1 y2 z0 z1 z2 fx fy fz
      go_wp2_with fail
      refine (readKind_any _ k a c b (by omega) (HB.out _ RK.out.kept) hbl (HT.out _ RK.out.kept) hsz).mono ?_
      rintro x w1 ⟨s, a', c', es, rfl, hby, B1⟩
      have RK1 := hide (RK.out.below B1)
      have HBY := hide hby
      have ES := hide es
      obtain ⟨⟨x0, x1, x2, x3, x4⟩, ⟨y0, y1, y2⟩, ⟨z0, z1, z2⟩, fx, fy, fz, lx, ly, lz⟩ := RK1.out.cells
      have fx0 := fx 0
      have fx1 := fx 1
      have fx2 := fx 2
      have fx3 := fx 3
      have fx4 := fx 4
      have fy0 := fy 0
      have fy1 := fy 1
      have fy2 := fy 2
      have fz1 := fz 1
      clear hby es B1 fx fy fz
      by_cases hst : s.st = 2
      · have hst2 : ((s.st : Int) == 2) = true := by rw [hst]; rfl
        go_wp2_with fail
        go_roundg (24 - (k + 1))
        case measure => omega
        case rel =>
          refine ⟨k + 1, max far s.pos, by go_num, by omega, by omega, Nat.le_refl _, ?_, ?_⟩
          · rw [show max (far : Int) (s.pos : Int) = ((max far s.pos : Nat) : Int) by omega]
            exact ((RK1.out.max (max far s.pos)).alloc _).alloc _
          · have := HA.out
            rw [show 24 - k = (24 - (k + 1)) + 1 by omega, from_on b _ k far (by rw [← ES.out]; exact hst), ← ES.out] at this
            exact this
      · have hst2 : ((s.st : Int) == 2) = false := by rw [beq_eq_false_iff_ne]; omega
        go_wp2_with fail
        go_region
        go_wp2_with fail
        obtain ⟨g1, g2, g3, g4⟩ := RK1.out.fin2 HBY.out (k : Int) s.id s.num ⟨s.tube.toArray⟩ (s.pos : Int) (s.st : Int) (a2 := a) (n2 := b.length) (c2 := c) (.cells #[.int .i64 (k : Int), .int .i64 s.id, .int .i64 s.num, .string ⟨s.tube.toArray⟩, .slice a' s.body.length c'] 45) (.cells #[.slice a b.length c, .int .i64 (s.pos : Int), .int .i64 (s.st : Int)] 70) _ _ _ rfl rfl rfl
        refine bodyPost_ret (results_two rfl _ _ w.heap.size (w.heap.size + 1) _ _ rfl rfl rfl rfl g1 g2) rfl ⟨rpOf k s, s.pos, s.st, a', c', ?_, rfl, g3, g4⟩
        rw [HA.out, show 24 - k = (24 - (k + 1)) + 1 by omega, from_here b _ k far (by rw [← ES.out]; exact hst), ← ES.out]
    · obtain rfl : k = 24 := by omega
      have fx0 := fx 0
      have fx1 := fx 1
      have fx2 := fx 2
      have fx3 := fx 3
      have fx4 := fx 4
      have fy0 := fy 0
      have fy1 := fy 1
      have fy2 := fy 2
      clear fx fy fz
      go_wp2_with fail
      go_region
      go_wp2_with fail
      obtain ⟨g1, g2, g4⟩ := RK.out.fin3 a b.length c (far : Int) 2 _ _ _ rfl rfl rfl
      refine bodyPost_ret (results_two rfl _ _ w.heap.size (w.heap.size + 1) _ _ rfl rfl rfl rfl g1 g2) rfl ⟨rp0, far, 2, none, 0, ?_, rfl, IsBytes.empty none 0 (Nat.zero_le _), g4⟩
      rw [HA.out]
      rfl
end Go.Proofs.YtomgnailgddchaaDoor
