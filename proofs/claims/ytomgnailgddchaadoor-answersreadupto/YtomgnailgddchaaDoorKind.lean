/-
  The walk of readKind.
-/
import Derived.Test.YtomgnailgddchaaDoorSteps
namespace Go.Proofs.YtomgnailgddchaaDoor
open Go.RowKit Go.Sort

theorem word_short8 : ∀ k, k < 24 → (⟨(wordOf k).toArray⟩ : ByteArray).size ≤ 1000 := by decide
theorem was_text {t b : List UInt8} {s s' : St} (e : s' = textS t b s) : s'.id = s.id ∧ s'.num = s.num ∧ s'.tube = s.tube ∧ s'.size = s.size ∧ s'.body = s.body := by rw [e]; exact St.keep_text t b s
theorem was_id {m : Int} {b : List UInt8} {s s' : St} (e : s' = idS m b s) : s'.num = s.num ∧ s'.tube = s.tube ∧ s'.size = s.size ∧ s'.body = s.body := by rw [e]; exact St.keep_id m b s
theorem was_num {m : Int} {b : List UInt8} {s s' : St} (e : s' = numS m b s) : s'.id = s.id ∧ s'.tube = s.tube ∧ s'.size = s.size ∧ s'.body = s.body := by rw [e]; exact St.keep_num m b s
theorem was_tube {b : List UInt8} {s s' : St} (e : s' = tubeS b s) : s'.id = s.id ∧ s'.num = s.num ∧ s'.size = s.size ∧ s'.body = s.body := by rw [e]; exact St.keep_tube b s
theorem was_size {m : Int} {b : List UInt8} {s s' : St} (e : s' = sizeS m b s) : s'.id = s.id ∧ s'.num = s.num ∧ s'.tube = s.tube ∧ s'.body = s.body := by rw [e]; exact St.keep_size m b s
theorem was_take {b : List UInt8} {s s' : St} (e : s' = takeS b s) : s'.id = s.id ∧ s'.num = s.num ∧ s'.tube = s.tube ∧ s'.size = s.size := by rw [e]; exact St.keep_take b s
def zeroR : Obj := .cells #[.int .i64 0, .int .i64 0, .int .i64 0, .string ⟨#[]⟩, .slice none 0 0] 45
def zeroT : Obj := .cells #[.slice none 0 0, .int .i64 0, .int .i64 0] 70
/-- The world in which readKind asks first. -/
def kindW (w : World) (k : Nat) (a : Option Addr) (n c : Nat) : World :=
  ((((w.alloc (.cells #[.int .i64 0, .int .i64 0, .int .i64 0, .string ⟨#[]⟩, .slice none 0 0] 45)).alloc (.cells #[.slice none 0 0, .int .i64 0, .int .i64 0] 70)).alloc (.cells #[.string ⟨(wordOf k).toArray⟩, .int .i64 (idOf k), .int .i64 (nuOf k), .int .i64 (boOf k), .bool (tuOf k)] 67)).alloc (.cells #[.slice a n c, .int .i64 0, .int .i64 0] 70)).alloc (.cells #[.int .i64 (k : Int), .int .i64 0, .int .i64 0, .string ⟨#[]⟩, .slice none 0 0] 45)
theorem Pk.start (w : World) (a : Option Addr) (c : Nat) (b : List UInt8) (k : Nat) : Pk w (kindW w k a b.length c) a c b k st0 := by
  unfold kindW
  obtain ⟨w1, e1⟩ : ∃ w1, w1 = w.alloc (.cells #[.int .i64 0, .int .i64 0, .int .i64 0, .string ⟨#[]⟩, .slice none 0 0] 45) := ⟨_, rfl⟩
  rw [← e1]
  obtain ⟨w2, e2⟩ : ∃ w2, w2 = w1.alloc (.cells #[.slice none 0 0, .int .i64 0, .int .i64 0] 70) := ⟨_, rfl⟩
  rw [← e2]
  obtain ⟨w3, e3⟩ : ∃ w3, w3 = w2.alloc (.cells #[.string ⟨(wordOf k).toArray⟩, .int .i64 (idOf k), .int .i64 (nuOf k), .int .i64 (boOf k), .bool (tuOf k)] 67) := ⟨_, rfl⟩
  rw [← e3]
  obtain ⟨w4, e4⟩ : ∃ w4, w4 = w3.alloc (.cells #[.slice a b.length c, .int .i64 0, .int .i64 0] 70) := ⟨_, rfl⟩
  rw [← e4]
  obtain ⟨w5, e5⟩ : ∃ w5, w5 = w4.alloc (.cells #[.int .i64 (k : Int), .int .i64 0, .int .i64 0, .string ⟨#[]⟩, .slice none 0 0] 45) := ⟨_, rfl⟩
  rw [← e5]
  have z1 : w1.heap.size = w.heap.size + 1 := by rw [e1]; simp
  have z2 : w2.heap.size = w.heap.size + 2 := by rw [e2]; simp; omega
  have z3 : w3.heap.size = w.heap.size + 3 := by rw [e3]; simp; omega
  have z4 : w4.heap.size = w.heap.size + 4 := by rw [e4]; simp; omega
  have h1 : RepAt w1 w.heap.size 0 0 0 [] (.slice none 0 0) := by unfold RepAt; rw [e1]; exact heap_alloc_new _ _
  have h2 : TrAt w2 (w.heap.size + 1) none 0 0 0 0 := by unfold TrAt; rw [e2, ← z1]; exact heap_alloc_new _ _
  have h3 : FormAt w3 (w.heap.size + 2) k := by unfold FormAt; rw [e3, ← z2]; exact heap_alloc_new _ _
  have h4 : TrAt w4 (w.heap.size + 3) a b.length c 0 0 := by unfold TrAt; rw [e4, ← z3]; exact heap_alloc_new _ _
  have h5 : RepAt w5 (w.heap.size + 4) k 0 0 [] (.slice none 0 0) := by unfold RepAt; rw [e5, ← z4]; exact heap_alloc_new _ _
  have B0 : Below w.heap.size w w1 := by rw [e1]; exact (Below.refl _ w).alloc (Nat.le_refl _) _
  have B1 : Below w1.heap.size w1 w2 := by rw [e2]; exact (Below.refl _ w1).alloc (Nat.le_refl _) _
  have B2 : Below w2.heap.size w2 w3 := by rw [e3]; exact (Below.refl _ w2).alloc (Nat.le_refl _) _
  have B3 : Below w3.heap.size w3 w4 := by rw [e4]; exact (Below.refl _ w3).alloc (Nat.le_refl _) _
  have B4 : Below w4.heap.size w4 w5 := by rw [e5]; exact (Below.refl _ w4).alloc (Nat.le_refl _) _
  have K1 : Kept (fun _ => False) w1 w2 := Kept.ofBelow B1
  have K2 : Kept (fun _ => False) w2 w3 := Kept.ofBelow B2
  have K3 : Kept (fun _ => False) w3 w4 := Kept.ofBelow B3
  have K4 : Kept (fun _ => False) w4 w5 := Kept.ofBelow B4
  have BB : Below w.heap.size w w5 := (((B0.trans (B1.mono (by omega))).trans (B2.mono (by omega))).trans (B3.mono (by omega))).trans (B4.mono (by omega))
  exact ⟨⟨h4.kept K4 (fun h => h), fun _ => Nat.zero_le _⟩, ⟨none, 0, h5, IsBytes.empty none 0 (Nat.zero_le _)⟩, (h3.kept K3 (fun h => h)).kept K4 (fun h => h), Kept.ofBelow BB, (((h1.kept K1 (fun h => h)).kept K2 (fun h => h)).kept K3 (fun h => h)).kept K4 (fun h => h), ((h2.kept K2 (fun h => h)).kept K3 (fun h => h)).kept K4 (fun h => h)⟩
theorem Pk.fin {w0 W : World} {a : Option Addr} {c : Nat} {b : List UInt8} {k : Nat} {s : St} (h : Pk w0 W a c b k s) {a' : Option Addr} {c' : Nat} (hb : IsBytes W a' c' s.body) (W1 W2 : World)
    (e1 : W1 = ((((W.setCell ⟨w0.heap.size, 0, none⟩ (.int .i64 (k : Int))).setCell ⟨w0.heap.size, 1, none⟩ (.int .i64 s.id)).setCell ⟨w0.heap.size, 2, none⟩ (.int .i64 s.num)).setCell ⟨w0.heap.size, 3, none⟩ (.string ⟨s.tube.toArray⟩)).setCell ⟨w0.heap.size, 4, none⟩ (.slice a' s.body.length c'))
    (e2 : W2 = ((W1.setCell ⟨w0.heap.size + 1, 0, none⟩ (.slice a b.length c)).setCell ⟨w0.heap.size + 1, 1, none⟩ (.int .i64 (s.pos : Int))).setCell ⟨w0.heap.size + 1, 2, none⟩ (.int .i64 (s.st : Int))) :
    W2.drew.heap[w0.heap.size]? = some (.cells #[.int .i64 (k : Int), .int .i64 s.id, .int .i64 s.num, .string ⟨s.tube.toArray⟩, .slice a' s.body.length c'] 45 (0, 0)) ∧
    W2.drew.heap[w0.heap.size + 1]? = some (.cells #[.slice a b.length c, .int .i64 (s.pos : Int), .int .i64 (s.st : Int)] 70 (0, 0)) ∧ IsBytes W2.drew a' c' s.body ∧ Below w0.heap.size w0 W2.drew := by
  obtain ⟨g1, g2⟩ := set5 h.r0 (.int .i64 (k : Int)) (.int .i64 s.id) (.int .i64 s.num) (.string ⟨s.tube.toArray⟩) (.slice a' s.body.length c')
  rw [← e1] at g1 g2
  clear e1
  have K1 : Kept (fun j => j = w0.heap.size) W W1 := Kept.ofGrown g2 (fun g e => (Option.some.inj e).symm)
  have r1 := h.r1.kept K1 (fun e => by have e : w0.heap.size + 1 = w0.heap.size := e; omega)
  obtain ⟨g3, g4⟩ := set3 r1 (.slice a b.length c) (.int .i64 (s.pos : Int)) (.int .i64 (s.st : Int))
  rw [← e2] at g3 g4
  clear e2
  have K2 : Kept (fun j => j = w0.heap.size + 1) W1 W2 := Kept.ofGrown g4 (fun g e => (Option.some.inj e).symm)
  have b1 := hb.kept K1 (hb.notRep h.r0 ⟨_, _, _, rfl⟩)
  have b2 := b1.kept K2 (b1.not r1)
  refine ⟨(K2.block _ (Array.getElem?_eq_some_iff.1 g1).1 (fun e => by have e : w0.heap.size = w0.heap.size + 1 := e; omega)).trans g1, g3, b2.drew, ?_⟩
  have KK := (h.kept.step K1 (fun j hj e => by have e : j = w0.heap.size := e; omega)).step K2 (fun j hj e => by have e : j = w0.heap.size + 1 := e; omega)
  exact (KK.below (Nat.le_refl _) (fun j hj e => by have e : w0.heap.size ≤ j := e; omega)).drew
theorem shapes : ∀ k, k < 24 → (idOf k = 0 ∧ nuOf k = 0 ∧ tuOf k = false ∧ boOf k = 0) ∨ (0 < idOf k ∧ nuOf k = 0 ∧ tuOf k = false ∧ boOf k = 0) ∨ (idOf k = 0 ∧ 0 < nuOf k ∧ tuOf k = false ∧ boOf k = 0) ∨ (idOf k = 0 ∧ nuOf k = 0 ∧ tuOf k = true ∧ boOf k = 0) ∨ (0 < idOf k ∧ nuOf k = 0 ∧ tuOf k = false ∧ 0 < boOf k) ∨ (idOf k = 0 ∧ nuOf k = 0 ∧ tuOf k = false ∧ 0 < boOf k) := by decide
set_option maxHeartbeats 4000000 in
set_option maxRecDepth 1000000 in
theorem readKind_plain (w : World) (k : Nat) (a : Option Addr) (c : Nat) (b : List UInt8) (hk : k < 24) (hb : IsBytes w a c b) (hT : Tabs w) (h5 : 5 ≤ w.heap.size)
    (f1 : idOf k = 0) (f2 : nuOf k = 0) (f3 : tuOf k = false) (f4 : boOf k = 0) :
    Calls Tryd.prog 41 #[.int .i64 (k : Int), .slice a b.length c] w fun x w' => ∃ s a' c', s = kindS k b ∧ x = .returned (.tuple #[.agg #[.int .i64 (k : Int), .int .i64 s.id, .int .i64 s.num, .string ⟨s.tube.toArray⟩, .slice a' s.body.length c'], .agg #[.slice a b.length c, .int .i64 (s.pos : Int), .int .i64 (s.st : Int)]]) ∧ IsBytes w' a' c' s.body ∧ Below w.heap.size w w' := by
  obtain ⟨t1, t2, t3, t4, t5, t6⟩ := table k hk
  have k0 := hT.word k hk
  have k1 := hT.id k hk
  have k2 := hT.num k hk
  have k3 := hT.body k hk
  have k4 := hT.tube k hk
  have HT : Hid (∀ W, Kept (fun j => w.heap.size ≤ j) w W → Tabs W) := fun W hW => hT.low h5 hW
  have HB : Hid (∀ W, Kept (fun j => w.heap.size ≤ j) w W → IsBytes W a c b) := fun W hW => hb.low hW
  obtain ⟨s0, hs0⟩ : ∃ s0, s0 = st0 := ⟨_, rfl⟩
  have PK := hide (Pk.start w a c b k)
  have HW := hide (word_short8 k hk)
  rw [← hs0] at PK
  have HS := hide hs0
  have Z1 : Hid (s0.id = 0) := by rw [hs0]; exact rfl
  have Z2 : Hid (s0.num = 0) := by rw [hs0]; exact rfl
  have Z3 : Hid (s0.tube = []) := by rw [hs0]; exact rfl
  have Z4 : Hid (s0.size = 0) := by rw [hs0]; exact rfl
  have Z5 : Hid (s0.body = []) := by rw [hs0]; exact rfl
  clear hs0
  have i1 : (0 : Int) ≤ (k : Int) := by omega
  have i2 : (k : Int) < 24 := by omega
  have h0lt : 0 < w.heap.size := by omega
  clear hT hb
  unfold kindW at PK
  rw [f1, f2, f3, f4] at PK
  go_enter Tryd.func41, Tryd.ntmps41
  go_wp2_with fail
  refine (textW _ (w.heap.size + 3) a c b _ ⟨(wordOf k).toArray⟩ PK.out.at_ (HB.out _ PK.out.kept) HW.out).mono ?_
  rintro x w1 ⟨rfl, s1, e1, A1, K1⟩
  have kk := was_text e1
  have PK := hide (PK.out.call A1 K1 ⟨kk.1, kk.2.1, kk.2.2.1, kk.2.2.2.2⟩)
  have HS := hide (e1.trans (congrArg (textS _ b) HS.out))
  have Z1 := hide (kk.1.trans Z1.out)
  have Z2 := hide (kk.2.1.trans Z2.out)
  have Z3 := hide (kk.2.2.1.trans Z3.out)
  have Z4 := hide (kk.2.2.2.1.trans Z4.out)
  have Z5 := hide (kk.2.2.2.2.trans Z5.out)
  obtain ⟨c1, c2, c3, c4, ⟨v1, d1⟩, ⟨v2, d2⟩, ⟨v3, d3⟩, ⟨v4, d4⟩, fz, hlt⟩ := PK.out.cells
  have fz1 := fz 1
  have fz2 := fz 2
  have fz3 := fz 3
  have fz4 := fz 4
  clear A1 K1 e1 kk fz
  go_wp2_with fail
  refine (textW _ (w.heap.size + 3) a c b _ ⟨#[13, 10]⟩ PK.out.at_ (HB.out _ PK.out.kept) (by decide)).mono ?_
  rintro x w1 ⟨rfl, s1, e1, A1, K1⟩
  have kk := was_text e1
  have PK := hide (PK.out.call A1 K1 ⟨kk.1, kk.2.1, kk.2.2.1, kk.2.2.2.2⟩)
  have HS := hide (e1.trans (congrArg (textS _ b) HS.out))
  obtain ⟨c1, c2, c3, c4, ⟨v1, d1⟩, ⟨v2, d2⟩, ⟨v3, d3⟩, ⟨v4, d4⟩, fz, hlt⟩ := PK.out.cells
  have fz1 := fz 1
  have fz2 := fz 2
  have fz3 := fz 3
  have fz4 := fz 4
  clear A1 K1 e1 kk fz
  go_wp2_with fail
  clear c1 c2 c3 c4 d1 d2 d3 d4 fz1 fz2 fz3 fz4 hlt
  obtain ⟨a', c', HBY, ⟨p0, p1, p2, p3, p4⟩, ⟨q0, q1, q2⟩, ⟨x0, x1, x2, x3, x4⟩, ⟨y0, y1, y2⟩, fx, fy, lx, ly⟩ := PK.out.ends
  have HF := hide (PK.out.fin HBY _ _ rfl rfl)
  have fx0 := fx 0
  have fx1 := fx 1
  have fx2 := fx 2
  have fx3 := fx 3
  have fx4 := fx 4
  have fy0 := fy 0
  have fy1 := fy 1
  have fy2 := fy 2
  clear fx fy HBY
  go_region
  go_wp2_with fail
  obtain ⟨g1, g2, g3, g4⟩ := HF.out
  refine bodyPost_ret (results_two rfl _ _ w.heap.size (w.heap.size + 1) _ _ rfl rfl rfl rfl g1 g2) rfl ⟨s1, a', c', ?_, rfl, g3, g4⟩
  rw [HS.out]
  unfold kindS bodyS lineS
  simp [f1, f2, f3, f4]
set_option maxHeartbeats 4000000 in
set_option maxRecDepth 1000000 in
theorem readKind_id (w : World) (k : Nat) (a : Option Addr) (c : Nat) (b : List UInt8) (hk : k < 24) (hb : IsBytes w a c b) (hbl : b.length ≤ 4294967296) (hT : Tabs w) (h5 : 5 ≤ w.heap.size)
    (f1 : 0 < idOf k) (f2 : nuOf k = 0) (f3 : tuOf k = false) (f4 : boOf k = 0) :
    Calls Tryd.prog 41 #[.int .i64 (k : Int), .slice a b.length c] w fun x w' => ∃ s a' c', s = kindS k b ∧ x = .returned (.tuple #[.agg #[.int .i64 (k : Int), .int .i64 s.id, .int .i64 s.num, .string ⟨s.tube.toArray⟩, .slice a' s.body.length c'], .agg #[.slice a b.length c, .int .i64 (s.pos : Int), .int .i64 (s.st : Int)]]) ∧ IsBytes w' a' c' s.body ∧ Below w.heap.size w w' := by
  obtain ⟨t1, t2, t3, t4, t5, t6⟩ := table k hk
  have k0 := hT.word k hk
  have k1 := hT.id k hk
  have k2 := hT.num k hk
  have k3 := hT.body k hk
  have k4 := hT.tube k hk
  have HT : Hid (∀ W, Kept (fun j => w.heap.size ≤ j) w W → Tabs W) := fun W hW => hT.low h5 hW
  have HB : Hid (∀ W, Kept (fun j => w.heap.size ≤ j) w W → IsBytes W a c b) := fun W hW => hb.low hW
  obtain ⟨s0, hs0⟩ : ∃ s0, s0 = st0 := ⟨_, rfl⟩
  have PK := hide (Pk.start w a c b k)
  have HW := hide (word_short8 k hk)
  rw [← hs0] at PK
  have HS := hide hs0
  have Z1 : Hid (s0.id = 0) := by rw [hs0]; exact rfl
  have Z2 : Hid (s0.num = 0) := by rw [hs0]; exact rfl
  have Z3 : Hid (s0.tube = []) := by rw [hs0]; exact rfl
  have Z4 : Hid (s0.size = 0) := by rw [hs0]; exact rfl
  have Z5 : Hid (s0.body = []) := by rw [hs0]; exact rfl
  clear hs0
  have i1 : (0 : Int) ≤ (k : Int) := by omega
  have i2 : (k : Int) < 24 := by omega
  have h0lt : 0 < w.heap.size := by omega
  clear hT hb
  unfold kindW at PK
  rw [f2, f3, f4] at PK
  go_enter Tryd.func41, Tryd.ntmps41
  go_wp2_with fail
  refine (textW _ (w.heap.size + 3) a c b _ ⟨(wordOf k).toArray⟩ PK.out.at_ (HB.out _ PK.out.kept) HW.out).mono ?_
  rintro x w1 ⟨rfl, s1, e1, A1, K1⟩
  have kk := was_text e1
  have PK := hide (PK.out.call A1 K1 ⟨kk.1, kk.2.1, kk.2.2.1, kk.2.2.2.2⟩)
  have HS := hide (e1.trans (congrArg (textS _ b) HS.out))
  have Z1 := hide (kk.1.trans Z1.out)
  have Z2 := hide (kk.2.1.trans Z2.out)
  have Z3 := hide (kk.2.2.1.trans Z3.out)
  have Z4 := hide (kk.2.2.2.1.trans Z4.out)
  have Z5 := hide (kk.2.2.2.2.trans Z5.out)
  obtain ⟨c1, c2, c3, c4, ⟨v1, d1⟩, ⟨v2, d2⟩, ⟨v3, d3⟩, ⟨v4, d4⟩, fz, hlt⟩ := PK.out.cells
  have fz1 := fz 1
  have fz2 := fz 2
  have fz3 := fz 3
  have fz4 := fz 4
  clear A1 K1 e1 kk fz
  go_wp2_with fail
  refine (idW _ (w.heap.size + 3) a c b _ (idOf k) PK.out.at_ (HB.out _ PK.out.kept) hbl (by omega) (HT.out _ PK.out.kept) t1 t4 Z1.out).mono ?_
  rintro x w1 ⟨s1, e1, rfl, A1, K1⟩
  have kk := was_id e1
  have HS := hide (e1.trans (congrArg (idS _ b) HS.out))
  have Z2 := hide (kk.1.trans Z2.out)
  have Z3 := hide (kk.2.1.trans Z3.out)
  have Z4 := hide (kk.2.2.1.trans Z4.out)
  have Z5 := hide (kk.2.2.2.trans Z5.out)
  have PKL := hide (PK.out.lay A1 K1 1 (.int .i64 s1.id) (fun a' c' h1 h2 => ⟨a', c', by rw [kk.1, kk.2.1, kk.2.2.2]; exact h1.set.1 _, by rw [kk.2.2.2]; exact h2⟩))
  obtain ⟨c1, c2, c3, c4, ⟨v1, d1⟩, ⟨v2, d2⟩, ⟨v3, d3⟩, ⟨v4, d4⟩, fz, hlt⟩ := PK.out.still K1
  have PK := PKL
  have fz1 := fz 1
  have fz2 := fz 2
  have fz3 := fz 3
  have fz4 := fz 4
  clear A1 K1 e1 kk fz PKL
  go_wp2_with fail
  refine (textW _ (w.heap.size + 3) a c b _ ⟨#[13, 10]⟩ PK.out.at_ (HB.out _ PK.out.kept) (by decide)).mono ?_
  rintro x w1 ⟨rfl, s1, e1, A1, K1⟩
  have kk := was_text e1
  have PK := hide (PK.out.call A1 K1 ⟨kk.1, kk.2.1, kk.2.2.1, kk.2.2.2.2⟩)
  have HS := hide (e1.trans (congrArg (textS _ b) HS.out))
  obtain ⟨c1, c2, c3, c4, ⟨v1, d1⟩, ⟨v2, d2⟩, ⟨v3, d3⟩, ⟨v4, d4⟩, fz, hlt⟩ := PK.out.cells
  have fz1 := fz 1
  have fz2 := fz 2
  have fz3 := fz 3
  have fz4 := fz 4
  clear A1 K1 e1 kk fz
  go_wp2_with fail
  clear c1 c2 c3 c4 d1 d2 d3 d4 fz1 fz2 fz3 fz4 hlt
  obtain ⟨a', c', HBY, ⟨p0, p1, p2, p3, p4⟩, ⟨q0, q1, q2⟩, ⟨x0, x1, x2, x3, x4⟩, ⟨y0, y1, y2⟩, fx, fy, lx, ly⟩ := PK.out.ends
  have HF := hide (PK.out.fin HBY _ _ rfl rfl)
  have fx0 := fx 0
  have fx1 := fx 1
  have fx2 := fx 2
  have fx3 := fx 3
  have fx4 := fx 4
  have fy0 := fy 0
  have fy1 := fy 1
  have fy2 := fy 2
  clear fx fy HBY
  go_region
  go_wp2_with fail
  obtain ⟨g1, g2, g3, g4⟩ := HF.out
  refine bodyPost_ret (results_two rfl _ _ w.heap.size (w.heap.size + 1) _ _ rfl rfl rfl rfl g1 g2) rfl ⟨s1, a', c', ?_, rfl, g3, g4⟩
  rw [HS.out]
  unfold kindS bodyS lineS
  simp [f1, f2, f3, f4]
set_option maxHeartbeats 4000000 in
set_option maxRecDepth 1000000 in
theorem readKind_num (w : World) (k : Nat) (a : Option Addr) (c : Nat) (b : List UInt8) (hk : k < 24) (hb : IsBytes w a c b) (hbl : b.length ≤ 4294967296) (hT : Tabs w) (h5 : 5 ≤ w.heap.size)
    (f1 : idOf k = 0) (f2 : 0 < nuOf k) (f3 : tuOf k = false) (f4 : boOf k = 0) :
    Calls Tryd.prog 41 #[.int .i64 (k : Int), .slice a b.length c] w fun x w' => ∃ s a' c', s = kindS k b ∧ x = .returned (.tuple #[.agg #[.int .i64 (k : Int), .int .i64 s.id, .int .i64 s.num, .string ⟨s.tube.toArray⟩, .slice a' s.body.length c'], .agg #[.slice a b.length c, .int .i64 (s.pos : Int), .int .i64 (s.st : Int)]]) ∧ IsBytes w' a' c' s.body ∧ Below w.heap.size w w' := by
  obtain ⟨t1, t2, t3, t4, t5, t6⟩ := table k hk
  have k0 := hT.word k hk
  have k1 := hT.id k hk
  have k2 := hT.num k hk
  have k3 := hT.body k hk
  have k4 := hT.tube k hk
  have HT : Hid (∀ W, Kept (fun j => w.heap.size ≤ j) w W → Tabs W) := fun W hW => hT.low h5 hW
  have HB : Hid (∀ W, Kept (fun j => w.heap.size ≤ j) w W → IsBytes W a c b) := fun W hW => hb.low hW
  obtain ⟨s0, hs0⟩ : ∃ s0, s0 = st0 := ⟨_, rfl⟩
  have PK := hide (Pk.start w a c b k)
  have HW := hide (word_short8 k hk)
  rw [← hs0] at PK
  have HS := hide hs0
  have Z1 : Hid (s0.id = 0) := by rw [hs0]; exact rfl
  have Z2 : Hid (s0.num = 0) := by rw [hs0]; exact rfl
  have Z3 : Hid (s0.tube = []) := by rw [hs0]; exact rfl
  have Z4 : Hid (s0.size = 0) := by rw [hs0]; exact rfl
  have Z5 : Hid (s0.body = []) := by rw [hs0]; exact rfl
  clear hs0
  have i1 : (0 : Int) ≤ (k : Int) := by omega
  have i2 : (k : Int) < 24 := by omega
  have h0lt : 0 < w.heap.size := by omega
  clear hT hb
  unfold kindW at PK
  rw [f1, f3, f4] at PK
  go_enter Tryd.func41, Tryd.ntmps41
  go_wp2_with fail
  refine (textW _ (w.heap.size + 3) a c b _ ⟨(wordOf k).toArray⟩ PK.out.at_ (HB.out _ PK.out.kept) HW.out).mono ?_
  rintro x w1 ⟨rfl, s1, e1, A1, K1⟩
  have kk := was_text e1
  have PK := hide (PK.out.call A1 K1 ⟨kk.1, kk.2.1, kk.2.2.1, kk.2.2.2.2⟩)
  have HS := hide (e1.trans (congrArg (textS _ b) HS.out))
  have Z1 := hide (kk.1.trans Z1.out)
  have Z2 := hide (kk.2.1.trans Z2.out)
  have Z3 := hide (kk.2.2.1.trans Z3.out)
  have Z4 := hide (kk.2.2.2.1.trans Z4.out)
  have Z5 := hide (kk.2.2.2.2.trans Z5.out)
  obtain ⟨c1, c2, c3, c4, ⟨v1, d1⟩, ⟨v2, d2⟩, ⟨v3, d3⟩, ⟨v4, d4⟩, fz, hlt⟩ := PK.out.cells
  have fz1 := fz 1
  have fz2 := fz 2
  have fz3 := fz 3
  have fz4 := fz 4
  clear A1 K1 e1 kk fz
  go_wp2_with fail
  refine (numW _ (w.heap.size + 3) a c b _ (nuOf k) PK.out.at_ (HB.out _ PK.out.kept) hbl (by omega) (HT.out _ PK.out.kept) t2 (by omega) Z2.out).mono ?_
  rintro x w1 ⟨s1, e1, rfl, A1, K1⟩
  have kk := was_num e1
  have HS := hide (e1.trans (congrArg (numS _ b) HS.out))
  have PKL := hide (PK.out.lay A1 K1 2 (.int .i64 s1.num) (fun a' c' h1 h2 => ⟨a', c', by rw [kk.1, kk.2.1, kk.2.2.2]; exact h1.set.2.1 _, by rw [kk.2.2.2]; exact h2⟩))
  obtain ⟨c1, c2, c3, c4, ⟨v1, d1⟩, ⟨v2, d2⟩, ⟨v3, d3⟩, ⟨v4, d4⟩, fz, hlt⟩ := PK.out.still K1
  have PK := PKL
  have fz1 := fz 1
  have fz2 := fz 2
  have fz3 := fz 3
  have fz4 := fz 4
  clear A1 K1 e1 kk fz PKL
  go_wp2_with fail
  refine (textW _ (w.heap.size + 3) a c b _ ⟨#[13, 10]⟩ PK.out.at_ (HB.out _ PK.out.kept) (by decide)).mono ?_
  rintro x w1 ⟨rfl, s1, e1, A1, K1⟩
  have kk := was_text e1
  have PK := hide (PK.out.call A1 K1 ⟨kk.1, kk.2.1, kk.2.2.1, kk.2.2.2.2⟩)
  have HS := hide (e1.trans (congrArg (textS _ b) HS.out))
  obtain ⟨c1, c2, c3, c4, ⟨v1, d1⟩, ⟨v2, d2⟩, ⟨v3, d3⟩, ⟨v4, d4⟩, fz, hlt⟩ := PK.out.cells
  have fz1 := fz 1
  have fz2 := fz 2
  have fz3 := fz 3
  have fz4 := fz 4
  clear A1 K1 e1 kk fz
  go_wp2_with fail
  clear c1 c2 c3 c4 d1 d2 d3 d4 fz1 fz2 fz3 fz4 hlt
  obtain ⟨a', c', HBY, ⟨p0, p1, p2, p3, p4⟩, ⟨q0, q1, q2⟩, ⟨x0, x1, x2, x3, x4⟩, ⟨y0, y1, y2⟩, fx, fy, lx, ly⟩ := PK.out.ends
  have HF := hide (PK.out.fin HBY _ _ rfl rfl)
  have fx0 := fx 0
  have fx1 := fx 1
  have fx2 := fx 2
  have fx3 := fx 3
  have fx4 := fx 4
  have fy0 := fy 0
  have fy1 := fy 1
  have fy2 := fy 2
  clear fx fy HBY
  go_region
  go_wp2_with fail
  obtain ⟨g1, g2, g3, g4⟩ := HF.out
  refine bodyPost_ret (results_two rfl _ _ w.heap.size (w.heap.size + 1) _ _ rfl rfl rfl rfl g1 g2) rfl ⟨s1, a', c', ?_, rfl, g3, g4⟩
  rw [HS.out]
  unfold kindS bodyS lineS
  simp [f1, f2, f3, f4]
set_option maxHeartbeats 4000000 in
set_option maxRecDepth 1000000 in
theorem readKind_tube (w : World) (k : Nat) (a : Option Addr) (c : Nat) (b : List UInt8) (hk : k < 24) (hb : IsBytes w a c b) (hbl : b.length ≤ 4294967296) (hT : Tabs w) (h5 : 5 ≤ w.heap.size)
    (f1 : idOf k = 0) (f2 : nuOf k = 0) (f3 : tuOf k = true) (f4 : boOf k = 0) :
    Calls Tryd.prog 41 #[.int .i64 (k : Int), .slice a b.length c] w fun x w' => ∃ s a' c', s = kindS k b ∧ x = .returned (.tuple #[.agg #[.int .i64 (k : Int), .int .i64 s.id, .int .i64 s.num, .string ⟨s.tube.toArray⟩, .slice a' s.body.length c'], .agg #[.slice a b.length c, .int .i64 (s.pos : Int), .int .i64 (s.st : Int)]]) ∧ IsBytes w' a' c' s.body ∧ Below w.heap.size w w' := by
  obtain ⟨t1, t2, t3, t4, t5, t6⟩ := table k hk
  have k0 := hT.word k hk
  have k1 := hT.id k hk
  have k2 := hT.num k hk
  have k3 := hT.body k hk
  have k4 := hT.tube k hk
  have HT : Hid (∀ W, Kept (fun j => w.heap.size ≤ j) w W → Tabs W) := fun W hW => hT.low h5 hW
  have HB : Hid (∀ W, Kept (fun j => w.heap.size ≤ j) w W → IsBytes W a c b) := fun W hW => hb.low hW
  obtain ⟨s0, hs0⟩ : ∃ s0, s0 = st0 := ⟨_, rfl⟩
  have PK := hide (Pk.start w a c b k)
  have HW := hide (word_short8 k hk)
  rw [← hs0] at PK
  have HS := hide hs0
  have Z1 : Hid (s0.id = 0) := by rw [hs0]; exact rfl
  have Z2 : Hid (s0.num = 0) := by rw [hs0]; exact rfl
  have Z3 : Hid (s0.tube = []) := by rw [hs0]; exact rfl
  have Z4 : Hid (s0.size = 0) := by rw [hs0]; exact rfl
  have Z5 : Hid (s0.body = []) := by rw [hs0]; exact rfl
  clear hs0
  have i1 : (0 : Int) ≤ (k : Int) := by omega
  have i2 : (k : Int) < 24 := by omega
  have h0lt : 0 < w.heap.size := by omega
  clear hT hb
  unfold kindW at PK
  rw [f1, f2, f3, f4] at PK
  go_enter Tryd.func41, Tryd.ntmps41
  go_wp2_with fail
  refine (textW _ (w.heap.size + 3) a c b _ ⟨(wordOf k).toArray⟩ PK.out.at_ (HB.out _ PK.out.kept) HW.out).mono ?_
  rintro x w1 ⟨rfl, s1, e1, A1, K1⟩
  have kk := was_text e1
  have PK := hide (PK.out.call A1 K1 ⟨kk.1, kk.2.1, kk.2.2.1, kk.2.2.2.2⟩)
  have HS := hide (e1.trans (congrArg (textS _ b) HS.out))
  have Z1 := hide (kk.1.trans Z1.out)
  have Z2 := hide (kk.2.1.trans Z2.out)
  have Z3 := hide (kk.2.2.1.trans Z3.out)
  have Z4 := hide (kk.2.2.2.1.trans Z4.out)
  have Z5 := hide (kk.2.2.2.2.trans Z5.out)
  obtain ⟨c1, c2, c3, c4, ⟨v1, d1⟩, ⟨v2, d2⟩, ⟨v3, d3⟩, ⟨v4, d4⟩, fz, hlt⟩ := PK.out.cells
  have fz1 := fz 1
  have fz2 := fz 2
  have fz3 := fz 3
  have fz4 := fz 4
  clear A1 K1 e1 kk fz
  go_wp2_with fail
  refine (tubeW _ (w.heap.size + 3) a c b _ PK.out.at_ (HB.out _ PK.out.kept) hbl Z3.out).mono ?_
  rintro x w1 ⟨s1, e1, rfl, A1, K1⟩
  have kk := was_tube e1
  have HS := hide (e1.trans (congrArg (tubeS b) HS.out))
  have PKL := hide (PK.out.lay A1 K1 3 (.string ⟨s1.tube.toArray⟩) (fun a' c' h1 h2 => ⟨a', c', by rw [kk.1, kk.2.1, kk.2.2.2]; exact h1.set.2.2.1 _, by rw [kk.2.2.2]; exact h2⟩))
  obtain ⟨c1, c2, c3, c4, ⟨v1, d1⟩, ⟨v2, d2⟩, ⟨v3, d3⟩, ⟨v4, d4⟩, fz, hlt⟩ := PK.out.still K1
  have PK := PKL
  have fz1 := fz 1
  have fz2 := fz 2
  have fz3 := fz 3
  have fz4 := fz 4
  clear A1 K1 e1 kk fz PKL
  go_wp2_with fail
  refine (textW _ (w.heap.size + 3) a c b _ ⟨#[13, 10]⟩ PK.out.at_ (HB.out _ PK.out.kept) (by decide)).mono ?_
  rintro x w1 ⟨rfl, s1, e1, A1, K1⟩
  have kk := was_text e1
  have PK := hide (PK.out.call A1 K1 ⟨kk.1, kk.2.1, kk.2.2.1, kk.2.2.2.2⟩)
  have HS := hide (e1.trans (congrArg (textS _ b) HS.out))
  obtain ⟨c1, c2, c3, c4, ⟨v1, d1⟩, ⟨v2, d2⟩, ⟨v3, d3⟩, ⟨v4, d4⟩, fz, hlt⟩ := PK.out.cells
  have fz1 := fz 1
  have fz2 := fz 2
  have fz3 := fz 3
  have fz4 := fz 4
  clear A1 K1 e1 kk fz
  go_wp2_with fail
  clear c1 c2 c3 c4 d1 d2 d3 d4 fz1 fz2 fz3 fz4 hlt
  obtain ⟨a', c', HBY, ⟨p0, p1, p2, p3, p4⟩, ⟨q0, q1, q2⟩, ⟨x0, x1, x2, x3, x4⟩, ⟨y0, y1, y2⟩, fx, fy, lx, ly⟩ := PK.out.ends
  have HF := hide (PK.out.fin HBY _ _ rfl rfl)
  have fx0 := fx 0
  have fx1 := fx 1
  have fx2 := fx 2
  have fx3 := fx 3
  have fx4 := fx 4
  have fy0 := fy 0
  have fy1 := fy 1
  have fy2 := fy 2
  clear fx fy HBY
  go_region
  go_wp2_with fail
  obtain ⟨g1, g2, g3, g4⟩ := HF.out
  refine bodyPost_ret (results_two rfl _ _ w.heap.size (w.heap.size + 1) _ _ rfl rfl rfl rfl g1 g2) rfl ⟨s1, a', c', ?_, rfl, g3, g4⟩
  rw [HS.out]
  unfold kindS bodyS lineS
  simp [f1, f2, f3, f4]
set_option maxHeartbeats 4000000 in
set_option maxRecDepth 1000000 in
theorem readKind_idBody (w : World) (k : Nat) (a : Option Addr) (c : Nat) (b : List UInt8) (hk : k < 24) (hb : IsBytes w a c b) (hbl : b.length ≤ 4294967296) (hT : Tabs w) (h5 : 5 ≤ w.heap.size)
    (f1 : 0 < idOf k) (f2 : nuOf k = 0) (f3 : tuOf k = false) (f4 : 0 < boOf k) :
    Calls Tryd.prog 41 #[.int .i64 (k : Int), .slice a b.length c] w fun x w' => ∃ s a' c', s = kindS k b ∧ x = .returned (.tuple #[.agg #[.int .i64 (k : Int), .int .i64 s.id, .int .i64 s.num, .string ⟨s.tube.toArray⟩, .slice a' s.body.length c'], .agg #[.slice a b.length c, .int .i64 (s.pos : Int), .int .i64 (s.st : Int)]]) ∧ IsBytes w' a' c' s.body ∧ Below w.heap.size w w' := by
  obtain ⟨t1, t2, t3, t4, t5, t6⟩ := table k hk
  have k0 := hT.word k hk
  have k1 := hT.id k hk
  have k2 := hT.num k hk
  have k3 := hT.body k hk
  have k4 := hT.tube k hk
  have HT : Hid (∀ W, Kept (fun j => w.heap.size ≤ j) w W → Tabs W) := fun W hW => hT.low h5 hW
  have HB : Hid (∀ W, Kept (fun j => w.heap.size ≤ j) w W → IsBytes W a c b) := fun W hW => hb.low hW
  obtain ⟨s0, hs0⟩ : ∃ s0, s0 = st0 := ⟨_, rfl⟩
  have PK := hide (Pk.start w a c b k)
  have HW := hide (word_short8 k hk)
  rw [← hs0] at PK
  have HS := hide hs0
  have Z1 : Hid (s0.id = 0) := by rw [hs0]; exact rfl
  have Z2 : Hid (s0.num = 0) := by rw [hs0]; exact rfl
  have Z3 : Hid (s0.tube = []) := by rw [hs0]; exact rfl
  have Z4 : Hid (s0.size = 0) := by rw [hs0]; exact rfl
  have Z5 : Hid (s0.body = []) := by rw [hs0]; exact rfl
  clear hs0
  have i1 : (0 : Int) ≤ (k : Int) := by omega
  have i2 : (k : Int) < 24 := by omega
  have h0lt : 0 < w.heap.size := by omega
  clear hT hb
  unfold kindW at PK
  rw [f2, f3] at PK
  go_enter Tryd.func41, Tryd.ntmps41
  go_wp2_with fail
  refine (textW _ (w.heap.size + 3) a c b _ ⟨(wordOf k).toArray⟩ PK.out.at_ (HB.out _ PK.out.kept) HW.out).mono ?_
  rintro x w1 ⟨rfl, s1, e1, A1, K1⟩
  have kk := was_text e1
  have PK := hide (PK.out.call A1 K1 ⟨kk.1, kk.2.1, kk.2.2.1, kk.2.2.2.2⟩)
  have HS := hide (e1.trans (congrArg (textS _ b) HS.out))
  have Z1 := hide (kk.1.trans Z1.out)
  have Z2 := hide (kk.2.1.trans Z2.out)
  have Z3 := hide (kk.2.2.1.trans Z3.out)
  have Z4 := hide (kk.2.2.2.1.trans Z4.out)
  have Z5 := hide (kk.2.2.2.2.trans Z5.out)
  obtain ⟨c1, c2, c3, c4, ⟨v1, d1⟩, ⟨v2, d2⟩, ⟨v3, d3⟩, ⟨v4, d4⟩, fz, hlt⟩ := PK.out.cells
  have fz1 := fz 1
  have fz2 := fz 2
  have fz3 := fz 3
  have fz4 := fz 4
  clear A1 K1 e1 kk fz
  go_wp2_with fail
  refine (idW _ (w.heap.size + 3) a c b _ (idOf k) PK.out.at_ (HB.out _ PK.out.kept) hbl (by omega) (HT.out _ PK.out.kept) t1 t4 Z1.out).mono ?_
  rintro x w1 ⟨s1, e1, rfl, A1, K1⟩
  have kk := was_id e1
  have HS := hide (e1.trans (congrArg (idS _ b) HS.out))
  have Z2 := hide (kk.1.trans Z2.out)
  have Z3 := hide (kk.2.1.trans Z3.out)
  have Z4 := hide (kk.2.2.1.trans Z4.out)
  have Z5 := hide (kk.2.2.2.trans Z5.out)
  have PKL := hide (PK.out.lay A1 K1 1 (.int .i64 s1.id) (fun a' c' h1 h2 => ⟨a', c', by rw [kk.1, kk.2.1, kk.2.2.2]; exact h1.set.1 _, by rw [kk.2.2.2]; exact h2⟩))
  obtain ⟨c1, c2, c3, c4, ⟨v1, d1⟩, ⟨v2, d2⟩, ⟨v3, d3⟩, ⟨v4, d4⟩, fz, hlt⟩ := PK.out.still K1
  have PK := PKL
  have fz1 := fz 1
  have fz2 := fz 2
  have fz3 := fz 3
  have fz4 := fz 4
  clear A1 K1 e1 kk fz PKL
  go_wp2_with fail
  refine (sizeW _ (w.heap.size + 3) a c b _ (boOf k) PK.out.at_ (HB.out _ PK.out.kept) hbl (by omega) (HT.out _ PK.out.kept) t3 t6 Z4.out).mono ?_
  rintro x w1 ⟨s1, e1, rfl, A1, K1, z0, z1⟩
  have kk := was_size e1
  have PK := hide (PK.out.call A1 K1 ⟨kk.1, kk.2.1, kk.2.2.1, kk.2.2.2⟩)
  have HS := hide (e1.trans (congrArg (sizeS _ b) HS.out))
  have Z5 := hide (kk.2.2.2.trans Z5.out)
  obtain ⟨z, ez⟩ : ∃ z, z = s1.size := ⟨_, rfl⟩
  rw [← ez] at z0 z1 ⊢
  have EZ := hide ez
  clear ez
  obtain ⟨c1, c2, c3, c4, ⟨v1, d1⟩, ⟨v2, d2⟩, ⟨v3, d3⟩, ⟨v4, d4⟩, fz, hlt⟩ := PK.out.cells
  have fz1 := fz 1
  have fz2 := fz 2
  have fz3 := fz 3
  have fz4 := fz 4
  clear A1 K1 e1 kk fz
  go_wp2_with fail
  refine (textW _ (w.heap.size + 3) a c b _ ⟨#[13, 10]⟩ PK.out.at_ (HB.out _ PK.out.kept) (by decide)).mono ?_
  rintro x w1 ⟨rfl, s1, e1, A1, K1⟩
  have kk := was_text e1
  have PK := hide (PK.out.call A1 K1 ⟨kk.1, kk.2.1, kk.2.2.1, kk.2.2.2.2⟩)
  have HS := hide (e1.trans (congrArg (textS _ b) HS.out))
  have Z5 := hide (kk.2.2.2.2.trans Z5.out)
  have EZ := hide (EZ.out.trans kk.2.2.2.1.symm)
  obtain ⟨c1, c2, c3, c4, ⟨v1, d1⟩, ⟨v2, d2⟩, ⟨v3, d3⟩, ⟨v4, d4⟩, fz, hlt⟩ := PK.out.cells
  have fz1 := fz 1
  have fz2 := fz 2
  have fz3 := fz 3
  have fz4 := fz 4
  clear A1 K1 e1 kk fz
  go_wp2_with fail
  have HC := takeW _ (w.heap.size + 3) a c b s1 PK.out.at_ (HB.out _ PK.out.kept) hbl (by rw [← EZ.out]; exact z0) (by rw [← EZ.out]; exact z1) Z5.out
  rw [← EZ.out] at HC
  refine HC.mono ?_
  clear HC
  rintro x w1 ⟨s2, a2, c2, e1, rfl, hby, A1, K1⟩
  have kk := was_take e1
  have HS := hide (e1.trans (congrArg (takeS b) HS.out))
  have PKL := hide (PK.out.lay A1 K1 4 (.slice a2 s2.body.length c2) (fun a' c' h1 h2 => ⟨a2, c2, by rw [kk.1, kk.2.1, kk.2.2.1]; exact h1.set.2.2.2 _, hby⟩))
  clear hby
  obtain ⟨c1, c2, c3, c4, ⟨v1, d1⟩, ⟨v2, d2⟩, ⟨v3, d3⟩, ⟨v4, d4⟩, fz, hlt⟩ := PK.out.still K1
  have PK := PKL
  have fz1 := fz 1
  have fz2 := fz 2
  have fz3 := fz 3
  have fz4 := fz 4
  clear A1 K1 e1 kk fz PKL
  go_wp2_with fail
  refine (textW _ (w.heap.size + 3) a c b _ ⟨#[13, 10]⟩ PK.out.at_ (HB.out _ PK.out.kept) (by decide)).mono ?_
  rintro x w1 ⟨rfl, s1, e1, A1, K1⟩
  have kk := was_text e1
  have PK := hide (PK.out.call A1 K1 ⟨kk.1, kk.2.1, kk.2.2.1, kk.2.2.2.2⟩)
  have HS := hide (e1.trans (congrArg (textS _ b) HS.out))
  obtain ⟨c1, c2, c3, c4, ⟨v1, d1⟩, ⟨v2, d2⟩, ⟨v3, d3⟩, ⟨v4, d4⟩, fz, hlt⟩ := PK.out.cells
  have fz1 := fz 1
  have fz2 := fz 2
  have fz3 := fz 3
  have fz4 := fz 4
  clear A1 K1 e1 kk fz
  go_wp2_with fail
  clear c1 c2 c3 c4 d1 d2 d3 d4 fz1 fz2 fz3 fz4 hlt
  obtain ⟨a', c', HBY, ⟨p0, p1, p2, p3, p4⟩, ⟨q0, q1, q2⟩, ⟨x0, x1, x2, x3, x4⟩, ⟨y0, y1, y2⟩, fx, fy, lx, ly⟩ := PK.out.ends
  have HF := hide (PK.out.fin HBY _ _ rfl rfl)
  have fx0 := fx 0
  have fx1 := fx 1
  have fx2 := fx 2
  have fx3 := fx 3
  have fx4 := fx 4
  have fy0 := fy 0
  have fy1 := fy 1
  have fy2 := fy 2
  clear fx fy HBY
  go_region
  go_wp2_with fail
  obtain ⟨g1, g2, g3, g4⟩ := HF.out
  refine bodyPost_ret (results_two rfl _ _ w.heap.size (w.heap.size + 1) _ _ rfl rfl rfl rfl g1 g2) rfl ⟨s1, a', c', ?_, rfl, g3, g4⟩
  rw [HS.out]
  unfold kindS bodyS lineS
  simp [f1, f2, f3, f4]
set_option maxHeartbeats 4000000 in
set_option maxRecDepth 1000000 in
theorem readKind_body (w : World) (k : Nat) (a : Option Addr) (c : Nat) (b : List UInt8) (hk : k < 24) (hb : IsBytes w a c b) (hbl : b.length ≤ 4294967296) (hT : Tabs w) (h5 : 5 ≤ w.heap.size)
    (f1 : idOf k = 0) (f2 : nuOf k = 0) (f3 : tuOf k = false) (f4 : 0 < boOf k) :
    Calls Tryd.prog 41 #[.int .i64 (k : Int), .slice a b.length c] w fun x w' => ∃ s a' c', s = kindS k b ∧ x = .returned (.tuple #[.agg #[.int .i64 (k : Int), .int .i64 s.id, .int .i64 s.num, .string ⟨s.tube.toArray⟩, .slice a' s.body.length c'], .agg #[.slice a b.length c, .int .i64 (s.pos : Int), .int .i64 (s.st : Int)]]) ∧ IsBytes w' a' c' s.body ∧ Below w.heap.size w w' := by
  obtain ⟨t1, t2, t3, t4, t5, t6⟩ := table k hk
  have k0 := hT.word k hk
  have k1 := hT.id k hk
  have k2 := hT.num k hk
  have k3 := hT.body k hk
  have k4 := hT.tube k hk
  have HT : Hid (∀ W, Kept (fun j => w.heap.size ≤ j) w W → Tabs W) := fun W hW => hT.low h5 hW
  have HB : Hid (∀ W, Kept (fun j => w.heap.size ≤ j) w W → IsBytes W a c b) := fun W hW => hb.low hW
  obtain ⟨s0, hs0⟩ : ∃ s0, s0 = st0 := ⟨_, rfl⟩
  have PK := hide (Pk.start w a c b k)
  have HW := hide (word_short8 k hk)
  rw [← hs0] at PK
  have HS := hide hs0
  have Z1 : Hid (s0.id = 0) := by rw [hs0]; exact rfl
  have Z2 : Hid (s0.num = 0) := by rw [hs0]; exact rfl
  have Z3 : Hid (s0.tube = []) := by rw [hs0]; exact rfl
  have Z4 : Hid (s0.size = 0) := by rw [hs0]; exact rfl
  have Z5 : Hid (s0.body = []) := by rw [hs0]; exact rfl
  clear hs0
  have i1 : (0 : Int) ≤ (k : Int) := by omega
  have i2 : (k : Int) < 24 := by omega
  have h0lt : 0 < w.heap.size := by omega
  clear hT hb
  unfold kindW at PK
  rw [f1, f2, f3] at PK
  go_enter Tryd.func41, Tryd.ntmps41
  go_wp2_with fail
  refine (textW _ (w.heap.size + 3) a c b _ ⟨(wordOf k).toArray⟩ PK.out.at_ (HB.out _ PK.out.kept) HW.out).mono ?_
  rintro x w1 ⟨rfl, s1, e1, A1, K1⟩
  have kk := was_text e1
  have PK := hide (PK.out.call A1 K1 ⟨kk.1, kk.2.1, kk.2.2.1, kk.2.2.2.2⟩)
  have HS := hide (e1.trans (congrArg (textS _ b) HS.out))
  have Z1 := hide (kk.1.trans Z1.out)
  have Z2 := hide (kk.2.1.trans Z2.out)
  have Z3 := hide (kk.2.2.1.trans Z3.out)
  have Z4 := hide (kk.2.2.2.1.trans Z4.out)
  have Z5 := hide (kk.2.2.2.2.trans Z5.out)
  obtain ⟨c1, c2, c3, c4, ⟨v1, d1⟩, ⟨v2, d2⟩, ⟨v3, d3⟩, ⟨v4, d4⟩, fz, hlt⟩ := PK.out.cells
  have fz1 := fz 1
  have fz2 := fz 2
  have fz3 := fz 3
  have fz4 := fz 4
  clear A1 K1 e1 kk fz
  go_wp2_with fail
  refine (sizeW _ (w.heap.size + 3) a c b _ (boOf k) PK.out.at_ (HB.out _ PK.out.kept) hbl (by omega) (HT.out _ PK.out.kept) t3 t6 Z4.out).mono ?_
  rintro x w1 ⟨s1, e1, rfl, A1, K1, z0, z1⟩
  have kk := was_size e1
  have PK := hide (PK.out.call A1 K1 ⟨kk.1, kk.2.1, kk.2.2.1, kk.2.2.2⟩)
  have HS := hide (e1.trans (congrArg (sizeS _ b) HS.out))
  have Z5 := hide (kk.2.2.2.trans Z5.out)
  obtain ⟨z, ez⟩ : ∃ z, z = s1.size := ⟨_, rfl⟩
  rw [← ez] at z0 z1 ⊢
  have EZ := hide ez
  clear ez
  obtain ⟨c1, c2, c3, c4, ⟨v1, d1⟩, ⟨v2, d2⟩, ⟨v3, d3⟩, ⟨v4, d4⟩, fz, hlt⟩ := PK.out.cells
  have fz1 := fz 1
  have fz2 := fz 2
  have fz3 := fz 3
  have fz4 := fz 4
  clear A1 K1 e1 kk fz
  go_wp2_with fail
  refine (textW _ (w.heap.size + 3) a c b _ ⟨#[13, 10]⟩ PK.out.at_ (HB.out _ PK.out.kept) (by decide)).mono ?_
  rintro x w1 ⟨rfl, s1, e1, A1, K1⟩
  have kk := was_text e1
  have PK := hide (PK.out.call A1 K1 ⟨kk.1, kk.2.1, kk.2.2.1, kk.2.2.2.2⟩)
  have HS := hide (e1.trans (congrArg (textS _ b) HS.out))
  have Z5 := hide (kk.2.2.2.2.trans Z5.out)
  have EZ := hide (EZ.out.trans kk.2.2.2.1.symm)
  obtain ⟨c1, c2, c3, c4, ⟨v1, d1⟩, ⟨v2, d2⟩, ⟨v3, d3⟩, ⟨v4, d4⟩, fz, hlt⟩ := PK.out.cells
  have fz1 := fz 1
  have fz2 := fz 2
  have fz3 := fz 3
  have fz4 := fz 4
  clear A1 K1 e1 kk fz
  go_wp2_with fail
  have HC := takeW _ (w.heap.size + 3) a c b s1 PK.out.at_ (HB.out _ PK.out.kept) hbl (by rw [← EZ.out]; exact z0) (by rw [← EZ.out]; exact z1) Z5.out
  rw [← EZ.out] at HC
  refine HC.mono ?_
  clear HC
  rintro x w1 ⟨s2, a2, c2, e1, rfl, hby, A1, K1⟩
  have kk := was_take e1
  have HS := hide (e1.trans (congrArg (takeS b) HS.out))
  have PKL := hide (PK.out.lay A1 K1 4 (.slice a2 s2.body.length c2) (fun a' c' h1 h2 => ⟨a2, c2, by rw [kk.1, kk.2.1, kk.2.2.1]; exact h1.set.2.2.2 _, hby⟩))
  clear hby
  obtain ⟨c1, c2, c3, c4, ⟨v1, d1⟩, ⟨v2, d2⟩, ⟨v3, d3⟩, ⟨v4, d4⟩, fz, hlt⟩ := PK.out.still K1
  have PK := PKL
  have fz1 := fz 1
  have fz2 := fz 2
  have fz3 := fz 3
  have fz4 := fz 4
  clear A1 K1 e1 kk fz PKL
  go_wp2_with fail
  refine (textW _ (w.heap.size + 3) a c b _ ⟨#[13, 10]⟩ PK.out.at_ (HB.out _ PK.out.kept) (by decide)).mono ?_
  rintro x w1 ⟨rfl, s1, e1, A1, K1⟩
  have kk := was_text e1
  have PK := hide (PK.out.call A1 K1 ⟨kk.1, kk.2.1, kk.2.2.1, kk.2.2.2.2⟩)
  have HS := hide (e1.trans (congrArg (textS _ b) HS.out))
  obtain ⟨c1, c2, c3, c4, ⟨v1, d1⟩, ⟨v2, d2⟩, ⟨v3, d3⟩, ⟨v4, d4⟩, fz, hlt⟩ := PK.out.cells
  have fz1 := fz 1
  have fz2 := fz 2
  have fz3 := fz 3
  have fz4 := fz 4
  clear A1 K1 e1 kk fz
  go_wp2_with fail
  clear c1 c2 c3 c4 d1 d2 d3 d4 fz1 fz2 fz3 fz4 hlt
  obtain ⟨a', c', HBY, ⟨p0, p1, p2, p3, p4⟩, ⟨q0, q1, q2⟩, ⟨x0, x1, x2, x3, x4⟩, ⟨y0, y1, y2⟩, fx, fy, lx, ly⟩ := PK.out.ends
  have HF := hide (PK.out.fin HBY _ _ rfl rfl)
  have fx0 := fx 0
  have fx1 := fx 1
  have fx2 := fx 2
  have fx3 := fx 3
  have fx4 := fx 4
  have fy0 := fy 0
  have fy1 := fy 1
  have fy2 := fy 2
  clear fx fy HBY
  go_region
  go_wp2_with fail
  obtain ⟨g1, g2, g3, g4⟩ := HF.out
  refine bodyPost_ret (results_two rfl _ _ w.heap.size (w.heap.size + 1) _ _ rfl rfl rfl rfl g1 g2) rfl ⟨s1, a', c', ?_, rfl, g3, g4⟩
  rw [HS.out]
  unfold kindS bodyS lineS
  simp [f1, f2, f3, f4]
theorem readKind_any (w : World) (k : Nat) (a : Option Addr) (c : Nat) (b : List UInt8) (hk : k < 24) (hb : IsBytes w a c b) (hbl : b.length ≤ 4294967296) (hT : Tabs w) (h5 : 5 ≤ w.heap.size) :
    Calls Tryd.prog 41 #[.int .i64 (k : Int), .slice a b.length c] w fun x w' => ∃ s a' c', s = kindS k b ∧ x = .returned (.tuple #[.agg #[.int .i64 (k : Int), .int .i64 s.id, .int .i64 s.num, .string ⟨s.tube.toArray⟩, .slice a' s.body.length c'], .agg #[.slice a b.length c, .int .i64 (s.pos : Int), .int .i64 (s.st : Int)]]) ∧ IsBytes w' a' c' s.body ∧ Below w.heap.size w w' := by
  rcases shapes k hk with ⟨f1, f2, f3, f4⟩ | ⟨f1, f2, f3, f4⟩ | ⟨f1, f2, f3, f4⟩ | ⟨f1, f2, f3, f4⟩ | ⟨f1, f2, f3, f4⟩ | ⟨f1, f2, f3, f4⟩
  · exact readKind_plain w k a c b hk hb hT h5 f1 f2 f3 f4
  · exact readKind_id w k a c b hk hb hbl hT h5 f1 f2 f3 f4
  · exact readKind_num w k a c b hk hb hbl hT h5 f1 f2 f3 f4
  · exact readKind_tube w k a c b hk hb hbl hT h5 f1 f2 f3 f4
  · exact readKind_idBody w k a c b hk hb hbl hT h5 f1 f2 f3 f4
  · exact readKind_body w k a c b hk hb hbl hT h5 f1 f2 f3 f4
end Go.Proofs.YtomgnailgddchaaDoor
