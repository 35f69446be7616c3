/-
  What the package's variables hold; the walk of number.
-/
import Derived.Test.YtomgnailgddchaaDoorWordT
namespace Go.Proofs.YtomgnailgddchaaDoor
open Go.RowKit Go.Sort

structure Tabs (w : World) : Prop where
  word : ∀ k, k < 24 → w.cell? ⟨0, k * 5, none⟩ = some (.string ⟨(wordOf k).toArray⟩)
  id : ∀ k, k < 24 → w.cell? ⟨0, k * 5 + 1, none⟩ = some (.int .i64 (idOf k))
  num : ∀ k, k < 24 → w.cell? ⟨0, k * 5 + 2, none⟩ = some (.int .i64 (nuOf k))
  body : ∀ k, k < 24 → w.cell? ⟨0, k * 5 + 3, none⟩ = some (.int .i64 (boOf k))
  tube : ∀ k, k < 24 → w.cell? ⟨0, k * 5 + 4, none⟩ = some (.bool (tuOf k))
  pow : PowAt w
theorem Tabs.kept {P : Nat → Prop} {w w' : World} (h : Tabs w) (hk : Kept P w w') (hP : ∀ j, j < 5 → ¬ P j) : Tabs w' where
  word k hk' := hk.cell (hP _ (by decide)) (h.word k hk')
  id k hk' := hk.cell (hP _ (by decide)) (h.id k hk')
  num k hk' := hk.cell (hP _ (by decide)) (h.num k hk')
  body k hk' := hk.cell (hP _ (by decide)) (h.body k hk')
  tube k hk' := hk.cell (hP _ (by decide)) (h.tube k hk')
  pow := by
    have hp : Lib.TabIs Tryd.prog w "internal/strconv.uint64pow10" .u64 Lib.pow10Tab := h.pow
    have hl := tab_lt hp
    unfold PowAt
    unfold Lib.TabIs World.var? at hp ⊢
    simp only [gPow, Option.bind_some] at hp ⊢
    rw [hk.block _ hl (hP _ (by decide))]
    exact hp
theorem Tabs.below {w w' : World} (h : Tabs w) (hb : Below w.heap.size w w') : Tabs w' := h.kept (P := fun _ => False) (Kept.ofBelow hb) (fun _ _ h => h)

set_option maxHeartbeats 2000000 in
set_option maxRecDepth 1000000 in
theorem number_any (w : World) (tb : Nat) (a : Option Addr) (c p e : Nat) (b : List UInt8) (least most : Int) (ht : TrAt w tb a b.length c p e) (hb : IsBytes w a c b) (hp : e = 0 → p ≤ b.length) (hbl : b.length ≤ 4294967296) (h5 : 5 ≤ tb) (hT : Tabs w) (hl : least ≤ 1) (hm0 : 0 ≤ most) (hm1 : most ≤ 4611686018427387903) :
    Calls Tryd.prog 51 #[.pointer (some ⟨tb, 0, none⟩), .int .i64 least, .int .i64 most] w fun x w' => x = .returned (.int .i64 (parseV (wordR b (numFits least most) p e).1 most)) ∧ TrAt w' tb a b.length c (wordR b (numFits least most) p e).2.1 (wordR b (numFits least most) p e).2.2 ∧ Kept (fun k => k = tb) w w' := by
  have hlt := ht.lt
  have HM : Hid (∀ o1 o2, Kept (fun k => k = tb) w ((w.alloc o1).alloc o2)) := fun o1 o2 => Kept.ofBelow (((Below.refl _ w).alloc (Nat.le_refl _) o1).alloc (by simp) o2)
  have HC : Hid (∀ o1 o2, Calls Tryd.prog 52 #[.pointer (some ⟨tb, 0, none⟩), .func (.func 63) #[] #[.pointer (some ⟨w.heap.size + 1, 0, none⟩), .pointer (some ⟨w.heap.size, 0, none⟩)]] ((w.alloc (.cells #[.int .i64 least] o1)).alloc (.cells #[.int .i64 most] o2)) fun x w' => x = .returned (.string ⟨(wordR b (numFits least most) p e).1.toArray⟩) ∧ TrAt w' tb a b.length c (wordR b (numFits least most) p e).2.1 (wordR b (numFits least most) p e).2.2 ∧ Kept (fun k => k = tb) w w' ∧ w'.cell? ⟨w.heap.size + 1, 0, none⟩ = some (.int .i64 most)) := by
    intro o1 o2
    obtain ⟨w2, hw2⟩ : ∃ w2, w2 = (w.alloc (.cells #[.int .i64 least] o1)).alloc (.cells #[.int .i64 most] o2) := ⟨_, rfl⟩
    have K2 := HM.out (.cells #[.int .i64 least] o1) (.cells #[.int .i64 most] o2)
    have c1 : w2.cell? ⟨w.heap.size, 0, none⟩ = some (.int .i64 least) := by rw [hw2]; exact cell_alloc_sl _ (cell_new_sl w _ _)
    have c2 : w2.cell? ⟨w.heap.size + 1, 0, none⟩ = some (.int .i64 most) := by
      rw [hw2]
      have := cell_new_sl (w.alloc (.cells #[.int .i64 least] o1)) (.int .i64 most) o2
      rw [show (w.alloc (.cells #[.int .i64 least] o1)).heap.size = w.heap.size + 1 by simp] at this
      exact this
    rw [← hw2] at K2 ⊢
    have T2 : Tabs w2 := hT.kept (P := fun k => k = tb) K2 (fun j hj e => by omega)
    have B2 : Below w.heap.size w w2 := by rw [hw2]; exact ((Below.refl _ w).alloc (Nat.le_refl _) _).alloc (by simp) _
    refine (word_any8 w2 tb a c p e b 63 #[.pointer (some ⟨w.heap.size + 1, 0, none⟩), .pointer (some ⟨w.heap.size, 0, none⟩)] (numFits least most) (num_closed hl) (ht.below B2) (hb.below B2) hp hbl (fun W hW => ?_) (enters_of Tryd.func63 (by kernel_rfl) rfl)).mono ?_
    · have d1 : W.cell? ⟨w.heap.size, 0, none⟩ = some (.int .i64 least) := hW.cell (b := w.heap.size) (fun e => by have e : w.heap.size = tb := e; omega) c1
      have d2 : W.cell? ⟨w.heap.size + 1, 0, none⟩ = some (.int .i64 most) := hW.cell (b := w.heap.size + 1) (fun e => by have e : w.heap.size + 1 = tb := e; omega) c2
      have TW := (T2.kept hW (fun j hj e => by have e : j = tb := e; omega)).pow
      intro V s hV _
      exact numfits_any V s least most _ _ (hV.cell d2) (hV.cell d1) hm0 (by omega) (TW.grew hV)
    · rintro x w' ⟨rfl, h1, h2⟩
      exact ⟨rfl, h1, K2.trans h2, h2.cell (b := w.heap.size + 1) (fun e => by have e : w.heap.size + 1 = tb := e; omega) c2⟩
  clear ht hb hp hT HM
  obtain ⟨s, hs⟩ : ∃ s : ByteArray, s = ⟨(wordR b (numFits least most) p e).1.toArray⟩ := ⟨_, rfl⟩
  have HE : Hid (s.data.toList = (wordR b (numFits least most) p e).1) := by rw [hs]; exact rfl
  rw [← hs] at HC
  clear hs
  go_enter Tryd.func51, Tryd.ntmps51
  go_wp2_with (first
    | (go_at_call 52
       refine (HC.out _ _).mono ?_
       rintro x w1 ⟨rfl, T1, K1, cm⟩
       have HT1 := hide T1
       have HK1 := hide K1
       have hcm := cell_lt cm
       clear T1 K1)
    | (go_at_call 64; refine (parse_any s most _ (by omega) (by omega)).mono ?_; rintro e w2 ⟨rfl, pos, rfl⟩))
  go_ret
  refine ⟨by rw [← HE.out]; rfl, HT1.out.below ((Below.refl _ w1).alloc (Nat.le_refl _) _), HK1.out.trans (Kept.ofBelow ((Below.refl _ w1).alloc (Nat.le_refl _) _))⟩
end Go.Proofs.YtomgnailgddchaaDoor
