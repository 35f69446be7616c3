/-
  The walk of YamlReads.
-/
import Derived.Test.YtbeedehloedglaaCopyB
import Derived.Test.YtbeedehloedglaaRefReadD
import Derived.Test.YtbeedehloedglaaTexts
import Derived.Test.YtbeedehloedglaaApart
import Derived.Test.YtbeedehloedglaaApartP
import Derived.Test.YtbeedehloedglaaWalkNames
namespace Go.Proofs.Ytbeedehloedglaa
open Go.RowKit
/-- Blocks from lo on, up to the world's end, lie as they lay. -/
def Mid (lo : Nat) (w W : World) : Prop := w.heap.size ≤ W.heap.size ∧ ∀ k, lo ≤ k → k < w.heap.size → W.heap[k]? = w.heap[k]?
theorem Mid.refl (lo : Nat) (w : World) : Mid lo w w := ⟨Nat.le_refl _, fun _ _ _ => rfl⟩
theorem Mid.below {lo : Nat} {w W W' : World} (h : Mid lo w W) (hb : Below W.heap.size W W') : Mid lo w W' := ⟨Nat.le_trans h.1 hb.size, fun k h1 h2 => (hb.block k (Nat.lt_of_lt_of_le h2 h.1)).trans (h.2 k h1 h2)⟩
theorem Mid.kept {lo : Nat} {w W W' : World} {P : Nat → Prop} (h : Mid lo w W) (hk : Kept P W W') (hP : ∀ k, lo ≤ k → k < w.heap.size → ¬ P k) : Mid lo w W' := ⟨Nat.le_trans h.1 hk.size, fun k h1 h2 => (hk.block k (Nat.lt_of_lt_of_le h2 h.1) (hP k h1 h2)).trans (h.2 k h1 h2)⟩
theorem Strs.mid {w W : World} {B lo : Nat} {v : Value} {ts : List ByteArray} (h : Strs w B v ts) (hlo : lo ≤ B) (hm : Mid lo w W) : Strs W B v ts := by
  refine ⟨h.1, ?_⟩
  rcases h.2 with h0 | ⟨g, cap, cur, hv, hB, hg, rest⟩
  · exact .inl h0
  · exact .inr ⟨g, cap, cur, hv, hB, (hm.2 g (by omega) (Array.getElem?_eq_some_iff.1 hg).1).trans hg, rest⟩
theorem Prs.mid {w W : World} {B lo : Nat} {v : Value} {ts : List BP} (h : Prs w B v ts) (hlo : lo ≤ B) (hm : Mid lo w W) : Prs W B v ts := by
  refine ⟨h.1, ?_⟩
  rcases h.2 with h0 | ⟨g, cap, cur, hv, hB, hg, rest⟩
  · exact .inl h0
  · exact .inr ⟨g, cap, cur, hv, hB, (hm.2 g (by omega) (Array.getElem?_eq_some_iff.1 hg).1).trans hg, rest⟩
theorem over_same (b c m : List UInt8) (h : m.length = b.length) : over (b ++ c) m = m ++ c := by
  unfold over
  rw [show min m.length (b ++ c).length = b.length by simp; omega, List.take_of_length_le (by omega), List.drop_left]
theorem Own.someAt {w : World} {B : Nat} {v : Value} {l : List UInt8} (h : Own w B v l) (hl : 0 < l.length) : ∃ g c, v = .slice (some ⟨g, 0, none⟩) l.length c ∧ B ≤ g ∧ g < w.heap.size := by
  rcases h.2 with ⟨_, h0⟩ | ⟨g, cap, cur, hv, hB, hg, _⟩
  · omega
  · exact ⟨g, cap, hv, hB, (Array.getElem?_eq_some_iff.1 hg).1⟩
theorem Own.keptBy {w w' : World} {B : Nat} {v : Value} {l : List UInt8} {P : Nat → Prop} (h : Own w B v l) (hk : Kept P w w') (hP : ∀ g, v.ownBlock = some g → ¬ P g) : Own w' B v l := hk.own h hP
theorem readList_len (a : Option Addr) (c n : Nat) (l : List UInt8) (w : World) (hn : l.length = n) (h : IsBytes w a c l) (hb : l.length ≤ 1073741823) : Calls Try.prog 15 #[.slice a n c] w (ReadPost l w) := by subst hn; exact readList_any a c l w h hb
theorem readDict_len (a : Option Addr) (c n : Nat) (l : List UInt8) (w : World) (hn : l.length = n) (h : IsBytes w a c l) (hb : l.length ≤ 1073741823) (hm : MaxAt w) : Calls Try.prog 21 #[.slice a n c] w (ReadDPost l w) := by subst hn; exact readDict_any a c l w h hb hm
theorem refReadList_len (a : Option Addr) (c n : Nat) (l : List UInt8) (w : World) (hn : l.length = n) (h : IsBytes w a c l) (hb : l.length ≤ 1073741823) : Calls Try.prog 23 #[.slice a n c] w (ReadPost l w) := by subst hn; exact refReadList_any a c l w h hb
theorem refReadDict_len (a : Option Addr) (c n : Nat) (l : List UInt8) (w : World) (hn : l.length = n) (h : IsBytes w a c l) (hb : l.length ≤ 1073741823) : Calls Try.prog 24 #[.slice a n c] w (ReadDPost l w) := by subst hn; exact refReadDict_any a c l w h hb
theorem apart3S (w : World) (B s1 s2 : Nat) (v0 v1 v2 : Value) (L0 L1 L2 : List ByteArray) (h0 : Strs w B v0 L0) (h1 : Strs w s1 v1 L1) (h2 : Strs w s2 v2 L2) (u0 : ∀ g, v0.ownBlock = some g → g < s1) (u1 : ∀ g, v1.ownBlock = some g → g < s2) (hs1 : B ≤ s1) (hs2 : s1 ≤ s2) (hB : s2 ≤ w.heap.size)
    (l0 : L0.length ≤ 1048576) (l1 : L1.length ≤ 1048576) (l2 : L2.length ≤ 1048576) :
    Calls Try.prog 25 #[v0, v1, v2] w fun e w' => e = .returned (.bool true) ∧ Kept (fun k => v0.ownBlock = some k ∨ v1.ownBlock = some k ∨ v2.ownBlock = some k) w w' := by
  have hl : LanesS w B (fun g => if g < s1 then 0 else if g < s2 then 1 else 2) (fun j => if j = 0 then v0 else if j = 1 then v1 else v2) (fun j => if j = 0 then L0 else if j = 1 then L1 else L2) := by
    intro j hj
    match j, hj with
    | 0, _ => exact ⟨h0, fun g hg => if_pos (u0 g hg)⟩
    | 1, _ => exact ⟨h1.mono hs1, fun g hg => by
        have h3 := (row_ltS h1 hg).1
        have h4 := u1 g hg
        show (if g < s1 then 0 else if g < s2 then 1 else 2) = 1
        rw [if_neg (by omega), if_pos h4]⟩
    | 2, _ => exact ⟨h2.mono (Nat.le_trans hs1 hs2), fun g hg => by
        have h3 := (row_ltS h2 hg).1
        show (if g < s1 then 0 else if g < s2 then 1 else 2) = 2
        rw [if_neg (by omega), if_neg (by omega)]⟩
  refine (apart_any w B _ _ _ hl (by omega) (fun j hj => ?_)).mono ?_
  · match j, hj with
    | 0, _ => show L0.length ≤ _; omega
    | 1, _ => show L1.length ≤ _; omega
    | 2, _ => show L2.length ≤ _; omega
  · rintro e w' ⟨rfl, hk⟩
    refine ⟨rfl, hk.mono (fun k _ hv => ?_)⟩
    obtain ⟨j, hj, e⟩ := hv
    match j, hj, e with
    | 0, _, e => exact .inl e
    | 1, _, e => exact .inr (.inl e)
    | 2, _, e => exact .inr (.inr e)
theorem apart3P (w : World) (B s1 s2 : Nat) (v0 v1 v2 : Value) (L0 L1 L2 : List BP) (h0 : Prs w B v0 L0) (h1 : Prs w s1 v1 L1) (h2 : Prs w s2 v2 L2) (u0 : ∀ g, v0.ownBlock = some g → g < s1) (u1 : ∀ g, v1.ownBlock = some g → g < s2) (hs1 : B ≤ s1) (hs2 : s1 ≤ s2) (hB : s2 ≤ w.heap.size)
    (l0 : L0.length ≤ 1048576) (l1 : L1.length ≤ 1048576) (l2 : L2.length ≤ 1048576) :
    Calls Try.prog 26 #[v0, v1, v2] w fun e w' => e = .returned (.bool true) ∧ Kept (fun k => v0.ownBlock = some k ∨ v1.ownBlock = some k ∨ v2.ownBlock = some k) w w' := by
  have hl : LanesP w B (fun g => if g < s1 then 0 else if g < s2 then 1 else 2) (fun j => if j = 0 then v0 else if j = 1 then v1 else v2) (fun j => if j = 0 then L0 else if j = 1 then L1 else L2) := by
    intro j hj
    match j, hj with
    | 0, _ => exact ⟨h0, fun g hg => if_pos (u0 g hg)⟩
    | 1, _ => exact ⟨h1.mono hs1, fun g hg => by
        have h3 := (row_ltP h1 hg).1
        have h4 := u1 g hg
        show (if g < s1 then 0 else if g < s2 then 1 else 2) = 1
        rw [if_neg (by omega), if_pos h4]⟩
    | 2, _ => exact ⟨h2.mono (Nat.le_trans hs1 hs2), fun g hg => by
        have h3 := (row_ltP h2 hg).1
        show (if g < s1 then 0 else if g < s2 then 1 else 2) = 2
        rw [if_neg (by omega), if_neg (by omega)]⟩
  refine (apartPairs_any w B _ _ _ hl (by omega) (fun j hj => ?_)).mono ?_
  · match j, hj with
    | 0, _ => show L0.length ≤ _; omega
    | 1, _ => show L1.length ≤ _; omega
    | 2, _ => show L2.length ≤ _; omega
  · rintro e w' ⟨rfl, hk⟩
    refine ⟨rfl, hk.mono (fun k _ hv => ?_)⟩
    obtain ⟨j, hj, e⟩ := hv
    match j, hj, e with
    | 0, _, e => exact .inl e
    | 1, _, e => exact .inr (.inl e)
    | 2, _, e => exact .inr (.inr e)
def beh : List UInt8 := [98, 101, 104, 105, 110, 100]
theorem readT_len {b : Txt} {e : Int} {ts : List ByteArray} (h : readT b e ts) : ts.length ≤ b.length := by
  rcases h with ⟨_, _, h⟩ | ⟨_, rfl, _⟩
  · have := congrArg List.length h
    have h2 : ∀ l : List Txt, l.length ≤ (listL l).length := by
      intro l
      unfold listL
      induction l with
      | nil => simp
      | cons t ts ih => simp only [List.length_append, linesL, List.flatMap_cons, List.length_cons, line_len] at ih ⊢; omega
    have := h2 (ts.map tx)
    simp at this
    omega
  · simp
theorem readD_len {b : Txt} {e : Int} {ts : List BP} (h : readD b e ts) : ts.length ≤ 256 := by
  rcases h with ⟨_, h, _⟩ | ⟨_, rfl, _⟩
  · exact h
  · simp
end Go.Proofs.Ytbeedehloedglaa
namespace Go.Proofs.Ytbeedehloedglaa.yamlReads
open Go.RowKit
set_option maxHeartbeats 8000000 in
set_option maxRecDepth 1000000 in
theorem walk (a : Option Addr) (c : Nat) (b : List UInt8) (ao : Option Addr) (co : Nat) (ot : List UInt8) (w : World) (h : IsBytes w a c b ∧ (a = none → c = 0)) (ho : IsBytes w ao co ot ∧ (ao = none → co = 0)) (hl : b.length ≤ 1048576) (_hlo : ot.length ≤ 1048576) (hm : MaxAt w) :
    Calls Try.prog 5 #[.slice a b.length c, .slice ao ot.length co] w fun e w' => e = .returned (.bool true) ∧ Below w.heap.size w w' := by
  have HM : Hid (MaxAt w) := hm
  have HI : Hid (IsBytes w a c b) := h.1
  have HIO : Hid (IsBytes w ao co ot) := ho.1
  clear hm h ho
  go_enter Try.func5, Try.ntmps5
  go_upto_region 4 with (first
    | (go_at_call 9; refine (shown_any _ HM.out).mono ?_; rintro e w1 ⟨rfl, b1⟩; have HB1 : Hid (Below w.heap.size w w1) := b1; clear b1)
    | (at_builtin; go_must (refine wpList_append8 rfl _ (.tmp 25) rfl w1.heap.size _ [] rfl (Own.nil _ _) a c b rfl (HI.out.below HB1.out) (by simp; omega) (Nat.le_refl _) ?_); intro v2 w2 o2 g2 _ _ _))
  have HO2 : Hid (Own w2 w1.heap.size v2 b) := o2
  have B2 : Below w1.heap.size w1 w2 := (Own.nil w1 w1.heap.size).grown_below g2 (Nat.le_refl _)
  have HB2 : Hid (Below w1.heap.size w1 w2) := B2
  have hs2 : w1.heap.size ≤ w2.heap.size := B2.size
  clear o2 g2 B2
  go_upto_region 5 with (at_builtin; go_must (refine wpList_append_text rfl (.tmp 27) _ rfl w1.heap.size _ b rfl HO2.out ⟨#[98, 101, 104, 105, 110, 100]⟩ rfl (by rw [show (ByteArray.mk #[98, 101, 104, 105, 110, 100]).size = 6 from rfl]; omega) hs2 ?_); intro v3 w3 o3 g3)
  have B3 : Below w1.heap.size w1 w3 := HB2.out.trans (HO2.out.grown_below g3 hs2)
  have o3' : Own w3 w1.heap.size v3 (b ++ beh) := o3
  obtain ⟨go, cO, rfl, hgo1, hgo2⟩ := o3'.someAt (by simp [beh])
  have hbl : (b ++ beh).length = b.length + 6 := by simp [beh]
  rw [hbl] at o3'
  have HO3 : Hid (Own w3 w1.heap.size (.slice (some ⟨go, 0, none⟩) (b.length + 6) cO) (b ++ beh)) := o3'
  have HB3 : Hid (Below w.heap.size w w3) := HB1.out.trans (B3.mono HB1.out.size)
  have hbc : b.length + 6 ≤ cO := by
    obtain ⟨a9, c9, e9, i9⟩ := o3'.shape
    have := i9.1
    rw [hbl] at this
    simp only [Value.slice.injEq] at e9
    obtain ⟨rfl, _, rfl⟩ := e9
    exact this
  have hs3 : w1.heap.size ≤ w3.heap.size := B3.size
  rw [hbl]
  have HIB : Hid (∀ W l, l.length = b.length → Own W w1.heap.size (.slice (some ⟨go, 0, none⟩) (b.length + 6) cO) (l ++ beh) → IsBytes W (some ⟨go, 0, none⟩) cO l) := fun W l hll hW => by
    obtain ⟨a9, c9, e9, i9⟩ := hW.shape
    simp only [Value.slice.injEq] at e9
    obtain ⟨rfl, _, rfl⟩ := e9
    have := i9.take l.length
    rwa [List.take_left] at this
  clear o3 g3 B3 o3' hbl
  have HOB : Hid (∀ W, Below w3.heap.size w3 W → IsBytes W (some ⟨go, 0, none⟩) cO b) := fun W hW => HIB.out W b rfl (HO3.out.below hW)
  have HIA : Hid (∀ W, Below w3.heap.size w3 W → IsBytes W a c b ∧ MaxAt W) := fun W hW => ⟨HI.out.below (HB3.out.trans (hW.mono HB3.out.size)), HM.out.below (HB3.out.trans (hW.mono HB3.out.size))⟩
  go_upto_region 6 with (go_at_call 15; refine (readList_any (some ⟨go, 0, none⟩) cO b w3 (HOB.out w3 (Below.refl _ _)) (by omega)).mono ?_; rintro e w4 ⟨v6, er, ts, rfl, r4, s4, b4⟩; have HR4 : Hid (readT b er ts) := r4; have HS4 : Hid (Strs w4 w3.heap.size v6 ts) := s4; have HB4 : Hid (Below w3.heap.size w3 w4) := b4; have hs4 : w3.heap.size ≤ w4.heap.size := b4.size; clear r4 s4 b4)
  go_upto_region 7 with (go_at_call 15; refine (readList_any (some ⟨go, 0, none⟩) cO b w4 (HOB.out w4 HB4.out) (by omega)).mono ?_; rintro e w5 ⟨v8, er', ts', rfl, r5, s5, b5⟩; obtain ⟨rfl, rfl⟩ := readT_two HR4.out r5; have HS5 : Hid (Strs w5 w4.heap.size v8 ts') := s5; have HB5 : Hid (Below w3.heap.size w3 w5) := HB4.out.trans (b5.mono hs4); have HB45 : Hid (Below w4.heap.size w4 w5) := b5; have hs5 : w4.heap.size ≤ w5.heap.size := b5.size; clear r5 s5 b5)
  go_upto_region 8 with (go_at_call 21; refine (readDict_any (some ⟨go, 0, none⟩) cO b w5 (HOB.out w5 HB5.out) (by omega) (HIA.out w5 HB5.out).2).mono ?_; rintro e w6 ⟨v10, es, ps, rfl, r6, s6, b6⟩; have HR6 : Hid (readD b es ps) := r6; have HS6 : Hid (Prs w6 w5.heap.size v10 ps) := s6; have HB6 : Hid (Below w3.heap.size w3 w6) := HB5.out.trans (b6.mono HB5.out.size); have HB56 : Hid (Below w5.heap.size w5 w6) := b6; have hs6 : w5.heap.size ≤ w6.heap.size := b6.size; clear r6 s6 b6)
  go_upto_region 9 with (go_at_call 21; refine (readDict_any (some ⟨go, 0, none⟩) cO b w6 (HOB.out w6 HB6.out) (by omega) (HIA.out w6 HB6.out).2).mono ?_; rintro e w7 ⟨v12, es', ps', rfl, r7, s7, b7⟩; obtain ⟨rfl, rfl⟩ := readD_two HR6.out r7; have HS7 : Hid (Prs w7 w6.heap.size v12 ps') := s7; have HB7 : Hid (Below w3.heap.size w3 w7) := HB6.out.trans (b7.mono HB6.out.size); have HB67 : Hid (Below w6.heap.size w6 w7) := b7; have hs7 : w6.heap.size ≤ w7.heap.size := b7.size; clear r7 s7 b7)
  go_upto_region 10 with (go_at_call 23; refine (refReadList_any a c b w7 (HIA.out w7 HB7.out).1 (by omega)).mono ?_; rintro e w8 ⟨v14, er2, ts2, rfl, r8, s8, b8⟩; obtain ⟨rfl, rfl⟩ := readT_two HR4.out r8; have HS8 : Hid (Strs w8 w7.heap.size v14 ts2) := s8; have HB8 : Hid (Below w3.heap.size w3 w8) := HB7.out.trans (b8.mono HB7.out.size); have HB78 : Hid (Below w7.heap.size w7 w8) := b8; have hs8 : w7.heap.size ≤ w8.heap.size := b8.size; clear r8 s8 b8)
  go_upto_region 11 with (go_at_call 24; refine (refReadDict_any a c b w8 (HIA.out w8 HB8.out).1 (by omega)).mono ?_; rintro e w9 ⟨v16, es2, ps2, rfl, r9, s9, b9⟩; obtain ⟨rfl, rfl⟩ := readD_two HR6.out r9; have HS9 : Hid (Prs w9 w8.heap.size v16 ps2) := s9; have HB9 : Hid (Below w3.heap.size w3 w9) := HB8.out.trans (b9.mono HB8.out.size); have HB89 : Hid (Below w8.heap.size w8 w9) := b9; have hs9 : w8.heap.size ≤ w9.heap.size := b9.size; clear r9 s9 b9)
  have B59 : Below w5.heap.size w5 w9 := HB56.out.trans ((HB67.out.trans ((HB78.out.trans (HB89.out.mono hs8)).mono hs7)).mono hs6)
  have B49 : Below w4.heap.size w4 w9 := HB45.out.trans (B59.mono hs5)
  have B69 : Below w6.heap.size w6 w9 := HB67.out.trans ((HB78.out.trans (HB89.out.mono hs8)).mono hs7)
  have B79 : Below w7.heap.size w7 w9 := HB78.out.trans (HB89.out.mono hs8)
  have htl : ts2.length ≤ 1048576 := by have := readT_len HR4.out; omega
  have hpl : ps2.length ≤ 256 := readD_len HR6.out
  have S6 := HS4.out.below B49
  have S8 := HS5.out.below B59
  have S14 := HS8.out.below HB89.out
  have S10 := HS6.out.below B69
  have S12 := HS7.out.below B79
  have S16 := HS9.out
  obtain ⟨a6, c6, rfl, i6⟩ := S6.is1 (by omega)
  obtain ⟨a8, c8, rfl, i8⟩ := S8.is1 (by omega)
  obtain ⟨a14, c14, rfl, i14⟩ := S14.is1 (by omega)
  obtain ⟨a10, c10, rfl, i10⟩ := S10.is (by omega)
  obtain ⟨a12, c12, rfl, i12⟩ := S12.is (by omega)
  obtain ⟨a16, c16, rfl, i16⟩ := S16.is (by omega)
  have HQ6 := HS6
  have HQ7 := HS7
  have HS6 : Hid (Strs w9 w3.heap.size (.slice a6 ts2.length c6) ts2) := S6
  have HS8 : Hid (Strs w9 w4.heap.size (.slice a8 ts2.length c8) ts2) := S8
  have HS14 : Hid (Strs w9 w7.heap.size (.slice a14 ts2.length c14) ts2) := S14
  have HS10 : Hid (Prs w9 w5.heap.size (.slice a10 ps2.length c10) ps2) := S10
  have HS12 : Hid (Prs w9 w6.heap.size (.slice a12 ps2.length c12) ps2) := S12
  have HS16 : Hid (Prs w9 w8.heap.size (.slice a16 ps2.length c16) ps2) := S16
  have HI6 : Hid (IsStrs w9 a6 c6 ts2 ∧ IsStrs w9 a8 c8 ts2 ∧ IsStrs w9 a14 c14 ts2) := ⟨i6, i8, i14⟩
  have HI10 : Hid (IsPairs w9 a10 c10 ps2 ∧ IsPairs w9 a12 c12 ps2 ∧ IsPairs w9 a16 c16 ps2) := ⟨i10, i12, i16⟩
  obtain ⟨T1, hT1⟩ : ∃ T1 : ByteArray, T1 = ⟨(b ++ beh).toArray⟩ := ⟨_, rfl⟩
  obtain ⟨T2, hT2⟩ : ∃ T2 : ByteArray, T2 = ⟨b.toArray⟩ := ⟨_, rfl⟩
  have kt1 : (convert 31 9 (.slice (some ⟨go, 0, none⟩) (b.length + 6) cO)).run Try.prog w9 = .ok (.string T1) w9 := by
    obtain ⟨a9, c9, e9, i9⟩ := (HO3.out.below HB9.out).shape
    simp only [Value.slice.injEq] at e9
    obtain ⟨rfl, _, rfl⟩ := e9
    rw [hT1]
    exact conv_is i9 (by simp [beh])
  have kt2 : (convert 31 9 (.slice a b.length c)).run Try.prog w9 = .ok (.string T2) w9 := by
    rw [hT2]
    exact conv_is (HIA.out w9 HB9.out).1 rfl
  have hcc : (T1.toList == (T2 ++ (⟨#[98, 101, 104, 105, 110, 100]⟩ : ByteArray)).toList) = true := by
    rw [beq_iff_eq, ByteArray.toList_eq, ByteArray.toList_eq, hT1, hT2]
    simp [beh]
  have hT2s : T2.size ≤ 1048576 := by rw [hT2]; simp [ByteArray.size]; exact hl
  have hee : (er2 != er2) = false := by simp
  have hss : (es2 != es2) = false := by simp
  clear B59 B49 B69 B79 S6 S8 S14 S10 S12 S16 i6 i8 i14 i10 i12 i16 hT1 hT2
  go_upto_region 13 with (first
    | (go_at_call_of 16 a6; refine (texts_any a6 a14 c6 c14 ts2 ts2 _ HI6.out.1 HI6.out.2.2).mono ?_; rintro e w10 ⟨rfl, n10, hw10⟩; have HB10 : Hid (Below w9.heap.size w9 w10) := (by rw [hw10]; exact below_drewN (Below.refl _ w9) n10); clear hw10; rw [decide_eq_true rfl])
    | (go_at_call_of 16 a8; refine (texts_any a8 a14 c8 c14 ts2 ts2 _ (HI6.out.2.1.below HB10.out) (HI6.out.2.2.below HB10.out)).mono ?_; rintro e w11 ⟨rfl, n11, hw11⟩; have HB11 : Hid (Below w9.heap.size w9 w11) := (by rw [hw11]; exact below_drewN HB10.out n11); clear hw11; rw [decide_eq_true rfl])
    | (go_at_call_of 22 a10; refine (pairs_any a10 a16 c10 c16 ps2 ps2 _ (HI10.out.1.below HB11.out) (HI10.out.2.2.below HB11.out)).mono ?_; rintro e w12 ⟨rfl, n12, hw12⟩; have HB12 : Hid (Below w9.heap.size w9 w12) := (by rw [hw12]; exact below_drewN HB11.out n12); clear hw12; rw [decide_eq_true rfl])
    | (go_at_call_of 22 a12; refine (pairs_any a12 a16 c12 c16 ps2 ps2 _ (HI10.out.2.1.below HB12.out) (HI10.out.2.2.below HB12.out)).mono ?_; rintro e w13 ⟨rfl, n13, hw13⟩; have HB13 : Hid (Below w9.heap.size w9 w13) := (by rw [hw13]; exact below_drewN HB12.out n13); clear hw13; rw [decide_eq_true rfl]))
  have HZ9 : Hid (Mid w3.heap.size w9 w13) := (Mid.refl _ w9).below HB13.out
  have HI13 : Hid (IsBytes w13 a c b) := (HIA.out w13 (HB9.out.trans (HB13.out.mono HB9.out.size))).1
  have HO13 : Hid (Own w13 w1.heap.size (.slice (some ⟨go, 0, none⟩) (b.length + 6) cO) (b ++ beh)) := (HO3.out.below HB9.out).below HB13.out
  have HB013 : Hid (Below w.heap.size w w13) := HB3.out.trans ((HB9.out.trans (HB13.out.mono HB9.out.size)).mono HB3.out.size)
  have hs13 : w9.heap.size ≤ w13.heap.size := HB13.out.size
  have hs39 : w3.heap.size ≤ w9.heap.size := HB9.out.size
  clear kt1 kt2 hcc
  go_upto_region 14 with (at_builtin; go_must (refine wpList_append8 rfl _ (.tmp 121) rfl w13.heap.size _ [] rfl (Own.nil _ _) a c b rfl HI13.out (by simp; omega) (Nat.le_refl _) ?_); intro v18 w14 o14 g14 _ _ _)
  have o14' : Own w14 w13.heap.size v18 b := o14
  have B14 : Below w13.heap.size w13 w14 := (Own.nil w13 w13.heap.size).grown_below g14 (Nat.le_refl _)
  obtain ⟨a18, c18, rfl, i18⟩ := o14'.shape
  have HO14 : Hid (Own w14 w13.heap.size (.slice a18 b.length c18) b) := o14'
  have HB14 : Hid (Below w13.heap.size w13 w14) := B14
  have HIO14 : Hid (IsBytes w14 ao co ot) := HIO.out.below (HB013.out.trans (B14.mono HB013.out.size))
  clear o14 o14' g14 i18 B14
  go_upto_region 15 with (refine wpList_copy8 rfl (.tmp 123) (.tmp 124) rfl w13.heap.size a18 c18 b.length b rfl rfl HO14.out ao co ot.length ot rfl rfl HIO14.out ?_; intro r15 w15 o15 k15)
  obtain ⟨nw, hnw⟩ : ∃ nw, nw = over b ot := ⟨_, rfl⟩
  have hnl : nw.length = b.length := by rw [hnw]; exact over_length b ot
  rw [← hnw] at o15
  have HNL : Hid (nw.length = b.length) := hnl
  have HK15 : Hid (Kept (fun k => w13.heap.size ≤ k) w14 w15) := k15.mono (fun k _ e => (HO14.out.row e).choose_spec.2)
  have HO15 : Hid (Own w15 w13.heap.size (.slice a18 b.length c18) nw) := o15
  have HW15 : Hid (Own w15 w1.heap.size (.slice (some ⟨go, 0, none⟩) (b.length + 6) cO) (b ++ beh)) := (HO13.out.below HB14.out).keptBy HK15.out (fun g hg e => by have h9 : go = g := (by simpa [Value.ownBlock] using hg); have e : w13.heap.size ≤ g := e; omega)
  have HI15 : Hid (IsBytes w15 a18 c18 nw) := by
    obtain ⟨a9, c9, e9, i9⟩ := o15.shape
    simp only [Value.slice.injEq] at e9
    obtain ⟨rfl, _, rfl⟩ := e9
    exact i9
  have hbb : (b ++ beh).length = b.length + 6 := by simp [beh]
  have HBB : Hid ((b ++ beh).length = b.length + 6) := hbb
  clear o15 k15 hnw hnl hbb
  go_upto_region 16 with (refine wpList_copy8 rfl (.tmp 126) (.tmp 127) rfl w1.heap.size (some ⟨go, 0, none⟩) cO (b.length + 6) (b ++ beh) HBB.out rfl HW15.out a18 c18 b.length nw HNL.out rfl HI15.out ?_; intro r16 w16 o16 k16)
  rw [over_same b beh nw HNL.out] at o16
  have HO16 : Hid (Own w16 w1.heap.size (.slice (some ⟨go, 0, none⟩) (b.length + 6) cO) (nw ++ beh)) := o16
  have HK16 : Hid (Kept (fun k => k = go) w15 w16) := k16.mono (fun k _ e => by have h9 : go = k := (by simpa [Value.ownBlock] using e); exact h9.symm)
  have HI16 : Hid (Own w16 w13.heap.size (.slice a18 b.length c18) nw) := HO15.out.keptBy HK16.out (fun g hg e => by have := (HO15.out.row hg).choose_spec.2; omega)
  have HM16 : Hid (Mid w3.heap.size w9 w16) := ((HZ9.out.below HB14.out).kept HK15.out (fun k h1 h2 => by omega)).kept HK16.out (fun k h1 h2 => by omega)
  have HB16 : Hid (Below w.heap.size w w16) := by
    have h1 := HB013.out.trans (HB14.out.mono HB013.out.size)
    have h2 := HK15.out.below (B := w.heap.size) h1.size (fun k hk e => by have := HB013.out.size; omega)
    have h3 := h1.trans h2
    have h4 := HK16.out.below (B := w.heap.size) h3.size (fun k hk e => by have := HB1.out.size; omega)
    exact h3.trans h4
  have hs16 : w13.heap.size ≤ w16.heap.size := Nat.le_trans HB14.out.size (Nat.le_trans HK15.out.size HK16.out.size)
  clear o16 k16 HO15 HW15 HI15 HO14 HIO14 HO13
  go_upto_region 17 with (go_at_call 15; refine (readList_len (some ⟨go, 0, none⟩) cO b.length nw w16 HNL.out (HIB.out w16 nw HNL.out HO16.out) (by have := HNL.out; omega)).mono ?_; rintro e w17 ⟨v19, e3, t3, rfl, r17, s17, b17⟩; have HR17 : Hid (readT nw e3 t3) := r17; have HS17 : Hid (Strs w17 w16.heap.size v19 t3) := s17; have HB17 : Hid (Below w16.heap.size w16 w17) := b17; have hs17 : w16.heap.size ≤ w17.heap.size := b17.size; clear r17 s17 b17)
  have HOW : Hid (∀ W, Below w16.heap.size w16 W → IsBytes W (some ⟨go, 0, none⟩) cO nw ∧ IsBytes W a18 c18 nw ∧ MaxAt W) := fun W hW => ⟨HIB.out W nw HNL.out (HO16.out.below hW), by
    obtain ⟨a9, c9, e9, i9⟩ := (HI16.out.below hW).shape
    simp only [Value.slice.injEq] at e9
    obtain ⟨rfl, _, rfl⟩ := e9
    exact i9, HM.out.below (HB16.out.trans (hW.mono HB16.out.size))⟩
  have hnb : nw.length ≤ 1048576 := by have := HNL.out; omega
  go_upto_region 18 with (go_at_call 21; refine (readDict_len (some ⟨go, 0, none⟩) cO b.length nw w17 HNL.out (HOW.out w17 HB17.out).1 (by omega) (HOW.out w17 HB17.out).2.2).mono ?_; rintro e w18 ⟨v20, e4, p4, rfl, r18, s18, b18⟩; have HR18 : Hid (readD nw e4 p4) := r18; have HS18 : Hid (Prs w18 w17.heap.size v20 p4) := s18; have HB178 : Hid (Below w17.heap.size w17 w18) := b18; have HB18 : Hid (Below w16.heap.size w16 w18) := HB17.out.trans (b18.mono hs17); have hs18 : w17.heap.size ≤ w18.heap.size := b18.size; clear r18 s18 b18)
  go_upto_region 19 with (go_at_call 23; refine (refReadList_len a18 c18 b.length nw w18 HNL.out (HOW.out w18 HB18.out).2.1 (by omega)).mono ?_; rintro e w19 ⟨v21, e5, t5, rfl, r19, s19, b19⟩; obtain ⟨rfl, rfl⟩ := readT_two HR17.out r19; have HS19 : Hid (Strs w19 w18.heap.size v21 t5) := s19; have HB189 : Hid (Below w18.heap.size w18 w19) := b19; have HB19 : Hid (Below w16.heap.size w16 w19) := HB18.out.trans (b19.mono HB18.out.size); have hs19 : w18.heap.size ≤ w19.heap.size := b19.size; clear r19 s19 b19)
  go_upto_region 20 with (go_at_call 24; refine (refReadDict_len a18 c18 b.length nw w19 HNL.out (HOW.out w19 HB19.out).2.1 (by omega)).mono ?_; rintro e w20 ⟨v22, e6, p6, rfl, r20, s20, b20⟩; obtain ⟨rfl, rfl⟩ := readD_two HR18.out r20; have HS20 : Hid (Prs w20 w19.heap.size v22 p6) := s20; have HB190 : Hid (Below w19.heap.size w19 w20) := b20; have HB20 : Hid (Below w16.heap.size w16 w20) := HB19.out.trans (b20.mono HB19.out.size); have hs20 : w19.heap.size ≤ w20.heap.size := b20.size; clear r20 s20 b20)
  have B180 : Below w18.heap.size w18 w20 := HB189.out.trans (HB190.out.mono hs19)
  have B170 : Below w17.heap.size w17 w20 := HB178.out.trans (B180.mono hs18)
  have ht5 : t5.length ≤ 1048576 := by have := readT_len HR17.out; omega
  have hp6 : p6.length ≤ 256 := readD_len HR18.out
  have M20 : Mid w3.heap.size w9 w20 := HM16.out.below HB20.out
  have S19 := HS17.out.below B170
  have S20 := HS18.out.below B180
  have S21 := HS19.out.below HB190.out
  have S22 := HS20.out
  obtain ⟨a19, c19, rfl, i19⟩ := S19.is1 (by omega)
  obtain ⟨a20, c20, rfl, i20⟩ := S20.is (by omega)
  obtain ⟨a21, c21, rfl, i21⟩ := S21.is1 (by omega)
  obtain ⟨a22, c22, rfl, i22⟩ := S22.is (by omega)
  have T6 := HS6.out.mid (lo := w3.heap.size) (Nat.le_refl _) M20
  have T8 := HS8.out.mid (lo := w3.heap.size) hs4 M20
  have T14 := HS14.out.mid (lo := w3.heap.size) HB7.out.size M20
  have T10 := HS10.out.mid (lo := w3.heap.size) HB5.out.size M20
  have T12 := HS12.out.mid (lo := w3.heap.size) HB6.out.size M20
  have T16 := HS16.out.mid (lo := w3.heap.size) HB8.out.size M20
  have HX1 : Hid (IsStrs w20 a6 c6 ts2 ∧ IsStrs w20 a8 c8 ts2 ∧ IsStrs w20 a14 c14 ts2 ∧ IsStrs w20 a19 c19 t5 ∧ IsStrs w20 a21 c21 t5) := by
    refine ⟨?_, ?_, ?_, i19, i21⟩
    · obtain ⟨_, _, e, i⟩ := T6.is1 (by omega); cases e; exact i
    · obtain ⟨_, _, e, i⟩ := T8.is1 (by omega); cases e; exact i
    · obtain ⟨_, _, e, i⟩ := T14.is1 (by omega); cases e; exact i
  have HX2 : Hid (IsPairs w20 a10 c10 ps2 ∧ IsPairs w20 a12 c12 ps2 ∧ IsPairs w20 a16 c16 ps2 ∧ IsPairs w20 a20 c20 p6 ∧ IsPairs w20 a22 c22 p6) := by
    refine ⟨?_, ?_, ?_, i20, i22⟩
    · obtain ⟨_, _, e, i⟩ := T10.is (by omega); cases e; exact i
    · obtain ⟨_, _, e, i⟩ := T12.is (by omega); cases e; exact i
    · obtain ⟨_, _, e, i⟩ := T16.is (by omega); cases e; exact i
  have HL3 : Hid (Strs w20 w3.heap.size (.slice a6 ts2.length c6) ts2 ∧ Strs w20 w4.heap.size (.slice a8 ts2.length c8) ts2 ∧ Strs w20 w16.heap.size (.slice a19 t5.length c19) t5) := ⟨T6, T8, S19⟩
  have HL4 : Hid (Prs w20 w5.heap.size (.slice a10 ps2.length c10) ps2 ∧ Prs w20 w6.heap.size (.slice a12 ps2.length c12) ps2 ∧ Prs w20 w17.heap.size (.slice a20 p6.length c20) p6) := ⟨T10, T12, S20⟩
  have he3 : (e5 != e5) = false := by simp
  have he4 : (e6 != e6) = false := by simp
  have HB020 : Hid (Below w.heap.size w w20) := HB16.out.trans (HB20.out.mono HB16.out.size)
  clear B180 B170 M20 S19 S20 S21 S22 i19 i20 i21 i22 T6 T8 T14 T10 T12 T16
  go_upto_region 22 with (first
    | (go_at_call_of 16 a19; refine (texts_any a19 a21 c19 c21 t5 t5 _ (HX1.out.2.2.2.1) (HX1.out.2.2.2.2)).mono ?_; rintro e w21 ⟨rfl, n21, hw21⟩; have HB21 : Hid (Below w20.heap.size w20 w21) := (by rw [hw21]; exact below_drewN (Below.refl _ w20) n21); clear hw21; rw [decide_eq_true rfl])
    | (go_at_call_of 22 a20; refine (pairs_any a20 a22 c20 c22 p6 p6 _ (HX2.out.2.2.2.1.below HB21.out) (HX2.out.2.2.2.2.below HB21.out)).mono ?_; rintro e w22 ⟨rfl, n22, hw22⟩; have HB22 : Hid (Below w20.heap.size w20 w22) := (by rw [hw22]; exact below_drewN HB21.out n22); clear hw22; rw [decide_eq_true rfl])
    | (go_at_call_of 16 a6; refine (texts_any a6 a14 c6 c14 ts2 ts2 _ (HX1.out.1.below HB22.out) (HX1.out.2.2.1.below HB22.out)).mono ?_; rintro e w23 ⟨rfl, n23, hw23⟩; have HB23 : Hid (Below w20.heap.size w20 w23) := (by rw [hw23]; exact below_drewN HB22.out n23); clear hw23; rw [decide_eq_true rfl])
    | (go_at_call_of 16 a8; refine (texts_any a8 a14 c8 c14 ts2 ts2 _ (HX1.out.2.1.below HB23.out) (HX1.out.2.2.1.below HB23.out)).mono ?_; rintro e w24 ⟨rfl, n24, hw24⟩; have HB24 : Hid (Below w20.heap.size w20 w24) := (by rw [hw24]; exact below_drewN HB23.out n24); clear hw24; rw [decide_eq_true rfl])
    | (go_at_call_of 22 a10; refine (pairs_any a10 a16 c10 c16 ps2 ps2 _ (HX2.out.1.below HB24.out) (HX2.out.2.2.1.below HB24.out)).mono ?_; rintro e w25 ⟨rfl, n25, hw25⟩; have HB25 : Hid (Below w20.heap.size w20 w25) := (by rw [hw25]; exact below_drewN HB24.out n25); clear hw25; rw [decide_eq_true rfl])
    | (go_at_call_of 22 a12; refine (pairs_any a12 a16 c12 c16 ps2 ps2 _ (HX2.out.2.1.below HB25.out) (HX2.out.2.2.1.below HB25.out)).mono ?_; rintro e w26 ⟨rfl, n26, hw26⟩; have HB26 : Hid (Below w20.heap.size w20 w26) := (by rw [hw26]; exact below_drewN HB25.out n26); clear hw26; rw [decide_eq_true rfl]))
  have U6 : Hid (∀ g, (Value.slice a6 ts2.length c6).ownBlock = some g → w3.heap.size ≤ g ∧ g < w4.heap.size) := fun g hg => row_ltS HS4.out hg
  have U8 : Hid (∀ g, (Value.slice a8 ts2.length c8).ownBlock = some g → w4.heap.size ≤ g ∧ g < w5.heap.size) := fun g hg => row_ltS HS5.out hg
  have U19 : Hid (∀ g, (Value.slice a19 t5.length c19).ownBlock = some g → w16.heap.size ≤ g ∧ g < w17.heap.size) := fun g hg => row_ltS HS17.out hg
  have U10 : Hid (∀ g, (Value.slice a10 ps2.length c10).ownBlock = some g → w5.heap.size ≤ g ∧ g < w6.heap.size) := fun g hg => row_ltP HQ6.out hg
  have U12 : Hid (∀ g, (Value.slice a12 ps2.length c12).ownBlock = some g → w6.heap.size ≤ g ∧ g < w7.heap.size) := fun g hg => row_ltP HQ7.out hg
  have U20 : Hid (∀ g, (Value.slice a20 p6.length c20).ownBlock = some g → w17.heap.size ≤ g ∧ g < w18.heap.size) := fun g hg => row_ltP HS18.out hg
  have hs79 : w7.heap.size ≤ w9.heap.size := Nat.le_trans hs8 hs9
  have hs26 : w20.heap.size ≤ w26.heap.size := HB26.out.size
  have HL3b : Hid (Strs w26 w3.heap.size (.slice a6 ts2.length c6) ts2 ∧ Strs w26 w4.heap.size (.slice a8 ts2.length c8) ts2 ∧ Strs w26 w16.heap.size (.slice a19 t5.length c19) t5) := ⟨HL3.out.1.below HB26.out, HL3.out.2.1.below HB26.out, HL3.out.2.2.below HB26.out⟩
  have HL4b : Hid (Prs w26 w5.heap.size (.slice a10 ps2.length c10) ps2 ∧ Prs w26 w6.heap.size (.slice a12 ps2.length c12) ps2 ∧ Prs w26 w17.heap.size (.slice a20 p6.length c20) p6) := ⟨HL4.out.1.below HB26.out, HL4.out.2.1.below HB26.out, HL4.out.2.2.below HB26.out⟩
  have HBF : Hid (Below w.heap.size w w26) := HB020.out.trans (HB26.out.mono HB020.out.size)
  go_wp2_with (first
    | (go_at_call 25; refine (apart3S w26 w3.heap.size w4.heap.size w16.heap.size _ _ _ ts2 ts2 t5 HL3b.out.1 HL3b.out.2.1 HL3b.out.2.2 (fun g hg => (U6.out g hg).2) (fun g hg => by have := (U8.out g hg).2; omega) hs4 (by omega) (by omega) htl htl ht5).mono ?_; rintro e w27 ⟨rfl, k27⟩; have HK27 : Hid (Kept (fun k => (w3.heap.size ≤ k ∧ k < w5.heap.size) ∨ (w16.heap.size ≤ k ∧ k < w17.heap.size)) w26 w27) := k27.mono (fun k _ hk => by rcases hk with h | h | h; (have := U6.out k h; omega); (have := U8.out k h; omega); (have := U19.out k h; omega)); clear k27)
    | (go_at_call 26; refine (apart3P w27 w5.heap.size w6.heap.size w17.heap.size _ _ _ ps2 ps2 p6 (row_keptP HK27.out HL4b.out.1 (fun g hg e => by have := U10.out g hg; omega)) (row_keptP HK27.out HL4b.out.2.1 (fun g hg e => by have := U12.out g hg; omega)) (row_keptP HK27.out HL4b.out.2.2 (fun g hg e => by have := U20.out g hg; omega)) (fun g hg => (U10.out g hg).2) (fun g hg => by have := (U12.out g hg).2; omega) hs6 (by omega) (by have := HK27.out.size; omega) (by omega) (by omega) (by omega)).mono ?_; rintro e w28 ⟨rfl, k28⟩; have HK28 : Hid (Kept (fun k => w5.heap.size ≤ k) w27 w28) := k28.mono (fun k _ hk => by rcases hk with h | h | h; (have := U10.out k h; omega); (have := U12.out k h; omega); (have := U20.out k h; omega)); clear k28))
  go_ret
  refine ⟨rfl, ?_⟩
  have h1 := HK27.out.below (B := w.heap.size) HBF.out.size (fun k hk e => by have := HB3.out.size; omega)
  have h2 := HBF.out.trans h1
  exact h2.trans (HK28.out.below (B := w.heap.size) h2.size (fun k hk e => by have := HB3.out.size; omega))
end Go.Proofs.Ytbeedehloedglaa.yamlReads
