/-
  The walks of word and number.
-/
import Derived.Test.YtomgnailgddchaaDoorClosures
import Derived.Laws.BytesArg
import Derived.Laws.IdiomStrings
namespace Go.Proofs.YtomgnailgddchaaDoor
open Go.RowKit Go.Sort

/-- What word gets, and where it gets to. -/
def wordR (b : List UInt8) (fits : List UInt8 → Bool) (p e : Nat) : List UInt8 × Nat × Nat := if e = 0 then wordP b fits p else ([], p, e)

theorem IsBytes.nat {w : World} {p : Addr} {c : Nat} {l : List UInt8} (h : IsBytes w (some p) c l) : ∀ i (hi : i < l.length), w.cell? (p.add i) = some (.int .u8 ((l[i].toNat : Nat) : Int)) := by
  intro i hi
  rcases h.2.2 with rfl | ⟨b, o, e, _, hc⟩
  · simp at hi
  · cases e
    rw [Go.WideShapes.add_plain]
    exact hc i l[i] (List.getElem?_eq_getElem hi)
theorem conv_is {w : World} {a : Option Addr} {c n : Nat} {l : List UInt8} (h : IsBytes w a c l) (hn : l.length = n) : (convert 34 9 (.slice a n c)).run Tryd.prog w = .ok (.string ⟨l.toArray⟩) w := by
  subst hn
  cases a with
  | none =>
    obtain rfl : l = [] := by
      rcases h.2.2 with h | ⟨_, _, e, _⟩
      · exact h
      · cases e
    exact run_convert_bytes_nil w 34 5 Tryd.underlying34 Tryd.underlying5 0 c 9 Tryd.underlying9
  | some p =>
    refine run_convert_bytes_back w 34 9 5 p c l Tryd.underlying34 Tryd.underlying5 Tryd.underlying9 (fun j hj => ?_)
    exact h.nat j hj

theorem addS (p : Nat) : (fun x : Addr => x.add (p + 1)) = fun x => ({ block := x.block, off := x.off + (p + 1) } : Addr) := by
  funext x
  simp [Addr.add]
set_option maxHeartbeats 4000000 in
set_option maxRecDepth 1000000 in
theorem word_any8 (w : World) (tb : Nat) (a : Option Addr) (c p e : Nat) (b : List UInt8) (g : Nat) (cb : Array Value) (fits : List UInt8 → Bool) (hcl : Closed fits) (ht : TrAt w tb a b.length c p e) (hb : IsBytes w a c b) (hp : e = 0 → p ≤ b.length) (hbl : b.length ≤ 4294967296)
    (F : ∀ W, Kept (fun k => k = tb) w W → FitsFn W g cb fits) (eg : ∀ args w, (callFunc g args).run Tryd.prog w = .ok (.enter g args) w) :
    Calls Tryd.prog 52 #[.pointer (some ⟨tb, 0, none⟩), .func (.func g) #[] cb] w fun x w' => x = .returned (.string ⟨(wordR b fits p e).1.toArray⟩) ∧ TrAt w' tb a b.length c (wordR b fits p e).2.1 (wordR b fits p e).2.2 ∧ Kept (fun k => k = tb) w w' := by
  have hlt := ht.lt
  have K0 : Hid (∀ o, Kept (fun k => k = tb) w (w.alloc o)) := fun o => Kept.ofBelow ((Below.refl _ w).alloc (Nat.le_refl _) o)
  have HB : Hid (∀ w', Kept (fun k => k = tb) w w' → IsBytes w' a c b) := fun w' hk => hb.kept hk (hb.not ht)
  have HT : Hid (∀ o, TrAt (w.alloc o) tb a b.length c p e) := fun o => ht.below ((Below.refl _ w).alloc (Nat.le_refl _) o)
  have HF := hide F
  have HP := hide hp
  clear ht hb F hp
  obtain ⟨R, hR⟩ : ∃ R, R = wordR b fits p e := ⟨_, rfl⟩
  rw [← hR]
  have HR := hide hR
  clear hR
  obtain ⟨p1, hp1⟩ : ∃ p1, p1 = (textR b [32] p e).1 := ⟨_, rfl⟩
  obtain ⟨e1, he1⟩ : ∃ e1, e1 = (textR b [32] p e).2 := ⟨_, rfl⟩
  have HP1 := hide hp1
  have HE1 := hide he1
  clear hp1 he1
  by_cases hz : e1 = 0
  · subst hz
    have hfacts : e = 0 ∧ b[p]? = some 32 ∧ p1 = p + 1 := by
      have h1 := HP1.out
      have h2 := HE1.out
      unfold textR at h1 h2
      by_cases h0 : e = 0
      · rw [if_pos h0, text_one] at h1 h2
        refine ⟨h0, ?_⟩
        cases hb : b[p]? with
        | none => rw [hb] at h2; cases h2
        | some y =>
          rw [hb] at h1 h2
          simp only at h1 h2
          by_cases hy : y = 32
          · rw [if_pos hy] at h1
            exact ⟨by rw [hy], h1⟩
          · rw [if_neg hy] at h2; cases h2
      · rw [if_neg h0] at h2; exact absurd h2.symm h0
    obtain ⟨he, h32, hp1⟩ := hfacts
    subst hp1
    subst he
    have hpl := (List.getElem?_eq_some_iff.1 h32).1
    have HRR : Hid (R = ((runOf b p).take (fitN fits (runOf b p)), p + 1 + fitN fits (runOf b p), if p + 1 + fitN fits (runOf b p) = b.length then 1 else if fitN fits (runOf b p) = 0 then 2 else 0)) := by
      show R = _
      rw [HR.out]
      unfold wordR
      rw [if_pos rfl, word_blank h32]
    obtain ⟨S, hS⟩ : ∃ S : ByteArray, S = ⟨(runOf b p).toArray⟩ := ⟨_, rfl⟩
    have hSz : S.size = min 200 (b.length - (p + 1)) := by
      rw [hS, ← run_len b p]
      exact List.size_toArray
    obtain ⟨N, hN⟩ : ∃ N, N = fitN fits (runOf b p) := ⟨_, rfl⟩
    have hNle : N ≤ S.size := by
      rw [hN, hSz, ← run_len b p]
      exact (fit_spec hcl _).1
    rw [← hN] at HRR
    have HC : Hid (∀ W, Kept (fun k => k = tb) w W → (convert 34 9 (.slice (if c = p + 1 then a else a.map (fun x => ({ block := x.block, off := x.off + (p + 1) } : Addr))) ((min ((p : Int) + 1 + 200) b.length).toNat - (p + 1)) (c - (p + 1)))).run Tryd.prog W = .ok (.string S) W) := by
      intro W hW
      rw [hS]
      by_cases hc : c = p + 1
      · have hbc := (HB.out W hW).1
        have : runOf b p = [] := List.length_eq_zero_iff.1 (by rw [run_len]; omega)
        rw [if_pos hc]
        refine conv_is (l := runOf b p) ?_ (by rw [run_len]; omega)
        rw [this]
        exact IsBytes.empty _ _ (by unfold maxLen; omega)
      · have hm := ((HB.out W hW).map (p + 1) hpl).take 200
        rw [addS] at hm
        rw [if_neg hc]
        exact conv_is (l := runOf b p) hm (by rw [run_len]; omega)
    have HSE : Hid (∀ (w2 : World) (bs : Nat), Kept (fun k => k = tb) w w2 → w2.cell? ⟨w.heap.size, 0, none⟩ = some (.func (.func g) #[] cb) → w2.cell? ⟨bs, 0, none⟩ = some (.string S) →
        Calls Tryd.prog 65 #[.int .i64 (S.size : Int), .func (.func 66) #[] #[.pointer (some ⟨w.heap.size, 0, none⟩), .pointer (some ⟨bs, 0, none⟩)]] w2 fun x w' => x = .returned (.int .i64 (N : Int)) ∧ Grew w2 w') := by
      intro w2 bs hK hf hs
      have hpk : ∀ i, (List.take (i + 1) S.data.toList) = (runOf b p).take (i + 1) := fun i => by rw [hS]
      refine (Any.sort_Search Tryd.searchRow 66 #[.pointer (some ⟨w.heap.size, 0, none⟩), .pointer (some ⟨bs, 0, none⟩)] S.size (fun i => !fits (S.data.toList.take (i + 1))) w2 (enters_of Tryd.func66 (by kernel_rfl) rfl) (by omega) (fun m os i hi => ?_) (fun x y hxy hy h => ?_)).mono ?_
      · have hG : Grew w2 (grow (w2.drewN m) os) := ⟨m, os, rfl⟩
        refine (wordfits_any _ g cb fits S w.heap.size bs i (hG.cell hf) (hG.cell hs) hi (by omega) (HF.out _ (hK.trans (Kept.ofBelow hG.below))) eg).mono ?_
        rintro e w' ⟨rfl, q, os', h⟩
        exact ⟨rfl, q, os', h⟩
      · have h1 : fits (S.data.toList.take (x + 1)) = false := by simpa using h
        cases h2 : fits (S.data.toList.take (y + 1)) with
        | false => rfl
        | true =>
          have hl : S.data.toList.length = S.size := by simp
          rw [take_closed hcl S.data.toList x y hxy (by omega) h2] at h1
          cases h1
      · rintro e w' ⟨rfl, q, os, h⟩
        refine ⟨?_, q, os, h⟩
        have : (List.range S.size).countP (fun i => !!fits (S.data.toList.take (i + 1))) = N := by
          rw [hN]
          unfold fitN
          have hl : S.size = (runOf b p).length := by rw [hS]; exact List.size_toArray
          rw [hl]
          congr 1
          funext i
          rw [hpk, Bool.not_not]
        rw [this]
    have HS := hide hS
    have HSZ := hide hSz
    have hS200 : S.size ≤ 200 := by omega
    have hNb : p + 1 + N ≤ b.length := by omega
    clear hS hN hSz
    have hbc : b.length ≤ c := (HB.out w (Kept.refl _ _)).1
    have hcm : c ≤ 9223372036854775807 := by
      have h2 := (HB.out w (Kept.refl _ _)).2.1
      unfold maxLen at h2
      omega
    clear h32
    · 
      go_enter Tryd.func52, Tryd.ntmps52
      go_wp2_with (first
        | (go_at_call 50
           refine (text_any _ tb a c p 0 b ⟨#[32]⟩ (HT.out _) (HB.out _ (K0.out _)) (fun _ => Nat.le_of_lt hpl) (by decide)).mono ?_
           rintro x w1 ⟨rfl, T1, K1⟩
           rw [show (textR b (⟨#[32]⟩ : ByteArray).data.toList p 0).1 = p + 1 from HP1.out.symm, show (textR b (⟨#[32]⟩ : ByteArray).data.toList p 0).2 = 0 from HE1.out.symm] at T1
           obtain ⟨k0, k1, k2⟩ := T1.cell
           have HT1 := hide T1
           have HK1 := hide ((K0.out _).trans K1)
           have hlt1 := T1.lt
           have HCF : Hid (w1.cell? ⟨w.heap.size, 0, none⟩ = some (.func (.func g) #[] cb)) := K1.cell (b := w.heap.size) (fun e => absurd hlt (by have e : w.heap.size = tb := e; omega)) (cell_new_sl w _ _)
           have HK1o : Hid (∀ o, Kept (fun k => k = tb) w (w1.alloc o).drew) := fun o => (HK1.out.trans (Kept.ofBelow ((Below.refl _ w1).alloc (Nat.le_refl _) o))).drew
           have kc1 := fun o => HC.out _ (HK1o.out o)
           have kc2 := HC.out _ HK1.out.drew
           clear T1 K1))
      go_region
      all_goals (
      obtain ⟨w2, hw2⟩ : ∃ w2, w2 = (w1.alloc (.cells #[.string S] 9)).drew := ⟨_, rfl⟩
      have HK2 := hide (HK1o.out (.cells #[.string S] 9))
      rw [← hw2] at HK2 ⊢
      have T2 := HT1.out.below ((Below.refl _ w1).alloc (Nat.le_refl _) (.cells #[.string S] 9)).drew
      rw [← hw2] at T2
      have cf : w2.cell? ⟨w.heap.size, 0, none⟩ = some (.func (.func g) #[] cb) := by rw [hw2]; exact cell_alloc_sl _ HCF.out
      have cs : w2.cell? ⟨w1.heap.size, 0, none⟩ = some (.string S) := by rw [hw2]; exact cell_new_sl w1 _ _
      have hlt2 : tb < w1.heap.size := hlt1
      clear hw2 kc1 kc2 k0 k1 k2 HCF HK1o HT1
      have HSEA := hide (HSE.out w2 w1.heap.size HK2.out cf cs)
      have HT2 := hide T2
      clear T2 cf
      go_wp2_with (first
        | (go_at_call 65
           refine (HSEA.out).mono ?_
           rintro x w3 ⟨rfl, G3⟩
           have cs3 := G3.cell cs
           have T3 := HT2.out.below G3.below
           obtain ⟨k0, k1, k2⟩ := T3.cell
           have f1 := T3.free 1
           have f2 := T3.free 2
           have hlt3 := T3.lt
           have HT3 := hide T3
           have HK3 := hide (HK2.out.trans (Kept.ofBelow G3.below))
           clear G3 T3 cs)
        | go_region))
      all_goals go_ret
      all_goals (
        obtain ⟨q1, q2⟩ := HT3.out.setPos (p + 1 + N)
        obtain ⟨q3, q4⟩ := q1.setSt 1
        obtain ⟨q5, q6⟩ := q1.setSt 2
        rw [show ((p + 1 + N : Nat) : Int) = (p : Int) + 1 + (N : Int) by omega] at q1 q2 q3 q4 q5 q6
        rw [HRR.out]
        try rw [h] at q1 q3 q5
        simp only [beq_iff_eq, beq_eq_false_iff_ne] at *
        refine ⟨?_, ?_, ?_⟩
        · show Ending.returned (.string (S.extract 0 N)) = Ending.returned (.string ⟨((runOf b p).take N).toArray⟩)
          have : (S.extract 0 N).data.toList = (runOf b p).take N := by rw [extract_take, HS.out]
          rw [← this]
        · first
            | (rw [if_pos (show p + 1 + N = b.length by omega)]; exact q3)
            | (rw [if_neg (show ¬ p + 1 + N = b.length by omega), if_pos (show N = 0 by omega)]; exact q5)
            | (rw [if_neg (show ¬ p + 1 + N = b.length by omega), if_neg (show ¬ N = 0 by omega)]; exact q1)
        · first
            | exact ((HK3.out.trans q2).trans q4).drew
            | exact ((HK3.out.trans q2).trans q6).drew
            | exact (HK3.out.trans q2).drew)
  · have hz2 : ((e1 : Int) == 0) = false := by rw [beq_eq_false_iff_ne]; omega
    have HRR : Hid (R = ([], p1, e1)) := by
      show R = _
      rw [HR.out]
      unfold wordR
      have h1 := HP1.out
      have h2 := HE1.out
      unfold textR at h1 h2
      by_cases h0 : e = 0
      · rw [if_pos h0] at h1 h2 ⊢
        unfold wordP
        rw [if_neg (by rw [← h2]; exact hz), h1, h2]
      · rw [if_neg h0] at h1 h2 ⊢
        rw [h1, h2]
    go_enter Tryd.func52, Tryd.ntmps52
    go_wp2_with (first
      | (go_at_call 50
         refine (text_any _ tb a c p e b ⟨#[32]⟩ (HT.out _) (HB.out _ (K0.out _)) HP.out (by decide)).mono ?_
         rintro x w1 ⟨rfl, T1, K1⟩
         rw [show (textR b (⟨#[32]⟩ : ByteArray).data.toList p e).1 = p1 from HP1.out.symm, show (textR b (⟨#[32]⟩ : ByteArray).data.toList p e).2 = e1 from HE1.out.symm] at T1
         obtain ⟨k0, k1, k2⟩ := T1.cell
         have HT1 := hide T1
         have HK1 := hide ((K0.out _).trans K1)
         have hlt1 := T1.lt
         clear T1 K1))
    go_ret
    rw [HRR.out]
    exact ⟨rfl, HT1.out, HK1.out⟩
end Go.Proofs.YtomgnailgddchaaDoor
