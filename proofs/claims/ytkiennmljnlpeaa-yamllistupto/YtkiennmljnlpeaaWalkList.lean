/-
  The walk of YamlList.
-/
import Derived.Test.YtkiennmljnlpeaaYCopy
import Derived.Test.YtkiennmljnlpeaaShown
import Derived.Test.YtkiennmljnlpeaaRefRead
namespace Go.Proofs.Ytkiennmljnlpeaa.yamlList
open Go.RowKit

/-- A list of ours is one block. -/
theorem strs_block {W : World} {B g m c : Nat} {ts : List ByteArray} (h : Strs W B (.slice (some ⟨g, 0, none⟩) m c) ts) : ∃ o, W.heap[g]? = some o ∧ B ≤ g ∧ ∀ X : World, X.heap[g]? = some o → Strs X B (.slice (some ⟨g, 0, none⟩) m c) ts := by
  rcases h.2 with ⟨hv, _⟩ | ⟨g', cap, cur, hv, hB, hg, rest⟩
  · cases hv
  · have hv' := hv
    simp only [Value.slice.injEq, Option.some.injEq, Addr.mk.injEq, and_true] at hv'
    obtain ⟨rfl, _, rfl⟩ := hv'
    exact ⟨_, hg, hB, fun X hX => ⟨h.1, .inr ⟨g, _, cur, hv, hB, hX, rest⟩⟩⟩
theorem wnT_block {w : World} {B g c : Nat} {ts : List ByteArray} {o : Obj} {us : List (Nat × Obj)} (h : ∀ X : World, X.heap[g]? = some o → Strs X B (.slice (some ⟨g, 0, none⟩) ts.length c) ts) (hl : ts.length ≤ 140737488355328) (hu : (g, o) ∈ us) : WnT w us (some ⟨g, 0, none⟩) c ts := fun X _ hX => by
  obtain ⟨a, c', e, hI⟩ := (h X (hX _ hu)).is1 hl
  cases e
  exact hI
theorem list_len {w W : World} {us : List (Nat × Obj)} {f : Nat} {lab : Nat → Tag} {Hb : Nat} {es : List Ent} {M : Nat} (n : Nat) (ts : List ByteArray) (hn : ts.length = n) (a1 a2 : Option Addr) (c1 c2 : Nat) (h : Bk w us f lab Hb es M W) (p1 : WnT w us a1 c1 (ts ++ [bs, bs])) (p2 : WnT w us a2 c2 ts) (hM : M ≤ 4294967296) (hsz : (listL (ts.map tx)).length ≤ M) (he : es.length ≤ 899) :
    Calls Try.prog 11 #[.pointer (some ⟨Hb, 0, none⟩), .slice a1 n c1, .slice a2 n c2] W fun e w' => e = .returned (.bool true) ∧ ∃ lab' es', Bk w us f lab' Hb es' M w' ∧ es'.length = es.length + 1 := by
  subst hn
  exact listM_any ts a1 a2 c1 c2 h p1 p2 hM hsz he
theorem round_len (w : World) (n : Nat) (a : Option Addr) (c : Nat) (ts : List ByteArray) (hn : n = ts.length) (W : World) (h : IsStrs W a c ts) (hl : ts.length ≤ 1048576) :
    Calls Try.prog 13 #[.slice a n c] W fun e w' => ∃ a9 c9 vs, e = .returned (.slice a9 n c9) ∧ IsStrs w' a9 c9 ts.reverse ∧ WnT w vs a9 c9 ts.reverse ∧ (∀ p ∈ vs, w'.heap[p.1]? = some p.2 ∧ W.heap.size ≤ p.1) ∧ Below W.heap.size W w' := by
  subst hn
  refine (round_any a c ts W h (by omega)).mono ?_
  rintro e w' ⟨v, rfl, hs, hb⟩
  obtain ⟨a9, c9, vs, e1, hw, hv⟩ := WnT.ofStrs (w := w) hs (by simp; omega)
  obtain ⟨a8, c8, e2, hI⟩ := hs.is1 (by simp; omega)
  rw [e1] at e2
  simp only [Value.slice.injEq, true_and] at e2
  obtain ⟨rfl, rfl⟩ := e2
  refine ⟨a9, c9, vs, by rw [e1, List.length_reverse], hI, hw, fun p hp => ⟨(hv p hp).1, (hv p hp).2.1⟩, hb⟩

set_option maxHeartbeats 8000000 in
set_option maxRecDepth 1000000 in
theorem walk (a : Option Addr) (c : Nat) (ts : List ByteArray) (w : World) (h : IsStrs w a c ts) (hl : ts.length ≤ 1048576) (hL : (listL (ts.map tx)).length ≤ 100000000) (hL2 : (listL (ts.reverse.map tx)).length ≤ 100000000) (hm : MaxAt w) :
    Calls Try.prog 3 #[.slice a ts.length c] w fun e w' => e = .returned (.bool true) ∧ Below w.heap.size w w' := by
  obtain ⟨n, hn⟩ : ∃ n, n = ts.length := ⟨_, rfl⟩
  have HI := hideY h
  have HM := hideY hm
  have HN := hideY hn
  have HL := hideY (And.intro hL hL2)
  have CM : Hid (Calls Try.prog 8 #[.slice a n c] w fun e w' => (∃ x, e = .returned (.bool x)) ∧ w' = w) := by rw [hn]; exact many_any a c ts w h (by omega)
  have CS : Hid (Calls Try.prog 9 #[] w fun e w' => e = .returned (.bool true) ∧ Below w.heap.size w w') := shown_any w hm
  have CL : Hid (∀ W, Below w.heap.size w W → Calls Try.prog 10 #[.slice a n c] W fun e w' => ∃ g c', e = .returned (.slice (some ⟨g, 0, none⟩) n c') ∧ Strs w' W.heap.size (.slice (some ⟨g, 0, none⟩) (ts ++ [bs, bs]).length c') (ts ++ [bs, bs]) ∧ Below W.heap.size W w') := fun W hb => by rw [hn]; exact lent_any a c ts W (h.below hb) (by omega)
  have CR : Hid (∀ W, Below w.heap.size w W → Calls Try.prog 13 #[.slice a n c] W fun e w' => ∃ a9 c9 vs, e = .returned (.slice a9 n c9) ∧ IsStrs w' a9 c9 ts.reverse ∧ WnT w vs a9 c9 ts.reverse ∧ (∀ p ∈ vs, w'.heap[p.1]? = some p.2 ∧ W.heap.size ≤ p.1) ∧ Below W.heap.size W w') := fun W hb => round_len w n a c ts hn W (h.below hb) hl
  rw [← hn] at hl ⊢
  clear h hm hn hL hL2
  go_enter Try.func3, Try.ntmps3
  go_upto_region 3 with (first
    | (go_at_call 8; refine CM.out.mono ?_; rintro e w ⟨⟨x, rfl⟩, rfl⟩))
  · go_ret
    exact ⟨rfl, Below.refl _ _⟩
  clear CM
  go_upto_region 5 with (first
    | (go_at_call 9; refine CS.out.mono ?_; rintro e w1 ⟨rfl, b1⟩; have B1 := hideY b1; clear b1))
  clear CS
  obtain ⟨Hb, hHb⟩ : ∃ Hb, Hb = w1.heap.size := ⟨_, rfl⟩
  obtain ⟨w2, hw2⟩ : ∃ w2, w2 = w1.alloc (.cells #[.slice none 0 0, .slice none 0 0, .int .i64 0] 28) := ⟨_, rfl⟩
  obtain ⟨lab2, hlab2⟩ : ∃ lab2 : Nat → Tag, lab2 = fun k => if k = Hb then .box else .user 0 := ⟨_, rfl⟩
  have K2 : Hid (Bk w [] 0 lab2 Hb [] 100000000 w2) := by
    rw [hw2, hlab2, hHb]
    exact Bk.start w [] 100000000 w1 B1.out (fun p hp => by cases hp)
  have HW2 := hideY (And.intro hHb hw2)
  clear hHb hw2 hlab2
  go_upto_region 6 with fail
  rw [← HW2.out.1, ← HW2.out.2]
  clear HW2 B1
  go_upto_region 7 with (first
    | (go_at_call 10; refine (CL.out _ K2.out.below).mono ?_; rintro e w3 ⟨g, c3, rfl, s3, b3⟩; have S3 := hideY (And.intro s3 b3); clear s3 b3))
  clear CL
  obtain ⟨o, ho1, ho2, ho3⟩ := strs_block S3.out.1
  obtain ⟨us, hus⟩ : ∃ us : List (Nat × Obj), us = [(g, o)] ++ [] := ⟨_, rfl⟩
  have k3 := K2.out.more (vs := [(g, o)]) S3.out.2 (fun p hp => by obtain rfl := List.mem_singleton.1 hp; exact ⟨ho1, ho2⟩)
  rw [← hus] at k3
  obtain ⟨lab3, hlab3⟩ : ∃ lab3 : Nat → Tag, lab3 = fun k => if k < w2.heap.size then lab2 k else .user 0 := ⟨_, rfl⟩
  rw [← hlab3] at k3
  have K3 := hideY k3
  have HU := hideY (show (g, o) ∈ us by rw [hus]; simp)
  have HO := hideY (And.intro (Nat.le_trans K2.out.below.size ho2) ho3)
  have HP := hideY (show WnT w us (some ⟨g, 0, none⟩) c3 (ts ++ [bs, bs]) from wnT_block ho3 (by have := HN.out; simp; omega) HU.out)
  have HQ := hideY (WnT.ofIs us HI.out)
  clear k3 hlab3 hus ho1 ho2 ho3 K2 S3
  go_upto_region 9 with (first
    | (go_at_call 11; refine (list_len n ts HN.out.symm _ _ _ _ K3.out HP.out HQ.out (by omega) HL.out.1 (by simp)).mono ?_; rintro e w4 ⟨rfl, lab4, es4, k4, l4⟩; have K4 := hideY k4; have L4 := hideY l4; clear k4 l4 K3)
    | (go_at_call 11; refine (list_len n ts HN.out.symm _ _ _ _ K4.out HP.out HQ.out (by omega) HL.out.1 (by have := L4.out; simp at this; omega)).mono ?_; rintro e w5 ⟨rfl, lab5, es5, k5, l5⟩; have K5 := hideY k5; have L5 := hideY (show es5.length = 2 by have := L4.out; simp at this; omega); clear k5 l5 K4 L4)
    | (go_at_call 12; refine (K5.out.write (by omega) (by have := L5.out; omega)).mono ?_; rintro e w6 ⟨rfl, f6, lab6, es6, k6, l6⟩; have K6 := hideY k6; have L6 := hideY (show es6.length ≤ 4 by have := L5.out; omega); clear k6 l6 K5 L5)
    | (go_at_call 11; refine (list_len n ts HN.out.symm _ _ _ _ K6.out HP.out HQ.out (by omega) (by have := HL.out.1; omega) (by have := L6.out; omega)).mono ?_; rintro e w7 ⟨rfl, lab7, es7, k7, l7⟩; have K7 := hideY k7; have L7 := hideY (show es7.length ≤ 5 by have := L6.out; omega); clear k7 l7 K6 L6))
  clear HP HQ
  have g7 : w7.heap[g]? = some o ∧ lab7 g = .user 0 := K7.out.usr _ HU.out
  have G7 := hideY g7
  clear g7
  go_upto_region 10 with (first
    | (go_at_call 13; refine (CR.out _ K7.out.below).mono ?_; rintro e w8 ⟨a8, c8, vs8, rfl, i8, n8, v8, b8⟩; have I8 := hideY (And.intro i8 b8); clear i8 n8 v8 b8)
    | (refine wpList_copyT rfl (.tmp 41) (.tmp 43) rfl w2.heap.size g c3 n ts [bs, bs] ts.reverse HN.out.symm rfl (HO.out.2 _ ((I8.out.2.block g (Array.getElem?_eq_some_iff.1 G7.out.1).1).trans G7.out.1)) a8 c8 (by rw [List.length_reverse]; exact HN.out.symm) rfl I8.out.1 ?_; intro r9 w9 s9 k9; have S9 := hideY (And.intro s9 k9); clear s9 k9))
  obtain ⟨o9, p1, p2, p3⟩ := strs_block S9.out.1
  have K9 := hideY ((K7.out.later I8.out.2).turn (vs := [(g, o9)]) S9.out.2 (fun k hk => by rw [hk]; exact ⟨G7.out.2, HO.out.1⟩) (fun p hp => by obtain rfl := List.mem_singleton.1 hp; exact ⟨p1, G7.out.2⟩))
  have HO9 := hideY p3
  clear p1 p2 p3 S9 I8 G7 K7 HO HU
  go_upto_region 12 with (first
    | (go_at_call 13; refine (CR.out _ K9.out.below).mono ?_; rintro e w10 ⟨a10, c10, vs10, rfl, i10, n10, v10, b10⟩; have K10 := hideY (K9.out.more b10 v10); have Q10 := hideY (n10.more (vs := vs10 ++ [(g, o9)]) (fun p hp => List.mem_append_left _ hp)); clear i10 n10 v10 b10 K9)
    | (go_at_call 11; refine (list_len n ts.reverse (by rw [List.length_reverse]; exact HN.out.symm) _ _ _ _ K10.out (wnT_block HO9.out (by have := HN.out; simp; omega) (by simp)) Q10.out (by omega) (by have := HL.out.2; omega) (by have := L7.out; omega)).mono ?_; rintro e w11 ⟨rfl, lab11, es11, k11, l11⟩; have K11 := hideY k11; have L11 := hideY (show es11.length ≤ 6 by have := L7.out; omega); clear k11 l11 K10 L7)
    | (go_at_call 12; refine (K11.out.write (by omega) (by have := L11.out; omega)).mono ?_; rintro e w12 ⟨rfl, f12, lab12, es12, k12, l12⟩; have B12 := hideY k12.below; clear k12 l12 K11 L11))
  clear HO9
  obtain ⟨D, hD⟩ : ∃ D, D = (if allT ts then listL (ts.map tx) else []) := ⟨_, rfl⟩
  obtain ⟨er, her⟩ : ∃ er, er = (if allT ts then 0 else 91 : Int) := ⟨_, rfl⟩
  have CF : Hid (Calls Try.prog 14 #[.slice a n c] w12 (RefPost er D w12)) := by
    rw [hD, her, HN.out]
    exact refList_any a c ts w12 (HI.out.below B12.out) (by have := HL.out.1; omega)
  have HD := hideY (And.intro hD her)
  clear hD her
  go_upto_region 13 with (first
    | (go_at_call 14; refine CF.out.mono ?_; rintro e w13 ⟨a13, c13, rfl, n13, b13⟩; have N13 := hideY (And.intro n13.1 b13); clear n13 b13))
  clear CF
  cases hA : allT ts with
  | false =>
    obtain rfl : er = 91 := by rw [HD.out.2, hA]; rfl
    go_wp2_with fail
    go_ret
    exact ⟨rfl, B12.out.trans (N13.out.2.mono B12.out.size)⟩
  | true =>
    obtain rfl : er = 0 := by rw [HD.out.2, hA]; rfl
    have hD2 : D = listL (ts.map tx) := by rw [HD.out.1, hA]; rfl
    have hDl : D.length ≤ 1073741823 := by rw [hD2]; have := HL.out.1; omega
    have HDD := hideY hD2
    have HAA := hideY hA
    have CB : Hid (Calls Try.prog 15 #[.slice a13 D.length c13] w13 fun e w' => ∃ a9 c9, e = .returned (.tuple #[.slice a9 n c9, .int .i64 0]) ∧ IsStrs w' a9 c9 ts ∧ Below w13.heap.size w13 w') := by
      refine (readList_any a13 c13 D w13 N13.out.1 hDl).mono ?_
      rintro e w' ⟨v, er, us, rfl, hr, hs, hb⟩
      obtain ⟨rfl, rfl⟩ := readT_one hr (fun t ht => by have := HAA.out; unfold allT at this; exact List.all_eq_true.1 this t ht) HDD.out
      obtain ⟨a9, c9, rfl, hI⟩ := hs.is1 (by have := HN.out; omega)
      exact ⟨a9, c9, by rw [← HN.out], hI, hb⟩
    clear HDD HAA hA hD2 hDl HD
    go_upto_region 16 with (first
      | (go_at_call 15; refine CB.out.mono ?_; rintro e w14 ⟨a14, c14, rfl, i14, b14⟩; have I14 := hideY (And.intro i14 b14); clear i14 b14))
    clear CB
    have B14 := hideY ((B12.out.trans (N13.out.2.mono B12.out.size)).trans (I14.out.2.mono (Nat.le_trans B12.out.size N13.out.2.size)))
    have CT : Hid (Calls Try.prog 16 #[.slice a14 n c14, .slice a n c] w14 fun e w' => e = .returned (.bool true) ∧ ∃ m, w' = w14.drewN m) := by
      have := texts_any a14 a c14 c ts ts w14 I14.out.1 (HI.out.below B14.out)
      rw [← HN.out] at this
      refine hideY (this.mono fun e w' hw => ⟨?_, hw.2⟩)
      rw [hw.1, decide_eq_true rfl]
    clear N13 I14
    go_wp2_with (first
      | (go_at_call 16; refine CT.out.mono ?_; rintro e w15 ⟨rfl, m, rfl⟩))
    go_ret
    exact ⟨rfl, B14.out.trans ((below_drewM _ w14 m).mono B14.out.size)⟩
end Go.Proofs.Ytkiennmljnlpeaa.yamlList
