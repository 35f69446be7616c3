/-
  The walk of AnswersCut.
-/
import Derived.Test.YtnhcjajohbojmaaDoorCutKit2
import Derived.Test.YtnhcjajohbojmaaDoorShownA
import Derived.Test.YtnhcjajohbojmaaDoorInts
import Derived.Deep.RegionWith
import Derived.Deep.Cut
import Derived.Deep.CutRange
import Derived.Deep.CutBlock
namespace Go.Proofs.YtnhcjajohbojmaaDoor.answersCut
open Go.RowKit

theorem own_bytes {w : World} {B : Nat} {a : Option Addr} {n c : Nat} {l : List UInt8} (h : Own w B (.slice a n c) l) : IsBytes w a c l := by
  obtain ⟨a', c', e, h⟩ := h.shape
  cases e
  exact h
set_option maxHeartbeats 4000000 in
set_option maxRecDepth 1000000 in
theorem walk (a : Option Addr) (c : Nat) (b : List UInt8) (ca : Option Addr) (cc : Nat) (cuts : List Int) (early : Bool) (w : World) (hb : IsBytes w a c b) (hc : IsInts w ca cc cuts) (T : Tabs w ∧ 5 ≤ w.heap.size) (hbl : b.length ≤ 1048576) (hcl : cuts.length ≤ 1048576) :
    Calls Tryd.prog 6 #[.slice a b.length c, .slice ca cuts.length cc, .bool early] w fun e w' => e = .returned (.bool true) ∧ Below w.heap.size w w' := by
  have hcc := hb.1
  have hcm : c ≤ 9223372036854775807 := by have := hb.2.1; unfold maxLen at this; omega
  have HH : Hid (IsBytes w a c b ∧ IsInts w ca cc cuts ∧ Tabs w ∧ 5 ≤ w.heap.size) := ⟨hb, hc, T.1, T.2⟩
  clear hb hc T
  go_enter Tryd.func6, Tryd.ntmps6
  go_wp2_with fail
  refine (shown_any w HH.out.2.2.1 HH.out.2.2.2).mono ?_
  rintro e w1 ⟨rfl, B1⟩
  have H1 : Hid (Below w.heap.size w w1 ∧ 5 ≤ w1.heap.size) := ⟨B1, Nat.le_trans HH.out.2.2.2 B1.size⟩
  clear B1
  go_wp2_with fail
  refine (new_rd w1 H1.out.2).mono ?_
  rintro x w2 ⟨rfl, r2, B2⟩
  obtain ⟨wb, hwb⟩ : ∃ wb, wb = w1.heap.size := ⟨_, rfl⟩
  rw [← hwb] at r2 ⊢
  have H2 : Hid (RdAt w2 wb (.slice none 0 0) [] 0 ∧ Below w.heap.size w w2 ∧ w.heap.size ≤ wb ∧ 5 ≤ w2.heap.size) := ⟨r2, H1.out.1.trans (B2.mono H1.out.1.size), by rw [hwb]; exact H1.out.1.size, Nat.le_trans H1.out.2 B2.size⟩
  clear r2 B2 hwb
  go_wp2_with fail
  refine (new_rd w2 H2.out.2.2.2).mono ?_
  rintro x w3 ⟨rfl, r3, B3⟩
  obtain ⟨pb, hpb⟩ : ∃ pb, pb = w2.heap.size := ⟨_, rfl⟩
  rw [← hpb] at r3 ⊢
  have H3 : Hid (RdAt w3 wb (.slice none 0 0) [] 0 ∧ RdAt w3 pb (.slice none 0 0) [] 0 ∧ Below w.heap.size w w3 ∧ wb < pb ∧ w.heap.size ≤ wb) := ⟨H2.out.1.below B3, r3, H2.out.2.1.trans (B3.mono H2.out.2.1.size), by rw [hpb]; exact H2.out.1.lt (.inl rfl), H2.out.2.2.1⟩
  clear r3 B3 hpb
  go_wp2_with fail
  refine (feed_any w3 wb (.slice none 0 0) [] b 0 a c H3.out.1 (HH.out.1.below H3.out.2.2.1) (by simp; omega) (HH.out.2.2.1.below H3.out.2.2.1)).mono ?_
  rintro x w4 ⟨rfl, wv, r4, K4, m4⟩
  rw [List.nil_append] at r4
  obtain ⟨w5, hw5⟩ : ∃ w5, w5 = w4.alloc (.cells #[] 24) := ⟨_, rfl⟩
  obtain ⟨gb, hgb⟩ : ∃ gb, gb = w4.heap.size := ⟨_, rfl⟩
  have hmw : ∀ k, Mine wb (.slice none 0 0) k → k = wb := by
    rintro k (e | e)
    · exact e
    · cases e
  have hmp : ∀ k, Mine pb (.slice none 0 0) k → k = pb := by
    rintro k (e | e)
    · exact e
    · cases e
  have D5 : Hid (Desk w w5 wb wv b 0 pb (.slice none 0 0) [] 0 (.slice (some ⟨gb, 0, none⟩) 0 0) []) := by
    have hb4 : Below w.heap.size w w4 := H3.out.2.2.1.trans (K4.below H3.out.2.2.1.size (fun k hk e => by have := hmw k e; have := H3.out.2.2.2.2; omega))
    have hp4 : RdAt w4 pb (.slice none 0 0) [] 0 := H3.out.2.1.kept K4 (fun k hk e => by have h1 := hmp k hk; have h2 := hmw k e; have := H3.out.2.2.2.1; omega)
    have hb5 : Below w4.heap.size w4 w5 := by rw [hw5]; exact (Below.refl _ w4).alloc (Nat.le_refl _) _
    have hpl := H3.out.2.1.lt (.inl rfl)
    refine ⟨hb4.trans (hb5.mono hb4.size), r4.below hb5, hp4.below hb5, ?_, fun k hk e => ?_, (fun p hp => by cases hp), fun k hk => ?_⟩
    · rw [hw5, hgb]
      exact reps_nil w4 w.heap.size hb4.size
    · have h1 := hmp k e
      rcases m4 k hk with h | h
      · have := hmw k h
        have := H3.out.2.2.2.1
        omega
      · omega
    · have := H3.out.2.2.2
      have h3s := H3.out.2.2.1.size
      rcases hk with hk | hk
      · rcases m4 k hk with h | h
        · have := hmw k h
          omega
        · omega
      · have := hmp k hk
        omega
  clear r4 K4 m4
  go_upto_block 0 with fail
  rw [← hw5, ← hgb]
  clear hw5 hgb hmw hmp
  go_cut [9, 10, 11, 12, 13, 14, 15] from 40 to 88 (fun v at_ _ _ _ _ _ wx => ∃ (n gp : Nat) (pv : Value) (P : List (Rp × Value)), at_ = .int .i64 n ∧ n ≤ b.length ∧ Hid (Desk w wx wb wv b 0 pb pv (b.take n) gp v P ∧ Told b 0 (P.map (·.1)) gp))
  case first =>
    go_wp2_with fail
    go_loopg [9, 10, 11] cuts.length (fun gk v at_ i wr => ∃ (k n gp : Nat) (pv : Value) (P : List (Rp × Value)), at_ = .int .i64 n ∧ i = .int .i64 k ∧ k ≤ cuts.length ∧ cuts.length - k ≤ gk ∧ n ≤ b.length ∧ Hid (Desk w wr wb wv b 0 pb pv (b.take n) gp v P ∧ Told b 0 (P.map (·.1)) gp))
    case atStart => exact ⟨0, 0, 0, _, [], rfl, rfl, Nat.zero_le _, Nat.le_refl _, Nat.zero_le _, by rw [List.take_zero]; exact D5.out, rfl⟩
    case round =>
      obtain ⟨k, n, gp, pv, P, rfl, rfl, hk, hgk, hn, HI⟩ := hrel
      by_cases hp : k < cuts.length
      · have hpi : (k : Int) < (cuts.length : Int) := by omega
        by_cases hnb : n < b.length
        · have hni : (n : Int) < (b.length : Int) := by omega
          obtain ⟨x, hx⟩ : ∃ x, cuts[k]? = some x := ⟨_, List.getElem?_eq_getElem hp⟩
          obtain ⟨b1, o1, rfl, hcx⟩ := (HH.out.2.1.below HI.out.1.below).cell hx
          have hxb := HH.out.2.1.2.2.1 x (List.mem_of_getElem? hx)
          obtain ⟨m, hm, hmn⟩ : ∃ m : Nat, (if x < 0 ∨ (b.length : Int) - n < x then 0 else x) = (m : Int) ∧ n + m ≤ b.length := by
            by_cases h : x < 0 ∨ (b.length : Int) - n < x
            · exact ⟨0, by rw [if_pos h]; rfl, by omega⟩
            · exact ⟨x.toNat, by rw [if_neg h]; omega, by omega⟩
          go_upto_region 14 with fail
          go_cut [65] from 56 to 64 (fun y wx => y = .bool (decide (x < 0 ∨ (b.length : Int) - n < x)) ∧ wx = wr)
          case first =>
            by_cases h0 : x < 0
            · go_wp2_with fail
              go_meet
              exact ⟨by rw [decide_eq_true (Or.inl h0)], rfl⟩
            · by_cases h1 : (b.length : Int) - n < x
              · go_wp2_with fail
                go_meet
                exact ⟨by rw [decide_eq_true (Or.inr h1)], rfl⟩
              · go_wp2_with fail
                go_meet
                exact ⟨by rw [decide_eq_false (by omega)], rfl⟩
          case rest =>
            obtain ⟨rfl, rfl⟩ := hcut
            have HM : Hid ((if x < 0 ∨ (b.length : Int) - n < x then 0 else x) = (m : Int)) := hm
            clear hm
            generalize hq : decide (x < 0 ∨ (b.length : Int) - n < x) = q
            have HQ : Hid (decide (x < 0 ∨ (b.length : Int) - n < x) = q) := hq
            clear hq
            go_upto_if 65 with fail
            go_cut [12] from 66 to 66 (fun y wx => y = .int .i64 m ∧ wx = wc)
            case first =>
              cases q
              · go_wp2_with fail
                go_meet
                have := HM.out
                rw [if_neg (of_decide_eq_false HQ.out)] at this
                exact ⟨by rw [this], rfl⟩
              · go_wp2_with fail
                go_meet
                have := HM.out
                rw [if_pos (of_decide_eq_true HQ.out)] at this
                exact ⟨by rw [this], rfl⟩
            case rest =>
              obtain ⟨rfl, rfl⟩ := hcut
              go_upto_region 16 with fail
              have HS : Hid (∀ a' c', IsBytes wc a' c' ((b.drop n).take m) → Calls Tryd.prog 29 #[.pointer (some ⟨pb, 0, none⟩), .slice a' m c'] wc fun e w' => e = .returned (.tuple #[]) ∧ ∃ pv', Desk w w' wb wv b 0 pb pv' (b.take (n + m)) gp u9 P) := by
                intro a' c' hx'
                have := feedD HI.out.1 HH.out.2.2.1 ((b.drop n).take m) m (by simp; omega) a' c' hx' (by simp; omega)
                rw [take_to] at this
                exact this
              go_cut [73] from 66 to 72 (fun _ wx => ∃ pv', Hid (Desk w wx wb wv b 0 pb pv' (b.take (n + m)) gp u9 P))
              case first =>
                by_cases hcn : c = n
                · exfalso
                  omega
                · have hcb : (c == n) = false := by simpa using hcn
                  go_wp2_with fail
                  refine (HS.out _ _ (((HH.out.1.below HI.out.1.below).map n (by omega)).take m)).mono ?_
                  rintro e w' ⟨rfl, pv', D'⟩
                  have D' := hide D'
                  go_wp2_with fail
                  go_meet
                  exact ⟨pv', D'⟩
              case rest =>
                obtain ⟨pv', HD⟩ := hcut
                cases early
                · go_wp2_with fail
                  go_roundg (cuts.length - (k + 1))
                  case measure => omega
                  case rel => exact ⟨k + 1, n + m, gp, pv', P, by go_num, by go_num, by omega, Nat.le_refl _, hmn, HD.out, HI.out.2⟩
                · go_wp2_with fail
                  refine (next_any wc pb pv' (b.take (n + m)) gp HD.out.parts (by simp; omega) (HH.out.2.2.1.below HD.out.below)).mono ?_
                  rintro e w4 hN
                  rcases hN with ⟨hlt, ab, cb, rfl, ho, pv2, r2, K2, m2, ap2⟩ | ⟨hge, rfl, pv2, r2, K2, m2⟩
                  · have h0 := rd_next HD.out.parts hlt
                    have hrt := read_take h0
                    rw [← hrt] at h0 ho r2 ap2 ⊢
                    have HT := hide (Told.snoc _ _ _ HI.out.2 h0)
                    obtain ⟨r, hr⟩ : ∃ r, r = (readP (b.drop gp)).1 := ⟨_, rfl⟩
                    rw [← hr] at ho ap2 HT ⊢
                    have hlen := Told.len _ _ _ HI.out.2
                    have hgp := rd_le HD.out.parts
                    rw [List.length_map] at hlen
                    rw [List.length_take] at hgp
                    have D4 := hide (HD.out.part r2 K2 m2)
                    have HO : Hid (Own w4 w.heap.size (.slice ab r.body.length cb) r.body ∧ ∀ k, (Value.slice ab r.body.length cb).ownBlock = some k → ¬ Mine wb wv k ∧ ¬ Mine pb pv2 k) := by
                      have hs := HD.out.below.size
                      refine ⟨ho.mono hs, fun k hk => ⟨fun e => ?_, ap2 k hk⟩⟩
                      have h1 := ho.old k hk
                      have h2 := HD.out.whole.lt e
                      omega
                    clear ho r2 K2 m2 ap2 h0 hrt hlt hr
                    unfold rpV
                    obtain ⟨w5, hw5⟩ : ∃ w5, w5 = w4.alloc (.cells #[.int .i64 r.kind, .int .i64 r.id, .int .i64 r.num, .string ⟨r.tube.toArray⟩, .slice ab r.body.length cb] 24) := ⟨_, rfl⟩
                    obtain ⟨xb, hxb4⟩ : ∃ xb, xb = w4.heap.size := ⟨_, rfl⟩
                    have hbx : w5.heap[xb]? = some (.cells #[.int .i64 r.kind, .int .i64 r.id, .int .i64 r.num, .string ⟨r.tube.toArray⟩, .slice ab r.body.length cb] 24 (0, 0)) := by rw [hw5, hxb4]; exact heap_alloc_new _ _
                    have k0 : w5.cell? ⟨xb, 0, none⟩ = some (.int .i64 r.kind) := by simp [World.cell?, hbx]
                    have k1 : w5.cell? ⟨xb, 1, none⟩ = some (.int .i64 r.id) := by simp [World.cell?, hbx]
                    have k2 : w5.cell? ⟨xb, 2, none⟩ = some (.int .i64 r.num) := by simp [World.cell?, hbx]
                    have k3 : w5.cell? ⟨xb, 3, none⟩ = some (.string ⟨r.tube.toArray⟩) := by simp [World.cell?, hbx]
                    have k4 : w5.cell? ⟨xb, 4, none⟩ = some (.slice ab r.body.length cb) := by simp [World.cell?, hbx]
                    have B5 : Below w4.heap.size w4 w5 := by rw [hw5]; exact (Below.refl _ w4).alloc (Nat.le_refl _) _
                    have D5 := hide (D4.out.later B5)
                    have HO5 : Hid (Own w5 w.heap.size (.slice ab r.body.length cb) r.body) := HO.out.1.below B5
                    have HW5 := hide hw5
                    have HX4 := hide hxb4
                    clear hw5 hxb4 hbx B5
                    go_upto_region 21 with fail
                    rw [← HX4.out, ← HW5.out]
                    go_wp2_with (refine wpList_reps rfl (.tmp 85) (.tmp 87) rfl w5 w.heap.size D5.out.below.size u9 P (r, .slice ab r.body.length cb) [.int .i64 r.kind, .int .i64 r.id, .int .i64 r.num, .string ⟨r.tube.toArray⟩, .slice ab r.body.length cb] rfl D5.out.reps.row (by omega) rfl (by simp [Act.eval]) (by simp [Act.eval]) ?_; intro v6 w6 hown hgrow; have D6 := hide (D5.out.push (r, .slice ab r.body.length cb) HO5.out HO.out.2 hown hgrow); clear hown hgrow)
                    go_roundg (cuts.length - (k + 1))
                    case measure => omega
                    case rel => exact ⟨k + 1, n + m, _, pv2, P ++ [(r, .slice ab r.body.length cb)], by go_num, by go_num, by omega, Nat.le_refl _, hmn, D6.out, by rw [List.map_append]; exact HT.out⟩
                  · have D4 := hide (HD.out.part r2 K2 m2)
                    clear r2 K2 m2 hge
                    rw [show rpV rp0 (.slice none 0 0) = .agg #[.int .i64 0, .int .i64 0, .int .i64 0, .string ⟨#[]⟩, .slice none 0 0] from rfl]
                    generalize (if 0 < (scan (b.take (n + m))).2 then (82 : Int) else 0) = z
                    go_wp2_with fail
                    go_roundg (cuts.length - (k + 1))
                    case measure => omega
                    case rel => exact ⟨k + 1, n + m, gp, pv2, P, by go_num, by go_num, by omega, Nat.le_refl _, hmn, D4.out.later ((Below.refl _ w4).alloc (Nat.le_refl _) _), HI.out.2⟩
        · have hni : ¬ (n : Int) < (b.length : Int) := by omega
          go_wp2_with fail
          go_meet
          exact ⟨n, gp, pv, P, rfl, hn, HI⟩
      · have hpi : ¬ (k : Int) < (cuts.length : Int) := by omega
        go_wp2_with fail
        go_meet
        exact ⟨n, gp, pv, P, rfl, hn, HI⟩
  case rest =>
    obtain ⟨n, gp, pv, P, rfl, hn, HI⟩ := hcut
    go_upto_region 22 with fail
    have HS : Hid (∀ a' c', IsBytes wc a' c' (b.drop n) → Calls Tryd.prog 29 #[.pointer (some ⟨pb, 0, none⟩), .slice a' (b.length - n) c'] wc fun e w' => e = .returned (.tuple #[]) ∧ ∃ pv', Desk w w' wb wv b 0 pb pv' b gp u9 P) := by
      intro a' c' hx'
      have := feedD HI.out.1 HH.out.2.2.1 (b.drop n) (b.length - n) (by simp) a' c' hx' (by simp; omega)
      rw [List.take_append_drop] at this
      exact this
    have HTo := hide HI.out.2
    go_cut [93] from 89 to 92 (fun _ wx => ∃ pv', Hid (Desk w wx wb wv b 0 pb pv' b gp u9 P))
    case first =>
      go_wp2_with fail
      case inl =>
        have E0 : Hid (b.drop n = []) := List.drop_eq_nil_of_le (by omega)
        have HC := hide h
        clear h
        refine (HS.out _ _ (by rw [E0.out]; exact IsBytes.empty _ _ (Nat.zero_le _))).mono ?_
        rintro e w' ⟨rfl, pv', D'⟩
        have D' := hide D'
        go_wp2_with fail
        have h := HC.out
        subst h
        go_meet
        exact ⟨pv', D'⟩
      case inr =>
        refine (HS.out _ _ ((HH.out.1.below HI.out.1.below).map n (by omega))).mono ?_
        rintro e w' ⟨rfl, pv', D'⟩
        have D' := hide D'
        go_wp2_with fail
        go_meet
        exact ⟨pv', D'⟩
    case rest =>
      obtain ⟨pv', HD⟩ := hcut
      clear HS HI D5
      go_wp2_with fail
      go_loopg [16, 17, 18, 19, 20, 21, 22, 23, 24, 25] (b.length + 1) (fun gk back i _ _ _ _ _ _ _ _ wr => ∃ (k gw gp : Nat) (wv pv : Value), back = .int .i64 gw ∧ i = .int .i64 k ∧ gw ≤ b.length ∧ k ≤ gw ∧ b.length - gw + 1 ≤ gk ∧ Hid (Desk w wr wb wv b gw pb pv b gp u9 P ∧ Told b gw ((P.drop k).map (·.1)) gp))
      case atStart => exact ⟨0, 0, gp, wv, pv', rfl, rfl, Nat.zero_le _, Nat.le_refl _, Nat.le_refl _, HD.out, by rw [List.drop_zero]; exact HTo.out⟩
      case round =>
        obtain ⟨k, gw, gp, wv, pv, rfl, rfl, hgw, hkg, hgk, HI⟩ := hrel
        have hgp := rd_le HI.out.1.parts
        go_wp2_with fail
        refine (next_any wr wb wv b gw HI.out.1.whole (by omega) (HH.out.2.2.1.below HI.out.1.below)).mono ?_
        rintro e w6 hN
        rcases hN with ⟨hlt, ab, cb, rfl, ho, wv2, r2, K2, m2, ap2⟩ | ⟨hge, rfl, wv2, r2, K2, m2⟩
        · have h0 := rd_next HI.out.1.whole hlt
          have hput := read_put h0
          have hpos := good_pos h0
          have hD6 := HI.out.1.whol r2 K2 m2
          obtain ⟨r, hr⟩ : ∃ r, r = (readP (b.drop gw)).1 := ⟨_, rfl⟩
          obtain ⟨p, hp⟩ : ∃ p, p = (readP (b.drop gw)).2.1 := ⟨_, rfl⟩
          have HR : Hid (r = (readP (b.drop gw)).1 ∧ p = (readP (b.drop gw)).2.1 ∧ (readP (b.drop gw)).2.2 = 0) := ⟨hr, hp, h0⟩
          rw [← hr, ← hp] at hput hpos
          rw [← hp] at hD6
          rw [← hr] at ho ⊢
          have D6 := hide hD6
          have HO := hide ho
          have HF := hide (And.intro hput hpos.2.2)
          have hp0 := hpos.1
          have hpb : gw + p ≤ b.length := by have := hpos.2.1; rw [List.length_drop] at this; omega
          have HV : Hid (∃ av cv, u9 = .slice av P.length cv) := by
            rcases HI.out.1.reps.row.2 with ⟨e, h⟩ | ⟨g', cap, cur, e, _⟩
            · exact ⟨none, 0, by rw [e, h]⟩
            · exact ⟨_, _, e⟩
          obtain ⟨av, cv, rfl⟩ := HV.out
          clear r2 K2 m2 hlt h0 hr hp hput hpos hD6 ho ap2 HV
          unfold rpV
          go_upto_if 106 with fail
          obtain ⟨w8, hw8⟩ : ∃ w8, w8 = (w6.alloc (.cells #[.int .i64 r.kind, .int .i64 r.id, .int .i64 r.num, .string ⟨r.tube.toArray⟩, .slice ab r.body.length cb] 24)).alloc (.cells #[.int .i64 0, .int .i64 0, .int .i64 0, .string ⟨#[]⟩, .slice none 0 0] 24) := ⟨_, rfl⟩
          obtain ⟨xb, hxb⟩ : ∃ xb, xb = w6.heap.size := ⟨_, rfl⟩
          rw [← hw8, ← hxb]
          have hx8 : w8.heap[xb]? = some (.cells #[.int .i64 r.kind, .int .i64 r.id, .int .i64 r.num, .string ⟨r.tube.toArray⟩, .slice ab r.body.length cb] 24 (0, 0)) := by rw [hw8, hxb]; exact alloc_heap (heap_alloc_new _ _)
          have hy8 : w8.heap[xb + 1]? = some (.cells #[.int .i64 0, .int .i64 0, .int .i64 0, .string ⟨#[]⟩, .slice none 0 0] 24 (0, 0)) := by
            have := heap_alloc_new (w6.alloc (.cells #[.int .i64 r.kind, .int .i64 r.id, .int .i64 r.num, .string ⟨r.tube.toArray⟩, .slice ab r.body.length cb] 24)) (.cells #[.int .i64 0, .int .i64 0, .int .i64 0, .string ⟨#[]⟩, .slice none 0 0] 24)
            rw [← hw8, World.size_alloc, ← hxb] at this
            exact this
          have B8 : Below w6.heap.size w6 w8 := by rw [hw8]; exact ((Below.refl _ w6).alloc (Nat.le_refl _) _).alloc (by simp) _
          have D8 := hide (D6.out.later B8)
          have hnx := D6.out.lt (Nat.le_of_eq hxb.symm)
          have hny := D6.out.lt (y := xb + 1) (by omega)
          have hlo : w.heap.size ≤ xb + 1 := by have := D6.out.below.size; omega
          have HO8 : Hid (Own w8 wr.heap.size (.slice ab r.body.length cb) r.body ∧ ∀ k, (Value.slice ab r.body.length cb).ownBlock = some k → ¬ Mine pb pv k ∧ k ≠ xb + 1) := by
            refine ⟨HO.out.below B8, fun k hk => ⟨fun e => ?_, fun e => ?_⟩⟩
            · have h1 := HO.out.old k hk
              have h2 := HI.out.1.parts.lt e
              omega
            · have h1 := HO.out.old k hk
              omega
          have HN := hide (And.intro hnx hny)
          have HLO := hide hlo
          have HX8 := hide (And.intro hx8 hy8)
          have hly : xb + 1 < w8.heap.size := (Array.getElem?_eq_some_iff.1 hy8).1
          clear hw8 hxb B8 hx8 hy8 hnx hny hlo
          go_cut [22, 23] from 106 to 116 (fun is f wx => is = .bool true ∧ f = .int .i64 0 ∧ ∃ (pv3 : Value) (gp3 : Nat) (ay : Option Addr) (cy : Nat), Hid (Desk w wx wb wv2 b (gw + p) pb pv3 b gp3 (.slice av P.length cv) P ∧ Told b (gw + p) ((P.drop (k + 1)).map (·.1)) gp3 ∧ wx.heap[xb]? = some (.cells #[.int .i64 r.kind, .int .i64 r.id, .int .i64 r.num, .string ⟨r.tube.toArray⟩, .slice ab r.body.length cb] 24 (0, 0)) ∧ wx.heap[xb + 1]? = some (.cells #[.int .i64 r.kind, .int .i64 r.id, .int .i64 r.num, .string ⟨r.tube.toArray⟩, .slice ay r.body.length cy] 24 (0, 0)) ∧ IsBytes wx ab cb r.body ∧ IsBytes wx ay cy r.body))
          case first =>
            by_cases hk : k < P.length
            · have hki : (k : Int) < (P.length : Int) := by omega
              obtain ⟨q, hq⟩ : ∃ q, P[k]? = some q := ⟨_, List.getElem?_eq_getElem hk⟩
              have HT := hide (Told.head HI.out.2 hq)
              obtain ⟨q1, q2⟩ := q
              obtain rfl : r = q1 := HR.out.1.trans HT.out.2.1
              have hqm := List.mem_of_getElem? hq
              obtain ⟨ay, cy, hq2, hIy⟩ := (D8.out.reps.body _ hqm).shape
              simp only at hq2 hIy
              subst hq2
              obtain ⟨g, cap, e, hgB, hglt⟩ := D8.out.reps.row.form (by omega)
              obtain ⟨rfl, rfl⟩ : av = some ⟨g, 0, none⟩ ∧ cv = cap := by simpa using e
              have hc : ∀ j, j < 5 → w8.cell? ⟨g, k * 5 + j, none⟩ = (cellR (r, .slice ay r.body.length cy))[j]? := fun j hj => by
                rw [D8.out.reps.row.cellAt (k * 5 + j) (by omega)]
                exact flatR_get P k _ hq j hj
              have q0 : w8.cell? ⟨g, k * 5, none⟩ = some (.int .i64 r.kind) := hc 0 (by decide)
              have q1 : w8.cell? ⟨g, k * 5 + 1, none⟩ = some (.int .i64 r.id) := hc 1 (by decide)
              have q2 : w8.cell? ⟨g, k * 5 + 2, none⟩ = some (.int .i64 r.num) := hc 2 (by decide)
              have q3 : w8.cell? ⟨g, k * 5 + 3, none⟩ = some (.string ⟨r.tube.toArray⟩) := hc 3 (by decide)
              have q4 : w8.cell? ⟨g, k * 5 + 4, none⟩ = some (.slice ay r.body.length cy) := hc 4 (by decide)
              have hy8 := HX8.out.2
              have y0 : w8.cell? ⟨xb + 1, 0, none⟩ = some (.int .i64 0) := by simp [World.cell?, hy8]
              have y1 : w8.cell? ⟨xb + 1, 1, none⟩ = some (.int .i64 0) := by simp [World.cell?, hy8]
              have y2 : w8.cell? ⟨xb + 1, 2, none⟩ = some (.int .i64 0) := by simp [World.cell?, hy8]
              have y3 : w8.cell? ⟨xb + 1, 3, none⟩ = some (.string ⟨#[]⟩) := by simp [World.cell?, hy8]
              have y4 : w8.cell? ⟨xb + 1, 4, none⟩ = some (.slice none 0 0) := by simp [World.cell?, hy8]
              have f0 : w8.frozen? ⟨xb + 1, 0, none⟩ = false := by simp [World.frozen?, hy8]
              have f1 : w8.frozen? ⟨xb + 1, 1, none⟩ = false := by simp [World.frozen?, hy8]
              have f2 : w8.frozen? ⟨xb + 1, 2, none⟩ = false := by simp [World.frozen?, hy8]
              have f3 : w8.frozen? ⟨xb + 1, 3, none⟩ = false := by simp [World.frozen?, hy8]
              have f4 : w8.frozen? ⟨xb + 1, 4, none⟩ = false := by simp [World.frozen?, hy8]
              have HQ := hide (And.intro hqm hIy)
              clear hc e hy8 hqm hIy
              go_wp2_with fail
              go_meet
              have hS := setR5 (.int .i64 r.kind) (.int .i64 r.id) (.int .i64 r.num) (.string ⟨r.tube.toArray⟩) (.slice ay r.body.length cy) HX8.out.2
              refine ⟨rfl, rfl, pv, gp, ay, cy, D8.out.aside hS.2 HLO.out HN.out.2.1 HN.out.2.2.1 HN.out.2.2.2.1 HN.out.2.2.2.2, by rw [HR.out.2.1]; exact HT.out.2.2, (hS.2.block xb (by omega) (by omega)).trans HX8.out.1, hS.1, own_bytes (HO8.out.1.kept hS.2 (fun k hk e => (HO8.out.2 k hk).2 e)), own_bytes ((D8.out.reps.body _ HQ.out.1).kept hS.2 (fun k hk e => HN.out.2.2.2.2 _ HQ.out.1 (e ▸ hk)))⟩
            · have hki : ¬ (k : Int) < (P.length : Int) := by omega
              obtain rfl : gp = gw := Told.over HI.out.2 (by omega)
              go_wp2_with fail
              refine (next_any w8 pb pv b gp D8.out.parts (by omega) (HH.out.2.2.1.below D8.out.below)).mono ?_
              rintro e w9 hN
              rcases hN with ⟨hlt, ay, cy, rfl, ho9, pv3, r3, K3, m3, ap3⟩ | ⟨hge, _⟩
              · rw [← HR.out.1] at ho9 ap3 ⊢
                rw [← HR.out.2.1] at r3
                have D9 := hide (D8.out.part r3 K3 m3)
                have hx9 := (K3.block xb (by omega) HN.out.1.2.1).trans HX8.out.1
                have hy9 := (K3.block (xb + 1) hly HN.out.2.2.1).trans HX8.out.2
                have hpy : ¬ Mine pb pv3 (xb + 1) := fun e => by
                  rcases m3 _ e with e | e
                  · exact HN.out.2.2.1 e
                  · omega
                have HX9 := hide (And.intro hx9 (And.intro hy9 hpy))
                have HO9 := hide (And.intro (HO8.out.1.kept K3 (fun k hk => (HO8.out.2 k hk).1)) ho9)
                have y0 : w9.cell? ⟨xb + 1, 0, none⟩ = some (.int .i64 0) := by simp [World.cell?, hy9]
                have y1 : w9.cell? ⟨xb + 1, 1, none⟩ = some (.int .i64 0) := by simp [World.cell?, hy9]
                have y2 : w9.cell? ⟨xb + 1, 2, none⟩ = some (.int .i64 0) := by simp [World.cell?, hy9]
                have y3 : w9.cell? ⟨xb + 1, 3, none⟩ = some (.string ⟨#[]⟩) := by simp [World.cell?, hy9]
                have y4 : w9.cell? ⟨xb + 1, 4, none⟩ = some (.slice none 0 0) := by simp [World.cell?, hy9]
                have f0 : w9.frozen? ⟨xb + 1, 0, none⟩ = false := by simp [World.frozen?, hy9]
                have f1 : w9.frozen? ⟨xb + 1, 1, none⟩ = false := by simp [World.frozen?, hy9]
                have f2 : w9.frozen? ⟨xb + 1, 2, none⟩ = false := by simp [World.frozen?, hy9]
                have f3 : w9.frozen? ⟨xb + 1, 3, none⟩ = false := by simp [World.frozen?, hy9]
                have f4 : w9.frozen? ⟨xb + 1, 4, none⟩ = false := by simp [World.frozen?, hy9]
                have hly9 : xb + 1 < w9.heap.size := (Array.getElem?_eq_some_iff.1 hy9).1
                clear hx9 hy9 hpy r3 K3 m3 ap3 ho9 hlt
                unfold rpV
                go_wp2_with fail
                go_meet
                have hS := setR5 (.int .i64 r.kind) (.int .i64 r.id) (.int .i64 r.num) (.string ⟨r.tube.toArray⟩) (.slice ay r.body.length cy) HX9.out.2.1
                refine ⟨rfl, rfl, pv3, gp + p, ay, cy, D9.out.aside hS.2 HLO.out HN.out.2.1 HX9.out.2.2 HN.out.2.2.2.1 HN.out.2.2.2.2, by rw [List.drop_eq_nil_of_le (by omega)]; rfl, (hS.2.block xb (by omega) (by omega)).trans HX9.out.1, hS.1, own_bytes (HO9.out.1.kept hS.2 (fun k hk e => (HO8.out.2 k hk).2 e)), own_bytes (HO9.out.2.kept hS.2 (fun k hk e => by have := HO9.out.2.old k hk; omega))⟩
              · exact absurd HR.out.2.2 (at_end hge)
          case rest =>
            obtain ⟨rfl, rfl, pv3, gp3, ay, cy, HY⟩ := hcut
            have hxw := HY.out.2.2.1
            have hyw := HY.out.2.2.2.1
            have x0 : wc.cell? ⟨xb, 0, none⟩ = some (.int .i64 r.kind) := by simp [World.cell?, hxw]
            have x1 : wc.cell? ⟨xb, 1, none⟩ = some (.int .i64 r.id) := by simp [World.cell?, hxw]
            have x2 : wc.cell? ⟨xb, 2, none⟩ = some (.int .i64 r.num) := by simp [World.cell?, hxw]
            have x3 : wc.cell? ⟨xb, 3, none⟩ = some (.string ⟨r.tube.toArray⟩) := by simp [World.cell?, hxw]
            have x4 : wc.cell? ⟨xb, 4, none⟩ = some (.slice ab r.body.length cb) := by simp [World.cell?, hxw]
            have y0 : wc.cell? ⟨xb + 1, 0, none⟩ = some (.int .i64 r.kind) := by simp [World.cell?, hyw]
            have y1 : wc.cell? ⟨xb + 1, 1, none⟩ = some (.int .i64 r.id) := by simp [World.cell?, hyw]
            have y2 : wc.cell? ⟨xb + 1, 2, none⟩ = some (.int .i64 r.num) := by simp [World.cell?, hyw]
            have y3 : wc.cell? ⟨xb + 1, 3, none⟩ = some (.string ⟨r.tube.toArray⟩) := by simp [World.cell?, hyw]
            have y4 : wc.cell? ⟨xb + 1, 4, none⟩ = some (.slice ay r.body.length cy) := by simp [World.cell?, hyw]
            have SR := sameReply_any r r ab ay cb cy wc HY.out.2.2.2.2.1 HY.out.2.2.2.2.2
            rw [(alike_iff r r).2 rfl] at SR
            unfold rpV at SR
            have HSR := hide SR
            clear SR hxw hyw D8 D6 HX8 HN HO HO8 HLO hly
            go_wp2_with fail
            refine HSR.out.mono ?_
            rintro e w11 ⟨rfl, B11⟩
            have D11 := hide (HY.out.1.later B11)
            have hx11 := (B11.block xb (Array.getElem?_eq_some_iff.1 HY.out.2.2.1).1).trans HY.out.2.2.1
            have PA := put_any w11 r ab cb (HY.out.2.2.2.2.1.below B11) (HH.out.2.2.1.below D11.out.below)
            unfold rpV at PA
            have HPA := hide PA
            clear B11 PA HSR x0 x1 x2 x3 x4 y0 y1 y2 y3 y4
            have x0 : w11.cell? ⟨xb, 0, none⟩ = some (.int .i64 r.kind) := by simp [World.cell?, hx11]
            have x1 : w11.cell? ⟨xb, 1, none⟩ = some (.int .i64 r.id) := by simp [World.cell?, hx11]
            have x2 : w11.cell? ⟨xb, 2, none⟩ = some (.int .i64 r.num) := by simp [World.cell?, hx11]
            have x3 : w11.cell? ⟨xb, 3, none⟩ = some (.string ⟨r.tube.toArray⟩) := by simp [World.cell?, hx11]
            have x4 : w11.cell? ⟨xb, 4, none⟩ = some (.slice ab r.body.length cb) := by simp [World.cell?, hx11]
            clear hx11
            go_wp2_with fail
            refine HPA.out.mono ?_
            rintro e w12 ⟨B12, h12⟩
            rcases h12 with ⟨hne, _⟩ | ⟨_, v, rfl, hov⟩
            · exact absurd (checkE_ok ⟨(right_facts HF.out.1.2).1, (right_facts HF.out.1.2).2.1⟩ HF.out.1.2) hne
            obtain ⟨a13, c13, rfl, hI13, _⟩ := hov.is
            have D12 := hide (D11.out.later B12)
            have hcb : (c == gw) = false := by rw [beq_eq_false_iff_ne]; omega
            have hSA := same_any a13 (a.map fun x => x.add gw) c13 (c - gw) (putL r) ((b.drop gw).take p) w12 hI13 (((HH.out.1.below D12.out.below).map gw (by omega)).take p)
            rw [HF.out.2, decide_eq_true HF.out.1.1.symm, show ((b.drop gw).take p).length = p by simp; omega] at hSA
            have HSA := hide hSA
            rw [HF.out.2]
            have hpl : ¬ (b.length : Int) - gw < (p : Int) := by omega
            clear hSA B12 hov hI13 HPA x0 x1 x2 x3 x4
            go_wp2_with fail
            refine HSA.out.mono ?_
            rintro e w13 ⟨rfl, hq13⟩
            have D13 : Hid (Desk w w13 wb wv2 b (gw + p) pb pv3 b gp3 (.slice av P.length cv) P) := by
              obtain ⟨q13, e13⟩ := hq13
              rw [e13]
              exact D12.out.later (below_drewN (Below.refl _ w12) q13)
            clear hq13
            go_wp2_with fail
            go_roundg (b.length - (gw + p) + 1)
            case measure => omega
            case rel => exact ⟨k + 1, gw + p, gp3, wv2, pv3, by go_num, by go_num, hpb, by omega, Nat.le_refl _, D13.out, HY.out.2.1⟩
        · have D6 := hide (HI.out.1.whol r2 K2 m2)
          have HG := hide hge
          have hk : ¬ k < P.length := by
            intro hk
            exact at_end hge (Told.head HI.out.2 (List.getElem?_eq_getElem hk)).1
          obtain rfl : gp = gw := Told.over HI.out.2 (by omega)
          have hki : ¬ (k : Int) < (P.length : Int) := by omega
          have HV : Hid (∃ av cv, u9 = .slice av P.length cv) := by
            rcases HI.out.1.reps.row.2 with ⟨e, h⟩ | ⟨g', cap, cur, e, _⟩
            · exact ⟨none, 0, by rw [e, h]⟩
            · exact ⟨_, _, e⟩
          obtain ⟨av, cv, rfl⟩ := HV.out
          clear r2 K2 m2 hge HV
          rw [show rpV rp0 (.slice none 0 0) = .agg #[.int .i64 0, .int .i64 0, .int .i64 0, .string ⟨#[]⟩, .slice none 0 0] from rfl]
          generalize hz : (if 0 < (scan b).2 then (82 : Int) else 0) = z
          have HZ := hide hz
          clear hz
          go_wp2_with fail
          obtain ⟨w8, hw8⟩ : ∃ w8, w8 = (w6.alloc (.cells #[.int .i64 0, .int .i64 0, .int .i64 0, .string ⟨#[]⟩, .slice none 0 0] 24)).alloc (.cells #[.int .i64 0, .int .i64 0, .int .i64 0, .string ⟨#[]⟩, .slice none 0 0] 24) := ⟨_, rfl⟩
          obtain ⟨xb, hxb⟩ : ∃ xb, xb = w6.heap.size := ⟨_, rfl⟩
          rw [← hw8, ← hxb]
          have hx8 : w8.heap[xb]? = some (.cells #[.int .i64 0, .int .i64 0, .int .i64 0, .string ⟨#[]⟩, .slice none 0 0] 24 (0, 0)) := by rw [hw8, hxb]; exact alloc_heap (heap_alloc_new _ _)
          have hy8 : w8.heap[xb + 1]? = some (.cells #[.int .i64 0, .int .i64 0, .int .i64 0, .string ⟨#[]⟩, .slice none 0 0] 24 (0, 0)) := by
            have := heap_alloc_new (w6.alloc (.cells #[.int .i64 0, .int .i64 0, .int .i64 0, .string ⟨#[]⟩, .slice none 0 0] 24)) (.cells #[.int .i64 0, .int .i64 0, .int .i64 0, .string ⟨#[]⟩, .slice none 0 0] 24)
            rw [← hw8, World.size_alloc, ← hxb] at this
            exact this
          have B8 : Below w6.heap.size w6 w8 := by rw [hw8]; exact ((Below.refl _ w6).alloc (Nat.le_refl _) _).alloc (by simp) _
          have D8 := hide (D6.out.later B8)
          have hnx := D6.out.lt (Nat.le_of_eq hxb.symm)
          have hny := D6.out.lt (y := xb + 1) (by omega)
          have hlo : w.heap.size ≤ xb + 1 := by have := D6.out.below.size; omega
          have HN := hide (And.intro hnx hny)
          have HLO := hide hlo
          clear hlo
          have HX8 := hide (And.intro hx8 hy8)
          clear hw8 hxb B8 hx8 hy8 hnx hny
          refine (next_any w8 pb pv b gp D8.out.parts (by omega) (HH.out.2.2.1.below D8.out.below)).mono ?_
          rintro e w9 hN
          rcases hN with ⟨hlt, _⟩ | ⟨hge, rfl, pv3, r3, K3, m3⟩
          · have := HG.out
            omega
          have D9 := hide (D8.out.part r3 K3 m3)
          have hx9 := (K3.block xb (Array.getElem?_eq_some_iff.1 HX8.out.1).1 HN.out.1.2.1).trans HX8.out.1
          have hy9 := (K3.block (xb + 1) (Array.getElem?_eq_some_iff.1 HX8.out.2).1 HN.out.2.2.1).trans HX8.out.2
          have hpy : ¬ Mine pb pv3 (xb + 1) := fun e => by
            have h8 := (Array.getElem?_eq_some_iff.1 HX8.out.2).1
            rcases m3 _ e with e | e
            · exact HN.out.2.2.1 e
            · omega
          have HX9 := hide (And.intro hx9 (And.intro hy9 hpy))
          clear hge r3 K3 m3
          rw [show rpV rp0 (.slice none 0 0) = .agg #[.int .i64 0, .int .i64 0, .int .i64 0, .string ⟨#[]⟩, .slice none 0 0] from rfl, HZ.out]
          have y0 : w9.cell? ⟨xb + 1, 0, none⟩ = some (.int .i64 0) := by simp [World.cell?, hy9]
          have y1 : w9.cell? ⟨xb + 1, 1, none⟩ = some (.int .i64 0) := by simp [World.cell?, hy9]
          have y2 : w9.cell? ⟨xb + 1, 2, none⟩ = some (.int .i64 0) := by simp [World.cell?, hy9]
          have y3 : w9.cell? ⟨xb + 1, 3, none⟩ = some (.string ⟨#[]⟩) := by simp [World.cell?, hy9]
          have y4 : w9.cell? ⟨xb + 1, 4, none⟩ = some (.slice none 0 0) := by simp [World.cell?, hy9]
          have f0 : w9.frozen? ⟨xb + 1, 0, none⟩ = false := by simp [World.frozen?, hy9]
          have f1 : w9.frozen? ⟨xb + 1, 1, none⟩ = false := by simp [World.frozen?, hy9]
          have f2 : w9.frozen? ⟨xb + 1, 2, none⟩ = false := by simp [World.frozen?, hy9]
          have f3 : w9.frozen? ⟨xb + 1, 3, none⟩ = false := by simp [World.frozen?, hy9]
          have f4 : w9.frozen? ⟨xb + 1, 4, none⟩ = false := by simp [World.frozen?, hy9]
          have hly : xb + 1 < w9.heap.size := (Array.getElem?_eq_some_iff.1 hy9).1
          have hlx : xb < w9.heap.size := (Array.getElem?_eq_some_iff.1 hx9).1
          clear hx9 hy9 hpy
          go_upto_region 33 with fail
          obtain ⟨w10, hw10⟩ : ∃ w10, w10 = (((((w9.setCell ⟨xb + 1, 0, none⟩ (.int .i64 0)).setCell ⟨xb + 1, 1, none⟩ (.int .i64 0)).setCell ⟨xb + 1, 2, none⟩ (.int .i64 0)).setCell ⟨xb + 1, 3, none⟩ (.string ⟨#[]⟩)).setCell ⟨xb + 1, 4, none⟩ (.slice none 0 0)) := ⟨_, rfl⟩
          have hS := setR5 (.int .i64 0) (.int .i64 0) (.int .i64 0) (.string ⟨#[]⟩) (.slice none 0 0) HX9.out.2.1
          rw [← hw10] at hS ⊢
          have hx10 := (hS.2.block xb hlx (by omega)).trans HX9.out.1
          have D10 := hide (D9.out.aside hS.2 HLO.out HN.out.2.1 HX9.out.2.2 HN.out.2.2.2.1 HN.out.2.2.2.2)
          have hy10 := hS.1
          clear hS hw10 y0 y1 y2 y3 y4 f0 f1 f2 f3 f4 hly hlx
          have x0 : w10.cell? ⟨xb, 0, none⟩ = some (.int .i64 0) := by simp [World.cell?, hx10]
          have x1 : w10.cell? ⟨xb, 1, none⟩ = some (.int .i64 0) := by simp [World.cell?, hx10]
          have x2 : w10.cell? ⟨xb, 2, none⟩ = some (.int .i64 0) := by simp [World.cell?, hx10]
          have x3 : w10.cell? ⟨xb, 3, none⟩ = some (.string ⟨#[]⟩) := by simp [World.cell?, hx10]
          have x4 : w10.cell? ⟨xb, 4, none⟩ = some (.slice none 0 0) := by simp [World.cell?, hx10]
          have y0 : w10.cell? ⟨xb + 1, 0, none⟩ = some (.int .i64 0) := by simp [World.cell?, hy10]
          have y1 : w10.cell? ⟨xb + 1, 1, none⟩ = some (.int .i64 0) := by simp [World.cell?, hy10]
          have y2 : w10.cell? ⟨xb + 1, 2, none⟩ = some (.int .i64 0) := by simp [World.cell?, hy10]
          have y3 : w10.cell? ⟨xb + 1, 3, none⟩ = some (.string ⟨#[]⟩) := by simp [World.cell?, hy10]
          have y4 : w10.cell? ⟨xb + 1, 4, none⟩ = some (.slice none 0 0) := by simp [World.cell?, hy10]
          clear hx10 hy10
          have SR := hide (sameReply_any rp0 rp0 none none 0 0 w10 (IsBytes.empty _ _ (Nat.zero_le _)) (IsBytes.empty _ _ (Nat.zero_le _)))
          rw [(alike_iff rp0 rp0).2 rfl] at SR
          have hzb : (z == z) = true := by simp
          have hzn : (z != z) = false := by simp
          go_wp2_with fail
          refine SR.out.mono ?_
          rintro e w11 ⟨rfl, B11⟩
          have D11 := hide (D10.out.later B11)
          clear B11 x0 x1 x2 x3 x4 y0 y1 y2 y3 y4 SR hzb hzn
          obtain ⟨hd, hhd⟩ : ∃ hd, hd = heldN b gp := ⟨_, rfl⟩
          have CW : Hid (∀ X, Below w11.heap.size w11 X → Calls Tryd.prog 32 #[.pointer (some ⟨wb, 0, none⟩)] X fun x w' => x = .returned (.int .i64 (hd : Int)) ∧ Below w11.heap.size w11 w') := by
            intro X hX
            refine (held_rd X wb wv2 b gp (D11.out.whole.below hX) (by omega)).mono ?_
            rintro x w' ⟨rfl, q, rfl⟩
            exact ⟨by rw [hhd], below_drewN hX q⟩
          have CP : Hid (∀ X, Below w11.heap.size w11 X → Calls Tryd.prog 32 #[.pointer (some ⟨pb, 0, none⟩)] X fun x w' => x = .returned (.int .i64 (hd : Int)) ∧ Below w11.heap.size w11 w') := by
            intro X hX
            refine (held_rd X pb pv3 b gp (D11.out.parts.below hX) (by omega)).mono ?_
            rintro x w' ⟨rfl, q, rfl⟩
            exact ⟨by rw [hhd], below_drewN hX q⟩
          have hle := end_held HG.out
          rw [← hhd] at hle
          have hsl := scan_le b
          rw [← HG.out] at hsl
          have h5 : 5 ≤ w11.heap.size := by have := D11.out.below.size; have := HH.out.2.2.2; omega
          have CX : Hid (∀ X a' c', Below w11.heap.size w11 X → IsBytes X a' c' (b.drop gp) → Calls Tryd.prog 33 #[.slice a' (b.length - gp) c'] X fun e w' => e = .returned (.bool (decide (0 < (scan b).2))) ∧ Below w11.heap.size w11 w') := by
            intro X a' c' hX hB
            have e1 := end_wrong HG.out
            have := wrong_any a' c' (b.drop gp) X hB (by simp; omega) ((HH.out.2.2.1.below D11.out.below).below hX) (by have := hX.size; omega) (by rw [e1])
            rw [e1, List.length_drop] at this
            exact this.mono fun e w' h => ⟨h.1, hX.trans (h.2.mono hX.size)⟩
          clear hhd
          generalize (scan b).2 = sp at hle hsl HZ CX
          have hdl : (hd : Int) ≤ (b.length : Int) - gp := by
            split at hle <;> omega
          have hd0 : (0 : Int) ≤ (hd : Int) := by omega
          have BI : Hid (IsBytes w11 a c b) := HH.out.1.below D11.out.below
          have B11 := hide D11.out.below
          clear D11 D10 D9 D8 D6 HX8 HX9 HN HI HTo HD
          by_cases hsp : sp = 0
          · subst hsp
            have hz0 : z = 0 := HZ.out.symm
            subst hz0
            have hde : ((hd : Int) == (b.length : Int) - gp) = true := by
              rw [if_pos rfl] at hle
              rw [beq_iff_eq]
              omega
            clear hle HZ
            go_wp2_with fail
            refine (CW.out w11 (Below.refl _ _)).mono ?_
            rintro e w12 ⟨rfl, B12⟩
            have H12 := hide B12
            clear B12
            go_wp2_with fail
            refine (CP.out w12 H12.out).mono ?_
            rintro e w13 ⟨rfl, B13⟩
            have H13 := hide B13
            clear B13
            go_wp2_with fail
            refine (CW.out w13 H13.out).mono ?_
            rintro e w14 ⟨rfl, B14⟩
            have H14 := hide B14
            clear B14
            go_wp2_with fail
            refine (CW.out w14 H14.out).mono ?_
            rintro e w15 ⟨rfl, B15⟩
            have H15 := hide B15
            clear B15
            go_wp2_with fail
            refine (CW.out w15 H15.out).mono ?_
            rintro e w16 ⟨rfl, B16⟩
            have H16 := hide B16
            clear B16
            go_wp2_with fail
            case inl =>
              have E0 : Hid (b.drop gp = []) := List.drop_eq_nil_of_le (by omega)
              have HC := hide h
              clear h
              refine (CX.out w16 _ _ H16.out (by rw [E0.out]; exact IsBytes.empty _ _ (Nat.zero_le _))).mono ?_
              rintro e w17 ⟨he, B17⟩
              rw [show decide (0 < 0) = false from rfl] at he
              subst he
              have H17 := hide B17
              clear B17
              go_wp2_with fail
              go_ret
              exact ⟨rfl, B11.out.trans (H17.out.mono B11.out.size)⟩
            case inr =>
              refine (CX.out w16 _ _ H16.out ((BI.out.below H16.out).map gp (by omega))).mono ?_
              rintro e w17 ⟨he, B17⟩
              rw [show decide (0 < 0) = false from rfl] at he
              subst he
              have H17 := hide B17
              clear B17
              go_wp2_with fail
              go_ret
              exact ⟨rfl, B11.out.trans (H17.out.mono B11.out.size)⟩
          · have hsp' : 0 < sp := by omega
            have HP := hide (decide_eq_true hsp')
            have hz8 : z = 82 := by
              have := HZ.out
              rw [if_pos hsp'] at this
              exact this.symm
            subst hz8
            clear hle HZ hsp hsp' hsl
            by_cases hde0 : (hd : Int) = (b.length : Int) - gp
            · have hde : ((hd : Int) == (b.length : Int) - gp) = true := by rw [beq_iff_eq]; exact hde0
              clear hde0
              go_wp2_with fail
              refine (CW.out w11 (Below.refl _ _)).mono ?_
              rintro e w12 ⟨rfl, B12⟩
              have H12 := hide B12
              clear B12
              go_wp2_with fail
              refine (CP.out w12 H12.out).mono ?_
              rintro e w13 ⟨rfl, B13⟩
              have H13 := hide B13
              clear B13
              go_wp2_with fail
              refine (CW.out w13 H13.out).mono ?_
              rintro e w14 ⟨rfl, B14⟩
              have H14 := hide B14
              clear B14
              go_wp2_with fail
              refine (CW.out w14 H14.out).mono ?_
              rintro e w15 ⟨rfl, B15⟩
              have H15 := hide B15
              clear B15
              go_wp2_with fail
              refine (CW.out w15 H15.out).mono ?_
              rintro e w16 ⟨rfl, B16⟩
              have H16 := hide B16
              clear B16
              go_wp2_with fail
              case inl =>
                have E0 : Hid (b.drop gp = []) := List.drop_eq_nil_of_le (by omega)
                have HC := hide h
                clear h
                refine (CX.out w16 _ _ H16.out (by rw [E0.out]; exact IsBytes.empty _ _ (Nat.zero_le _))).mono ?_
                rintro e w17 ⟨he, B17⟩
                rw [HP.out] at he
                subst he
                have H17 := hide B17
                clear B17
                go_wp2_with fail
                go_ret
                exact ⟨rfl, B11.out.trans (H17.out.mono B11.out.size)⟩
              case inr =>
                refine (CX.out w16 _ _ H16.out ((BI.out.below H16.out).map gp (by omega))).mono ?_
                rintro e w17 ⟨he, B17⟩
                rw [HP.out] at he
                subst he
                have H17 := hide B17
                clear B17
                go_wp2_with fail
                go_ret
                exact ⟨rfl, B11.out.trans (H17.out.mono B11.out.size)⟩
            · have hde : ((hd : Int) == (b.length : Int) - gp) = false := by rw [beq_eq_false_iff_ne]; exact hde0
              go_wp2_with fail
              refine (CW.out w11 (Below.refl _ _)).mono ?_
              rintro e w12 ⟨rfl, B12⟩
              have H12 := hide B12
              clear B12
              go_wp2_with fail
              refine (CP.out w12 H12.out).mono ?_
              rintro e w13 ⟨rfl, B13⟩
              have H13 := hide B13
              clear B13
              go_wp2_with fail
              refine (CW.out w13 H13.out).mono ?_
              rintro e w14 ⟨rfl, B14⟩
              have H14 := hide B14
              clear B14
              go_wp2_with fail
              refine (CW.out w14 H14.out).mono ?_
              rintro e w15 ⟨rfl, B15⟩
              have H15 := hide B15
              clear B15
              go_wp2_with fail
              refine (CW.out w15 H15.out).mono ?_
              rintro e w16 ⟨rfl, B16⟩
              have H16 := hide B16
              clear B16
              go_wp2_with fail
              go_ret
              exact ⟨rfl, B11.out.trans (H16.out.mono B11.out.size)⟩
end Go.Proofs.YtnhcjajohbojmaaDoor.answersCut
