/-
  The walk of Held.
-/
import Derived.Test.YtonfdmbcbfpgdaaOvX
import Derived.Test.YtonfdmbcbfpgdaaOrX
namespace Go.Proofs.Ytonfdmbcbfpgdaa
open Go.RowKit
/-- What a connection holds. -/
def Hds (L : List En) (c : Int) (ids : List Int) : Prop :=
  ∃ E : List Jb, ids = E.map (·.id) ∧ (∀ j, j ∈ E ↔ (∃ e ∈ L, e.j = j) ∧ j.st = 3 ∧ j.ho = c) ∧ E.Pairwise (fun a b => a.du < b.du ∨ (a.du = b.du ∧ a.id < b.id))
theorem held_ks {j : Jb} {c : Int} : hkH c ∈ ksOf j ↔ j.st = 3 ∧ j.ho = c := by
  constructor
  · exact ks_held
  · rintro ⟨h1, rfl⟩
    unfold ksOf
    rw [if_neg (by omega), if_neg (by omega), if_pos h1]
    exact List.mem_cons_self ..
theorem hds_nil {L : List En} {c : Int} (h : ∀ e ∈ L, hkH c ∉ ksOf e.j) : Hds L c [] :=
  ⟨[], rfl, fun j => ⟨fun h => (by cases h), fun ⟨⟨e, he, hj⟩, h2⟩ => absurd (held_ks.2 (by rw [hj]; exact h2)) (h e he)⟩, List.Pairwise.nil⟩
theorem hds_of {L : List En} (hs : L.Pairwise (fun a b => a.j.id < b.j.id)) {c : Int} {R S : List (Int × Mk)} (hrow : ∀ r, r ∈ R ↔ RowE L (hkH c) r) (h : RankedM 1 R S) : Hds L c (S.map (fun r => r.2.id)) := by
  have key : ∀ r ∈ S, ∃ e ∈ L, e.j.mark = r.2 ∧ (e.j.st = 3 ∧ e.j.ho = c) ∧ lookD L r.2.id = e := fun r hr => by
    obtain ⟨e, he, hk, hm⟩ := ((hrow r).1 (h.perm.mem_iff.1 hr)).key
    refine ⟨e, he, hm.symm, held_ks.1 hk, ?_⟩
    unfold lookD
    rw [hm, show e.j.mark.id = e.j.id from rfl, lookE_at hs he]
    rfl
  have uni : ∀ r ∈ S, ∀ s ∈ S, r.2.id = s.2.id → r.1 = s.1 := fun r hr s hs' he => by
    obtain ⟨e1, h1, i1, g1, rfl⟩ := (hrow r).1 (h.perm.mem_iff.1 hr)
    obtain ⟨e2, h2, i2, g2, rfl⟩ := (hrow s).1 (h.perm.mem_iff.1 hs')
    have e3 : e1 = e2 := id_uniq hs e1 h1 e2 h2 he
    subst e3
    rw [ks_at_inj g1 g2]
  refine ⟨S.map (fun r => (lookD L r.2.id).j), ?_, fun j => ?_, ?_⟩
  · rw [List.map_map]
    refine List.map_congr_left (fun r hr => ?_)
    obtain ⟨e, he, h1, _, h3⟩ := key r hr
    show r.2.id = (lookD L r.2.id).j.id
    rw [h3, ← h1]
    rfl
  · rw [List.mem_map]
    constructor
    · rintro ⟨r, hr, rfl⟩
      obtain ⟨e, he, h1, h2, h3⟩ := key r hr
      rw [h3]
      exact ⟨⟨e, he, rfl⟩, h2⟩
    · rintro ⟨⟨e, he, rfl⟩, h2⟩
      obtain ⟨i, hi⟩ := List.mem_iff_getElem?.1 (held_ks.2 h2)
      have hr : (tkE e i, e.j.mark) ∈ S := h.perm.mem_iff.2 ((hrow _).2 ⟨e, he, i, hi, rfl⟩)
      refine ⟨_, hr, ?_⟩
      show (lookD L e.j.id).j = e.j
      unfold lookD
      rw [lookE_at hs he]
      rfl
  · rw [List.pairwise_map]
    refine h.sorted.imp_of_mem (fun {a b} ha hb hab => ?_)
    obtain ⟨e, he, h1, h2, h3⟩ := key a ha
    obtain ⟨e', he', h1', h2', h3'⟩ := key b hb
    rw [h3, h3']
    have hl := (rank_iff (rfl : ltK 1 = ltK 1) a b).1 hab
    unfold LtM at hl
    rw [key1, key1] at hl
    have hu := uni a ha b hb
    have d1 : e.j.du = a.2.due := congrArg Mk.due h1
    have d2 : e'.j.du = b.2.due := congrArg Mk.due h1'
    have i1 : e.j.id = a.2.id := congrArg Mk.id h1
    have i2 : e'.j.id = b.2.id := congrArg Mk.id h1'
    rw [d1, d2, i1, i2]
    by_cases e5 : a.2.id = b.2.id
    · have := hu e5
      omega
    · omega
/-- In the midst of the loop. -/
structure Hl (w : World) (S : List (Int × Mk)) (a3 : Option Addr) (k : Nat) (v : Value) (wr : World) : Prop where
  out : Nums wr w.heap.size v ((S.take k).map (fun r => r.2.id))
  bel : Below w.heap.size w wr
  tks : ∀ g, a3 = some ⟨g, 0, none⟩ → v.ownBlock ≠ some g ∧ g < wr.heap.size ∧ w.heap.size ≤ g ∧ ∀ (q : Nat) r, S[q]? = some r → wr.cell? ⟨g, q, none⟩ = some (.int .i64 r.1)
set_option maxHeartbeats 4000000 in
set_option maxRecDepth 1000000 in
theorem held_any (c : Int) (hc : I64 c) (w : World) (lab : Nat → HK) (yb : Nat) (Y : Yd) (N : Nat) (h : YAt w lab yb Y) (iv : Iv Y N) (hN : N ≤ 100000000) :
    Calls Try.prog 14 #[ptrV yb, .int .i64 c] w fun x w' => ∃ v, x = .returned v ∧ ∃ ids, Nums w' w.heap.size v ids ∧ Hds Y.L c ids ∧ Below w.heap.size w w' := by
  obtain ⟨d, r, hd, hr⟩ := h.two
  have y2 := (h.cells hd hr).2.2.1
  have ylt := h.yb_lt
  have TH : Hid (VTabI w Y.hm Y.nh (fun n => (Y.hp (hkH n)).map (fun h => ptrV h.hb))) := h.hels
  cases hx : Y.hp (hkH c) with
  | none =>
    have HX : Hid (Y.hp (hkH c) = none) := hx
    have HD : Hid (Hds Y.L c []) := hds_nil (fun e he hk => by
      have := iv.lk.has e he _ hk
      rw [hx] at this
      cases this)
    clear hx h iv hd hr
    go_enter Try.func14, Try.ntmps14
    go_wp2_with (first
      | (refine wpList_vlookI rfl (.tmp 16) (.tmp 17) 56 57 Try.underlying56 (zero_hptr _) rfl Y.hm Y.nh (fun n => (Y.hp (hkH n)).map (fun h => ptrV h.hb)) c rfl rfl TH.out hc ?_; simp only [HX.out, Option.map_none, Option.getD_none, Option.isSome_none]))
    go_ret
    exact ⟨_, rfl, [], World.ownsRow_nil _ _ _ 1, HD.out, Below.refl _ _⟩
  | some x =>
    have HX : Hid (Y.hp (hkH c) = some x) := hx
    have hat := (h.heap _ _ hx).2.at_
    have hrow := iv.lk.row _ _ hx
    have hf := iv.inv.few.heap _ _ hx
    have h1 : HeapAtM w x.hb x.v x.mb bfF 1 x.last x.R := hat
    obtain ⟨n, hn⟩ : ∃ n, n = x.R.length := ⟨_, rfl⟩
    have hnl : n ≤ 100000000 := by omega
    have on : Once x.R := h1.once
    have HR : Hid (HeapAtM w x.hb x.v x.mb bfF 1 x.last x.R ∧ (∀ r, r ∈ x.R ↔ RowE Y.L (hkH c) r) ∧ Once x.R ∧ n = x.R.length ∧ Y.L.Pairwise (fun a b => a.j.id < b.j.id)) := ⟨h1, hrow, on, hn, iv.inv.rise⟩
    have CL : Hid (∀ W, Below w.heap.size w W → Calls Try.prog 28 #[ptrV x.hb] W fun e w' => e = .returned (.int .i64 (n : Int)) ∧ w' = W) := fun W hW => by
      rw [hn]
      exact lenM W x.hb x.mb x.v bfF 1 x.last x.R (h1.kept (Kept.ofBelow (P := fun _ => False) hW) (fun _ _ h => h))
    have CO : Hid (∀ W, Below w.heap.size w W → Calls Try.prog 29 #[ptrV x.hb] W fun e w' => ∃ v' S, e = .returned v' ∧ RankedM 1 x.R S ∧ Nums w' W.heap.size v' (S.map (·.1)) ∧ Below W.heap.size W w') := fun W hW =>
      orderM 1 W x.hb x.mb x.v x.last x.R (h1.kept (Kept.ofBelow (P := fun _ => False) hW) (fun _ _ h => h)) (by omega)
    obtain ⟨i1, hi1, hz0, hz1, hz2⟩ := info_parts info_int
    clear hx h iv hd hr hat hrow hf h1 on hn
    go_enter Try.func14, Try.ntmps14
    go_upto_region 4 with (first
      | (refine wpList_vlookI rfl (.tmp 16) (.tmp 17) 56 57 Try.underlying56 (zero_hptr _) rfl Y.hm Y.nh (fun n => (Y.hp (hkH n)).map (fun h => ptrV h.hb)) c rfl rfl TH.out hc ?_; simp only [HX.out, Option.map_some, Option.getD_some, Option.isSome_some]))
    go_upto_region 5 with (first
      | (go_at_call 28; refine (CL.out w (Below.refl _ w)).mono ?_; rintro e w1 ⟨rfl, hw⟩; rw [hw]; clear hw w1)
      | (at_make; refine wpList_make_own _ rfl (.const (.int .i64 0)) (.tmp 24) 32 rfl w.heap.size 3 i1 _ 1 Try.underlying32 hi1 hz0 hz1 .i64 .i64 (n : Int) n rfl rfl rfl (by rw [hz2]; omega) (by unfold maxLen; omega) (Nat.le_refl _) ?_; intro w2 o2 g2; have H2 : Hid (w2.ownsRow w.heap.size 3 1 (.slice (some ⟨w.heap.size, 0, none⟩) 0 n) 0 [] ∧ w.grownBy w2 none) := ⟨o2, g2⟩; clear o2 g2))
    have b2 : Below w.heap.size w w2 := ⟨H2.out.2.os, H2.out.2.tape, H2.out.2.output, H2.out.2.size, fun k hk => H2.out.2.block k hk (by simp)⟩
    have B2 : Hid (Below w.heap.size w w2) := b2
    have CO2 := CO.out w2 b2
    clear b2 CL CO
    have HCO : Hid (Calls Try.prog 29 #[ptrV x.hb] w2 fun e w' => ∃ v' S, e = .returned v' ∧ RankedM 1 x.R S ∧ Nums w' w2.heap.size v' (S.map (·.1)) ∧ Below w2.heap.size w2 w') := CO2
    clear CO2
    go_upto_region 5 with fail
    go_wp2_with fail
    refine HCO.out.mono ?_
    rintro e w3 ⟨v3, S, rfl, hS, o3, b3⟩
    obtain ⟨a3, c3, rfl⟩ := Nums.form o3
    have hSn : (S.map (·.1)).length = n := by rw [List.length_map, hS.perm.length_eq, HR.out.2.2.2.1]
    have HS : Hid (RankedM 1 x.R S ∧ S.length = n) := ⟨hS, by rw [← hSn, List.length_map]⟩
    have HO3 : Hid (Nums w3 w2.heap.size (.slice a3 (S.map (·.1)).length c3) (S.map (·.1))) := o3
    rw [hSn]
    have HA : Hid (0 < n → ∃ g, a3 = some ⟨g, 0, none⟩) := fun h0 => by
      rcases HO3.out.2 with ⟨_, hz⟩ | ⟨g, cap, cur, hv, _⟩
      · omega
      · simp only [Value.slice.injEq] at hv
        exact ⟨g, hv.1⟩
    have HL0 : Hid (Hl w S a3 0 (.slice (some ⟨w.heap.size, 0, none⟩) 0 n) w3) := by
      have s2 := B2.out.size
      have g2lt := (World.ownsRow.lt H2.out.1 w.heap.size rfl).2
      refine ⟨row_below H2.out.1 b3, B2.out.trans (b3.mono s2), fun g hg => ?_⟩
      subst hg
      obtain ⟨cur, hcur, hge⟩ := Nums.block (g := g) HO3.out rfl
      refine ⟨fun e => ?_, (Array.getElem?_eq_some_iff.1 hcur).1, by omega, fun q r hq => ?_⟩
      · have e : w.heap.size = g := Option.some.inj e
        omega
      · obtain ⟨g', e1, e2⟩ := Nums.cell HO3.out (i := q) (x := r.1) (by rw [List.getElem?_map, hq]; rfl)
        cases e1
        exact e2
    clear hS o3 b3 hSn HO3 H2 HCO
    go_wp2_with fail
    go_loopw [7, 29] (fun v i wr => ∃ k : Nat, i = .int .i64 k ∧ k ≤ n ∧ Hid (Hl w S a3 k v wr)) (fun _ i _ => n - (intOf i).toNat)
    case atStart => exact ⟨0, rfl, Nat.zero_le _, HL0⟩
    case round =>
      obtain ⟨k, rfl, hk, HJ⟩ := hrel
      clear HL0
      by_cases hlt : k < n
      · have hltI : (k : Int) < (n : Int) := by omega
        have hk0 : (0 : Int) ≤ (k : Int) := by omega
        obtain ⟨g, rfl⟩ := HA.out (by omega)
        obtain ⟨r, hr⟩ : ∃ r, S[k]? = some r := ⟨_, List.getElem?_eq_getElem (by rw [HS.out.2]; exact hlt)⟩
        obtain ⟨t1, t2, t3, t4⟩ := HJ.out.tks g rfl
        have ck := t4 k r hr
        have hrR : r ∈ x.R := HS.out.1.perm.mem_iff.1 (List.mem_of_getElem? hr)
        have hfit : (Lit.int .i64 r.1).wf = true := HR.out.1.fit r hrR
        have hget : getOfM x.R r.1 = .tuple #[valM r.2, .bool true] := by
          unfold getOfM
          cases hf : x.R.find? (fun s => s.1 = r.1) with
          | none =>
            rw [List.find?_eq_none] at hf
            exact absurd (by simp) (hf r hrR)
          | some s =>
            have h5 := List.mem_of_find?_eq_some hf
            have h6 := List.find?_some hf
            rw [HR.out.2.2.1.same h5 hrR (by simpa using h6)]
        obtain ⟨C, hC⟩ : ∃ C, C = (cells4 r.2).toArray := ⟨_, rfl⟩
        have CG : Hid (Calls Try.prog 30 #[ptrV x.hb, .int .i64 r.1] wr fun e w' => e = .returned (.tuple #[.agg C, .bool true]) ∧ Below wr.heap.size wr w') := by
          have := getM wr x.hb x.mb x.v bfF 1 x.last x.R r.1 (HR.out.1.kept (Kept.ofBelow (P := fun _ => False) HJ.out.bel) (fun _ _ h => h)) hfit
          rw [hget] at this
          rw [hC]
          exact this
        have HSZ : Hid ((Try.prog.info? 76).map (·.size) = some C.size ∧ (4 : Nat) = C.size ∧ C.all (·.oneCell') = true) := by rw [hC]; exact ⟨mark_row, rfl, mark_one _⟩
        have HX2 : Hid (S[k]? = some r ∧ C = (cells4 r.2).toArray) := ⟨hr, hC⟩
        have hkl : ((S.take k).map (fun r => r.2.id)).length = k := by rw [List.length_map, List.length_take]; have := HS.out.2; omega
        have OU : Hid (wr.ownsRow w.heap.size 3 1 u7 k (ints ((S.take k).map (fun r => r.2.id)))) := by
          have := HJ.out.out
          unfold Nums at this
          rw [hkl] at this
          exact this
        clear hr t1 t3 t4 hrR hfit hget hC hkl
        go_upto_region 9 with (first
          | (go_at_call 30; refine CG.out.mono ?_; rintro e w4 ⟨rfl, b4⟩; have B4 : Hid (Below wr.heap.size wr w4) := b4; clear b4; obtain ⟨w5, hw5⟩ : ∃ w5, w5 = w4.alloc (.cells C 76) := ⟨_, rfl⟩; obtain ⟨xb, hxb⟩ : ∃ xb, xb = w4.heap.size := ⟨_, rfl⟩; have HW5 : Hid (w4.alloc (.cells C 76) = w5 ∧ w4.heap.size = xb) := ⟨hw5.symm, hxb.symm⟩; clear hw5 hxb)
          | (refine wpList_store_new rfl 76 (.tmp 10) (.tmp 37) rfl C rfl rfl 76 _ HSZ.out.1 HSZ.out.2.1 HSZ.out.2.2 ?_; rw [HW5.out.1, HW5.out.2]; simp only [Act.put]))
        have b5 : Below wr.heap.size wr w5 := by rw [← HW5.out.1]; exact B4.out.alloc B4.out.size _
        have x5 : w5.heap[xb]? = some (.cells C 76 (0, 0)) := by rw [← HW5.out.1, ← HW5.out.2]; exact heap_alloc_new w4 _
        have x50 : w5.cell? ⟨xb, 0, none⟩ = some (.int .i64 r.2.id) := by simp [World.cell?, x5, HX2.out.2, cells4]
        have xl5 : xb < w5.heap.size := (Array.getElem?_eq_some_iff.1 x5).1
        have B5 : Hid (Below wr.heap.size wr w5) := b5
        have OU5 : Hid (w5.ownsRow w.heap.size 3 1 u7 k (ints ((S.take k).map (fun r => r.2.id)))) := row_below OU.out b5
        have wl5 : Hid (w.heap.size ≤ w5.heap.size) := Nat.le_trans HJ.out.bel.size b5.size
        clear b5 x5
        go_upto_region 10 with (first
          | (refine wpList_made rfl (run_buildI (n := r.2.id) rfl rfl) ?_)
          | (at_builtin; refine wpList_appendG rfl (.tmp 39) (.tmp 42) 32 3 1 i1 _ Try.underlying32 hi1 hz0 hz1 rfl (by rw [hz2]; omega) rfl w.heap.size u7 k (ints ((S.take k).map (fun r => r.2.id))) [.int .i64 r.2.id] rfl w5.heap.size rfl rfl (by simp [Value.oneCell']) (row_below OU5.out ((Below.refl _ w5).alloc (Nat.le_refl _) _)) (heap_alloc_new w5 _) (by omega) (by have := wl5.out; simp; omega) ?_; intro v6 w6 o6 g6 l6))
        have st : Hl w S (some ⟨g, 0, none⟩) (k + 1) v6 w6 := by
          have ba := (Below.refl _ w5).alloc (Nat.le_refl _) (.cells #[.int .i64 r.2.id] 3)
          have q1 : Below wr.heap.size wr (w5.alloc (.cells #[.int .i64 r.2.id] 3)) := B5.out.trans (ba.mono B5.out.size)
          have q2 := HJ.out.bel.size
          have q3 := q1.size
          obtain ⟨t1, t2, t3, t4⟩ := HJ.out.tks g rfl
          refine ⟨?_, (HJ.out.bel.trans (q1.mono q2)).grown g6 (by omega) (fun g' hg' => (World.ownsRow.lt OU.out g' hg').1), fun g' hg' => ?_⟩
          · rw [List.take_add_one, HX2.out.1, Option.toList_some, List.map_append]
            show w6.ownsRow _ _ _ _ _ _
            rw [show (List.map (fun r => r.2.id) (List.take k S) ++ List.map (fun r => r.2.id) [r]).length = k + 1 by rw [List.length_append, List.length_map, List.length_take]; have := HS.out.2; simp; omega]
            show w6.ownsRow _ _ _ _ _ (ints (List.map (fun r => r.2.id) (List.take k S) ++ [r.2.id]))
            rw [ints_append]
            exact o6
          · cases hg'
            refine ⟨fun h => ?_, by have := g6.size; omega, t3, fun q r' hq => ?_⟩
            · rcases l6 with h5 | h5
              · rw [h5] at h; exact t1 h
              · rw [h5] at h
                have h : (w5.alloc (.cells #[.int .i64 r.2.id] 3)).heap.size = g := Option.some.inj h
                omega
            · have c2 := (q1.cell (p := ⟨g, q, none⟩) t2).trans (t4 q r' hq)
              exact (World.cell?_of_block (g6.block g (by omega) (fun h => t1 h.symm))).trans c2
        have ST : Hid (Hl w S (some ⟨g, 0, none⟩) (k + 1) v6 w6) := st
        clear st o6 g6 l6
        go_wp2_with fail
        exact ⟨⟨k + 1, by go_num, by omega, ST⟩, by simp [intOf]; omega⟩
      · have hltI : ¬ (k : Int) < (n : Int) := by omega
        obtain rfl : k = n := by omega
        have HD : Hid (Hds Y.L c (S.map (fun r => r.2.id))) := hds_of HR.out.2.2.2.2 HR.out.2.1 HS.out.1
        have OO : Hid (Nums wr w.heap.size u7 (S.map (fun r => r.2.id))) := by
          have := HJ.out.out
          rw [List.take_of_length_le (by rw [HS.out.2]; omega)] at this
          exact this
        have BB : Hid (Below w.heap.size w wr) := HJ.out.bel
        go_wp2_with fail
        go_ret
        exact ⟨_, rfl, _, OO.out, HD.out, BB.out⟩
end Go.Proofs.Ytonfdmbcbfpgdaa
