/-
  The walk of feeds.
-/
import Derived.Test.YtomgnailgddchaaDoorRkA
import Derived.Test.YtomgnailgddchaaDoorXLent
namespace Go.Proofs.YtomgnailgddchaaDoor
open Go.RowKit Go.Sort

theorem below_qq (w : World) (n : Nat) : Below w.heap.size w (w.drewN n) := below_drewN (Below.refl _ _) _
def PairB (w : World) (b : Nat) (p : Pq) : Prop := w.heap[b]? = some (.cells #[.pointer (some ⟨p.rb, 0, none⟩), .pointer (some ⟨p.db, 0, none⟩)] 30 (0, 0))
theorem PairB.cell {w : World} {b : Nat} {p : Pq} (h : PairB w b p) : w.cell? ⟨b, 0, none⟩ = some (.pointer (some ⟨p.rb, 0, none⟩)) ∧ w.cell? ⟨b, 1, none⟩ = some (.pointer (some ⟨p.db, 0, none⟩)) ∧ b < w.heap.size := ⟨cells_at h rfl, cells_at h rfl, (Array.getElem?_eq_some_iff.1 h).1⟩
theorem PairB.below {w w' : World} {b : Nat} {p : Pq} (h : PairB w b p) (hb : Below w.heap.size w w') : PairB w' b p := (hb.block b (Array.getElem?_eq_some_iff.1 h).1).trans h
theorem PairB.kept {w w' : World} {b : Nat} {p : Pq} {R : Nat → Prop} (h : PairB w b p) (hk : Kept R w w') (hb : ¬ R b) : PairB w' b p := (hk.block b (Array.getElem?_eq_some_iff.1 h).1 hb).trans h
theorem IsBytes.kept8 {w w' : World} {a : Option Addr} {c : Nat} {l : List UInt8} {R : Nat → Prop} (h : IsBytes w a c l) (hk : Kept R w w') (hR : ∀ q o, a = some ⟨q, o, none⟩ → ¬ R q) : IsBytes w' a c l := by
  obtain ⟨h1, h2, h3⟩ := h
  refine ⟨h1, h2, h3.imp id ?_⟩
  rintro ⟨q, o, rfl, hq, hc⟩
  exact ⟨q, o, rfl, Nat.lt_of_lt_of_le hq hk.size, fun j x hj => (World.cell?_of_block (hk.block q hq (hR q o rfl))).trans (hc j x hj)⟩
theorem Pq.Ok.heldR {w0 w : World} {p : Pq} (h : p.Ok w0 w) (hA : p.A.length ≤ 1073741824) : Calls Tryd.prog 19 #[.pointer (some ⟨p.rb, 0, none⟩)] w fun e w' => e = .returned (.int .i64 (p.d.cnt : Int)) ∧ ∃ q, w' = w.drewN q := by
  have := held_rd w p.rb p.v p.A p.g h.r (by omega)
  rw [h.rel.held] at this
  exact this
theorem Pq.Ok.heldD {w0 w : World} {p : Pq} (h : p.Ok w0 w) : Calls Tryd.prog 23 #[.pointer (some ⟨p.db, 0, none⟩)] w fun e w' => e = .returned (.int .i64 (p.d.cnt : Int)) ∧ w' = w := refHeld8_any w p.db p.vl p.vn p.vb p.P p.d h.c

set_option maxHeartbeats 8000000 in
set_option maxRecDepth 1000000 in
theorem feeds_any (w0 W : World) (lab : Nat → Tag) (Hb : Nat) (es : List Ent) (P Q : Pq) (i1 i2 : Nat) (h : BS w0 W lab Hb es P Q i1 i2) (hT : Tabs w0) (a : Option Addr) (c : Nat) (b : List UInt8) (hx : IsBytes w0 a c b) (hA : P.A.length + b.length ≤ 1073741823) :
    Calls Tryd.prog 8 #[.agg #[.pointer (some ⟨P.rb, 0, none⟩), .pointer (some ⟨P.db, 0, none⟩)], .slice a b.length c] W fun e w' => e = .returned (.bool true) ∧ ∃ lab' P', BS w0 w' lab' Hb es P' Q i1 i2 ∧ Mv lab W lab' w' ∧ P'.rb = P.rb ∧ P'.db = P.db ∧ P'.A = P.A ++ b := by
  have HB := hide h
  have HX := hide hx
  have HT := hide hT
  have hq0 : Hid (∀ q o, a = some ⟨q, o, none⟩ → b ≠ [] → q < w0.heap.size) := by
    intro q o e hne
    rcases hx.2.2 with h0 | ⟨q2, o2, e2, hq, _⟩
    · exact absurd h0 hne
    · rw [e] at e2
      cases e2
      exact hq
  clear h hx hT
  go_enter Tryd.func8, Tryd.ntmps8
  go_upto_region 1 with fail
  obtain ⟨W1, hW1⟩ : ∃ W1, W1 = W.alloc (.cells #[.pointer (some ⟨P.rb, 0, none⟩), .pointer (some ⟨P.db, 0, none⟩)] 30) := ⟨_, rfl⟩
  obtain ⟨B3, hB3⟩ : ∃ B3, B3 = W.heap.size := ⟨_, rfl⟩
  rw [← hW1, ← hB3]
  have B1 : Hid (Below W.heap.size W W1) := by rw [hW1]; exact (Below.refl _ W).alloc (Nat.le_refl _) _
  have X1 : Hid (PairB W1 B3 P) := by rw [hW1, hB3]; exact heap_alloc_new _ _
  have HB3 : Hid (B3 = W.heap.size) := hB3
  clear hW1 hB3
  have CL := hide (lent_any a c b W1 ((HX.out.below HB.out.bel).below B1.out) (by omega))
  go_wp2_with fail
  refine CL.out.mono ?_
  rintro e w2 ⟨g, cap, rfl, o2, b2⟩
  have O2 := hide o2
  have B2 := hide (B1.out.trans (b2.mono B1.out.size))
  have X2 := X1.out.below b2
  have HX2 := hide X2
  obtain ⟨i2', l2⟩ := o2.is
  have I2 := hide i2'
  have hcap : b.length ≤ cap := by
    have := i2'.1
    rw [l2] at this
    omega
  have hcap2 : cap ≤ maxLen := i2'.2.1
  have hgW : W.heap.size ≤ g := Nat.le_trans B1.out.size (o2.lt g rfl).1
  have HGW := hide hgW
  have HBE : Hid (B3 < W1.heap.size) := X1.out.cell.2.2
  have CF : Hid (∀ X, Below w2.heap.size w2 X → Calls Tryd.prog 17 #[.pointer (some ⟨P.rb, 0, none⟩), .slice (some ⟨g, 0, none⟩) b.length cap] X fun e w' => e = .returned (.tuple #[]) ∧ Went w2 P.rb P.v (P.A ++ b) P.g w') := fun X hX => by
    refine (feed_any X P.rb P.v P.A b P.g (some ⟨g, 0, none⟩) cap ((HB.out.later B2.out).pP.r.below hX) ((I2.out.head).below hX) (by rw [List.length_append]; omega) (HT.out.below ((HB.out.bel.trans (B2.out.mono HB.out.bel.size)).trans (hX.mono (Nat.le_trans HB.out.bel.size B2.out.size))))).mono ?_
    rintro e w' ⟨rfl, v', r', k', n'⟩
    exact ⟨rfl, v', r', (Kept.ofBelow (P := Mine P.rb P.v) hX).trans k', fun k hk => (n' k hk).imp id (fun e => Nat.le_trans hX.size e)⟩
  clear CL o2 b2 X2 i2' l2 X1 B1 hgW
  go_upto_region 2 with fail
  have sq : (fun X => PairB X B3 P) w2.drew := HX2.out.below (Below.refl _ _).drew
  refine wp_region_held_drew (S := fun X => PairB X B3 P) (by kernel_rfl) sq (fun _ => ?_)
  refine H_take (i := 0) (v := .pointer (some ⟨B3, 0, none⟩)) (some 10) rfl rfl (by kernel_rfl) (by kernel_rfl) (by kernel_rfl) (fun _ _ _ h => h) rfl (fun X hX => ?_) sq ?_
  · simp [go_sem]
  simp only [Act.put, List.setIfInBounds_toArray, List.set_cons_zero, List.set_cons_succ]
  refine H_take (i := 1) (v := .pointer (some ⟨P.rb, 0, none⟩)) (some 11) rfl rfl (by kernel_rfl) (by kernel_rfl) (by kernel_rfl) (fun _ _ _ h => h) rfl (fun X hX => ?_) sq ?_
  · exact run_load1 rfl rfl Tryd.isAgg25 (PairB.cell hX).1
  simp only [Act.put, List.setIfInBounds_toArray, List.set_cons_zero, List.set_cons_succ]
  refine H_take (i := 2) (v := .slice (some ⟨g, 0, none⟩) (b.length + 8) cap) (some 12) rfl rfl (by kernel_rfl) (by kernel_rfl) (by kernel_rfl) (fun _ _ _ h => h) rfl (fun X hX => ?_) sq ?_
  · simp [go_sem]
  simp only [Act.put, List.setIfInBounds_toArray, List.set_cons_zero, List.set_cons_succ]
  refine H_take (i := 3) (v := .slice a b.length c) (some 13) rfl rfl (by kernel_rfl) (by kernel_rfl) (by kernel_rfl) (fun _ _ _ h => h) rfl (fun X hX => ?_) sq ?_
  · simp [go_sem]
  simp only [Act.put, List.setIfInBounds_toArray, List.set_cons_zero, List.set_cons_succ]
  refine H_take (i := 4) (v := .int .i64 (b.length : Int)) (some 14) rfl rfl (by kernel_rfl) (by kernel_rfl) (by kernel_rfl) (fun _ _ _ h => h) rfl (fun X hX => ?_) sq ?_
  · simp [go_sem]
  simp only [Act.put, List.setIfInBounds_toArray, List.set_cons_zero, List.set_cons_succ]
  refine H_take (i := 5) (v := .slice (some ⟨g, 0, none⟩) b.length cap) (some 15) rfl rfl (by kernel_rfl) (by kernel_rfl) (by kernel_rfl) (fun _ _ _ h => h) rfl (fun X hX => ?_) sq ?_
  · simp [go_sem, hcap]
  simp only [Act.put, List.setIfInBounds_toArray, List.set_cons_zero, List.set_cons_succ]
  refine H_call (i := 6) (f := 17) (args := #[.pointer (some ⟨P.rb, 0, none⟩), .slice (some ⟨g, 0, none⟩) b.length cap]) (some 16) rfl rfl (by kernel_rfl) rfl (by simp [go_sem]) ((CF.out _ (Below.refl _ _).drew).mono ?_)
  rintro e w3 ⟨rfl, wn⟩
  have WN := hide wn
  have sq3 : (fun X => PairB X B3 P) w3 := by
    obtain ⟨v3, r3, k3, n3⟩ := wn
    exact HX2.out.kept k3 (fun e => by have := HB.out.pP.lt (.inl e); have := HB3.out; omega)
  clear wn
  refine ⟨_, rfl, sq3, ?_⟩
  simp only [Act.put, List.setIfInBounds_toArray, List.set_cons_zero, List.set_cons_succ]
  refine wpAnyH_done (by kernel_rfl) ?_ _
  clear sq sq3
  clear CF
  obtain ⟨v3, r3, k3, n3⟩ := WN.out
  have hlow : ∀ j, P.mine j → j < W.heap.size := fun j hj => HB.out.pP.lt hj
  have hloW : ∀ j, P.mine j → w0.heap.size ≤ j := fun j hj => HB.out.pP.low j hj
  have X3 := HX2.out.kept k3 (fun e => by have := hlow _ (.inl e); have := HB3.out; omega)
  obtain ⟨x0, x1, xl⟩ := X3.cell
  have HX3 := hide X3
  have BX2 : IsBytes w2 a c b := (HX.out.below HB.out.bel).below B2.out
  have NB : ∀ q o, a = some ⟨q, o, none⟩ → b ≠ [] → ¬ P.mine q := fun q o e hne hm => by
    have := hq0.out q o e hne
    have := hloW q hm
    omega
  have keepB : ∀ {X Y : World}, IsBytes X a c b → Kept P.mine X Y → IsBytes Y a c b := fun {X Y} hI hK => by
    by_cases hne : b = []
    · subst hne
      exact ⟨hI.1, hI.2.1, .inl rfl⟩
    · exact hI.kept8 hK (fun q o e => NB q o e hne)
  have KEEP := hide (fun (X Y : World) => @keepB X Y)
  have BP2 := HB.out.later B2.out
  have c3 := BP2.pP.c.kept k3 (fun j hj e => BP2.pP.ap j e hj)
  have CR := hide (refFeed8_any w3 P.db (MineD P.db P.vl P.vn P.vb P.P) P.d P.A b P.g a c ⟨_, _, _, _, c3, fun k hk => hk⟩ HB.out.pP.rel (keepB BX2 (k3.mono (fun _ _ e => .inl e))) (fun q o e hne hm => NB q o e hne (.inr hm)) hA)
  have HBX2 := hide BX2
  have HLOW := hide hlow
  clear r3 k3 n3 X3 BX2 NB keepB BP2 c3 hlow hloW
  go_upto_region 4 with (go_at_call 21; refine CR.out.mono ?_; rintro e w4 ⟨rfl, wd⟩; have WD := hide wd; clear wd)
  clear CR x0 x1 xl
  obtain ⟨v3, r3, k3, n3⟩ := WN.out
  obtain ⟨P', e1, e2, e3, e4, e5, ok4, k4, n4, m4⟩ := (HB.out.later B2.out).pP.both (Nat.le_trans HB.out.bel.size B2.out.size) r3 k3 n3 WD.out (HB.out.pP.rel.feed b) (HB.out.pP.sz.feed b)
  have HP4 := hide (And.intro e1 (And.intro e2 (And.intro e3 (And.intro ok4 (And.intro k4 n4)))))
  have hg4 : ¬ P.mine g := fun hm => by have := HLOW.out g hm; have := HGW.out; omega
  have IS := I2.out.kept8 k4 (fun q o e => by cases e; exact hg4)
  have IB := KEEP.out _ _ HBX2.out k4
  have CS := hide (still_any (some ⟨g, 0, none⟩) cap a c b w4 IS IB)
  have O4 := hide (O2.out.kept k4 (fun k e => by cases e; exact hg4))
  clear r3 k3 n3 e1 e2 e3 e4 e5 ok4 k4 n4 m4 hg4 IS IB
  go_wp2_with (go_at_call 22; refine CS.out.mono ?_; rintro e w5 ⟨rfl, n5, hw5⟩; have O5 : Hid (Own w5 W1.heap.size (.slice (some ⟨g, 0, none⟩) (b.length + 8) cap) (b ++ marks 8)) := (by show Own _ _ _ _; rw [hw5]; exact O4.out.below (below_drewN (Below.refl _ _) _)); have B5 : Hid (Below w4.heap.size w4 w5) := (by show Below _ _ _; rw [hw5]; exact below_drewN (Below.refl _ _) _); clear hw5)
  clear CS
  go_wp2_with fail
  go_loopw [7] (fun i wr => ∃ (k : Nat) (X : List UInt8), i = .int .i64 k ∧ k ≤ b.length + 8 ∧ X.length = b.length + 8 ∧ Hid (Own wr W1.heap.size (.slice (some ⟨g, 0, none⟩) (b.length + 8) cap) X) ∧ Hid (Kept (fun j => j = g) w5 wr)) (fun i _ => b.length + 8 - (intOf i).toNat)
  case atStart => exact ⟨0, b ++ marks 8, rfl, Nat.zero_le _, by simp [marks], O5.out, Kept.refl _ _⟩
  case round =>
    obtain ⟨k, X, rfl, hk, hXl, HO, HK⟩ := hrel
    by_cases hlt : k < b.length + 8
    · obtain ⟨x, hx⟩ : ∃ x, X[k]? = some x := ⟨_, List.getElem?_eq_getElem (by omega)⟩
      have t1 := HO.out.cell k x hx
      have t2 := HO.out.frozen k
      have t3 := (HO.out.lt g rfl).2
      have HN : Hid (Own (wr.setCell ⟨g, k, none⟩ (.int .u8 ((90 : UInt8).toNat : Int))) W1.heap.size (.slice (some ⟨g, 0, none⟩) (b.length + 8) cap) (X.set k 90)) := (HO.out.set k 90).1
      have HKN : Hid (Kept (fun j => j = g) w5 (wr.setCell ⟨g, k, none⟩ (.int .u8 ((90 : UInt8).toNat : Int)))) := HK.out.trans (Kept.setCell _ _ _ _ _ rfl)
      clear hx
      go_wp2_with fail
      go_roundw
      case rel => exact ⟨k + 1, X.set k 90, by go_num, by omega, by rw [List.length_set]; exact hXl, HN.out, HKN.out⟩
      case measure => simp [intOf]; omega
    · have FIN : Hid (∃ lab', BS w0 wr lab' Hb es P' Q i1 i2 ∧ Mv lab W lab' wr) := by
        obtain ⟨e1, e2, e3, ok4, k4, n4⟩ := HP4.out
        obtain ⟨lab1, bs1, mv1, fr1⟩ := HB.out.fresh B2.out
        obtain ⟨lab2, bs2, mv2, _⟩ := bs1.turn P' (.slice none 0 0) ok4 n4 k4 (fun j e => by cases e)
        have g2 : g < w2.heap.size := (O2.out.lt g rfl).2
        have hz := HB.out.bel.size
        have hgW := HGW.out
        have bs4 := (bs2.later B5.out).nobody HK.out (fun j e hlt => by
          subst e
          exact ⟨by omega, (mv2.same _ g2).trans (fr1 _ hgW)⟩)
        refine ⟨lab2, bs4, ⟨?_, fun j hj => (mv2.same j (Nat.lt_of_lt_of_le hj B2.out.size)).trans (mv1.same j hj)⟩⟩
        exact (((Kept.ofBelow B2.out).step k4 (fun j hj e => by rw [HB.out.lP j e]; simp; exact HB.out.ne.2.1)).trans (Kept.ofBelow (B5.out.mono (by have := k4.size; have := B2.out.size; omega)))).step HK.out (fun j hj e => by omega)
      have HPO : Hid (P'.Ok w0 wr) := by
        obtain ⟨lab', bs, _⟩ := FIN.out
        exact bs.pP
      have hPA : P'.A.length ≤ 1073741824 := by rw [HP4.out.2.2.1, List.length_append]; omega
      have PB : PairB wr B3 P := by
        refine ((HX3.out.kept (R := fun j => MineD P.db P.vl P.vn P.vb P.P j) ?_ ?_).below B5.out).kept HK.out ?_
        · obtain ⟨_, _, _, _, _, k5, _⟩ := WD.out
          exact k5
        · intro e
          have := HLOW.out _ (.inr e)
          have := HB3.out
          omega
        · intro e
          have := (O2.out.lt g rfl).1
          have := HX2.out.cell.2.2
          have h9 := HBE.out
          omega
      have HPB := hide PB
      obtain ⟨e1, e2, _⟩ := HP4.out
      have E12 := hide (And.intro e1 e2)
      have sq : (fun X => PairB X B3 P ∧ P'.Ok w0 X) wr.drew := And.intro (PB.below (Below.refl _ _).drew) (HPO.out.later (Below.refl _ _).drew)
      clear PB HO HK hXl e1 e2
      go_upto_region 9 with fail
      refine wp_region_held_drew (S := fun X => PairB X B3 P ∧ P'.Ok w0 X) (by kernel_rfl) sq (fun _ => ?_)
      refine H_take (i := 0) (v := .bool true) (some 33) rfl rfl (by kernel_rfl) (by kernel_rfl) (by kernel_rfl) (fun _ _ _ h => h) rfl (fun X hX => ?_) sq ?_
      · simp [go_sem]
      simp only [Act.put, List.setIfInBounds_toArray, List.set_cons_zero, List.set_cons_succ]
      refine H_take (i := 1) (v := .bool true) (some 34) rfl rfl (by kernel_rfl) (by kernel_rfl) (by kernel_rfl) (fun _ _ _ h => h) rfl (fun X hX => ?_) sq ?_
      · simp [go_sem]
      simp only [Act.put, List.setIfInBounds_toArray, List.set_cons_zero, List.set_cons_succ]
      refine H_take (i := 2) (v := .pointer (some ⟨B3, 0, none⟩)) (some 35) rfl rfl (by kernel_rfl) (by kernel_rfl) (by kernel_rfl) (fun _ _ _ h => h) rfl (fun X hX => ?_) sq ?_
      · simp [go_sem]
      simp only [Act.put, List.setIfInBounds_toArray, List.set_cons_zero, List.set_cons_succ]
      refine H_take (i := 3) (v := .pointer (some ⟨P.rb, 0, none⟩)) (some 36) rfl rfl (by kernel_rfl) (by kernel_rfl) (by kernel_rfl) (fun _ _ _ h => h) rfl (fun X hX => ?_) sq ?_
      · exact run_load1 rfl rfl Tryd.isAgg25 (PairB.cell hX.1).1
      simp only [Act.put, List.setIfInBounds_toArray, List.set_cons_zero, List.set_cons_succ]
      refine H_take (i := 5) (v := .pointer (some ⟨B3, 1, none⟩)) (some 38) rfl rfl (by kernel_rfl) (by kernel_rfl) (by kernel_rfl) (fun _ _ _ h => h) rfl (fun X hX => ?_) sq ?_
      · simp [go_sem]
      simp only [Act.put, List.setIfInBounds_toArray, List.set_cons_zero, List.set_cons_succ]
      refine H_take (i := 6) (v := .pointer (some ⟨P.db, 0, none⟩)) (some 39) rfl rfl (by kernel_rfl) (by kernel_rfl) (by kernel_rfl) (fun _ _ _ h => h) rfl (fun X hX => ?_) sq ?_
      · exact run_load1 rfl rfl Tryd.isAgg27 (PairB.cell hX.1).2.1
      simp only [Act.put, List.setIfInBounds_toArray, List.set_cons_zero, List.set_cons_succ]
      refine H_call (i := 4) (f := 19) (args := #[.pointer (some ⟨P.rb, 0, none⟩)]) (some 37) rfl rfl (by kernel_rfl) rfl (by simp [go_sem]) (((E12.out.1 ▸ sq.2.heldR hPA)).mono ?_)
      rintro e w8 ⟨rfl, q8, hq8⟩
      have b8 : Below wr.heap.size wr w8 := by rw [hq8]; exact below_drewN ((Below.refl _ _).drew) _
      have sq8 : (fun X => PairB X B3 P ∧ P'.Ok w0 X) w8 := And.intro (HPB.out.below b8) (HPO.out.later b8)
      clear hq8
      refine ⟨_, rfl, sq8, ?_⟩
      simp only [Act.put, List.setIfInBounds_toArray, List.set_cons_zero, List.set_cons_succ]
      refine H_call (i := 7) (f := 23) (args := #[.pointer (some ⟨P.db, 0, none⟩)]) (some 40) rfl rfl (by kernel_rfl) rfl (by simp [go_sem]) (((E12.out.2 ▸ sq8.2.heldD)).mono ?_)
      rintro e w9 ⟨rfl, hw9⟩
      rw [hw9]
      clear hw9
      refine ⟨_, rfl, sq8, ?_⟩
      simp only [Act.put, List.setIfInBounds_toArray, List.set_cons_zero, List.set_cons_succ]
      refine H_take (i := 8) (v := .bool true) (some 41) rfl rfl (by kernel_rfl) (by kernel_rfl) (by kernel_rfl) (fun _ _ _ h => h) rfl (fun X hX => ?_) sq8 ?_
      · simp [go_sem]
      simp only [Act.put, List.setIfInBounds_toArray, List.set_cons_zero, List.set_cons_succ]
      refine H_take (i := 9) (v := .bool true) (some 42) rfl rfl (by kernel_rfl) (by kernel_rfl) (by kernel_rfl) (fun _ _ _ h => h) rfl (fun X hX => ?_) sq8 ?_
      · simp [go_sem]
      simp only [Act.put, List.setIfInBounds_toArray, List.set_cons_zero, List.set_cons_succ]
      refine H_take (i := 10) (v := .bool true) (some 4) rfl rfl (by kernel_rfl) (by kernel_rfl) (by kernel_rfl) (fun _ _ _ h => h) rfl (fun X hX => ?_) sq8 ?_
      · simp [go_sem]
      simp only [Act.put, List.setIfInBounds_toArray, List.set_cons_zero, List.set_cons_succ]
      refine wpAnyH_done (by kernel_rfl) ?_ _
      go_wp2_with fail
      go_ret
      obtain ⟨lab', bs, mv⟩ := FIN.out
      exact ⟨rfl, lab', P', bs.later b8, ⟨mv.kept.trans (Kept.ofBelow b8), mv.same⟩, E12.out.1, E12.out.2, HP4.out.2.2.1⟩
end Go.Proofs.YtomgnailgddchaaDoor
