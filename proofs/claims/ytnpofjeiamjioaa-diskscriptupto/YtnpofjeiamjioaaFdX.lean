/-
  OwnF, FdK, FdP.
-/
import Derived.Test.YtnpofjeiamjioaaFdA
import Derived.Test.YtnpofjeiamjioaaSameG
namespace Go.Proofs.Ytnpofjeiamjioaa
open Go.RowKit

/-- One file more, which was boxed. -/
theorem FlsAt.pushK {w1 w2 w3 w4 : World} {B : Nat} {v v4 u : Value} {G : List (Fl × Value)} {f : Fl} {o : Obj} {K : Nat → Prop} (h : FlsAt w1 B v G) (hb : Below w1.heap.size w1 w2) (hk : Kept K w2 w3) (hu : Own w2 w1.heap.size u f.data) (hB : B ≤ w1.heap.size)
    (hK : ∀ g, v.ownBlock = some g → ¬ K g) (hK2 : ∀ g c, K g → w2.heap[g]? = some (.cells c 5 (0, 0)) → False)
    (ho : w4.ownsRow B 62 3 v4 (G ++ [(f, u)]).length (flatR (G ++ [(f, u)]))) (hg : (w3.alloc o).grownBy w4 v.ownBlock) : FlsAt w4 B v4 (G ++ [(f, u)]) := by
  have h2 := h.later hb
  have r3 : w3.ownsRow B 62 3 v G.length (flatR G) := row_keptR h2.row hk hK
  have ka : Kept (fun g => v.ownBlock = some g) w3 w4 := (Kept.ofBelow ((Below.refl _ w3).alloc (Nat.le_refl _) o)).trans (Kept.ofGrown hg (fun g e => e))
  have n8 : ∀ {z : Value} {x : List UInt8} {Bz : Nat}, Own w2 Bz z x → Own w4 Bz z x := fun {z x Bz} hz => by
    have h3 : Own w3 Bz z x := Kept.own hk hz (fun g e k => by
      obtain ⟨c, hc⟩ := row_typeR hz e
      exact hK2 g c k hc)
    exact Kept.own ka h3 (fun g e e2 => by
      obtain ⟨c1, q1⟩ := row_typeR h3 e
      obtain ⟨c2, q2⟩ := row_typeR r3 e2
      exact clashF q1 q2 (by decide))
  refine ⟨ho, fun p hp => ?_, fun i k x y hx hy hik g e e2 => ?_⟩
  · rcases List.mem_append.1 hp with hp | hp
    · exact n8 (h2.own p hp)
    · have : p = (f, u) := by simpa using hp
      subst this
      exact (n8 hu).mono hB
  · have old : ∀ {i : Nat} {x : Fl × Value}, G[i]? = some x → x.2.ownBlock = some g → g < w1.heap.size := fun hx e => ((h.own _ (List.mem_of_getElem? hx)).lt g e).2
    rcases snoc_keyR hx with hx | ⟨e1, rfl⟩
    · rcases snoc_keyR hy with hy | ⟨e3, rfl⟩
      · exact h.ap i k x y hx hy hik g e e2
      · have := old hx e
        have := (hu.lt g e2).1
        omega
    · rcases snoc_keyR hy with hy | ⟨e3, rfl⟩
      · have := old hy e2
        have := (hu.lt g e).1
        omega
      · omega
set_option maxHeartbeats 4000000 in
set_option maxRecDepth 1000000 in
theorem ownFiles_any (w : World) (a : Option Addr) (c : Nat) (L : List Fl) (h : IsRaw w a c (L.map raw)) (hL : L.length ≤ 1073741823) (hD : ∀ f ∈ L, f.data.length ≤ 1073741823) :
    Calls Try.prog 34 #[.slice a L.length c] w fun e w' => Below w.heap.size w w' ∧ ∃ v G, e = .returned v ∧ FlsAt w' w.heap.size v G ∧ G.map (·.1) = L := by
  have HI := hideR h
  obtain ⟨N, hN⟩ : ∃ N, N = L.length := ⟨_, rfl⟩
  have HN := hideR hN
  have HD := hideR hD
  rw [← hN] at hL ⊢
  have b0 : Below w.heap.size w (w.alloc (.cells #[] 62)) := (Below.refl _ w).alloc (Nat.le_refl _) _
  have S0 : HidR (Below w.heap.size w (w.alloc (.cells #[] 62)) ∧ FlsAt (w.alloc (.cells #[] 62)) w.heap.size (.slice (some ⟨w.heap.size, 0, none⟩) 0 0) []) := ⟨b0, World.ownsRow_made w #[] 0 (Nat.le_refl _) (by unfold maxLen; omega) (by simp), fun p hp => (by simp at hp), fun i k x y hx => by simp at hx⟩
  clear h hN hD b0
  go_enter Try.func34, Try.ntmps34
  go_wp2_with fail
  go_loopg [3, 4] N (fun gk s3 i wr => ∃ (j : Nat) (la : Option Addr) (lc : Nat) (G : List (Fl × Value)), s3 = .slice la j lc ∧ i = .int .i64 (j : Int) ∧ N - j ≤ gk ∧ j ≤ N ∧ HidR (Below w.heap.size w wr ∧ FlsAt wr w.heap.size (.slice la j lc) G) ∧ HidR (G.map (·.1) = L.take j))
  case atStart => exact ⟨0, _, _, [], rfl, rfl, by omega, by omega, S0, ⟨by simp⟩⟩
  case round =>
    obtain ⟨j, la, lc, G, rfl, rfl, hgk, hj, HG, HM⟩ := hrel
    by_cases hlt : j < N
    · have tlt : (j : Int) < (N : Int) := by omega
      obtain ⟨x, hx⟩ : ∃ x, L[j]? = some x := ⟨_, List.getElem?_eq_getElem (by have := HN.out; omega)⟩
      obtain ⟨b, o, ea, hbw, m0, ⟨da, dc, m1, hi⟩, m2⟩ := (HI.out.below HG.out.1).at (show (L.map raw)[j]? = some (raw x) by rw [List.getElem?_map, hx]; rfl)
      subst ea
      have hdl := HD.out x (List.mem_of_getElem? hx)
      have hgl : G.length = j := by have := congrArg List.length HM.out; simp at this; have := HN.out; omega
      have HGL := hideR hgl
      have HX : HidR (L.take (j + 1) = L.take j ++ [x]) := ⟨by rw [List.take_add_one, hx]; rfl⟩
      obtain ⟨w1, hw1⟩ : ∃ w1, w1 = wr.alloc (.cells #[.int .i64 x.num, .slice da x.data.length dc, .int .i64 (x.safe : Int)] 62) := ⟨_, rfl⟩
      have b1 : Below wr.heap.size wr w1 := by rw [hw1]; exact (Below.refl _ wr).alloc (Nat.le_refl _) _
      have x1 : w1.heap[wr.heap.size]? = some (.cells #[.int .i64 x.num, .slice da x.data.length dc, .int .i64 (x.safe : Int)] 62 (0, 0)) := by rw [hw1]; exact heap_alloc_new wr _
      have c1 : w1.cell? ⟨wr.heap.size, 1, none⟩ = some (.slice da x.data.length dc) := by simp [World.cell?, x1]
      have HW1 := hideR hw1
      have HB1 := hideR b1
      have HG1 := hideR (HG.out.2.later b1)
      have CO := hideR (lcopied_any da dc x.data w1 (hi.below b1) (by omega))
      have HX1 := hideR x1
      have hz1 := b1.size
      have hzw := HG.out.1.size
      simp only [raw] at m0 m1 m2
      clear hx hi hgl hw1 b1 x1 hbw
      go_upto_region 6 with fail
      rw [← HW1.out]
      clear m0 m1 m2
      go_upto_region 7 with (first
        | (go_at_call 33
           refine CO.out.mono ?_
           rintro e w2 ⟨v, rfl, hv, b2, _⟩
           obtain ⟨va, vc, ev, _⟩ := hv.shape
           subst ev
           have B2 := hideR b2
           have V2 := hideR hv
           have hb2 := (b2.block _ (Array.getElem?_eq_some_iff.1 HX1.out).1).trans HX1.out
           have e1 : w2.cell? ⟨wr.heap.size, 1, none⟩ = some (.slice da x.data.length dc) := by simp [World.cell?, hb2]
           have e2 : w2.frozen? ⟨wr.heap.size, 1, none⟩ = false := by simp [World.frozen?, hb2]
           have HB2X := hideR hb2
           have S3 := set_cells hb2 1 (.slice va x.data.length vc)
           obtain ⟨w3, hw3⟩ : ∃ w3, w3 = w2.setCell ⟨wr.heap.size, 1, none⟩ (.slice va x.data.length vc) := ⟨_, rfl⟩
           have HW3 := hideR hw3
           rw [← hw3] at S3
           have HX3 : HidR (w3.heap[wr.heap.size]? = some (.cells #[.int .i64 x.num, .slice va x.data.length vc, .int .i64 (x.safe : Int)] 62 (0, 0))) := ⟨S3.1⟩
           have B3 : HidR (Kept (fun g => g = wr.heap.size) w2 w3) := ⟨by rw [hw3]; exact Kept.setCell _ _ _ _ _ rfl⟩
           clear S3 hw3 b2 hv hb2))
      rw [← HW3.out]
      obtain ⟨g0, g1, g2⟩ : w3.cell? ⟨wr.heap.size, 0, none⟩ = some (.int .i64 x.num) ∧ w3.cell? ⟨wr.heap.size, 1, none⟩ = some (.slice va x.data.length vc) ∧ w3.cell? ⟨wr.heap.size, 2, none⟩ = some (.int .i64 (x.safe : Int)) := by simp [World.cell?, HX3.out]
      have hz2 := B2.out.size
      have hz3 := B3.out.size
      have ho3 : w3.ownsRow w.heap.size 62 3 (.slice la j lc) G.length (flatR G) := row_keptR (HG1.out.later B2.out).row B3.out (fun g e e2 => by have := (HG.out.2.row.lt g e).2; omega)
      have HO3 := hideR ho3
      clear ho3
      go_wp2_with (first
        | (refine wpList_fapp rfl (.tmp 21) (.tmp 23) rfl w.heap.size (.slice la j lc) G.length (flatR G) rfl (HO3.out.alloc _) (some ⟨w3.heap.size, 0, none⟩) 1 1 [.int .i64 x.num, .slice va x.data.length vc, .int .i64 (x.safe : Int)] rfl rfl (.inr (src_one w3 x.num x.safe (.slice va x.data.length vc))) one_file (by have := HGL.out; omega) (by rw [World.size_alloc]; omega) ?_
           intro v4 w4 ho hg _ _ _
           obtain ⟨a4, c4, e4⟩ := row_formR ho
           rw [HGL.out] at e4
           subst e4
           have ho' : w4.ownsRow w.heap.size 62 3 (.slice a4 (j + 1) c4) (G ++ [(x, Value.slice va x.data.length vc)]).length (flatR (G ++ [(x, Value.slice va x.data.length vc)])) := by
             rw [flatR_append, List.length_append]
             exact ho
           have F4 := hideR (HG1.out.pushK B2.out B3.out V2.out (by omega) (fun g e e2 => by have := (HG.out.2.row.lt g e).2; omega) (fun g c e hc => by rw [e, HB2X.out] at hc; simp at hc) ho' hg)
           have L4 : HidR (Below w.heap.size w w4) := ⟨(((HG.out.1.trans (HB1.out.mono hzw)).trans (B2.out.mono (by omega))).trans (B3.out.below (by omega) (fun k hk e => by omega))).trans (((Kept.ofBelow ((Below.refl _ w3).alloc (Nat.le_refl _) _)).trans (Kept.ofGrown (P := fun g => (Value.slice la j lc).ownBlock = some g) hg (fun g e => e))).below (by omega) (fun g hgw e => by have := (HG1.out.row.lt g e).1; omega))⟩
           clear ho ho' hg))
      go_roundg (N - (j + 1))
      case measure => omega
      case rel => exact ⟨j + 1, a4, c4, G ++ [(x, .slice va x.data.length vc)], rfl, by go_num, Nat.le_refl _, hlt, ⟨L4.out, F4.out⟩, ⟨by rw [List.map_append, HM.out, HX.out]; rfl⟩⟩
    · have tlt : ¬ (j : Int) < (N : Int) := by omega
      go_wp2_with fail
      go_ret
      exact ⟨HG.out.1, _, rfl, G, HG.out.2, by rw [HM.out, List.take_of_length_le (by have := HN.out; omega)]⟩
end Go.Proofs.Ytnpofjeiamjioaa

namespace Go.Proofs.Ytnpofjeiamjioaa
open Go.RowKit

/-- What was handed out, and what it must read as, lie apart. -/
structure Aps (P : List Ls) : Prop where
  rr : ∀ (i j : Nat) x y, P[i]? = some x → P[j]? = some y → (i ≠ j → Apt x.ov y.ov ∧ Apt x.wv y.wv) ∧ Apt x.ov y.wv
  dd : ∀ (i j : Nat) x y (m n : Nat) a b, P[i]? = some x → P[j]? = some y → x.l[m]? = some a → y.l[n]? = some b → (¬ (i = j ∧ m = n) → Apt a.od b.od) ∧ Apt a.od b.wd
def Eql (P : List Ls) : Prop := ∀ x ∈ P, ∀ z ∈ x.l, z.ob = z.wb
theorem aps_nil : Aps [] := ⟨fun i j x y hx => by simp at hx, fun i j x y m n a b hx => by simp at hx⟩
/-- Two lists of files side by side. -/
def zipF (G M : List (Fl × Value)) : List Fz := List.zipWith (fun p q => ⟨p.1.num, p.1.safe, p.1.data, q.1.data, p.2, q.2⟩) G M
theorem zipF_o : ∀ (G M : List (Fl × Value)), G.map (·.1) = M.map (·.1) → (zipF G M).map Fz.o = G ∧ (zipF G M).map Fz.w = M ∧ ∀ z ∈ zipF G M, z.ob = z.wb
  | [], [], _ => ⟨rfl, rfl, fun z hz => by simp [zipF] at hz⟩
  | [], _ :: _, h => by simp at h
  | _ :: _, [], h => by simp at h
  | p :: G, q :: M, h => by
    simp only [List.map_cons, List.cons.injEq] at h
    obtain ⟨h1, h2, h3⟩ := zipF_o G M h.2
    have e : zipF (p :: G) (q :: M) = ⟨p.1.num, p.1.safe, p.1.data, q.1.data, p.2, q.2⟩ :: zipF G M := rfl
    rw [e]
    refine ⟨?_, ?_, fun z hz => ?_⟩
    · rw [List.map_cons, h1]
      rfl
    · rw [List.map_cons, h2]
      simp only [Fz.w, List.cons.injEq, and_true]
      rw [h.1]
    · rcases List.mem_cons.1 hz with rfl | hz
      · simp only []
        rw [h.1]
      · exact h3 z hz
set_option maxHeartbeats 2000000 in
set_option maxRecDepth 1000000 in
theorem fholds_any (w : World) (B hb : Nat) (vo vw : Value) (P : List Ls) (sz : Int) (h : FdAt w B hb vo vw P sz) (he : Eql P) :
    Calls Try.prog 10 #[.pointer (some ⟨hb, 0, none⟩)] w fun e w' => e = .returned (.bool true) ∧ ∃ m, w' = w.drewN m := by
  obtain ⟨k0, k1, _, _⟩ := h.rows.cells
  obtain ⟨ao, co, aw, cw, rfl, rfl⟩ := h.rows.forms
  obtain ⟨ao', co', eo, hco, hno, hob⟩ := row_shape h.rows.ro
  obtain ⟨aw', cw', ew, hcw, hnw, hwb⟩ := row_shape h.rows.rw
  simp only [Value.slice.injEq, true_and] at eo ew
  obtain ⟨rfl, rfl⟩ := eo
  obtain ⟨rfl, rfl⟩ := ew
  rw [List.length_map] at k0 k1 hno hnw hob hwb
  unfold maxLen at hco hcw
  have HES := hideR (And.intro h.ls he)
  have HOB := hideR hob
  have HWB := hideR hwb
  clear h hob hwb he
  go_enter Try.func10, Try.ntmps10
  go_wp2
  go_loopw [3] (fun i wr => ∃ k : Nat, k ≤ P.length ∧ i = .int .i64 k ∧ ∃ m, wr = w.drewN m) (fun i _ => P.length - (RowKit.intOf i).toNat)
  case atStart => exact ⟨0, Nat.zero_le _, rfl, 0, rfl⟩
  case round =>
    obtain ⟨k, hk, rfl, m, hm⟩ := hrel
    have HM := hideR hm
    have HB : HidR (Below w.heap.size w wr) := ⟨by rw [hm]; exact below_drewN (Below.refl _ w) m⟩
    have q0 : wr.cell? ⟨hb, 0, none⟩ = some (.slice ao P.length co) := by rw [hm]; exact k0
    have q1 : wr.cell? ⟨hb, 1, none⟩ = some (.slice aw P.length cw) := by rw [hm]; exact k1
    by_cases hlt : k < P.length
    · obtain ⟨go, rfl, _, hoc⟩ := HOB.out (by omega)
      obtain ⟨gw, rfl, _, hwc⟩ := HWB.out (by omega)
      obtain ⟨x, hx⟩ : ∃ x, P[k]? = some x := ⟨_, List.getElem?_eq_getElem hlt⟩
      have c1 : wr.cell? ⟨go, k, none⟩ = some x.ov := by rw [hm]; exact hoc k x.ov (by simp [hx])
      have c2 : wr.cell? ⟨gw, k, none⟩ = some x.wv := by rw [hm]; exact hwc k x.wv (by simp [hx])
      have hl := HES.out.1 x (List.mem_of_getElem? hx)
      obtain ⟨a1, d1, h1, i1⟩ := hl.rawO
      obtain ⟨a2, d2, h2, i2⟩ := hl.rawW
      have er : (x.l.map fun z => raw z.w.1) = x.l.map fun z => raw z.o.1 := List.map_congr_left (fun z hz => by
        have := HES.out.2 x (List.mem_of_getElem? hx) z hz
        simp [Fz.o, Fz.w, raw, this])
      rw [er] at i2
      rw [h1] at c1
      rw [h2] at c2
      have I : HidR (∀ X, Below wr.heap.size wr X → Calls Try.prog 28 #[.slice a1 x.l.length d1, .slice a2 x.l.length d2] X fun e w' => e = .returned (.bool true) ∧ ∃ n, w' = X.drewN n) := ⟨fun X hX => by
        have := sameFiles_yes a1 a2 d1 d2 (x.l.map fun z => raw z.o.1) X ((i1.below HB.out).below hX) ((i2.below HB.out).below hX)
        rw [List.length_map] at this
        exact this⟩
      have hki : (k : Int) < (P.length : Int) := by omega
      clear hoc hwc i1 i2 h1 h2 hx hm k0 k1 er hl
      go_wp2_with fail
      go_quiet ((go_at_call 28; exact Calls.quiet_of (I.out _ (below_drewN (Below.refl _ wr) _))))
      go_wp2
      go_roundw
      case rel => exact ⟨k + 1, by omega, by go_num, m + nq, by rw [HM.out, World.drewN_drewN]⟩
      case measure => simp [RowKit.intOf]; omega
    · clear hm
      go_wp2
      go_ret
      exact ⟨rfl, m, HM.out⟩
end Go.Proofs.Ytnpofjeiamjioaa

namespace Go.Proofs.Ytnpofjeiamjioaa
open Go.RowKit

theorem info_rowsF : (Try.prog.info? 48).map (fun i => (i.zero, i.size, i.bytes)) = some (some (.slice none 0 0), 1, 24) := by kernel_rfl
/-- 'append' of one list onto a list of lists. -/
theorem wpList_pushF {w : World} {ops : Array Oper} {rest : List Oper} {o : Oper} {a : Act} {Q : Exit → Act → World → Prop} (hgd : o.guard = none) (s x : Operand)
    (ho : o.op = .call { callee := .builtin .append, args := #[s, x], argTypes := #[34, 34] })
    (B : Nat) (v : Value) (n : Nat) (os : List Value) (hs : a.eval s = v) (hown : w.ownsRow B 48 1 v n os) (u : Value) (k : Nat) (hk : k = w.heap.size) (hx : a.eval x = .slice (some ⟨k, 0, none⟩) 1 1) (hu : u.oneCell' = true)
    (hb : n ≤ 1073741824) (hbase : B ≤ w.heap.size)
    (h : ∀ v' w', w'.ownsRow B 48 1 v' (n + 1) (os ++ [u]) → (w.alloc (.cells #[u] 48)).grownBy w' v.ownBlock → (v'.ownBlock = v.ownBlock ∨ v'.ownBlock = some (w.heap.size + 1)) →
      wpList Try.prog ops Q rest (a.put o.dst v') w') : wpList Try.prog ops Q (o :: rest) a (w.alloc (.cells #[u] 48)) := by
  subst hk
  obtain ⟨i, hi, hz0, hz1, hz2⟩ := info_parts info_rowsF
  refine wpList_append_keeps hgd s x 34 ho B 48 i (.slice none 0 0) Try.underlying34 hi hz0 hz1 rfl v n os hs (hown.alloc _) (some ⟨w.heap.size, 0, none⟩) 1 1 [u] hx rfl (.inr (one_new w u _)) (by intro y hy; simp at hy; subst hy; exact hu) (by unfold maxLen; omega) (by rw [hz2]; omega) (by simp; omega) ?_
  intro v' w' h1 h2 _ h4 _
  exact h v' w' h1 h2 (by simpa using h4)
/-- One list more. -/
theorem Aps.snoc {P : List Ls} {x : Ls} (h : Aps P) (h0 : Apt x.ov x.wv) (h1 : ∀ y ∈ P, (Apt x.ov y.ov ∧ Apt x.wv y.wv) ∧ Apt x.ov y.wv ∧ Apt y.ov x.wv)
    (h2 : ∀ (m n : Nat) a b, x.l[m]? = some a → x.l[n]? = some b → (m ≠ n → Apt a.od b.od) ∧ Apt a.od b.wd) (h3 : ∀ y ∈ P, ∀ a ∈ x.l, ∀ b ∈ y.l, Apt a.od b.od ∧ Apt a.od b.wd ∧ Apt b.od a.wd) : Aps (P ++ [x]) := by
  refine ⟨fun i j a b ha hb => ?_, fun i j a b m n c d ha hb hc hd => ?_⟩
  · rcases snoc_keyR ha with ha2 | ⟨ei, rfl⟩ <;> rcases snoc_keyR hb with hb2 | ⟨ej, rfl⟩
    · exact h.rr i j a b ha2 hb2
    · have := h1 a (List.mem_of_getElem? ha2)
      exact ⟨fun _ => ⟨this.1.1.symm, this.1.2.symm⟩, this.2.2⟩
    · have := h1 b (List.mem_of_getElem? hb2)
      exact ⟨fun _ => this.1, this.2.1⟩
    · exact ⟨fun e => by omega, h0⟩
  · rcases snoc_keyR ha with ha2 | ⟨ei, rfl⟩ <;> rcases snoc_keyR hb with hb2 | ⟨ej, rfl⟩
    · exact h.dd i j a b m n c d ha2 hb2 hc hd
    · have := h3 a (List.mem_of_getElem? ha2) d (List.mem_of_getElem? hd) c (List.mem_of_getElem? hc)
      exact ⟨fun _ => this.1.symm, this.2.2⟩
    · have := h3 b (List.mem_of_getElem? hb2) c (List.mem_of_getElem? hc) d (List.mem_of_getElem? hd)
      exact ⟨fun _ => this.1, this.2.1⟩
    · have := h2 m n c d hc hd
      exact ⟨fun e => this.1 (fun e2 => e ⟨by omega, e2⟩), this.2⟩
/-- What keep leaves. -/
def KeepFP (w : World) (B hb : Nat) (vo vw : Value) (P : List Ls) (sz : Int) (v : Value) (G : List (Fl × Value)) (w' : World) : Prop :=
  Kept (fun g => g = hb ∨ vo.ownBlock = some g ∨ vw.ownBlock = some g) w w' ∧ ∃ vo' vw' sz' x, FdAt w' B hb vo' vw' (P ++ [x]) sz' ∧ x.ov = v ∧ x.l.map Fz.o = G ∧ (∀ z ∈ x.l, z.ob = z.wb) ∧ (∀ g, x.wv.ownBlock = some g → w.heap.size ≤ g) ∧ (∀ z ∈ x.l, ∀ g, z.wd.ownBlock = some g → w.heap.size ≤ g) ∧
    (∀ g, vo'.ownBlock = some g → vo.ownBlock = some g ∨ w.heap.size ≤ g) ∧ (∀ g, vw'.ownBlock = some g → vw.ownBlock = some g ∨ w.heap.size ≤ g) ∧ (0 ≤ sz → sz ≤ 2305843009213693952 → sz + G.length ≤ sz' ∧ sz' ≤ sz + G.length * 1073741824)
set_option linter.unusedSimpArgs false in
set_option maxHeartbeats 4000000 in
set_option maxRecDepth 1000000 in
theorem fkeep_any (w : World) (B hb : Nat) (vo vw : Value) (P : List Ls) (sz : Int) (h : FdAt w B hb vo vw P sz) (hB : B ≤ w.heap.size) (v : Value) (G : List (Fl × Value)) (hr : w.ownsRow B 62 3 v G.length (flatR G)) (hog : ∀ p ∈ G, Own w B p.2 p.1.data)
    (hfit : ∀ p ∈ G, -9223372036854775808 ≤ p.1.num ∧ p.1.num ≤ 9223372036854775807 ∧ p.1.safe ≤ 9223372036854775807 ∧ p.1.data.length ≤ 1073741823) (hG : G.length ≤ 1073741823) (hP : P.length ≤ 1073741823) :
    Calls Try.prog 30 #[.pointer (some ⟨hb, 0, none⟩), v] w fun e w' => e = .returned (.tuple #[]) ∧ KeepFP w B hb vo vw P sz v G w' := by
  obtain ⟨ga, gc, rfl, hraw⟩ := rows_raw hr hog (fun p hp => ⟨WalkArith.wf_i64 ⟨(hfit p hp).1, (hfit p hp).2.1⟩, WalkArith.wf_i64 (show -9223372036854775808 ≤ (p.1.safe : Int) ∧ (p.1.safe : Int) ≤ 9223372036854775807 by have := (hfit p hp).2.2.1; omega)⟩)
  obtain ⟨N, hN⟩ : ∃ N, N = G.length := ⟨_, rfl⟩
  have co := ownFiles_any w ga gc (G.map (·.1)) (by rw [List.map_map]; exact hraw) (by simpa using hG) (fun f hf => by obtain ⟨p, hp, rfl⟩ := List.mem_map.1 hf; exact (hfit p hp).2.2.2)
  rw [List.length_map] at co
  rw [← hN] at co hr hG ⊢
  have CO := hideR co
  have HR := hideR (And.intro hr hog)
  have HF := hideR hfit
  have H0 := hideR h
  have HN := hideR hN
  obtain ⟨ao, c0, aw, cw, rfl, rfl⟩ := h.rows.forms
  rw [List.length_map, List.length_map] at H0 ⊢
  obtain ⟨N2, hN2⟩ : ∃ N2, N2 = P.length := ⟨_, rfl⟩
  have HN2 := hideR hN2
  rw [← hN2] at H0 hP ⊢
  clear hr hog hfit h hN co hraw hN2
  go_enter Try.func30, Try.ntmps30
  go_wp2_with (first
    | (go_at_call 34
       refine CO.out.mono ?_
       rintro e w1 ⟨b1, u, M, rfl, f1, hm⟩
       have hml : M.length = N := by have := congrArg List.length hm; simp at this; have := HN.out; omega
       obtain ⟨ua, uc, eu⟩ := row_formR f1.row
       rw [hml] at eu
       subst eu
       have B1 := hideR b1
       have F1 := hideR f1
       have HM := hideR (And.intro hm hml)
       have H1 := hideR (H0.out.later b1)
       obtain ⟨k0, k1, k2, kf⟩ := H1.out.rows.cells
       have hz1 := b1.size
       have al1 : Below w1.heap.size w1 (w1.alloc (.cells #[.slice ga N gc] 48)) := (Below.refl _ w1).alloc (Nat.le_refl _) _
       have A1 := hideR al1
       clear b1 f1 hm hml kf k1 k2 al1)
    | (refine wpList_pushF rfl (.tmp 12) (.tmp 14) rfl B (.slice ao N2 c0) N2 (P.map (·.ov)) rfl (by have := H1.out.rows.ro; rw [List.length_map, ← HN2.out] at this; exact this) (.slice ga N gc) _ rfl rfl rfl (by omega) (by omega) ?_
       intro vo' w2 o2 g2 l2
       obtain ⟨r3, kp3, c3, f3⟩ := (H1.out.rows.later A1.out).pushOut (by rw [List.length_map, ← HN2.out]; exact o2) g2 (by simpa using l2)
       obtain ⟨ao', co', e2⟩ := row_formR o2
       subst e2
       have L2 : HidR (∀ g, (Value.slice ao' (N2 + 1) co').ownBlock = some g → (Value.slice ao N2 c0).ownBlock = some g ∨ w.heap.size ≤ g) := ⟨fun g e => by
         rcases l2 with l | l
         · exact .inl (l ▸ e)
         · rw [l] at e
           simp only [Option.some.injEq] at e
           right
           omega⟩
       obtain ⟨w3, hw3⟩ : ∃ w3, w3 = w2.setCell ⟨hb, 0, none⟩ (.slice ao' (N2 + 1) co') := ⟨_, rfl⟩
       have HW3 := hideR hw3
       rw [← hw3] at r3 kp3
       have R3 := hideR r3
       have K3 := hideR kp3
       have hz3 := kp3.size
       rw [World.size_alloc] at hz3
       obtain ⟨_, q1, _, _⟩ := r3.cells
       rw [hw3] at q1
       clear o2 g2 l2 r3 kp3 hw3)
    | (rw [← HW3.out]
       refine wpList_pushF rfl (.tmp 22) (.tmp 24) rfl B (.slice aw N2 cw) N2 (P.map (·.wv)) rfl (by have := R3.out.rw; rw [List.length_map, ← HN2.out] at this; exact this) (.slice ua N uc) w2.heap.size (by rw [HW3.out]; simp) rfl rfl (by omega) (by omega) ?_
       intro vw' w4 o4 g4 l4
       have al3 : Below w3.heap.size w3 (w3.alloc (.cells #[.slice ua N uc] 48)) := (Below.refl _ w3).alloc (Nat.le_refl _) _
       obtain ⟨r5, kp5, c5, f5⟩ := (R3.out.later al3).pushWant (by rw [List.length_map, ← HN2.out]; exact o4) g4 (by simpa using l4)
       obtain ⟨aw', cw', e4⟩ := row_formR o4
       subst e4
       have L4 : HidR (∀ g, (Value.slice aw' (N2 + 1) cw').ownBlock = some g → (Value.slice aw N2 cw).ownBlock = some g ∨ w.heap.size ≤ g) := ⟨fun g e => by
         rcases l4 with l | l
         · exact .inl (l ▸ e)
         · rw [l] at e
           simp only [Option.some.injEq] at e
           right
           omega⟩
       obtain ⟨w5, hw5⟩ : ∃ w5, w5 = w4.setCell ⟨hb, 1, none⟩ (.slice aw' (N2 + 1) cw') := ⟨_, rfl⟩
       have HW5 := hideR hw5
       rw [← hw5] at r5 kp5
       have R5 := hideR r5
       have K5 := hideR ((Kept.ofBelow al3).trans kp5)
       clear o4 g4 l4 r5 kp5 hw5 al3))
  rw [← HW5.out]
  obtain ⟨x, hx⟩ : ∃ x : Ls, x = ⟨.slice ga N gc, .slice ua N uc, zipF G M⟩ := ⟨_, rfl⟩
  have hzo := zipF_o G M HM.out.1.symm
  have hxl : x.l.length = N := by have := congrArg List.length hzo.1; rw [List.length_map] at this; rw [hx, HN.out]; exact this
  have X1 : HidR (LsAt w1 B x) := ⟨by
    have hb1 := B1.out
    have hzn : (zipF G M).length = N := by rw [← hxl, hx]
    refine ⟨?_, ?_, fun z hz => ?_, fun z hz => ?_, fun z hz => ?_⟩
    · rw [hx]
      simp only []
      rw [hzo.1, hzn]
      exact row_keptR (P := fun _ => False) HR.out.1 (Kept.ofBelow hb1) (fun _ _ h => h)
    · rw [hx]
      simp only []
      rw [hzo.2.1, hzn]
      have := F1.out.row.monoR hB
      rw [HM.out.2] at this
      exact this
    · rw [hx] at hz
      have : z.o ∈ G := by rw [← hzo.1]; exact List.mem_map_of_mem hz
      exact (HR.out.2 _ this).below hb1
    · rw [hx] at hz
      have : z.w ∈ M := by rw [← hzo.2.1]; exact List.mem_map_of_mem hz
      exact (F1.out.own _ this).mono hB
    · rw [hx] at hz
      have : z.o ∈ G := by rw [← hzo.1]; exact List.mem_map_of_mem hz
      have := HF.out _ this
      exact ⟨this.1, this.2.1, this.2.2.1⟩⟩
  have KW0 : HidR (Kept (fun g => g = hb ∨ (Value.slice ao N2 c0).ownBlock = some g ∨ (Value.slice aw N2 cw).ownBlock = some g) w1 w5) := ⟨(((Kept.ofBelow A1.out).trans (K3.out.mono (fun g _ e => by rcases e with e | e; exact .inl e; exact .inr (.inl e))))).trans (K5.out.mono (fun g _ e => by rcases e with e | e; exact .inl e; exact .inr (.inr e)))⟩
  have HXX := hideR (And.intro hx hzo)
  have HXL := hideR hxl
  clear hx hzo hxl
  go_loopg [5] N (fun gk i wr => ∃ (j : Nat) (sz' : Int), i = .int .i64 (j : Int) ∧ N - j ≤ gk ∧ j ≤ N ∧ HidR (Kept (fun g => g = hb ∨ (Value.slice ao N2 c0).ownBlock = some g ∨ (Value.slice aw N2 cw).ownBlock = some g) w1 wr ∧ FRows wr B hb (.slice ao' (N2 + 1) co') (.slice aw' (N2 + 1) cw') (P.map (·.ov) ++ [.slice ga N gc]) (P.map (·.wv) ++ [.slice ua N uc]) sz' ∧ (0 ≤ sz → sz ≤ 2305843009213693952 → sz + j ≤ sz' ∧ sz' ≤ sz + j * 1073741824)))
  case atStart => exact ⟨0, _, rfl, by omega, by omega, ⟨KW0.out, R5.out, fun _ _ => by omega⟩⟩
  case round =>
    obtain ⟨j, s0, rfl, hgk, hj, HW⟩ := hrel
    by_cases hlt : j < N
    · have tlt : (j : Int) < (N : Int) := by omega
      have lx := X1.out.box H1.out.rows HW.out.1
      obtain ⟨z, hz⟩ : ∃ z, x.l[j]? = some z := ⟨_, List.getElem?_eq_getElem (by have := HXL.out; omega)⟩
      obtain ⟨da, dc, ed, _⟩ := (lx.ow z (List.mem_of_getElem? hz)).shape
      have hdl : z.wb.length ≤ 1073741823 := by
        have h1 : z.w ∈ M := by rw [← HXX.out.2.2.1]; rw [HXX.out.1] at hz; exact List.mem_map_of_mem (List.mem_of_getElem? hz)
        have h2 : z.w.1 ∈ G.map (·.1) := by rw [← HM.out.1]; exact List.mem_map_of_mem h1
        obtain ⟨p, hp, e⟩ := List.mem_map.1 h2
        have := (HF.out p hp).2.2.2
        rw [e] at this
        exact this
      have hrw := lx.rw
      have exw : x.wv = .slice ua N uc := by rw [HXX.out.1]
      rw [exw, HXL.out] at hrw
      rcases hrw.2 with ⟨_, h0⟩ | ⟨gu, cap, cur, eu, _⟩
      · omega
      simp only [Value.slice.injEq] at eu
      obtain ⟨rfl, _, rfl⟩ := eu
      have m1 := cell_at (hrw.cells (g := gu) rfl (j * 3 + 1) z.wd (flatR_at (x.l.map Fz.w) j z.w (by rw [List.getElem?_map, hz]; rfl) 1 (by omega) _ rfl))
      rw [ed] at m1
      obtain ⟨_, _, k2, kf⟩ := HW.out.2.1.cells
      have f2 := kf 2
      have S2 := hideR (HW.out.2.1.size (n := IntKind.i64.wrap (s0 + ((z.wb.length : Int) + 1))))
      have w1f : IntKind.i64.wrap ((z.wb.length : Int) + 1) = (z.wb.length : Int) + 1 := by rw [IntKind.wrap_i64]; omega
      have hgb : gu ≠ hb := fun e => by
        obtain ⟨c, hc⟩ := row_typeR hrw (g := gu) rfl
        rw [e] at hc
        exact clashF hc HW.out.2.1.box (by decide)
      have sq : (fun X : World => X.cell? ⟨gu, j * 3 + 1, none⟩ = some (.slice da z.wb.length dc)) wr.drew := m1
      rename_i hq1
      clear lx hz ed hrw exw kf hq1
      go_upto_region 6 with fail
      refine wp_region_held_drew (S := fun X => X.cell? ⟨gu, j * 3 + 1, none⟩ = some (.slice da z.wb.length dc)) (by kernel_rfl) sq (fun _ => ?_)
      refine H_take (i := 0) (v := .pointer (some ⟨hb, 0, none⟩)) (some 34) rfl rfl (by kernel_rfl) (by kernel_rfl) (by kernel_rfl) (fun _ _ _ h => h) rfl (fun X hX => ?_) sq ?_
      · go_simp
      simp only [Act.put, List.setIfInBounds_toArray, List.set_cons_zero, List.set_cons_succ]
      refine H_take (i := 1) (v := .pointer (some ⟨hb, 0, none⟩)) (some 35) rfl rfl (by kernel_rfl) (by kernel_rfl) (by kernel_rfl) (fun _ _ _ h => h) rfl (fun X hX => ?_) sq ?_
      · go_simp
      simp only [Act.put, List.setIfInBounds_toArray, List.set_cons_zero, List.set_cons_succ]
      refine H_take (i := 2) (v := .pointer (some ⟨hb, 2, none⟩)) (some 36) rfl rfl (by kernel_rfl) (by kernel_rfl) (by kernel_rfl) (fun _ _ _ h => h) rfl (fun X hX => ?_) sq ?_
      · go_simp
      simp only [Act.put, List.setIfInBounds_toArray, List.set_cons_zero, List.set_cons_succ]
      refine H_take (i := 4) (v := .slice (some ⟨gu, 0, none⟩) N uc) (some 38) rfl rfl (by kernel_rfl) (by kernel_rfl) (by kernel_rfl) (fun _ _ _ h => h) rfl (fun X hX => ?_) sq ?_
      · go_simp
      simp only [Act.put, List.setIfInBounds_toArray, List.set_cons_zero, List.set_cons_succ]
      refine H_take (i := 5) (v := .int .i64 (j : Int)) (some 39) rfl rfl (by kernel_rfl) (by kernel_rfl) (by kernel_rfl) (fun _ _ _ h => h) rfl (fun X hX => ?_) sq ?_
      · go_simp
      simp only [Act.put, List.setIfInBounds_toArray, List.set_cons_zero, List.set_cons_succ]
      refine H_take (i := 6) (v := .pointer (some ⟨gu, j * 3, none⟩)) (some 40) rfl rfl (by kernel_rfl) (by kernel_rfl) (by kernel_rfl) (fun _ _ _ h => h) rfl (fun X hX => ?_) sq ?_
      · simp [go_sem, tlt]
      simp only [Act.put, List.setIfInBounds_toArray, List.set_cons_zero, List.set_cons_succ]
      refine H_take (i := 7) (v := .pointer (some ⟨gu, j * 3 + 1, none⟩)) (some 41) rfl rfl (by kernel_rfl) (by kernel_rfl) (by kernel_rfl) (fun _ _ _ h => h) rfl (fun X hX => ?_) sq ?_
      · go_simp
      simp only [Act.put, List.setIfInBounds_toArray, List.set_cons_zero, List.set_cons_succ]
      refine H_take (i := 8) (v := .slice da z.wb.length dc) (some 42) rfl rfl (by kernel_rfl) (by kernel_rfl) (by kernel_rfl) (fun _ _ _ h => h) rfl (fun X hX => ?_) sq ?_
      · simp [go_sem, hX]
      simp only [Act.put, List.setIfInBounds_toArray, List.set_cons_zero, List.set_cons_succ]
      refine H_take (i := 9) (v := .int .i64 (z.wb.length : Int)) (some 43) rfl rfl (by kernel_rfl) (by kernel_rfl) (by kernel_rfl) (fun _ _ _ h => h) rfl (fun X hX => ?_) sq ?_
      · go_simp
      simp only [Act.put, List.setIfInBounds_toArray, List.set_cons_zero, List.set_cons_succ]
      refine H_take (i := 10) (v := .int .i64 ((z.wb.length : Int) + 1)) (some 44) rfl rfl (by kernel_rfl) (by kernel_rfl) (by kernel_rfl) (fun _ _ _ h => h) rfl (fun X hX => ?_) sq ?_
      · simp [go_sem, w1f]
      simp only [Act.put, List.setIfInBounds_toArray, List.set_cons_zero, List.set_cons_succ]
      refine wpAnyH_all (rs := [3]) (by kernel_rfl) (by decide) (fun jj hj => ?_)
      obtain rfl : jj = 3 := by simpa using hj
      refine op_value (v := .int .i64 s0) rfl rfl (by simp [go_sem, k2]) ⟨sq, ?_⟩
      simp only [Act.put, List.setIfInBounds_toArray, List.set_cons_zero, List.set_cons_succ]
      refine H_take (i := 11) (v := .int .i64 (IntKind.i64.wrap (s0 + ((z.wb.length : Int) + 1)))) (some 45) rfl rfl (by kernel_rfl) (by kernel_rfl) (by kernel_rfl) (fun _ _ _ h => h) rfl (fun X hX => ?_) sq ?_
      · simp [go_sem]
      simp only [Act.put, List.setIfInBounds_toArray, List.set_cons_zero, List.set_cons_succ]
      refine H_take (i := 12) (v := .pointer (some ⟨hb, 0, none⟩)) (some 46) rfl rfl (by kernel_rfl) (by kernel_rfl) (by kernel_rfl) (fun _ _ _ h => h) rfl (fun X hX => ?_) sq ?_
      · go_simp
      simp only [Act.put, List.setIfInBounds_toArray, List.set_cons_zero, List.set_cons_succ]
      refine H_take (i := 13) (v := .pointer (some ⟨hb, 2, none⟩)) (some 47) rfl rfl (by kernel_rfl) (by kernel_rfl) (by kernel_rfl) (fun _ _ _ h => h) rfl (fun X hX => ?_) sq ?_
      · go_simp
      simp only [Act.put, List.setIfInBounds_toArray, List.set_cons_zero, List.set_cons_succ]
      refine wpAnyH_all (rs := [14]) (by kernel_rfl) (by decide) (fun jj hj => ?_)
      obtain rfl : jj = 14 := by simpa using hj
      refine op_skip (w' := wr.drew.setCell ⟨hb, 2, none⟩ (.int .i64 (IntKind.i64.wrap (s0 + ((z.wb.length : Int) + 1))))) rfl rfl (by simp [go_sem, k2, f2]) ⟨by
        show World.cell? _ _ = _
        rw [World.cell?_of_block (Below.heap_setCell wr.drew ⟨hb, 2, none⟩ _ gu hgb)]
        exact m1, ?_⟩
      refine wpAnyH_done (by kernel_rfl) ?_ _
      simp only [Act.put, List.setIfInBounds_toArray, List.set_cons_zero, List.set_cons_succ]
      go_wp2_with fail
      go_roundg (N - (j + 1))
      case measure => omega
      case rel => exact ⟨j + 1, _, by go_num, Nat.le_refl _, hlt, ⟨HW.out.1.trans (((Kept.ofBelow (Below.refl _ wr).drew)).trans (Kept.setCell _ _ _ _ _ (.inl rfl))), ((HW.out.2.1.later (Below.refl _ wr).drew).size).1, fun h0 h1 => by
        have h2 := HW.out.2.2 h0 h1
        have hw2 : wrap64 (s0 + ((z.wb.length : Int) + 1)) = s0 + ((z.wb.length : Int) + 1) := IntWalk.wrap64_in _ ⟨by omega, by omega⟩
        rw [hw2]
        omega⟩⟩
    · have tlt : ¬ (j : Int) < (N : Int) := by omega
      go_wp2_with fail
      go_end0
      have er : x.ov = .slice ga N gc ∧ x.wv = .slice ua N uc ∧ x.l = zipF G M := by rw [HXX.out.1]; exact ⟨rfl, rfl, rfl⟩
      refine ⟨rfl, (Kept.ofBelow B1.out).trans HW.out.1, _, _, s0, x, ⟨?_, fun y hy => ?_⟩, er.1, by rw [er.2.2]; exact HXX.out.2.1, by rw [er.2.2]; exact HXX.out.2.2.2, ?_, ?_, L2.out, L4.out, ?_⟩
      · rw [List.map_append, List.map_append]
        simp only [List.map_cons, List.map_nil, er.1, er.2.1]
        exact HW.out.2.1
      · rcases List.mem_append.1 hy with hy | hy
        · exact (H1.out.ls y hy).box H1.out.rows HW.out.1
        · have : y = x := by simpa using hy
          rw [this]
          exact X1.out.box H1.out.rows HW.out.1
      · rw [er.2.1]
        exact fun g e => (F1.out.row.lt g e).1
      · intro z hz g e
        rw [er.2.2] at hz
        have : z.w ∈ M := by rw [← HXX.out.2.2.1]; exact List.mem_map_of_mem hz
        exact ((F1.out.own _ this).lt g e).1
      · intro h0 h1
        have h2 := HW.out.2.2 h0 h1
        have h3 := HN.out
        omega
end Go.Proofs.Ytnpofjeiamjioaa
