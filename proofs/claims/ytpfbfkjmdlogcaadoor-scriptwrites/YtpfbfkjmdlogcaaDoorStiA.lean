/-
  StillW, WritesK.
-/
import Derived.Test.YtpfbfkjmdlogcaaDoorLenA
import Derived.Test.YtpfbfkjmdlogcaaDoorBeyA
import Derived.Test.YtpfbfkjmdlogcaaDoorShortW
import Derived.Test.YtpfbfkjmdlogcaaDoorLentW
import Derived.Laws.CopyRow
namespace Go.Proofs.YtpfbfkjmdlogcaaDoor
open Go.RowKit

/-- The lists of a play that is lent, one further. -/
def StIn (W : World) (gl gk : Nat) (o : List Sq) : Prop := ∀ (i : Nat) (x : Sq), o[i]? = some x → ∃ gd cd gn cn, W.cell? ⟨gl, i, none⟩ = some (.slice (some ⟨gd, 0, none⟩) (x.p.data.length + 1) cd) ∧ IsBytes W (some ⟨gd, 0, none⟩) cd (x.p.data ++ [165]) ∧ W.cell? ⟨gk, i, none⟩ = some (.slice (some ⟨gn, 0, none⟩) (x.p.keep.length + 1) cn) ∧ IsInts W (some ⟨gn, 0, none⟩) cn (x.p.keep ++ [-99])
theorem StIn.later {W w : World} {gl gk : Nat} {o : List Sq} (h : StIn W gl gk o) (hb : Below W.heap.size W w) : StIn w gl gk o := by
  intro i x hx
  obtain ⟨gd, cd, gn, cn, h1, h2, h3, h4⟩ := h i x hx
  exact ⟨gd, cd, gn, cn, (hb.cell (p := ⟨gl, i, none⟩) (cell_lt h1)).trans h1, h2.below hb, (hb.cell (p := ⟨gk, i, none⟩) (cell_lt h3)).trans h3, h4.below hb⟩
theorem IsBytes.part {w : World} {g c : Nat} {d e : List UInt8} (h : IsBytes w (some ⟨g, 0, none⟩) c (d ++ e)) : IsBytes w (some ⟨g, 0, none⟩) c d := by
  obtain ⟨h1, h2, h3⟩ := h
  rw [List.length_append] at h1
  refine ⟨by omega, h2, ?_⟩
  rcases h3 with h0 | ⟨b, o, e1, hb, hc⟩
  · left; simp at h0; exact h0.1
  · exact .inr ⟨b, o, e1, hb, fun j x hj => hc j x (by rw [List.getElem?_append_left (List.getElem?_eq_some_iff.1 hj).1]; exact hj)⟩
theorem IsBytes.last {w : World} {g c : Nat} {d : List UInt8} {x : UInt8} (h : IsBytes w (some ⟨g, 0, none⟩) c (d ++ [x])) : w.cell? ⟨g, d.length, none⟩ = some (.int .u8 (x.toNat : Int)) ∧ d.length + 1 ≤ c := by
  obtain ⟨h1, h2, h3⟩ := h
  rw [List.length_append] at h1
  rcases h3 with h0 | ⟨b, o, e1, hb, hc⟩
  · simp at h0
  · cases e1
    have := hc d.length x (by simp)
    rw [Nat.zero_add] at this
    exact ⟨this, h1⟩
theorem IsInts.last {w : World} {g c : Nat} {d : List Int} {x : Int} (h : IsInts w (some ⟨g, 0, none⟩) c (d ++ [x])) : w.cell? ⟨g, d.length, none⟩ = some (.int .i64 x) ∧ d.length + 1 ≤ c := by
  obtain ⟨h1, h2, h3⟩ := h
  rw [List.length_append] at h1
  rcases h3 with h0 | ⟨b, o, e1, hb, hc⟩
  · simp at h0
  · cases e1
    have := hc d.length x (by simp)
    rw [Nat.zero_add] at this
    exact ⟨this, h1⟩
set_option maxHeartbeats 8000000 in
set_option maxRecDepth 1000000 in
theorem still_any (W : World) (gl gk cl ck gs cs : Nat) (j s q : Int) (a : Option Addr) (c : Nat) (l o : List Sq) (h : PlayIn W (.slice a l.length c) l) (ho : PlayIn W (.slice (some ⟨gs, 0, none⟩) l.length cs) o) (h99 : W.cell? ⟨gs, l.length * 5, none⟩ = some (.int .i64 (-99))) (hm : o.map (·.p) = l.map (·.p)) (hst : StIn W gl gk o) (hcap : l.length + 1 ≤ cs) (hs : SmallP l) :
    Calls Tryd.prog 17 #[.slice (some ⟨gl, 0, none⟩) l.length cl, .slice (some ⟨gk, 0, none⟩) l.length ck, .slice (some ⟨gs, 0, none⟩) (l.length + 1) cs, .agg #[.int .i64 j, .int .i64 s, .int .i64 q, .slice a l.length c]] W fun e w' => e = .returned (.bool true) ∧ Below W.heap.size W w' := by
  have b1 : Below W.heap.size W (W.alloc (.cells #[.int .i64 j, .int .i64 s, .int .i64 q, .slice a l.length c] 31)) := (Below.refl _ W).alloc (Nat.le_refl _) _
  have x1 := heap_alloc_new W (.cells #[.int .i64 j, .int .i64 s, .int .i64 q, .slice a l.length c] 31)
  generalize hw1 : W.alloc (.cells #[.int .i64 j, .int .i64 s, .int .i64 q, .slice a l.length c] 31) = w1 at b1 x1
  have HW1 := hide hw1
  have HB1 := hide b1
  have HX1 := hide x1
  have HP := hide h
  have HS := hide hs
  have HST := hide hst
  have HM := hide hm
  have HGS : Hid (W.cell? ⟨gs, l.length * 5, none⟩ = some (.int .i64 (-99))) := h99
  have CS : Hid (∀ X, Below w1.heap.size w1 X → Calls Tryd.prog 13 #[.agg #[.int .i64 0, .int .i64 0, .int .i64 0, .slice (some ⟨gs, 0, none⟩) l.length cs], .agg #[.int .i64 0, .int .i64 0, .int .i64 0, .slice a l.length c]] X fun e w' => e = .returned (.bool true) ∧ Below X.heap.size X w') := fun X hX => by
    have hb := b1.trans (hX.mono b1.size)
    exact same_same X 0 0 0 _ _ o l (ho.later hb) (h.later hb) hm
  have k3 : w1.cell? ⟨W.heap.size, 3, none⟩ = some (.slice a l.length c) := by simp [World.cell?, x1]
  have hml : l.length ≤ 2147483647 := hs.1
  have i1 : (l.length : Int) ≤ (cs : Int) := by omega
  clear hw1 b1 x1 h hs hst hm h99 ho
  go_enter Tryd.func17, Tryd.ntmps17
  go_upto_region 1 with fail
  rw [HW1.out]
  go_upto_region 2 with fail
  go_cut [10] from 17 to 24 (fun s10 wv => ∃ wx, wx = wv ∧ s10 = .bool true ∧ Hid (Below w1.heap.size w1 wx))
  case first =>
    go_region_law (
      go_simp
      go_at_call 13
      refine (CS.out _ (by first | exact (Below.refl _ w1) | exact (Below.refl _ w1).drew)).mono ?_
      rintro e w5 ⟨rfl, b5⟩
      have H5 : Hid (Below w1.heap.size w1 w5) := ⟨b5.os, b5.tape, b5.output, b5.size, b5.block⟩
      clear b5)
    all_goals go_wp2_with fail
    all_goals go_meet
    all_goals exact ⟨_, rfl, rfl, H5⟩
  case rest =>
    obtain ⟨w2, rfl, rfl, H2⟩ := hcut
    have H2W := hide (HB1.out.trans (H2.out.mono HB1.out.size))
    have X2 := hide ((H2.out.block _ (Array.getElem?_eq_some_iff.1 HX1.out).1).trans HX1.out)
    have c99 : w2.cell? ⟨gs, l.length * 5, none⟩ = some (.int .i64 (-99)) := (H2W.out.cell (p := ⟨gs, l.length * 5, none⟩) (cell_lt HGS.out)).trans HGS.out
    have i2 : (l.length : Int) < (l.length : Int) + 1 := by omega
    clear k3 CS H2
    go_wp2_with fail
    go_loopg [11] l.length (fun gg i wr => ∃ (n : Nat), i = .int .i64 (n : Int) ∧ l.length - n ≤ gg ∧ n ≤ l.length ∧ Hid (Below w2.heap.size w2 wr))
    case atStart => exact ⟨0, rfl, by omega, by omega, Below.refl _ w2⟩
    case round =>
      obtain ⟨n, rfl, hgg, hn, HB⟩ := hrel
      by_cases hlt : n < l.length
      · have tlt : (n : Int) < (l.length : Int) := by omega
        obtain ⟨x, hx⟩ : ∃ x, l[n]? = some x := ⟨_, List.getElem?_eq_getElem hlt⟩
        have HBW := hide (H2W.out.trans (HB.out.mono H2W.out.size))
        obtain ⟨b, oo, e1, m0, m1, m2, m3, m4, hsi⟩ := HP.out.at HBW.out hx
        obtain ⟨y, hy⟩ : ∃ y, o[n]? = some y := ⟨_, List.getElem?_eq_getElem (by have := congrArg List.length HM.out; simp at this; omega)⟩
        have hyx : y.p = x.p := by
          have h1 := congrArg (fun z => z[n]?) HM.out
          simp only [List.getElem?_map, hx, hy] at h1
          exact Option.some.inj h1
        obtain ⟨gd, cd, gn, cn, t1, t2, t3, t4⟩ := (HST.out.later HBW.out) n y hy
        rw [hyx] at t1 t2 t3 t4
        have kx : wr.cell? ⟨W.heap.size, 3, none⟩ = some (.slice a l.length c) := by
          have := (HB.out.block _ (Array.getElem?_eq_some_iff.1 X2.out).1).trans X2.out
          simp [World.cell?, this]
        have hsm := HS.out.2 _ (List.mem_of_getElem? hx)
        obtain ⟨p, dv, kv⟩ := x
        obtain ⟨⟨ad, cd', e2, i2'⟩, ak, ck', e4, i4'⟩ := hsi
        simp only [] at e2 e4 i2' i4' m0 m1 m2 m3 m4 t1 t2 t3 t4 hsm
        subst e1 e2 e4
        obtain ⟨l1, l2⟩ := t2.last
        obtain ⟨l3, l4⟩ := t4.last
        have q1 : ∀ m, (convert 41 9 (.slice (some ⟨gd, 0, none⟩) p.data.length cd)).run Tryd.prog (wr.drewN m) = .ok (.string ⟨p.data.toArray⟩) (wr.drewN m) := fun m => conv_is (t2.part.below ⟨rfl, rfl, rfl, Nat.le_refl _, fun _ _ => rfl⟩) rfl
        have q2 : ∀ m, (convert 41 9 (.slice ad p.data.length cd')).run Tryd.prog (wr.drewN m) = .ok (.string ⟨p.data.toArray⟩) (wr.drewN m) := fun m => conv_is (i2'.below ⟨rfl, rfl, rfl, Nat.le_refl _, fun _ _ => rfl⟩) rfl
        have i5 : (p.data.length : Int) ≤ (cd : Int) := by omega
        have i6 : (p.data.length : Int) < (p.data.length : Int) + 1 := by omega
        have i7 : (p.keep.length : Int) < (p.keep.length : Int) + 1 := by omega
        have l1' : wr.cell? ⟨gd, p.data.length, none⟩ = some (.int .u8 165) := l1
        clear hx hy hyx t2 t4 i2' i4' m0 m1 m3 l1
        go_upto_region 10 with fail
        go_quiet (fail)
        generalize hWd : wr.drewN _ = Wd
        have HBd : Hid (Below w2.heap.size w2 Wd) := by
          have : Below w2.heap.size w2 (wr.drewN nq) := HB.out.trans ⟨rfl, rfl, rfl, Nat.le_refl _, fun _ _ => rfl⟩
          rw [hWd] at this
          exact this
        clear hWd q1 q2
        go_wp2_with fail
        go_roundg (l.length - (n + 1))
        case measure => omega
        case rel => exact ⟨n + 1, by go_num, Nat.le_refl _, hlt, HBd⟩
      · have tlt : ¬ (n : Int) < (l.length : Int) := by omega
        go_wp2_with fail
        go_ret
        exact ⟨rfl, H2W.out.trans (HB.out.mono H2W.out.size)⟩
end Go.Proofs.YtpfbfkjmdlogcaaDoor

namespace Go.Proofs.YtpfbfkjmdlogcaaDoor
open Go.RowKit

/-! ### A step stored into a row of steps -/

theorem run_storeVar_at {P : Program} (w : World) (g o : Nat) (t ty : TypeId) (cur cells : Array Value) (hg : w.heap[g]? = some (.cells cur t (0, 0))) (hi : (P.info? ty).map (·.size) = some cells.size)
    (ho : o + cells.size ≤ cur.size) (h1 : cells.all (·.oneCell') = true) :
    (storeVar ty ⟨g, o, none⟩ (.agg cells)).run P w = .ok () (w.setRow g (cur.toList.take o ++ cells.toList ++ cur.toList.drop (o + cells.size)).toArray) := by
  have := run_storeCells_at (P := P) g o t cells.toList 0 cur w hg (by simp; omega) (fun v hv => (Array.all_eq_true_iff_forall_mem.1 h1) v (by simpa using hv))
  simp only [Nat.add_zero, Array.length_toList] at this
  cases hq : P.info? ty with
  | none => simp [hq] at hi
  | some i =>
    have hs : cells.size = i.size := by simp [hq] at hi; omega
    simp [storeVar, sizeOf, typeInfo, hq, Value.cells, hs, this]
theorem run_exec_storeAt {P : Program} {o : Oper} {a : Act} {w : World} {ty : TypeId} {x y : Operand} (ho : o.op = .store ty x y) (g k : Nat) (cells : Array Value) (hx : a.eval x = .pointer (some ⟨g, k, none⟩)) (hy : a.eval y = .agg cells)
    (t : TypeId) (cur : Array Value) (hg : w.heap[g]? = some (.cells cur t (0, 0))) (hi : (P.info? ty).map (·.size) = some cells.size) (hold : k + cells.size ≤ cur.size) (h1 : cells.all (·.oneCell') = true) :
    (execOp a.eval o).run P w = .ok .skip (w.setRow g (cur.toList.take k ++ cells.toList ++ cur.toList.drop (k + cells.size)).toArray) := by
  unfold execOp
  simp only [ho, hx, hy, Instr.storeAt, Instr.sureAddr, Sem.run_bind, Sem.run_pure, Result.andThen_ok, run_storeVar_at w g k t ty cur cells hg hi hold h1]
theorem step_size {a b c d e : Value} : (Tryd.prog.info? 44).map (·.size) = some (#[a, b, c, d, e] : Array Value).size := by kernel_rfl
theorem step_one {x y z : Int} {a1 a2 : Option Addr} {n1 n2 c1 c2 : Nat} : (#[.int .i64 x, .int .i64 y, .slice a1 n1 c1, .int .i64 z, .slice a2 n2 c2] : Array Value).all (·.oneCell') = true := by simp [Value.oneCell']
theorem flat_take (l : List Sq) (i : Nat) : (flatS l).take (i * 5) = flatS (l.take i) := by
  induction l generalizing i with
  | nil => simp [flatS]
  | cons a l ih =>
    have hla : (sqCells a).length = 5 := rfl
    cases i with
    | zero => simp [flatS]
    | succ i =>
      show (sqCells a ++ flatS l).take ((i + 1) * 5) = sqCells a ++ flatS (l.take i)
      rw [List.take_append, List.take_of_length_le (by omega), hla, show (i + 1) * 5 - 5 = i * 5 by omega, ih]
theorem flat_drop (l : List Sq) (i : Nat) : (flatS l).drop (i * 5) = flatS (l.drop i) := by
  induction l generalizing i with
  | nil => simp [flatS]
  | cons a l ih =>
    have hla : (sqCells a).length = 5 := rfl
    cases i with
    | zero => simp [flatS]
    | succ i =>
      show (sqCells a ++ flatS l).drop ((i + 1) * 5) = flatS (l.drop i)
      rw [List.drop_append, List.drop_of_length_le (by omega), List.nil_append, hla, show (i + 1) * 5 - 5 = i * 5 by omega, ih]
theorem set_parts {α : Type} (l : List α) (i : Nat) (z : α) (h : i < l.length) : l.set i z = l.take i ++ z :: l.drop (i + 1) := by
  rw [List.set_eq_take_append_cons_drop, if_pos h]
theorem row_store {w : World} {B g n cap i : Nat} {l : List Sq} (h : w.ownsRow B 44 5 (.slice (some ⟨g, 0, none⟩) n cap) n (flatS l)) (z : Sq) (hi : i < l.length) :
    ∃ cur, w.heap[g]? = some (.cells cur 44 (0, 0)) ∧ i * 5 + 5 ≤ cur.size ∧ (w.setRow g (cur.toList.take (i * 5) ++ (sqCells z) ++ cur.toList.drop (i * 5 + 5)).toArray).ownsRow B 44 5 (.slice (some ⟨g, 0, none⟩) n cap) n (flatS (l.set i z)) := by
  have hn : n = l.length := by have := h.1; rw [flatS_length] at this; omega
  rcases h.2 with ⟨e, _⟩ | ⟨g', cap', cur, e, hB, hg, hnc, hcm, hcs, htake⟩
  · cases e
  simp only [Value.slice.injEq, Option.some.injEq, Addr.mk.injEq, and_true, true_and] at e
  obtain ⟨rfl, rfl⟩ := e
  have hz : (sqCells z).length = 5 := rfl
  refine ⟨cur, hg, by omega, ⟨by rw [flatS_length, List.length_set, hn], .inr ⟨g, cap, _, rfl, hB, setRow_heap w g _ _ _ _ hg, hnc, hcm, ?_, ?_⟩⟩⟩
  · simp only [List.size_toArray, List.length_append, List.length_take, List.length_drop, Array.length_toList, hz]
    omega
  · have hA : (cur.toList.take (i * 5)).length = i * 5 := by rw [List.length_take, Array.length_toList]; omega
    have e1 : cur.toList.take (i * 5) = flatS (l.take i) := by
      rw [← flat_take, ← htake, List.take_take, Nat.min_eq_left (by omega)]
    have e2 : (cur.toList.drop (i * 5 + 5)).take (n * 5 - (i * 5 + 5)) = flatS (l.drop (i + 1)) := by
      rw [← flat_drop, ← htake, List.drop_take, show (i + 1) * 5 = i * 5 + 5 by omega]
    simp only []
    rw [List.take_append, List.take_of_length_le (by rw [List.length_append, hA, hz]; omega), List.length_append, hA, hz, e2, e1, set_parts l i z hi, flatS_append]
    show _ = flatS (l.take i) ++ (sqCells z ++ flatS (l.drop (i + 1)))
    rw [List.append_assoc]

/-! ### Lists turned round, place by place -/

theorem mixed_set {α : Type} (L o : List α) (k : Nat) (x : α) (hl : L.length = o.length) (hx : L[k]? = some x) : (L.take k ++ o.drop k).set k x = L.take (k + 1) ++ o.drop (k + 1) := by
  have hk := (List.getElem?_eq_some_iff.1 hx).1
  have h1 : (L.take k).length = k := by rw [List.length_take]; omega
  rw [List.set_append_right _ _ (by omega), h1, Nat.sub_self, List.drop_eq_getElem_cons (by omega), List.set_cons_zero, List.take_add_one, hx]
  simp
theorem mixed_len {α : Type} (L o : List α) (k : Nat) (hl : L.length = o.length) (hk : k ≤ o.length) : (L.take k ++ o.drop k).length = o.length := by
  rw [List.length_append, List.length_take, List.length_drop]
  omega

/-! ### Lists of slices of the call's own -/

theorem info_lists : (Tryd.prog.info? 41).map (fun i => (i.zero, i.size, i.bytes)) = some (some (.slice none 0 0), 1, 24) := by kernel_rfl
theorem run_appendV {t e : TypeId} (ht : Tryd.prog.underlying t = some (.slice e)) (hinfo : (Tryd.prog.info? e).map (fun i => (i.zero, i.size, i.bytes)) = some (some (.slice none 0 0), 1, 24)) (ty : TypeId)
    (w : World) (B : Nat) (v : Value) (n : Nat) (xs : List Value) (hown : w.ownsRow B e 1 v n xs) (g c : Nat) (u : Value) (hm : w.cell? ⟨g, 0, none⟩ = some u) (h1 : u.oneCell' = true) (hb : n ≤ 2147483647) (hbase : B ≤ w.heap.size) :
    ∃ v' w', (Builtin.append_ #[t, t] ty #[v, .slice (some ⟨g, 0, none⟩) 1 c]).run Tryd.prog w = .ok v' w' ∧ w'.ownsRow B e 1 v' (n + 1) (xs ++ [u]) ∧ w.grownBy w' v.ownBlock := by
  obtain ⟨i, hi, hz0, hz1, hz2⟩ := info_parts hinfo
  obtain ⟨v', w', hr, h2, h3, h4, h5, h6⟩ := run_append_keeps (P := Tryd.prog) w B t ty e i (.slice none 0 0) ht hi hz0 hz1 rfl v n xs hown (some ⟨g, 0, none⟩) 1 c [u] rfl (.inr ⟨_, rfl, fun j z hj => by
    cases j with
    | zero => simp at hj; subst hj; simpa [Addr.add] using hm
    | succ j => simp at hj⟩) (by intro z hz; simp at hz; subst hz; exact h1) (by unfold maxLen; omega) (by rw [hz2]; omega) hbase
  exact ⟨v', w', hr, h2, h3⟩
theorem run_exec_appendV {w w' : World} {o : Oper} {a : Act} {t : TypeId} {v y v' : Value} (s x : Operand) (ho : o.op = .call { callee := .builtin .append, args := #[s, x], argTypes := #[t, t] }) (hs : a.eval s = v) (hx : a.eval x = y)
    (hr : (Builtin.append_ #[t, t] o.type #[v, y]).run Tryd.prog w = .ok v' w') : (execOp a.eval o).run Tryd.prog w = .ok (.value v') w' := by
  unfold execOp
  simp only [ho, resolve, invoke, builtin, Sem.run_bind, Sem.run_pure, Result.andThen_ok, List.map_toArray, List.map_cons, List.map_nil, hs, hx, hr]

/-! ### What stands in memory -/

structure WI (W w : World) (B ib g cc : Nat) (j s q : Int) (sv : Value) (o : List Sq) : Prop where
  low : Below W.heap.size W w
  pb : w.heap[W.heap.size]? = some (.cells #[.int .i64 j, .int .i64 s, .int .i64 q, sv] 31 (0, 0))
  ibx : w.heap[ib]? = some (.cells #[.int .i64 j, .int .i64 s, .int .i64 q, .slice (some ⟨g, 0, none⟩) o.length cc] 31 (0, 0))
  fin : FinL w B g cc o
  hB : W.heap.size < B
  hib : B ≤ ib
section
variable {W w w' : World} {B ib g cc : Nat} {j s q : Int} {sv : Value} {o : List Sq} {P : Nat → Prop}
theorem WI.big (h : WI W w B ib g cc j s q sv o) : ib < w.heap.size := (Array.getElem?_eq_some_iff.1 h.ibx).1
theorem WI.kept (h : WI W w B ib g cc j s q sv o) (hk : Kept P w w') (hP : ∀ i, P i → W.heap.size ≤ i ∧ ∀ cur t, w.heap[i]? = some (.cells cur t (0, 0)) → t ≠ 31 ∧ t ≠ 44 ∧ t ≠ 5 ∧ t ≠ 3) : WI W w' B ib g cc j s q sv o := by
  have hb := h.big
  have hz := h.low.size
  have := h.hB
  have := h.hib
  refine ⟨h.low.trans (hk.below hz (fun i hi e => by have := (hP i e).1; omega)), (hk.block _ (by omega) (fun e => ((hP _ e).2 _ _ h.pb).1 rfl)).trans h.pb, (hk.block _ hb (fun e => ((hP _ e).2 _ _ h.ibx).1 rfl)).trans h.ibx, ⟨row5_kept h.fin.row hk (fun i cur e hc => ((hP _ e).2 _ _ hc).2.1 rfl), h.fin.rs.keptT hk (fun i cur e hc => ((hP _ e).2 _ _ hc).2.2.1 rfl) (fun i cur e hc => ((hP _ e).2 _ _ hc).2.2.2 rfl)⟩, h.hB, h.hib⟩
theorem WI.later (h : WI W w B ib g cc j s q sv o) (hb : Below w.heap.size w w') : WI W w' B ib g cc j s q sv o := h.kept (P := fun _ => False) (Kept.ofBelow hb) (fun _ e => e.elim)
theorem WI.cells (h : WI W w B ib g cc j s q sv o) : w.cell? ⟨W.heap.size, 0, none⟩ = some (.int .i64 j) ∧ w.cell? ⟨W.heap.size, 1, none⟩ = some (.int .i64 s) ∧ w.cell? ⟨W.heap.size, 2, none⟩ = some (.int .i64 q) ∧ w.cell? ⟨W.heap.size, 3, none⟩ = some sv ∧
    w.cell? ⟨ib, 0, none⟩ = some (.int .i64 j) ∧ w.cell? ⟨ib, 1, none⟩ = some (.int .i64 s) ∧ w.cell? ⟨ib, 2, none⟩ = some (.int .i64 q) ∧ w.cell? ⟨ib, 3, none⟩ = some (.slice (some ⟨g, 0, none⟩) o.length cc) := by
  simp [World.cell?, h.pb, h.ibx]
theorem WI.step (h : WI W w B ib g cc j s q sv o) {i : Nat} {x : Sq} (hx : o[i]? = some x) : w.cell? ⟨g, i * 5 + 2, none⟩ = some x.dv ∧ w.cell? ⟨g, i * 5 + 4, none⟩ = some x.kv := by
  have hl := (List.getElem?_eq_some_iff.1 hx).1
  have := row_at (o := o ++ [z99]) h.fin.row (i := i) (x := x) (by rw [List.getElem?_append_left hl]; exact hx)
  exact ⟨this.2.2.1, this.2.2.2.2.1⟩
theorem WI.play (h : WI W w B ib g cc j s q sv o) (hl : o.length ≤ maxLen) : PlayIn w (.slice (some ⟨g, 0, none⟩) o.length cc) o := play_own h.fin.row rfl hl h.fin.rs.ins
theorem WI.last (h : WI W w B ib g cc j s q sv o) : w.cell? ⟨g, o.length * 5, none⟩ = some (.int .i64 (-99)) := (row_at (o := o ++ [z99]) h.fin.row (i := o.length) (x := z99) (by simp)).1
theorem WI.cap (h : WI W w B ib g cc j s q sv o) : o.length + 1 ≤ cc := by
  rcases h.fin.row.2 with ⟨e, _⟩ | ⟨_, _, _, e, _, _, hc, _⟩
  · cases e
  · cases e; exact hc
end
theorem WI.grown {W w w' : World} {B ib g cc : Nat} {j s q : Int} {sv : Value} {o : List Sq} (h : WI W w B ib g cc j s q sv o) {BL e m : Nat} {v : Value} {xs : List Value} (hr : w.ownsRow BL e 1 v m xs) (hBL : W.heap.size ≤ BL) (hg : w.grownBy w' v.ownBlock) (he : e ≠ 31 ∧ e ≠ 44 ∧ e ≠ 5 ∧ e ≠ 3) : WI W w' B ib g cc j s q sv o := by
  refine h.kept (Kept.ofGrown hg (fun g e => e)) (fun i hi => ⟨Nat.le_trans hBL (hr.lt i hi).1, fun cur t hc => ?_⟩)
  obtain ⟨cur2, h2⟩ := row_of_type hr hi
  rw [hc] at h2
  simp at h2
  rw [h2.2]
  exact he
theorem row_apart {w w' : World} {B1 B2 e1 e2 n m : Nat} {v u : Value} {xs ys : List Value} (hr : w.ownsRow B1 e1 1 v n xs) (hu : w.ownsRow B2 e2 1 u m ys) (he : e1 ≠ e2) (hg : w.grownBy w' v.ownBlock) : w'.ownsRow B2 e2 1 u m ys := by
  refine Kept.own (Kept.ofGrown hg (fun g e => e)) hu (fun i hi h1 => ?_)
  obtain ⟨c1, h1⟩ := row_of_type hr h1
  obtain ⟨c2, h2⟩ := row_of_type hu hi
  rw [h1] at h2
  simp at h2
  exact he h2.2
theorem row_some {w : World} {B e n : Nat} {v : Value} {xs : List Value} (h : w.ownsRow B e 1 v n xs) (hn : 0 < n) : v ≠ .slice none 0 0 := by
  rintro rfl
  rcases h.2 with ⟨_, e⟩ | ⟨_, _, _, e, _⟩
  · omega
  · cases e
theorem row_form {w : World} {B e n : Nat} {v : Value} {xs : List Value} (h : w.ownsRow B e 1 v n xs) (hn : v ≠ .slice none 0 0) : ∃ g c, v = .slice (some ⟨g, 0, none⟩) n c := by
  rcases h.2 with ⟨e, _⟩ | ⟨g, c, _, e, _⟩
  · exact absurd e hn
  · exact ⟨g, c, e⟩
/-- A slice, one longer. -/
def moreV : Value → Value
  | .slice a n c => .slice a (n + 1) c
  | v => v
/-- The lists of slices. -/
structure LL (w : World) (B : Nat) (lv kv : Value) (o : List Sq) : Prop where
  d : w.ownsRow B 41 1 lv o.length (o.map fun x => moreV x.dv)
  k : w.ownsRow B 42 1 kv o.length (o.map fun x => moreV x.kv)
theorem LL.later {w w' : World} {B : Nat} {lv kv : Value} {o : List Sq} (h : LL w B lv kv o) (hb : Below w.heap.size w w') : LL w' B lv kv o :=
  ⟨Kept.own (P := fun _ => False) (Kept.ofBelow hb) h.d (fun _ _ h => h), Kept.own (P := fun _ => False) (Kept.ofBelow hb) h.k (fun _ _ h => h)⟩
theorem LL.stIn {W w : World} {B ib g cc : Nat} {j s q : Int} {sv : Value} {o : List Sq} (h : WI W w B ib g cc j s q sv o) {BL gl gk cl ck n m : Nat} (hl : LL w BL (.slice (some ⟨gl, 0, none⟩) n cl) (.slice (some ⟨gk, 0, none⟩) m ck) o) : StIn w gl gk o := by
  have hn : n = o.length := by
    rcases hl.d.2 with ⟨e, _⟩ | ⟨_, _, _, e, _⟩
    · cases e
    · cases e; rfl
  have hm : m = o.length := by
    rcases hl.k.2 with ⟨e, _⟩ | ⟨_, _, _, e, _⟩
    · cases e
    · cases e; rfl
  subst hn hm
  intro i x hx
  have hlt := (List.getElem?_eq_some_iff.1 hx).1
  have hd := h.fin.rs.d i x hx
  have hk := h.fin.rs.k i x hx
  rw [if_pos hlt] at hd hk
  obtain ⟨gd, cd, ed, od⟩ := hd
  obtain ⟨gn, cn, en, on⟩ := hk
  have c1 := hl.d.cellAt i (by omega)
  have c2 := hl.k.cellAt i (by omega)
  rw [List.getElem?_map, hx] at c1 c2
  simp only [Option.map_some, ed, en, moreV] at c1 c2
  obtain ⟨a1, c1', e1, i1⟩ := od.shape
  obtain ⟨a2, c2', e2, i2⟩ := on.shape
  simp only [Value.slice.injEq, true_and] at e1 e2
  obtain ⟨rfl, rfl⟩ := e1
  obtain ⟨rfl, rfl⟩ := e2
  exact ⟨gd, cd, gn, cn, c1, i1, c2, i2⟩
/-- While the steps of two plays are turned round. -/
structure W2 (W w : World) (B ib g cc BT tb : Nat) (ta : Option Addr) (tc n : Nat) (j s q : Int) (sv : Value) (oi ot : List Sq) : Prop where
  low : Below W.heap.size W w
  pb : w.heap[W.heap.size]? = some (.cells #[.int .i64 j, .int .i64 s, .int .i64 q, sv] 31 (0, 0))
  ibx : w.heap[ib]? = some (.cells #[.int .i64 j, .int .i64 s, .int .i64 q, .slice (some ⟨g, 0, none⟩) n cc] 31 (0, 0))
  tbx : w.heap[tb]? = some (.cells #[.int .i64 j, .int .i64 s, .int .i64 q, .slice ta n tc] 31 (0, 0))
  inr : w.ownsRow B 44 5 (.slice (some ⟨g, 0, none⟩) (n + 1) cc) (n + 1) (flatS (oi ++ [z99]))
  tr : w.ownsRow BT 44 5 (.slice ta n tc) n (flatS ot)
  hB : W.heap.size < B
  hg : g < BT
  li : oi.length = n
  lt : ot.length = n
section
variable {W w w' : World} {B ib g cc BT tb : Nat} {ta : Option Addr} {tc n : Nat} {j s q : Int} {sv : Value} {oi ot : List Sq}
theorem W2.cells (h : W2 W w B ib g cc BT tb ta tc n j s q sv oi ot) : w.cell? ⟨W.heap.size, 3, none⟩ = some sv ∧ w.cell? ⟨ib, 3, none⟩ = some (.slice (some ⟨g, 0, none⟩) n cc) ∧ w.cell? ⟨tb, 3, none⟩ = some (.slice ta n tc) := by
  simp [World.cell?, h.pb, h.ibx, h.tbx]
theorem W2.boxes (h : W2 W w B ib g cc BT tb ta tc n j s q sv oi ot) : w.cell? ⟨ib, 0, none⟩ = some (.int .i64 j) ∧ w.cell? ⟨ib, 1, none⟩ = some (.int .i64 s) ∧ w.cell? ⟨ib, 2, none⟩ = some (.int .i64 q) ∧ w.cell? ⟨tb, 0, none⟩ = some (.int .i64 j) ∧ w.cell? ⟨tb, 1, none⟩ = some (.int .i64 s) ∧ w.cell? ⟨tb, 2, none⟩ = some (.int .i64 q) := by
  simp [World.cell?, h.ibx, h.tbx]
theorem row5_one {P : Nat → Prop} {B : Nat} {v : Value} {m : Nat} {xs : List Value} (h : w.ownsRow B 44 5 v m xs) (hk : Kept P w w') (hP : ∀ g, v.ownBlock = some g → ¬ P g) : w'.ownsRow B 44 5 v m xs := by
  refine ⟨h.1, ?_⟩
  rcases h.2 with h0 | ⟨g, cap, cur, e, hB, hgg, rest⟩
  · exact .inl h0
  · exact .inr ⟨g, cap, cur, e, hB, (hk.block g (Array.getElem?_eq_some_iff.1 hgg).1 (fun e2 => hP g (by rw [e]; rfl) e2)).trans hgg, rest⟩
theorem W2.later (h : W2 W w B ib g cc BT tb ta tc n j s q sv oi ot) (hb : Below w.heap.size w w') : W2 W w' B ib g cc BT tb ta tc n j s q sv oi ot :=
  ⟨h.low.trans (hb.mono h.low.size), (hb.block _ (Array.getElem?_eq_some_iff.1 h.pb).1).trans h.pb, (hb.block _ (Array.getElem?_eq_some_iff.1 h.ibx).1).trans h.ibx, (hb.block _ (Array.getElem?_eq_some_iff.1 h.tbx).1).trans h.tbx, own5_later h.inr hb, own5_later h.tr hb, h.hB, h.hg, h.li, h.lt⟩
theorem W2.putT (h : W2 W w B ib g cc BT tb ta tc n j s q sv oi ot) {gt : Nat} (e : ta = some ⟨gt, 0, none⟩) {i : Nat} (hi : i < n) (z : Sq) :
    ∃ cur, w.heap[gt]? = some (.cells cur 44 (0, 0)) ∧ i * 5 + 5 ≤ cur.size ∧ W2 W (w.setRow gt (cur.toList.take (i * 5) ++ (sqCells z) ++ cur.toList.drop (i * 5 + 5)).toArray) B ib g cc BT tb ta tc n j s q sv oi (ot.set i z) := by
  subst e
  obtain ⟨cur, hc, hs, ho⟩ := row_store h.tr z (i := i) (by rw [h.lt]; exact hi)
  refine ⟨cur, hc, hs, ?_⟩
  have kr : Kept (fun i => i = gt) w (w.setRow gt (cur.toList.take (i * 5) ++ (sqCells z) ++ cur.toList.drop (i * 5 + 5)).toArray) := ⟨rfl, rfl, rfl, by simp [World.setRow], fun k _ hk => setRow_other w gt k _ hk⟩
  have hgt := h.tr.lt gt rfl
  have hgi := h.inr.lt g rfl
  have hgl := h.hg
  have hB := h.hB
  have np : ∀ {b : Nat} {cs : Array Value}, w.heap[b]? = some (.cells cs 31 (0, 0)) → ¬ b = gt := fun {b cs} hp e => by
    rw [e, hc] at hp
    simp at hp
  exact ⟨h.low.trans (kr.below h.low.size (fun k hk e => by omega)), (kr.block _ (Array.getElem?_eq_some_iff.1 h.pb).1 (np h.pb)).trans h.pb, (kr.block _ (Array.getElem?_eq_some_iff.1 h.ibx).1 (np h.ibx)).trans h.ibx, (kr.block _ (Array.getElem?_eq_some_iff.1 h.tbx).1 (np h.tbx)).trans h.tbx, row5_one h.inr kr (fun b e e2 => by have e3 : g = b := Option.some.inj e; omega), ho, h.hB, h.hg, h.li, by rw [List.length_set]; exact h.lt⟩
theorem W2.putI (h : W2 W w B ib g cc BT tb ta tc n j s q sv oi ot) {i : Nat} (hi : i < n) (z : Sq) :
    ∃ cur, w.heap[g]? = some (.cells cur 44 (0, 0)) ∧ i * 5 + 5 ≤ cur.size ∧ W2 W (w.setRow g (cur.toList.take (i * 5) ++ (sqCells z) ++ cur.toList.drop (i * 5 + 5)).toArray) B ib g cc BT tb ta tc n j s q sv (oi.set i z) ot := by
  obtain ⟨cur, hc, hs, ho⟩ := row_store h.inr z (i := i) (by rw [List.length_append, h.li]; omega)
  refine ⟨cur, hc, hs, ?_⟩
  rw [List.set_append_left _ _ (by rw [h.li]; exact hi)] at ho
  have kr : Kept (fun i => i = g) w (w.setRow g (cur.toList.take (i * 5) ++ (sqCells z) ++ cur.toList.drop (i * 5 + 5)).toArray) := ⟨rfl, rfl, rfl, by simp [World.setRow], fun k _ hk => setRow_other w g k _ hk⟩
  have hgi := h.inr.lt g rfl
  have hgl := h.hg
  have hB := h.hB
  have np : ∀ {b : Nat} {cs : Array Value}, w.heap[b]? = some (.cells cs 31 (0, 0)) → ¬ b = g := fun {b cs} hp e => by
    rw [e, hc] at hp
    simp at hp
  exact ⟨h.low.trans (kr.below h.low.size (fun k hk e => by omega)), (kr.block _ (Array.getElem?_eq_some_iff.1 h.pb).1 (np h.pb)).trans h.pb, (kr.block _ (Array.getElem?_eq_some_iff.1 h.ibx).1 (np h.ibx)).trans h.ibx, (kr.block _ (Array.getElem?_eq_some_iff.1 h.tbx).1 (np h.tbx)).trans h.tbx, ho, row5_one h.tr kr (fun b e e2 => by have := (h.tr.lt b e).1; omega), h.hB, h.hg, by rw [List.length_set]; exact h.li, h.lt⟩
theorem W2.form (h : W2 W w B ib g cc BT tb ta tc n j s q sv oi ot) (hn : 0 < n) : ∃ gt, ta = some ⟨gt, 0, none⟩ := by
  rcases h.tr.2 with ⟨_, e⟩ | ⟨gt, _, _, e, _⟩
  · omega
  · cases e; exact ⟨gt, rfl⟩
end
end Go.Proofs.YtpfbfkjmdlogcaaDoor
