/-
  RefBroken, RefStepA.
-/
import Derived.Test.YteaccpolmmkclaaDoorRfK
import Derived.Test.YteaccpolmmkclaaDoorStiG
namespace Go.Proofs.YteaccpolmmkclaaDoor
open Go.RowKit Go.Lib

theorem results_cell_tmp_row {P : Program} {fn : Func} {p q : Tmp} {ty : TypeId} (h : fn.results = #[.cell p ty, .tmp q]) (tmps : Array Value) (w : World) (g : Nat) (t : TypeId) (cs : Array Value) (fr : Nat × Nat) (d : TypeDesc) (v : Value)
    (hp : tmps.getD p undef = .pointer (some ⟨g, 0, none⟩)) (hq : tmps.getD q undef = v) (hg : w.heap[g]? = some (.cells cs t fr))
    (hu : P.underlying ty = some d) (hd : (match d with | .struct _ | .array _ _ => true | _ => false) = true) (hi : (P.info? ty).map (·.size) = some cs.size) :
    (results fn tmps).run P w = .ok (.tuple #[.agg cs, v]) w := by
  have hp' : tmps[p]?.getD undef = .pointer (some ⟨g, 0, none⟩) := by simpa using hp
  have hq' : tmps[q]?.getD undef = v := by simpa using hq
  simp [results, h, hp', hq', asAddr, run_loadVar_row w g t ty cs fr d hg hu hd hi]
theorem parseFrom_nonneg (most : Int) : ∀ (l : List UInt8) (n m : Int), 0 ≤ n → parseFrom most l n = some m → 0 ≤ m
  | [], n, m, h, e => by rw [parseFrom] at e; cases e; exact h
  | c :: l, n, m, h, e => by
    rw [parseFrom] at e
    split at e
    · split at e
      · cases e
      · exact parseFrom_nonneg most l _ m (by omega) e
    · cases e
theorem parseV_nonneg (l : List UInt8) (most : Int) : 0 ≤ parseV l most := by
  unfold parseV
  split
  · omega
  · cases h : parseFrom most l 0 with
    | none => simp
    | some m => exact parseFrom_nonneg most l 0 m (by omega) h
def BrokenRP (k cn : Int) (ad : Option Addr) (nd cd : Nat) (l : List Tx) (w : World) (e : Ending) (w' : World) : Prop :=
  Below w.heap.size w w' ∧ ∃ b ak nk ck ok, e = .returned (.tuple #[.agg #[.int .i64 k, .int .i64 cn, .slice ad nd cd, .int .i64 b, .slice ak nk ck], .bool ok]) ∧ ((ok = true ∧ ∃ ks, tailP true false l = some (b, ks) ∧ nk = ks.length ∧ OwnI w' w.heap.size (.slice ak nk ck) ks) ∨ (ok = false ∧ tailP true false l = none))
/-- A step's box, and that of the answer. -/
structure SR (w X : World) (k cn b : Int) (dv kv : Value) : Prop where
  low : Below w.heap.size w X
  box : X.heap[w.heap.size]? = some (.cells #[.int .i64 k, .int .i64 cn, dv, .int .i64 b, kv] 40 (0, 0))
  ret : X.heap[w.heap.size + 1]? = some (.cells #[.int .i64 0, .int .i64 0, .slice none 0 0, .int .i64 0, .slice none 0 0] 40 (0, 0))
theorem sr_start (w : World) (k cn b : Int) (dv kv : Value) : SR w ((w.alloc (.cells #[.int .i64 k, .int .i64 cn, dv, .int .i64 b, kv] 40)).alloc (.cells #[.int .i64 0, .int .i64 0, .slice none 0 0, .int .i64 0, .slice none 0 0] 40)) k cn b dv kv := by
  have a1 := heap_alloc_new w (.cells #[.int .i64 k, .int .i64 cn, dv, .int .i64 b, kv] 40)
  have a2 := heap_alloc_new (w.alloc (.cells #[.int .i64 k, .int .i64 cn, dv, .int .i64 b, kv] 40)) (.cells #[.int .i64 0, .int .i64 0, .slice none 0 0, .int .i64 0, .slice none 0 0] 40)
  rw [World.size_alloc] at a2
  exact ⟨((Below.refl _ w).alloc (Nat.le_refl _) _).alloc (by simp) _, (heap_alloc_old _ _ (by simp)).trans a1, a2⟩
section
variable {w X Y : World} {k cn b : Int} {dv kv : Value}
theorem SR.big (h : SR w X k cn b dv kv) : w.heap.size + 1 < X.heap.size := (Array.getElem?_eq_some_iff.1 h.ret).1
theorem SR.later (h : SR w X k cn b dv kv) (hb : Below X.heap.size X Y) : SR w Y k cn b dv kv := by
  have := h.big
  exact ⟨h.low.trans (hb.mono h.low.size), (hb.block _ (by omega)).trans h.box, (hb.block _ (by omega)).trans h.ret⟩
theorem SR.cells (h : SR w X k cn b dv kv) : X.cell? ⟨w.heap.size, 0, none⟩ = some (.int .i64 k) ∧ X.cell? ⟨w.heap.size, 1, none⟩ = some (.int .i64 cn) ∧ X.cell? ⟨w.heap.size, 2, none⟩ = some dv ∧ X.cell? ⟨w.heap.size, 3, none⟩ = some (.int .i64 b) ∧ X.cell? ⟨w.heap.size, 4, none⟩ = some kv ∧ ∀ i, X.frozen? ⟨w.heap.size, i, none⟩ = false := by
  simp [World.cell?, World.frozen?, h.box]
theorem SR.set (h : SR w X k cn b dv kv) (i : Nat) (v : Value) {k' cn' b' : Int} {dv' kv' : Value} (hv : (#[.int .i64 k, .int .i64 cn, dv, .int .i64 b, kv] : Array Value).setIfInBounds i v = #[.int .i64 k', .int .i64 cn', dv', .int .i64 b', kv']) : SR w (X.setCell ⟨w.heap.size, i, none⟩ v) k' cn' b' dv' kv' := by
  have ks : Kept (fun j => j = w.heap.size) X (X.setCell ⟨w.heap.size, i, none⟩ v) := Kept.setCell _ _ _ _ _ rfl
  have hb := h.big
  refine ⟨h.low.trans (ks.below h.low.size (fun j hj e => by omega)), ?_, (ks.block _ hb (by omega)).trans h.ret⟩
  rw [← hv]
  exact (set_cells h.box i v).1
theorem own64_box (h : SR w X k cn b dv kv) {B : Nat} {v : Value} {l : List Int} (ho : OwnI X B v l) (i : Nat) (u : Value) : OwnI (X.setCell ⟨w.heap.size, i, none⟩ u) B v l := by
  refine Kept.own (P := fun j => j = w.heap.size) (Kept.setCell _ _ _ _ _ rfl) ho (fun g e e2 => ?_)
  obtain ⟨c, hc⟩ := row_of_type ho e
  subst e2
  rw [h.box] at hc
  simp at hc
theorem own8_box (h : SR w X k cn b dv kv) {B : Nat} {v : Value} {l : List UInt8} (ho : Own X B v l) (i : Nat) (u : Value) : Own (X.setCell ⟨w.heap.size, i, none⟩ u) B v l := by
  refine Kept.own (P := fun j => j = w.heap.size) (Kept.setCell _ _ _ _ _ rfl) ho (fun g e e2 => ?_)
  obtain ⟨c, hc⟩ := row_of_type ho e
  subst e2
  rw [h.box] at hc
  simp at hc
theorem SR.rows64 (h : SR w X k cn b dv kv) {B : Nat} {v : Value} {l : List Int} (ho : OwnI X B v l) (cs : Array Value) : OwnI (X.setRow (w.heap.size + 1) cs) B v l := by
  have kk : Kept (fun j => j = w.heap.size + 1) X (X.setRow (w.heap.size + 1) cs) := ⟨rfl, rfl, rfl, by simp [World.setRow], fun j _ hj => setRow_other X _ j _ hj⟩
  refine Kept.own kk ho (fun g e e2 => ?_)
  obtain ⟨c, hc⟩ := row_of_type ho e
  subst e2
  rw [h.ret] at hc
  simp at hc
theorem SR.rows8 (h : SR w X k cn b dv kv) {B : Nat} {v : Value} {l : List UInt8} (ho : Own X B v l) (cs : Array Value) : Own (X.setRow (w.heap.size + 1) cs) B v l := by
  have kk : Kept (fun j => j = w.heap.size + 1) X (X.setRow (w.heap.size + 1) cs) := ⟨rfl, rfl, rfl, by simp [World.setRow], fun j _ hj => setRow_other X _ j _ hj⟩
  refine Kept.own kk ho (fun g e e2 => ?_)
  obtain ⟨c, hc⟩ := row_of_type ho e
  subst e2
  rw [h.ret] at hc
  simp at hc
end
set_option maxHeartbeats 4000000 in
set_option maxRecDepth 1000000 in
theorem refBroken_any (k cn : Int) (ad : Option Addr) (nd cd : Nat) (a : Option Addr) (c : Nat) (ss : List ByteArray) (w : World) (h : IsStrs w a c ss) (hl : ss.length ≤ 1048577) (hz : ∀ x ∈ ss, x.size ≤ 1048576) :
    Calls Tryd.prog 38 #[.agg #[.int .i64 k, .int .i64 cn, .slice ad nd cd, .int .i64 0, .slice none 0 0], .slice a ss.length c] w (BrokenRP k cn ad nd cd (tls ss) w) := by
  have S0 := hide (sr_start w k cn 0 (.slice ad nd cd) (.slice none 0 0))
  generalize hw2 : (w.alloc (.cells #[.int .i64 k, .int .i64 cn, .slice ad nd cd, .int .i64 0, .slice none 0 0] 40)).alloc (.cells #[.int .i64 0, .int .i64 0, .slice none 0 0, .int .i64 0, .slice none 0 0] 40) = w2 at S0
  have HW := hide hw2
  clear hw2
  match ss, h, hl, hz with
  | [], h, hl, hz =>
    have HK : Hid (tailP true false (tls []) = some (0, [])) := rfl
    clear h hl hz
    go_enter Tryd.func38, Tryd.ntmps38
    go_upto_region 1 with fail
    rw [HW.out]
    go_wp2_with (first
      | (refine wpList_load_row rfl 40 (.tmp 2) rfl w.heap.size rfl 40 _ (0, 0) _ S0.out.box Tryd.underlying40 rfl step_size ?_)
      | (refine wpList_store_row rfl 40 (.tmp 4) (.tmp 13) rfl (w.heap.size + 1) #[.int .i64 k, .int .i64 cn, .slice ad nd cd, .int .i64 0, .slice none 0 0] rfl rfl 40 _ S0.out.ret step_size rfl step_one ?_))
    have hrow : (w2.setRow (w.heap.size + 1) #[.int .i64 k, .int .i64 cn, .slice ad nd cd, .int .i64 0, .slice none 0 0]).heap[w.heap.size + 1]? = some (.cells #[.int .i64 k, .int .i64 cn, .slice ad nd cd, .int .i64 0, .slice none 0 0] 40 (0, 0)) := setRow_heap _ _ _ _ _ _ S0.out.ret
    refine bodyPost_ret (results_cell_tmp_row (P := Tryd.prog) Tryd.results38 _ _ (w.heap.size + 1) 40 _ (0, 0) _ _ rfl rfl hrow Tryd.underlying40 rfl step_size) rfl ?_
    exact ⟨below_setRow S0.out.low (by omega) _, 0, none, 0, 0, true, rfl, .inl ⟨rfl, [], HK.out, rfl, S0.out.rows64 (OwnI.nil _ _) _⟩⟩
  | x :: r, h, hl, hz =>
    have HS := hide h
    have HZ := hide hz
    obtain ⟨b, o, rfl, hb, hc0⟩ := h.at (i := 0) (x := x) rfl
    have c0 : w2.cell? ⟨b, o, none⟩ = some (.string x) := (S0.out.low.cell (p := ⟨b, o, none⟩) hb).trans hc0
    have hrl : (r.length : Int) + 1 ≤ 1048577 := by simp at hl; omega
    have n0 : (((r.length : Int) + 1) == 0) = false := by rw [beq_eq_false_iff_ne]; omega
    have p0 : (0 : Int) < (r.length : Int) + 1 := by omega
    clear hz hc0
    by_cases hk : x.data.toList = breakW
    rotate_left
    · have HK : Hid (tailP true false (tls (x :: r)) = none) := by
        show _ = _
        have h1 : hasP breakW (tls (x :: r)) = false := by
          show (x.data.toList == breakW) = false
          rw [beq_eq_false_iff_ne]; exact hk
        unfold tailP
        rw [h1]
        simp [tls]
      have hne : (x.toList == [98, 114, 101, 97, 107]) = false := by rw [eq_text]; exact decide_eq_false hk
      clear hk h
      go_enter Tryd.func38, Tryd.ntmps38
      go_upto_region 1 with fail
      rw [HW.out]
      go_wp2_with (first
        | (refine wpList_load_row rfl 40 (.tmp 2) rfl w.heap.size rfl 40 _ (0, 0) _ S0.out.box Tryd.underlying40 rfl step_size ?_)
        | (refine wpList_store_row rfl 40 (.tmp 4) (.tmp 23) rfl (w.heap.size + 1) #[.int .i64 k, .int .i64 cn, .slice ad nd cd, .int .i64 0, .slice none 0 0] rfl rfl 40 _ S0.out.ret step_size rfl step_one ?_))
      have hrow : (w2.setRow (w.heap.size + 1) #[.int .i64 k, .int .i64 cn, .slice ad nd cd, .int .i64 0, .slice none 0 0]).heap[w.heap.size + 1]? = some (.cells #[.int .i64 k, .int .i64 cn, .slice ad nd cd, .int .i64 0, .slice none 0 0] 40 (0, 0)) := setRow_heap _ _ _ _ _ _ S0.out.ret
      refine bodyPost_ret (results_cell_tmp_row (P := Tryd.prog) Tryd.results38 _ _ (w.heap.size + 1) 40 _ (0, 0) _ _ rfl rfl hrow Tryd.underlying40 rfl step_size) rfl ?_
      exact ⟨below_setRow S0.out.low (by omega) _, 0, none, 0, 0, false, rfl, .inr ⟨rfl, HK.out⟩⟩
    have heq : (x.toList == [98, 114, 101, 97, 107]) = true := by rw [eq_text]; exact decide_eq_true hk
    have HH : Hid (hasP breakW (tls (x :: r)) = true) := by
      show (x.data.toList == breakW) = true
      rw [hk]; rfl
    clear hk
    cases r with
    | nil =>
      have HK : Hid (tailP true false (tls [x]) = none) := by
        show _ = _
        unfold tailP
        rw [HH.out]
        rfl
      simp only [List.length_nil] at hrl n0 p0
      clear h
      go_enter Tryd.func38, Tryd.ntmps38
      go_upto_region 1 with fail
      rw [HW.out]
      go_wp2_with (first
        | (refine wpList_load_row rfl 40 (.tmp 2) rfl w.heap.size rfl 40 _ (0, 0) _ S0.out.box Tryd.underlying40 rfl step_size ?_)
        | (refine wpList_store_row rfl 40 (.tmp 4) (.tmp 23) rfl (w.heap.size + 1) #[.int .i64 k, .int .i64 cn, .slice ad nd cd, .int .i64 0, .slice none 0 0] rfl rfl 40 _ S0.out.ret step_size rfl step_one ?_))
      have hrow : (w2.setRow (w.heap.size + 1) #[.int .i64 k, .int .i64 cn, .slice ad nd cd, .int .i64 0, .slice none 0 0]).heap[w.heap.size + 1]? = some (.cells #[.int .i64 k, .int .i64 cn, .slice ad nd cd, .int .i64 0, .slice none 0 0] 40 (0, 0)) := setRow_heap _ _ _ _ _ _ S0.out.ret
      refine bodyPost_ret (results_cell_tmp_row (P := Tryd.prog) Tryd.results38 _ _ (w.heap.size + 1) 40 _ (0, 0) _ _ rfl rfl hrow Tryd.underlying40 rfl step_size) rfl ?_
      exact ⟨below_setRow S0.out.low (by omega) _, 0, none, 0, 0, false, rfl, .inr ⟨rfl, HK.out⟩⟩
    | cons y q =>
      obtain ⟨b', o', e', _, hcy⟩ := (HS.out.below S0.out.low).at (i := 1) (x := y) rfl
      cases e'
      have hys : y.size ≤ 1048576 := HZ.out y (by simp)
      obtain ⟨n, hn⟩ : ∃ n, parseV y.data.toList maxWord = n := ⟨_, rfl⟩
      obtain ⟨pb, hpb⟩ : ∃ pb, parseB y.data.toList maxWord = pb := ⟨_, rfl⟩
      have CP := hide (refParse_any y maxWord w2 (by unfold maxLen; omega) (by decide) (by decide))
      rw [hn, hpb] at CP
      have HT : Hid (tailP true false (tls (x :: y :: q)) = if pb then (if n = 0 then none else (keepP (tls q)).map fun ks => (n, ks)) else none) := by
        show _ = _
        unfold tailP
        rw [HH.out]
        simp only [Bool.and_self, if_true]
        have hnp : numP (y.data.toList :: tls q) = if pb then some (n, tls q) else none := by
          show (if parseB y.data.toList maxWord then some (parseV y.data.toList maxWord, tls q) else none) = _
          rw [hpb, hn]
        show (match numP (y.data.toList :: tls q) with | some (n, r) => if n = 0 then none else (keepP r).map fun k => (n, k) | none => none) = _
        rw [hnp]
        cases pb <;> rfl
      have hn0 : 0 ≤ n := by rw [← hn]; exact parseV_nonneg _ _
      have hcc := HS.out.1
      simp only [List.length_cons] at hrl n0 p0 hcc hl
      have i2 : (2 : Int) ≤ (q.length : Int) + 1 + 1 := by omega
      have n2 : ¬ ((q.length : Int) + 1 + 1 < 2) := by omega
      have n1 : (1 : Int) < (q.length : Int) + 1 + 1 := by omega
      have HZQ : Hid (∀ z ∈ q, z.size ≤ 1048576) := fun z hz => HZ.out z (by simp [hz])
      have HQ2 := hide ((HS.out.below S0.out.low).drop 2 (by simp))
      clear hn hpb h
      by_cases hc2 : c = 2
      · subst hc2
        have hq0 : q = [] := List.eq_nil_of_length_eq_zero (by omega)
        subst hq0
        have CK := hide (refKeep_any (some ⟨b, o, none⟩) 0 [] w2 IsStrs.nil (by simp) (fun z hz => by cases hz))
        go_enter Tryd.func38, Tryd.ntmps38
        go_upto_region 1 with fail
        rw [HW.out]
        go_wp2_with fail
        refine CP.out.mono ?_
        rintro e w5 ⟨rfl, hw5⟩
        rw [hw5]
        clear hw5 w5
        go_wp2_with fail
        refine CK.out.mono ?_
        rintro e w4 ⟨b4, h4⟩
        have S4 := hide (S0.out.later b4)
        rcases h4 with ⟨ks, ka, kc, hks, rfl, ho⟩ | ⟨hks, rfl⟩
        · have S5 := hide (S4.out.set 3 (.int .i64 n) (b' := n) rfl)
          have S6 := hide (S5.out.set 4 (.slice ka ks.length kc) (kv' := .slice ka ks.length kc) rfl)
          have HO6 := hide (own64_box S5.out (own64_box S4.out ho 3 (.int .i64 n)) 4 (.slice ka ks.length kc))
          obtain ⟨_, _, _, z3, _, zf⟩ := S4.out.cells
          obtain ⟨_, _, _, _, z4, zg⟩ := S5.out.cells
          have zf3 := zf 3
          have zg4 := zg 4
          clear zf zg
          by_cases hok : pb = true ∧ 0 < n
          · obtain ⟨rfl, hn1⟩ := hok
            have HK : Hid (tailP true false (tls (x :: [y])) = some (n, ks)) := by
              show _ = _
              rw [HT.out, if_pos rfl, if_neg (by omega), hks]
              rfl
            clear hks b4 ho
            go_wp2_with (first
              | (refine wpList_load_row rfl 40 (.tmp 2) rfl w.heap.size rfl 40 _ (0, 0) _ S6.out.box Tryd.underlying40 rfl step_size ?_)
              | (refine wpList_store_row rfl 40 (.tmp 4) (.tmp 41) rfl (w.heap.size + 1) #[.int .i64 k, .int .i64 cn, .slice ad nd cd, .int .i64 n, .slice ka ks.length kc] rfl rfl 40 _ S6.out.ret step_size rfl step_one ?_))
            have hrow : (((w4.setCell ⟨w.heap.size, 3, none⟩ (.int .i64 n)).setCell ⟨w.heap.size, 4, none⟩ (.slice ka ks.length kc)).setRow (w.heap.size + 1) #[.int .i64 k, .int .i64 cn, .slice ad nd cd, .int .i64 n, .slice ka ks.length kc]).heap[w.heap.size + 1]? = some (.cells #[.int .i64 k, .int .i64 cn, .slice ad nd cd, .int .i64 n, .slice ka ks.length kc] 40 (0, 0)) := setRow_heap _ _ _ _ _ _ S6.out.ret
            refine bodyPost_ret (results_cell_tmp_row (P := Tryd.prog) Tryd.results38 _ _ (w.heap.size + 1) 40 _ (0, 0) _ _ rfl rfl hrow Tryd.underlying40 rfl step_size) rfl ?_
            exact ⟨below_setRow S6.out.low (by omega) _, n, ka, ks.length, kc, true, rfl, .inl ⟨rfl, ks, HK.out, rfl, (S6.out.rows64 HO6.out _).mono (S0.out.low.size)⟩⟩
          · have HK : Hid (tailP true false (tls (x :: [y])) = none) := by
              show _ = _
              rw [HT.out]
              cases pb with
              | false => rfl
              | true =>
                rw [if_pos rfl, if_pos]
                by_cases h9 : n = 0
                · exact h9
                · exact absurd ⟨rfl, by omega⟩ hok
            cases pb with
            | false =>
              clear hks b4 ho hok
              go_wp2_with (first
                | (refine wpList_load_row rfl 40 (.tmp 2) rfl w.heap.size rfl 40 _ (0, 0) _ S6.out.box Tryd.underlying40 rfl step_size ?_)
                | (refine wpList_store_row rfl 40 (.tmp 4) (.tmp 41) rfl (w.heap.size + 1) #[.int .i64 k, .int .i64 cn, .slice ad nd cd, .int .i64 n, .slice ka ks.length kc] rfl rfl 40 _ S6.out.ret step_size rfl step_one ?_))
              have hrow : (((w4.setCell ⟨w.heap.size, 3, none⟩ (.int .i64 n)).setCell ⟨w.heap.size, 4, none⟩ (.slice ka ks.length kc)).setRow (w.heap.size + 1) #[.int .i64 k, .int .i64 cn, .slice ad nd cd, .int .i64 n, .slice ka ks.length kc]).heap[w.heap.size + 1]? = some (.cells #[.int .i64 k, .int .i64 cn, .slice ad nd cd, .int .i64 n, .slice ka ks.length kc] 40 (0, 0)) := setRow_heap _ _ _ _ _ _ S6.out.ret
              refine bodyPost_ret (results_cell_tmp_row (P := Tryd.prog) Tryd.results38 _ _ (w.heap.size + 1) 40 _ (0, 0) _ _ rfl rfl hrow Tryd.underlying40 rfl step_size) rfl ?_
              exact ⟨below_setRow S6.out.low (by omega) _, n, ka, ks.length, kc, false, rfl, .inr ⟨rfl, HK.out⟩⟩
            | true =>
              have h9 : n = 0 := by
                by_cases h9 : n = 0
                · exact h9
                · exact absurd ⟨rfl, by omega⟩ hok
              have t9 : decide (0 < n) = false := decide_eq_false (by omega)
              clear hks b4 ho hok h9
              go_wp2_with (first
                | (refine wpList_load_row rfl 40 (.tmp 2) rfl w.heap.size rfl 40 _ (0, 0) _ S6.out.box Tryd.underlying40 rfl step_size ?_)
                | (refine wpList_store_row rfl 40 (.tmp 4) (.tmp 41) rfl (w.heap.size + 1) #[.int .i64 k, .int .i64 cn, .slice ad nd cd, .int .i64 n, .slice ka ks.length kc] rfl rfl 40 _ S6.out.ret step_size rfl step_one ?_))
              have hrow : (((w4.setCell ⟨w.heap.size, 3, none⟩ (.int .i64 n)).setCell ⟨w.heap.size, 4, none⟩ (.slice ka ks.length kc)).setRow (w.heap.size + 1) #[.int .i64 k, .int .i64 cn, .slice ad nd cd, .int .i64 n, .slice ka ks.length kc]).heap[w.heap.size + 1]? = some (.cells #[.int .i64 k, .int .i64 cn, .slice ad nd cd, .int .i64 n, .slice ka ks.length kc] 40 (0, 0)) := setRow_heap _ _ _ _ _ _ S6.out.ret
              refine bodyPost_ret (results_cell_tmp_row (P := Tryd.prog) Tryd.results38 _ _ (w.heap.size + 1) 40 _ (0, 0) _ _ rfl rfl hrow Tryd.underlying40 rfl step_size) rfl ?_
              exact ⟨below_setRow S6.out.low (by omega) _, n, ka, ks.length, kc, false, rfl, .inr ⟨rfl, HK.out⟩⟩
        · have S5 := hide (S4.out.set 3 (.int .i64 n) (b' := n) rfl)
          have S6 := hide (S5.out.set 4 (.slice none 0 0) (kv' := .slice none 0 0) rfl)
          obtain ⟨_, _, _, z3, _, zf⟩ := S4.out.cells
          obtain ⟨_, _, _, _, z4, zg⟩ := S5.out.cells
          have zf3 := zf 3
          have zg4 := zg 4
          have HK : Hid (tailP true false (tls (x :: [y])) = none) := by
            show _ = _
            rw [HT.out, hks]
            cases pb with
            | false => rfl
            | true =>
              rw [if_pos rfl]
              split <;> rfl
          clear zf zg hks b4
          cases pb with
          | false =>
            go_wp2_with (first
              | (refine wpList_load_row rfl 40 (.tmp 2) rfl w.heap.size rfl 40 _ (0, 0) _ S6.out.box Tryd.underlying40 rfl step_size ?_)
              | (refine wpList_store_row rfl 40 (.tmp 4) (.tmp 41) rfl (w.heap.size + 1) #[.int .i64 k, .int .i64 cn, .slice ad nd cd, .int .i64 n, .slice none 0 0] rfl rfl 40 _ S6.out.ret step_size rfl step_one ?_))
            have hrow : (((w4.setCell ⟨w.heap.size, 3, none⟩ (.int .i64 n)).setCell ⟨w.heap.size, 4, none⟩ (.slice none 0 0)).setRow (w.heap.size + 1) #[.int .i64 k, .int .i64 cn, .slice ad nd cd, .int .i64 n, .slice none 0 0]).heap[w.heap.size + 1]? = some (.cells #[.int .i64 k, .int .i64 cn, .slice ad nd cd, .int .i64 n, .slice none 0 0] 40 (0, 0)) := setRow_heap _ _ _ _ _ _ S6.out.ret
            refine bodyPost_ret (results_cell_tmp_row (P := Tryd.prog) Tryd.results38 _ _ (w.heap.size + 1) 40 _ (0, 0) _ _ rfl rfl hrow Tryd.underlying40 rfl step_size) rfl ?_
            exact ⟨below_setRow S6.out.low (by omega) _, n, none, 0, 0, false, rfl, .inr ⟨rfl, HK.out⟩⟩
          | true =>
            go_wp2_with (first
              | (refine wpList_load_row rfl 40 (.tmp 2) rfl w.heap.size rfl 40 _ (0, 0) _ S6.out.box Tryd.underlying40 rfl step_size ?_)
              | (refine wpList_store_row rfl 40 (.tmp 4) (.tmp 41) rfl (w.heap.size + 1) #[.int .i64 k, .int .i64 cn, .slice ad nd cd, .int .i64 n, .slice none 0 0] rfl rfl 40 _ S6.out.ret step_size rfl step_one ?_))
            have hrow : (((w4.setCell ⟨w.heap.size, 3, none⟩ (.int .i64 n)).setCell ⟨w.heap.size, 4, none⟩ (.slice none 0 0)).setRow (w.heap.size + 1) #[.int .i64 k, .int .i64 cn, .slice ad nd cd, .int .i64 n, .slice none 0 0]).heap[w.heap.size + 1]? = some (.cells #[.int .i64 k, .int .i64 cn, .slice ad nd cd, .int .i64 n, .slice none 0 0] 40 (0, 0)) := setRow_heap _ _ _ _ _ _ S6.out.ret
            refine bodyPost_ret (results_cell_tmp_row (P := Tryd.prog) Tryd.results38 _ _ (w.heap.size + 1) 40 _ (0, 0) _ _ rfl rfl hrow Tryd.underlying40 rfl step_size) rfl ?_
            exact ⟨below_setRow S6.out.low (by omega) _, n, none, 0, 0, false, rfl, .inr ⟨rfl, HK.out⟩⟩
      · have CK := hide (refKeep_any (some ⟨b, o + 2, none⟩) (c - 2) q w2 HQ2.out (by omega) HZQ.out)
        obtain ⟨m, hm⟩ : ∃ m, (x :: y :: q).length = m := ⟨_, rfl⟩
        have hqm : q.length = m - 2 := by simp at hm; omega
        rw [hqm] at CK
        rw [hm]
        have hm2 : 2 ≤ m := by simp at hm; omega
        have g0 : ((m : Int) == 0) = false := by rw [beq_eq_false_iff_ne]; omega
        have g1 : (0 : Int) < (m : Int) := by omega
        have g2 : (1 : Int) < (m : Int) := by omega
        have g3 : ¬ ((m : Int) < 2) := by omega
        have g4 : (2 : Int) ≤ (m : Int) := by omega
        clear hm hqm n0 p0 i2 n2 n1 hrl hl hcc
        go_enter Tryd.func38, Tryd.ntmps38
        go_upto_region 1 with fail
        rw [HW.out]
        go_wp2_with fail
        refine CP.out.mono ?_
        rintro e w5 ⟨rfl, hw5⟩
        rw [hw5]
        clear hw5 w5
        go_wp2_with fail
        refine CK.out.mono ?_
        rintro e w4 ⟨b4, h4⟩
        have S4 := hide (S0.out.later b4)
        rcases h4 with ⟨ks, ka, kc, hks, rfl, ho⟩ | ⟨hks, rfl⟩
        · have S5 := hide (S4.out.set 3 (.int .i64 n) (b' := n) rfl)
          have S6 := hide (S5.out.set 4 (.slice ka ks.length kc) (kv' := .slice ka ks.length kc) rfl)
          have HO6 := hide (own64_box S5.out (own64_box S4.out ho 3 (.int .i64 n)) 4 (.slice ka ks.length kc))
          obtain ⟨_, _, _, z3, _, zf⟩ := S4.out.cells
          obtain ⟨_, _, _, _, z4, zg⟩ := S5.out.cells
          have zf3 := zf 3
          have zg4 := zg 4
          clear zf zg
          by_cases hok : pb = true ∧ 0 < n
          · obtain ⟨rfl, hn1⟩ := hok
            have HK : Hid (tailP true false (tls (x :: y :: q)) = some (n, ks)) := by
              show _ = _
              rw [HT.out, if_pos rfl, if_neg (by omega), hks]
              rfl
            clear hks b4 ho
            go_wp2_with (first
              | (refine wpList_load_row rfl 40 (.tmp 2) rfl w.heap.size rfl 40 _ (0, 0) _ S6.out.box Tryd.underlying40 rfl step_size ?_)
              | (refine wpList_store_row rfl 40 (.tmp 4) (.tmp 41) rfl (w.heap.size + 1) #[.int .i64 k, .int .i64 cn, .slice ad nd cd, .int .i64 n, .slice ka ks.length kc] rfl rfl 40 _ S6.out.ret step_size rfl step_one ?_))
            have hrow : (((w4.setCell ⟨w.heap.size, 3, none⟩ (.int .i64 n)).setCell ⟨w.heap.size, 4, none⟩ (.slice ka ks.length kc)).setRow (w.heap.size + 1) #[.int .i64 k, .int .i64 cn, .slice ad nd cd, .int .i64 n, .slice ka ks.length kc]).heap[w.heap.size + 1]? = some (.cells #[.int .i64 k, .int .i64 cn, .slice ad nd cd, .int .i64 n, .slice ka ks.length kc] 40 (0, 0)) := setRow_heap _ _ _ _ _ _ S6.out.ret
            refine bodyPost_ret (results_cell_tmp_row (P := Tryd.prog) Tryd.results38 _ _ (w.heap.size + 1) 40 _ (0, 0) _ _ rfl rfl hrow Tryd.underlying40 rfl step_size) rfl ?_
            exact ⟨below_setRow S6.out.low (by omega) _, n, ka, ks.length, kc, true, rfl, .inl ⟨rfl, ks, HK.out, rfl, (S6.out.rows64 HO6.out _).mono (S0.out.low.size)⟩⟩
          · have HK : Hid (tailP true false (tls (x :: y :: q)) = none) := by
              show _ = _
              rw [HT.out]
              cases pb with
              | false => rfl
              | true =>
                rw [if_pos rfl, if_pos]
                by_cases h9 : n = 0
                · exact h9
                · exact absurd ⟨rfl, by omega⟩ hok
            cases pb with
            | false =>
              clear hks b4 ho hok
              go_wp2_with (first
                | (refine wpList_load_row rfl 40 (.tmp 2) rfl w.heap.size rfl 40 _ (0, 0) _ S6.out.box Tryd.underlying40 rfl step_size ?_)
                | (refine wpList_store_row rfl 40 (.tmp 4) (.tmp 41) rfl (w.heap.size + 1) #[.int .i64 k, .int .i64 cn, .slice ad nd cd, .int .i64 n, .slice ka ks.length kc] rfl rfl 40 _ S6.out.ret step_size rfl step_one ?_))
              have hrow : (((w4.setCell ⟨w.heap.size, 3, none⟩ (.int .i64 n)).setCell ⟨w.heap.size, 4, none⟩ (.slice ka ks.length kc)).setRow (w.heap.size + 1) #[.int .i64 k, .int .i64 cn, .slice ad nd cd, .int .i64 n, .slice ka ks.length kc]).heap[w.heap.size + 1]? = some (.cells #[.int .i64 k, .int .i64 cn, .slice ad nd cd, .int .i64 n, .slice ka ks.length kc] 40 (0, 0)) := setRow_heap _ _ _ _ _ _ S6.out.ret
              refine bodyPost_ret (results_cell_tmp_row (P := Tryd.prog) Tryd.results38 _ _ (w.heap.size + 1) 40 _ (0, 0) _ _ rfl rfl hrow Tryd.underlying40 rfl step_size) rfl ?_
              exact ⟨below_setRow S6.out.low (by omega) _, n, ka, ks.length, kc, false, rfl, .inr ⟨rfl, HK.out⟩⟩
            | true =>
              have h9 : n = 0 := by
                by_cases h9 : n = 0
                · exact h9
                · exact absurd ⟨rfl, by omega⟩ hok
              have t9 : decide (0 < n) = false := decide_eq_false (by omega)
              clear hks b4 ho hok h9
              go_wp2_with (first
                | (refine wpList_load_row rfl 40 (.tmp 2) rfl w.heap.size rfl 40 _ (0, 0) _ S6.out.box Tryd.underlying40 rfl step_size ?_)
                | (refine wpList_store_row rfl 40 (.tmp 4) (.tmp 41) rfl (w.heap.size + 1) #[.int .i64 k, .int .i64 cn, .slice ad nd cd, .int .i64 n, .slice ka ks.length kc] rfl rfl 40 _ S6.out.ret step_size rfl step_one ?_))
              have hrow : (((w4.setCell ⟨w.heap.size, 3, none⟩ (.int .i64 n)).setCell ⟨w.heap.size, 4, none⟩ (.slice ka ks.length kc)).setRow (w.heap.size + 1) #[.int .i64 k, .int .i64 cn, .slice ad nd cd, .int .i64 n, .slice ka ks.length kc]).heap[w.heap.size + 1]? = some (.cells #[.int .i64 k, .int .i64 cn, .slice ad nd cd, .int .i64 n, .slice ka ks.length kc] 40 (0, 0)) := setRow_heap _ _ _ _ _ _ S6.out.ret
              refine bodyPost_ret (results_cell_tmp_row (P := Tryd.prog) Tryd.results38 _ _ (w.heap.size + 1) 40 _ (0, 0) _ _ rfl rfl hrow Tryd.underlying40 rfl step_size) rfl ?_
              exact ⟨below_setRow S6.out.low (by omega) _, n, ka, ks.length, kc, false, rfl, .inr ⟨rfl, HK.out⟩⟩
        · have S5 := hide (S4.out.set 3 (.int .i64 n) (b' := n) rfl)
          have S6 := hide (S5.out.set 4 (.slice none 0 0) (kv' := .slice none 0 0) rfl)
          obtain ⟨_, _, _, z3, _, zf⟩ := S4.out.cells
          obtain ⟨_, _, _, _, z4, zg⟩ := S5.out.cells
          have zf3 := zf 3
          have zg4 := zg 4
          have HK : Hid (tailP true false (tls (x :: y :: q)) = none) := by
            show _ = _
            rw [HT.out, hks]
            cases pb with
            | false => rfl
            | true =>
              rw [if_pos rfl]
              split <;> rfl
          clear zf zg hks b4
          cases pb with
          | false =>
            go_wp2_with (first
              | (refine wpList_load_row rfl 40 (.tmp 2) rfl w.heap.size rfl 40 _ (0, 0) _ S6.out.box Tryd.underlying40 rfl step_size ?_)
              | (refine wpList_store_row rfl 40 (.tmp 4) (.tmp 41) rfl (w.heap.size + 1) #[.int .i64 k, .int .i64 cn, .slice ad nd cd, .int .i64 n, .slice none 0 0] rfl rfl 40 _ S6.out.ret step_size rfl step_one ?_))
            have hrow : (((w4.setCell ⟨w.heap.size, 3, none⟩ (.int .i64 n)).setCell ⟨w.heap.size, 4, none⟩ (.slice none 0 0)).setRow (w.heap.size + 1) #[.int .i64 k, .int .i64 cn, .slice ad nd cd, .int .i64 n, .slice none 0 0]).heap[w.heap.size + 1]? = some (.cells #[.int .i64 k, .int .i64 cn, .slice ad nd cd, .int .i64 n, .slice none 0 0] 40 (0, 0)) := setRow_heap _ _ _ _ _ _ S6.out.ret
            refine bodyPost_ret (results_cell_tmp_row (P := Tryd.prog) Tryd.results38 _ _ (w.heap.size + 1) 40 _ (0, 0) _ _ rfl rfl hrow Tryd.underlying40 rfl step_size) rfl ?_
            exact ⟨below_setRow S6.out.low (by omega) _, n, none, 0, 0, false, rfl, .inr ⟨rfl, HK.out⟩⟩
          | true =>
            go_wp2_with (first
              | (refine wpList_load_row rfl 40 (.tmp 2) rfl w.heap.size rfl 40 _ (0, 0) _ S6.out.box Tryd.underlying40 rfl step_size ?_)
              | (refine wpList_store_row rfl 40 (.tmp 4) (.tmp 41) rfl (w.heap.size + 1) #[.int .i64 k, .int .i64 cn, .slice ad nd cd, .int .i64 n, .slice none 0 0] rfl rfl 40 _ S6.out.ret step_size rfl step_one ?_))
            have hrow : (((w4.setCell ⟨w.heap.size, 3, none⟩ (.int .i64 n)).setCell ⟨w.heap.size, 4, none⟩ (.slice none 0 0)).setRow (w.heap.size + 1) #[.int .i64 k, .int .i64 cn, .slice ad nd cd, .int .i64 n, .slice none 0 0]).heap[w.heap.size + 1]? = some (.cells #[.int .i64 k, .int .i64 cn, .slice ad nd cd, .int .i64 n, .slice none 0 0] 40 (0, 0)) := setRow_heap _ _ _ _ _ _ S6.out.ret
            refine bodyPost_ret (results_cell_tmp_row (P := Tryd.prog) Tryd.results38 _ _ (w.heap.size + 1) 40 _ (0, 0) _ _ rfl rfl hrow Tryd.underlying40 rfl step_size) rfl ?_
            exact ⟨below_setRow S6.out.low (by omega) _, n, none, 0, 0, false, rfl, .inr ⟨rfl, HK.out⟩⟩
end Go.Proofs.YteaccpolmmkclaaDoor

namespace Go.Proofs.YteaccpolmmkclaaDoor
open Go.RowKit Go.Lib

def StepRP (k : Int) (l : List Tx) (w : World) (e : Ending) (w' : World) : Prop :=
  Below w.heap.size w w' ∧ ∃ cn b ad nd cd ak nk ck ok, e = .returned (.tuple #[.agg #[.int .i64 k, .int .i64 cn, .slice ad nd cd, .int .i64 b, .slice ak nk ck], .bool ok]) ∧ ((ok = true ∧ ∃ p : StepP, stepK k l = some p ∧ p.kind = k ∧ p.conn = cn ∧ p.brk = b ∧ nd = p.data.length ∧ nk = p.keep.length ∧ Own w' w.heap.size (.slice ad nd cd) p.data ∧ OwnI w' w.heap.size (.slice ak nk ck) p.keep) ∨ (ok = false ∧ stepK k l = none))
/-- The answer's box, and that of a step. -/
structure SQ (w X : World) (cs : Array Value) : Prop where
  low : Below w.heap.size w X
  ret : X.heap[w.heap.size]? = some (.cells #[.int .i64 0, .int .i64 0, .slice none 0 0, .int .i64 0, .slice none 0 0] 40 (0, 0))
  box : X.heap[w.heap.size + 1]? = some (.cells cs 40 (0, 0))
theorem sq_start (w : World) (cs : Array Value) : SQ w ((w.alloc (.cells #[.int .i64 0, .int .i64 0, .slice none 0 0, .int .i64 0, .slice none 0 0] 40)).alloc (.cells cs 40)) cs := by
  have a1 := heap_alloc_new w (.cells #[.int .i64 0, .int .i64 0, .slice none 0 0, .int .i64 0, .slice none 0 0] 40)
  have a2 := heap_alloc_new (w.alloc (.cells #[.int .i64 0, .int .i64 0, .slice none 0 0, .int .i64 0, .slice none 0 0] 40)) (.cells cs 40)
  rw [World.size_alloc] at a2
  exact ⟨((Below.refl _ w).alloc (Nat.le_refl _) _).alloc (by simp) _, (heap_alloc_old _ _ (by simp)).trans a1, a2⟩
section
variable {w X Y : World} {cs : Array Value}
theorem SQ.big (h : SQ w X cs) : w.heap.size + 1 < X.heap.size := (Array.getElem?_eq_some_iff.1 h.box).1
theorem SQ.later (h : SQ w X cs) (hb : Below X.heap.size X Y) : SQ w Y cs := by
  have := h.big
  exact ⟨h.low.trans (hb.mono h.low.size), (hb.block _ (by omega)).trans h.ret, (hb.block _ (by omega)).trans h.box⟩
theorem SQ.cell (h : SQ w X cs) (i : Nat) : X.cell? ⟨w.heap.size + 1, i, none⟩ = cs[i]? ∧ X.frozen? ⟨w.heap.size + 1, i, none⟩ = false := by
  simp [World.cell?, World.frozen?, h.box]
theorem SQ.set (h : SQ w X cs) (i : Nat) (v : Value) {cs' : Array Value} (hv : cs.setIfInBounds i v = cs') : SQ w (X.setCell ⟨w.heap.size + 1, i, none⟩ v) cs' := by
  have ks : Kept (fun j => j = w.heap.size + 1) X (X.setCell ⟨w.heap.size + 1, i, none⟩ v) := Kept.setCell _ _ _ _ _ rfl
  have hb := h.big
  refine ⟨h.low.trans (ks.below h.low.size (fun j hj e => by omega)), (ks.block _ (by omega) (by omega)).trans h.ret, ?_⟩
  rw [← hv]
  exact (set_cells h.box i v).1
theorem SQ.row (h : SQ w X cs) (cs' : Array Value) : SQ w (X.setRow (w.heap.size + 1) cs') cs' := by
  have kk : Kept (fun j => j = w.heap.size + 1) X (X.setRow (w.heap.size + 1) cs') := ⟨rfl, rfl, rfl, by simp [World.setRow], fun j _ hj => setRow_other X _ j _ hj⟩
  have hb := h.big
  exact ⟨h.low.trans (kk.below h.low.size (fun j hj e => by omega)), (kk.block _ (by omega) (by omega)).trans h.ret, setRow_heap _ _ _ _ _ _ h.box⟩
theorem SQ.own (h : SQ w X cs) {B e n : Nat} {v : Value} {xs : List Value} (he : e ≠ 40) (ho : X.ownsRow B e 1 v n xs) (i : Nat) (u : Value) : (X.setCell ⟨w.heap.size + 1, i, none⟩ u).ownsRow B e 1 v n xs := by
  refine Kept.own (P := fun j => j = w.heap.size + 1) (Kept.setCell _ _ _ _ _ rfl) ho (fun g e' e2 => ?_)
  obtain ⟨c, hc⟩ := row_of_type ho e'
  subst e2
  rw [h.box] at hc
  simp at hc
  exact he hc.2.symm
theorem SQ.own2 (h : SQ w X cs) {B e n : Nat} {v : Value} {xs : List Value} (he : e ≠ 40) (ho : X.ownsRow B e 1 v n xs) (cs' : Array Value) : (X.setRow (w.heap.size + 1) cs').ownsRow B e 1 v n xs := by
  have kk : Kept (fun j => j = w.heap.size + 1) X (X.setRow (w.heap.size + 1) cs') := ⟨rfl, rfl, rfl, by simp [World.setRow], fun j _ hj => setRow_other X _ j _ hj⟩
  refine Kept.own kk ho (fun g e' e2 => ?_)
  obtain ⟨c, hc⟩ := row_of_type ho e'
  subst e2
  rw [h.box] at hc
  simp at hc
  exact he hc.2.symm
theorem SQ.own3 (h : SQ w X cs) {B e n : Nat} {v : Value} {xs : List Value} (he : e ≠ 40) (ho : X.ownsRow B e 1 v n xs) (cs' : Array Value) : (X.setRow w.heap.size cs').ownsRow B e 1 v n xs := by
  have kk : Kept (fun j => j = w.heap.size) X (X.setRow w.heap.size cs') := ⟨rfl, rfl, rfl, by simp [World.setRow], fun j _ hj => setRow_other X _ j _ hj⟩
  refine Kept.own kk ho (fun g e' e2 => ?_)
  obtain ⟨c, hc⟩ := row_of_type ho e'
  subst e2
  rw [h.ret] at hc
  simp at hc
  exact he hc.2.symm
end
theorem tail_none {l : List Tx} (h : l ≠ []) : tailP false false l = none := by
  unfold tailP
  simp [h]
set_option maxHeartbeats 4000000 in
set_option maxRecDepth 1000000 in
theorem refStep5 (a : Option Addr) (c : Nat) (ss : List ByteArray) (w : World) (_ : IsStrs w a c ss) (_ : ss.length ≤ 1048577) (_ : ∀ x ∈ ss, x.size ≤ 1048576) :
    Calls Tryd.prog 18 #[.int .i64 5, .slice a ss.length c] w (StepRP 5 (tls ss) w) := by
  have S0 := hide (sq_start w #[.int .i64 5, .int .i64 0, .slice none 0 0, .int .i64 0, .slice none 0 0])
  generalize hw2 : (w.alloc (.cells #[.int .i64 0, .int .i64 0, .slice none 0 0, .int .i64 0, .slice none 0 0] 40)).alloc (.cells #[.int .i64 5, .int .i64 0, .slice none 0 0, .int .i64 0, .slice none 0 0] 40) = w2 at S0
  have HW := hide hw2
  clear hw2
  obtain ⟨m, hm⟩ : ∃ m, ss.length = m := ⟨_, rfl⟩
  rw [hm]
  by_cases h0 : m = 0
  · have hs : ss = [] := List.eq_nil_of_length_eq_zero (by omega)
    have HK : Hid (stepK 5 (tls ss) = some ⟨5, 0, [], 0, []⟩) := by rw [hs]; rfl
    have g0 : ((m : Int) == 0) = true := by rw [beq_iff_eq]; omega
    clear hs hm h0
    go_enter Tryd.func18, Tryd.ntmps18
    go_upto_region 2 with fail
    rw [HW.out]
    go_wp2_with (first
      | (refine wpList_load_row rfl 40 (.tmp 6) rfl (w.heap.size + 1) rfl 40 _ (0, 0) _ S0.out.box Tryd.underlying40 rfl step_size ?_)
      | (refine wpList_store_row rfl 40 (.tmp 4) (.tmp 81) rfl w.heap.size #[.int .i64 5, .int .i64 0, .slice none 0 0, .int .i64 0, .slice none 0 0] rfl rfl 40 _ S0.out.ret step_size rfl step_one ?_))
    have hrow : (w2.setRow w.heap.size #[.int .i64 5, .int .i64 0, .slice none 0 0, .int .i64 0, .slice none 0 0]).heap[w.heap.size]? = some (.cells #[.int .i64 5, .int .i64 0, .slice none 0 0, .int .i64 0, .slice none 0 0] 40 (0, 0)) := setRow_heap _ _ _ _ _ _ S0.out.ret
    refine bodyPost_ret (results_cell_tmp_row (P := Tryd.prog) Tryd.results18 _ _ w.heap.size 40 _ (0, 0) _ _ rfl rfl hrow Tryd.underlying40 rfl step_size) rfl ?_
    exact ⟨below_setRow S0.out.low (Nat.le_refl _) _, 0, 0, none, 0, 0, none, 0, 0, true, rfl, .inl ⟨rfl, _, HK.out, rfl, rfl, rfl, rfl, rfl, S0.out.own3 (by decide) (Own.nil _ _) _, S0.out.own3 (by decide) (OwnI.nil _ _) _⟩⟩
  · have HK : Hid (stepK 5 (tls ss) = none) := by
      show _ = _
      have hne : tls ss ≠ [] := by intro e; have := congrArg List.length e; simp [tls] at this; rw [this] at hm; simp at hm; omega
      show (Option.bind (some (0, tls ss)) fun p => Option.bind (some ([], p.2)) fun q => (tailP false false q.2).map fun t => (⟨5, p.1, q.1, t.1, t.2⟩ : StepP)) = none
      simp only [Option.bind_some]
      rw [tail_none hne]
      rfl
    have g0 : ((m : Int) == 0) = false := by rw [beq_eq_false_iff_ne]; omega
    clear hm h0
    go_enter Tryd.func18, Tryd.ntmps18
    go_upto_region 2 with fail
    rw [HW.out]
    go_wp2_with (first
      | (refine wpList_load_row rfl 40 (.tmp 6) rfl (w.heap.size + 1) rfl 40 _ (0, 0) _ S0.out.box Tryd.underlying40 rfl step_size ?_)
      | (refine wpList_store_row rfl 40 (.tmp 4) (.tmp 81) rfl w.heap.size #[.int .i64 5, .int .i64 0, .slice none 0 0, .int .i64 0, .slice none 0 0] rfl rfl 40 _ S0.out.ret step_size rfl step_one ?_))
    have hrow : (w2.setRow w.heap.size #[.int .i64 5, .int .i64 0, .slice none 0 0, .int .i64 0, .slice none 0 0]).heap[w.heap.size]? = some (.cells #[.int .i64 5, .int .i64 0, .slice none 0 0, .int .i64 0, .slice none 0 0] 40 (0, 0)) := setRow_heap _ _ _ _ _ _ S0.out.ret
    refine bodyPost_ret (results_cell_tmp_row (P := Tryd.prog) Tryd.results18 _ _ w.heap.size 40 _ (0, 0) _ _ rfl rfl hrow Tryd.underlying40 rfl step_size) rfl ?_
    exact ⟨below_setRow S0.out.low (Nat.le_refl _) _, 0, 0, none, 0, 0, none, 0, 0, false, rfl, .inr ⟨rfl, HK.out⟩⟩
set_option maxHeartbeats 4000000 in
set_option maxRecDepth 1000000 in
theorem refStep4 (a : Option Addr) (c : Nat) (ss : List ByteArray) (w : World) (h : IsStrs w a c ss) (hl : ss.length ≤ 1048577) (hz : ∀ x ∈ ss, x.size ≤ 1048576) :
    Calls Tryd.prog 18 #[.int .i64 4, .slice a ss.length c] w (StepRP 4 (tls ss) w) := by
  have S0 := hide (sq_start w #[.int .i64 4, .int .i64 0, .slice none 0 0, .int .i64 0, .slice none 0 0])
  generalize hw2 : (w.alloc (.cells #[.int .i64 0, .int .i64 0, .slice none 0 0, .int .i64 0, .slice none 0 0] 40)).alloc (.cells #[.int .i64 4, .int .i64 0, .slice none 0 0, .int .i64 0, .slice none 0 0] 40) = w2 at S0
  have HW := hide hw2
  clear hw2
  have HS2 := hide (h.below S0.out.low)
  have CB := hide (refBroken_any 4 0 none 0 0 a c ss w2 HS2.out hl hz)
  obtain ⟨m, hm⟩ : ∃ m, ss.length = m := ⟨_, rfl⟩
  rw [hm] at CB ⊢
  have HT : Hid (stepK 4 (tls ss) = (tailP true false (tls ss)).map fun t => (⟨4, 0, [], t.1, t.2⟩ : StepP)) := rfl
  clear h hl hz hm
  obtain ⟨z0, _⟩ := S0.out.cell 0
  obtain ⟨z1, _⟩ := S0.out.cell 1
  obtain ⟨z2, _⟩ := S0.out.cell 2
  obtain ⟨z3, _⟩ := S0.out.cell 3
  obtain ⟨z4, _⟩ := S0.out.cell 4
  simp only [List.getElem?_toArray, List.getElem?_cons_zero, List.getElem?_cons_succ] at z0 z1 z2 z3 z4
  go_enter Tryd.func18, Tryd.ntmps18
  go_upto_region 2 with fail
  rw [HW.out]
  go_wp2_with fail
  refine CB.out.mono ?_
  rintro e w3 ⟨b3, b, ak, nk, ck, ok, rfl, h3⟩
  have S3 := hide (S0.out.later b3)
  have S4 := hide (S3.out.row #[.int .i64 4, .int .i64 0, .slice none 0 0, .int .i64 b, .slice ak nk ck])
  go_upto_region 24 with (refine wpList_store_row rfl 40 (.tmp 6) (.tmp 71) rfl (w.heap.size + 1) #[.int .i64 4, .int .i64 0, .slice none 0 0, .int .i64 b, .slice ak nk ck] rfl rfl 40 _ S3.out.box step_size rfl step_one ?_)
  rcases h3 with ⟨rfl, ks, ht, hk, ho⟩ | ⟨rfl, ht⟩
  · have HK : Hid (stepK 4 (tls ss) = some ⟨4, 0, [], b, ks⟩) := by show _ = _; rw [HT.out, ht]; rfl
    have HO := hide (And.intro hk (ho.mono S0.out.low.size))
    clear ht hk ho b3
    go_wp2_with (first
      | (refine wpList_load_row rfl 40 (.tmp 6) rfl (w.heap.size + 1) rfl 40 _ (0, 0) _ S4.out.box Tryd.underlying40 rfl step_size ?_)
      | (refine wpList_store_row rfl 40 (.tmp 4) (.tmp 81) rfl w.heap.size #[.int .i64 4, .int .i64 0, .slice none 0 0, .int .i64 b, .slice ak nk ck] rfl rfl 40 _ S4.out.ret step_size rfl step_one ?_))
    have hrow : ((w3.setRow (w.heap.size + 1) #[.int .i64 4, .int .i64 0, .slice none 0 0, .int .i64 b, .slice ak nk ck]).setRow w.heap.size #[.int .i64 4, .int .i64 0, .slice none 0 0, .int .i64 b, .slice ak nk ck]).heap[w.heap.size]? = some (.cells #[.int .i64 4, .int .i64 0, .slice none 0 0, .int .i64 b, .slice ak nk ck] 40 (0, 0)) := setRow_heap _ _ _ _ _ _ S4.out.ret
    refine bodyPost_ret (results_cell_tmp_row (P := Tryd.prog) Tryd.results18 _ _ w.heap.size 40 _ (0, 0) _ _ rfl rfl hrow Tryd.underlying40 rfl step_size) rfl ?_
    exact ⟨below_setRow S4.out.low (Nat.le_refl _) _, 0, b, none, 0, 0, ak, nk, ck, true, rfl, .inl ⟨rfl, _, HK.out, rfl, rfl, rfl, rfl, HO.out.1, S4.out.own3 (by decide) (Own.nil _ _) _, S4.out.own3 (by decide) (S3.out.own2 (by decide) HO.out.2 _) _⟩⟩
  · have HK : Hid (stepK 4 (tls ss) = none) := by show _ = _; rw [HT.out, ht]; rfl
    clear ht b3
    go_wp2_with (first
      | (refine wpList_load_row rfl 40 (.tmp 6) rfl (w.heap.size + 1) rfl 40 _ (0, 0) _ S4.out.box Tryd.underlying40 rfl step_size ?_)
      | (refine wpList_store_row rfl 40 (.tmp 4) (.tmp 81) rfl w.heap.size #[.int .i64 4, .int .i64 0, .slice none 0 0, .int .i64 b, .slice ak nk ck] rfl rfl 40 _ S4.out.ret step_size rfl step_one ?_))
    have hrow : ((w3.setRow (w.heap.size + 1) #[.int .i64 4, .int .i64 0, .slice none 0 0, .int .i64 b, .slice ak nk ck]).setRow w.heap.size #[.int .i64 4, .int .i64 0, .slice none 0 0, .int .i64 b, .slice ak nk ck]).heap[w.heap.size]? = some (.cells #[.int .i64 4, .int .i64 0, .slice none 0 0, .int .i64 b, .slice ak nk ck] 40 (0, 0)) := setRow_heap _ _ _ _ _ _ S4.out.ret
    refine bodyPost_ret (results_cell_tmp_row (P := Tryd.prog) Tryd.results18 _ _ w.heap.size 40 _ (0, 0) _ _ rfl rfl hrow Tryd.underlying40 rfl step_size) rfl ?_
    exact ⟨below_setRow S4.out.low (Nat.le_refl _) _, 0, b, none, 0, 0, ak, nk, ck, false, rfl, .inr ⟨rfl, HK.out⟩⟩
set_option maxHeartbeats 4000000 in
set_option maxRecDepth 1000000 in
theorem refStep7 (a : Option Addr) (c : Nat) (ss : List ByteArray) (w : World) (h : IsStrs w a c ss) (hl : ss.length ≤ 1048577) (hz : ∀ x ∈ ss, x.size ≤ 1048576) :
    Calls Tryd.prog 18 #[.int .i64 7, .slice a ss.length c] w (StepRP 7 (tls ss) w) := by
  have S0 := hide (sq_start w #[.int .i64 7, .int .i64 0, .slice none 0 0, .int .i64 0, .slice none 0 0])
  generalize hw2 : (w.alloc (.cells #[.int .i64 0, .int .i64 0, .slice none 0 0, .int .i64 0, .slice none 0 0] 40)).alloc (.cells #[.int .i64 7, .int .i64 0, .slice none 0 0, .int .i64 0, .slice none 0 0] 40) = w2 at S0
  have HW := hide hw2
  clear hw2
  have HS2 := hide (h.below S0.out.low)
  have CB := hide (refBroken_any 7 0 none 0 0 a c ss w2 HS2.out hl hz)
  obtain ⟨m, hm⟩ : ∃ m, ss.length = m := ⟨_, rfl⟩
  rw [hm] at CB ⊢
  have HT : Hid (stepK 7 (tls ss) = (tailP true false (tls ss)).map fun t => (⟨7, 0, [], t.1, t.2⟩ : StepP)) := rfl
  clear h hl hz hm
  obtain ⟨z0, _⟩ := S0.out.cell 0
  obtain ⟨z1, _⟩ := S0.out.cell 1
  obtain ⟨z2, _⟩ := S0.out.cell 2
  obtain ⟨z3, _⟩ := S0.out.cell 3
  obtain ⟨z4, _⟩ := S0.out.cell 4
  simp only [List.getElem?_toArray, List.getElem?_cons_zero, List.getElem?_cons_succ] at z0 z1 z2 z3 z4
  go_enter Tryd.func18, Tryd.ntmps18
  go_upto_region 2 with fail
  rw [HW.out]
  go_wp2_with fail
  refine CB.out.mono ?_
  rintro e w3 ⟨b3, b, ak, nk, ck, ok, rfl, h3⟩
  have S3 := hide (S0.out.later b3)
  have S4 := hide (S3.out.row #[.int .i64 7, .int .i64 0, .slice none 0 0, .int .i64 b, .slice ak nk ck])
  go_upto_region 24 with (refine wpList_store_row rfl 40 (.tmp 6) (.tmp 71) rfl (w.heap.size + 1) #[.int .i64 7, .int .i64 0, .slice none 0 0, .int .i64 b, .slice ak nk ck] rfl rfl 40 _ S3.out.box step_size rfl step_one ?_)
  rcases h3 with ⟨rfl, ks, ht, hk, ho⟩ | ⟨rfl, ht⟩
  · have HK : Hid (stepK 7 (tls ss) = some ⟨7, 0, [], b, ks⟩) := by show _ = _; rw [HT.out, ht]; rfl
    have HO := hide (And.intro hk (ho.mono S0.out.low.size))
    clear ht hk ho b3
    go_wp2_with (first
      | (refine wpList_load_row rfl 40 (.tmp 6) rfl (w.heap.size + 1) rfl 40 _ (0, 0) _ S4.out.box Tryd.underlying40 rfl step_size ?_)
      | (refine wpList_store_row rfl 40 (.tmp 4) (.tmp 81) rfl w.heap.size #[.int .i64 7, .int .i64 0, .slice none 0 0, .int .i64 b, .slice ak nk ck] rfl rfl 40 _ S4.out.ret step_size rfl step_one ?_))
    have hrow : ((w3.setRow (w.heap.size + 1) #[.int .i64 7, .int .i64 0, .slice none 0 0, .int .i64 b, .slice ak nk ck]).setRow w.heap.size #[.int .i64 7, .int .i64 0, .slice none 0 0, .int .i64 b, .slice ak nk ck]).heap[w.heap.size]? = some (.cells #[.int .i64 7, .int .i64 0, .slice none 0 0, .int .i64 b, .slice ak nk ck] 40 (0, 0)) := setRow_heap _ _ _ _ _ _ S4.out.ret
    refine bodyPost_ret (results_cell_tmp_row (P := Tryd.prog) Tryd.results18 _ _ w.heap.size 40 _ (0, 0) _ _ rfl rfl hrow Tryd.underlying40 rfl step_size) rfl ?_
    exact ⟨below_setRow S4.out.low (Nat.le_refl _) _, 0, b, none, 0, 0, ak, nk, ck, true, rfl, .inl ⟨rfl, _, HK.out, rfl, rfl, rfl, rfl, HO.out.1, S4.out.own3 (by decide) (Own.nil _ _) _, S4.out.own3 (by decide) (S3.out.own2 (by decide) HO.out.2 _) _⟩⟩
  · have HK : Hid (stepK 7 (tls ss) = none) := by show _ = _; rw [HT.out, ht]; rfl
    clear ht b3
    go_wp2_with (first
      | (refine wpList_load_row rfl 40 (.tmp 6) rfl (w.heap.size + 1) rfl 40 _ (0, 0) _ S4.out.box Tryd.underlying40 rfl step_size ?_)
      | (refine wpList_store_row rfl 40 (.tmp 4) (.tmp 81) rfl w.heap.size #[.int .i64 7, .int .i64 0, .slice none 0 0, .int .i64 b, .slice ak nk ck] rfl rfl 40 _ S4.out.ret step_size rfl step_one ?_))
    have hrow : ((w3.setRow (w.heap.size + 1) #[.int .i64 7, .int .i64 0, .slice none 0 0, .int .i64 b, .slice ak nk ck]).setRow w.heap.size #[.int .i64 7, .int .i64 0, .slice none 0 0, .int .i64 b, .slice ak nk ck]).heap[w.heap.size]? = some (.cells #[.int .i64 7, .int .i64 0, .slice none 0 0, .int .i64 b, .slice ak nk ck] 40 (0, 0)) := setRow_heap _ _ _ _ _ _ S4.out.ret
    refine bodyPost_ret (results_cell_tmp_row (P := Tryd.prog) Tryd.results18 _ _ w.heap.size 40 _ (0, 0) _ _ rfl rfl hrow Tryd.underlying40 rfl step_size) rfl ?_
    exact ⟨below_setRow S4.out.low (Nat.le_refl _) _, 0, b, none, 0, 0, ak, nk, ck, false, rfl, .inr ⟨rfl, HK.out⟩⟩
end Go.Proofs.YteaccpolmmkclaaDoor
