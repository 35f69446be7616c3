/-
  PlainKeeps, StpA, StpB, TsE.
-/
import Derived.Test.YtnpofjeiamjioaaDkZ
import Derived.Test.YtnpofjeiamjioaaTsX
namespace Go.Proofs.Ytnpofjeiamjioaa
open Go.RowKit Go.Maps

theorem crash_length (keep : List Int) (L : List Fl) : (crash keep L).length = L.length := part_length _ _ _
theorem crash_get (keep : List Int) (L : List Fl) (i : Nat) (f : Fl) (hf : L[i]? = some f) : (crash keep L)[i]? = some (crashed f (keep.getD i 0)) := by
  rw [crash, part_get, hf]
  have := (List.getElem?_eq_some_iff.1 hf).1
  simp [this]
/-- A file all of which is safe is left as it is. -/
theorem crashed_safe {f : Fl} (h : f.safe = f.data.length) (x : Int) : crashed f x = f := by
  have hk : kept f x = 0 := by
    unfold kept
    rw [h]
    simp
  unfold crashed
  rw [hk, Nat.add_zero, h, List.take_length, ← h]
theorem crash_safe (keep : List Int) (L : List Fl) (h : ∀ f ∈ L, f.safe = f.data.length) : crash keep L = L := by
  apply List.ext_getElem?
  intro i
  cases hf : L[i]? with
  | none => rw [crash, part_get, hf]; rfl
  | some f => rw [crash_get keep L i f hf, crashed_safe (h f (List.mem_of_getElem? hf))]
theorem crash_all_safe {q : Int} {L : List Fl} (hR : Right q L) (keep : List Int) : ∀ f ∈ crash keep L, f.safe = f.data.length := by
  intro g hg
  obtain ⟨i, hi⟩ := List.mem_iff_getElem?.1 hg
  cases hf : L[i]? with
  | none =>
    rw [crash, part_get, hf] at hi
    cases hi
  | some f =>
    rw [crash_get keep L i f hf] at hi
    obtain rfl := Option.some.inj hi
    exact (crashed_ok (hR.ok f (List.mem_of_getElem? hf)).1 _).1.symm
/-- A file and what a crash left of it. -/
theorem crash_two {q : Int} {L : List Fl} (hR : Right q L) (keep : List Int) {i : Nat} {f g : Fl} (hf : L[i]? = some f) (hg : (crash keep L)[i]? = some g) :
    g.num = f.num ∧ g.safe = g.data.length ∧ f.data.take g.data.length = g.data ∧ g.data.take f.safe = f.data.take f.safe ∧ f.safe ≤ g.data.length ∧ f.safe ≤ f.data.length := by
  have hs := (hR.ok f (List.mem_of_getElem? hf)).1
  rw [crash_get keep L i f hf] at hg
  obtain rfl := Option.some.inj hg
  have h1 := crashed_ok hs (keep.getD i 0)
  have hk := kept_le f (keep.getD i 0) hs
  refine ⟨rfl, h1.1.symm, ?_, ?_, ?_, hs⟩
  · rw [h1.1]
    rfl
  · simp only [crashed]
    rw [List.take_take, Nat.min_eq_left (by omega)]
  · rw [h1.1]
    simp only [crashed]
    omega
theorem total_take (L : List Fl) (k : Nat) (f : Fl) (h : L[k]? = some f) : total (L.take (k + 1)) = total (L.take k) + f.data.length := by
  unfold total
  rw [List.take_add_one, h]
  simp
theorem total_take_le (L : List Fl) (k : Nat) : total (L.take k) ≤ total L := by
  have h : total L = total (L.take k) + total (L.drop k) := by unfold total; rw [← List.sum_append, ← List.map_append, List.take_append_drop]
  omega
/-- A list of files, read at a place. -/
theorem listGet {w : World} {lo : Nat} {a : Option Addr} {n c : Nat} {P : List (Fl × Nat)} (h : ListAt w lo (.slice a n c) P) {i : Nat} {f : Fl} (hf : (P.map (·.1))[i]? = some f) :
    ∃ b g, a = some ⟨b, 0, none⟩ ∧ n ≤ c ∧ c ≤ maxLen ∧ w.cell? ⟨b, i * 3, none⟩ = some (.int .i64 f.num) ∧ w.cell? ⟨b, i * 3 + 1, none⟩ = some (.slice (some ⟨g, 0, none⟩) f.data.length f.data.length) ∧ w.cell? ⟨b, i * 3 + 2, none⟩ = some (.int .i64 (f.safe : Int)) ∧ ByteRow w 5 g f.data := by
  rw [List.getElem?_map] at hf
  obtain ⟨⟨f', g⟩, hp, rfl⟩ := Option.map_eq_some_iff.1 hf
  obtain ⟨a', c', hv, h1, h2, hcell⟩ := h.cells
  simp only [Value.slice.injEq] at hv
  obtain ⟨rfl, rfl, rfl⟩ := hv
  obtain ⟨b, hb, _, k0, k1, k2, hr⟩ := hcell i _ hp
  exact ⟨b, g, hb, h2, h1, k0, k1, k2, hr⟩
end Go.Proofs.Ytnpofjeiamjioaa

namespace Go.Proofs.Ytnpofjeiamjioaa
open Go.RowKit Go.Maps

/-- What a step leaves. -/
def StepP (W : World) (B pb pc hb n : Nat) (o : Pq) (w' : World) : Prop := ∃ p' vo' vw' P' sz', T2 W B pb pc hb p' o vo' vw' P' sz' w' ∧ Sz (n + 1) p' o P' sz'
/-- The arguments, as they lie. -/
structure StpI (W : World) (B : Nat) (x : OpI) (da : Option Addr) (dc : Nat) (ka : Option Addr) (kc : Nat) : Prop where
  d : ∀ X, Below B W X → IsBytes X da dc x.act.data
  k : ∀ X, Below B W X → IsInts X ka kc x.keep
  kb : ∀ b o, ka = some ⟨b, o, none⟩ → x.keep ≠ [] → b < B
  fit : opFits x
  dl : x.act.data.length ≤ 1048576
  kl : x.keep.length ≤ 1048576
theorem Sz.same {n : Nat} {p o : Pq} {P : List Ls} {sz : Int} (h : Sz n p o P sz) : Sz (n + 1) p o P sz := ⟨by have := h.lp; omega, by have := h.lo; omega, by have := h.bk; omega, h.od, h.hi⟩
theorem Sz.turn {n : Nat} {p p' o : Pq} {P : List Ls} {sz : Int} (h : Sz n p o P sz) (hl : p'.L.length ≤ n + 1) : Sz (n + 1) p' o P sz := ⟨hl, by have := h.lo; omega, by have := h.bk; omega, h.od, h.hi⟩
theorem Sz.none {n : Nat} {p o : Pq} {P : List Ls} {sz : Int} (h : Sz n p o P sz) : Sz (n + 1) p o [] 0 := ⟨by have := h.lp; omega, by have := h.lo; omega, by simp, by simp [odb, skL], by omega⟩
theorem drawn (X : World) : Below X.heap.size X X.drew := (Below.refl _ X).drew
theorem setRow_kept (w : World) (b : Nat) (cs : Array Value) : Kept (fun g => g = b) w (w.setRow b cs) := ⟨rfl, rfl, rfl, by simp [World.setRow], fun k _ hk => setRow_other w _ k _ hk⟩
theorem info_act4S : (Try.prog.info? 39).map (·.size) = some 4 := by kernel_rfl
theorem under_act4S : Try.prog.underlying 39 = some (.struct (Try.prog.fieldsOf 39)) := by kernel_rfl
set_option linter.unusedSimpArgs false in
set_option maxHeartbeats 4000000 in
set_option maxRecDepth 1000000 in
theorem stp_do (W w : World) (B pb pc hb n : Nat) (p o : Pq) (vo vw : Value) (P : List Ls) (sz : Int) (h : T2 W B pb pc hb p o vo vw P sz w) (hs : Sz n p o P sz) (hn : n ≤ 1048576) (x : OpI) (da : Option Addr) (dc : Nat) (ka : Option Addr) (kc : Nat) (hx : StpI W B x da dc ka kc) (hk : x.kind = 0) :
    Calls Try.prog 9 #[.pointer (some ⟨pb, 0, none⟩), .agg (ptrs o.db o.rb), .pointer (some ⟨hb, 0, none⟩), .agg (opCells x da dc ka kc).toArray] w fun e w' => e = .returned (.bool true) ∧ StepP W B pb pc hb n o w' := by
  obtain ⟨C, hC⟩ : ∃ C, C = (opCells x da dc ka kc).toArray := ⟨_, rfl⟩
  obtain ⟨O, hO⟩ : ∃ O, O = ptrs o.db o.rb := ⟨_, rfl⟩
  rw [← hC, ← hO]
  obtain ⟨w0, hw0⟩ : ∃ w0, w0 = (w.alloc (.cells O 33)).alloc (.cells C 42) := ⟨_, rfl⟩
  have b0 : Below w.heap.size w w0 := by rw [hw0]; exact ((Below.refl _ w).alloc (Nat.le_refl _) _).alloc (by simp) _
  obtain ⟨ob, hob⟩ : ∃ ob, ob = w.heap.size := ⟨_, rfl⟩
  obtain ⟨cb, hcb⟩ : ∃ cb, cb = w.heap.size + 1 := ⟨_, rfl⟩
  have xo : w0.heap[ob]? = some (.cells O 33 (0, 0)) := by
    rw [hw0, hob]
    exact (heap_alloc_old (w.alloc (.cells O 33)) _ (by simp)).trans (heap_alloc_new w _)
  have xc : w0.heap[cb]? = some (.cells C 42 (0, 0)) := by
    rw [hw0, hcb]
    have := heap_alloc_new (w.alloc (.cells O 33)) (.cells C 42)
    rw [World.size_alloc] at this
    exact this
  have hlow : ob = w.heap.size ∧ cb = w.heap.size + 1 ∧ w0.heap.size = w.heap.size + 2 := ⟨hob, hcb, by rw [hw0]; simp⟩
  have kc1 : w0.cell? ⟨cb, 1, none⟩ = some (.int .i64 x.kind) := by rw [hC] at xc; simp [World.cell?, xc, opCells]
  have t0 := h.later b0
  have T0 := hideR t0
  have HLow := hideR hlow
  have HO := hideR hO
  have HC := hideR hC
  have HXO := hideR xo
  have HXC := hideR xc
  have HS := hideR hs
  have HX := hideR hx
  have HT := hideR h
  rw [hk] at kc1
  clear h hs hx t0 hO hC xo xc b0 hlow
  go_enter Try.func9, Try.ntmps9
  go_upto_region 1 with fail
  rw [← hw0, ← hcb, ← hob]
  clear hw0 hob hcb hk
  go_upto_region 3 with fail
  clear kc1
  have sq : (fun X : World => X.heap[pb]? = some (.cells p.cells 33 (0, 0)) ∧ X.heap[cb]? = some (.cells C 42 (0, 0))) w0.drew := ⟨T0.out.b1, HXC.out⟩
  have t1 := T0.out.later (drawn w0)
  have T1 := hideR t1
  have rng : ∀ X : World, X.heap[cb]? = some (.cells C 42 (0, 0)) → X.rangeAt cb 0 (opCells x da dc ka kc) := fun X hX j v hj => by
    have e : C = (opCells x da dc ka kc).toArray := HC.out
    subst e
    simpa [World.cell?, hX] using hj
  have rng4 : ∀ X : World, X.heap[cb]? = some (.cells C 42 (0, 0)) → X.rangeAt cb 2 [.int .i64 x.act.kind, .int .i64 x.act.file, .slice da x.act.data.length dc, .int .i64 x.act.size] := fun X hX j v hj => by
    have h1 := rng X hX (2 + j) v
    rw [Nat.zero_add] at h1
    refine h1 ?_
    match j, hj with
    | 0, hj => exact hj
    | 1, hj => exact hj
    | 2, hj => exact hj
    | 3, hj => exact hj
  have RNG := hideR rng4
  have CD : HidR (Calls Try.prog 15 #[.agg p.cells, .agg #[.int .i64 x.act.kind, .int .i64 x.act.file, .slice da x.act.data.length dc, .int .i64 x.act.size]] w0.drew fun e w' => e = .returned (.bool true) ∧ PrP w0.drew B p.db p.mb p.q p.L p.vs p.rb p.fv p.F (act p.q p.L x.act.kind x.act.file x.act.data x.act.size).2 w') := ⟨does_any w0.drew B p.db p.mb p.q p.L p.vs p.rb p.fv p.F t1.pp t1.hB (by have := HS.out.lp; omega) x.act.kind x.act.file x.act.size HX.out.fit.2.2.1 da dc x.act.data (fun X hX => HX.out.d X (t1.bw.trans hX)) (by have := HX.out.dl; omega)⟩
  have hal := act_len t1.pp.dk.right x.act.kind x.act.file x.act.data x.act.size
  obtain ⟨L', hL'⟩ : ∃ L', L' = (act p.q p.L x.act.kind x.act.file x.act.data x.act.size).2 := ⟨_, rfl⟩
  rw [← hL'] at CD hal
  clear rng rng4 hL'
  clear t1
  refine wp_region_held_drew (S := fun X => X.heap[pb]? = some (.cells p.cells 33 (0, 0)) ∧ X.heap[cb]? = some (.cells C 42 (0, 0))) (by kernel_rfl) sq (fun _ => ?_)
  refine H_take (i := 0) (v := .pointer (some ⟨pb, 0, none⟩)) (some 15) rfl rfl (by kernel_rfl) (by kernel_rfl) (by kernel_rfl) (fun _ _ _ h => h) rfl (fun X hX => ?_) sq ?_
  · simp [go_sem]
  simp only [Act.put, List.setIfInBounds_toArray, List.set_cons_zero, List.set_cons_succ]
  refine H_take (i := 1) (v := .pointer (some ⟨pb, 0, none⟩)) (some 16) rfl rfl (by kernel_rfl) (by kernel_rfl) (by kernel_rfl) (fun _ _ _ h => h) rfl (fun X hX => ?_) sq ?_
  · simp [go_sem]
  simp only [Act.put, List.setIfInBounds_toArray, List.set_cons_zero, List.set_cons_succ]
  refine H_take (i := 2) (v := .agg p.cells) (some 17) rfl rfl (by kernel_rfl) (by kernel_rfl) (by kernel_rfl) (fun _ _ _ h => h) rfl (fun X hX => ?_) sq ?_
  · exact run_loadRow rfl rfl hX.1 under_pair rfl info_pair
  simp only [Act.put, List.setIfInBounds_toArray, List.set_cons_zero, List.set_cons_succ]
  refine H_take (i := 3) (v := .pointer (some ⟨cb, 2, none⟩)) (some 18) rfl rfl (by kernel_rfl) (by kernel_rfl) (by kernel_rfl) (fun _ _ _ h => h) rfl (fun X hX => ?_) sq ?_
  · simp [go_sem]
  simp only [Act.put, List.setIfInBounds_toArray, List.set_cons_zero, List.set_cons_succ]
  refine H_take (i := 4) (v := .agg #[.int .i64 x.act.kind, .int .i64 x.act.file, .slice da x.act.data.length dc, .int .i64 x.act.size]) (some 19) rfl rfl (by kernel_rfl) (by kernel_rfl) (by kernel_rfl) (fun _ _ _ h => h) rfl (fun X hX => ?_) sq ?_
  · exact run_loadM rfl rfl (RNG.out X hX.2) under_act4S rfl info_act4S
  simp only [Act.put, List.setIfInBounds_toArray, List.set_cons_zero, List.set_cons_succ]
  refine H_call (i := 5) (f := 15) (args := #[.agg p.cells, .agg #[.int .i64 x.act.kind, .int .i64 x.act.file, .slice da x.act.data.length dc, .int .i64 x.act.size]]) (some 20) rfl rfl (by kernel_rfl) rfl (by simp [go_sem]) (CD.out.mono ?_)
  rintro e w6 ⟨rfl, hp6⟩
  obtain ⟨p', hl', hc', t6⟩ := T1.out.does hp6
  have k6 := hp6.1
  have sq6 : (fun X : World => X.heap[pb]? = some (.cells p.cells 33 (0, 0)) ∧ X.heap[cb]? = some (.cells C 42 (0, 0))) w6 := ⟨by rw [← hc']; exact t6.b1, (k6.block _ (Array.getElem?_eq_some_iff.1 sq.2).1 (fun e => by have := HT.out.pp.blt e; have := HLow.out.1; have := HLow.out.2.1; omega)).trans sq.2⟩
  have T6 := hideR (And.intro t6 hl')
  clear hp6 hc' t6 k6 hl'
  refine ⟨_, rfl, sq6, ?_⟩
  simp only [Act.put, List.setIfInBounds_toArray, List.set_cons_zero, List.set_cons_succ]
  refine H_take (i := 6) (v := .bool true) (some 8) rfl rfl (by kernel_rfl) (by kernel_rfl) (by kernel_rfl) (fun _ _ _ h => h) rfl (fun X hX => ?_) sq6 ?_
  · simp [go_sem]
  simp only [Act.put, List.setIfInBounds_toArray, List.set_cons_zero, List.set_cons_succ]
  refine wpAnyH_done (by kernel_rfl) ?_ _
  go_wp2_with fail
  go_ret
  exact ⟨rfl, p', vo, vw, P, sz, T6.out.1, HS.out.turn (by rw [T6.out.2]; have := HS.out.lp; omega)⟩
set_option linter.unusedSimpArgs false in
set_option maxHeartbeats 4000000 in
set_option maxRecDepth 1000000 in
theorem stp_crash (W w : World) (B pb pc hb n : Nat) (p o : Pq) (vo vw : Value) (P : List Ls) (sz : Int) (h : T2 W B pb pc hb p o vo vw P sz w) (hs : Sz n p o P sz) (hn : n ≤ 1048576) (x : OpI) (da : Option Addr) (dc : Nat) (ka : Option Addr) (kc : Nat) (hx : StpI W B x da dc ka kc) (hk : x.kind = 2) :
    Calls Try.prog 9 #[.pointer (some ⟨pb, 0, none⟩), .agg (ptrs o.db o.rb), .pointer (some ⟨hb, 0, none⟩), .agg (opCells x da dc ka kc).toArray] w fun e w' => e = .returned (.bool true) ∧ StepP W B pb pc hb n o w' := by
  obtain ⟨C, hC⟩ : ∃ C, C = (opCells x da dc ka kc).toArray := ⟨_, rfl⟩
  obtain ⟨O, hO⟩ : ∃ O, O = ptrs o.db o.rb := ⟨_, rfl⟩
  rw [← hC, ← hO]
  obtain ⟨w0, hw0⟩ : ∃ w0, w0 = (w.alloc (.cells O 33)).alloc (.cells C 42) := ⟨_, rfl⟩
  have b0 : Below w.heap.size w w0 := by rw [hw0]; exact ((Below.refl _ w).alloc (Nat.le_refl _) _).alloc (by simp) _
  obtain ⟨ob, hob⟩ : ∃ ob, ob = w.heap.size := ⟨_, rfl⟩
  obtain ⟨cb, hcb⟩ : ∃ cb, cb = w.heap.size + 1 := ⟨_, rfl⟩
  have xo : w0.heap[ob]? = some (.cells O 33 (0, 0)) := by
    rw [hw0, hob]
    exact (heap_alloc_old (w.alloc (.cells O 33)) _ (by simp)).trans (heap_alloc_new w _)
  have xc : w0.heap[cb]? = some (.cells C 42 (0, 0)) := by
    rw [hw0, hcb]
    have := heap_alloc_new (w.alloc (.cells O 33)) (.cells C 42)
    rw [World.size_alloc] at this
    exact this
  have hlow : ob = w.heap.size ∧ cb = w.heap.size + 1 ∧ w0.heap.size = w.heap.size + 2 := ⟨hob, hcb, by rw [hw0]; simp⟩
  have kc1 : w0.cell? ⟨cb, 1, none⟩ = some (.int .i64 x.kind) := by rw [hC] at xc; simp [World.cell?, xc, opCells]
  have t0 := h.later b0
  have T0 := hideR t0
  have HLow := hideR hlow
  have HO := hideR hO
  have HC := hideR hC
  have HXO := hideR xo
  have HXC := hideR xc
  have HS := hideR hs
  have HX := hideR hx
  have HT := hideR h
  rw [hk] at kc1
  clear h hs hx t0 hO hC xo xc b0 hlow
  go_enter Try.func9, Try.ntmps9
  go_upto_region 1 with fail
  rw [← hw0, ← hcb, ← hob]
  clear hw0 hob hcb hk
  go_upto_region 10 with fail
  clear kc1
  have sq : (fun X : World => X.heap[pb]? = some (.cells p.cells 33 (0, 0)) ∧ X.heap[cb]? = some (.cells C 42 (0, 0))) w0.drew := ⟨T0.out.b1, HXC.out⟩
  have t1 := T0.out.later (drawn w0)
  have T1 := hideR t1
  have rng : ∀ X : World, X.heap[cb]? = some (.cells C 42 (0, 0)) → X.rangeAt cb 0 (opCells x da dc ka kc) := fun X hX j v hj => by
    have e : C = (opCells x da dc ka kc).toArray := HC.out
    subst e
    simpa [World.cell?, hX] using hj
  have rng6 : ∀ X : World, X.heap[cb]? = some (.cells C 42 (0, 0)) → X.cell? ⟨cb, 6, none⟩ = some (.slice ka x.keep.length kc) := fun X hX => rng X hX 6 _ rfl
  have RNG := hideR rng6
  have CD : HidR (Calls Try.prog 16 #[.agg p.cells, .slice ka x.keep.length kc] w0.drew fun e w' => e = .returned (.bool true) ∧ PrP w0.drew B p.db p.mb p.q p.L p.vs p.rb p.fv p.F (crash x.keep p.L) w') := ⟨crashes_any w0.drew B p.db p.mb p.q p.L p.vs p.rb p.fv p.F t1.pp t1.hB (by have := HS.out.lp; omega) ka kc x.keep (fun X hX => HX.out.k X (t1.bw.trans hX)) HX.out.kb (by have := HX.out.kl; omega)⟩
  have hal : (crash x.keep p.L).length = p.L.length := crash_length _ _
  obtain ⟨L', hL'⟩ : ∃ L', L' = crash x.keep p.L := ⟨_, rfl⟩
  rw [← hL'] at CD hal
  clear rng rng6 hL'
  clear t1
  refine wp_region_held_drew (S := fun X => X.heap[pb]? = some (.cells p.cells 33 (0, 0)) ∧ X.heap[cb]? = some (.cells C 42 (0, 0))) (by kernel_rfl) sq (fun _ => ?_)
  refine H_take (i := 0) (v := .pointer (some ⟨pb, 0, none⟩)) (some 38) rfl rfl (by kernel_rfl) (by kernel_rfl) (by kernel_rfl) (fun _ _ _ h => h) rfl (fun X hX => ?_) sq ?_
  · simp [go_sem]
  simp only [Act.put, List.setIfInBounds_toArray, List.set_cons_zero, List.set_cons_succ]
  refine H_take (i := 1) (v := .pointer (some ⟨pb, 0, none⟩)) (some 39) rfl rfl (by kernel_rfl) (by kernel_rfl) (by kernel_rfl) (fun _ _ _ h => h) rfl (fun X hX => ?_) sq ?_
  · simp [go_sem]
  simp only [Act.put, List.setIfInBounds_toArray, List.set_cons_zero, List.set_cons_succ]
  refine H_take (i := 2) (v := .agg p.cells) (some 40) rfl rfl (by kernel_rfl) (by kernel_rfl) (by kernel_rfl) (fun _ _ _ h => h) rfl (fun X hX => ?_) sq ?_
  · exact run_loadRow rfl rfl hX.1 under_pair rfl info_pair
  simp only [Act.put, List.setIfInBounds_toArray, List.set_cons_zero, List.set_cons_succ]
  refine H_take (i := 3) (v := .pointer (some ⟨cb, 6, none⟩)) (some 41) rfl rfl (by kernel_rfl) (by kernel_rfl) (by kernel_rfl) (fun _ _ _ h => h) rfl (fun X hX => ?_) sq ?_
  · simp [go_sem]
  simp only [Act.put, List.setIfInBounds_toArray, List.set_cons_zero, List.set_cons_succ]
  refine H_take (i := 4) (v := .slice ka x.keep.length kc) (some 42) rfl rfl (by kernel_rfl) (by kernel_rfl) (by kernel_rfl) (fun _ _ _ h => h) rfl (fun X hX => ?_) sq ?_
  · simp [go_sem, RNG.out X hX.2]
  simp only [Act.put, List.setIfInBounds_toArray, List.set_cons_zero, List.set_cons_succ]
  refine H_call (i := 5) (f := 16) (args := #[.agg p.cells, .slice ka x.keep.length kc]) (some 43) rfl rfl (by kernel_rfl) rfl (by simp [go_sem]) (CD.out.mono ?_)
  rintro e w6 ⟨rfl, hp6⟩
  obtain ⟨p', hl', hc', t6⟩ := T1.out.does hp6
  have k6 := hp6.1
  have sq6 : (fun X : World => X.heap[pb]? = some (.cells p.cells 33 (0, 0)) ∧ X.heap[cb]? = some (.cells C 42 (0, 0))) w6 := ⟨by rw [← hc']; exact t6.b1, (k6.block _ (Array.getElem?_eq_some_iff.1 sq.2).1 (fun e => by have := HT.out.pp.blt e; have := HLow.out.1; have := HLow.out.2.1; omega)).trans sq.2⟩
  have T6 := hideR (And.intro t6 hl')
  clear hp6 hc' t6 k6 hl'
  refine ⟨_, rfl, sq6, ?_⟩
  simp only [Act.put, List.setIfInBounds_toArray, List.set_cons_zero, List.set_cons_succ]
  refine H_take (i := 6) (v := .bool true) (some 8) rfl rfl (by kernel_rfl) (by kernel_rfl) (by kernel_rfl) (fun _ _ _ h => h) rfl (fun X hX => ?_) sq6 ?_
  · simp [go_sem]
  simp only [Act.put, List.setIfInBounds_toArray, List.set_cons_zero, List.set_cons_succ]
  refine wpAnyH_done (by kernel_rfl) ?_ _
  go_wp2_with fail
  go_ret
  exact ⟨rfl, p', vo, vw, P, sz, T6.out.1, HS.out.turn (by rw [T6.out.2]; have := HS.out.lp; omega)⟩
end Go.Proofs.Ytnpofjeiamjioaa

namespace Go.Proofs.Ytnpofjeiamjioaa
open Go.RowKit Go.Maps

set_option linter.unusedSimpArgs false in
set_option maxHeartbeats 4000000 in
set_option maxRecDepth 1000000 in
theorem stp_files (W w : World) (B pb pc hb n : Nat) (p o : Pq) (vo vw : Value) (P : List Ls) (sz : Int) (h : T2 W B pb pc hb p o vo vw P sz w) (hs : Sz n p o P sz) (hn : n ≤ 1048576) (x : OpI) (da : Option Addr) (dc : Nat) (ka : Option Addr) (kc : Nat) (hx : StpI W B x da dc ka kc) (hk : x.kind = 1) :
    Calls Try.prog 9 #[.pointer (some ⟨pb, 0, none⟩), .agg (ptrs o.db o.rb), .pointer (some ⟨hb, 0, none⟩), .agg (opCells x da dc ka kc).toArray] w fun e w' => e = .returned (.bool true) ∧ StepP W B pb pc hb n o w' := by
  obtain ⟨C, hC⟩ : ∃ C, C = (opCells x da dc ka kc).toArray := ⟨_, rfl⟩
  obtain ⟨O, hO⟩ : ∃ O, O = ptrs o.db o.rb := ⟨_, rfl⟩
  rw [← hC, ← hO]
  obtain ⟨w0, hw0⟩ : ∃ w0, w0 = (w.alloc (.cells O 33)).alloc (.cells C 42) := ⟨_, rfl⟩
  have b0 : Below w.heap.size w w0 := by rw [hw0]; exact ((Below.refl _ w).alloc (Nat.le_refl _) _).alloc (by simp) _
  obtain ⟨ob, hob⟩ : ∃ ob, ob = w.heap.size := ⟨_, rfl⟩
  obtain ⟨cb, hcb⟩ : ∃ cb, cb = w.heap.size + 1 := ⟨_, rfl⟩
  have xo : w0.heap[ob]? = some (.cells O 33 (0, 0)) := by
    rw [hw0, hob]
    exact (heap_alloc_old (w.alloc (.cells O 33)) _ (by simp)).trans (heap_alloc_new w _)
  have xc : w0.heap[cb]? = some (.cells C 42 (0, 0)) := by
    rw [hw0, hcb]
    have := heap_alloc_new (w.alloc (.cells O 33)) (.cells C 42)
    rw [World.size_alloc] at this
    exact this
  have hlow : ob = w.heap.size ∧ cb = w.heap.size + 1 ∧ w0.heap.size = w.heap.size + 2 := ⟨hob, hcb, by rw [hw0]; simp⟩
  have kc1 : w0.cell? ⟨cb, 1, none⟩ = some (.int .i64 x.kind) := by rw [hC] at xc; simp [World.cell?, xc, opCells]
  have t0 := h.later b0
  have T0 := hideR t0
  have HLow := hideR hlow
  have HO := hideR hO
  have HC := hideR hC
  have HXO := hideR xo
  have HXC := hideR xc
  have HS := hideR hs
  have HX := hideR hx
  have HT := hideR h
  rw [hk] at kc1
  clear h hs hx t0 hO hC xo xc b0 hlow
  go_enter Try.func9, Try.ntmps9
  go_upto_region 1 with fail
  rw [← hw0, ← hcb, ← hob]
  clear hw0 hob hcb hk
  obtain ⟨k0, k1⟩ : w0.cell? ⟨pb, 0, none⟩ = some (.pointer (some ⟨p.db, 0, none⟩)) ∧ w0.cell? ⟨pb, 1, none⟩ = some (.pointer (some ⟨p.rb, 0, none⟩)) := by have := T0.out.b1; simp [World.cell?, this, Pq.cells, ptrs]
  have LK := hideR (looks_any True w0 B p.db p.mb p.q p.L p.vs p.rb p.fv p.F T0.out.pp hb vo vw P sz 2097152 T0.out.bk (fun g e => (T0.out.a1 g (Fd3.b e)).1) T0.out.hB (by have := HS.out.lp; omega) (by omega) (by have := HS.out.bk; omega))
  go_wp2_with fail
  refine LK.out.mono ?_
  rintro e w1 ⟨rfl, hp⟩
  obtain ⟨vo', vw', sz', P', t1, hl, ho, hz⟩ := T0.out.looks hp
  have T1 := hideR t1
  obtain ⟨_, _, k2, _⟩ := t1.bk.fd.rows.cells
  have hod := HS.out.od
  have hhi := HS.out.hi
  have hlp := HS.out.lp
  have hbk := HS.out.bk
  have hzz := hz (by omega) (by omega)
  have H1 := hideR (And.intro hl (And.intro ho hzz))
  clear hp t1 hl ho hz hzz k0 k1 LK kc1
  by_cases hgt : 1048576 < sz'
  · have OV := hideR (over_any w1 B hb vo' vw' P' sz' 2097152 T1.out.bk T1.out.hB (by have := H1.out.2.1; omega) (by have := H1.out.1; omega))
    clear hod hhi hlp hbk
    go_wp2_with fail
    refine OV.out.mono ?_
    rintro e w2 ⟨rfl, k3, x3⟩
    have T2' := hideR (T1.out.over k3 x3)
    clear k3 x3
    go_wp2_with fail
    go_ret
    exact ⟨rfl, p, _, _, _, _, T2'.out, HS.out.none⟩
  · go_wp2_with fail
    go_ret
    exact ⟨rfl, p, vo', vw', P', sz', T1.out, ⟨by omega, by have := HS.out.lo; omega, by have := H1.out.1; omega, by have := H1.out.2.1; have := H1.out.2.2; omega, by omega⟩⟩
set_option linter.unusedSimpArgs false in
set_option maxHeartbeats 4000000 in
set_option maxRecDepth 1000000 in
theorem stp_spoil (W w : World) (B pb pc hb n : Nat) (p o : Pq) (vo vw : Value) (P : List Ls) (sz : Int) (h : T2 W B pb pc hb p o vo vw P sz w) (hs : Sz n p o P sz) (hn : n ≤ 1048576) (x : OpI) (da : Option Addr) (dc : Nat) (ka : Option Addr) (kc : Nat) (hx : StpI W B x da dc ka kc) (hk : x.kind = 5) :
    Calls Try.prog 9 #[.pointer (some ⟨pb, 0, none⟩), .agg (ptrs o.db o.rb), .pointer (some ⟨hb, 0, none⟩), .agg (opCells x da dc ka kc).toArray] w fun e w' => e = .returned (.bool true) ∧ StepP W B pb pc hb n o w' := by
  obtain ⟨C, hC⟩ : ∃ C, C = (opCells x da dc ka kc).toArray := ⟨_, rfl⟩
  obtain ⟨O, hO⟩ : ∃ O, O = ptrs o.db o.rb := ⟨_, rfl⟩
  rw [← hC, ← hO]
  obtain ⟨w0, hw0⟩ : ∃ w0, w0 = (w.alloc (.cells O 33)).alloc (.cells C 42) := ⟨_, rfl⟩
  have b0 : Below w.heap.size w w0 := by rw [hw0]; exact ((Below.refl _ w).alloc (Nat.le_refl _) _).alloc (by simp) _
  obtain ⟨ob, hob⟩ : ∃ ob, ob = w.heap.size := ⟨_, rfl⟩
  obtain ⟨cb, hcb⟩ : ∃ cb, cb = w.heap.size + 1 := ⟨_, rfl⟩
  have xo : w0.heap[ob]? = some (.cells O 33 (0, 0)) := by
    rw [hw0, hob]
    exact (heap_alloc_old (w.alloc (.cells O 33)) _ (by simp)).trans (heap_alloc_new w _)
  have xc : w0.heap[cb]? = some (.cells C 42 (0, 0)) := by
    rw [hw0, hcb]
    have := heap_alloc_new (w.alloc (.cells O 33)) (.cells C 42)
    rw [World.size_alloc] at this
    exact this
  have hlow : ob = w.heap.size ∧ cb = w.heap.size + 1 ∧ w0.heap.size = w.heap.size + 2 := ⟨hob, hcb, by rw [hw0]; simp⟩
  have kc1 : w0.cell? ⟨cb, 1, none⟩ = some (.int .i64 x.kind) := by rw [hC] at xc; simp [World.cell?, xc, opCells]
  have t0 := h.later b0
  have T0 := hideR t0
  have HLow := hideR hlow
  have HO := hideR hO
  have HC := hideR hC
  have HXO := hideR xo
  have HXC := hideR xc
  have HS := hideR hs
  have HX := hideR hx
  have HT := hideR h
  rw [hk] at kc1
  clear h hs hx t0 hO hC xo xc b0 hlow
  go_enter Try.func9, Try.ntmps9
  go_upto_region 1 with fail
  rw [← hw0, ← hcb, ← hob]
  clear hw0 hob hcb hk
  have OV := hideR (over_any w0 B hb vo vw P sz 2097152 T0.out.bk T0.out.hB (by have := HS.out.od; have := HS.out.hi; omega) (by have := HS.out.bk; omega))
  go_wp2_with fail
  refine OV.out.mono ?_
  rintro e w2 ⟨rfl, k3, x3⟩
  have T2' := hideR (T0.out.over k3 x3)
  clear k3 x3
  go_wp2_with fail
  go_ret
  exact ⟨rfl, p, _, _, _, _, T2'.out, HS.out.none⟩
set_option linter.unusedSimpArgs false in
set_option maxHeartbeats 4000000 in
set_option maxRecDepth 1000000 in
theorem stp_none (W w : World) (B pb pc hb n : Nat) (p o : Pq) (vo vw : Value) (P : List Ls) (sz : Int) (h : T2 W B pb pc hb p o vo vw P sz w) (hs : Sz n p o P sz) (x : OpI) (da : Option Addr) (dc : Nat) (ka : Option Addr) (kc : Nat) (hx : StpI W B x da dc ka kc) (hk : x.kind ≠ 0 ∧ x.kind ≠ 1 ∧ x.kind ≠ 2 ∧ x.kind ≠ 3 ∧ x.kind ≠ 4 ∧ x.kind ≠ 5) :
    Calls Try.prog 9 #[.pointer (some ⟨pb, 0, none⟩), .agg (ptrs o.db o.rb), .pointer (some ⟨hb, 0, none⟩), .agg (opCells x da dc ka kc).toArray] w fun e w' => e = .returned (.bool true) ∧ StepP W B pb pc hb n o w' := by
  obtain ⟨C, hC⟩ : ∃ C, C = (opCells x da dc ka kc).toArray := ⟨_, rfl⟩
  obtain ⟨O, hO⟩ : ∃ O, O = ptrs o.db o.rb := ⟨_, rfl⟩
  rw [← hC, ← hO]
  obtain ⟨w0, hw0⟩ : ∃ w0, w0 = (w.alloc (.cells O 33)).alloc (.cells C 42) := ⟨_, rfl⟩
  have b0 : Below w.heap.size w w0 := by rw [hw0]; exact ((Below.refl _ w).alloc (Nat.le_refl _) _).alloc (by simp) _
  obtain ⟨ob, hob⟩ : ∃ ob, ob = w.heap.size := ⟨_, rfl⟩
  obtain ⟨cb, hcb⟩ : ∃ cb, cb = w.heap.size + 1 := ⟨_, rfl⟩
  have xo : w0.heap[ob]? = some (.cells O 33 (0, 0)) := by
    rw [hw0, hob]
    exact (heap_alloc_old (w.alloc (.cells O 33)) _ (by simp)).trans (heap_alloc_new w _)
  have xc : w0.heap[cb]? = some (.cells C 42 (0, 0)) := by
    rw [hw0, hcb]
    have := heap_alloc_new (w.alloc (.cells O 33)) (.cells C 42)
    rw [World.size_alloc] at this
    exact this
  have hlow : ob = w.heap.size ∧ cb = w.heap.size + 1 ∧ w0.heap.size = w.heap.size + 2 := ⟨hob, hcb, by rw [hw0]; simp⟩
  have kc1 : w0.cell? ⟨cb, 1, none⟩ = some (.int .i64 x.kind) := by rw [hC] at xc; simp [World.cell?, xc, opCells]
  have t0 := h.later b0
  have T0 := hideR t0
  have HLow := hideR hlow
  have HO := hideR hO
  have HC := hideR hC
  have HXO := hideR xo
  have HXC := hideR xc
  have HS := hideR hs
  have HX := hideR hx
  have HT := hideR h
  obtain ⟨q0, q1, q2, q3, q4, q5⟩ := hk
  have e0 : (x.kind == 0) = false := by simp [q0]
  have e1 : (x.kind == 1) = false := by simp [q1]
  have e2 : (x.kind == 2) = false := by simp [q2]
  have e3 : (x.kind == 3) = false := by simp [q3]
  have e4 : (x.kind == 4) = false := by simp [q4]
  have e5 : (x.kind == 5) = false := by simp [q5]
  clear h hs hx t0 hO hC xo xc b0 hlow
  go_enter Try.func9, Try.ntmps9
  go_upto_region 1 with fail
  rw [← hw0, ← hcb, ← hob]
  clear hw0 hob hcb q0 q1 q2 q3 q4 q5
  go_wp2_with fail
  go_ret
  exact ⟨rfl, p, vo, vw, P, sz, T0.out, HS.out.same⟩
end Go.Proofs.Ytnpofjeiamjioaa

namespace Go.Proofs.Ytnpofjeiamjioaa
open Go.RowKit Go.Maps

structure E2 (W : World) (B pb pc hb : Nat) (p o : Pq) (vo vw : Value) (P : List Ls) (sz : Int) (w : World) : Prop where
  pp : p.At w B
  po : o.At w B
  bk : Bk False w B hb vo vw P sz 2097152
  a1 : ∀ g, Fd3 hb vo vw g → ¬ p.M g ∧ ¬ o.M g
  b1 : w.heap[pb]? = some (.cells p.cells 33 (0, 0))
  b2 : w.heap[pc]? = some (.cells o.cells 33 (0, 0))
  nf : ¬ Fd3 hb vo vw pb ∧ ¬ Fd3 hb vo vw pc
  bw : Below B W w
  hB : B ≤ w.heap.size
section
variable {W w w' : World} {B pb pc hb n : Nat} {p o : Pq} {vo vw : Value} {P : List Ls} {sz : Int}
theorem E2.swap (h : E2 W B pb pc hb p o vo vw P sz w) : E2 W B pc pb hb o p vo vw P sz w :=
  ⟨h.po, h.pp, h.bk, fun g e => ⟨(h.a1 g e).2, (h.a1 g e).1⟩, h.b2, h.b1, ⟨h.nf.2, h.nf.1⟩, h.bw, h.hB⟩
theorem Fd3.r {g : Nat} (h : Fd3 hb vo vw g) : FdR hb vo vw P g := by
  rcases h with e | e | e
  · exact .inl e
  · exact .inr (.inl e)
  · exact .inr (.inr (.inl e))
theorem T2.spoilt (h : T2 W B pb pc hb p o vo vw P sz w) (hp : SpoilFP w B hb vo vw P w') : ∃ vo' vw' P' sz', E2 W B pb pc hb p o vo' vw' P' sz' w' ∧ P'.length ≤ P.length + P.length := by
  obtain ⟨k, vo', vw', P', sz', fd, hl, hm⟩ := hp
  have hm3 : ∀ g, Fd3 hb vo' vw' g → FdB hb vo vw P g ∨ w.heap.size ≤ g := fun g e => hm g e.r
  refine ⟨vo', vw', P', sz', ⟨h.pp.kept k (fun g e e2 => (h.a1 g e2).1 e), h.po.kept k (fun g e e2 => (h.a1 g e2).2 e), ⟨fd, fun f => f.elim, fun f => f.elim, fun f => f.elim⟩, fun g e => ?_, (k.block _ h.lt.1 h.n1.2.2).trans h.b1, (k.block _ h.lt.2 h.n2.2.2).trans h.b2, ⟨fun e => ?_, fun e => ?_⟩, h.bw.trans (k.below h.hB (fun j hj e => by have := h.bk.fd.bge e; omega)), Nat.le_trans h.hB k.size⟩, hl⟩
  · rcases hm3 g e with e3 | e3
    · exact h.a1 g e3
    · exact ⟨fun e2 => by have := h.pp.blt e2; omega, fun e2 => by have := h.po.blt e2; omega⟩
  · rcases hm3 _ e with e3 | e3
    · exact h.n1.2.2 e3
    · have := h.lt.1; omega
  · rcases hm3 _ e with e3 | e3
    · exact h.n2.2.2 e3
    · have := h.lt.2; omega
theorem E2.lt (h : E2 W B pb pc hb p o vo vw P sz w) : pb < w.heap.size ∧ pc < w.heap.size := ⟨(Array.getElem?_eq_some_iff.1 h.b1).1, (Array.getElem?_eq_some_iff.1 h.b2).1⟩
theorem E2.looks (h : E2 W B pb pc hb p o vo vw P sz w) (hp : LooksP False w B p.db p.mb p.q p.L p.vs p.rb p.fv p.F hb vo vw P sz 2097152 w') :
    ∃ vo' vw' sz' P', E2 W B pb pc hb p o vo' vw' P' sz' w' ∧ P'.length = P.length + 2 := by
  obtain ⟨k, pr, vo', vw', sz', P', bk, hl, _, hm, _⟩ := hp
  refine ⟨vo', vw', sz', P', ⟨pr, h.po.kept k (fun g e e2 => (h.a1 g e2).2 e), bk, fun g e => ?_, (k.block _ h.lt.1 h.nf.1).trans h.b1, (k.block _ h.lt.2 h.nf.2).trans h.b2, ⟨fun e => ?_, fun e => ?_⟩, h.bw.trans (k.below h.hB (fun j hj e => by have := h.bk.fd.bge (Fd3.b e); omega)), Nat.le_trans h.hB k.size⟩, hl⟩
  · rcases hm g e with e3 | e3
    · exact h.a1 g e3
    · exact ⟨fun e2 => by have := h.pp.blt e2; omega, fun e2 => by have := h.po.blt e2; omega⟩
  · rcases hm _ e with e3 | e3
    · exact h.nf.1 e3
    · have := h.lt.1; omega
  · rcases hm _ e with e3 | e3
    · exact h.nf.2 e3
    · have := h.lt.2; omega
theorem T2.cellsP (h : T2 W B pb pc hb p o vo vw P sz w) : w.cell? ⟨pb, 0, none⟩ = some (.pointer (some ⟨p.db, 0, none⟩)) ∧ w.cell? ⟨pb, 1, none⟩ = some (.pointer (some ⟨p.rb, 0, none⟩)) := by have := h.b1; simp [World.cell?, this, Pq.cells, ptrs]
theorem E2.cellsP (h : E2 W B pb pc hb p o vo vw P sz w) : w.cell? ⟨pb, 0, none⟩ = some (.pointer (some ⟨p.db, 0, none⟩)) ∧ w.cell? ⟨pb, 1, none⟩ = some (.pointer (some ⟨p.rb, 0, none⟩)) := by have := h.b1; simp [World.cell?, this, Pq.cells, ptrs]
theorem T2.lookC (h : T2 W B pb pc hb p o vo vw P sz w) (hl : p.L.length ≤ 2097152) (hP : P.length ≤ 1073741000) :
    Calls Try.prog 11 #[.agg #[.pointer (some ⟨p.db, 0, none⟩), .pointer (some ⟨p.rb, 0, none⟩)], .pointer (some ⟨hb, 0, none⟩)] w fun e w' => e = .returned (.bool true) ∧ LooksP True w B p.db p.mb p.q p.L p.vs p.rb p.fv p.F hb vo vw P sz 2097152 w' :=
  looks_any True w B p.db p.mb p.q p.L p.vs p.rb p.fv p.F h.pp hb vo vw P sz 2097152 h.bk (fun g e => (h.a1 g (Fd3.b e)).1) h.hB hl (by omega) hP
theorem E2.lookC (h : E2 W B pb pc hb p o vo vw P sz w) (hl : p.L.length ≤ 2097152) (hP : P.length ≤ 1073741000) :
    Calls Try.prog 11 #[.agg #[.pointer (some ⟨p.db, 0, none⟩), .pointer (some ⟨p.rb, 0, none⟩)], .pointer (some ⟨hb, 0, none⟩)] w fun e w' => e = .returned (.bool true) ∧ LooksP False w B p.db p.mb p.q p.L p.vs p.rb p.fv p.F hb vo vw P sz 2097152 w' :=
  looks_any False w B p.db p.mb p.q p.L p.vs p.rb p.fv p.F h.pp hb vo vw P sz 2097152 h.bk (fun g e => (h.a1 g e).1) h.hB hl (by omega) hP
end
end Go.Proofs.Ytnpofjeiamjioaa
