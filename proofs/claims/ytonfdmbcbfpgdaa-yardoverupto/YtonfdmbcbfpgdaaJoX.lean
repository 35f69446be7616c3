/-
  YJobs, YJobsW.
-/
import Derived.Test.YtonfdmbcbfpgdaaYTold
import Derived.Test.YtonfdmbcbfpgdaaShelfM
import Derived.Test.YtonfdmbcbfpgdaaKeepsG
import Derived.Lib.SlKeysI
namespace Go.Proofs.Ytonfdmbcbfpgdaa
open Go.RowKit Go.Maps Go.Sort Go.Shelf
/-- The numbers, sorted. -/
theorem VTabI.keys {w : World} {mb : Nat} {n : Nat} {g : Int → Option Value} (h : VTabI w mb n g) (ks : List Int) (hk : ks.Pairwise (· < ·)) (hm : ∀ t, t ∈ ks ↔ (g t).isSome = true) :
    ∃ D : DataW Value, w.ownsMap Try.prog 3 heldElemI mb n D ∧ Maps.size D = n ∧ ∀ ss : List Int, ss.Perm (intKeys D) → ss.mergeSort (fun x y => decide (x ≤ y)) = ks := by
  obtain ⟨D, h1, h2, h3⟩ := h
  refine ⟨D, h1, h2, fun ss hp => ?_⟩
  have hnd : ks.Nodup := hk.imp (fun h => by omega)
  obtain ⟨es, hD, hpw, _⟩ := h1.entries keyedI
  obtain ⟨es', hD', hko⟩ := h1.keysOf
  obtain rfl : es = es' := by rw [hD] at hD'; simpa using hD'
  have hp2 : ks.Perm (intKeys D) := by
    rw [hD]
    refine perm_intKeys hpw (fun p hp => by obtain ⟨v, hv⟩ := hko p hp; obtain ⟨x, _, hx, _⟩ := Maps.keyOf_i64 Try.underlying3 hv; exact ⟨x, hx⟩) hnd (fun x => ?_)
    rw [hm x, ← hD]
    exact (Bool.eq_iff_iff.1 (h3 x).1.symm)
  have := mergeSort_of_perm_i (hp.trans hp2.symm)
  refine Eq.trans this ?_
  exact List.mergeSort_of_pairwise (hk.imp (fun h => by simp; omega))
theorem sortsA (m : Nat) : AnyZI.SortsIn Try.prog Try.sortedA_ren Fence.wide m :=
  ⟨fun blk off cap ss W hH hblk hsz => callsIn_wide.2 (AnyM.slices_Sort_int Try.sortA blk off cap ss W hH hblk hsz),
   fun p cap W => callsIn_wide.2 (AnyM.slices_Sort_int_none Try.sortA p cap W)⟩
abbrev kF : FuncId := 51
theorem keys_any (mb : Nat) (W : World) : Calls Try.prog 26 #[.map (some mb)] W fun e w' => e = .returned (.func (.func kF) #[] #[.pointer (some ⟨W.heap.size, 0, none⟩)]) ∧ w' = W.alloc (.cells #[.map (some mb)] 54) :=
  (callsIn_wide (n := 5)).1 (AnyZI.keys_in Try.keysA Fence.wide 5 trivial rfl (some mb) W)
theorem sorted_any (mb n : Nat) (g : Int → Option Value) (w : World) (h : VTabI w mb n g) (ks : List Int) (hk : ks.Pairwise (· < ·)) (hm : ∀ t, t ∈ ks ↔ (g t).isSome = true) (hn : n ≤ 1000000000) :
    Calls Try.prog 25 #[.func (.func kF) #[] #[.pointer (some ⟨w.heap.size, 0, none⟩)]] (w.alloc (.cells #[.map (some mb)] 54)) fun e w' => ∃ v, e = .returned v ∧ w'.ownsRow w.heap.size 3 1 v ks.length (ks.map (fun x => Value.int .i64 x)) ∧ Below w.heap.size w w' := by
  obtain ⟨D0, hown, hsz, hkeys⟩ := h.keys ks hk hm
  have hmax : Maps.size D0 ≤ maxLen := by rw [hsz]; unfold maxLen; omega
  have hbytes : Maps.size D0 * 8 ≤ 140737488355328 := by rw [hsz]; omega
  have hbl := hown.lt
  have hseq : SeqGives Fence.wide 2 Try.prog kF #[.pointer (some ⟨w.heap.size, 0, none⟩)] encZ (fun ss => ss.Perm (intKeys D0)) (Maps.size D0) (w.alloc (.cells #[.map (some mb)] 54)) :=
    AnyZI.keys_gives (ρ := Try.keysA_ren) { Try.keysA with } Fence.wide _ trivial rfl (by omega) w.heap.size mb n D0 _ (by simp) (by simp) (by
      obtain ⟨es, clock, hb, Ft, hs, hD⟩ := hown
      exact ⟨es, clock, (Below.heap_alloc _ _ mb hbl).trans hb, Ft, hs, hD⟩)
  have cS := AnyZI.sorted_in Try.sortedA Fence.wide 5 trivial trivial trivial trivial rfl (by omega) (sortsA _) (enters_of Try.func50 (by kernel_rfl) rfl) kF #[.pointer (some ⟨w.heap.size, 0, none⟩)] trivial (enters_of Try.func51 (by kernel_rfl) rfl) _ _ hmax hbytes _ hseq
  change CallsIn _ _ Try.prog 25 _ _ _ at cS
  refine ((callsIn_wide (n := 5)).1 cS).mono ?_
  rintro e w' ⟨v, ss, rfl, hS, hrow, hnil, hb⟩
  have e1 : ss.length = ks.length := by
    have := congrArg List.length (hkeys ss hS)
    simpa using this
  have hr := ownsRow_base_a hrow (base' := w.heap.size) (by simp)
  rw [hkeys ss hS, e1] at hr
  exact ⟨v, rfl, hr, ((Below.refl _ w).alloc (Nat.le_refl _) _).trans (hb.mono (by simp))⟩
/-- The cells of jobs that were told. -/
def jobsX (P : List (En × Value)) : List Value := P.flatMap fun p => (p.1.j.cells p.2).toList
theorem jobsX_len (P : List (En × Value)) : (jobsX P).length = P.length * 16 := by
  induction P with
  | nil => rfl
  | cons p r ih => simp only [jobsX, List.flatMap_cons, List.length_append, List.length_cons] at ih ⊢; rw [ih]; show 16 + _ = _; omega
theorem info_job : (Try.prog.info? 41).map (fun i => (i.zero, i.size, i.bytes)) = some (some (.agg (jb0.cells (.slice none 0 0))), 16, 152) := by kernel_rfl
theorem build_job (j : Jb) (v : Value) (w : World) : (Instr.buildSlice 22 1 #[(0, .agg (j.cells v))]).run Try.prog w = .ok (.slice (some ⟨w.heap.size, 0, none⟩) 1 1) (w.alloc (.cells (j.cells v) 41)) := by
  obtain ⟨id, pr, dl, tr, bo, st, du, od, ho, c0, c1, c2, c3, c4, nm⟩ := j
  kernel_rfl
end Go.Proofs.Ytonfdmbcbfpgdaa

namespace Go.Proofs.Ytonfdmbcbfpgdaa
open Go.RowKit Go.Maps
theorem look_at {L : List En} (hs : L.Pairwise (fun a b => a.j.id < b.j.id)) {k : Nat} {e : En} (h : L[k]? = some e) : lookE L e.j.id = some e := by
  induction L generalizing k with
  | nil => simp at h
  | cons x r ih =>
    rw [List.pairwise_cons] at hs
    unfold lookE
    rw [List.find?_cons]
    cases k with
    | zero =>
      obtain rfl : x = e := by simpa using h
      simp
    | succ k =>
      have he : e ∈ r := List.mem_of_getElem? (by simpa using h)
      have := hs.1 e he
      rw [show (x.j.id == e.j.id) = false by simp; omega]
      exact ih hs.2 (by simpa using h)
theorem ids_mem {L : List En} (t : Int) : t ∈ L.map (fun e => e.j.id) ↔ ((lookE L t).map En.val).isSome = true := by
  rw [Option.isSome_map]
  unfold lookE
  rw [List.find?_isSome, List.mem_map]
  constructor
  · rintro ⟨e, he, rfl⟩; exact ⟨e, he, by simp⟩
  · rintro ⟨e, he, h⟩; exact ⟨e, he, by simpa using h⟩
theorem row_below {w w' : World} {B e s : Nat} {v : Value} {n : Nat} {xs : List Value} (h : w.ownsRow B e s v n xs) (hb : Below w.heap.size w w') : w'.ownsRow B e s v n xs := by
  refine ⟨h.1, ?_⟩
  rcases h.2 with h0 | ⟨g, cap, cur, rfl, hB, hg, rest⟩
  · exact .inl h0
  · exact .inr ⟨g, cap, cur, rfl, hB, (hb.block g (Array.getElem?_eq_some_iff.1 hg).1).trans hg, rest⟩
/-- A job is put behind those that were told. -/
theorem run_appendJ (w : World) (B : Nat) (ty : TypeId) (v : Value) (P : List (En × Value)) (e : En) (x : Value) (hx : (e.j.cells x).all (·.oneCell') = true) (h : w.ownsRow B 41 16 v P.length (jobsX P)) (g : Nat) (hg : w.heap[g]? = some (.cells (e.j.cells x) 41 (0, 0))) (hl : P.length ≤ 100000000) (hB : B ≤ w.heap.size) :
    ∃ v' w', (Builtin.append_ #[22, 22] ty #[v, .slice (some ⟨g, 0, none⟩) 1 1]).run Try.prog w = .ok v' w' ∧ w'.ownsRow B 41 16 v' (P ++ [(e, x)]).length (jobsX (P ++ [(e, x)])) ∧ w.grownBy w' v.ownBlock ∧ (v'.ownBlock = v.ownBlock ∨ v'.ownBlock = some w.heap.size) := by
  obtain ⟨i9, hi, hz0, hz1, hz2⟩ := info_parts info_job
  obtain ⟨v', w', hr, h2, h3, _, h5, _⟩ := run_append_keepsG (P := Try.prog) w 16 B 22 ty 41 i9 (.agg (jb0.cells (.slice none 0 0))) Try.underlying22 hi hz0 hz1 rfl v P.length (jobsX P) h (some ⟨g, 0, none⟩) 1 1 (e.j.cells x).toList rfl (.inr ⟨_, rfl, fun q u hu => by
    rw [Go.WideShapes.add_plain, Nat.zero_add]
    simpa [World.cell?, hg] using hu⟩) (fun u hu => (Array.all_eq_true_iff_forall_mem.1 hx) u (by simpa using hu)) (by unfold maxLen; omega) (by rw [hz2]; omega) hB
  refine ⟨v', w', hr, ?_, h3, h5⟩
  rw [List.length_append, show jobsX (P ++ [(e, x)]) = jobsX P ++ (e.j.cells x).toList by simp [jobsX]]
  exact h2
theorem wpList_made {P : Program} {ops : Array Oper} {rest : List Oper} {o : Oper} {a : Act} {w w' : World} {v : Value} {Q : Exit → Act → World → Prop} (hgd : o.guard = none) (hx : (execOp a.eval o).run P w = .ok (.value v) w') (h : wpList P ops Q rest (a.put o.dst v) w') : wpList P ops Q (o :: rest) a w :=
  wpList_plain hgd fun K hK => by
    unfold Oper.wp
    rw [hx]
    exact hK _ _ h
theorem run_buildJ {o : Oper} {a : Act} {w : World} {x : Operand} {j : Jb} {v : Value} (ho : o.op = .buildSlice 22 1 #[(0, x)]) (hx : a.eval x = .agg (j.cells v)) : (execOp a.eval o).run Try.prog w = .ok (.value (.slice (some ⟨w.heap.size, 0, none⟩) 1 1)) (w.alloc (.cells (j.cells v) 41)) := by
  unfold execOp
  simp only [ho, hx, List.map_toArray, List.map_cons, List.map_nil, Sem.run_bind, build_job, Sem.run_pure, Result.andThen_ok]
theorem wpList_appendJ {w : World} {ops : Array Oper} {rest : List Oper} {o : Oper} {a : Act} {Q : Exit → Act → World → Prop} (hgd : o.guard = none) (s x : Operand)
    (ho : o.op = .call { callee := .builtin .append, args := #[s, x], argTypes := #[22, 22] })
    (B : Nat) (v : Value) (P : List (En × Value)) (e : En) (y : Value) (hs : a.eval s = v) (g : Nat) (hx : a.eval x = .slice (some ⟨g, 0, none⟩) 1 1) (h1 : (e.j.cells y).all (·.oneCell') = true) (h : w.ownsRow B 41 16 v P.length (jobsX P)) (hg : w.heap[g]? = some (.cells (e.j.cells y) 41 (0, 0))) (hl : P.length ≤ 100000000) (hB : B ≤ w.heap.size)
    (k : ∀ v' w', w'.ownsRow B 41 16 v' (P ++ [(e, y)]).length (jobsX (P ++ [(e, y)])) → w.grownBy w' v.ownBlock → (v'.ownBlock = v.ownBlock ∨ v'.ownBlock = some w.heap.size) → wpList Try.prog ops Q rest (a.put o.dst v') w') : wpList Try.prog ops Q (o :: rest) a w := by
  refine wpList_plain hgd fun K hK => ?_
  obtain ⟨v', w', hr, h2, h3, h4⟩ := run_appendJ w B o.type v P e y h1 h g hg hl hB
  unfold Oper.wp execOp
  simp only [ho, resolve, invoke, builtin, Sem.run_bind, Sem.run_pure, Result.andThen_ok, List.map_toArray, List.map_cons, List.map_nil, hs, hx, hr]
  exact hK _ _ (k v' w' h2 h3 h4)
/-- In the midst of the loop. -/
structure Jl (w : World) (Y : Yd) (a3 : Option Addr) (k : Nat) (v : Value) (P : List (En × Value)) (wr : World) : Prop where
  own : wr.ownsRow w.heap.size 41 16 v P.length (jobsX P)
  fst : P.map (·.1) = Y.L.take k
  bel : Below w.heap.size w wr
  shp : ∀ p ∈ P, ∃ a n c, p.2 = Value.slice a n c
  ids : ∀ g, a3 = some ⟨g, 0, none⟩ → v.ownBlock ≠ some g ∧ g < wr.heap.size ∧ w.heap.size ≤ g ∧ ∀ (q : Nat) e, Y.L[q]? = some e → wr.cell? ⟨g, q, none⟩ = some (.int .i64 e.j.id)
set_option maxHeartbeats 8000000 in
set_option maxRecDepth 1000000 in
theorem jobs_any (w : World) (lab : Nat → HK) (yb : Nat) (Y : Yd) (h : YAt w lab yb Y) (hs : Y.L.Pairwise (fun a b => a.j.id < b.j.id)) (hi : ∀ e ∈ Y.L, I64 e.j.id ∧ e.body.length ≤ 140737488355328) (hl : Y.L.length ≤ 100000000) :
    Calls Try.prog 12 #[ptrV yb] w fun x w' => ∃ v, x = .returned v ∧ ∃ P, w'.ownsRow w.heap.size 41 16 v P.length (jobsX P) ∧ P.map (·.1) = Y.L ∧ Below w.heap.size w w' ∧ ∀ p ∈ P, ∃ a n c, p.2 = Value.slice a n c := by
  obtain ⟨d, r, hd, hr⟩ := h.two
  have y0 := (h.cells hd hr).1
  have ylt := h.yb_lt
  obtain ⟨n, hn⟩ : ∃ n, n = Y.L.length := ⟨_, rfl⟩
  have TJ : Hid (VTabI w Y.jm n (fun i => (lookE Y.L i).map En.val)) := by rw [hn]; exact h.jobs
  obtain ⟨i9, hi9, hz0, hz1, hz2⟩ := info_parts info_job
  have HY : Hid (YAt w lab yb Y ∧ Y.L.Pairwise (fun a b => a.j.id < b.j.id) ∧ (∀ e ∈ Y.L, I64 e.j.id ∧ e.body.length ≤ 140737488355328)) := ⟨h, hs, hi⟩
  have HN : Hid (n = Y.L.length) := hn
  have hnl : n ≤ 100000000 := by omega
  clear hd hr h hs hi hn hl
  go_enter Try.func12, Try.ntmps12
  go_upto_region 2 with (first
    | (refine wpList_vlenI rfl (.tmp 9) 54 71 Try.underlying54 rfl Y.jm n (fun i => (lookE Y.L i).map En.val) rfl TJ.out ?_)
    | (at_make; refine wpList_make_own _ rfl (.const (.int .i64 0)) (.tmp 10) 22 rfl w.heap.size 41 i9 _ 16 Try.underlying22 hi9 hz0 hz1 .i64 .i64 (n : Int) n rfl rfl rfl (by rw [hz2]; omega) (by unfold maxLen; omega) (Nat.le_refl _) ?_; intro w1 o1 g1; have H1 : Hid (w1.ownsRow w.heap.size 41 16 (.slice (some ⟨w.heap.size, 0, none⟩) 0 n) 0 [] ∧ w.grownBy w1 none) := ⟨o1, g1⟩; clear o1 g1))
  have B1 : Below w.heap.size w w1 := ⟨H1.out.2.os, H1.out.2.tape, H1.out.2.output, H1.out.2.size, fun k hk => H1.out.2.block k hk (by simp)⟩
  have y01 := (B1.cell (p := ⟨yb, 0, none⟩) ylt).trans y0
  have ylt1 := Nat.lt_of_lt_of_le ylt B1.size
  have CK : Hid (Calls Try.prog 26 #[.map (some Y.jm)] w1 fun e w' => e = .returned (.func (.func kF) #[] #[.pointer (some ⟨w1.heap.size, 0, none⟩)]) ∧ w' = w1.alloc (.cells #[.map (some Y.jm)] 54)) := keys_any Y.jm w1
  have CS : Hid (Calls Try.prog 25 #[.func (.func kF) #[] #[.pointer (some ⟨w1.heap.size, 0, none⟩)]] (w1.alloc (.cells #[.map (some Y.jm)] 54)) fun e w' => ∃ a c, e = .returned (.slice a n c) ∧ w'.ownsRow w1.heap.size 3 1 (.slice a n c) n (Y.L.map (fun e => Value.int .i64 e.j.id)) ∧ Below w1.heap.size w1 w') := by
    refine (sorted_any Y.jm n _ w1 (TJ.out.later B1) (Y.L.map (fun e => e.j.id)) (List.pairwise_map.2 HY.out.2.1) ids_mem (by omega)).mono ?_
    rintro e w' ⟨v, rfl, ho, hb⟩
    rw [List.map_map, List.length_map, ← HN.out] at ho
    obtain ⟨a, c, rfl⟩ : ∃ a c, v = .slice a n c := by
      rcases ho.2 with ⟨rfl, h0⟩ | ⟨g, cap, cur, rfl, _⟩
      · exact ⟨none, 0, by rw [h0]⟩
      · exact ⟨_, _, rfl⟩
    exact ⟨a, c, rfl, ho, hb⟩
  have HB1 : Hid (Below w.heap.size w w1) := B1
  clear B1 y0 ylt
  go_wp2_with (first
    | (go_at_call 26; refine CK.out.mono ?_; rintro e w2 ⟨rfl, rfl⟩)
    | (go_at_call 25; refine CS.out.mono ?_; rintro e w3 ⟨a3, c3, rfl, o3, b3⟩; have H3 : Hid (w3.ownsRow w1.heap.size 3 1 (.slice a3 n c3) n (Y.L.map (fun e => Value.int .i64 e.j.id)) ∧ Below w1.heap.size w1 w3) := ⟨o3, b3⟩; clear o3 b3))
  have HA : Hid (0 < n → ∃ g, a3 = some ⟨g, 0, none⟩) := fun h0 => by
    rcases H3.out.1.2 with ⟨_, hz⟩ | ⟨g, cap, cur, hv, _⟩
    · omega
    · simp only [Value.slice.injEq] at hv
      exact ⟨g, hv.1⟩
  have JL0 : Hid (Jl w Y a3 0 (.slice (some ⟨w.heap.size, 0, none⟩) 0 n) [] w3) := by
    have s1 := HB1.out.size
    have g1lt : w.heap.size < w1.heap.size := (World.ownsRow.lt H1.out.1 w.heap.size rfl).2
    refine ⟨?_, by simp, HB1.out.trans (H3.out.2.mono s1), (by simp), fun g hg => ?_⟩
    · exact row_below H1.out.1 H3.out.2
    · subst hg
      rcases H3.out.1.2 with ⟨hv, _⟩ | ⟨g', cap, cur, hv, hB, hgh, hnc, hcm, hcs, htake⟩
      · cases hv
      · simp only [Value.slice.injEq, Option.some.injEq, Addr.mk.injEq, and_true] at hv
        obtain ⟨rfl, _⟩ := hv
        refine ⟨fun e => ?_, (Array.getElem?_eq_some_iff.1 hgh).1, by omega, fun q e hq => ?_⟩
        · have e : w.heap.size = g := Option.some.inj e
          omega
        · have hql : q < n := by rw [HN.out]; exact (List.getElem?_eq_some_iff.1 hq).1
          have hx : (cur.toList.take (n * 1))[q]? = some (.int .i64 e.j.id) := by rw [htake, List.getElem?_map, hq]; rfl
          rw [List.getElem?_take_of_lt (by omega)] at hx
          simpa [World.cell?, hgh] using hx
  clear CK CS H1 H3 HB1 y01 ylt1
  go_loopw [3, 19] (fun v i wr => ∃ (k : Nat) (P : List (En × Value)), i = .int .i64 k ∧ k ≤ n ∧ Hid (Jl w Y a3 k v P wr)) (fun _ i _ => n - (intOf i).toNat)
  case atStart => exact ⟨0, [], rfl, Nat.zero_le _, JL0⟩
  case round =>
    obtain ⟨k, P, rfl, hk, HJ⟩ := hrel
    clear JL0
    by_cases hlt : k < n
    · have hltI : (k : Int) < (n : Int) := by omega
      have hk0 : (0 : Int) ≤ (k : Int) := by omega
      obtain ⟨g, rfl⟩ := HA.out (by omega)
      obtain ⟨e, he⟩ : ∃ e, Y.L[k]? = some e := ⟨_, List.getElem?_eq_getElem (by rw [← HN.out]; exact hlt)⟩
      obtain ⟨i1, i2, i3, i4⟩ := HJ.out.ids g rfl
      have ck := i4 k e he
      have hP : P.length = k := by have := congrArg List.length HJ.out.fst; simp at this; have := HN.out; omega
      have Ar : YAt wr lab yb Y := HY.out.1.below HJ.out.bel (fun _ _ => rfl)
      obtain ⟨d, r, hd, hr⟩ := Ar.two
      have y0 := (Ar.cells hd hr).1
      have ylt := Ar.yb_lt
      have hem := List.mem_of_getElem? he
      have hlk : (Instr.lookup 54 (.map (some Y.jm)) (.int .i64 e.j.id) false).run Try.prog wr = .ok (.agg e.cells) wr := by
        have := Ar.jobs.look_run (w := wr) Try.underlying54 (zero_ent _) e.j.id (HY.out.2.2 e hem).1
        rw [look_at HY.out.2.1 he] at this
        exact this
      obtain ⟨ba, bc, bv1, bI⟩ := (Ar.body e hem).is
      have CT : Hid (Calls Try.prog 27 #[.agg e.cells] wr fun x w' => ∃ v, x = .returned (.agg (e.j.cells v)) ∧ Own w' wr.heap.size v e.body ∧ Below wr.heap.size wr w') := told_any e wr ba bc bv1 bI (HY.out.2.2 e hem).2
      have HE : Hid (Y.L[k]? = some e ∧ P.length = k) := ⟨he, hP⟩
      clear he hP hem Ar hd hr bv1 bI i1 i3 i4
      go_wp2_with (first
        | (go_at_call 27; refine CT.out.mono ?_; rintro x w4 ⟨v4, rfl, o4, b4⟩; obtain ⟨a4, c4, e4, _⟩ := o4.shape; have H4 : Hid (Own w4 wr.heap.size v4 e.body ∧ Below wr.heap.size wr w4 ∧ v4 = .slice a4 e.body.length c4) := ⟨o4, b4, e4⟩; clear o4 b4 e4)
        | (refine wpList_made rfl (run_buildJ (j := e.j) (v := v4) rfl rfl) ?_)
        | (at_builtin; refine wpList_appendJ rfl (.tmp 23) (.tmp 31) rfl w.heap.size u3 P e v4 rfl w4.heap.size rfl (by rw [H4.out.2.2]; exact job_one _ _ _ _) (row_below HJ.out.own (H4.out.2.1.trans (Below.mono ((Below.refl _ w4).alloc (Nat.le_refl _) _) H4.out.2.1.size))) (heap_alloc_new w4 _) (by have := HE.out.2; omega) (by have := HJ.out.bel.size; have := H4.out.2.1.size; simp; omega) ?_; intro v5 w5 o5 g5 l5; have H5 : Hid (w5.ownsRow w.heap.size 41 16 v5 (P ++ [(e, v4)]).length (jobsX (P ++ [(e, v4)])) ∧ (w4.alloc (.cells (e.j.cells v4) 41)).grownBy w5 u3.ownBlock ∧ (v5.ownBlock = u3.ownBlock ∨ v5.ownBlock = some (w4.alloc (.cells (e.j.cells v4) 41)).heap.size)) := ⟨o5, g5, l5⟩; clear o5 g5 l5))
      have q1 : Below wr.heap.size wr (w4.alloc (.cells (e.j.cells v4) 41)) := H4.out.2.1.trans (Below.mono ((Below.refl _ w4).alloc (Nat.le_refl _) _) H4.out.2.1.size)
      have q2 := HJ.out.bel.size
      have q3 := q1.size
      have q4 := H5.out.2.1.size
      refine ⟨⟨k + 1, P ++ [(e, v4)], by go_num, by omega, H5.out.1, ?_, ?_, ?_, fun g' hg' => ?_⟩, by simp [intOf]; omega⟩
      · rw [List.map_append, HJ.out.fst, List.take_add_one, HE.out.1]
        rfl
      · exact (HJ.out.bel.trans (q1.mono q2)).grown H5.out.2.1 (by omega) (fun g' hg' => (World.ownsRow.lt HJ.out.own g' hg').1)
      · intro p hp
        rcases List.mem_append.1 hp with hp | hp
        · exact HJ.out.shp p hp
        · obtain rfl : p = (e, v4) := by simpa using hp
          exact ⟨_, _, _, H4.out.2.2⟩
      · cases hg'
        obtain ⟨i1, i2, i3, i4⟩ := HJ.out.ids g rfl
        refine ⟨fun h => ?_, by omega, i3, fun q e' hq => ?_⟩
        · rcases H5.out.2.2 with h5 | h5
          · rw [h5] at h; exact i1 h
          · rw [h5] at h
            have h : (w4.alloc (.cells (e.j.cells v4) 41)).heap.size = g := Option.some.inj h
            omega
        · have c1 := i4 q e' hq
          have c2 := (q1.cell (p := ⟨g, q, none⟩) i2).trans c1
          exact (World.cell?_of_block (H5.out.2.1.block g (by omega) (fun h => i1 h.symm))).trans c2
    · have hltI : ¬ (k : Int) < (n : Int) := by omega
      go_wp2_with fail
      go_ret
      refine ⟨_, rfl, P, HJ.out.own, ?_, HJ.out.bel, fun a b h => HJ.out.shp (a, b) h⟩
      rw [HJ.out.fst, List.take_of_length_le (by rw [← HN.out]; omega)]
end Go.Proofs.Ytonfdmbcbfpgdaa
