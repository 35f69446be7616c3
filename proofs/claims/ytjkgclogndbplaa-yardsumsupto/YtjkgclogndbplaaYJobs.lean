/-
  The walk of Jobs.
-/
import Derived.Test.YtjkgclogndbplaaYTold
import Derived.Test.YtjkgclogndbplaaShelfM
import Derived.Test.YtjkgclogndbplaaKeepsG
import Derived.Lib.SlKeysI
namespace Go.Proofs.Ytjkgclogndbplaa
open Go.RowKit Go.Maps Go.Sort Go.Shelf
/-- The numbers, sorted. -/
theorem VTabI.keys {w : World} {mb : Nat} {n : Nat} {g : Int → Option Value} (h : VTabI w mb n g) (ks : List Int) (hk : ks.Pairwise (· < ·)) (hm : ∀ t, t ∈ ks ↔ (g t).isSome = true) :
    ∃ D : DataW Value, w.ownsMap Try.prog 3 heldElemI mb n D ∧ Maps.size D = n ∧ ∀ ss : List Int, ss.Perm (intKeys D) → ss.mergeSort (fun x y => decide (x ≤ y)) = ks := by
  obtain ⟨D, h1, h2, h3⟩ := h
  refine ⟨D, h1, h2, fun ss hp => ?_⟩
  have hnd : ks.Nodup := hk.imp (fun h => by omega)
  obtain ⟨es, hD, hpw, _⟩ := h1.entries keyedI
  obtain ⟨es', hD', hko⟩ := h1.keysOf
  obtain rfl : es = es' := by rw [hD] at hD'; simpa using hD'
  have hp2 : ks.Perm (intKeys D) := by
    rw [hD]
    refine perm_intKeys hpw (fun p hp => by obtain ⟨v, hv⟩ := hko p hp; obtain ⟨x, _, hx, _⟩ := Maps.keyOf_i64 Try.underlying3 hv; exact ⟨x, hx⟩) hnd (fun x => ?_)
    rw [hm x, ← hD]
    exact (Bool.eq_iff_iff.1 (h3 x).1.symm)
  have := mergeSort_of_perm_i (hp.trans hp2.symm)
  refine Eq.trans this ?_
  exact List.mergeSort_of_pairwise (hk.imp (fun h => by simp; omega))
theorem sortsA (m : Nat) : AnyZI.SortsIn Try.prog Try.sortedA_ren Fence.wide m :=
  ⟨fun blk off cap ss W hH hblk hsz => callsIn_wide.2 (AnyM.slices_Sort_int Try.sortA blk off cap ss W hH hblk hsz),
   fun p cap W => callsIn_wide.2 (AnyM.slices_Sort_int_none Try.sortA p cap W)⟩
abbrev kF : FuncId := 54
theorem keys_any (mb : Nat) (W : World) : Calls Try.prog 29 #[.map (some mb)] W fun e w' => e = .returned (.func (.func kF) #[] #[.pointer (some ⟨W.heap.size, 0, none⟩)]) ∧ w' = W.alloc (.cells #[.map (some mb)] 58) :=
  (callsIn_wide (n := 5)).1 (AnyZI.keys_in Try.keysA Fence.wide 5 trivial rfl (some mb) W)
theorem sorted_any (mb n : Nat) (g : Int → Option Value) (w : World) (h : VTabI w mb n g) (ks : List Int) (hk : ks.Pairwise (· < ·)) (hm : ∀ t, t ∈ ks ↔ (g t).isSome = true) (hn : n ≤ 1000000000) :
    Calls Try.prog 28 #[.func (.func kF) #[] #[.pointer (some ⟨w.heap.size, 0, none⟩)]] (w.alloc (.cells #[.map (some mb)] 58)) fun e w' => ∃ v, e = .returned v ∧ w'.ownsRow w.heap.size 3 1 v ks.length (ks.map (fun x => Value.int .i64 x)) ∧ Below w.heap.size w w' := by
  obtain ⟨D0, hown, hsz, hkeys⟩ := h.keys ks hk hm
  have hmax : Maps.size D0 ≤ maxLen := by rw [hsz]; unfold maxLen; omega
  have hbytes : Maps.size D0 * 8 ≤ 140737488355328 := by rw [hsz]; omega
  have hbl := hown.lt
  have hseq : SeqGives Fence.wide 2 Try.prog kF #[.pointer (some ⟨w.heap.size, 0, none⟩)] encZ (fun ss => ss.Perm (intKeys D0)) (Maps.size D0) (w.alloc (.cells #[.map (some mb)] 58)) :=
    AnyZI.keys_gives (ρ := Try.keysA_ren) { Try.keysA with } Fence.wide _ trivial rfl (by omega) w.heap.size mb n D0 _ (by simp) (by simp) (by
      obtain ⟨es, clock, hb, Ft, hs, hD⟩ := hown
      exact ⟨es, clock, (Below.heap_alloc _ _ mb hbl).trans hb, Ft, hs, hD⟩)
  have cS := AnyZI.sorted_in Try.sortedA Fence.wide 5 trivial trivial trivial trivial rfl (by omega) (sortsA _) (enters_of Try.func53 (by kernel_rfl) rfl) kF #[.pointer (some ⟨w.heap.size, 0, none⟩)] trivial (enters_of Try.func54 (by kernel_rfl) rfl) _ _ hmax hbytes _ hseq
  change CallsIn _ _ Try.prog 28 _ _ _ at cS
  refine ((callsIn_wide (n := 5)).1 cS).mono ?_
  rintro e w' ⟨v, ss, rfl, hS, hrow, hnil, hb⟩
  have e1 : ss.length = ks.length := by
    have := congrArg List.length (hkeys ss hS)
    simpa using this
  have hr := ownsRow_base_a hrow (base' := w.heap.size) (by simp)
  rw [hkeys ss hS, e1] at hr
  exact ⟨v, rfl, hr, ((Below.refl _ w).alloc (Nat.le_refl _) _).trans (hb.mono (by simp))⟩
/-- The cells of jobs that were told. -/
def jobsX (P : List (En × Value)) : List Value := P.flatMap fun p => (p.1.j.cells p.2).toList
theorem jobsX_len (P : List (En × Value)) : (jobsX P).length = P.length * 16 := by
  induction P with
  | nil => rfl
  | cons p r ih => simp only [jobsX, List.flatMap_cons, List.length_append, List.length_cons] at ih ⊢; rw [ih]; show 16 + _ = _; omega
theorem info_job : (Try.prog.info? 38).map (fun i => (i.zero, i.size, i.bytes)) = some (some (.agg (jb0.cells (.slice none 0 0))), 16, 152) := by kernel_rfl
theorem build_job (j : Jb) (v : Value) (w : World) : (Instr.buildSlice 22 1 #[(0, .agg (j.cells v))]).run Try.prog w = .ok (.slice (some ⟨w.heap.size, 0, none⟩) 1 1) (w.alloc (.cells (j.cells v) 38)) := by
  obtain ⟨id, pr, dl, tr, bo, st, du, od, ho, c0, c1, c2, c3, c4, nm⟩ := j
  kernel_rfl
end Go.Proofs.Ytjkgclogndbplaa
