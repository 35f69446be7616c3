/-
  Nums.
-/
import Derived.Test.YtogmobkkpmpdcaaSTurn1
import Derived.Test.YtogmobkkpmpdcaaShelfM
import Derived.Test.YtogmobkkpmpdcaaKeepsG
import Derived.Lib.SlKeysI
namespace Go.Proofs.Ytogmobkkpmpdcaa
open Go.RowKit Go.Maps Go.Sort Go.Shelf
/-- The numbers, sorted. -/
theorem VTabI.keys {w : World} {mb : Nat} {n : Nat} {g : Int → Option Value} (h : VTabI w mb n g) (ks : List Int) (hk : ks.Pairwise (· < ·)) (hm : ∀ t, t ∈ ks ↔ (g t).isSome = true) :
    ∃ D : DataW Value, w.ownsMap Try.prog 3 heldElemI mb n D ∧ Maps.size D = n ∧ ∀ ss : List Int, ss.Perm (intKeys D) → ss.mergeSort (fun x y => decide (x ≤ y)) = ks := by
  obtain ⟨D, h1, h2, h3⟩ := h
  refine ⟨D, h1, h2, fun ss hp => ?_⟩
  have hnd : ks.Nodup := hk.imp (fun h => by omega)
  obtain ⟨es, hD, hpw, _⟩ := h1.entries keyedI
  obtain ⟨es', hD', hko⟩ := h1.keysOf
  obtain rfl : es = es' := by rw [hD] at hD'; simpa using hD'
  have hp2 : ks.Perm (intKeys D) := by
    rw [hD]
    refine perm_intKeys hpw (fun p hp => by obtain ⟨v, hv⟩ := hko p hp; obtain ⟨x, _, hx, _⟩ := Maps.keyOf_i64 Try.underlying3 hv; exact ⟨x, hx⟩) hnd (fun x => ?_)
    rw [hm x, ← hD]
    exact (Bool.eq_iff_iff.1 (h3 x).1.symm)
  have := mergeSort_of_perm_i (hp.trans hp2.symm)
  refine Eq.trans this ?_
  exact List.mergeSort_of_pairwise (hk.imp (fun h => by simp; omega))
theorem sortsA (m : Nat) : AnyZI.SortsIn Try.prog Try.sortedA_ren Fence.wide m :=
  ⟨fun blk off cap ss W hH hblk hsz => callsIn_wide.2 (AnyM.slices_Sort_int Try.sortA blk off cap ss W hH hblk hsz),
   fun p cap W => callsIn_wide.2 (AnyM.slices_Sort_int_none Try.sortA p cap W)⟩
abbrev kF : FuncId := 51
theorem keysK_any (mb : Nat) (W : World) : Calls Try.prog 28 #[.map (some mb)] W fun e w' => e = .returned (.func (.func kF) #[] #[.pointer (some ⟨W.heap.size, 0, none⟩)]) ∧ w' = W.alloc (.cells #[.map (some mb)] 47) :=
  (callsIn_wide (n := 5)).1 (AnyZI.keys_in Try.keysA Fence.wide 5 trivial rfl (some mb) W)
theorem sortedK_any (mb n : Nat) (g : Int → Option Value) (w : World) (h : VTabI w mb n g) (ks : List Int) (hk : ks.Pairwise (· < ·)) (hm : ∀ t, t ∈ ks ↔ (g t).isSome = true) (hn : n ≤ 1000000000) :
    Calls Try.prog 27 #[.func (.func kF) #[] #[.pointer (some ⟨w.heap.size, 0, none⟩)]] (w.alloc (.cells #[.map (some mb)] 47)) fun e w' => ∃ v, e = .returned v ∧ w'.ownsRow w.heap.size 3 1 v ks.length (ks.map (fun x => Value.int .i64 x)) ∧ Below w.heap.size w w' := by
  obtain ⟨D0, hown, hsz, hkeys⟩ := h.keys ks hk hm
  have hmax : Maps.size D0 ≤ maxLen := by rw [hsz]; unfold maxLen; omega
  have hbytes : Maps.size D0 * 8 ≤ 140737488355328 := by rw [hsz]; omega
  have hbl := hown.lt
  have hseq : SeqGives Fence.wide 2 Try.prog kF #[.pointer (some ⟨w.heap.size, 0, none⟩)] encZ (fun ss => ss.Perm (intKeys D0)) (Maps.size D0) (w.alloc (.cells #[.map (some mb)] 47)) :=
    AnyZI.keys_gives (ρ := Try.keysA_ren) { Try.keysA with } Fence.wide _ trivial rfl (by omega) w.heap.size mb n D0 _ (by simp) (by simp) (by
      obtain ⟨es, clock, hb, Ft, hs, hD⟩ := hown
      exact ⟨es, clock, (Below.heap_alloc _ _ mb hbl).trans hb, Ft, hs, hD⟩)
  have cS := AnyZI.sorted_in Try.sortedA Fence.wide 5 trivial trivial trivial trivial rfl (by omega) (sortsA _) (enters_of Try.func50 (by kernel_rfl) rfl) kF #[.pointer (some ⟨w.heap.size, 0, none⟩)] trivial (enters_of Try.func51 (by kernel_rfl) rfl) _ _ hmax hbytes _ hseq
  change CallsIn _ _ Try.prog 27 _ _ _ at cS
  refine ((callsIn_wide (n := 5)).1 cS).mono ?_
  rintro e w' ⟨v, ss, rfl, hS, hrow, hnil, hb⟩
  have e1 : ss.length = ks.length := by
    have := congrArg List.length (hkeys ss hS)
    simpa using this
  have hr := ownsRow_base_a hrow (base' := w.heap.size) (by simp)
  rw [hkeys ss hS, e1] at hr
  exact ⟨v, rfl, hr, ((Below.refl _ w).alloc (Nat.le_refl _) _).trans (hb.mono (by simp))⟩
/-- Those that are there. -/
def numsL (S : Sx) : List Int := ((List.range 64).map (fun k : Nat => (k : Int))).filter (fun i => (S.F i).isSome)
theorem numsL_mem {B : Nat} {w : World} {lab : Nat → Int} {sb : Nat} {S : Sx} (h : SAt B w lab sb S) (i : Int) : i ∈ numsL S ↔ (S.F i).isSome = true := by
  unfold numsL
  rw [List.mem_filter]
  constructor
  · exact fun h => h.2
  · intro hi
    obtain ⟨x, hx⟩ := Option.isSome_iff_exists.1 hi
    have hr := h.rng i x hx
    exact ⟨List.mem_map.2 ⟨i.toNat, List.mem_range.2 (by omega), by omega⟩, hi⟩
theorem numsL_up (S : Sx) : (numsL S).Pairwise (· < ·) := by
  unfold numsL
  refine List.Pairwise.filter _ (List.pairwise_map.2 (List.pairwise_lt_range.imp (fun h => by omega)))
theorem numsL_len (S : Sx) : (numsL S).length ≤ 64 := by
  unfold numsL
  refine Nat.le_trans (List.length_filter_le _ _) ?_
  simp
set_option maxHeartbeats 2000000 in
set_option maxRecDepth 1000000 in
theorem nums_any (B : Nat) (w : World) (lab : Nat → Int) (sb : Nat) (S : Sx) (h : SAt B w lab sb S) (hn : S.nn ≤ 1000000000) :
    Calls Try.prog 9 #[ptrV sb] w fun e w' => ∃ v, e = .returned v ∧ Nums w' w.heap.size v (numsL S) ∧ Below w.heap.size w w' := by
  have c0 := h.cell0.1
  have slt := h.lt
  have CK : Hid (Calls Try.prog 28 #[.map (some S.mb)] w fun e w' => e = .returned (.func (.func kF) #[] #[.pointer (some ⟨w.heap.size, 0, none⟩)]) ∧ w' = w.alloc (.cells #[.map (some S.mb)] 47)) := keysK_any S.mb w
  have CS : Hid (Calls Try.prog 27 #[.func (.func kF) #[] #[.pointer (some ⟨w.heap.size, 0, none⟩)]] (w.alloc (.cells #[.map (some S.mb)] 47)) fun e w' => ∃ v, e = .returned v ∧ Nums w' w.heap.size v (numsL S) ∧ Below w.heap.size w w') := sortedK_any S.mb S.nn _ w h.tab (numsL S) (numsL_up S) (fun t => by rw [numsL_mem h t, Option.isSome_map]) hn
  clear h hn
  go_enter Try.func9, Try.ntmps9
  go_wp2_with (first
    | (go_at_call 28; refine CK.out.mono ?_; rintro e w2 ⟨rfl, rfl⟩)
    | (go_at_call 27; refine CS.out.mono ?_; rintro e w3 ⟨v3, rfl, r3, b3⟩; have H3 : Hid (Nums w3 w.heap.size v3 (numsL S) ∧ Below w.heap.size w w3) := ⟨r3, b3⟩; clear r3 b3))
  go_ret
  exact ⟨v3, rfl, H3.out.1, H3.out.2⟩
end Go.Proofs.Ytogmobkkpmpdcaa
