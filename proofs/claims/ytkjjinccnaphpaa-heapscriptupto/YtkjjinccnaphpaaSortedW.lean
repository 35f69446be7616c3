/-
  slices.SortFunc at the rows of a heap, by any key.
-/
import Derived.Test.YtkjjinccnaphpaaShelf
import Derived.Test.YtkjjinccnaphpaaSortW
import Derived.Test.YtkjjinccnaphpaaCloneT
namespace Go.Proofs.Ytkjjinccnaphpaa
open Go.RowKit Go.Sort Go.Shelf

theorem ltOf_rank (ky : Int × Int → Int) (x y : RowI) : ltOf (rankI ky) x y = rankB (ltK ky) x y := by
  unfold ltOf rankI
  cases rankB (ltK ky) x y <;> simp
theorem swo_rank (ky : Int × Int → Int) : SWO (ltOf (rankI ky)) where
  irrefl x := by
    rw [ltOf_rank]
    cases h : rankB (ltK ky) x x with
    | false => rfl
    | true => exact (rank_asymm h h).elim
  trans x y z h1 h2 := by
    rw [ltOf_rank] at *
    exact (rank_iff (ltK_key ky) x z).2 (((rank_iff (ltK_key ky) x y).1 h1).trans ((rank_iff (ltK_key ky) y z).1 h2))
  ntrans x y z h1 h2 := by
    rw [ltOf_rank] at *
    cases h : rankB (ltK ky) x z with
    | false => rfl
    | true => exact absurd ((rank_iff (ltK_key ky) x z).1 h) (not_L_trans (rank_not (ltK_key ky) h1) (rank_not (ltK_key ky) h2))
theorem rank_total {ky : Int × Int → Int} {a b : RowI} (h : a.1 ≠ b.1) (k : rankB (ltK ky) a b = false) : rankB (ltK ky) b a = true := by
  have := rank_not (ltK_key ky) k
  refine (rank_iff (ltK_key ky) b a).2 ?_
  unfold L at *
  omega

/-- The cells of a row of rows. -/
def RowsAt (w : World) (g : Nat) (S : List RowI) : Prop := ∀ (i : Nat) r, S[i]? = some r → ∀ k u, (cellsT r)[k]? = some u → w.cell? ⟨g, i * 3 + k, none⟩ = some u
theorem cells_get (x : RowI) (k : Nat) (hk : k < 3) : (cellsT x)[k]? = some (cellsT x)[k]! := by
  have : k < (cellsT x).length := by simpa [cellsT] using hk
  rw [List.getElem?_eq_getElem this]
  simp [this]
theorem holds_of_row {w : World} {g : Nat} {cur : Array Value} {R : List RowI} (hg : w.heap[g]? = some (.cells cur 66 (0, 0))) (h4 : cur.toList.take (R.length * 3) = flatT R) : HoldsK cellsT 3 w g 0 R.toArray := by
  intro j hj
  simp only [size_flatK, List.size_toArray] at hj
  refine ⟨?_, by simp [World.frozen?, hg]⟩
  rw [get_flatK _ _ _ _ (by simpa using hj)]
  have hjr : j / 3 < R.length := by omega
  have hr : R[j / 3]? = some R[j / 3] := List.getElem?_eq_getElem hjr
  have h5 := flatT_get R (j / 3) _ hr (j % 3) (by omega)
  rw [show j / 3 * 3 + j % 3 = j by omega, ← h4, List.getElem?_take_of_lt hj, cells_get _ _ (by omega)] at h5
  have h6 : R.toArray[j / 3]! = R[j / 3] := by simp [hjr]
  rw [h6, Nat.zero_add]
  simpa [World.cell?, hg] using h5
theorem heap_sortWorld {w : World} {g n : Nat} {d : Array RowI} {os : Array Obj} {k : Nat} (hk : k < w.heap.size) (hne : k ≠ g) : (sortWorldK cellsT 3 w g 0 n d os).heap[k]? = w.heap[k]? := by
  unfold sortWorldK
  rw [heap_grow_old _ _ (by simpa [putRowK] using hk)]
  simp [putRowK, putRow, mapBlock, Sort.ahead, Array.getElem?_modify, Ne.symm hne]
theorem kept_sortWorld (w : World) (g n : Nat) (d : Array RowI) (os : Array Obj) : Kept (fun k => k = g) w (sortWorldK cellsT 3 w g 0 n d os) :=
  ⟨rfl, rfl, rfl, by simp [sortWorldK, putRowK, Sort.ahead], fun _ hk hne => heap_sortWorld hk hne⟩

set_option maxHeartbeats 1000000 in
theorem sorted_any {f : FuncId} {ky : Int × Int → Int} (G : Grower f ky) (w : World) (hb bc g cap : Nat) (cur : Array Value) (R : List RowI) (hg : w.heap[g]? = some (.cells cur 66 (0, 0))) (h4 : cur.toList.take (R.length * 3) = flatT R) (hR : R.length ≤ 1073741823) (ho : Once R)
    (h0 : w.cell? ⟨hb, 0, none⟩ = some (.func (.func f) #[] #[])) (hbg : hb ≠ g) (hc : w.cell? ⟨bc, 0, none⟩ = some (.pointer (some ⟨hb, 0, none⟩))) (hcg : bc ≠ g) :
    Calls Try.prog 52 #[.slice (some ⟨g, 0, none⟩) R.length cap, .func (.func 53) #[] #[.pointer (some ⟨bc, 0, none⟩)]] w fun e w' =>
      e = .returned (.tuple #[]) ∧ ∃ S, Ranked ky R S ∧ RowsAt w' g S ∧ Kept (fun k => k = g) w w' := by
  have eg : ∀ args w, (callFunc 53 args).run Try.prog w = .ok (.enter 53 args) w := enters_of Try.func53 (by kernel_rfl) rfl
  have hH := holds_of_row hg h4
  have hgl : g < w.heap.size := (Array.getElem?_eq_some_iff.1 hg).1
  have hcmp : CmpLays Try.prog 53 #[.pointer (some ⟨bc, 0, none⟩)] cellsT 3 (rankI ky) g 0 R.toArray.size w := by
    intro m os dk _ x y
    have k1 := kept_sortWorld w g m dk os
    have := cmp_grew G (sortWorldK cellsT 3 w g 0 m dk os) hb bc x y (k1.cell hbg h0) (k1.cell hcg hc)
    exact this.mono fun e w' ⟨he, q, os', hw⟩ => ⟨he, q, os', hw⟩
  have hcon := AnyQ.slices_SortFunc Try.sortRow 3 (fun w => by kernel_rfl) (fun w => by kernel_rfl) cellsT (fun _ => rfl) (fun x v hv => by simp [cellsT] at hv; rcases hv with rfl | rfl | rfl <;> rfl) (rankI ky) (swo_rank ky) 53 #[.pointer (some ⟨bc, 0, none⟩)] g 0 cap R.toArray w eg hcmp hH hgl (by simp; omega)
  change Calls Try.prog 52 _ _ _ at hcon
  refine hcon.mono ?_
  rintro e w' ⟨rfl, d', n, os, hp, hs, rfl⟩
  have hsz : d'.size = R.length := by simpa using hp.1
  have hperm : d'.toList.Perm R := by
    have := hp.2.2
    simp only [List.size_toArray] at this
    rw [show d'.extract 0 R.length = d' by rw [← hsz]; simp, show R.toArray.extract 0 R.length = R.toArray by simp] at this
    simpa using this
  refine ⟨rfl, d'.toList, ⟨hperm, ?_⟩, ?_, kept_sortWorld w g n d' os⟩
  · rw [List.pairwise_iff_getElem]
    intro i j hi hj hij
    have h1 := hs i j (Nat.zero_le _) hij (by simpa [hsz] using hj)
    rw [ltOf_rank] at h1
    have hi' : i < d'.size := by simpa using hi
    have hj' : j < d'.size := by simpa using hj
    rw [getElem!_pos d' i hi', getElem!_pos d' j hj'] at h1
    simp only [Array.getElem_toList]
    refine rank_total (fun e => ?_) h1
    have hnd : d'.toList.Nodup := hperm.nodup_iff.2 ho.nodup
    have m1 : d'[j] ∈ R := hperm.subset (by simp)
    have m2 : d'[i] ∈ R := hperm.subset (by simp)
    have := ho.same m1 m2 e
    rw [List.nodup_iff_pairwise_ne, List.pairwise_iff_getElem] at hnd
    exact hnd i j hi hj hij (by simpa using this.symm)
  · intro i r hr k u hu
    have hi : i < d'.size := by have := (List.getElem?_eq_some_iff.1 hr).1; simpa using this
    have hk3 : k < 3 := by have := (List.getElem?_eq_some_iff.1 hu).1; simpa [cellsT] using this
    have hHs : HoldsK cellsT 3 (sortWorldK cellsT 3 w g 0 n d' os) g 0 d' := holdsK_grow cellsT 3 _ _ _ _ _ (by simpa [putRowK] using hgl) (holdsK_putRowK cellsT 3 _ _ _ R.toArray _ (holdsK_ahead cellsT 3 _ _ _ _ _ hH) (by simp [hsz]))
    have h5 := (hHs.cell hi hk3).1
    rw [Nat.zero_add] at h5
    rw [h5, getElem!_pos d' i hi]
    have hr2 : d'[i] = r := by
      rw [Array.getElem?_toList, Array.getElem?_eq_getElem hi] at hr
      exact Option.some.inj hr
    rw [hr2]
    have := cells_get r k hk3
    rw [hu] at this
    exact this.symm
end Go.Proofs.Ytkjjinccnaphpaa
