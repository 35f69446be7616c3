/-
  slices.SortFunc at the rows of a book.
-/
import Derived.Test.YthjaehibndmehaaShelfS
import Derived.Test.YthjaehibndmehaaShelf
import Derived.Test.YthjaehibndmehaaLess
import Derived.Test.YthjaehibndmehaaKit
import Derived.Sort.Grow
import Derived.Sort.EncStr
namespace Go.Proofs.Ythjaehibndmehaa
open Go.RowKit Go.Sort Go.Shelf

/-- Blocks were laid and orders drawn: nothing else. -/
def Grew (w w' : World) : Prop := ∃ q os, w' = grow (w.drewN q) os
theorem Grew.refl (w : World) : Grew w w := ⟨0, #[], by simp; rfl⟩
theorem Grew.trans {a b c : World} (h : Grew a b) (k : Grew b c) : Grew a c := by
  obtain ⟨q, os, rfl⟩ := h
  obtain ⟨q', os', rfl⟩ := k
  refine ⟨q + q', os ++ os', ?_⟩
  rw [show (grow (a.drewN q) os).drewN q' = grow (a.drewN (q + q')) os by simp [grow, World.drewN, Nat.add_assoc], grow_grow]
theorem Grew.alloc {a b : World} (h : Grew a b) (o : Obj) : Grew a (b.alloc o) := h.trans ⟨0, #[o], by rw [alloc_eq_grow]; rfl⟩

def cellsR (x : RowT) : List Value := [encStr x.1, .int .i64 x.2]
def rowV (x : RowT) : Value := .agg (cellsR x).toArray
def rankR (x y : RowT) : Int := Lib.compareBytes x.1 y.1
set_option maxHeartbeats 1000000 in
set_option maxRecDepth 1000000 in
theorem cmp_grew (w : World) (x y : RowT) : Calls Try.prog 45 #[rowV x, rowV y] w fun e w' => e = .returned (.int .i64 (rankR x y)) ∧ Grew w w' := by
  obtain ⟨x1, x2⟩ := x
  obtain ⟨y1, y2⟩ := y
  unfold rowV cellsR rankR
  simp only []
  have HC : Hid (∀ w : World, Calls Try.prog 46 #[.string ⟨x1.toArray⟩, .string ⟨y1.toArray⟩] w fun e w' => e = .returned (.int .i64 (Lib.compareBytes x1 y1)) ∧ w' = w) := fun w => by simpa using Try.strings_Compare ⟨x1.toArray⟩ ⟨y1.toArray⟩ w
  go_enter Try.func45, Try.ntmps45
  go_wp2_with (go_at_call 46; refine (HC.out _).mono ?_; rintro e w1 ⟨rfl, hW⟩; have hW := hW.symm; subst hW)
  go_ret
  exact ⟨rfl, ((Grew.refl w).alloc _).alloc _⟩

theorem ltOf_rank (x y : RowT) : ltOf rankR x y = less x.1 y.1 := by
  unfold ltOf rankR
  rw [← cmp_less]
theorem swo_rank : SWO (ltOf rankR) where
  irrefl x := by rw [ltOf_rank, less_irrefl]
  trans x y z h1 h2 := by
    rw [ltOf_rank] at *
    exact less_trans h1 h2
  ntrans x y z h1 h2 := by
    rw [ltOf_rank] at *
    cases h : less x.1 z.1 with
    | false => rfl
    | true =>
      by_cases e : y.1 = z.1
      · rw [← e, h1] at h
        cases h
      · by_cases e2 : x.1 = y.1
        · rw [e2, h2] at h
          cases h
        · have a1 := less_total h2 e
          have a2 := less_total h1 e2
          exact (less_asymm h (less_trans a1 a2)).elim

/-- The cells of a row of rows. -/
def RowsAt (w : World) (g : Nat) (S : List RowT) : Prop := ∀ (i : Nat) r, S[i]? = some r → w.cell? ⟨g, i * 2, none⟩ = some (encStr r.1) ∧ w.cell? ⟨g, i * 2 + 1, none⟩ = some (.int .i64 r.2)
def flatR (R : List RowT) : List Value := R.flatMap cellsR
theorem flatR_get : ∀ (R : List RowT) (i : Nat) r, R[i]? = some r → (flatR R)[i * 2]? = some (encStr r.1) ∧ (flatR R)[i * 2 + 1]? = some (.int .i64 r.2)
  | [], i, r, h => by simp at h
  | x :: R, 0, r, h => by
    simp only [List.getElem?_cons_zero, Option.some.injEq] at h
    subst h
    exact ⟨rfl, rfl⟩
  | x :: R, i + 1, r, h => by
    have ih := flatR_get R i r (by simpa using h)
    have e : flatR (x :: R) = encStr x.1 :: .int .i64 x.2 :: flatR R := rfl
    rw [e, show (i + 1) * 2 = i * 2 + 1 + 1 by omega, show i * 2 + 1 + 1 + 1 = (i * 2 + 1) + 1 + 1 by omega]
    simpa using ih
theorem flatR_length : ∀ R : List RowT, (flatR R).length = R.length * 2
  | [] => rfl
  | x :: R => by
    have e : flatR (x :: R) = encStr x.1 :: .int .i64 x.2 :: flatR R := rfl
    rw [e]
    simp only [List.length_cons, flatR_length R]
    omega
theorem flatR_append (R R' : List RowT) : flatR (R ++ R') = flatR R ++ flatR R' := by simp [flatR]
theorem cellsR_get (x : RowT) (k : Nat) (hk : k < 2) : (cellsR x)[k]? = some (cellsR x)[k]! := by
  have : k < (cellsR x).length := by simpa [cellsR] using hk
  rw [List.getElem?_eq_getElem this]
  simp [this]
theorem holds_of_row {w : World} {g : Nat} {cur : Array Value} {R : List RowT} (hg : w.heap[g]? = some (.cells cur 72 (0, 0))) (h4 : cur.toList.take (R.length * 2) = flatR R) : HoldsK cellsR 2 w g 0 R.toArray := by
  intro j hj
  simp only [size_flatK, List.size_toArray] at hj
  refine ⟨?_, by simp [World.frozen?, hg]⟩
  rw [get_flatK _ _ _ _ (by simpa using hj)]
  have hjr : j / 2 < R.length := by omega
  obtain ⟨r, hr⟩ : ∃ r, R[j / 2]? = some r := ⟨_, List.getElem?_eq_getElem hjr⟩
  have h5 := flatR_get R (j / 2) r hr
  have h6 : R.toArray[j / 2]! = r := by simp [hr]
  rw [h6, Nat.zero_add]
  rw [← h4, List.getElem?_take_of_lt (by omega), List.getElem?_take_of_lt (by omega)] at h5
  rcases Nat.mod_two_eq_zero_or_one j with e | e
  · have := h5.1
    rw [show j / 2 * 2 = j by omega] at this
    rw [e]
    simpa [World.cell?, hg, cellsR] using this
  · have := h5.2
    rw [show j / 2 * 2 + 1 = j by omega] at this
    rw [e]
    simpa [World.cell?, hg, cellsR] using this
theorem heap_sortWorld {w : World} {g n : Nat} {d : Array RowT} {os : Array Obj} {k : Nat} (hk : k < w.heap.size) (hne : k ≠ g) : (sortWorldK cellsR 2 w g 0 n d os).heap[k]? = w.heap[k]? := by
  unfold sortWorldK
  rw [heap_grow_old _ _ (by simpa [putRowK] using hk)]
  simp [putRowK, putRow, mapBlock, Sort.ahead, Array.getElem?_modify, Ne.symm hne]
theorem typed_sortWorld {w : World} {g n : Nat} {d : Array RowT} {os : Array Obj} {cur : Array Value} {t : TypeId} (hg : w.heap[g]? = some (.cells cur t (0, 0))) : ∃ cur', (sortWorldK cellsR 2 w g 0 n d os).heap[g]? = some (.cells cur' t (0, 0)) := by
  have hk : g < w.heap.size := (Array.getElem?_eq_some_iff.1 hg).1
  unfold sortWorldK
  rw [heap_grow_old _ _ (by simpa [putRowK, putRow, mapBlock, Sort.ahead] using hk)]
  simp only [putRowK, putRow, mapBlock, Sort.ahead, Array.getElem?_modify, if_true, hg, Option.map_some, onCells]
  exact ⟨_, rfl⟩
theorem kept_sortWorld (w : World) (g n : Nat) (d : Array RowT) (os : Array Obj) : Kept (fun k => k = g) w (sortWorldK cellsR 2 w g 0 n d os) :=
  ⟨rfl, rfl, rfl, by simp [sortWorldK, putRowK, Sort.ahead], fun _ hk hne => heap_sortWorld hk hne⟩

set_option maxHeartbeats 1000000 in
theorem sorted_any (w : World) (g cap : Nat) (cur : Array Value) (R : List RowT) (hg : w.heap[g]? = some (.cells cur 72 (0, 0))) (h4 : cur.toList.take (R.length * 2) = flatR R) (hR : R.length ≤ 1073741823) (ho : (R.map Prod.fst).Nodup) :
    Calls Try.prog 44 #[.slice (some ⟨g, 0, none⟩) R.length cap, .func (.func 45) #[] #[]] w fun e w' =>
      e = .returned (.tuple #[]) ∧ ∃ S, S.Perm R ∧ S.Pairwise (fun x y => less x.1 y.1 = true) ∧ RowsAt w' g S ∧ Kept (fun k => k = g) w w' ∧ ∃ cur', w'.heap[g]? = some (.cells cur' 72 (0, 0)) := by
  have eg : ∀ args w, (callFunc 45 args).run Try.prog w = .ok (.enter 45 args) w := enters_of Try.func45 (by kernel_rfl) rfl
  have hH := holds_of_row hg h4
  have hgl : g < w.heap.size := (Array.getElem?_eq_some_iff.1 hg).1
  have hcmp : CmpLays Try.prog 45 #[] cellsR 2 rankR g 0 R.toArray.size w := by
    intro m os dk _ x y
    exact (cmp_grew (sortWorldK cellsR 2 w g 0 m dk os) x y).mono fun e w' ⟨he, q, os', hw⟩ => ⟨he, q, os', hw⟩
  have hcon := AnyQ.slices_SortFunc Try.sortRow 2 (fun w => by kernel_rfl) (fun w => by kernel_rfl) cellsR (fun _ => rfl) (fun x v hv => by simp [cellsR] at hv; rcases hv with rfl | rfl <;> rfl) rankR swo_rank 45 #[] g 0 cap R.toArray w eg hcmp hH hgl (by simp; omega)
  change Calls Try.prog 44 _ _ _ at hcon
  refine hcon.mono ?_
  rintro e w' ⟨rfl, d', n, os, hp, hs, rfl⟩
  have hsz : d'.size = R.length := by simpa using hp.1
  have hperm : d'.toList.Perm R := by
    have := hp.2.2
    simp only [List.size_toArray] at this
    rw [show d'.extract 0 R.length = d' by rw [← hsz]; simp, show R.toArray.extract 0 R.length = R.toArray by simp] at this
    simpa using this
  refine ⟨rfl, d'.toList, hperm, ?_, ?_, kept_sortWorld w g n d' os, typed_sortWorld hg⟩
  · rw [List.pairwise_iff_getElem]
    intro i j hi hj hij
    have h1 := hs i j (Nat.zero_le _) hij (by simpa [hsz] using hj)
    rw [ltOf_rank] at h1
    have hi' : i < d'.size := by simpa using hi
    have hj' : j < d'.size := by simpa using hj
    rw [getElem!_pos d' i hi', getElem!_pos d' j hj'] at h1
    simp only [Array.getElem_toList]
    refine less_total h1 (fun e => ?_)
    have hnd : (d'.toList.map Prod.fst).Nodup := (hperm.map Prod.fst).nodup_iff.2 ho
    rw [List.nodup_iff_pairwise_ne, List.pairwise_iff_getElem] at hnd
    exact hnd i j (by simpa using hi') (by simpa using hj') hij (by simpa using e.symm)
  · intro i r hr
    have hi : i < d'.size := by have := (List.getElem?_eq_some_iff.1 hr).1; simpa using this
    have hHs : HoldsK cellsR 2 (sortWorldK cellsR 2 w g 0 n d' os) g 0 d' := holdsK_grow cellsR 2 _ _ _ _ _ (by simpa [putRowK] using hgl) (holdsK_putRowK cellsR 2 _ _ _ R.toArray _ (holdsK_ahead cellsR 2 _ _ _ _ _ hH) (by simp [hsz]))
    have hr2 : d'[i] = r := by
      rw [Array.getElem?_toList, Array.getElem?_eq_getElem hi] at hr
      exact Option.some.inj hr
    have h5 := (hHs.cell hi (show 0 < 2 by decide)).1
    have h6 := (hHs.cell hi (show 1 < 2 by decide)).1
    rw [Nat.zero_add] at h5 h6
    rw [getElem!_pos d' i hi, hr2] at h5 h6
    exact ⟨h5, h6⟩
end Go.Proofs.Ythjaehibndmehaa
