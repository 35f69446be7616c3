/-
  YTubes, YSumKit, YSumEq.
-/
import Derived.Test.YtjkgclogndbplaaYJobs
import Derived.Test.YtjkgclogndbplaaYSums
import Derived.Test.YtjkgclogndbplaaShelfZ
import Derived.Test.YtjkgclogndbplaaYShownJ
import Derived.Test.YtjkgclogndbplaaYFill
import Derived.Test.YtjkgclogndbplaaHand
import Derived.Laws.StructEq
namespace Go.Proofs.Ytjkgclogndbplaa
open Go.RowKit Go.Maps Go.Sort Go.Shelf
/-- The texts that a map has. -/
theorem VTabS.keys {w : World} {mb : Nat} {n : Nat} {g : ByteArray → Option Value} (h : VTabS w mb n g) :
    ∃ D : DataW Value, w.ownsMap Try.prog 9 heldElemS mb n D ∧ Maps.size D = n ∧ (strKeys D).Nodup ∧ (∀ x : List UInt8, x ∈ strKeys D → x.length ≤ maxLen) ∧ (∀ x : List UInt8, x ∈ strKeys D ↔ (g ⟨x.toArray⟩).isSome = true) ∧ (strKeys D).length = n := by
  obtain ⟨D, h1, h2, h3⟩ := h
  refine ⟨D, h1, h2, ?_⟩
  have hle := strKeys_le h1 Try.underlying9
  obtain ⟨es, hD, hpw, _⟩ := h1.entries keyedS
  obtain ⟨es', hD', hko⟩ := h1.keysOf
  obtain rfl : es = es' := by rw [hD] at hD'; simpa using hD'
  have hk : ∀ p ∈ es, ∃ x, p.1 = .string x := fun p hp => by obtain ⟨v, hv⟩ := hko p hp; obtain ⟨x, _, hx, _⟩ := Maps.keyOf_str Try.underlying9 hv; exact ⟨x, hx⟩
  refine ⟨?_, hle, fun x => ?_, ?_⟩
  · rw [hD]
    show (es.map fun p => strOf p.1).Nodup
    refine List.pairwise_map.2 (hpw.imp_of_mem fun {p q} hp' hq' hne e => hne ?_)
    obtain ⟨a, ha⟩ := hk p hp'
    obtain ⟨b, hb⟩ := hk q hq'
    rw [ha, hb] at e ⊢
    exact congrArg _ e
  · rw [← (h3 ⟨x.toArray⟩).1]
    show _ ↔ has D (.string x.toArray.toList) = true
    rw [hD, has_eq, List.any_eq_true]
    show x ∈ es.map (fun p => strOf p.1) ↔ _
    rw [List.mem_map]
    constructor
    · rintro ⟨p, hp', rfl⟩
      obtain ⟨a, ha⟩ := hk p hp'
      exact ⟨p, hp', by rw [ha]; simp [Lit.sameKey, strOf]⟩
    · rintro ⟨p, hp', hs⟩
      obtain ⟨a, ha⟩ := hk p hp'
      rw [ha] at hs
      exact ⟨p, hp', by rw [ha]; simpa [Lit.sameKey, strOf] using hs⟩
  · rw [← h2, hD]
    show (es.map fun p => strOf p.1).length = es.length
    rw [List.length_map]
theorem sortsZ (m : Nat) : AnyZ.SortsIn Try.prog Try.sortedZ_ren Fence.wide m :=
  ⟨fun blk off cap ss W hH hblk hsz => callsIn_wide.2 (AnyM.slices_Sort_string Try.sortZ blk off cap ss W hH hblk hsz),
   fun p cap W => callsIn_wide.2 (AnyM.slices_Sort_string_none Try.sortZ p cap W)⟩
abbrev kZ : FuncId := 57
theorem keysZ_any (mb : Nat) (W : World) : Calls Try.prog 32 #[.map (some mb)] W fun e w' => e = .returned (.func (.func kZ) #[] #[.pointer (some ⟨W.heap.size, 0, none⟩)]) ∧ w' = W.alloc (.cells #[.map (some mb)] 59) :=
  (callsIn_wide (n := 5)).1 (AnyZ.keys_in Try.keysZ Fence.wide 5 trivial rfl (some mb) W)
/-- Sorted, and none twice: they rise. -/
theorem rising_of {l : List (List UInt8)} (hn : l.Nodup) : (l.mergeSort leB).Pairwise (· < ·) := by
  have tr : ∀ a b c : List UInt8, leB a b = true → leB b c = true → leB a c = true := fun a b c h1 h2 => by simp only [leB, decide_eq_true_eq] at *; exact List.le_trans h1 h2
  have tot : ∀ a b : List UInt8, (leB a b || leB b a) = true := fun a b => by simp only [leB, Bool.or_eq_true, decide_eq_true_eq]; exact List.le_total a b
  have h1 := List.pairwise_mergeSort tr tot l
  have h2 : (l.mergeSort leB).Pairwise (· ≠ ·) := (List.mergeSort_perm l leB).nodup_iff.2 hn
  refine (h1.and h2).imp ?_
  rintro a b ⟨h, hne⟩
  simp only [leB, decide_eq_true_eq] at h
  exact Std.lt_of_le_of_ne h hne
theorem sortedZ_any (mb n : Nat) (g : ByteArray → Option Value) (w : World) (h : VTabS w mb n g) (hn : n ≤ 1000000000) :
    Calls Try.prog 31 #[.func (.func kZ) #[] #[.pointer (some ⟨w.heap.size, 0, none⟩)]] (w.alloc (.cells #[.map (some mb)] 59)) fun e w' => ∃ v, e = .returned v ∧ ∃ T : List (List UInt8), w'.ownsRow w.heap.size 9 1 v T.length (T.map encStr) ∧ T.Pairwise (· < ·) ∧ (∀ x ∈ T, x.length ≤ maxLen) ∧ (∀ x, x ∈ T ↔ (g ⟨x.toArray⟩).isSome = true) ∧ T.length = n ∧ Below w.heap.size w w' := by
  obtain ⟨D0, hown, hsz, hnd, hle, hmem, hlen⟩ := h.keys
  have hmax : Maps.size D0 ≤ maxLen := by rw [hsz]; unfold maxLen; omega
  have hbytes : Maps.size D0 * 16 ≤ 140737488355328 := by rw [hsz]; omega
  have hbl := hown.lt
  have hseq : SeqGives Fence.wide 2 Try.prog kZ #[.pointer (some ⟨w.heap.size, 0, none⟩)] encStr (fun ss => ss.Perm (strKeys D0)) (Maps.size D0) (w.alloc (.cells #[.map (some mb)] 59)) :=
    AnyZ.keys_gives (ρ := Try.keysZ_ren) { Try.keysZ with } Fence.wide _ trivial rfl (by omega) w.heap.size mb n D0 _ (by simp) (by simp) (by
      obtain ⟨es, clock, hb, Ft, hs, hD⟩ := hown
      exact ⟨es, clock, (Below.heap_alloc _ _ mb hbl).trans hb, Ft, hs, hD⟩)
  have cS := AnyZ.sorted_in Try.sortedZ Fence.wide 5 trivial trivial trivial trivial rfl (by omega) (sortsZ _) (enters_of Try.func56 (by kernel_rfl) rfl) kZ #[.pointer (some ⟨w.heap.size, 0, none⟩)] trivial (enters_of Try.func57 (by kernel_rfl) rfl) _ _ hmax hbytes _ hseq
  change CallsIn _ _ Try.prog 31 _ _ _ at cS
  refine ((callsIn_wide (n := 5)).1 cS).mono ?_
  rintro e w' ⟨v, ss, rfl, hS, hrow, hnil, hb⟩
  have hr := ownsRow_base_a hrow (base' := w.heap.size) (by simp)
  have hp : ∀ x, x ∈ ss.mergeSort leB ↔ x ∈ strKeys D0 := fun x => ((List.mergeSort_perm ss leB).trans hS).mem_iff
  refine ⟨v, rfl, ss.mergeSort leB, ?_, rising_of (hS.nodup_iff.2 hnd), fun x hx => hle x ((hp x).1 hx), fun x => (hp x).trans (hmem x), by rw [List.length_mergeSort, hS.length_eq, hlen], ((Below.refl _ w).alloc (Nat.le_refl _) _).trans (hb.mono (by simp))⟩
  rw [List.length_mergeSort]
  exact hr
set_option maxHeartbeats 2000000 in
set_option maxRecDepth 1000000 in
theorem tubes_any (w : World) (lab : Nat → HK) (yb : Nat) (Y : Yd) (h : YAt w lab yb Y) (hn : Y.nt ≤ 1000000000) :
    Calls Try.prog 12 #[ptrV yb] w fun x w' => ∃ v, x = .returned v ∧ ∃ T : List (List UInt8), w'.ownsRow w.heap.size 9 1 v T.length (T.map encStr) ∧ T.Pairwise (· < ·) ∧ (∀ x ∈ T, x.length ≤ maxLen) ∧ (∀ x, x ∈ T ↔ (Y.tb ⟨x.toArray⟩).isSome = true) ∧ T.length = Y.nt ∧ Below w.heap.size w w' := by
  obtain ⟨d, r, hd, hr⟩ := h.two
  have y1 := (h.cells hd hr).2.1
  have ylt := h.yb_lt
  have CK : Hid (Calls Try.prog 32 #[.map (some Y.tm)] w fun e w' => e = .returned (.func (.func kZ) #[] #[.pointer (some ⟨w.heap.size, 0, none⟩)]) ∧ w' = w.alloc (.cells #[.map (some Y.tm)] 59)) := keysZ_any Y.tm w
  have CS : Hid (Calls Try.prog 31 #[.func (.func kZ) #[] #[.pointer (some ⟨w.heap.size, 0, none⟩)]] (w.alloc (.cells #[.map (some Y.tm)] 59)) fun e w' => ∃ v, e = .returned v ∧ ∃ T : List (List UInt8), w'.ownsRow w.heap.size 9 1 v T.length (T.map encStr) ∧ T.Pairwise (· < ·) ∧ (∀ x ∈ T, x.length ≤ maxLen) ∧ (∀ x, x ∈ T ↔ ((Y.tb ⟨x.toArray⟩).map ptrV).isSome = true) ∧ T.length = Y.nt ∧ Below w.heap.size w w') := sortedZ_any Y.tm Y.nt _ w h.tubs hn
  clear hd hr h hn
  go_enter Try.func12, Try.ntmps12
  go_wp2_with (first
    | (go_at_call 32; refine CK.out.mono ?_; rintro e w2 ⟨rfl, rfl⟩)
    | (go_at_call 31; refine CS.out.mono ?_; rintro e w3 ⟨v3, rfl, T, h3⟩; have H3 : Hid (w3.ownsRow w.heap.size 9 1 v3 T.length (T.map encStr) ∧ T.Pairwise (· < ·) ∧ (∀ x ∈ T, x.length ≤ maxLen) ∧ (∀ x, x ∈ T ↔ ((Y.tb ⟨x.toArray⟩).map ptrV).isSome = true) ∧ T.length = Y.nt ∧ Below w.heap.size w w3) := h3; clear h3))
  go_ret
  obtain ⟨t1, t2, t3, t4, t5⟩ := H3.out
  exact ⟨v3, rfl, T, t1, t2, t3, fun x => (t4 x).trans (by rw [Option.isSome_map]), t5⟩
end Go.Proofs.Ytjkgclogndbplaa

namespace Go.Proofs.Ytjkgclogndbplaa
open Go.RowKit
theorem smL_snoc (L : List En) (e : En) : smL (L ++ [e]) = (smL L).add e.j.st e.j.pr 1 := by
  induction L with
  | nil => rfl
  | cons x r ih =>
    rw [List.cons_append]
    show (smL (r ++ [e])).add x.j.st x.j.pr 1 = ((smL r).add x.j.st x.j.pr 1).add e.j.st e.j.pr 1
    rw [ih, Sm.add_comm]
theorem smT_snoc (L : List En) (e : En) (t : ByteArray) : smT (L ++ [e]) t = if e.j.nm = t then (smT L t).add e.j.st e.j.pr 1 else smT L t := by
  unfold smT
  rw [List.filter_append]
  by_cases h : e.j.nm = t
  · rw [if_pos h, List.filter_cons_of_pos (by simpa using h), List.filter_nil, smL_snoc]
  · rw [if_neg h, List.filter_cons_of_neg (by simpa using h), List.filter_nil, List.append_nil]
/-- How many jobs a tube has. -/
def cnT (L : List En) (t : ByteArray) : Nat := (L.filter (fun e => decide (e.j.nm = t))).length
theorem cnT_snoc (L : List En) (e : En) (t : ByteArray) : cnT (L ++ [e]) t = if e.j.nm = t then cnT L t + 1 else cnT L t := by
  unfold cnT
  rw [List.filter_append]
  by_cases h : e.j.nm = t
  · rw [if_pos h, List.filter_cons_of_pos (by simpa using h), List.filter_nil]; simp
  · rw [if_neg h, List.filter_cons_of_neg (by simpa using h), List.filter_nil, List.append_nil]
/-- How many jobs are in one of some tubes. -/
def cnS (L : List En) (T : List (List UInt8)) : Nat := (L.filter (fun e => decide (e.j.nm.data.toList ∈ T))).length
theorem nm_eq (b : ByteArray) (x : List UInt8) : b.data.toList = x ↔ b = ⟨x.toArray⟩ := by
  constructor
  · rintro rfl; simp
  · rintro rfl; simp
theorem cnS_snoc (L : List En) (T : List (List UInt8)) (x : List UInt8) (hx : x ∉ T) : cnS L (T ++ [x]) = cnS L T + cnT L ⟨x.toArray⟩ := by
  unfold cnS cnT
  induction L with
  | nil => rfl
  | cons e r ih =>
    rw [List.filter_cons, List.filter_cons, List.filter_cons]
    by_cases h1 : e.j.nm.data.toList = x
    · have h3 := (nm_eq _ _).1 h1
      simp only [List.mem_append, List.mem_singleton, h3, or_true, decide_true, if_true, List.length_cons] at ih ⊢
      simp only [hx, decide_false, Bool.false_eq_true, if_false]
      omega
    · have h3 : ¬ e.j.nm = ⟨x.toArray⟩ := fun h => h1 ((nm_eq _ _).2 h)
      by_cases h4 : e.j.nm.data.toList ∈ T
      · simp only [List.mem_append, List.mem_singleton, h1, h3, h4, or_false, decide_true, decide_false, if_true, List.length_cons, Bool.false_eq_true, if_false] at ih ⊢
        omega
      · simp only [List.mem_append, List.mem_singleton, h1, h3, h4, or_false, decide_false, Bool.false_eq_true, if_false] at ih ⊢
        omega
theorem cnS_nil (L : List En) : cnS L [] = 0 := by
  unfold cnS
  simp
theorem cnS_all {L : List En} {T : List (List UInt8)} (h : ∀ e ∈ L, e.j.nm.data.toList ∈ T) : cnS L T = L.length := by
  unfold cnS
  rw [List.filter_eq_self.2 (fun e he => by simpa using h e he)]
theorem cnT_pos {L : List En} {t : ByteArray} (h : ∃ e ∈ L, e.j.nm = t) : 0 < cnT L t := by
  obtain ⟨e, he, rfl⟩ := h
  exact List.length_pos_of_mem (List.mem_filter.2 ⟨he, by simp⟩)
theorem cnT_le (L : List En) (t : ByteArray) : cnT L t ≤ L.length := List.length_filter_le _ _
theorem cnS_le (L : List En) (T : List (List UInt8)) : cnS L T ≤ L.length := List.length_filter_le _ _
/-- Sums in a block. -/
def Sb (w : World) (b : Nat) (s : Sm) : Prop := w.heap[b]? = some (.cells s.agg 27 (0, 0))
theorem Sb.below {w w' : World} {b : Nat} {s : Sm} (h : Sb w b s) (hb : Below w.heap.size w w') : Sb w' b s := (hb.block b (Array.getElem?_eq_some_iff.1 h).1).trans h
theorem Sb.set {w : World} {b : Nat} {s : Sm} (h : Sb w b s) (s' : Sm) : Sb (w.setRow b s'.agg) b s' := setRow_heap w b _ _ _ _ h
theorem Sb.other {w : World} {b c : Nat} {s : Sm} (h : Sb w b s) (hc : b ≠ c) (cs : Array Value) : Sb (w.setRow c cs) b s := (setRow_other w c b cs hc).trans h
theorem sums_size (s : Sm) : (Try.prog.info? 27).map (·.size) = some s.agg.size := by
  show _ = some 5
  kernel_rfl
theorem agg_one (s : Sm) : s.agg.all (·.oneCell') = true := by simp [Sm.agg, Value.oneCell']
theorem jobsX_at : ∀ (P : List (En × Value)) (k : Nat) (p : En × Value), P[k]? = some p → ∀ (i : Nat) (u : Value), (p.1.j.cells p.2).toList[i]? = some u → (jobsX P)[k * 16 + i]? = some u := by
  intro P
  induction P with
  | nil => intro k p h; simp at h
  | cons x r ih =>
    intro k p h i u hu
    have hx : (x.1.j.cells x.2).toList.length = 16 := rfl
    show ((x.1.j.cells x.2).toList ++ jobsX r)[k * 16 + i]? = some u
    cases k with
    | zero =>
      obtain rfl : x = p := by simpa using h
      have hi := (List.getElem?_eq_some_iff.1 hu).1
      rw [List.getElem?_append_left (by omega), Nat.zero_mul, Nat.zero_add]
      exact hu
    | succ k =>
      rw [List.getElem?_append_right (by omega), hx, show (k + 1) * 16 + i - 16 = k * 16 + i by omega]
      exact ih k p (by simpa using h) i u hu
/-- Jobs that lie in a row, read. -/
theorem jobs_read {w : World} {B : Nat} {v : Value} {P : List (En × Value)} (h : w.ownsRow B 38 16 v P.length (jobsX P)) :
    ∃ a c, v = .slice a P.length c ∧ ∀ (k : Nat) (p : En × Value), P[k]? = some p → ∃ g, a = some ⟨g, 0, none⟩ ∧ g < w.heap.size ∧ w.rangeAt g (k * 16) (p.1.j.cells p.2).toList := by
  rcases h.2 with ⟨rfl, h0⟩ | ⟨g, cap, cur, rfl, hB, hgh, hnc, hcm, hcs, htake⟩
  · exact ⟨none, 0, by rw [h0], fun k p hp => by have := (List.getElem?_eq_some_iff.1 hp).1; omega⟩
  · refine ⟨_, _, rfl, fun k p hp => ⟨g, rfl, (Array.getElem?_eq_some_iff.1 hgh).1, fun i u hu => ?_⟩⟩
    have hx := jobsX_at P k p hp i u hu
    have hlt := (List.getElem?_eq_some_iff.1 hx).1
    rw [jobsX_len] at hlt
    rw [← htake, List.getElem?_take_of_lt (by omega)] at hx
    simpa [World.cell?, hgh] using hx
theorem strs_read {w : World} {B : Nat} {v : Value} {T : List (List UInt8)} (h : w.ownsRow B 9 1 v T.length (T.map encStr)) :
    ∃ a c, v = .slice a T.length c ∧ ∀ (k : Nat) (x : List UInt8), T[k]? = some x → ∃ g, a = some ⟨g, 0, none⟩ ∧ g < w.heap.size ∧ w.cell? ⟨g, k, none⟩ = some (.string ⟨x.toArray⟩) := by
  rcases h.2 with ⟨rfl, h0⟩ | ⟨g, cap, cur, rfl, hB, hgh, hnc, hcm, hcs, htake⟩
  · exact ⟨none, 0, by rw [h0], fun k p hp => by have := (List.getElem?_eq_some_iff.1 hp).1; omega⟩
  · refine ⟨_, _, rfl, fun k x hx => ⟨g, rfl, (Array.getElem?_eq_some_iff.1 hgh).1, ?_⟩⟩
    have hlt := (List.getElem?_eq_some_iff.1 hx).1
    have hy : (cur.toList.take (T.length * 1))[k]? = some (.string ⟨x.toArray⟩) := by rw [htake, List.getElem?_map, hx]; rfl
    rw [List.getElem?_take_of_lt (by omega)] at hy
    simpa [World.cell?, hgh] using hy
end Go.Proofs.Ytjkgclogndbplaa

namespace Go.Proofs.Ytjkgclogndbplaa
open Go.RowKit
def Sm.num (s : Sm) (k : Nat) : Int := match k with | 0 => s.r | 1 => s.d | 2 => s.v | 3 => s.b | _ => s.u
theorem spart0 (s : Sm) (w : World) : (part 3 s.agg 0).run Try.prog w = .ok (.int .i64 s.r) w := by kernel_rfl
theorem spart1 (s : Sm) (w : World) : (part 3 s.agg 1).run Try.prog w = .ok (.int .i64 s.d) w := by kernel_rfl
theorem spart2 (s : Sm) (w : World) : (part 3 s.agg 2).run Try.prog w = .ok (.int .i64 s.v) w := by kernel_rfl
theorem spart3 (s : Sm) (w : World) : (part 3 s.agg 3).run Try.prog w = .ok (.int .i64 s.b) w := by kernel_rfl
theorem spart4 (s : Sm) (w : World) : (part 3 s.agg 4).run Try.prog w = .ok (.int .i64 s.u) w := by kernel_rfl
theorem spart_int (s : Sm) (f : Nat) (hf : f < 5) (w : World) : (part 3 s.agg f).run Try.prog w = .ok (.int .i64 (s.num f)) w := by
  have h : f = 0 ∨ f = 1 ∨ f = 2 ∨ f = 3 ∨ f = 4 := by omega
  rcases h with rfl | rfl | rfl | rfl | rfl
  · exact spart0 s w
  · exact spart1 s w
  · exact spart2 s w
  · exact spart3 s w
  · exact spart4 s w
theorem sums_fields : ((Try.prog.fieldsOf 27).toList.all fun f => f.name != "_" && (f.type == 3) && decide (f.offset < 5)) = true := by kernel_rfl
theorem sums_under : Try.prog.underlying 27 = some (.struct (Try.prog.fieldsOf 27)) := by kernel_rfl
theorem sums_held : Try.prog.stoodInHeld 27 = false := by kernel_rfl
theorem eq_sfields (s : Sm) (w : World) : ∀ fs : List Field, (fs.all fun f => f.name != "_" && (f.type == 3) && decide (f.offset < 5)) = true → (Op.eqFields 9999 s.agg s.agg fs).run Try.prog w = .ok true w
  | [], _ => by simp [Op.eqFields]
  | f :: fs, h => by
    rw [List.all_cons, Bool.and_eq_true] at h
    have ih := eq_sfields s w fs h.2
    obtain ⟨⟨h1, h2⟩, h3⟩ : (f.name ≠ "_" ∧ f.type = 3) ∧ f.offset < 5 := by simpa using h.1
    have e : (Op.equalIn 9999 3 (.int .i64 (s.num f.offset)) (.int .i64 (s.num f.offset))).run Try.prog w = .ok (s.num f.offset == s.num f.offset) w := run_equalIn_int (P := Try.prog) w 9998 3 .i64 .i64 _ _ Try.underlying3
    simp only [Op.eqFields, h1, h2, ne_eq, not_false_eq_true, if_true, Sem.run_bind, spart_int s f.offset h3 w, Result.andThen_ok, e, beq_self_eq_true]
    exact ih
theorem eq_sums (s : Sm) (w : World) : (Op.equalIn 10000 27 (.agg s.agg) (.agg s.agg)).run Try.prog w = .ok true w := by
  rw [run_equalIn_struct w 9999 27 _ _ sums_under sums_held, eq_sfields s w _ sums_fields]
theorem eql_sums (s : Sm) (w : World) : (binOp .eql 27 (.agg s.agg) (.agg s.agg)).run Try.prog w = .ok (.bool true) w := by
  simp only [binOp]
  simp [show Op.equal 27 (.agg s.agg) (.agg s.agg) = Op.equalIn 10000 27 (.agg s.agg) (.agg s.agg) from rfl, eq_sums s w]
theorem neq_sums (s : Sm) (w : World) : (binOp .neq 27 (.agg s.agg) (.agg s.agg)).run Try.prog w = .ok (.bool false) w := by
  simp only [binOp]
  simp [show Op.equal 27 (.agg s.agg) (.agg s.agg) = Op.equalIn 10000 27 (.agg s.agg) (.agg s.agg) from rfl, eq_sums s w]
theorem run_neqS {o : Oper} {a : Act} {w : World} {x y : Operand} {u : TypeId} (s : Sm) (ho : o.op = .binOp .neq 27 x y u) (hx : a.eval x = .agg s.agg) (hy : a.eval y = .agg s.agg) : (execOp a.eval o).run Try.prog w = .ok (.value (.bool false)) w := by
  unfold execOp
  simp only [ho, hx, hy, Sem.run_bind, Sem.run_pure, run_eqGuard_agg (P := Try.prog) (w := w) .neq 27 x y s.agg s.agg (by kernel_rfl), Result.andThen_ok, neq_sums s w]
theorem run_eqlS {o : Oper} {a : Act} {w : World} {x y : Operand} {u : TypeId} (s : Sm) (ho : o.op = .binOp .eql 27 x y u) (hx : a.eval x = .agg s.agg) (hy : a.eval y = .agg s.agg) : (execOp a.eval o).run Try.prog w = .ok (.value (.bool true)) w := by
  unfold execOp
  simp only [ho, hx, hy, Sem.run_bind, Sem.run_pure, run_eqGuard_agg (P := Try.prog) (w := w) .eql 27 x y s.agg s.agg (by kernel_rfl), Result.andThen_ok, eql_sums s w]
end Go.Proofs.Ytjkgclogndbplaa
