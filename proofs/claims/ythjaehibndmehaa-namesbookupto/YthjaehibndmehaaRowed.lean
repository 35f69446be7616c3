/-
  The walk of rows: what a book holds, put in order.
-/
import Derived.Test.YthjaehibndmehaaBook
import Derived.Test.YthjaehibndmehaaSorted
import Derived.Maps.RangeWalk
import Derived.Sort.KeysCollected
import Derived.OwnWalk
import Derived.Maps.AppendAt
import Derived.Sort.OwnSorted
namespace Go.Proofs.Ythjaehibndmehaa
open Go.RowKit Go.Maps

theorem info_row : (Try.prog.info? 72).map (fun i => (i.zero, i.size, i.bytes)) = some (some (.agg #[.string ⟨#[]⟩, .int .i64 0]), 2, 24) := by kernel_rfl
/-- What was collected so far. -/
structure Got (g : Text → Option Int) (D : DataW Unit) (left : Lit → Bool) (ss : List RowT) : Prop where
  col : Collected D left (ss.map Prod.fst)
  val : ∀ p ∈ ss, g p.1 = some p.2
  len : ∀ p ∈ ss, p.1.length ≤ maxLen
theorem cells_two_new (w : World) (x y : Value) (t : TypeId) : ∀ j u, [x, y][j]? = some u → (w.alloc (.cells #[x, y] t)).cell? ((⟨w.heap.size, 0, none⟩ : Addr).add j) = some u := by
  intro j u hj
  match j, hj with
  | 0, hj =>
    show (w.alloc (.cells #[x, y] t)).cell? ⟨w.heap.size, 0, none⟩ = some u
    unfold World.cell?
    rw [(MapKept.heap_alloc w _).1]
    simpa using hj
  | 1, hj =>
    show (w.alloc (.cells #[x, y] t)).cell? ⟨w.heap.size, 1, none⟩ = some u
    unfold World.cell?
    rw [(MapKept.heap_alloc w _).1]
    simpa using hj
theorem Got.start (g : Text → Option Int) (D : DataW Unit) : Got g D (has D) [] := ⟨Collected.start D, (fun _ h => by cases h), (fun _ h => by cases h)⟩
theorem Got.step {g : Text → Option Int} {D : DataW Unit} {left : Lit → Bool} {ss : List RowT} (h : Got g D left ss) (hg : ∀ t : Text, has D (key t) = (g t).isSome ∧ ∀ v, g t = some v → D.atKey (key t) (.lit (.int .i64 0)) = .lit (.int .i64 v))
    {x : Text} {c : Int} {yd : DataW Unit} (hy : yd = .lit (.int .i64 c)) (hlk : left (.string x) = true) (hat : ∀ zd, D.atKey (.string x) zd = yd) (hx : x.length ≤ maxLen) : Got g D (fun z => left z && !z.sameKey (.string x)) (ss ++ [(x, c)]) := by
  have hgx : g x = some c := by
    have h1 := has_true_of_atKey hat
    rw [(hg x).1] at h1
    obtain ⟨v, hv⟩ := Option.isSome_iff_exists.1 h1
    have h2 := (hg x).2 v hv
    rw [hat, hy] at h2
    rw [hv]
    simpa using h2.symm
  refine ⟨by rw [List.map_append]; exact h.col.step hlk hat, fun p hp => ?_, fun p hp => ?_⟩
  · rcases List.mem_append.1 hp with hp | hp
    · exact h.val p hp
    · simp at hp; subst hp; exact hgx
  · rcases List.mem_append.1 hp with hp | hp
    · exact h.len p hp
    · simp at hp; subst hp; exact hx
theorem Got.listed {g : Text → Option Int} {D : DataW Unit} {left : Lit → Bool} {ss S : List RowT} (h : Got g D left ss) (hg : ∀ t : Text, has D (key t) = (g t).isSome ∧ ∀ v, g t = some v → D.atKey (key t) (.lit (.int .i64 0)) = .lit (.int .i64 v))
    (hl : ∀ kl, left kl = false) (hp : S.Perm ss) (hu : S.Pairwise (fun x y => less x.1 y.1 = true)) : Listed g S := by
  refine ⟨hu, fun t v => ?_⟩
  rw [hp.mem_iff]
  constructor
  · exact h.val (t, v)
  · intro hv
    have h1 : t ∈ ss.map Prod.fst := (h.col.2 t).2 ⟨by rw [(hg t).1, hv]; rfl, hl _⟩
    obtain ⟨p, hp, rfl⟩ := List.mem_map.1 h1
    have := h.val p hp
    rw [hv] at this
    cases this
    exact hp
theorem Got.size {g : Text → Option Int} {D : DataW Unit} {left : Lit → Bool} {ss : List RowT} (h : Got g D left ss) {w : World} {mb n : Nat} (ho : w.ownsMap Try.prog 9 (plainElem Try.prog 3) mb n D) (hl : ∀ kl, left kl = false) : ss.length = Maps.size D := by
  have := (h.col.perm ho keyed Try.underlying9 hl).length_eq
  rw [List.length_map] at this
  obtain ⟨es, rfl, _⟩ := ho.keysOf
  rw [this]
  simp [strKeys, size_eq]
/-- What a book holds can be listed. -/
theorem BookAt.listed {w : World} {b mb n : Nat} {g : Text → Option Int} (h : BookAt w b mb n g) : ∃ S, Listed g S ∧ S.length = n ∧ ∀ r ∈ S, r.1.length ≤ maxLen := by
  obtain ⟨D, hown, hsz, hat⟩ := h.tab
  obtain ⟨es, hD, hne, _⟩ := hown.entries keyed
  obtain ⟨es', hD', hko⟩ := hown.keysOf
  obtain rfl : es = es' := by rw [hD] at hD'; simpa using hD'
  have hle := strKeys_le hown Try.underlying9
  subst hD
  have hk : ∀ p ∈ es, ∃ x, p.1 = .string x := fun p hp => by
    obtain ⟨v, hv⟩ := hko p hp
    obtain ⟨x, _, hx, _⟩ := Maps.keyOf_str Try.underlying9 hv
    exact ⟨x, hx⟩
  have hmem : ∀ x, x ∈ strKeys (.map es : DataW Unit) ↔ has (.map es : DataW Unit) (.string x) = true := fun x => by
    rw [has_eq, List.any_eq_true]
    show x ∈ es.map (fun p => strOf p.1) ↔ _
    rw [List.mem_map]
    constructor
    · rintro ⟨p, hp, rfl⟩
      obtain ⟨a, ha⟩ := hk p hp
      exact ⟨p, hp, by rw [ha]; simp [Lit.sameKey, strOf]⟩
    · rintro ⟨p, hp, hs⟩
      obtain ⟨a, ha⟩ := hk p hp
      rw [ha] at hs
      exact ⟨p, hp, by rw [ha]; simpa [Lit.sameKey, strOf] using hs⟩
  have hnd : (strKeys (.map es : DataW Unit)).Nodup := by
    show (es.map fun p => strOf p.1).Nodup
    refine List.pairwise_map.2 (hne.imp_of_mem fun {p q} hp hq hpq e => hpq ?_)
    obtain ⟨a, ha⟩ := hk p hp
    obtain ⟨c, hc⟩ := hk q hq
    rw [ha, hc] at e ⊢
    exact congrArg _ e
  obtain ⟨le, hle'⟩ : ∃ le : Text → Text → Bool, le = fun a b => !less b a := ⟨_, rfl⟩
  have tr : ∀ a b c : Text, le a b = true → le b c = true → le a c = true := fun a b c h1 h2 => by
    simp only [hle', Bool.not_eq_true'] at *
    cases h3 : less c a with
    | false => rfl
    | true =>
      by_cases e : a = b
      · subst e; rw [h2] at h3; cases h3
      · by_cases e2 : b = c
        · subst e2; rw [h1] at h3; cases h3
        · exact (less_asymm h3 (less_trans (less_total h1 (fun e' => e e'.symm)) (less_total h2 (fun e' => e2 e'.symm)))).elim
  have tot : ∀ a b : Text, (le a b || le b a) = true := fun a b => by
    simp only [hle', Bool.or_eq_true, Bool.not_eq_true']
    cases h1 : less b a with
    | false => exact .inl rfl
    | true =>
      right
      cases h2 : less a b with
      | false => rfl
      | true => exact (less_asymm h1 h2).elim
  have hp := List.mergeSort_perm (strKeys (.map es : DataW Unit)) le
  have hs := List.pairwise_mergeSort tr tot (strKeys (.map es : DataW Unit))
  have hnd2 := hp.nodup_iff.2 hnd
  have hval : ∀ t, t ∈ strKeys (.map es : DataW Unit) → g t = some ((g t).getD 0) := fun t ht => by
    have h1 := (hmem t).1 ht
    rw [(hat t).1] at h1
    obtain ⟨v, hv⟩ := Option.isSome_iff_exists.1 h1
    rw [hv]; rfl
  refine ⟨((strKeys (.map es : DataW Unit)).mergeSort le).map (fun t => (t, (g t).getD 0)), ⟨?_, fun t v => ?_⟩, ?_, fun r hr => ?_⟩
  · rw [List.pairwise_map]
    refine (hs.and (List.nodup_iff_pairwise_ne.1 hnd2)).imp fun {a b} ⟨h1, h2⟩ => ?_
    simp only [hle', Bool.not_eq_true'] at h1
    exact less_total h1 (fun e => h2 e.symm)
  · rw [List.mem_map]
    constructor
    · rintro ⟨x, hx, e⟩
      simp only [Prod.mk.injEq] at e
      obtain ⟨rfl, rfl⟩ := e
      exact hval x (hp.mem_iff.1 hx)
    · intro hv
      exact ⟨t, hp.mem_iff.2 ((hmem t).2 (by rw [(hat t).1, hv]; rfl)), by rw [hv]; rfl⟩
  · rw [List.length_map, hp.length_eq, ← hsz]
    simp [strKeys, size_eq]
  · obtain ⟨x, hx, rfl⟩ := List.mem_map.1 hr
    exact hle x (hp.mem_iff.1 hx)
set_option maxHeartbeats 4000000 in
set_option maxRecDepth 1000000 in
theorem rows_any (w : World) (b mb n : Nat) (g : Text → Option Int) (h : BookAt w b mb n g) (hn : n ≤ 1073741823) :
    Calls Try.prog 39 #[.pointer (some ⟨b, 0, none⟩)] w fun e w' => ∃ (gb cap : Nat) (S : List RowT), e = .returned (.slice (some ⟨gb, 0, none⟩) S.length cap) ∧ Listed g S ∧ S.length = n ∧ RowsAt w' gb S ∧ (∀ r ∈ S, r.1.length ≤ maxLen) ∧ w.heap.size ≤ gb ∧ (∃ cur', w'.heap[gb]? = some (.cells cur' 72 (0, 0))) ∧ Below w.heap.size w w' := by
  obtain ⟨i0, hi, hz0, hz1, hz2⟩ := info_parts info_row
  have HB : Hid (BookAt w b mb n g) := h
  have hc := h.cell
  have hbl := cell_lt hc
  simp only [] at hbl
  obtain ⟨D, hown, hsz, hat⟩ := h.tab
  have HO : Hid (w.ownsMap Try.prog 9 (plainElem Try.prog 3) mb n D) := hown
  have HS : Hid (Maps.size D = n) := hsz
  have HG : Hid (∀ t : Text, has D (key t) = (g t).isSome ∧ ∀ v, g t = some v → D.atKey (key t) (.lit (.int .i64 0)) = .lit (.int .i64 v)) := hat
  have hml : mb < w.heap.size := hown.lt
  clear h hown hsz hat
  go_enter Try.func39, Try.ntmps39
  go_wp2_with (first
    | (go_at_call 26; refine (len_any _ b mb n g HB.out).mono ?_; rintro e w1 ⟨rfl, hW⟩; have hW := hW.symm; subst hW)
    | (at_make; refine wpList_make_own _ rfl _ _ 69 rfl w.heap.size 72 i0 (.agg #[.string ⟨#[]⟩, .int .i64 0]) 2 Try.underlying69 hi hz0 hz1 _ _ _ n rfl rfl rfl (by rw [hz2]; omega) (by unfold maxLen; omega) (Nat.le_refl _) ?_
       intro w1 hrow1 hg1
       have hc1 : w1.cell? ⟨b, 0, none⟩ = some (.map (some mb)) := by rw [← hc]; exact World.cell?_of_block (hg1.block b hbl (by simp))
       have HR1 : Hid (w1.ownsRow w.heap.size 72 2 (.slice (some ⟨w.heap.size, 0, none⟩) 0 n) 0 [] ∧ w.grownBy w1 none) := ⟨hrow1, hg1⟩
       clear hrow1 hg1)
    | (at_range; refine wpList_range_own _ rfl _ 58 rfl 9 3 keyed Try.underlying58 _ mb n _ rfl (HO.out.kept HR1.out.2 (by simp)) ?_; intro w0 hrg0 hg0 hs0))
  go_frame
  have hw1 : w.heap.size ≤ w1.heap.size := HR1.out.2.size
  have HS0 : Hid (w0.heap.size = w1.heap.size + 1) := hs0
  clear hs0
  go_loopw [3] (fun v wr => ∃ (left : Lit → Bool) (cnt : Nat) (ss : List RowT), wr.ranges Try.prog 9 (plainElem Try.prog 3) mb w1.heap.size n D left cnt ∧ ss.length + cnt ≤ n ∧
      wr.ownsRow w.heap.size 72 2 v ss.length (flatR ss) ∧ v ≠ .slice none 0 0 ∧ Got g D left ss ∧ Below w.heap.size w wr)
    (fun _ wr => wr.rangeLeft mb w1.heap.size)
  case atStart =>
    exact ⟨_, _, [], hrg0, by rw [HS.out]; simp, HR1.out.1.kept hg0 (Or.inr (by simp [Value.ownBlock])), by simp, Got.start g D,
      ((Below.refl _ _).grown HR1.out.2 (Nat.le_refl _) (fun j hj => by cases hj)).grown hg0 hw1 (fun j hj => by cases hj)⟩
  case round =>
    obtain ⟨left, cnt, ss, hrg, hcs, hrow, hnn, hG, hnx⟩ := hrel
    have HGT : Hid (Got g D left ss) := hG
    have HBW : Hid (Below w.heap.size w wr) := hnx
    have HRG : Hid (wr.ranges Try.prog 9 (plainElem Try.prog 3) mb w1.heap.size n D left cnt) := hrg
    have HROW : Hid (wr.ownsRow w.heap.size 72 2 u3 ss.length (flatR ss) ∧ u3 ≠ .slice none 0 0) := ⟨hrow, hnn⟩
    clear hG hnx hrg hrow hnn hrg0 hg0
    go_wp2_with (first
      | (at_next; refine wpList_next_ranges _ rfl _ rfl 9 keyed (plainElem Try.prog 3) encStr (Value.int .i64) (fun key kl hk => by obtain ⟨x, hx, _⟩ := Maps.keyOf_str Try.underlying9 hk; exact ⟨x, hx⟩) (fun v y hv => by obtain ⟨c, rfl, _⟩ := plainElem_int_inv Try.underlying3 hv; exact ⟨c, rfl⟩) mb w1.heap.size n _ _ _ rfl HRG.out ?_ ?_))
    · intro hc0 hl0
      have HL0 : Hid (∀ kl, left kl = false) := hl0
      clear hl0
      obtain ⟨hrow, hnn⟩ := HROW.out
      rcases hrow.2 with ⟨hnil, _⟩ | ⟨gb, cap, cur, rfl, hbase, hb, h1, h2, h3, h4⟩
      · exact absurd hnil hnn
      have hlen : ss.length ≤ n := by omega
      have HSO := sorted_any wr gb cap cur ss hb h4 (by omega) HGT.out.col.1
      have HSR : Hid (Calls Try.prog 44 #[.slice (some ⟨gb, 0, none⟩) ss.length cap, .func (.func 45) #[] #[]] wr fun e w' =>
        e = .returned (.tuple #[]) ∧ ∃ S, S.Perm ss ∧ S.Pairwise (fun x y => less x.1 y.1 = true) ∧ RowsAt w' gb S ∧ Kept (fun k => k = gb) wr w' ∧ ∃ cur', w'.heap[gb]? = some (.cells cur' 72 (0, 0))) := HSO
      have hgl : gb < wr.heap.size := (Array.getElem?_eq_some_iff.1 hb).1
      clear HSO hrow hnn hb h1 h2 h3 h4 HROW
      go_wp2_with (first
        | (go_at_call 44; refine HSR.out.mono ?_; rintro e w3 ⟨rfl, S, s1, s2, s3, s4, s5⟩
           have HS3 : Hid (S.Perm ss ∧ S.Pairwise (fun x y => less x.1 y.1 = true) ∧ RowsAt w3 gb S ∧ Kept (fun k => k = gb) wr w3 ∧ ∃ cur', w3.heap[gb]? = some (.cells cur' 72 (0, 0))) := ⟨s1, s2, s3, s4, s5⟩
           clear s1 s2 s3 s4 s5))
      go_ret
      obtain ⟨s1, s2, s3, s4, s5⟩ := HS3.out
      refine ⟨gb, cap, S, by rw [s1.length_eq]; rfl, HGT.out.listed HG.out HL0.out s1 s2, by rw [s1.length_eq, HGT.out.size HRG.out.owns HL0.out, HS.out], s3, fun r hr => HGT.out.len r (s1.subset hr), hbase, s5, HBW.out.trans (s4.below HBW.out.size (fun k hk e => by omega))⟩
    · intro x c kl yd yp w2 cnt2 hkey hlk hv hat hrg2 hlt hg2 hs2 hen
      obtain ⟨x', ex, rfl, hxl⟩ := Maps.keyOf_str Try.underlying9 hkey
      obtain rfl : x = x' := encStr_inj ex
      obtain ⟨c', ec, hyd, hcw⟩ := plainElem_int_inv Try.underlying3 hv
      simp only [Value.int.injEq, true_and] at ec
      subst ec
      simp only [Prod.mk.injEq] at hyd
      have HST : Hid (Got g D (fun z => left z && !z.sameKey (.string x)) (ss ++ [(x, c)])) := HGT.out.step HG.out hyd.1 hlk hat hxl
      have hrow2 := HROW.out.1.kept hg2 (Or.inr (row_ne_iter HROW.out.1 HRG.out).symm)
      have HW2 : Hid (w2.ranges Try.prog 9 (plainElem Try.prog 3) mb w1.heap.size n D (fun z => left z && !z.sameKey (.string x)) cnt2 ∧ cnt2 < cnt ∧ wr.grownBy w2 (some w1.heap.size) ∧ w2.ownsRow w.heap.size 72 2 u3 ss.length (flatR ss)) := ⟨hrg2, hlt, hg2, hrow2⟩
      clear hs2 hrow2 hrg2 hg2 hat hkey hv hyd hcw ex
      have hcn : ss.length + 1 ≤ n := by omega
      have hw2 : w.heap.size ≤ w2.heap.size := Nat.le_trans HBW.out.size HW2.out.2.2.1.size
      go_wp2_with (first
        | (at_builtin; refine wpList_append_own_at _ rfl _ _ 69 rfl w.heap.size 72 i0 (.agg #[.string ⟨#[]⟩, .int .i64 0]) 2 24 Try.underlying69 hi hz0 hz1 hz2 rfl (by decide) _ _ _ rfl (HW2.out.2.2.2.alloc _) ⟨w2.heap.size, 0, none⟩ 1 1 [encStr x, .int .i64 c] rfl rfl (cells_two_new _ _ _ _) (by simp [Value.oneCell', encStr]) (by unfold maxLen; omega) (by omega) (by simp; omega) ?_
           intro v' w3 hown' hg3 hnil3 hloc
           go_frame))
      have hrg3 := (HW2.out.1.alloc (.cells #[encStr x, .int .i64 c] 72)).kept hg3 (row_ne_low HW2.out.2.2.2 hml) (row_ne_iter HW2.out.2.2.2 HW2.out.1)
      go_roundw
      case rel =>
        refine ⟨_, cnt2, ss ++ [(x, c)], hrg3, by have := HW2.out.2.1; simp; omega, by rw [flatR_append, List.length_append]; exact hown', fun hv' => by have := (hnil3.1 hv').2; omega, HST.out, ?_⟩
        exact ((HBW.out.grown HW2.out.2.2.1 HBW.out.size (fun j hj => by cases hj; exact hw1)).alloc hw2 _).grown hg3 (by simp; omega) (fun j hj => (HW2.out.2.2.2.lt j hj).1)
      case measure => rw [hrg3.left_eq, HRG.out.left_eq]; exact HW2.out.2.1
end Go.Proofs.Ythjaehibndmehaa
