/-
  CloD, CloR.
-/
import Derived.Test.YtnpofjeiamjioaaDkA
import Derived.Maps.RangeWalk
namespace Go.Proofs.Ytnpofjeiamjioaa
open Go.RowKit Go.Maps

theorem rising_ext : ∀ {A B : List Fl}, Rising A → Rising B → (∀ x, x ∈ A ↔ x ∈ B) → A = B
  | [], [], _, _, _ => rfl
  | [], b :: B, _, _, h => by have := (h b).2 List.mem_cons_self; cases this
  | a :: A, [], _, _, h => by have := (h a).1 List.mem_cons_self; cases this
  | a :: A, b :: B, hA, hB, h => by
    have e : a = b := by
      rcases List.mem_cons.1 ((h a).1 List.mem_cons_self) with e | h1
      · exact e
      · rcases List.mem_cons.1 ((h b).2 List.mem_cons_self) with e | h2
        · exact e.symm
        · have := hB.head a h1
          have := hA.head b h2
          omega
    subst e
    rw [rising_ext hA.tail hB.tail (fun x => ?_)]
    constructor
    · intro hx
      rcases List.mem_cons.1 ((h x).1 (List.mem_cons_of_mem _ hx)) with e | h1
      · subst e
        have := hA.head x hx
        omega
      · exact h1
    · intro hx
      rcases List.mem_cons.1 ((h x).2 (List.mem_cons_of_mem _ hx)) with e | h1
      · subst e
        have := hB.head x hx
        omega
      · exact h1
theorem mem_ins_iff {L : List Fl} (hL : Rising L) {f : Fl} (hn : ∀ x ∈ L, x.num = f.num → x = f) (x : Fl) : x ∈ ins L f ↔ x = f ∨ x ∈ L := by
  constructor
  · exact mem_ins
  · intro h
    have hl := look_ins hL f x.num
    rcases h with rfl | h
    · rw [if_pos rfl] at hl
      exact (look_mem hl).1
    · by_cases e : x.num = f.num
      · rw [hn x h e] at hl ⊢
        rw [if_pos rfl] at hl
        exact (look_mem hl).1
      · rw [if_neg e, look_of_mem hL h] at hl
        exact (look_mem hl).1
/-- The files of which a range has come by. -/
def came (L : List Fl) (left : Lit → Bool) : List Fl := L.filter (fun f => !left (key f.num))
theorem total_filter (p : Fl → Bool) : ∀ (L : List Fl), total (L.filter p) ≤ total L
  | [] => by simp
  | x :: r => by
    have ih := total_filter p r
    rw [List.filter_cons]
    split
    · rw [total_cons, total_cons]; omega
    · rw [total_cons]; omega
theorem right_filter {q : Int} {L : List Fl} (h : Right q L) (p : Fl → Bool) : Right q (L.filter p) :=
  ⟨h.rise.sublist List.filter_sublist, fun f hf => h.ok f ((List.mem_filter.1 hf).1), h.quota, by have := h.fits; have := total_filter p L; omega⟩
theorem came_step {L : List Fl} (hL : Rising L) (left : Lit → Bool) {f : Fl} (hf : f ∈ L) : ins (came L left) f = came L (fun z => left z && !z.sameKey (key f.num)) := by
  have hs : Rising (came L left) := hL.sublist List.filter_sublist
  refine rising_ext (ins_rising hs f) (hL.sublist List.filter_sublist) (fun x => ?_)
  rw [mem_ins_iff hs (fun x hx e => mem_unique hL ((List.mem_filter.1 hx).1) hf e)]
  unfold came
  rw [List.mem_filter, List.mem_filter]
  by_cases e : x.num = f.num
  · constructor
    · intro h
      refine ⟨?_, by simp [e, Lit.sameKey]⟩
      rcases h with rfl | h
      · exact hf
      · exact h.1
    · intro h
      exact .inl (mem_unique hL h.1 hf e)
  · have hk : (key x.num).sameKey (key f.num) = false := by simpa [Lit.sameKey] using e
    simp only [hk]
    constructor
    · intro h
      rcases h with rfl | h
      · exact absurd rfl e
      · simpa using h
    · intro h
      exact .inr (by simpa using h)
theorem fileElem_form {v : Value} {y : DataW Unit × List MemPlace} (h : fileElem v = some y) : ∃ c : FV, v = fileV c := by
  unfold fileElem at h
  split at h
  · rename_i cs
    unfold fileParts at h
    split at h
    · rename_i u s hcs
      obtain ⟨l⟩ := cs
      simp only at hcs
      exact ⟨(u, s), by rw [hcs]; rfl⟩
    · cases h
  · cases h
set_option maxHeartbeats 4000000 in
set_option maxRecDepth 1000000 in
theorem clone_any11 (w : World) (db mb : Nat) (q : Int) (L : List Fl) (vs : Int → Value) (h : DiskAt w db mb q L vs) :
    Calls Try.prog 25 #[.pointer (some ⟨db, 0, none⟩)] w fun e w' => Below w.heap.size w w' ∧ ∃ db' mb' vs', e = .returned (.pointer (some ⟨db', 0, none⟩)) ∧ DiskAt w' db' mb' q L vs' ∧ ∀ k, Mine db' mb' L vs' k → w.heap.size ≤ k := by
  have HH := hideR h
  have HRt := hideR h.right
  obtain ⟨k0, k1, k2⟩ := h.cell
  have hmm := @run_makeMap Try.prog
  obtain ⟨w2, hw2⟩ : ∃ w2, w2 = (w.alloc (.map #[] 0)).alloc (.cells #[.int .i64 q, .int .i64 0, .map (some w.heap.size)] 90) := ⟨_, rfl⟩
  obtain ⟨mc, hmc⟩ : ∃ mc, mc = w.heap.size := ⟨_, rfl⟩
  obtain ⟨dc, hdc⟩ : ∃ dc, dc = w.heap.size + 1 := ⟨_, rfl⟩
  have B2 : Below w.heap.size w w2 := by rw [hw2]; exact ((Below.refl _ w).alloc (Nat.le_refl _) _).alloc (by simp) _
  have hD2 : DiskAt w2 dc mc q [] (fun _ => .slice none 0 0) := by
    refine ⟨?_, ?_, (fun f hf => by cases hf), (fun f hf => by cases hf), ⟨List.Pairwise.nil, (fun f hf => by cases hf), h.right.quota, by have := h.right.quota; simp [total]; omega⟩⟩
    · rw [hw2, hdc, hmc]
      exact heap_alloc2_new w _ _
    · refine ((FTab.made w).congr rfl (fun _ => rfl)).block ?_ |> (fun h => by rw [hmc]; exact h)
      rw [hw2]
      exact heap_alloc_old _ _ (by simp)
  have z2 : w2.heap.size = w.heap.size + 2 := by rw [hw2]; simp
  have H2 := hideR (And.intro hD2 (And.intro B2 (And.intro (show w.heap.size ≤ dc by omega) (And.intro (show w.heap.size ≤ mc by omega) z2))))
  obtain ⟨hsl, D, hown, hsz, hat⟩ := (h.below B2).tab
  have HO := hideR hown
  have HZ := hideR hsz
  have HG := hideR (And.intro hsl hat)
  obtain ⟨n0, hn0⟩ : ∃ n0, n0 = L.length := ⟨_, rfl⟩
  rw [← hn0] at HO HZ
  have hmlt := h.lt (.inr (.inl rfl))
  have j0 : w2.cell? ⟨db, 2, none⟩ = some (.map (some mb)) := (B2.cell (p := ⟨db, 2, none⟩) (h.lt (.inl rfl))).trans k2
  clear h hD2 B2 z2 hown hsz hat hsl hn0 k1 k2
  go_enter Try.func25, Try.ntmps25
  go_upto_region 2 with fail
  rw [← hw2, ← hdc, ← hmc]
  clear hw2 hmm k0 hmc hdc
  go_wp2_with (at_range; refine wpList_range_own _ rfl _ 88 rfl 3 87 keyed Try.underlying88 _ mb n0 _ rfl HO.out ?_; intro w3 hrg0 hg0 hs0)
  go_frame
  have HS3 := hideR hs0
  have B3 : Below w.heap.size w w3 := H2.out.2.1.grown hg0 H2.out.2.1.size (fun j hj => by cases hj)
  have HB3 := hideR B3
  have hD3 : DiskAt w3 dc mc q [] (fun _ => .slice none 0 0) := H2.out.1.kept (P := fun _ => False) ⟨hg0.os, hg0.tape, hg0.output, hg0.size, fun k hk _ => hg0.block k hk (by simp)⟩ (fun _ _ h => h)
  have HD3 := hideR hD3
  clear hs0 B3 hD3 hg0
  obtain ⟨it, hit⟩ : ∃ it, it = w2.heap.size := ⟨_, rfl⟩
  have HIT : HidR (it = w.heap.size + 2) := ⟨by rw [hit]; exact H2.out.2.2.2.2⟩
  rw [← hit] at hrg0 ⊢
  clear hit
  go_loopw [] (fun wr => ∃ (left : Lit → Bool) (cnt : Nat) (vc : Int → Value), wr.ranges Try.prog 3 fileElem mb it n0 D left cnt ∧ HidR (DiskAt wr dc mc q (came L left) vc ∧ Below w.heap.size w wr ∧ ∀ k, Mine dc mc (came L left) vc k → w.heap.size ≤ k ∧ k ≠ it))
    (fun wr => wr.rangeLeft mb it)
  case atStart =>
    refine ⟨_, _, fun _ => .slice none 0 0, hrg0, ⟨?_⟩⟩
    have e : came L (fun kl => has D kl) = [] := by
      unfold came
      rw [List.filter_eq_nil_iff]
      intro f hf
      show ¬ (!(has D (key f.num))) = true
      rw [(HG.out.2 f.num).1, slot, look_of_mem HRt.out.rise hf]
      simp
    rw [e]
    refine ⟨HD3.out, HB3.out, fun k hk => ?_⟩
    rcases hk with rfl | rfl | ⟨f, hf, _⟩
    · have := H2.out.2.2.1; have := HIT.out; have := H2.out.1.lt (.inl rfl); have := H2.out.2.2.2.2; omega
    · have := H2.out.2.2.2.1; have := HIT.out; have := H2.out.1.lt (.inr (.inl rfl)); have := H2.out.2.2.2.2; omega
    · cases hf
  case round =>
    obtain ⟨left, cnt, vc, hrg, HI⟩ := hrel
    have HRG := hideR hrg
    clear hrg hrg0
    go_wp2_with (at_next; refine wpList_next_ranges _ rfl _ rfl 3 keyed fileElem (Value.int .i64) fileV (fun key kl hk => by obtain ⟨x, hx, _⟩ := Maps.keyOf_int_inv Try.underlying3 hk; exact ⟨x, hx⟩) (fun v y hv => fileElem_form hv) mb it n0 _ _ _ rfl HRG.out ?_ ?_)
    · intro hc1 hl0
      have HL0 := hideR hl0
      clear hl0
      go_wp2_with fail
      go_ret
      obtain ⟨i1, i2, i3⟩ := HI.out
      have e : came L left = L := by
        unfold came
        rw [List.filter_eq_self]
        intro f hf
        rw [HL0.out]
        rfl
      rw [e] at i1 i3
      exact ⟨i2, dc, mc, vc, rfl, i1, fun k hk => (i3 k hk).1⟩
    · intro x v s kl yd yp w4 cnt2 hkey hlk hv hat2 hrg2 hlt hg2 hs2 hen
      obtain ⟨x', ex, rfl, hxl⟩ := Maps.keyOf_int_inv Try.underlying3 hkey
      cases ex
      have hF : ∃ f, f ∈ L ∧ f.num = x ∧ v = vs x ∧ s = (f.safe : Int) := by
        have h1 := has_true_of_atKey hat2
        rw [show has D (Lit.int .i64 x) = has D (key x) from rfl, (HG.out.2 x).1] at h1
        obtain ⟨y, hy⟩ := Option.isSome_iff_exists.1 h1
        have h2 := (HG.out.2 x).2 y hy
        have h3 := hat2 (encSl noFile.1 noFile.2)
        have h4 : encSl y.1 y.2 = yd := h2.symm.trans h3
        rw [← h4] at hv
        have h5 := fileElem_inv (HG.out.1 x y hy) hv
        unfold slot at hy
        obtain ⟨f, hf, rfl⟩ := Option.map_eq_some_iff.1 hy
        obtain ⟨hm, hn⟩ := look_mem hf
        unfold fileV at h5
        simp only [Value.agg.injEq, Array.mk.injEq, List.cons.injEq, Value.int.injEq, true_and, and_true] at h5
        exact ⟨f, hm, hn, h5.1, h5.2⟩
      obtain ⟨f, hf, rfl, rfl, rfl⟩ := hF
      have hfl := HRt.out.ok f hf
      have B4 : Below w.heap.size w w4 := HI.out.2.1.grown hg2 HI.out.2.1.size (fun j hj => by cases hj; have := HIT.out; omega)
      obtain ⟨va, vcap, hva, hvb⟩ := (HH.out.own f hf).shape
      have hdl : f.data.length ≤ 67108864 := by have := len_le hf; have := HRt.out.fits; have := HRt.out.quota; omega
      rw [hva] at hen
      have hd4 : DiskAt w4 dc mc q (came L left) vc := HI.out.1.kept (P := fun k => k = it) ⟨hg2.os, hg2.tape, hg2.output, hg2.size, fun k hk hn => hg2.block k hk (fun e => hn (by simpa using e))⟩ (fun k hk => (HI.out.2.2 k hk).2)
      unfold fileV at hen
      obtain ⟨w5, hw5⟩ : ∃ w5, w5 = w4.alloc (.cells #[.slice va f.data.length vcap, .int .i64 (f.safe : Int)] 87) := ⟨_, rfl⟩
      obtain ⟨bx, hbx⟩ : ∃ bx, bx = w4.heap.size := ⟨_, rfl⟩
      have B5 : Below w4.heap.size w4 w5 := by rw [hw5]; exact (Below.refl _ w4).alloc (Nat.le_refl _) _
      have hb5 : w5.heap[bx]? = some (.cells #[.slice va f.data.length vcap, .int .i64 (f.safe : Int)] 87 (0, 0)) := by rw [hw5, hbx]; exact heap_alloc_new w4 _
      have y0 : w5.cell? ⟨bx, 0, none⟩ = some (.slice va f.data.length vcap) := by simp [World.cell?, hb5]
      have y1 : w5.cell? ⟨bx, 1, none⟩ = some (.int .i64 (f.safe : Int)) := by simp [World.cell?, hb5]
      have hd5 := hd4.below B5
      have B45 : Below w.heap.size w w5 := B4.trans (B5.mono B4.size)
      have hbn : ¬ (bx = dc ∨ bx = mc) := fun e => by
        rcases e with e | e
        · have := hd4.lt (.inl rfl); omega
        · have := hd4.lt (.inr (.inl rfl)); omega
      have hstep := came_step HRt.out.rise left hf
      have H5 := hideR (And.intro hd5 (And.intro B45 (And.intro (Array.getElem?_eq_some_iff.1 hb5).1 (And.intro hbn (And.intro hstep (hvb.below B45))))))
      have hrg5 : w5.ranges Try.prog 3 fileElem mb it n0 D (fun z => left z && !z.sameKey (Lit.int .i64 f.num)) cnt2 := hrg2.kept (row := none) ⟨B5.os, B5.tape, B5.output, B5.size, fun k hk _ => B5.block k hk⟩ (by simp) (by simp)
      have HR5 := hideR (And.intro hrg5 hlt)
      have hdl2 : f.data.length ≤ 140737488355328 := by omega
      have i3 := hideR HI.out.2.2
      have hs4 : HidR (w4.heap.size = wr.heap.size ∧ it < wr.heap.size) := ⟨hs2, by
        obtain ⟨_, _, _, _, _, _, _, _, _, hr, _⟩ := HRG.out
        exact (Array.getElem?_eq_some_iff.1 hr).1⟩
      have HLe := hideR HRG.out.left_eq
      have hs5 : HidR (wr.heap.size ≤ w5.heap.size) := ⟨by have := B5.size; omega⟩
      clear hkey hv hat2 hrg2 hlt hg2 hs2 hxl B4 hd4 B5 hb5 hd5 B45 hbn hstep hrg5 hva hvb HI HRG
      go_upto_region 5 with fail
      rw [← hbx, ← hw5]
      clear hw5 hen hbx
      go_region_held3 (fun w' => w'.cell? ⟨bx, 0, none⟩ = some (.slice va f.data.length vcap) ∧ w'.cell? ⟨bx, 1, none⟩ = some (.int .i64 (f.safe : Int)))
        (first | exact ⟨y0, y1⟩ | assumption)
        (first
          | (go_at_call 53
             refine (copied_any va vcap f.data _ (H5.out.2.2.2.2.2.below (Below.refl _ _).drew) hdl2).mono ?_
             rintro e w6 ⟨rfl, r6, B6⟩
             obtain ⟨g6, hg6⟩ : ∃ g6, g6 = w5.drew.heap.size := ⟨_, rfl⟩
             rw [← hg6] at r6 B6 ⊢
             have B6' : Below w5.heap.size w5 w6 := (Below.refl _ w5).drew.trans (by rw [hg6] at B6; exact B6)
             have z01 : w6.cell? ⟨bx, 0, none⟩ = some (.slice va f.data.length vcap) ∧ w6.cell? ⟨bx, 1, none⟩ = some (.int .i64 (f.safe : Int)) := ⟨(B6'.cell (p := ⟨bx, 0, none⟩) H5.out.2.2.1).trans y0, (B6'.cell (p := ⟨bx, 1, none⟩) H5.out.2.2.1).trans y1⟩
             have H6 := hideR (And.intro ((row_own r6 hdl2).mono (Nat.zero_le _)) (And.intro B6' (show w5.heap.size ≤ g6 by rw [hg6]; exact Nat.le_refl _)))
             clear r6 B6 B6' hg6)
          | (go_at_call 50
             refine (set_any w6 dc mc q (came L left) vc (H5.out.1.below H6.out.2.1) f (.slice (some ⟨g6, 0, none⟩) f.data.length f.data.length) H6.out.1 (fun y hy _ j e1 e2 => by
               simp only [Value.ownBlock, Option.some.injEq] at e1
               have := H5.out.1.lt (.inr (.inr ⟨y, hy, e2⟩))
               have := H6.out.2.2
               omega) (by rw [H5.out.2.2.2.2.1]; exact right_filter HRt.out _)).mono ?_
             rintro e w7 ⟨rfl, d7, k7⟩
             have u01 : w7.cell? ⟨bx, 0, none⟩ = some (.slice va f.data.length vcap) ∧ w7.cell? ⟨bx, 1, none⟩ = some (.int .i64 (f.safe : Int)) := ⟨k7.cell H5.out.2.2.2.1 z01.1, k7.cell H5.out.2.2.2.1 z01.2⟩
             have H7 := hideR (And.intro d7 k7)
             clear d7 k7))
      go_wp2_with fail
      obtain ⟨h1, h2, h3, h4, h5, _⟩ := H5.out
      have hT : Turned w5 w7 dc mc _ vc _ _ := (Turned.ofBelow H6.out.2.1).laid h1.right.rise H7.out.2 f (.slice (some ⟨g6, 0, none⟩) f.data.length f.data.length) (fun j e => by
        cases e
        exact .inr H6.out.2.2)
      have hd7 := H7.out.1
      rw [h5] at hT hd7
      have hlow : ∀ j, Mine dc mc (came L left) vc j → w.heap.size ≤ j := fun j e => (i3.out j e).1
      have hml : mb < w5.heap.size := Nat.lt_of_lt_of_le hmlt h2.size
      have hs45 := hs5.out
      have bm : w7.heap[mb]? = w5.heap[mb]? := hT.kept.block mb hml (fun e => by have := hlow mb e; omega)
      have bi : w7.heap[it]? = w5.heap[it]? := hT.kept.block it (by have := hs4.out.2; omega) (fun e => (i3.out it e).2 rfl)
      have hrg7 : w7.ranges Try.prog 3 fileElem mb it n0 D (fun z => left z && !z.sameKey (Lit.int .i64 f.num)) cnt2 := by
        obtain ⟨es, clock, since, seen, c0, q1, q2, q3, q4, q5, q6⟩ := HR5.out.1
        exact ⟨es, clock, since, seen, c0, bm.trans q1, q2, q3, q4, bi.trans q5, q6⟩
      refine ⟨⟨_, cnt2, upd vc f.num (.slice (some ⟨g6, 0, none⟩) f.data.length f.data.length), hrg7, ⟨hd7, h2.trans (hT.kept.below h2.size (fun j hj e => by have := hlow j e; omega)), fun j e => ?_⟩⟩, ?_⟩
      · rcases hT.mine j e with e | e
        · exact i3.out j e
        · have := hs4.out.2
          have := h2.size
          exact ⟨by omega, by omega⟩
      · rw [hrg7.left_eq, HLe.out]
        exact HR5.out.2
end Go.Proofs.Ytnpofjeiamjioaa

namespace Go.Proofs.Ytnpofjeiamjioaa
open Go.RowKit Go.Maps

theorem info_rdisk : (Try.prog.info? 66).map (·.size) = some 2 := by kernel_rfl
set_option maxHeartbeats 4000000 in
set_option maxRecDepth 1000000 in
theorem refClone_any11 (w : World) (B rb : Nat) (q : Int) (fv : Value) (F : List (Fl × Value)) (h : RfAt w B rb q fv F) (hF : F.length ≤ 1073741823) (hD : ∀ p ∈ F, p.1.data.length ≤ 1073741823) :
    Calls Try.prog 26 #[.pointer (some ⟨rb, 0, none⟩)] w fun e w' => Below w.heap.size w w' ∧ ∃ rb', e = .returned (.pointer (some ⟨rb', 0, none⟩)) ∧ w.heap.size ≤ rb' ∧ ∃ fv' G, RfAt w' w.heap.size rb' q fv' G ∧ G.map (·.1) = F.map (·.1) := by
  have FA := hideR (files_any11 w.drew B rb q fv F (h.later (Below.refl _ w).drew) hF hD)
  have sq : (fun X : World => X.heap[rb]? = some (.cells #[.int .i64 q, fv] 66 (0, 0))) w.drew := h.box
  have c0 : ∀ X : World, X.heap[rb]? = some (.cells #[.int .i64 q, fv] 66 (0, 0)) → X.cell? ⟨rb, 0, none⟩ = some (.int .i64 q) := fun X hX => by simp [World.cell?, hX]
  have hlt := (Array.getElem?_eq_some_iff.1 h.box).1
  clear h hF hD
  go_enter Try.func26, Try.ntmps26
  go_upto_region 1 with fail
  refine wp_region_held_drew (S := fun X => X.heap[rb]? = some (.cells #[.int .i64 q, fv] 66 (0, 0))) (by kernel_rfl) sq (fun _ => ?_)
  refine H_take (i := 0) (v := .pointer (some ⟨rb, 0, none⟩)) (some 3) rfl rfl (by kernel_rfl) (by kernel_rfl) (by kernel_rfl) (fun _ _ _ h => h) rfl (fun X hX => ?_) sq ?_
  · simp [go_sem]
  simp only [Act.put, List.setIfInBounds_toArray, List.set_cons_zero, List.set_cons_succ]
  refine H_take (i := 1) (v := .pointer (some ⟨rb, 0, none⟩)) (some 4) rfl rfl (by kernel_rfl) (by kernel_rfl) (by kernel_rfl) (fun _ _ _ h => h) rfl (fun X hX => ?_) sq ?_
  · simp [go_sem]
  simp only [Act.put, List.setIfInBounds_toArray, List.set_cons_zero, List.set_cons_succ]
  refine H_take (i := 2) (v := .pointer (some ⟨rb, 0, none⟩)) (some 5) rfl rfl (by kernel_rfl) (by kernel_rfl) (by kernel_rfl) (fun _ _ _ h => h) rfl (fun X hX => ?_) sq ?_
  · simp [go_sem]
  simp only [Act.put, List.setIfInBounds_toArray, List.set_cons_zero, List.set_cons_succ]
  refine H_take (i := 3) (v := .int .i64 q) (some 6) rfl rfl (by kernel_rfl) (by kernel_rfl) (by kernel_rfl) (fun _ _ _ h => h) rfl (fun X hX => ?_) sq ?_
  · simp [go_sem, c0 X hX]
  simp only [Act.put, List.setIfInBounds_toArray, List.set_cons_zero, List.set_cons_succ]
  refine H_take (i := 4) (v := .pointer (some ⟨rb, 0, none⟩)) (some 7) rfl rfl (by kernel_rfl) (by kernel_rfl) (by kernel_rfl) (fun _ _ _ h => h) rfl (fun X hX => ?_) sq ?_
  · simp [go_sem]
  simp only [Act.put, List.setIfInBounds_toArray, List.set_cons_zero, List.set_cons_succ]
  refine H_call (i := 5) (f := 27) (args := #[.pointer (some ⟨rb, 0, none⟩)]) (some 8) rfl rfl (by kernel_rfl) rfl (by simp [go_sem]) (FA.out.mono ?_)
  rintro e w2 ⟨b2, v, G, rfl, f2, m2⟩
  have sq2 : (fun X : World => X.heap[rb]? = some (.cells #[.int .i64 q, fv] 66 (0, 0))) w2 := (b2.block rb hlt).trans sq
  have b2' : Below w.heap.size w w2 := ⟨b2.os, b2.tape, b2.output, b2.size, b2.block⟩
  have f2' : FlsAt w2 w.heap.size v G := f2
  have H2 := hideR (And.intro b2' (And.intro f2' m2))
  have hb2 := b2'.size
  obtain ⟨va, vc, ev⟩ := row_formR f2.row
  subst ev
  clear b2 f2 m2 b2' f2'
  refine ⟨_, rfl, sq2, ?_⟩
  simp only [Act.put, List.setIfInBounds_toArray, List.set_cons_zero, List.set_cons_succ]
  refine H_take (i := 6) (v := .agg #[.int .i64 q, .slice va G.length vc]) (some 9) rfl rfl (by kernel_rfl) (by kernel_rfl) (by kernel_rfl) (fun _ _ _ h => h) rfl (fun X hX => ?_) sq2 ?_
  · exact run_build1 rfl (by kernel_rfl)
  simp only [Act.put, List.setIfInBounds_toArray, List.set_cons_zero, List.set_cons_succ]
  have sq3 : (fun X : World => X.heap[rb]? = some (.cells #[.int .i64 q, fv] 66 (0, 0))) (w2.alloc (.cells #[.int .i64 q, .slice va G.length vc] 66)) := (heap_alloc_old w2 _ (by omega)).trans sq2
  refine H_value (i := 7) (v := .pointer (some ⟨w2.heap.size, 0, none⟩)) (w' := w2.alloc (.cells #[.int .i64 q, .slice va G.length vc] 66)) (some 10) rfl rfl (by kernel_rfl) rfl (by simp [go_sem]) sq3 ?_
  simp only [Act.put, List.setIfInBounds_toArray, List.set_cons_zero, List.set_cons_succ]
  refine H_take (i := 8) (v := .pointer (some ⟨w2.heap.size, 0, none⟩)) (some 2) rfl rfl (by kernel_rfl) (by kernel_rfl) (by kernel_rfl) (fun _ _ _ h => h) rfl (fun X hX => ?_) sq3 ?_
  · simp [go_sem]
  simp only [Act.put, List.setIfInBounds_toArray, List.set_cons_zero, List.set_cons_succ]
  refine wpAnyH_done (by kernel_rfl) ?_ _
  go_wp2_with fail
  go_ret
  obtain ⟨b2, f2, m2⟩ := H2.out
  have b3 : Below w2.heap.size w2 (w2.alloc (.cells #[.int .i64 q, .slice va G.length vc] 66)) := (Below.refl _ w2).alloc (Nat.le_refl _) _
  have f3 := f2.later b3
  exact ⟨b2.trans (b3.mono b2.size), w2.heap.size, rfl, b2.size, .slice va G.length vc, G, ⟨heap_alloc_new w2 _, f3.row, f3.own⟩, m2⟩
end Go.Proofs.Ytnpofjeiamjioaa
