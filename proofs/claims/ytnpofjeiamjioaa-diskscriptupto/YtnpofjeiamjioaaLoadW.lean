/-
  The walks of Load, New.
-/
import Derived.Test.YtnpofjeiamjioaaCheckW
namespace Go.Proofs.Ytnpofjeiamjioaa
open Go.RowKit Go.Maps

theorem chkL_right : ∀ (R : List Rf) (la : Int), 0 ≤ la → chkL la R = 0 → Rising (R.map cook) ∧ (∀ x ∈ R, la < x.num ∧ x.num ≤ 1099511627776 ∧ 0 ≤ x.safe ∧ x.safe ≤ x.data.length)
  | [], _, _, _ => ⟨List.Pairwise.nil, fun _ h => by cases h⟩
  | x :: r, la, h0, h => by
    unfold chkL at h
    split at h
    · split at h
      · rename_i h1 h2
        simp only [withinB, Bool.and_eq_true, decide_eq_true_eq] at h1 h2
        obtain ⟨a1, a2⟩ := chkL_right r x.num (by omega) h
        refine ⟨Rising.cons (fun y hy => ?_) a1, fun y hy => ?_⟩
        · obtain ⟨z, hz, rfl⟩ := List.mem_map.1 hy
          exact (a2 z hz).1
        · rcases List.mem_cons.1 hy with rfl | hy
          · exact ⟨by omega, h1.2, h2⟩
          · have := a2 y hy
            exact ⟨by omega, this.2⟩
      · cases h
    · cases h
theorem total_cook (R : List Rf) : total (R.map cook) = totR R := by
  simp only [total, totR, List.map_map]
  rfl
theorem chk_right {q : Int} {R : List Rf} (h : chk q R = 0) : Right q (R.map cook) ∧ ∀ x ∈ R, 0 ≤ x.safe ∧ x.safe ≤ x.data.length := by
  unfold chk at h
  split at h
  · split at h
    · split at h
      · cases h
      · rename_i h1 h2 h3
        obtain ⟨a1, a2⟩ := chkL_right R 0 (by omega) h2
        simp only [withinB, Bool.and_eq_true, decide_eq_true_eq] at h1
        refine ⟨⟨a1, fun f hf => ?_, h1, by rw [total_cook]; omega⟩, fun x hx => (a2 x hx).2.2⟩
        obtain ⟨x, hx, rfl⟩ := List.mem_map.1 hf
        have := a2 x hx
        simp only [cook]
        omega
    · contradiction
  · cases h
theorem right_take {q : Int} {L : List Fl} (h : Right q L) (k : Nat) : Right q (L.take k) := by
  refine ⟨h.rise.sublist (List.take_sublist _ _), fun f hf => h.ok f (List.mem_of_mem_take hf), h.quota, ?_⟩
  have h1 : total L = total (L.take k) + total (L.drop k) := by unfold total; rw [← List.sum_append, ← List.map_append, List.take_append_drop]
  have := h.fits
  omega
/-- A file above all others is laid at the end. -/
theorem ins_last : ∀ (M : List Fl) (f : Fl), (∀ x ∈ M, x.num < f.num) → ins M f = M ++ [f]
  | [], _, _ => rfl
  | x :: r, f, h => by
    have hx := h x List.mem_cons_self
    unfold ins
    rw [if_neg (by omega), if_neg (by omega), ins_last r f (fun y hy => h y (List.mem_cons_of_mem _ hy))]
    rfl
theorem ins_take {L : List Fl} (h : Rising L) {k : Nat} {f : Fl} (hf : L[k]? = some f) : ins (L.take k) f = L.take (k + 1) := by
  rw [ins_last, List.take_add_one, hf]
  · rfl
  · intro x hx
    obtain ⟨i, hi⟩ := List.mem_iff_getElem?.1 hx
    rw [List.getElem?_take] at hi
    split at hi
    · rename_i hik
      obtain ⟨h1, rfl⟩ := List.getElem?_eq_some_iff.1 hi
      obtain ⟨h2, rfl⟩ := List.getElem?_eq_some_iff.1 hf
      exact List.pairwise_iff_getElem.1 h i k h1 h2 hik
    · cases hi

/-- What Load answers. -/
def LoadPost (q : Int) (R : List Rf) (w : World) (e : Ending) (w' : World) : Prop :=
  Below w.heap.size w w' ∧ ((chk q R ≠ 0 ∧ e = .returned (.tuple #[.pointer none, .int .i64 (chk q R)])) ∨
    (chk q R = 0 ∧ ∃ db mb vs, e = .returned (.tuple #[.pointer (some ⟨db, 0, none⟩), .int .i64 0]) ∧ DiskAt w' db mb q (R.map cook) vs ∧ ∀ k, Mine db mb (R.map cook) vs k → w.heap.size ≤ k))

set_option maxHeartbeats 2000000 in
set_option maxRecDepth 1000000 in
theorem load_any (q : Int) (a : Option Addr) (c : Nat) (R : List Rf) (w : World) (h : IsRaw w a c R) (ht : totR R ≤ 4611686018427387904) :
    Calls Try.prog 23 #[.int .i64 q, .slice a R.length c] w (LoadPost q R w) := by
  have HH : Hid (IsRaw w a c R) := h
  have hcl : R.length ≤ 9223372036854775807 := by have := h.1; have := h.2.1; unfold maxLen at this; omega
  have HC : Hid (∀ W, IsRaw W a c R → Calls Try.prog 54 #[.int .i64 q, .slice a R.length c] W fun e w' => e = .returned (.int .i64 (chk q R)) ∧ Below W.heap.size W w') := fun W hW => check_any q a c R W hW ht
  have hmm := @run_makeMap Try.prog
  clear h
  by_cases hz : chk q R = 0
  · obtain ⟨hR, hsafe⟩ := chk_right hz
    have HR : Hid (Right q (R.map cook) ∧ (∀ x ∈ R, 0 ≤ x.safe ∧ x.safe ≤ x.data.length) ∧ chk q R = 0) := ⟨hR, hsafe, hz⟩
    clear hR hsafe hz
    go_enter Try.func23, Try.ntmps23
    go_wp2_with (go_at_call 54
                 refine (HC.out _ HH.out).mono ?_
                 rintro e w1 ⟨rfl, B1⟩
                 rw [HR.out.2.2]
                 have H1 : Hid (Below w.heap.size w w1) := B1
                 clear B1)
    obtain ⟨w2, hw2⟩ : ∃ w2, w2 = (w1.alloc (.map #[] 0)).alloc (.cells #[.int .i64 q, .int .i64 0, .map (some w1.heap.size)] 90) := ⟨_, rfl⟩
    obtain ⟨mb, hmb⟩ : ∃ mb, mb = w1.heap.size := ⟨_, rfl⟩
    obtain ⟨db, hdb⟩ : ∃ db, db = w1.heap.size + 1 := ⟨_, rfl⟩
    have B12 : Below w1.heap.size w1 w2 := by rw [hw2]; exact ((Below.refl _ w1).alloc (Nat.le_refl _) _).alloc (by simp) _
    have hD2 : DiskAt w2 db mb q [] (fun _ => .slice none 0 0) := by
      refine ⟨?_, ?_, (fun f hf => by cases hf), (fun f hf => by cases hf), ⟨List.Pairwise.nil, (fun f hf => by cases hf), HR.out.1.quota, by have := HR.out.1.quota; simp [total]; omega⟩⟩
      · rw [hw2, hdb, hmb]
        exact heap_alloc2_new w1 _ _
      · refine ((FTab.made w1).congr rfl (fun _ => rfl)).block ?_ |> (fun h => by rw [hmb]; exact h)
        rw [hw2]
        exact heap_alloc_old _ _ (by simp)
    have H2 : Hid (DiskAt w2 db mb q [] (fun _ => .slice none 0 0) ∧ Below w.heap.size w w2 ∧ w.heap.size ≤ db ∧ w.heap.size ≤ mb) := ⟨hD2, H1.out.trans (B12.mono H1.out.size), by have := H1.out.size; omega, by have := H1.out.size; omega⟩
    rw [← hw2, ← hdb, ← hmb]
    clear hw2 hmb hdb B12 hD2 hmm
    go_loopg [22] R.length (fun gk i wr => ∃ (k : Nat) (vs : Int → Value), i = .int .i64 k ∧ k ≤ R.length ∧ R.length - k ≤ gk ∧ Hid (DiskAt wr db mb q ((R.map cook).take k) vs ∧ Below w.heap.size w wr ∧ ∀ j, Mine db mb ((R.map cook).take k) vs j → w.heap.size ≤ j))
    case atStart =>
      refine ⟨0, fun _ => .slice none 0 0, rfl, Nat.zero_le _, Nat.le_refl _, ?_⟩
      obtain ⟨x1, x2, x3, x4⟩ := H2.out
      refine ⟨x1, x2, fun j hj => ?_⟩
      rcases hj with rfl | rfl | ⟨f, hf, _⟩
      · exact x3
      · exact x4
      · cases hf
    case round =>
      obtain ⟨k, vs, rfl, hk, hgk, HI⟩ := hrel
      by_cases hp : k < R.length
      · have hpi : (k : Int) < (R.length : Int) := by omega
        obtain ⟨x, hx⟩ : ∃ x, R[k]? = some x := ⟨_, List.getElem?_eq_getElem hp⟩
        obtain ⟨b, o, rfl, hb, k0, ⟨xa, xc, k1, kb⟩, k2⟩ := (HH.out.below HI.out.2.1).at hx
        have hck : (R.map cook)[k]? = some (cook x) := by rw [List.getElem?_map, hx]; rfl
        obtain ⟨hs0, hs1⟩ := HR.out.2.1 x (List.mem_of_getElem? hx)
        obtain ⟨xs, hxs⟩ := Int.eq_ofNat_of_zero_le hs0
        have hcx : cook x = ⟨x.num, x.data, xs⟩ := by simp [cook, hxs]
        rw [hxs] at k2
        have hxl : x.data.length ≤ 67108864 := by
          have h1 := len_le (List.mem_of_getElem? hck)
          have h2 := HR.out.1.fits
          have h3 := HR.out.1.quota
          simp only [hcx] at h1
          omega
        obtain ⟨w3, hw3⟩ : ∃ w3, w3 = wr.alloc (.cells #[.int .i64 x.num, .slice xa x.data.length xc, .int .i64 (xs : Int)] 62) := ⟨_, rfl⟩
        obtain ⟨bx, hbx⟩ : ∃ bx, bx = wr.heap.size := ⟨_, rfl⟩
        have B3 : Below wr.heap.size wr w3 := by rw [hw3]; exact (Below.refl _ wr).alloc (Nat.le_refl _) _
        have hb3 : w3.heap[bx]? = some (.cells #[.int .i64 x.num, .slice xa x.data.length xc, .int .i64 (xs : Int)] 62 (0, 0)) := by rw [hw3, hbx]; exact heap_alloc_new wr _
        have y0 : w3.cell? ⟨bx, 0, none⟩ = some (.int .i64 x.num) := by simp [World.cell?, hb3]
        have y1 : w3.cell? ⟨bx, 1, none⟩ = some (.slice xa x.data.length xc) := by simp [World.cell?, hb3]
        have y2 : w3.cell? ⟨bx, 2, none⟩ = some (.int .i64 (xs : Int)) := by simp [World.cell?, hb3]
        have hins : ins ((R.map cook).take k) ⟨x.num, x.data, xs⟩ = (R.map cook).take (k + 1) := by rw [← hcx]; exact ins_take HR.out.1.rise hck
        have H3 : Hid (IsBytes w3 xa xc x.data ∧ Below wr.heap.size wr w3 ∧ bx < w3.heap.size ∧ ¬ (bx = db ∨ bx = mb) ∧ ins ((R.map cook).take k) ⟨x.num, x.data, xs⟩ = (R.map cook).take (k + 1)) :=
          ⟨kb.below B3, B3, (Array.getElem?_eq_some_iff.1 hb3).1, by have := HI.out.1.lt (.inl rfl); have := HI.out.1.tab.lt; omega, hins⟩
        have hxb : x.data.length ≤ 140737488355328 := by omega
        clear hx hck hs0 hs1 hxs hcx B3 hb3 kb hins
        go_wp2_with fail
        rw [← hbx, ← hw3]
        clear hbx hw3 k0 k1 k2
        go_region_held3 (fun w' => w'.cell? ⟨bx, 0, none⟩ = some (.int .i64 x.num) ∧ w'.cell? ⟨bx, 1, none⟩ = some (.slice xa x.data.length xc) ∧ w'.cell? ⟨bx, 2, none⟩ = some (.int .i64 (xs : Int)))
          (first | exact ⟨y0, y1, y2⟩ | assumption)
          (first
            | (go_at_call 53
               refine (copied_any xa xc x.data _ (H3.out.1.below (Below.refl _ _).drew) hxb).mono ?_
               rintro e w4 ⟨rfl, r4, B4⟩
               obtain ⟨g4, hg4⟩ : ∃ g4, g4 = w3.drew.heap.size := ⟨_, rfl⟩
               rw [← hg4] at r4 B4 ⊢
               have B4' : Below w3.heap.size w3 w4 := (Below.refl _ w3).drew.trans (by rw [hg4] at B4; exact B4)
               have z012 : w4.cell? ⟨bx, 0, none⟩ = some (.int .i64 x.num) ∧ w4.cell? ⟨bx, 1, none⟩ = some (.slice xa x.data.length xc) ∧ w4.cell? ⟨bx, 2, none⟩ = some (.int .i64 (xs : Int)) := ⟨(B4'.cell (p := ⟨bx, 0, none⟩) H3.out.2.2.1).trans y0, (B4'.cell (p := ⟨bx, 1, none⟩) H3.out.2.2.1).trans y1, (B4'.cell (p := ⟨bx, 2, none⟩) H3.out.2.2.1).trans y2⟩
               have H4 : Hid (Own w4 0 (.slice (some ⟨g4, 0, none⟩) x.data.length x.data.length) x.data ∧ Below wr.heap.size wr w4 ∧ wr.heap.size ≤ g4) := ⟨(row_own r4 hxb).mono (Nat.zero_le _), H3.out.2.1.trans (B4'.mono H3.out.2.1.size), by rw [hg4]; exact H3.out.2.1.size⟩
               clear r4 B4 B4' hg4)
            | (go_at_call 50
               refine (set_any w4 db mb q ((R.map cook).take k) vs (HI.out.1.below H4.out.2.1) ⟨x.num, x.data, xs⟩ (.slice (some ⟨g4, 0, none⟩) x.data.length x.data.length) H4.out.1 (fun y hy _ j e1 e2 => by
                 simp only [Value.ownBlock, Option.some.injEq] at e1
                 have := HI.out.1.lt (.inr (.inr ⟨y, hy, e2⟩))
                 have := H4.out.2.2
                 omega) (by rw [H3.out.2.2.2.2]; exact right_take HR.out.1 _)).mono ?_
               rintro e w5 ⟨rfl, d5, k5⟩
               have u012 : w5.cell? ⟨bx, 0, none⟩ = some (.int .i64 x.num) ∧ w5.cell? ⟨bx, 1, none⟩ = some (.slice xa x.data.length xc) ∧ w5.cell? ⟨bx, 2, none⟩ = some (.int .i64 (xs : Int)) := ⟨k5.cell H3.out.2.2.2.1 z012.1, k5.cell H3.out.2.2.2.1 z012.2.1, k5.cell H3.out.2.2.2.1 z012.2.2⟩
               have H5 : Hid (DiskAt w5 db mb q (ins ((R.map cook).take k) ⟨x.num, x.data, xs⟩) (upd vs x.num (.slice (some ⟨g4, 0, none⟩) x.data.length x.data.length)) ∧ Kept (fun j => j = db ∨ j = mb) w4 w5) := ⟨d5, k5⟩
               clear d5 k5))
        go_wp2_with fail
        go_roundg (R.length - (k + 1))
        case measure => omega
        case rel =>
          obtain ⟨i1, i2, i3⟩ := HI.out
          have hT : Turned wr w5 db mb _ vs _ _ := (Turned.ofBelow H4.out.2.1).laid i1.right.rise H5.out.2 ⟨x.num, x.data, xs⟩ (.slice (some ⟨g4, 0, none⟩) x.data.length x.data.length) (fun j e => by
            cases e
            exact .inr H4.out.2.2)
          have hd5 := H5.out.1
          rw [H3.out.2.2.2.2] at hT hd5
          refine ⟨k + 1, upd vs x.num (.slice (some ⟨g4, 0, none⟩) x.data.length x.data.length), by go_num, by omega, Nat.le_refl _, ?_⟩
          refine ⟨hd5, i2.trans (hT.kept.below i2.size (fun j hj e => ?_)), fun j e => ?_⟩
          · have := i3 j e
            omega
          · rcases hT.mine j e with e | e
            · exact i3 j e
            · exact Nat.le_trans i2.size e
      · have hpi : ¬ (k : Int) < (R.length : Int) := by omega
        go_wp2_with fail
        go_ret2
        obtain ⟨i1, i2, i3⟩ := HI.out
        rw [List.take_of_length_le (by simp; omega)] at i1 i3
        exact ⟨i2, .inr ⟨HR.out.2.2, db, mb, vs, rfl, i1, i3⟩⟩
  · have hzb : (chk q R != 0) = true := by simpa using hz
    have HZ : Hid (chk q R ≠ 0) := hz
    go_enter Try.func23, Try.ntmps23
    go_wp2_with (go_at_call 54
                 refine (HC.out _ HH.out).mono ?_
                 rintro e w1 ⟨rfl, B1⟩
                 have H1 : Hid (Below w.heap.size w w1) := B1
                 clear B1)
    go_ret2
    exact ⟨H1.out, .inl ⟨HZ.out, rfl⟩⟩

/-- What New answers. -/
def NewPost (q : Int) (w : World) (e : Ending) (w' : World) : Prop :=
  Below w.heap.size w w' ∧ ((withinB q 1024 67108864 = false ∧ e = .returned (.tuple #[.pointer none, .int .i64 110])) ∨
    (withinB q 1024 67108864 = true ∧ ∃ db mb vs, e = .returned (.tuple #[.pointer (some ⟨db, 0, none⟩), .int .i64 0]) ∧ DiskAt w' db mb q [] vs ∧ ∀ k, Mine db mb [] vs k → w.heap.size ≤ k))
set_option maxRecDepth 1000000 in
theorem new_any (q : Int) (w : World) : Calls Try.prog 7 #[.int .i64 q] w (NewPost q w) := by
  have hl := load_any q none 0 [] w ⟨Nat.le_refl _, by unfold maxLen; omega, (fun x hx => by cases hx), .inl rfl⟩ (by simp [totR])
  simp only [List.length_nil] at hl
  cases hq : withinB q 1024 67108864 with
  | false =>
    have hc : chk q [] = 110 := by rw [chk, hq]; rfl
    have HQ : Hid (withinB q 1024 67108864 = false) := hq
    clear hq
    go_enter Try.func7, Try.ntmps7
    go_wp2_with (go_at_call 23
                 refine hl.mono ?_
                 rintro e w1 ⟨B1, h1⟩
                 obtain rfl : e = .returned (.tuple #[.pointer none, .int .i64 110]) := by
                   rcases h1 with ⟨_, h⟩ | ⟨h, _⟩
                   · rw [hc] at h; exact h
                   · rw [hc] at h; cases h
                 have H1 : Hid (Below w.heap.size w w1) := B1
                 clear B1 h1)
    go_ret2
    exact ⟨H1.out, .inl ⟨HQ.out, rfl⟩⟩
  | true =>
    have hc : chk q [] = 0 := by
      have : 1024 ≤ q ∧ q ≤ 67108864 := by simpa [withinB] using hq
      rw [chk, hq]
      simp [chkL, totR]
      omega
    have HQ : Hid (withinB q 1024 67108864 = true) := hq
    clear hq
    go_enter Try.func7, Try.ntmps7
    go_wp2_with (go_at_call 23
                 refine hl.mono ?_
                 rintro e w1 ⟨B1, h1⟩
                 obtain ⟨db, mb, vs, rfl, d1, m1⟩ : ∃ db mb vs, e = .returned (.tuple #[.pointer (some ⟨db, 0, none⟩), .int .i64 0]) ∧ DiskAt w1 db mb q [] vs ∧ ∀ k, Mine db mb [] vs k → w.heap.size ≤ k := by
                   rcases h1 with ⟨h, _⟩ | ⟨_, h⟩
                   · exact absurd hc h
                   · exact h
                 have H1 : Hid (Below w.heap.size w w1 ∧ DiskAt w1 db mb q [] vs ∧ ∀ k, Mine db mb [] vs k → w.heap.size ≤ k) := ⟨B1, d1, m1⟩
                 clear B1 h1 d1 m1)
    go_ret2
    exact ⟨H1.out.1, .inr ⟨HQ.out, db, mb, vs, rfl, H1.out.2.1, H1.out.2.2⟩⟩
end Go.Proofs.Ytnpofjeiamjioaa
