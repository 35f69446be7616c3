/-
  The walk of Crash.
-/
import Derived.Test.YtnpofjeiamjioaaRising
namespace Go.Proofs.Ytnpofjeiamjioaa
open Go.RowKit Go.Maps

/-- The slice at 'a', of capacity c, has the numbers l. -/
def IsInts (w : World) (a : Option Addr) (c : Nat) (l : List Int) : Prop :=
  l.length ≤ c ∧ c ≤ maxLen ∧ (∀ x ∈ l, -9223372036854775808 ≤ x ∧ x ≤ 9223372036854775807) ∧ (l = [] ∨ ∃ b o, a = some ⟨b, o, none⟩ ∧ b < w.heap.size ∧ ∀ (j : Nat) x, l[j]? = some x → w.cell? ⟨b, o + j, none⟩ = some (.int .i64 x))
theorem IsInts.cell {w : World} {a : Option Addr} {c : Nat} {l : List Int} (h : IsInts w a c l) {j : Nat} {x : Int} (hx : l[j]? = some x) : ∃ b o, a = some ⟨b, o, none⟩ ∧ w.cell? ⟨b, o + j, none⟩ = some (.int .i64 x) := by
  rcases h.2.2.2 with rfl | ⟨b, o, ha, _, hc⟩
  · simp at hx
  · exact ⟨b, o, ha, hc j x hx⟩
theorem IsInts.block {w w' : World} {a : Option Addr} {c : Nat} {l : List Int} (h : IsInts w a c l) (hs : w.heap.size ≤ w'.heap.size) (hb : ∀ b o, a = some ⟨b, o, none⟩ → b < w.heap.size → l ≠ [] → w'.heap[b]? = w.heap[b]?) : IsInts w' a c l := by
  obtain ⟨h1, h2, h3, h4⟩ := h
  refine ⟨h1, h2, h3, ?_⟩
  by_cases hl : l = []
  · exact .inl hl
  rcases h4 with h | ⟨b, o, ha, hbk, hc⟩
  · exact .inl h
  · exact .inr ⟨b, o, ha, by omega, fun j x hj => (World.cell?_of_block (hb b o ha hbk hl)).trans (hc j x hj)⟩
theorem ints_of_row {w : World} {B : Nat} {v : Value} {n : Nat} {l : List Int} (hl : l.length = n) (hb : ∀ x ∈ l, -9223372036854775808 ≤ x ∧ x ≤ 9223372036854775807) (h : w.ownsRow B 3 1 v n (l.map fun x => Value.int .i64 x)) :
    ∃ a c, v = .slice a n c ∧ IsInts w a c l ∧ (∀ g, v.ownBlock = some g → ∃ cur, w.heap[g]? = some (.cells cur 3 (0, 0)) ∧ B ≤ g) ∧ (∀ b o, a = some ⟨b, o, none⟩ → v.ownBlock = some b) := by
  rcases h.2 with ⟨rfl, h0⟩ | ⟨g, cap, cur, rfl, hB, hg, hnc, hcm, hcs, htake⟩
  · subst h0
    obtain rfl : l = [] := List.eq_nil_of_length_eq_zero hl
    exact ⟨none, 0, rfl, ⟨by simp, by unfold maxLen; omega, by simp, .inl rfl⟩, (fun g e => by cases e), fun b o e => by cases e⟩
  · refine ⟨_, cap, rfl, ⟨by omega, hcm, hb, .inr ⟨g, 0, rfl, (Array.getElem?_eq_some_iff.1 hg).1, fun j x hj => ?_⟩⟩, (fun g' e => ?_), fun b o e => by cases e; rfl⟩
    · have := h.cells (g := g) rfl j (.int .i64 x) (by rw [List.getElem?_map, hj]; rfl)
      rw [Nat.zero_add]
      cases j with
      | zero => simpa [Addr.add] using this
      | succ j => simpa [Addr.add] using this
    · simp only [Value.ownBlock, Option.some.injEq] at e
      subst e
      exact ⟨cur, hg, hB⟩
/-- What is no disk's block, by its type. -/
theorem DiskAt.notMine {w : World} {db mb : Nat} {q : Int} {L : List Fl} {vs : Int → Value} (h : DiskAt w db mb q L vs) {k : Nat} {cur : Array Value} {t : TypeId} {fr : Nat × Nat} (hc : w.heap[k]? = some (.cells cur t fr)) (h1 : t ≠ 90) (h2 : t ≠ 5) : ¬ Mine db mb L vs k := by
  rintro (rfl | rfl | ⟨f, hf, e⟩)
  · rw [h.cells] at hc
    simp only [Option.some.injEq, Obj.cells.injEq] at hc
    exact h1 hc.2.1.symm
  · obtain ⟨es, clock, hb⟩ := h.tab.map
    rw [hb] at hc
    cases hc
  · obtain ⟨cur', hc'⟩ := (h.own f hf).row e
    rw [hc'] at hc
    simp only [Option.some.injEq, Obj.cells.injEq] at hc
    exact h2 hc.2.1.symm

theorem crashed_ok {f : Fl} (hs : f.safe ≤ f.data.length) (x : Int) : (crashed f x).data.length = (crashed f x).safe ∧ (crashed f x).data.length ≤ f.data.length := by
  have := kept_le f x hs
  unfold crashed
  simp
  omega

set_option maxHeartbeats 2000000 in
set_option maxRecDepth 1000000 in
theorem crash_any (w : World) (db mb : Nat) (q : Int) (L : List Fl) (vs : Int → Value) (h : DiskAt w db mb q L vs) (ka : Option Addr) (kc : Nat) (keep : List Int) (hk : IsInts w ka kc keep) (hap : ∀ b o, ka = some ⟨b, o, none⟩ → keep ≠ [] → ¬ Mine db mb L vs b) :
    Calls Try.prog 19 #[.pointer (some ⟨db, 0, none⟩), .slice ka keep.length kc] w fun e w' => e = .returned (.tuple #[]) ∧ ∃ vs', DiskAt w' db mb q (crash keep L) vs' ∧ Turned w w' db mb L vs (crash keep L) vs' := by
  have HH : Hid (DiskAt w db mb q L vs) := h
  have HK : Hid (IsInts w ka kc keep ∧ ∀ b o, ka = some ⟨b, o, none⟩ → keep ≠ [] → ¬ Mine db mb L vs b) := ⟨hk, hap⟩
  have hfew := h.right.few
  have hkl : keep.length ≤ 9223372036854775807 := by have := hk.1; have := hk.2.1; unfold maxLen at *; omega
  clear h hk hap
  go_enter Try.func19, Try.ntmps19
  go_wp2_with (first
    | (go_at_call 49
       refine (rising_any w db mb q L vs HH.out).mono ?_
       rintro e w1 ⟨v1, rfl, r1, B1⟩
       have r1' : w1.ownsRow w.heap.size 3 1 v1 L.length ((L.map (·.num)).map fun x => Value.int .i64 x) := by rw [List.map_map]; exact r1
       obtain ⟨ra, rc, rfl, ri, rb, ro⟩ := ints_of_row (l := L.map (·.num)) (by simp) (fun x hx => by
         obtain ⟨f, hf, rfl⟩ := List.mem_map.1 hx
         have := (HH.out.right.ok f hf).2
         omega) r1'
       have R1 : Hid (IsInts w1 ra rc (L.map (·.num)) ∧ (∀ b o, ra = some ⟨b, o, none⟩ → ∃ cur, w1.heap[b]? = some (.cells cur 3 (0, 0))) ∧ Below w.heap.size w w1) := ⟨ri, fun b o e => by obtain ⟨cur, hc, _⟩ := rb b (ro b o e); exact ⟨cur, hc⟩, B1⟩
       clear r1 r1' B1 ri rb ro))
  go_loopg [11] L.length (fun gk i wr => ∃ (k : Nat) (vs' : Int → Value), i = .int .i64 k ∧ k ≤ L.length ∧ L.length - k ≤ gk ∧ Hid (DiskAt wr db mb q (part keep L k) vs' ∧ Turned w wr db mb L vs (part keep L k) vs' ∧ IsInts wr ra rc (L.map (·.num)) ∧ (∀ b o, ra = some ⟨b, o, none⟩ → ∃ cur, wr.heap[b]? = some (.cells cur 3 (0, 0))) ∧ IsInts wr ka kc keep))
  case atStart =>
    refine ⟨0, vs, rfl, Nat.zero_le _, Nat.le_refl _, ?_⟩
    obtain ⟨x1, x2, x3⟩ := R1.out
    show _ ∧ _
    rw [part_zero]
    exact ⟨HH.out.below x3, Turned.ofBelow x3, x1, x2, HK.out.1.block x3.size (fun b o _ hb _ => x3.block b hb)⟩
  case round =>
    obtain ⟨k, vs', rfl, hk, hgk, HI⟩ := hrel
    by_cases hp : k < L.length
    · obtain ⟨f, hf⟩ : ∃ f, L[k]? = some f := ⟨_, List.getElem?_eq_getElem hp⟩
      obtain ⟨M, hM⟩ : ∃ M, M = part keep L k := ⟨_, rfl⟩
      have hMk : M[k]? = some f := by rw [hM, part_get, hf]; simp
      have hd := HI.out.1
      rw [← hM] at hd
      have hr := hd.right.rise
      have hlook := look_get hr hMk
      obtain ⟨a0, c0, hvs, hown, hthere⟩ := hd.is hlook
      obtain ⟨hfM, _, hfl, hfs, hn1⟩ := hd.wf hlook
      have hwf : (Lit.int .i64 f.num).wf = true := WalkArith.wf_i64 (by omega)
      have hlk := hd.tab.look1 f.num hwf
      rw [hthere] at hlk
      obtain ⟨m0, m1, m2⟩ := hd.cell
      obtain ⟨b, o, rfl, hc⟩ := HI.out.2.2.1.cell (j := k) (x := f.num) (by rw [List.getElem?_map, hf]; rfl)
      obtain ⟨X, hX⟩ : ∃ X, X = keep.getD k 0 := ⟨_, rfl⟩
      have hXb : -9223372036854775808 ≤ X ∧ X ≤ 9223372036854775807 := by
        rw [hX, List.getD_eq_getElem?_getD]
        cases hkk : keep[k]? with
        | none => simp
        | some y => exact HI.out.2.2.2.2.2.2.1 y (List.mem_of_getElem? hkk)
      obtain ⟨X1, X2⟩ := hXb
      obtain ⟨K0, hK0⟩ : ∃ K0, K0 = kept f X := ⟨_, rfl⟩
      obtain ⟨S, hS⟩ : ∃ S, S = f.safe + K0 := ⟨_, rfl⟩
      have hkm : S ≤ 67108864 := by have := kept_le f X hfs; omega
      have hcr := crashed_ok hfs X
      have hCS : crashed f X = ⟨f.num, f.data.take S, S⟩ := by rw [crashed, hS, hK0]
      rw [hCS] at hcr
      have hsum : (f.safe : Int) + (K0 : Int) = (S : Int) := by omega
      have HK0 : Hid (K0 = kept f X) := hK0
      have hwS : IntKind.i64.wrap (S : Int) = (S : Int) := IntWalk.i64_in _ (by omega)
      have HR : Hid (Right q (ins M ⟨f.num, f.data.take S, S⟩)) := right_ins hd.right (by simp only [] at hcr ⊢; omega) hn1 (by simp only [] at hcr ⊢; rw [hlook]; simp only [lenOf]; have := hd.right.fits; omega)
      have HM : Hid (M = part keep L k ∧ f ∈ M ∧ vs' f.num = .slice a0 f.data.length c0 ∧ (ins M ⟨f.num, f.data.take S, S⟩ = M.set k ⟨f.num, f.data.take S, S⟩ ∧ part keep L (k + 1) = M.set k ⟨f.num, f.data.take S, S⟩) ∧ Rising M) :=
        ⟨hM, hfM, hvs, ⟨ins_set hr hMk rfl, by rw [← hCS, hX, hM]; exact part_set keep L k f hf⟩, hr⟩
      have HKB : Hid (∀ b o, ka = some ⟨b, o, none⟩ → b < w.heap.size ∨ keep = []) := fun b o e => by
        rcases HK.out.1.2.2.2 with h | ⟨b', o', e', hb, _⟩
        · exact .inr h
        · rw [e] at e'
          cases e'
          exact .inl hb
      obtain ⟨w2, hw2⟩ : ∃ w2, w2 = wr.alloc (.cells #[.slice a0 f.data.length c0, .int .i64 (f.safe : Int)] 87) := ⟨_, rfl⟩
      obtain ⟨bx, hbx⟩ : ∃ bx, bx = wr.heap.size := ⟨_, rfl⟩
      have B2 : Below wr.heap.size wr w2 := by rw [hw2]; exact (Below.refl _ wr).alloc (Nat.le_refl _) _
      have hb2 : w2.heap[bx]? = some (.cells #[.slice a0 f.data.length c0, .int .i64 (f.safe : Int)] 87 (0, 0)) := by rw [hw2, hbx]; exact heap_alloc_new wr _
      have x0 : w2.cell? ⟨bx, 0, none⟩ = some (.slice a0 f.data.length c0) := by simp [World.cell?, hb2]
      have x1 : w2.cell? ⟨bx, 1, none⟩ = some (.int .i64 (f.safe : Int)) := by simp [World.cell?, hb2]
      have H2 : Hid (DiskAt w2 db mb q M vs' ∧ Own w2 0 (.slice a0 f.data.length c0) f.data ∧ Below wr.heap.size wr w2 ∧ f.safe ≤ f.data.length ∧ bx < w2.heap.size ∧ ¬ (bx = db ∨ bx = mb)) :=
        ⟨hd.below B2, hown.below B2, B2, hfs, (Array.getElem?_eq_some_iff.1 hb2).1, by have := hd.lt (.inl rfl); have := hd.tab.lt; omega⟩
      have hkp : (k : Int) < (L.length : Int) := by omega
      have i7 : (f.data.length : Int) ≤ 67108864 := by omega
      have i8 : (f.safe : Int) ≤ 67108864 := by omega
      have i9 : (K0 : Int) ≤ 67108864 := by omega
      have hbxw : Hid (bx = wr.heap.size) := hbx
      by_cases hkk : k < keep.length
      · have hkki : (k : Int) < (keep.length : Int) := by omega
        obtain ⟨kb, ko, rfl, hkc⟩ := HI.out.2.2.2.2.cell (j := k) (x := X) (by rw [hX, List.getD_eq_getElem?_getD, List.getElem?_eq_getElem hkk]; rfl)
        clear hd hr hlook hvs hown hthere hfM hn1 hcr B2 hb2 hM hMk hf hX hfs hK0 hS hCS
        go_wp2_with fail
        rw [← hbx]
        clear hbx

        rw [← hw2]
        clear hw2
        go_region_held3 (fun w' => w'.cell? ⟨bx, 0, none⟩ = some (.slice a0 f.data.length c0) ∧ w'.cell? ⟨bx, 1, none⟩ = some (.int .i64 (f.safe : Int)))
          (first | exact ⟨x0, x1⟩ | assumption)
          (first
            | (go_at_call 52
               refine (kept_any (.slice a0 f.data.length c0) f X _ ⟨X1, X2⟩ (H2.out.2.1.below (Below.refl _ _).drew) H2.out.2.2.2.1 hfl).mono ?_
               rintro e w3 ⟨rfl, B3⟩
               rw [← HK0.out]
               have B3' : Below w2.heap.size w2 w3 := (Below.refl _ w2).drew.trans B3
               have y01 : w3.cell? ⟨bx, 0, none⟩ = some (.slice a0 f.data.length c0) ∧ w3.cell? ⟨bx, 1, none⟩ = some (.int .i64 (f.safe : Int)) := ⟨(B3'.cell (p := ⟨bx, 0, none⟩) H2.out.2.2.2.2.1).trans x0, (B3'.cell (p := ⟨bx, 1, none⟩) H2.out.2.2.2.2.1).trans x1⟩
               have H3 : Hid (Below w2.heap.size w2 w3) := B3'
               clear B3 B3')
            | (go_at_call 51
               refine (first_any (.slice a0 f.data.length c0) f.data (f.safe : Int) S w3 (H2.out.2.1.below H3.out) hkm).mono ?_
               rintro e w4 ⟨v4, rfl, o4, B4, l4⟩
               have z01 : w4.cell? ⟨bx, 0, none⟩ = some (.slice a0 f.data.length c0) ∧ w4.cell? ⟨bx, 1, none⟩ = some (.int .i64 (f.safe : Int)) := ⟨(B4.cell (p := ⟨bx, 0, none⟩) (Nat.lt_of_lt_of_le H2.out.2.2.2.2.1 H3.out.size)).trans y01.1, (B4.cell (p := ⟨bx, 1, none⟩) (Nat.lt_of_lt_of_le H2.out.2.2.2.2.1 H3.out.size)).trans y01.2⟩
               have H4 : Hid (Own w4 0 v4 (f.data.take S) ∧ Below w2.heap.size w2 w4 ∧ (v4 = .slice a0 f.data.length c0 ∨ ∃ k, v4.ownBlock = some k ∧ w2.heap.size ≤ k)) := ⟨o4, H3.out.trans (B4.mono H3.out.size), l4.imp id (fun ⟨k, e1, e2⟩ => ⟨k, e1, Nat.le_trans H3.out.size e2⟩)⟩
               clear o4 B4 l4)
            | (go_at_call 50
               have hd4 : DiskAt w4 db mb q M vs' := H2.out.1.below H4.out.2.1
               have hap4 := hd4.apart_old HM.out.2.1 (w0 := w2) (fun k hk => H2.out.1.lt hk) (v := v4) (by rw [HM.out.2.2.1]; exact H4.out.2.2)
               have P4 : Hid (∀ k, v4.ownBlock = some k → Mine db mb M vs' k ∨ w2.heap.size ≤ k) := hap4.2
               refine (set_any w4 db mb q M vs' hd4 ⟨f.num, f.data.take S, S⟩ v4 H4.out.1 hap4.1 HR.out).mono ?_
               rintro e w5 ⟨rfl, d5, k5⟩
               have u01 : w5.cell? ⟨bx, 0, none⟩ = some (.slice a0 f.data.length c0) ∧ w5.cell? ⟨bx, 1, none⟩ = some (.int .i64 (f.safe : Int)) := ⟨k5.cell H2.out.2.2.2.2.2 z01.1, k5.cell H2.out.2.2.2.2.2 z01.2⟩
               have H5 : Hid (DiskAt w5 db mb q (ins M ⟨f.num, f.data.take S, S⟩) (upd vs' f.num v4) ∧ Kept (fun k => k = db ∨ k = mb) w4 w5) := ⟨d5, k5⟩
               clear d5 k5 hd4 hap4))
        go_wp2_with fail
        go_roundg (L.length - (k + 1))
        case measure => omega
        case rel =>
          have hT : Turned wr w4 db mb M vs' M vs' := Turned.ofBelow (H2.out.2.2.1.trans (H4.out.2.1.mono H2.out.2.2.1.size))
          have hws : wr.heap.size ≤ w2.heap.size := H2.out.2.2.1.size
          have hT2 : Turned wr w5 db mb M vs' (ins M ⟨f.num, f.data.take S, S⟩) (upd vs' f.num v4) := hT.laid HM.out.2.2.2.2 H5.out.2 ⟨f.num, f.data.take S, S⟩ v4 (fun k e => by
            rcases P4.out k e with e | e
            · exact .inl e
            · exact .inr (by omega))
          obtain ⟨i1, i2, i3, i4, i5⟩ := HI.out
          have hpk : part keep L (k + 1) = ins M ⟨f.num, f.data.take S, S⟩ := by rw [HM.out.2.2.2.1.2, HM.out.2.2.2.1.1]
          refine ⟨k + 1, upd vs' f.num v4, by go_num, by omega, Nat.le_refl _, ?_⟩
          show _ ∧ _
          rw [hpk]
          rw [← HM.out.1] at i1 i2
          have hkr : ∀ b' o', some (⟨b, o, none⟩ : Addr) = some ⟨b', o', none⟩ → w5.heap[b']? = wr.heap[b']? := fun b' o' e => by
            obtain ⟨cur, hc⟩ := i4 b' o' e
            exact hT2.kept.block b' (Array.getElem?_eq_some_iff.1 hc).1 (i1.notMine hc (by decide) (by decide))
          refine ⟨H5.out.1, i2.trans hT2, i3.block hT2.kept.size (fun b o e _ _ => hkr b o e), fun b o e => ?_, i5.block hT2.kept.size (fun b o e hb hne => hT2.kept.block b hb (fun hm => ?_))⟩
          · obtain ⟨cur, hc⟩ := i4 b o e
            exact ⟨cur, (hkr b o e).trans hc⟩
          · rcases i2.mine b hm with hm | hm
            · exact HK.out.2 b o e hne hm
            · rcases HKB.out b o e with h | h
              · omega
              · exact hne h

      · have hkki : ¬ (k : Int) < (keep.length : Int) := by omega
        have hX0 : X = 0 := by rw [hX, List.getD_eq_getElem?_getD, List.getElem?_eq_none (by omega)]; rfl
        subst hX0
        clear hd hr hlook hvs hown hthere hfM hn1 hcr B2 hb2 hM hMk hf hX hfs hK0 hS hCS
        go_wp2_with fail
        rw [← hbx]
        clear hbx

        rw [← hw2]
        clear hw2
        go_region_held3 (fun w' => w'.cell? ⟨bx, 0, none⟩ = some (.slice a0 f.data.length c0) ∧ w'.cell? ⟨bx, 1, none⟩ = some (.int .i64 (f.safe : Int)))
          (first | exact ⟨x0, x1⟩ | assumption)
          (first
            | (go_at_call 52
               refine (kept_any (.slice a0 f.data.length c0) f 0 _ ⟨X1, X2⟩ (H2.out.2.1.below (Below.refl _ _).drew) H2.out.2.2.2.1 hfl).mono ?_
               rintro e w3 ⟨rfl, B3⟩
               rw [← HK0.out]
               have B3' : Below w2.heap.size w2 w3 := (Below.refl _ w2).drew.trans B3
               have y01 : w3.cell? ⟨bx, 0, none⟩ = some (.slice a0 f.data.length c0) ∧ w3.cell? ⟨bx, 1, none⟩ = some (.int .i64 (f.safe : Int)) := ⟨(B3'.cell (p := ⟨bx, 0, none⟩) H2.out.2.2.2.2.1).trans x0, (B3'.cell (p := ⟨bx, 1, none⟩) H2.out.2.2.2.2.1).trans x1⟩
               have H3 : Hid (Below w2.heap.size w2 w3) := B3'
               clear B3 B3')
            | (go_at_call 51
               refine (first_any (.slice a0 f.data.length c0) f.data (f.safe : Int) S w3 (H2.out.2.1.below H3.out) hkm).mono ?_
               rintro e w4 ⟨v4, rfl, o4, B4, l4⟩
               have z01 : w4.cell? ⟨bx, 0, none⟩ = some (.slice a0 f.data.length c0) ∧ w4.cell? ⟨bx, 1, none⟩ = some (.int .i64 (f.safe : Int)) := ⟨(B4.cell (p := ⟨bx, 0, none⟩) (Nat.lt_of_lt_of_le H2.out.2.2.2.2.1 H3.out.size)).trans y01.1, (B4.cell (p := ⟨bx, 1, none⟩) (Nat.lt_of_lt_of_le H2.out.2.2.2.2.1 H3.out.size)).trans y01.2⟩
               have H4 : Hid (Own w4 0 v4 (f.data.take S) ∧ Below w2.heap.size w2 w4 ∧ (v4 = .slice a0 f.data.length c0 ∨ ∃ k, v4.ownBlock = some k ∧ w2.heap.size ≤ k)) := ⟨o4, H3.out.trans (B4.mono H3.out.size), l4.imp id (fun ⟨k, e1, e2⟩ => ⟨k, e1, Nat.le_trans H3.out.size e2⟩)⟩
               clear o4 B4 l4)
            | (go_at_call 50
               have hd4 : DiskAt w4 db mb q M vs' := H2.out.1.below H4.out.2.1
               have hap4 := hd4.apart_old HM.out.2.1 (w0 := w2) (fun k hk => H2.out.1.lt hk) (v := v4) (by rw [HM.out.2.2.1]; exact H4.out.2.2)
               have P4 : Hid (∀ k, v4.ownBlock = some k → Mine db mb M vs' k ∨ w2.heap.size ≤ k) := hap4.2
               refine (set_any w4 db mb q M vs' hd4 ⟨f.num, f.data.take S, S⟩ v4 H4.out.1 hap4.1 HR.out).mono ?_
               rintro e w5 ⟨rfl, d5, k5⟩
               have u01 : w5.cell? ⟨bx, 0, none⟩ = some (.slice a0 f.data.length c0) ∧ w5.cell? ⟨bx, 1, none⟩ = some (.int .i64 (f.safe : Int)) := ⟨k5.cell H2.out.2.2.2.2.2 z01.1, k5.cell H2.out.2.2.2.2.2 z01.2⟩
               have H5 : Hid (DiskAt w5 db mb q (ins M ⟨f.num, f.data.take S, S⟩) (upd vs' f.num v4) ∧ Kept (fun k => k = db ∨ k = mb) w4 w5) := ⟨d5, k5⟩
               clear d5 k5 hd4 hap4))
        go_wp2_with fail
        go_roundg (L.length - (k + 1))
        case measure => omega
        case rel =>
          have hT : Turned wr w4 db mb M vs' M vs' := Turned.ofBelow (H2.out.2.2.1.trans (H4.out.2.1.mono H2.out.2.2.1.size))
          have hws : wr.heap.size ≤ w2.heap.size := H2.out.2.2.1.size
          have hT2 : Turned wr w5 db mb M vs' (ins M ⟨f.num, f.data.take S, S⟩) (upd vs' f.num v4) := hT.laid HM.out.2.2.2.2 H5.out.2 ⟨f.num, f.data.take S, S⟩ v4 (fun k e => by
            rcases P4.out k e with e | e
            · exact .inl e
            · exact .inr (by omega))
          obtain ⟨i1, i2, i3, i4, i5⟩ := HI.out
          have hpk : part keep L (k + 1) = ins M ⟨f.num, f.data.take S, S⟩ := by rw [HM.out.2.2.2.1.2, HM.out.2.2.2.1.1]
          refine ⟨k + 1, upd vs' f.num v4, by go_num, by omega, Nat.le_refl _, ?_⟩
          show _ ∧ _
          rw [hpk]
          rw [← HM.out.1] at i1 i2
          have hkr : ∀ b' o', some (⟨b, o, none⟩ : Addr) = some ⟨b', o', none⟩ → w5.heap[b']? = wr.heap[b']? := fun b' o' e => by
            obtain ⟨cur, hc⟩ := i4 b' o' e
            exact hT2.kept.block b' (Array.getElem?_eq_some_iff.1 hc).1 (i1.notMine hc (by decide) (by decide))
          refine ⟨H5.out.1, i2.trans hT2, i3.block hT2.kept.size (fun b o e _ _ => hkr b o e), fun b o e => ?_, i5.block hT2.kept.size (fun b o e hb hne => hT2.kept.block b hb (fun hm => ?_))⟩
          · obtain ⟨cur, hc⟩ := i4 b o e
            exact ⟨cur, (hkr b o e).trans hc⟩
          · rcases i2.mine b hm with hm | hm
            · exact HK.out.2 b o e hne hm
            · rcases HKB.out b o e with h | h
              · omega
              · exact hne h

    · have hkp : ¬ (k : Int) < (L.length : Int) := by omega
      go_wp2_with fail
      go_end0
      obtain ⟨i1, i2, _⟩ := HI.out
      have hkL : part keep L k = crash keep L := by rw [crash, show k = L.length by omega]
      rw [hkL] at i1 i2
      exact ⟨rfl, vs', i1, i2⟩
end Go.Proofs.Ytnpofjeiamjioaa
