/-
  The walk of Files; a list of files in memory.
-/
import Derived.Test.YtnpofjeiamjioaaCrashW
import Derived.Deep.AppendLies
namespace Go.Proofs.Ytnpofjeiamjioaa
open Go.RowKit Go.Maps

/-- The cells of a file in a list, its bytes in block g. -/
def cellF (p : Fl × Nat) : List Value := [.int .i64 p.1.num, .slice (some ⟨p.2, 0, none⟩) p.1.data.length p.1.data.length, .int .i64 (p.1.safe : Int)]
def flatF (P : List (Fl × Nat)) : List Value := P.flatMap cellF
theorem flatF_length (P : List (Fl × Nat)) : (flatF P).length = P.length * 3 := by
  induction P with
  | nil => rfl
  | cons p r ih => simp only [flatF, List.flatMap_cons, List.length_append, List.length_cons] at ih ⊢; rw [ih]; simp [cellF]; omega
theorem flatF_get (P : List (Fl × Nat)) (i : Nat) (p : Fl × Nat) (hp : P[i]? = some p) (j : Nat) (hj : j < 3) : (flatF P)[i * 3 + j]? = (cellF p)[j]? := by
  induction P generalizing i with
  | nil => simp at hp
  | cons x r ih =>
    cases i with
    | zero =>
      simp only [List.getElem?_cons_zero, Option.some.injEq] at hp
      subst hp
      simp only [flatF, List.flatMap_cons]
      rw [List.getElem?_append_left (by simp [cellF]; omega)]
      congr 1
      omega
    | succ i =>
      simp only [List.getElem?_cons_succ] at hp
      simp only [flatF, List.flatMap_cons]
      rw [List.getElem?_append_right (by simp [cellF]; omega), show (i + 1) * 3 + j - (cellF x).length = i * 3 + j by simp [cellF]; omega]
      exact ih i hp

/-- The slice v has the files of P, all in blocks from lo on, the bytes of each in a block of its own. -/
structure ListAt (w : World) (lo : Nat) (v : Value) (P : List (Fl × Nat)) : Prop where
  row : w.ownsRow lo 62 3 v P.length (flatF P)
  data : ∀ p ∈ P, ByteRow w 5 p.2 p.1.data ∧ lo ≤ p.2
  apart : P.Pairwise (fun a b => a.2 < b.2)

theorem ListAt.block {w : World} {lo : Nat} {v : Value} {P : List (Fl × Nat)} (h : ListAt w lo v P) {k : Nat} (hk : v.ownBlock = some k) : ∃ cur, w.heap[k]? = some (.cells cur 62 (0, 0)) ∧ lo ≤ k := by
  rcases h.row.2 with ⟨rfl, _⟩ | ⟨g, cap, cur, rfl, hB, hg, _⟩
  · cases hk
  · simp only [Value.ownBlock, Option.some.injEq] at hk
    subst hk
    exact ⟨cur, hg, hB⟩
theorem ListAt.kept {K : Nat → Prop} {w w' : World} {lo : Nat} {v : Value} {P : List (Fl × Nat)} (h : ListAt w lo v P) (hk : Kept K w w') (hK : ∀ k, lo ≤ k → k < w.heap.size → ¬ K k) : ListAt w' lo v P := by
  refine ⟨⟨h.row.1, ?_⟩, fun p hp => ?_, h.apart⟩
  · rcases h.row.2 with h0 | ⟨g, cap, cur, rfl, hB, hg, rest⟩
    · exact .inl h0
    · have hlt := (Array.getElem?_eq_some_iff.1 hg).1
      exact .inr ⟨g, cap, cur, rfl, hB, (hk.block g hlt (hK g hB hlt)).trans hg, rest⟩
  · obtain ⟨h1, h2⟩ := h.data p hp
    exact ⟨(hk.block p.2 h1.lt (hK p.2 h2 h1.lt)).trans h1, h2⟩
theorem ListAt.below {w w' : World} {lo : Nat} {v : Value} {P : List (Fl × Nat)} (h : ListAt w lo v P) (hk : Below w.heap.size w w') : ListAt w' lo v P :=
  h.kept (K := fun _ => False) (Kept.ofBelow hk) (fun _ _ _ => id)

theorem info_apiFile : (Try.prog.info? 62).map (fun i => (i.zero, i.size, i.bytes)) = some (some (.agg #[.int .i64 0, .slice none 0 0, .int .i64 0]), 3, 40) := by kernel_rfl
theorem step_files {ops : Array Oper} {o : Oper} {a : Act} {K : Act → World → Prop} {Q : Exit → Act → World → Prop} {E : Prop} (hgd : o.guard = none) (s x : Operand)
    (ho : o.op = .call { callee := .builtin .append, args := #[s, x], argTypes := #[48, 48] })
    (w : World) (lo : Nat) (hlo : lo ≤ w.heap.size) (v : Value) (P : List (Fl × Nat)) (p : Fl × Nat) (C : Array Value) (hC : (cellF p).toArray = C) (hown : w.ownsRow lo 62 3 v P.length (flatF P)) (hR : P.length ≤ 1099511627776) (hs : a.eval s = v) (hx : a.eval x = .slice (some ⟨w.heap.size, 0, none⟩) 1 1)
    (h : ∀ v' w', w'.ownsRow lo 62 3 v' (P.length + 1) (flatF P ++ cellF p) → w.grownBy w' v.ownBlock → (v'.ownBlock = v.ownBlock ∨ ∃ g, v'.ownBlock = some g ∧ w.heap.size ≤ g) → (∃ g c, v' = .slice (some ⟨g, 0, none⟩) (P.length + 1) c) → K (a.put o.dst v') w') :
    if Region.wanted o (yielded ops a.tmps) = true then Oper.wp Try.prog o a (w.alloc (.cells C 62)) K Q else E := by
  subst hC
  obtain ⟨i0, hi, hz0, hz1, hz2⟩ := info_parts info_apiFile
  refine step_append_lies (w.alloc (.cells (cellF p).toArray 62)) hgd s x 48 ho lo 62 i0 (.agg #[.int .i64 0, .slice none 0 0, .int .i64 0]) 3 40 Try.underlying48 hi hz0 hz1 hz2 rfl (by decide) v P.length (flatF P) hs (hown.alloc _) ⟨w.heap.size, 0, none⟩ 1 1 (cellF p) hx rfl ?_ ?_ (by decide) (by unfold maxLen; omega) (by omega) (by simp; omega) _ rfl ?_
  · exact World.news_of_block (w := w.alloc (.cells (cellF p).toArray 62)) (cs := (cellF p).toArray) (heap_alloc_new w _)
  · intro u hu
    simp [cellF] at hu
    rcases hu with rfl | rfl | rfl <;> rfl
  · intro g cap w' h1 h2 h3 _
    refine h _ w' h1 ⟨h2.os, h2.tape, h2.output, Nat.le_trans (by simp [World.size_alloc]) h2.size, fun k hk hne => (h2.block k (Nat.lt_of_lt_of_le hk (by simp [World.size_alloc])) hne).trans (heap_alloc_old w _ hk)⟩ ?_ ⟨g, cap, rfl⟩
    rcases h3 with e | e
    · exact .inl e.symm
    · exact .inr ⟨g, rfl, by rw [e]; simp⟩

theorem ListAt.push {w w' : World} {lo : Nat} {v v' : Value} {P : List (Fl × Nat)} (h : ListAt w lo v P) {f : Fl} {g : Nat} (hf : ByteRow w 5 g f.data) (hlo : lo ≤ g) (hnew : ∀ p ∈ P, p.2 < g)
    (hr : w'.ownsRow lo 62 3 v' (P.length + 1) (flatF P ++ cellF (f, g))) (hg : w.grownBy w' v.ownBlock) : ListAt w' lo v' (P ++ [(f, g)]) := by
  have hnb : ∀ {k : Nat} {l : List UInt8}, ByteRow w 5 k l → some k ≠ v.ownBlock := fun {k l} hk e => by
    obtain ⟨cur, hc, _⟩ := h.block e.symm
    have hk : w.heap[k]? = _ := hk
    rw [hc] at hk
    simp at hk
  refine ⟨by simpa [flatF] using hr, fun p hp => ?_, List.pairwise_append.2 ⟨h.apart, List.pairwise_singleton _ _, fun a ha b hb => ?_⟩⟩
  · rcases List.mem_append.1 hp with hp | hp
    · obtain ⟨h1, h2⟩ := h.data p hp
      exact ⟨(hg.block p.2 h1.lt (hnb h1)).trans h1, h2⟩
    · obtain rfl := List.mem_singleton.1 hp
      exact ⟨(hg.block g hf.lt (hnb hf)).trans hf, hlo⟩
  · obtain rfl := List.mem_singleton.1 hb
    exact hnew a ha

set_option maxHeartbeats 2000000 in
set_option maxRecDepth 1000000 in
theorem files_any (w : World) (db mb : Nat) (q : Int) (L : List Fl) (vs : Int → Value) (h : DiskAt w db mb q L vs) :
    Calls Try.prog 20 #[.pointer (some ⟨db, 0, none⟩)] w fun e w' => ∃ v, e = .returned v ∧ ∃ P, P.map (·.1) = L ∧ ListAt w' w.heap.size v P ∧ Below w.heap.size w w' := by
  have HH : Hid (DiskAt w db mb q L vs) := h
  have hfew := h.right.few
  obtain ⟨m0, m1, m2⟩ := h.cell
  obtain ⟨i0, hi, hz0, hz1, hz2⟩ := info_parts info_apiFile
  clear h
  go_enter Try.func20, Try.ntmps20
  go_wp2_with (first
    | (at_len; refine wpList_flen rfl _ rfl mb L.length (slot L vs) rfl HH.out.tab ?_)
    | (at_make
       refine wpList_make_own _ rfl _ _ 48 rfl w.heap.size 62 i0 (.agg #[.int .i64 0, .slice none 0 0, .int .i64 0]) 3 Try.underlying48 hi hz0 hz1 _ _ _ L.length rfl rfl rfl (by rw [hz2]; omega) (by unfold maxLen; omega) (Nat.le_refl _) ?_
       intro wm hrow hgm
       have Hm : Hid (ListAt wm w.heap.size (.slice (some ⟨w.heap.size, 0, none⟩) 0 L.length) [] ∧ Below w.heap.size w wm) := ⟨⟨hrow, (fun p hp => by cases hp), List.Pairwise.nil⟩, (Below.refl _ w).grown hgm (Nat.le_refl _) (fun j hj => by cases hj)⟩
       clear hrow hgm)
    | (go_at_call 49
       refine (rising_any wm db mb q L vs (HH.out.below Hm.out.2)).mono ?_
       rintro e w1 ⟨v1, rfl, r1, B1⟩
       have r1' : w1.ownsRow wm.heap.size 3 1 v1 L.length ((L.map (·.num)).map fun x => Value.int .i64 x) := by rw [List.map_map]; exact r1
       obtain ⟨ra, rc, rfl, ri, rb, ro⟩ := ints_of_row (l := L.map (·.num)) (by simp) (fun x hx => by
         obtain ⟨f, hf, rfl⟩ := List.mem_map.1 hx
         have := (HH.out.right.ok f hf).2
         omega) r1'
       have R1 : Hid (IsInts w1 ra rc (L.map (·.num)) ∧ (∀ b o, ra = some ⟨b, o, none⟩ → ∃ cur, w1.heap[b]? = some (.cells cur 3 (0, 0))) ∧ Below w.heap.size w w1 ∧ ListAt w1 w.heap.size (.slice (some ⟨w.heap.size, 0, none⟩) 0 L.length) []) := ⟨ri, fun b o e => by obtain ⟨cur, hc, _⟩ := rb b (ro b o e); exact ⟨cur, hc⟩, Hm.out.2.trans (B1.mono Hm.out.2.size), Hm.out.1.below B1⟩
       clear r1 r1' B1 ri rb ro))
  clear m0 m1 m2
  go_loopg [3, 16] L.length (fun gk v i wr => ∃ (k : Nat) (P : List (Fl × Nat)), i = .int .i64 k ∧ k ≤ L.length ∧ L.length - k ≤ gk ∧ Hid (P.map (·.1) = L.take k ∧ ListAt wr w.heap.size v P ∧ Below w.heap.size w wr ∧ IsInts wr ra rc (L.map (·.num)) ∧ (∀ b o, ra = some ⟨b, o, none⟩ → ∃ cur, wr.heap[b]? = some (.cells cur 3 (0, 0)))))
  case atStart =>
    refine ⟨0, [], rfl, Nat.zero_le _, Nat.le_refl _, ?_⟩
    obtain ⟨x1, x2, x3, x4⟩ := R1.out
    exact ⟨by simp, x4, x3, x1, x2⟩
  case round =>
    obtain ⟨k, P, rfl, hk, hgk, HI⟩ := hrel
    by_cases hp : k < L.length
    · obtain ⟨f, hf⟩ : ∃ f, L[k]? = some f := ⟨_, List.getElem?_eq_getElem hp⟩
      have hd := HH.out.below HI.out.2.2.1
      have hlook := look_get hd.right.rise hf
      obtain ⟨a0, c0, hvs, hown, hthere⟩ := hd.is hlook
      obtain ⟨hfM, _, hfl, hfs, hn1⟩ := hd.wf hlook
      have hwf : (Lit.int .i64 f.num).wf = true := WalkArith.wf_i64 (by omega)
      have hlk := hd.tab.look1 f.num hwf
      rw [hthere] at hlk
      obtain ⟨m0, m1, m2⟩ := hd.cell
      obtain ⟨b, o, rfl, hc⟩ := HI.out.2.2.2.1.cell (j := k) (x := f.num) (by rw [List.getElem?_map, hf]; rfl)
      obtain ⟨w2, hw2⟩ : ∃ w2, w2 = wr.alloc (.cells #[.slice a0 f.data.length c0, .int .i64 (f.safe : Int)] 87) := ⟨_, rfl⟩
      obtain ⟨bx, hbx⟩ : ∃ bx, bx = wr.heap.size := ⟨_, rfl⟩
      have B2 : Below wr.heap.size wr w2 := by rw [hw2]; exact (Below.refl _ wr).alloc (Nat.le_refl _) _
      have hb2 : w2.heap[bx]? = some (.cells #[.slice a0 f.data.length c0, .int .i64 (f.safe : Int)] 87 (0, 0)) := by rw [hw2, hbx]; exact heap_alloc_new wr _
      have x0 : w2.cell? ⟨bx, 0, none⟩ = some (.slice a0 f.data.length c0) := by simp [World.cell?, hb2]
      have x1 : w2.cell? ⟨bx, 1, none⟩ = some (.int .i64 (f.safe : Int)) := by simp [World.cell?, hb2]
      obtain ⟨a0', c0', ev, hby⟩ := (hown.below B2).shape
      simp only [Value.slice.injEq] at ev
      obtain ⟨rfl, _, rfl⟩ := ev
      have H2 : Hid (IsBytes w2 a0 c0 f.data ∧ Below wr.heap.size wr w2 ∧ w2.heap[bx]? = some (.cells #[.slice a0 f.data.length c0, .int .i64 (f.safe : Int)] 87 (0, 0)) ∧ bx = wr.heap.size ∧ w.heap.size ≤ w2.heap.size) :=
        ⟨hby, B2, hb2, hbx, Nat.le_trans HI.out.2.2.1.size B2.size⟩
      have hkp : (k : Int) < (L.length : Int) := by omega
      have HF : Hid (L[k]? = some f ∧ P.length = k) := ⟨hf, by have := congrArg List.length HI.out.1; simp at this; omega⟩
      have hfb : f.data.length ≤ 140737488355328 := by omega
      clear hd hlook hvs hown hthere hfM hfl hfs hn1 B2 hb2 hby hf
      go_wp2_with fail
      rw [← hbx, ← hw2]
      clear hbx hw2 m0 m1 m2 hlk hc
      go_region_held3 (fun w' => w'.cell? ⟨bx, 0, none⟩ = some (.slice a0 f.data.length c0) ∧ w'.cell? ⟨bx, 1, none⟩ = some (.int .i64 (f.safe : Int)))
        (first | exact ⟨x0, x1⟩ | assumption | exact ⟨(((Below.refl _ w3).alloc (Nat.le_refl _) _).cell (p := ⟨bx, 0, none⟩) hbl3).trans y01.1, (((Below.refl _ w3).alloc (Nat.le_refl _) _).cell (p := ⟨bx, 1, none⟩) hbl3).trans y01.2⟩)
        (first
          | (go_at_call 53
             refine (copied_any a0 c0 f.data _ (H2.out.1.below (Below.refl _ _).drew) hfb).mono ?_
             rintro e w3 ⟨rfl, r3, B3⟩
             obtain ⟨g3, hg3⟩ : ∃ g3, g3 = w2.drew.heap.size := ⟨_, rfl⟩
             rw [← hg3] at r3 B3 ⊢
             have B3' : Below w2.heap.size w2 w3 := (Below.refl _ w2).drew.trans (by rw [hg3] at B3; exact B3)
             have hbl : bx < w2.heap.size := (Array.getElem?_eq_some_iff.1 H2.out.2.2.1).1
             have y01 : w3.cell? ⟨bx, 0, none⟩ = some (.slice a0 f.data.length c0) ∧ w3.cell? ⟨bx, 1, none⟩ = some (.int .i64 (f.safe : Int)) := ⟨(B3'.cell (p := ⟨bx, 0, none⟩) hbl).trans x0, (B3'.cell (p := ⟨bx, 1, none⟩) hbl).trans x1⟩
             have H3 : Hid (ByteRow w3 5 g3 f.data ∧ Below w2.heap.size w2 w3 ∧ g3 = w2.heap.size ∧ w3.heap[bx]? = some (.cells #[.slice a0 f.data.length c0, .int .i64 (f.safe : Int)] 87 (0, 0))) := ⟨r3, B3', hg3, (B3'.block bx hbl).trans H2.out.2.2.1⟩
             have hbl3 : bx < w3.heap.size := Nat.lt_of_lt_of_le hbl B3'.size
             clear r3 B3 B3' hg3 hbl)
          | (refine step_files rfl (.tmp 26) (.tmp 34) rfl w3 w.heap.size (Nat.le_trans H2.out.2.2.2.2 H3.out.2.1.size) u3 P (f, g3) _ (by rfl) ((HI.out.2.1.below H2.out.2.1).below H3.out.2.1).row (by have := HF.out.2; omega) (by rfl) (by rfl) ?_
             intro v4 w4 r4 g4 l4 s4
             have hb4 : w4.heap[bx]? = some (.cells #[.slice a0 f.data.length c0, .int .i64 (f.safe : Int)] 87 (0, 0)) := (g4.block bx hbl3 (fun e => by
               obtain ⟨cur, hc, _⟩ := ((HI.out.2.1.below H2.out.2.1).below H3.out.2.1).block e.symm
               rw [H3.out.2.2.2] at hc
               simp at hc)).trans H3.out.2.2.2
             have z01 : w4.cell? ⟨bx, 0, none⟩ = some (.slice a0 f.data.length c0) ∧ w4.cell? ⟨bx, 1, none⟩ = some (.int .i64 (f.safe : Int)) := by simp [World.cell?, hb4]
             have H4 : Hid (w4.ownsRow w.heap.size 62 3 v4 (P.length + 1) (flatF P ++ cellF (f, g3)) ∧ w3.grownBy w4 u3.ownBlock ∧ (v4.ownBlock = u3.ownBlock ∨ ∃ g, v4.ownBlock = some g ∧ w3.heap.size ≤ g)) := ⟨r4, g4, l4⟩
             clear r4 g4 l4 s4 hb4))
      go_wp2_with fail
      go_roundg (L.length - (k + 1))
      case measure => omega
      case rel =>
        obtain ⟨i1, i2, i3, i4, i5⟩ := HI.out
        have B23 : Below wr.heap.size wr w3 := H2.out.2.1.trans (H3.out.2.1.mono H2.out.2.1.size)
        have l3 := (i2.below H2.out.2.1).below H3.out.2.1
        have hws := H2.out.2.1.size
        have hnew : ∀ p ∈ P, p.2 < g3 := fun p hp => by
          have := (i2.data p hp).1.lt
          have := H3.out.2.2.1
          omega
        have hL4 : ListAt w4 w.heap.size v4 (P ++ [(f, g3)]) := l3.push H3.out.1 (by have := H3.out.2.2.1; have := H2.out.2.2.2.2; omega) hnew H4.out.1 H4.out.2.1
        have K34 : Kept (fun j => u3.ownBlock = some j) w3 w4 := Kept.ofGrown H4.out.2.1 (fun _ e => e)
        have hkr : ∀ b' o', some (⟨b, o, none⟩ : Addr) = some ⟨b', o', none⟩ → w4.heap[b']? = wr.heap[b']? := fun b' o' e => by
          obtain ⟨cur, hc⟩ := i5 b' o' e
          have hlt := (Array.getElem?_eq_some_iff.1 hc).1
          refine (K34.block b' (Nat.lt_of_lt_of_le hlt B23.size) (fun e2 => ?_)).trans (B23.block b' hlt)
          obtain ⟨cur2, hc2, _⟩ := i2.block e2
          rw [hc] at hc2
          simp at hc2
        refine ⟨k + 1, P ++ [(f, g3)], by go_num, by omega, Nat.le_refl _, ?_⟩
        refine ⟨?_, hL4, (i3.trans (B23.mono i3.size)).trans (K34.below (Nat.le_trans H2.out.2.2.2.2 H3.out.2.1.size) (fun j hj e => ?_)), i4.block (Nat.le_trans B23.size K34.size) (fun b' o' e _ _ => hkr b' o' e), fun b' o' e => ?_⟩
        · rw [List.take_add_one, HF.out.1, List.map_append, i1]
          rfl
        · obtain ⟨_, _, hh⟩ := i2.block e
          omega
        · obtain ⟨cur, hc⟩ := i5 b' o' e
          exact ⟨cur, (hkr b' o' e).trans hc⟩
    · have hkp : ¬ (k : Int) < (L.length : Int) := by omega
      go_wp2_with fail
      go_ret
      obtain ⟨i1, i2, i3, _⟩ := HI.out
      exact ⟨_, rfl, P, by rw [i1, List.take_of_length_le (by omega)], i2, i3⟩
end Go.Proofs.Ytnpofjeiamjioaa
