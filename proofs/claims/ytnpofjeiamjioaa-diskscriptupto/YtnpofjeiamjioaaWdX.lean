/-
  StpF, WalkDisk.
-/
import Derived.Test.YtnpofjeiamjioaaSaX
import Derived.Test.YtnpofjeiamjioaaStpE
import Derived.Test.YtnpofjeiamjioaaStpD
import Derived.Test.YtnpofjeiamjioaaByX
import Derived.Test.YtnpofjeiamjioaaShown
namespace Go.Proofs.Ytnpofjeiamjioaa
open Go.RowKit Go.Maps

theorem step_any11 (W w : World) (B pb pc hb n : Nat) (p o : Pq) (vo vw : Value) (P : List Ls) (sz : Int) (h : T2 W B pb pc hb p o vo vw P sz w) (hs : Sz n p o P sz) (hn : n ≤ 1048576) (x : OpI) (da : Option Addr) (dc : Nat) (ka : Option Addr) (kc : Nat) (hx : StpI W B x da dc ka kc) :
    Calls Try.prog 9 #[.pointer (some ⟨pb, 0, none⟩), .agg (ptrs o.db o.rb), .pointer (some ⟨hb, 0, none⟩), .agg (opCells x da dc ka kc).toArray] w fun e w' => e = .returned (.bool true) ∧ StepP W B pb pc hb n o w' := by
  by_cases h0 : x.kind = 0
  · exact stp_do W w B pb pc hb n p o vo vw P sz h hs hn x da dc ka kc hx h0
  by_cases h1 : x.kind = 1
  · exact stp_files W w B pb pc hb n p o vo vw P sz h hs hn x da dc ka kc hx h1
  by_cases h2 : x.kind = 2
  · exact stp_crash W w B pb pc hb n p o vo vw P sz h hs hn x da dc ka kc hx h2
  by_cases h3 : x.kind = 3
  · exact stp_clone W w B pb pc hb n p o vo vw P sz h hs hn x da dc ka kc hx h3
  by_cases h4 : x.kind = 4
  · by_cases hz : chk p.q (o.L.map raw) = 0
    · exact stp_load1 W w B pb pc hb n p o vo vw P sz h hs hn x da dc ka kc hx h4 hz
    · exact stp_load0 W w B pb pc hb n p o vo vw P sz h hs hn x da dc ka kc hx h4 hz
  by_cases h5 : x.kind = 5
  · exact stp_spoil W w B pb pc hb n p o vo vw P sz h hs hn x da dc ka kc hx h5
  exact stp_none W w B pb pc hb n p o vo vw P sz h hs x da dc ka kc hx ⟨h0, h1, h2, h3, h4, h5⟩
end Go.Proofs.Ytnpofjeiamjioaa

namespace Go.Proofs.Ytnpofjeiamjioaa
open Go.RowKit Go.Maps

theorem info_op7 : (Try.prog.info? 42).map (·.size) = some 7 := by kernel_rfl
theorem under_op7 : Try.prog.underlying 42 = some (.struct (Try.prog.fieldsOf 42)) := by kernel_rfl
theorem within_iff {q : Int} : withinB q 1024 67108864 = true ↔ 1024 ≤ q ∧ q ≤ 67108864 := by simp [withinB]
theorem totO_mem {l : List OpI} {x : OpI} (h : x ∈ l) : x.act.data.length + x.keep.length + 1 ≤ totO l := by
  induction l with
  | nil => cases h
  | cons y l ih =>
    simp only [totO, List.map_cons, List.sum_cons] at ih ⊢
    rcases List.mem_cons.1 h with rfl | h
    · omega
    · have := ih h; omega
theorem ints_lowS {w : World} {a : Option Addr} {c : Nat} {l : List Int} (h : IsInts w a c l) (hl : l ≠ []) {b o : Nat} (e : a = some ⟨b, o, none⟩) : b < w.heap.size := by
  rcases l with _ | ⟨x, l⟩
  · exact absurd rfl hl
  · obtain ⟨b', o', e', hc⟩ := h.cell (j := 0) (x := x) rfl
    rw [e] at e'
    simp only [Option.some.injEq, Addr.mk.injEq, and_true] at e'
    obtain ⟨rfl, rfl⟩ := e'
    exact World.block_lt_of_cell? _ _ hc
/-- A pair that was made here. -/
theorem start_at {wa wb w8 : World} {B rb db mb lo : Nat} {q : Int} {vs : Int → Value} (d : DiskAt wa db mb q [] vs) (hd : Below wa.heap.size wa w8) (r : RfAt wb lo rb q (.slice none 0 0) []) (hr : Below wb.heap.size wb w8) (hB : B ≤ lo) (hrb : wa.heap.size ≤ rb ∧ B ≤ rb) (hm : ∀ k, Mine db mb [] vs k → B ≤ k) :
    (⟨db, mb, rb, q, [], vs, .slice none 0 0, []⟩ : Pq).At w8 B ∧ ∀ g, (⟨db, mb, rb, q, [], vs, .slice none 0 0, []⟩ : Pq).M g → Mine db mb [] vs g ∨ g = rb := by
  have nilB : ∀ {g : Nat}, RM rb (.slice none 0 0) [] g → g = rb := fun {g} e => by
    rcases e with e | e | ⟨_, hp, _⟩
    · exact e
    · cases e
    · cases hp
  refine ⟨⟨d.below hd, (r.later hr).monoB hB, rfl, fun g e e2 => ?_, fun g e => ?_⟩, fun g e => ?_⟩
  · have := d.lt e
    have := nilB e2
    omega
  · rcases e with e | e
    · exact hm g e
    · have := nilB e
      omega
  · rcases e with e | e
    · exact .inl e
    · exact .inr (nilB e)
set_option linter.unusedSimpArgs false in
set_option maxHeartbeats 8000000 in
set_option maxRecDepth 1000000 in
theorem walk11 (q r : Int) (a2 : Option Addr) (c2 : Nat) (l2 : List OpI) (w : World) (h2 : IsOps w a2 c2 l2) (n2 : totO l2 ≤ 1048576) (hA : withinB q 1024 67108864 = true) (hB : withinB r 1024 67108864 = true) :
    Calls Try.prog 3 #[.int .i64 q, .int .i64 r, .slice a2 l2.length c2] w fun e w' => e = .returned (.bool true) ∧ Below w.heap.size w w' := by
  have H2 := hideR h2
  have BE := hideR (beyondS_no w a2 c2 l2 h2 n2)
  have SH := hideR (shown_any w)
  have hn2 := totO_len l2
  have HN2 := hideR (And.intro (fun x (hx : x ∈ l2) => totO_mem hx) n2)
  have hcl2 : (l2.length : Int) ≤ 1048576 := by omega
  have HAB := hideR (And.intro hA hB)
  clear h2 n2 hA hB
  go_enter Try.func3, Try.ntmps3
  go_wp2_with fail
  refine BE.out.mono ?_
  rintro e w0 ⟨rfl, hw⟩
  have hw := hw.symm
  subst hw
  go_wp2_with fail
  refine SH.out.mono ?_
  rintro e w1 ⟨rfl, b1⟩
  have B1 := hideR b1
  clear b1
  go_wp2_with fail
  refine (new_any q w1).mono ?_
  rintro e w2 ⟨b2, hc⟩
  have B2 := hideR (B1.out.trans (b2.mono B1.out.size))
  have hs2 := b2.size
  have BB2 := hideR b2
  clear b2
  rcases hc with ⟨hc, _⟩ | ⟨_, dbA, mbA, vsA, rfl, dA, mA⟩
  · rw [HAB.out.1] at hc
    cases hc
  have D_A := hideR (And.intro dA mA)
  clear dA mA
  go_wp2_with fail
  refine (new_any r w2).mono ?_
  rintro e w3 ⟨b3, hc⟩
  have B3 := hideR (B2.out.trans (b3.mono B2.out.size))
  have hs3 := b3.size
  have BB3 := hideR b3
  clear b3
  rcases hc with ⟨hc, _⟩ | ⟨_, dbB, mbB, vsB, rfl, dB, mB⟩
  · rw [HAB.out.2] at hc
    cases hc
  have D_B := hideR (And.intro dB mB)
  clear dB mB
  have w4I := within_iff.1 HAB.out.1
  go_wp2_with fail
  refine (new_yes11 w3 q w4I.1 w4I.2).mono ?_
  rintro e w4 ⟨rfl, b4, r4⟩
  have R4 := hideR r4
  have B4 := hideR (B3.out.trans (b4.mono B3.out.size))
  have hs4 := b4.size
  have BB4 := hideR b4
  clear b4 r4 w4I
  have w5I := within_iff.1 HAB.out.2
  go_wp2_with fail
  refine (new_yes11 w4 r w5I.1 w5I.2).mono ?_
  rintro e w5 ⟨rfl, b5, r5⟩
  have R5 := hideR r5
  have B5 := hideR (B4.out.trans (b5.mono B4.out.size))
  have hs5 := b5.size
  have BB5 := hideR b5
  clear b5 r5 w5I
  have hs1 := B1.out.size
  go_upto_region 14 with fail
  obtain ⟨pb, hpb⟩ : ∃ pb, pb = w5.heap.size := ⟨_, rfl⟩
  obtain ⟨w6, hw6⟩ : ∃ X, X = w5.alloc (.cells #[.pointer (some ⟨dbA, 0, none⟩), .pointer (some ⟨w3.heap.size, 0, none⟩)] 33) := ⟨_, rfl⟩
  rw [← hw6, ← hpb]
  have z6 : w6.heap.size = w5.heap.size + 1 := by rw [hw6]; simp
  have x6 : w6.heap[pb]? = some (.cells (ptrs dbA w3.heap.size) 33 (0, 0)) := by rw [hw6, hpb]; exact heap_alloc_new w5 _
  have e6 : Below w5.heap.size w5 w6 := by rw [hw6]; exact (Below.refl _ w5).alloc (Nat.le_refl _) _
  have H6 := hideR (And.intro hpb (And.intro z6 (And.intro x6 e6)))
  clear hw6 hpb z6 x6 e6
  go_upto_region 15 with fail
  obtain ⟨pc, hpc⟩ : ∃ pc, pc = w6.heap.size := ⟨_, rfl⟩
  obtain ⟨w7, hw7⟩ : ∃ X, X = w6.alloc (.cells #[.pointer (some ⟨dbB, 0, none⟩), .pointer (some ⟨w4.heap.size, 0, none⟩)] 33) := ⟨_, rfl⟩
  rw [← hw7, ← hpc]
  have z7 : w7.heap.size = w6.heap.size + 1 := by rw [hw7]; simp
  have x7 : w7.heap[pc]? = some (.cells (ptrs dbB w4.heap.size) 33 (0, 0)) := by rw [hw7, hpc]; exact heap_alloc_new w6 _
  have e7 : Below w6.heap.size w6 w7 := by rw [hw7]; exact (Below.refl _ w6).alloc (Nat.le_refl _) _
  have H7 := hideR (And.intro hpc (And.intro z7 (And.intro x7 e7)))
  clear hw7 hpc z7 x7 e7
  go_upto_region 16 with fail
  obtain ⟨hb, hhb⟩ : ∃ hb, hb = w7.heap.size := ⟨_, rfl⟩
  obtain ⟨w8, hw8⟩ : ∃ X, X = w7.alloc (.cells #[.slice none 0 0, .slice none 0 0, .int .i64 0] 36) := ⟨_, rfl⟩
  rw [← hw8, ← hhb]
  have z8 : w8.heap.size = w7.heap.size + 1 := by rw [hw8]; simp
  have x8 : w8.heap[hb]? = some (.cells #[.slice none 0 0, .slice none 0 0, .int .i64 0] 36 (0, 0)) := by rw [hw8, hhb]; exact heap_alloc_new w7 _
  have e8 : Below w7.heap.size w7 w8 := by rw [hw8]; exact (Below.refl _ w7).alloc (Nat.le_refl _) _
  obtain ⟨hpb, z6, x6, e6⟩ := H6.out
  obtain ⟨hpc, z7, x7, e7⟩ := H7.out
  have e68 : Below w6.heap.size w6 w8 := e7.trans (e8.mono e7.size)
  have e58 : Below w5.heap.size w5 w8 := e6.trans (e68.mono e6.size)
  have e48 : Below w4.heap.size w4 w8 := BB5.out.trans (e58.mono BB5.out.size)
  have e38 : Below w3.heap.size w3 w8 := BB4.out.trans (e48.mono BB4.out.size)
  have e28 : Below w2.heap.size w2 w8 := BB3.out.trans (e38.mono BB3.out.size)
  have h3 := (Array.getElem?_eq_some_iff.1 R4.out.box).1
  have h4 := (Array.getElem?_eq_some_iff.1 R5.out.box).1
  obtain ⟨pA, mA⟩ := start_at (B := w.heap.size) D_A.out.1 e28 R4.out e48 (by omega) (by omega) (fun g e => by have := D_A.out.2 g e; omega)
  obtain ⟨pB, mB⟩ := start_at (B := w.heap.size) D_B.out.1 e38 R5.out e58 (by omega) (by omega) (fun g e => by have := D_B.out.2 g e; omega)
  have rA : ∀ g, (⟨dbA, mbA, w3.heap.size, q, [], vsA, .slice none 0 0, []⟩ : Pq).M g → (w1.heap.size ≤ g ∧ g < w2.heap.size) ∨ g = w3.heap.size := fun g e => by
    rcases mA g e with e | e
    · have := D_A.out.2 g e
      have := D_A.out.1.lt e
      omega
    · exact .inr e
  have rB : ∀ g, (⟨dbB, mbB, w4.heap.size, r, [], vsB, .slice none 0 0, []⟩ : Pq).M g → (w2.heap.size ≤ g ∧ g < w3.heap.size) ∨ g = w4.heap.size := fun g e => by
    rcases mB g e with e | e
    · have := D_B.out.2 g e
      have := D_B.out.1.lt e
      omega
    · exact .inr e
  have t8 : T2 w w.heap.size pb pc hb ⟨dbA, mbA, w3.heap.size, q, [], vsA, .slice none 0 0, []⟩ ⟨dbB, mbB, w4.heap.size, r, [], vsB, .slice none 0 0, []⟩ (.slice none 0 0) (.slice none 0 0) [] 0 w8 := by
    refine ⟨pA, pB, bk_nil x8 (by omega) _, fun g e => ?_, fun g e e2 => ?_, (e68.block _ (by omega)).trans x6, (e8.block _ (by omega)).trans x7, ⟨fun e => ?_, fun e => ?_, fun e => ?_⟩, ⟨fun e => ?_, fun e => ?_, fun e => ?_⟩, by omega, B5.out.trans (e58.mono B5.out.size), by have := B5.out.size; omega, ⟨by omega, by omega⟩⟩
    · have h0 := fdb_nil e
      exact ⟨fun e2 => by have := rA g e2; omega, fun e2 => by have := rB g e2; omega⟩
    · have := rA g e
      have := rB g e2
      omega
    · have := rA _ e; omega
    · have := rB _ e; omega
    · have := fdb_nil e; omega
    · have := rA _ e; omega
    · have := rB _ e; omega
    · have := fdb_nil e; omega
  have T8 := hideR t8
  clear hw8 hhb z8 x8 e8 hpb z6 x6 e6 hpc z7 x7 e7 e68 e58 e48 e38 e28 h3 h4 pA mA pB mB rA rB t8 H6 H7
  obtain ⟨N, hN⟩ : ∃ N, N = l2.length := ⟨_, rfl⟩
  have HN := hideR hN
  rw [← hN] at hcl2 hn2 ⊢
  have hN1 : N ≤ 1048576 := by have := HN2.out.2; omega
  clear hN hn2
  go_wp2_with fail
  go_loopg [18] N (fun gk s18 wr => ∃ (i : Nat) (p o : Pq) (vo vw : Value) (P : List Ls) (sz : Int), s18 = .int .i64 (i : Int) ∧ N - i ≤ gk ∧ i ≤ N ∧ HidR (T2 w w.heap.size pb pc hb p o vo vw P sz wr ∧ Sz i p o P sz))
  case atStart => exact ⟨0, _, _, _, _, [], 0, rfl, by omega, by omega, ⟨⟨T8.out, ⟨by simp, by simp, by simp, by simp [odb, skL], by omega⟩⟩⟩⟩
  case round =>
    clear T8 BE SH D_A D_B R4 R5
    obtain ⟨i, p, o, vo, vw, P, sz, rfl, hgk, hi, HS⟩ := hrel
    by_cases hlt : i < N
    · have tlt : (i : Int) < (N : Int) := by omega
      obtain ⟨x, hx⟩ : ∃ x, l2[i]? = some x := ⟨_, List.getElem?_eq_getElem (by have := HN.out; omega)⟩
      have hxm := HN2.out.1 x (List.mem_of_getElem? hx)
      have hx2 := HN2.out.2
      have hfit := H2.out.2.2.1 x (List.mem_of_getElem? hx)
      obtain ⟨bo, oo, ea, hbw, da, dc, ka, kc, hcell, hib, hii⟩ := H2.out.at hx
      subst ea
      have STI : HidR (StpI w w.heap.size x da dc ka kc) := ⟨⟨fun X hX => hib.below hX, fun X hX => intsLow hii hX, fun b o e hne => ints_lowS hii hne e, hfit, by omega, by omega⟩⟩
      have RNG : HidR (∀ X, Below w.heap.size w X → X.rangeAt bo (oo + i * 7) (opCells x da dc ka kc)) := ⟨fun X hX j v hj => (hX.cell (p := ⟨bo, oo + i * 7 + j, none⟩) hbw).trans (hcell j v hj)⟩
      have m0 : wr.cell? ⟨bo, oo + i * 7, none⟩ = some (.bool x.sec) := RNG.out wr HS.out.1.bw 0 _ rfl
      clear hx hxm hx2 hfit hbw hcell hib hii
      cases hsec : x.sec with
      | true =>
        rw [hsec] at m0
        have tl := HS.out.1.later (drawn wr)
        have SC := hideR (step_any11 w wr.drew w.heap.size pc pb hb i o p vo vw P sz ((tl).swap) ((HS.out.2).swap) (by omega) x da dc ka kc STI.out)
        have sq : (fun X : World => X.heap[pb]? = some (.cells (ptrs p.db p.rb) 33 (0, 0)) ∧ Below w.heap.size w X) wr.drew := ⟨tl.b1, tl.bw⟩
        clear tl hsec
        go_upto_region 21 with fail
        clear m0
        refine wp_region_held_drew (S := fun X => X.heap[pb]? = some (.cells (ptrs p.db p.rb) 33 (0, 0)) ∧ Below w.heap.size w X) (by kernel_rfl) sq (fun _ => ?_)
        refine H_take (i := 0) (v := .agg (ptrs p.db p.rb)) (some 90) rfl rfl (by kernel_rfl) (by kernel_rfl) (by kernel_rfl) (fun _ _ _ h => h) rfl (fun X hX => ?_) sq ?_
        · exact run_loadRow rfl rfl hX.1 under_pair rfl info_pair
        simp only [Act.put, List.setIfInBounds_toArray, List.set_cons_zero, List.set_cons_succ]
        refine H_take (i := 1) (v := .slice (some ⟨bo, oo, none⟩) N c2) (some 91) rfl rfl (by kernel_rfl) (by kernel_rfl) (by kernel_rfl) (fun _ _ _ h => h) rfl (fun X hX => ?_) sq ?_
        · simp [go_sem]
        simp only [Act.put, List.setIfInBounds_toArray, List.set_cons_zero, List.set_cons_succ]
        refine H_take (i := 2) (v := .int .i64 (i : Int)) (some 92) rfl rfl (by kernel_rfl) (by kernel_rfl) (by kernel_rfl) (fun _ _ _ h => h) rfl (fun X hX => ?_) sq ?_
        · simp [go_sem]
        simp only [Act.put, List.setIfInBounds_toArray, List.set_cons_zero, List.set_cons_succ]
        refine H_take (i := 3) (v := .pointer (some ⟨bo, oo + i * 7, none⟩)) (some 93) rfl rfl (by kernel_rfl) (by kernel_rfl) (by kernel_rfl) (fun _ _ _ h => h) rfl (fun X hX => ?_) sq ?_
        · go_simp
        simp only [Act.put, List.setIfInBounds_toArray, List.set_cons_zero, List.set_cons_succ]
        refine H_take (i := 4) (v := .agg (opCells x da dc ka kc).toArray) (some 94) rfl rfl (by kernel_rfl) (by kernel_rfl) (by kernel_rfl) (fun _ _ _ h => h) rfl (fun X hX => ?_) sq ?_
        · exact run_loadM rfl rfl (RNG.out X hX.2) under_op7 rfl info_op7
        simp only [Act.put, List.setIfInBounds_toArray, List.set_cons_zero, List.set_cons_succ]
        refine H_call (i := 5) (f := 9) (args := #[.pointer (some ⟨pc, 0, none⟩), .agg (ptrs p.db p.rb), .pointer (some ⟨hb, 0, none⟩), .agg (opCells x da dc ka kc).toArray]) (some 95) rfl rfl (by kernel_rfl) rfl (by simp [go_sem]) (SC.out.mono ?_)
        rintro e w6 ⟨rfl, p', vo', vw', P', sz', t6, s6⟩
        have sq6 : (fun X : World => X.heap[pb]? = some (.cells (ptrs p.db p.rb) 33 (0, 0)) ∧ Below w.heap.size w X) w6 := ⟨t6.b2, t6.bw⟩
        have T6 := hideR (And.intro (t6.swap) (s6.swap))
        have CH := hideR (fholds_any w6 w.heap.size hb vo' vw' P' sz' t6.bk.fd (t6.bk.eq trivial))
        clear t6 s6
        refine ⟨_, rfl, sq6, ?_⟩
        simp only [Act.put, List.setIfInBounds_toArray, List.set_cons_zero, List.set_cons_succ]
        refine H_take (i := 6) (v := .bool true) (some 19) rfl rfl (by kernel_rfl) (by kernel_rfl) (by kernel_rfl) (fun _ _ _ h => h) rfl (fun X hX => ?_) sq6 ?_
        · simp [go_sem]
        simp only [Act.put, List.setIfInBounds_toArray, List.set_cons_zero, List.set_cons_succ]
        refine wpAnyH_done (by kernel_rfl) ?_ _
        clear sq sq6
        go_wp2_with fail
        refine CH.out.mono ?_
        rintro e w7 ⟨rfl, m7, hm7⟩
        have b7 : Below w6.heap.size w6 w7 := by rw [hm7]; exact below_drewN (Below.refl _ w6) m7
        have T7 := hideR (And.intro (T6.out.1.later b7) T6.out.2)
        clear hm7 b7 CH
        go_wp2_with fail
        go_roundg (N - (i + 1))
        case measure => omega
        case rel => exact ⟨i + 1, p, p', vo', vw', P', sz', by go_num, Nat.le_refl _, hlt, T7⟩
      | false =>
        rw [hsec] at m0
        have tl := HS.out.1.later (drawn wr)
        have SC := hideR (step_any11 w wr.drew w.heap.size pb pc hb i p o vo vw P sz (tl) (HS.out.2) (by omega) x da dc ka kc STI.out)
        have sq : (fun X : World => X.heap[pc]? = some (.cells (ptrs o.db o.rb) 33 (0, 0)) ∧ Below w.heap.size w X) wr.drew := ⟨tl.b2, tl.bw⟩
        clear tl hsec
        go_upto_region 22 with fail
        clear m0
        refine wp_region_held_drew (S := fun X => X.heap[pc]? = some (.cells (ptrs o.db o.rb) 33 (0, 0)) ∧ Below w.heap.size w X) (by kernel_rfl) sq (fun _ => ?_)
        refine H_take (i := 0) (v := .agg (ptrs o.db o.rb)) (some 96) rfl rfl (by kernel_rfl) (by kernel_rfl) (by kernel_rfl) (fun _ _ _ h => h) rfl (fun X hX => ?_) sq ?_
        · exact run_loadRow rfl rfl hX.1 under_pair rfl info_pair
        simp only [Act.put, List.setIfInBounds_toArray, List.set_cons_zero, List.set_cons_succ]
        refine H_take (i := 1) (v := .slice (some ⟨bo, oo, none⟩) N c2) (some 97) rfl rfl (by kernel_rfl) (by kernel_rfl) (by kernel_rfl) (fun _ _ _ h => h) rfl (fun X hX => ?_) sq ?_
        · simp [go_sem]
        simp only [Act.put, List.setIfInBounds_toArray, List.set_cons_zero, List.set_cons_succ]
        refine H_take (i := 2) (v := .int .i64 (i : Int)) (some 98) rfl rfl (by kernel_rfl) (by kernel_rfl) (by kernel_rfl) (fun _ _ _ h => h) rfl (fun X hX => ?_) sq ?_
        · simp [go_sem]
        simp only [Act.put, List.setIfInBounds_toArray, List.set_cons_zero, List.set_cons_succ]
        refine H_take (i := 3) (v := .pointer (some ⟨bo, oo + i * 7, none⟩)) (some 99) rfl rfl (by kernel_rfl) (by kernel_rfl) (by kernel_rfl) (fun _ _ _ h => h) rfl (fun X hX => ?_) sq ?_
        · go_simp
        simp only [Act.put, List.setIfInBounds_toArray, List.set_cons_zero, List.set_cons_succ]
        refine H_take (i := 4) (v := .agg (opCells x da dc ka kc).toArray) (some 100) rfl rfl (by kernel_rfl) (by kernel_rfl) (by kernel_rfl) (fun _ _ _ h => h) rfl (fun X hX => ?_) sq ?_
        · exact run_loadM rfl rfl (RNG.out X hX.2) under_op7 rfl info_op7
        simp only [Act.put, List.setIfInBounds_toArray, List.set_cons_zero, List.set_cons_succ]
        refine H_call (i := 5) (f := 9) (args := #[.pointer (some ⟨pb, 0, none⟩), .agg (ptrs o.db o.rb), .pointer (some ⟨hb, 0, none⟩), .agg (opCells x da dc ka kc).toArray]) (some 101) rfl rfl (by kernel_rfl) rfl (by simp [go_sem]) (SC.out.mono ?_)
        rintro e w6 ⟨rfl, p', vo', vw', P', sz', t6, s6⟩
        have sq6 : (fun X : World => X.heap[pc]? = some (.cells (ptrs o.db o.rb) 33 (0, 0)) ∧ Below w.heap.size w X) w6 := ⟨t6.b2, t6.bw⟩
        have T6 := hideR (And.intro (t6) (s6))
        have CH := hideR (fholds_any w6 w.heap.size hb vo' vw' P' sz' t6.bk.fd (t6.bk.eq trivial))
        clear t6 s6
        refine ⟨_, rfl, sq6, ?_⟩
        simp only [Act.put, List.setIfInBounds_toArray, List.set_cons_zero, List.set_cons_succ]
        refine H_take (i := 6) (v := .bool true) (some 19) rfl rfl (by kernel_rfl) (by kernel_rfl) (by kernel_rfl) (fun _ _ _ h => h) rfl (fun X hX => ?_) sq6 ?_
        · simp [go_sem]
        simp only [Act.put, List.setIfInBounds_toArray, List.set_cons_zero, List.set_cons_succ]
        refine wpAnyH_done (by kernel_rfl) ?_ _
        clear sq sq6
        go_wp2_with fail
        refine CH.out.mono ?_
        rintro e w7 ⟨rfl, m7, hm7⟩
        have b7 : Below w6.heap.size w6 w7 := by rw [hm7]; exact below_drewN (Below.refl _ w6) m7
        have T7 := hideR (And.intro (T6.out.1.later b7) T6.out.2)
        clear hm7 b7 CH
        go_wp2_with fail
        go_roundg (N - (i + 1))
        case measure => omega
        case rel => exact ⟨i + 1, p', o, vo', vw', P', sz', by go_num, Nat.le_refl _, hlt, T7⟩
    · have tlt : ¬ (i : Int) < (N : Int) := by omega
      obtain ⟨t, z⟩ := HS.out
      have hlp := z.lp
      have hlo := z.lo
      have hbk := z.bk
      have hod := z.od
      have hhi := z.hi
      obtain ⟨k0, k1⟩ := t.cellsP
      have LK1 := hideR (t.lookC (by omega) (by omega))
      clear t z
      go_wp2_with fail
      refine LK1.out.mono ?_
      rintro e w9 ⟨rfl, hp⟩
      obtain ⟨vo9, vw9, sz9, P9, t9, l9, o9, _⟩ := HS.out.1.looks hp
      clear k0 k1 hp LK1
      obtain ⟨k0, k1⟩ := t9.swap.cellsP
      have LK2 := hideR (t9.swap.lookC (by omega) (by omega))
      have T9 := hideR t9
      clear t9
      go_wp2_with fail
      refine LK2.out.mono ?_
      rintro e wa ⟨rfl, hp⟩
      obtain ⟨voa, vwa, sza, Pa, ta, la, oa, _⟩ := T9.out.swap.looks hp
      clear k0 k1 hp LK2
      have SP := hideR (fspoil_any wa w.heap.size hb voa vwa Pa sza ta.bk.fd (ta.bk.ap trivial) (ta.bk.eq trivial) ta.hB (by omega) ta.fews (by omega))
      have TA := hideR ta
      clear ta
      go_wp2_with fail
      refine SP.out.mono ?_
      rintro e wb ⟨rfl, hp⟩
      obtain ⟨vob, vwb, Pb, szb, eb, lb⟩ := TA.out.spoilt hp
      clear hp SP
      obtain ⟨k0, k1⟩ := eb.swap.cellsP
      have LK3 := hideR (eb.swap.lookC (by omega) (by omega))
      have EB := hideR eb
      clear eb
      go_wp2_with fail
      refine LK3.out.mono ?_
      rintro e wc ⟨rfl, hp⟩
      obtain ⟨voc, vwc, szc, Pc, ec, lc⟩ := EB.out.swap.looks hp
      clear k0 k1 hp LK3
      obtain ⟨k0, k1⟩ := ec.swap.cellsP
      have LK4 := hideR (ec.swap.lookC (by omega) (by omega))
      have EC := hideR ec
      clear ec
      go_wp2_with fail
      refine LK4.out.mono ?_
      rintro e wd ⟨rfl, hp⟩
      obtain ⟨vod, vwd, szd, Pd, ed, _⟩ := EC.out.swap.looks hp
      have HE := hideR ed.bw
      clear hp LK4 k0 k1 ed
      go_wp2_with fail
      go_ret
      exact ⟨by simp, HE.out⟩
set_option linter.unusedSimpArgs false in
set_option maxHeartbeats 8000000 in
set_option maxRecDepth 1000000 in
theorem walk10 (q r : Int) (a2 : Option Addr) (c2 : Nat) (l2 : List OpI) (w : World) (h2 : IsOps w a2 c2 l2) (n2 : totO l2 ≤ 1048576) (hA : withinB q 1024 67108864 = true) (hB : withinB r 1024 67108864 = false) :
    Calls Try.prog 3 #[.int .i64 q, .int .i64 r, .slice a2 l2.length c2] w fun e w' => e = .returned (.bool true) ∧ Below w.heap.size w w' := by
  have H2 := hideR h2
  have BE := hideR (beyondS_no w a2 c2 l2 h2 n2)
  have SH := hideR (shown_any w)
  have hn2 := totO_len l2
  have HN2 := hideR (And.intro (fun x (hx : x ∈ l2) => totO_mem hx) n2)
  have hcl2 : (l2.length : Int) ≤ 1048576 := by omega
  have HAB := hideR (And.intro hA hB)
  clear h2 n2 hA hB
  go_enter Try.func3, Try.ntmps3
  go_wp2_with fail
  refine BE.out.mono ?_
  rintro e w0 ⟨rfl, hw⟩
  have hw := hw.symm
  subst hw
  go_wp2_with fail
  refine SH.out.mono ?_
  rintro e w1 ⟨rfl, b1⟩
  have B1 := hideR b1
  clear b1
  go_wp2_with fail
  refine (new_any q w1).mono ?_
  rintro e w2 ⟨b2, hc⟩
  have B2 := hideR (B1.out.trans (b2.mono B1.out.size))
  have hs2 := b2.size
  have BB2 := hideR b2
  clear b2
  rcases hc with ⟨hc, _⟩ | ⟨_, dbA, mbA, vsA, rfl, dA, mA⟩
  · rw [HAB.out.1] at hc
    cases hc
  have D_A := hideR (And.intro dA mA)
  clear dA mA
  go_wp2_with fail
  refine (new_any r w2).mono ?_
  rintro e w3 ⟨b3, hc⟩
  have B3 := hideR (B2.out.trans (b3.mono B2.out.size))
  have hs3 := b3.size
  have BB3 := hideR b3
  clear b3
  rcases hc with ⟨_, rfl⟩ | ⟨hc, _⟩
  case inr =>
    rw [HAB.out.2] at hc
    cases hc
  have w4I := within_iff.1 HAB.out.1
  go_wp2_with fail
  refine (new_yes11 w3 q w4I.1 w4I.2).mono ?_
  rintro e w4 ⟨rfl, b4, r4⟩
  have R4 := hideR r4
  have B4 := hideR (B3.out.trans (b4.mono B3.out.size))
  have hs4 := b4.size
  have BB4 := hideR b4
  clear b4 r4 w4I
  have w5I : r < 1024 ∨ 67108864 < r := by
    have h := HAB.out.2
    by_cases hh : 1024 ≤ r ∧ r ≤ 67108864
    · rw [within_iff.2 hh] at h
      cases h
    · omega
  have CN5 : HidR (Calls Try.prog 8 #[.int .i64 r] w4 fun e w' => e = .returned (.tuple #[.pointer none, .int .i64 110]) ∧ Below w4.heap.size w4 w') := ⟨(new_no11 w4 r w5I).mono (fun e w' h => ⟨h.1, by rw [h.2]; exact Below.refl _ _⟩)⟩
  clear w5I
  go_wp2_with fail
  refine CN5.out.mono ?_
  rintro e w5 ⟨rfl, b5⟩
  have B5 := hideR (B4.out.trans (b5.mono B4.out.size))
  have hs5 := b5.size
  have BB5 := hideR b5
  clear b5
  go_wp2_with fail
  go_ret
  exact ⟨rfl, B5.out⟩
set_option linter.unusedSimpArgs false in
set_option maxHeartbeats 8000000 in
set_option maxRecDepth 1000000 in
theorem walk01 (q r : Int) (a2 : Option Addr) (c2 : Nat) (l2 : List OpI) (w : World) (h2 : IsOps w a2 c2 l2) (n2 : totO l2 ≤ 1048576) (hA : withinB q 1024 67108864 = false) (hB : withinB r 1024 67108864 = true) :
    Calls Try.prog 3 #[.int .i64 q, .int .i64 r, .slice a2 l2.length c2] w fun e w' => e = .returned (.bool true) ∧ Below w.heap.size w w' := by
  have H2 := hideR h2
  have BE := hideR (beyondS_no w a2 c2 l2 h2 n2)
  have SH := hideR (shown_any w)
  have hn2 := totO_len l2
  have HN2 := hideR (And.intro (fun x (hx : x ∈ l2) => totO_mem hx) n2)
  have hcl2 : (l2.length : Int) ≤ 1048576 := by omega
  have HAB := hideR (And.intro hA hB)
  clear h2 n2 hA hB
  go_enter Try.func3, Try.ntmps3
  go_wp2_with fail
  refine BE.out.mono ?_
  rintro e w0 ⟨rfl, hw⟩
  have hw := hw.symm
  subst hw
  go_wp2_with fail
  refine SH.out.mono ?_
  rintro e w1 ⟨rfl, b1⟩
  have B1 := hideR b1
  clear b1
  go_wp2_with fail
  refine (new_any q w1).mono ?_
  rintro e w2 ⟨b2, hc⟩
  have B2 := hideR (B1.out.trans (b2.mono B1.out.size))
  have hs2 := b2.size
  have BB2 := hideR b2
  clear b2
  rcases hc with ⟨_, rfl⟩ | ⟨hc, _⟩
  case inr =>
    rw [HAB.out.1] at hc
    cases hc
  go_wp2_with fail
  refine (new_any r w2).mono ?_
  rintro e w3 ⟨b3, hc⟩
  have B3 := hideR (B2.out.trans (b3.mono B2.out.size))
  have hs3 := b3.size
  have BB3 := hideR b3
  clear b3
  rcases hc with ⟨hc, _⟩ | ⟨_, dbB, mbB, vsB, rfl, dB, mB⟩
  · rw [HAB.out.2] at hc
    cases hc
  have D_B := hideR (And.intro dB mB)
  clear dB mB
  have w4I : q < 1024 ∨ 67108864 < q := by
    have h := HAB.out.1
    by_cases hh : 1024 ≤ q ∧ q ≤ 67108864
    · rw [within_iff.2 hh] at h
      cases h
    · omega
  have CN4 : HidR (Calls Try.prog 8 #[.int .i64 q] w3 fun e w' => e = .returned (.tuple #[.pointer none, .int .i64 110]) ∧ Below w3.heap.size w3 w') := ⟨(new_no11 w3 q w4I).mono (fun e w' h => ⟨h.1, by rw [h.2]; exact Below.refl _ _⟩)⟩
  clear w4I
  go_wp2_with fail
  refine CN4.out.mono ?_
  rintro e w4 ⟨rfl, b4⟩
  have B4 := hideR (B3.out.trans (b4.mono B3.out.size))
  have hs4 := b4.size
  have BB4 := hideR b4
  clear b4
  have w5I := within_iff.1 HAB.out.2
  go_wp2_with fail
  refine (new_yes11 w4 r w5I.1 w5I.2).mono ?_
  rintro e w5 ⟨rfl, b5, r5⟩
  have R5 := hideR r5
  have B5 := hideR (B4.out.trans (b5.mono B4.out.size))
  have hs5 := b5.size
  have BB5 := hideR b5
  clear b5 r5 w5I
  go_wp2_with fail
  go_ret
  exact ⟨rfl, B5.out⟩
set_option linter.unusedSimpArgs false in
set_option maxHeartbeats 8000000 in
set_option maxRecDepth 1000000 in
theorem walk00 (q r : Int) (a2 : Option Addr) (c2 : Nat) (l2 : List OpI) (w : World) (h2 : IsOps w a2 c2 l2) (n2 : totO l2 ≤ 1048576) (hA : withinB q 1024 67108864 = false) (hB : withinB r 1024 67108864 = false) :
    Calls Try.prog 3 #[.int .i64 q, .int .i64 r, .slice a2 l2.length c2] w fun e w' => e = .returned (.bool true) ∧ Below w.heap.size w w' := by
  have H2 := hideR h2
  have BE := hideR (beyondS_no w a2 c2 l2 h2 n2)
  have SH := hideR (shown_any w)
  have hn2 := totO_len l2
  have HN2 := hideR (And.intro (fun x (hx : x ∈ l2) => totO_mem hx) n2)
  have hcl2 : (l2.length : Int) ≤ 1048576 := by omega
  have HAB := hideR (And.intro hA hB)
  clear h2 n2 hA hB
  go_enter Try.func3, Try.ntmps3
  go_wp2_with fail
  refine BE.out.mono ?_
  rintro e w0 ⟨rfl, hw⟩
  have hw := hw.symm
  subst hw
  go_wp2_with fail
  refine SH.out.mono ?_
  rintro e w1 ⟨rfl, b1⟩
  have B1 := hideR b1
  clear b1
  go_wp2_with fail
  refine (new_any q w1).mono ?_
  rintro e w2 ⟨b2, hc⟩
  have B2 := hideR (B1.out.trans (b2.mono B1.out.size))
  have hs2 := b2.size
  have BB2 := hideR b2
  clear b2
  rcases hc with ⟨_, rfl⟩ | ⟨hc, _⟩
  case inr =>
    rw [HAB.out.1] at hc
    cases hc
  go_wp2_with fail
  refine (new_any r w2).mono ?_
  rintro e w3 ⟨b3, hc⟩
  have B3 := hideR (B2.out.trans (b3.mono B2.out.size))
  have hs3 := b3.size
  have BB3 := hideR b3
  clear b3
  rcases hc with ⟨_, rfl⟩ | ⟨hc, _⟩
  case inr =>
    rw [HAB.out.2] at hc
    cases hc
  have w4I : q < 1024 ∨ 67108864 < q := by
    have h := HAB.out.1
    by_cases hh : 1024 ≤ q ∧ q ≤ 67108864
    · rw [within_iff.2 hh] at h
      cases h
    · omega
  have CN4 : HidR (Calls Try.prog 8 #[.int .i64 q] w3 fun e w' => e = .returned (.tuple #[.pointer none, .int .i64 110]) ∧ Below w3.heap.size w3 w') := ⟨(new_no11 w3 q w4I).mono (fun e w' h => ⟨h.1, by rw [h.2]; exact Below.refl _ _⟩)⟩
  clear w4I
  go_wp2_with fail
  refine CN4.out.mono ?_
  rintro e w4 ⟨rfl, b4⟩
  have B4 := hideR (B3.out.trans (b4.mono B3.out.size))
  have hs4 := b4.size
  have BB4 := hideR b4
  clear b4
  have w5I : r < 1024 ∨ 67108864 < r := by
    have h := HAB.out.2
    by_cases hh : 1024 ≤ r ∧ r ≤ 67108864
    · rw [within_iff.2 hh] at h
      cases h
    · omega
  have CN5 : HidR (Calls Try.prog 8 #[.int .i64 r] w4 fun e w' => e = .returned (.tuple #[.pointer none, .int .i64 110]) ∧ Below w4.heap.size w4 w') := ⟨(new_no11 w4 r w5I).mono (fun e w' h => ⟨h.1, by rw [h.2]; exact Below.refl _ _⟩)⟩
  clear w5I
  go_wp2_with fail
  refine CN5.out.mono ?_
  rintro e w5 ⟨rfl, b5⟩
  have B5 := hideR (B4.out.trans (b5.mono B4.out.size))
  have hs5 := b5.size
  have BB5 := hideR b5
  clear b5
  go_wp2_with fail
  go_ret
  exact ⟨rfl, B5.out⟩
theorem walk (q r : Int) (a2 : Option Addr) (c2 : Nat) (l2 : List OpI) (w : World) (_ : -9223372036854775808 ≤ q ∧ q ≤ 9223372036854775807) (_ : -9223372036854775808 ≤ r ∧ r ≤ 9223372036854775807) (h2 : IsOps w a2 c2 l2) (n2 : totO l2 ≤ 1048576) :
    Calls Try.prog 3 #[.int .i64 q, .int .i64 r, .slice a2 l2.length c2] w fun e w' => e = .returned (.bool true) ∧ Below w.heap.size w w' := by
  cases hA : withinB q 1024 67108864 with
  | true =>
    cases hB : withinB r 1024 67108864 with
    | true => exact walk11 q r a2 c2 l2 w h2 n2 hA hB
    | false => exact walk10 q r a2 c2 l2 w h2 n2 hA hB
  | false =>
    cases hB : withinB r 1024 67108864 with
    | true => exact walk01 q r a2 c2 l2 w h2 n2 hA hB
    | false => exact walk00 q r a2 c2 l2 w h2 n2 hA hB
end Go.Proofs.Ytnpofjeiamjioaa
