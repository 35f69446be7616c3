/-
  StpC, StpK.
-/
import Derived.Test.YtnpofjeiamjioaaSaX
import Derived.Test.YtnpofjeiamjioaaScX
namespace Go.Proofs.Ytnpofjeiamjioaa
open Go.RowKit Go.Maps

theorem cut_le (f : Fl) {L : List Fl} {q : Int} (h : Right q L) (hf : f ∈ L) : f.data.length ≤ 1073741823 := by have := len_le hf; have := h.fits; have := h.quota; omega
set_option linter.unusedSimpArgs false in
set_option maxHeartbeats 4000000 in
set_option maxRecDepth 1000000 in
theorem stp_clone (W w : World) (B pb pc hb n : Nat) (p o : Pq) (vo vw : Value) (P : List Ls) (sz : Int) (h : T2 W B pb pc hb p o vo vw P sz w) (hs : Sz n p o P sz) (hn : n ≤ 1048576) (x : OpI) (da : Option Addr) (dc : Nat) (ka : Option Addr) (kc : Nat) (hx : StpI W B x da dc ka kc) (hk : x.kind = 3) :
    Calls Try.prog 9 #[.pointer (some ⟨pb, 0, none⟩), .agg (ptrs o.db o.rb), .pointer (some ⟨hb, 0, none⟩), .agg (opCells x da dc ka kc).toArray] w fun e w' => e = .returned (.bool true) ∧ StepP W B pb pc hb n o w' := by
  obtain ⟨C, hC⟩ : ∃ C, C = (opCells x da dc ka kc).toArray := ⟨_, rfl⟩
  obtain ⟨O, hO⟩ : ∃ O, O = ptrs o.db o.rb := ⟨_, rfl⟩
  rw [← hC, ← hO]
  obtain ⟨w0, hw0⟩ : ∃ w0, w0 = (w.alloc (.cells O 33)).alloc (.cells C 42) := ⟨_, rfl⟩
  have b0 : Below w.heap.size w w0 := by rw [hw0]; exact ((Below.refl _ w).alloc (Nat.le_refl _) _).alloc (by simp) _
  obtain ⟨ob, hob⟩ : ∃ ob, ob = w.heap.size := ⟨_, rfl⟩
  obtain ⟨cb, hcb⟩ : ∃ cb, cb = w.heap.size + 1 := ⟨_, rfl⟩
  have xo : w0.heap[ob]? = some (.cells O 33 (0, 0)) := by
    rw [hw0, hob]
    exact (heap_alloc_old (w.alloc (.cells O 33)) _ (by simp)).trans (heap_alloc_new w _)
  have xc : w0.heap[cb]? = some (.cells C 42 (0, 0)) := by
    rw [hw0, hcb]
    have := heap_alloc_new (w.alloc (.cells O 33)) (.cells C 42)
    rw [World.size_alloc] at this
    exact this
  have hlow : ob = w.heap.size ∧ cb = w.heap.size + 1 ∧ w0.heap.size = w.heap.size + 2 := ⟨hob, hcb, by rw [hw0]; simp⟩
  have kc1 : w0.cell? ⟨cb, 1, none⟩ = some (.int .i64 x.kind) := by rw [hC] at xc; simp [World.cell?, xc, opCells]
  have t0 := h.later b0
  have T0 := hideR t0
  have HB0 := hideR b0
  have HLow := hideR hlow
  have HO := hideR hO
  have HC := hideR hC
  have HXO := hideR xo
  have HXC := hideR xc
  have HS := hideR hs
  have HX := hideR hx
  have HT := hideR h
  rw [hk] at kc1
  clear h hs hx t0 hO hC xo xc b0 hlow
  go_enter Try.func9, Try.ntmps9
  go_upto_region 1 with fail
  rw [← hw0, ← hcb, ← hob]
  clear hw0 hob hcb hk
  go_upto_region 12 with fail
  clear kc1
  have sq : (fun X : World => X.heap[ob]? = some (.cells O 33 (0, 0))) w0.drew := HXO.out
  have hoc : ∀ X : World, X.heap[ob]? = some (.cells O 33 (0, 0)) → X.cell? ⟨ob, 0, none⟩ = some (.pointer (some ⟨o.db, 0, none⟩)) ∧ X.cell? ⟨ob, 1, none⟩ = some (.pointer (some ⟨o.rb, 0, none⟩)) := fun X hX => by
    have e : O = ptrs o.db o.rb := HO.out
    subst e
    simp [World.cell?, hX, ptrs]
  have OC := hideR hoc
  have t1 := T0.out.later (drawn w0)
  have T1 := hideR t1
  have CD := hideR (clone_any11 w0.drew o.db o.mb o.q o.L o.vs t1.po.dk)
  clear t1 hoc
  refine wp_region_held_drew (S := fun X => X.heap[ob]? = some (.cells O 33 (0, 0))) (by kernel_rfl) sq (fun _ => ?_)
  refine H_take (i := 0) (v := .pointer (some ⟨pb, 0, none⟩)) (some 46) rfl rfl (by kernel_rfl) (by kernel_rfl) (by kernel_rfl) (fun _ _ _ h => h) rfl (fun X hX => ?_) sq ?_
  · simp [go_sem]
  simp only [Act.put, List.setIfInBounds_toArray, List.set_cons_zero, List.set_cons_succ]
  refine H_take (i := 1) (v := .pointer (some ⟨ob, 0, none⟩)) (some 47) rfl rfl (by kernel_rfl) (by kernel_rfl) (by kernel_rfl) (fun _ _ _ h => h) rfl (fun X hX => ?_) sq ?_
  · simp [go_sem]
  simp only [Act.put, List.setIfInBounds_toArray, List.set_cons_zero, List.set_cons_succ]
  refine H_take (i := 2) (v := .pointer (some ⟨o.db, 0, none⟩)) (some 48) rfl rfl (by kernel_rfl) (by kernel_rfl) (by kernel_rfl) (fun _ _ _ h => h) rfl (fun X hX => ?_) sq ?_
  · simp [go_sem, (OC.out X hX).1]
  simp only [Act.put, List.setIfInBounds_toArray, List.set_cons_zero, List.set_cons_succ]
  refine H_take (i := 4) (v := .pointer (some ⟨ob, 1, none⟩)) (some 50) rfl rfl (by kernel_rfl) (by kernel_rfl) (by kernel_rfl) (fun _ _ _ h => h) rfl (fun X hX => ?_) sq ?_
  · simp [go_sem]
  simp only [Act.put, List.setIfInBounds_toArray, List.set_cons_zero, List.set_cons_succ]
  refine H_take (i := 5) (v := .pointer (some ⟨o.rb, 0, none⟩)) (some 51) rfl rfl (by kernel_rfl) (by kernel_rfl) (by kernel_rfl) (fun _ _ _ h => h) rfl (fun X hX => ?_) sq ?_
  · simp [go_sem, (OC.out X hX).2]
  simp only [Act.put, List.setIfInBounds_toArray, List.set_cons_zero, List.set_cons_succ]
  refine H_call (i := 3) (f := 25) (args := #[.pointer (some ⟨o.db, 0, none⟩)]) (some 49) rfl rfl (by kernel_rfl) rfl (by simp [go_sem]) (CD.out.mono ?_)
  rintro e w2 ⟨b2, db', mb', vs', rfl, d2, m2⟩
  have hlt0 := (Array.getElem?_eq_some_iff.1 sq).1
  have sq2 : (fun X : World => X.heap[ob]? = some (.cells O 33 (0, 0))) w2 := (b2.block _ hlt0).trans sq
  have t2 := T1.out.later b2
  have CR := hideR (refClone_any11 w2 B o.rb o.q o.fv o.F t2.po.rf (by have := t2.po.len; have := HS.out.lo; omega) (fun y hy => by
    have hm : y.1 ∈ o.L := by rw [← t2.po.eq]; exact List.mem_map_of_mem hy
    exact cut_le _ t2.po.dk.right hm))
  have D2 := hideR (And.intro b2 (And.intro d2 m2))
  have T2' := hideR t2
  clear b2 d2 m2 t2 hlt0
  refine ⟨_, rfl, sq2, ?_⟩
  simp only [Act.put, List.setIfInBounds_toArray, List.set_cons_zero, List.set_cons_succ]
  refine H_call (i := 6) (f := 26) (args := #[.pointer (some ⟨o.rb, 0, none⟩)]) (some 52) rfl rfl (by kernel_rfl) rfl (by simp [go_sem]) (CR.out.mono ?_)
  rintro e w3 ⟨b3, rb', rfl, hrb, fv', G, r3, g3⟩
  have hlt0 := (Array.getElem?_eq_some_iff.1 sq2).1
  have sq3 : (fun X : World => X.heap[ob]? = some (.cells O 33 (0, 0))) w3 := (b3.block _ hlt0).trans sq2
  obtain ⟨b2, d2, m2⟩ := D2.out
  have hz0 : w.heap.size ≤ w0.drew.heap.size := by have := HLow.out.2.2; show _ ≤ w0.heap.size; omega
  have hz2 := b2.size
  have hBw := HT.out.hB
  have hp : (⟨db', mb', rb', o.q, o.L, vs', fv', G⟩ : Pq).At w3 B := by
    refine ⟨d2.below b3, r3.monoB (by omega), by rw [g3]; exact T2'.out.po.eq, fun g e e2 => ?_, fun g e => ?_⟩
    · have h1 := d2.lt e
      have h2 := r3.rge hrb e2
      omega
    · rcases e with e | e
      · have := m2 g e
        omega
      · have := r3.rge hrb e
        omega
  have hm : ∀ g, (⟨db', mb', rb', o.q, o.L, vs', fv', G⟩ : Pq).M g → w.heap.size ≤ g := fun g e => by
    rcases e with e | e
    · have := m2 g e
      omega
    · have := r3.rge hrb e
      omega
  have bw3 : Below w.heap.size w w3 := by
    have h1 : Below w.heap.size w w0.drew := HB0.out.drew
    exact h1.trans ((b2.trans (b3.mono hz2)).mono hz0)
  have t4 := HT.out.newP bw3 hp hm
  have T4 := hideR t4
  have hpb := (T2'.out.later b3).b1
  have hob3 : ob ≠ pb := fun e => by have := HT.out.lt.1; have := HLow.out.1; omega
  clear b3 r3 g3 d2 m2 b2 hp hm bw3 t4
  refine ⟨_, rfl, sq3, ?_⟩
  simp only [Act.put, List.setIfInBounds_toArray, List.set_cons_zero, List.set_cons_succ]
  refine H_take (i := 7) (v := .agg #[.pointer (some ⟨db', 0, none⟩), .pointer (some ⟨rb', 0, none⟩)]) (some 53) rfl rfl (by kernel_rfl) (by kernel_rfl) (by kernel_rfl) (fun _ _ _ h => h) rfl (fun X hX => ?_) sq3 ?_
  · exact run_build1 rfl (by kernel_rfl)
  simp only [Act.put, List.setIfInBounds_toArray, List.set_cons_zero, List.set_cons_succ]
  refine H_take (i := 8) (v := .pointer (some ⟨pb, 0, none⟩)) (some 54) rfl rfl (by kernel_rfl) (by kernel_rfl) (by kernel_rfl) (fun _ _ _ h => h) rfl (fun X hX => ?_) sq3 ?_
  · simp [go_sem]
  simp only [Act.put, List.setIfInBounds_toArray, List.set_cons_zero, List.set_cons_succ]
  have sq4 : (fun X : World => X.heap[ob]? = some (.cells O 33 (0, 0))) (w3.setRow pb (ptrs db' rb')) := ((setRow_kept w3 pb (ptrs db' rb')).block _ (Array.getElem?_eq_some_iff.1 sq3).1 (fun e => hob3 e)).trans sq3
  refine H_skip (i := 9) (w' := w3.setRow pb (ptrs db' rb')) rfl rfl (by kernel_rfl) rfl (run_storeRow rfl pb (ptrs db' rb') rfl rfl 33 p.cells hpb info_pair rfl (by simp [ptrs, Value.oneCell'])) sq4 ?_
  refine wpAnyH_done (by kernel_rfl) ?_ _
  have kk : (w3.setRow pb (ptrs db' rb')).cell? ⟨pb, 0, none⟩ = some (.pointer (some ⟨db', 0, none⟩)) := by
    have hx : (w3.setRow pb (ptrs db' rb')).heap[pb]? = some (.cells (ptrs db' rb') 33 (0, 0)) := T4.out.b1
    unfold World.cell?
    simp only [hx]
    rfl
  go_wp2_with fail
  go_ret
  exact ⟨rfl, _, vo, vw, P, sz, T4.out, HS.out.turn (by show o.L.length ≤ _; have := HS.out.lo; omega)⟩
end Go.Proofs.Ytnpofjeiamjioaa

namespace Go.Proofs.Ytnpofjeiamjioaa
open Go.RowKit Go.Maps

theorem cook_raws (L : List Fl) : (L.map raw).map cook = L := by
  rw [List.map_map]
  conv => rhs; rw [← List.map_id L]
  exact List.map_congr_left (fun f _ => cook_raw f)
theorem totR_raws (L : List Fl) : totR (L.map raw) = total L := by
  unfold totR total
  rw [List.map_map]
  rfl
/-- What was loaded, as a pair, some worlds later. -/
theorem LoadedP.at {w wl wl' wE : World} {B db mb rb : Nat} {q : Int} {L : List Fl} {vs : Int → Value} {fv : Value} {F : List (Fl × Value)} (hB : B ≤ w.heap.size) (hl : Below w.heap.size w wl) (pr : Pr wl' wl.heap.size db mb q ((L.map raw).map cook) vs rb fv F) (hE : Below wl'.heap.size wl' wE) :
    (⟨db, mb, rb, q, L, vs, fv, F⟩ : Pq).At wE B ∧ (∀ g, (⟨db, mb, rb, q, L, vs, fv, F⟩ : Pq).M g → wl.heap.size ≤ g) ∧ ∀ g, (⟨db, mb, rb, q, L, vs, fv, F⟩ : Pq).M g → g < wl'.heap.size := by
  rw [cook_raws] at pr
  have hs := hl.size
  have p2 := pr.later hE
  exact ⟨⟨p2.dk, p2.rf.monoB (by omega), p2.eq, p2.ap, fun g e => by have := p2.ge g e; omega⟩, fun g e => pr.ge g e, fun g e => pr.blt e⟩
end Go.Proofs.Ytnpofjeiamjioaa
