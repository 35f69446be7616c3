/-
  The walks of told, Get, firstOf, Ready, All.
-/
import Derived.Test.YtonfdmbcbfpgdaaYAdd0
import Derived.Test.YtonfdmbcbfpgdaaHeX
namespace Go.Proofs.Ytonfdmbcbfpgdaa
open Go.RowKit
theorem job_one (j : Jb) (a : Option Addr) (n c : Nat) : (j.cells (.slice a n c)).all (·.oneCell') = true := by
  simp [Jb.cells, Value.oneCell']
theorem ent_range {w : World} {b : Nat} {e : En} (h : w.heap[b]? = some (.cells e.cells 71 (0, 0))) : w.rangeAt b 0 (e.j.cells e.bv).toList := fun i v hv => by
  rw [Nat.zero_add]
  have hi : i < 16 := (List.getElem?_eq_some_iff.1 hv).1
  simp only [World.cell?, h]
  have : (e.cells)[i]? = (e.j.cells e.bv)[i]? := by
    show (e.j.cells e.bv ++ #[_, _])[i]? = _
    rw [Array.getElem?_append_left hi]
  simpa [this] using hv
set_option maxHeartbeats 4000000 in
set_option maxRecDepth 1000000 in
theorem told_any (e : En) (w : World) (a : Option Addr) (c : Nat) (hbv : e.bv = .slice a e.body.length c) (hb : IsBytes w a c e.body) (hl : e.body.length ≤ 140737488355328) :
    Calls Try.prog 27 #[.agg e.cells] w fun x w' => ∃ v, x = .returned (.agg (e.j.cells v)) ∧ Own w' w.heap.size v e.body ∧ Below w.heap.size w w' := by
  obtain ⟨eb, heb⟩ : ∃ eb, eb = w.heap.size := ⟨_, rfl⟩
  obtain ⟨w1, hw1⟩ : ∃ w1, w1 = w.alloc (.cells e.cells 71) := ⟨_, rfl⟩
  have B1 : Hid (Below w.heap.size w w1) := by rw [hw1]; exact (Below.refl _ w).alloc (Nat.le_refl _) _
  have R1 : Hid (w1.heap[eb]? = some (.cells e.cells 71 (0, 0)) ∧ w1.heap.size = eb + 1) := by
    rw [hw1, heb]; exact ⟨heap_alloc_new w _, by simp⟩
  have HW1 : Hid (w.alloc (.cells e.cells 71) = w1 ∧ w.heap.size = eb) := ⟨hw1.symm, heb.symm⟩
  have JO : Hid ((e.j.cells e.bv).all (·.oneCell') = true) := by rw [hbv]; exact job_one _ _ _ _
  have HB : Hid (e.bv = .slice a e.body.length c ∧ IsBytes w a c e.body) := ⟨hbv, hb⟩
  clear hw1 heb hb hbv
  go_enter Try.func27, Try.ntmps27
  go_upto_region 1 with fail
  obtain ⟨z, hz⟩ : ∃ z : Array Value, z = #[.int .i64 0, .int .i64 0, .int .i64 0, .int .i64 0, .int .i64 0, .int .i64 0, .int .i64 0, .int .i64 0, .int .i64 0, .int .i64 0, .int .i64 0, .int .i64 0, .int .i64 0, .int .i64 0, .string ⟨#[]⟩, .slice none 0 0] := ⟨_, rfl⟩
  have ZS : Hid (z.size = 16) := by
    have q : z.size = 16 := by rw [hz]; rfl
    exact q
  rw [HW1.out.1, HW1.out.2, ← hz]
  clear hz
  obtain ⟨w2, hw2⟩ : ∃ w2, w2 = w1.alloc (.cells z 41) := ⟨_, rfl⟩
  have B2 : Hid (Below w1.heap.size w1 w2) := by rw [hw2]; exact (Below.refl _ w1).alloc (Nat.le_refl _) _
  have R2 : Hid (w2.heap[eb + 1]? = some (.cells z 41 (0, 0)) ∧ w2.heap.size = eb + 2) := by
    have e1 := R1.out.2
    rw [hw2]; exact ⟨by rw [← e1]; exact heap_alloc_new w1 _, by simp; omega⟩
  rw [← hw2]
  clear hw2
  have RG : Hid (w2.rangeAt eb 0 (e.j.cells e.bv).toList) := ent_range ((B2.out.block eb (by have := R1.out.2; omega)).trans R1.out.1)
  obtain ⟨w3, hw3⟩ : ∃ w3, w3 = w2.alloc (.cells (e.j.cells e.bv) 41) := ⟨_, rfl⟩
  have B3 : Hid (Below w2.heap.size w2 w3) := by rw [hw3]; exact (Below.refl _ w2).alloc (Nat.le_refl _) _
  have J3 : Hid (JobBox w3 (eb + 2) e.j e.bv ∧ w3.heap.size = eb + 3) := by
    have e1 := R2.out.2
    rw [hw3]; exact ⟨by rw [← e1]; exact JobBox.new w2 e.j e.bv, by simp; omega⟩
  have HW3 : Hid (w2.alloc (.cells (e.j.cells e.bv) 41) = w3 ∧ w2.heap.size = eb + 2) := ⟨hw3.symm, R2.out.2⟩
  clear hw3
  go_upto_region 2 with (first
    | (refine wpList_load_mid rfl 41 (.tmp 4) rfl eb 0 rfl (e.j.cells e.bv).toList _ RG.out Try.underlying41 rfl (by rw [Array.length_toList]; exact job_size e.j e.bv) ?_; rw [Array.toArray_toList])
    | (refine wpList_store_new rfl 41 (.tmp 3) (.tmp 5) rfl (e.j.cells e.bv) rfl rfl 41 _ (job_size e.j e.bv) rfl JO.out ?_))
  rw [HW3.out.1, HW3.out.2]
  have q15 := J3.out.1.at.2.2.2.2
  have fz := J3.out.1.frozen
  have jlt := J3.out.1.lt
  have CL : Hid (Calls Try.prog 39 #[e.bv] w3 fun x w' => ∃ v', x = .returned v' ∧ Own w' w3.heap.size v' e.body ∧ Below w3.heap.size w3 w') := by
    rw [HB.out.1]
    exact clone_any a c e.body w3 (HB.out.2.below ((B1.out.trans (B2.out.mono B1.out.size)).trans (B3.out.mono (by have := B1.out.size; have := B2.out.size; omega)))) hl
  go_upto_region 3 with (first
    | (go_at_call 39; refine CL.out.mono ?_; rintro x w4 ⟨v4, rfl, o4, b4⟩; obtain ⟨a4, c4, e4, _⟩ := o4.shape; subst e4; have H4 : Hid (Own w4 w3.heap.size (.slice a4 e.body.length c4) e.body ∧ Below w3.heap.size w3 w4) := ⟨o4, b4⟩; have q4 := (b4.cell (p := ⟨eb + 2, 15, none⟩) jlt).trans q15; have f4 := fun k => (b4.frozen (p := ⟨eb + 2, k, none⟩) jlt).trans (fz k); have j4 := Nat.lt_of_lt_of_le jlt b4.size; clear o4 b4))
  obtain ⟨v, hv⟩ : ∃ v, v = Value.slice a4 e.body.length c4 := ⟨_, rfl⟩
  obtain ⟨w5, hw5⟩ : ∃ w5, w5 = w4.setCell ⟨eb + 2, 15, none⟩ v := ⟨_, rfl⟩
  have K5 : Hid (Kept (fun k => k = eb + 2) w4 w5) := by rw [hw5]; exact Kept.setCell _ w4 _ _ _ rfl
  have J5 : Hid (JobBox w5 (eb + 2) e.j v) := by rw [hw5]; exact (J3.out.1.later H4.out.2).setBody v
  have O5 : Hid (Own w5 w3.heap.size v e.body) := by
    have o4 := H4.out.1
    rw [← hv] at o4
    exact K5.out.own o4 (fun g hg h => by
      have h : g = eb + 2 := h
      have := (World.ownsRow.lt o4 g hg).1
      have := J3.out.2
      omega)
  have JO2 : Hid ((e.j.cells v).all (·.oneCell') = true) := by rw [hv]; exact job_one _ _ _ _
  have R5 : Hid (w5.heap[eb + 1]? = some (.cells z 41 (0, 0))) := by
    have s3 := B3.out.size
    have e2 := R2.out.2
    have e3 := J3.out.2
    have s4 := H4.out.2.size
    exact (K5.out.block (eb + 1) (by omega) (fun h => by have h : eb + 1 = eb + 2 := h; omega)).trans ((H4.out.2.block (eb + 1) (by omega)).trans ((B3.out.block (eb + 1) (by omega)).trans R2.out.1))
  rw [← hv, ← hw5]
  have HV : Hid (v = .slice a4 e.body.length c4) := hv
  clear hw5 hv q15 fz jlt q4 f4 j4
  go_wp2_with (first
    | (refine wpList_load_row rfl 41 (.tmp 3) rfl (eb + 2) rfl 41 (e.j.cells v) (0, 0) _ J5.out Try.underlying41 rfl (job_size e.j v) ?_)
    | (refine wpList_store_row rfl 41 (.tmp 2) (.tmp 10) rfl (eb + 1) (e.j.cells v) rfl rfl 41 z R5.out (job_size e.j v) ZS.out JO2.out ?_))
  have hrow : (w5.setRow (eb + 1) (e.j.cells v)).heap[eb + 1]? = some (.cells (e.j.cells v) 41 (0, 0)) := setRow_heap w5 (eb + 1) _ _ _ _ R5.out
  have k6 : Kept (fun k => k = eb + 1) w5 (w5.setRow (eb + 1) (e.j.cells v)) := ⟨rfl, rfl, rfl, by simp [World.setRow], fun k _ hk => setRow_other w5 (eb + 1) k _ hk⟩
  refine bodyPost_ret (v := .agg (e.j.cells v)) (results_cell_row (P := Try.prog) Try.results27 _ _ (eb + 1) 41 _ (0, 0) _ rfl hrow Try.underlying41 rfl (job_size e.j v)) rfl ⟨v, rfl, ?_, ?_⟩
  · refine Own.wide (B := w3.heap.size) (k6.own O5.out (fun g hg h => ?_)) (by have := B1.out.size; have := B2.out.size; have := B3.out.size; omega)
    have h : g = eb + 1 := h
    have := (World.ownsRow.lt O5.out g hg).1
    have := J3.out.2
    omega
  · have s1 := B1.out.size
    have s2 := B2.out.size
    have s3 := B3.out.size
    have e0 := HW1.out.2
    exact (((B1.out.trans (B2.out.mono s1)).trans (B3.out.mono (by omega))).trans (H4.out.2.mono (by omega))).trans ((K5.out.below (B := w.heap.size) (by have := H4.out.2.size; omega) (fun k hk h => by have h : k = eb + 2 := h; omega)).trans (k6.below (B := w.heap.size) (by have := H4.out.2.size; have := K5.out.size; omega) (fun k hk h => by have h : k = eb + 1 := h; omega)))
theorem zero_job (w : World) : (zeroValue 41).run Try.prog w = .ok (.agg (jb0.cells (.slice none 0 0))) w := by kernel_rfl
theorem results_cell_tmp_row {P : Program} {fn : Func} {p q : Tmp} {ty : TypeId} (h : fn.results = #[.cell p ty, .tmp q]) (tmps : Array Value) (w : World) (g : Nat) (t : TypeId) (cs : Array Value) (fr : Nat × Nat) (d : TypeDesc) (v : Value)
    (hp : tmps.getD p undef = .pointer (some ⟨g, 0, none⟩)) (hq : tmps.getD q undef = v) (hg : w.heap[g]? = some (.cells cs t fr))
    (hu : P.underlying ty = some d) (hd : (match d with | .struct _ | .array _ _ => true | _ => false) = true) (hi : (P.info? ty).map (·.size) = some cs.size) :
    (results fn tmps).run P w = .ok (.tuple #[.agg cs, v]) w := by
  have hp' : tmps[p]?.getD undef = .pointer (some ⟨g, 0, none⟩) := by simpa using hp
  have hq' : tmps[q]?.getD undef = v := by simpa using hq
  simp [results, h, hp', hq', asAddr, run_loadVar_row w g t ty cs fr d hg hu hd hi]
set_option maxHeartbeats 4000000 in
set_option maxRecDepth 1000000 in
theorem get_any (i : Int) (w : World) (lab : Nat → HK) (yb : Nat) (Y : Yd) (h : YAt w lab yb Y) (hi : I64 i) (hl : (lookD Y.L i).body.length ≤ 140737488355328) :
    Calls Try.prog 15 #[ptrV yb, .int .i64 i] w fun x w' => ∃ v, x = .returned (.tuple #[.agg ((lookD Y.L i).j.cells v), .bool (lookE Y.L i).isSome]) ∧ Own w' w.heap.size v (lookD Y.L i).body ∧ Below w.heap.size w w' := by
  obtain ⟨E, hE⟩ : ∃ E, E = lookD Y.L i := ⟨_, rfl⟩
  obtain ⟨bq, hbq⟩ : ∃ bq, bq = (lookE Y.L i).isSome := ⟨_, rfl⟩
  obtain ⟨d, r, hd, hr⟩ := h.two
  have y0 := (h.cells hd hr).1
  have ylt := h.yb_lt
  rw [← hE, ← hbq]
  rw [← hE] at hl
  obtain ⟨z, hz⟩ : ∃ z : Array Value, z = jb0.cells (.slice none 0 0) := ⟨_, rfl⟩
  have ZS : Hid (z.size = 16) := by
    have q : z.size = 16 := by rw [hz]; rfl
    exact q
  obtain ⟨rb, hrb⟩ : ∃ rb, rb = w.heap.size := ⟨_, rfl⟩
  obtain ⟨w1, hw1⟩ : ∃ w1, w1 = w.alloc (.cells z 41) := ⟨_, rfl⟩
  have B1 : Below w.heap.size w w1 := by rw [hw1]; exact (Below.refl _ w).alloc (Nat.le_refl _) _
  have R1 : Hid (w1.heap[rb]? = some (.cells z 41 (0, 0)) ∧ w1.heap.size = rb + 1) := by rw [hw1, hrb]; exact ⟨heap_alloc_new w _, by simp⟩
  have y01 := (B1.cell (p := ⟨yb, 0, none⟩) ylt).trans y0
  have ylt1 := Nat.lt_of_lt_of_le ylt B1.size
  have TJ : Hid (VTabI w1 Y.jm Y.L.length (fun i => (lookE Y.L i).map En.val)) := h.jobs.later B1
  obtain ⟨ea, ec, ee, eI⟩ := h.lookBody i
  rw [← hE] at ee eI
  have EO : Hid (E.cells.all (·.oneCell') = true) := by
    show (entA E.j E.bv E.t0 E.t1).all (·.oneCell') = true
    rw [ee]
    exact ent_one _ _ _ _ _ _
  have HE : Hid (E = lookD Y.L i ∧ bq = (lookE Y.L i).isSome) := ⟨hE, hbq⟩
  have HI : Hid (E.bv = .slice ea E.body.length ec ∧ IsBytes w ea ec E.body) := ⟨ee, eI⟩
  have HW1 : Hid (w.alloc (.cells #[.int .i64 0, .int .i64 0, .int .i64 0, .int .i64 0, .int .i64 0, .int .i64 0, .int .i64 0, .int .i64 0, .int .i64 0, .int .i64 0, .int .i64 0, .int .i64 0, .int .i64 0, .int .i64 0, .string ⟨#[]⟩, .slice none 0 0] 41) = w1 ∧ w.heap.size = rb) := ⟨by rw [hw1, hz]; rfl, hrb.symm⟩
  have BB : Hid (Below w.heap.size w w1) := B1
  clear hw1 hrb hz B1 hE hbq ee eI hd hr y0 ylt h
  go_enter Try.func15, Try.ntmps15
  go_upto_region 1 with fail
  rw [HW1.out.1, HW1.out.2]
  obtain ⟨w2, hw2⟩ : ∃ w2, w2 = w1.alloc (.cells E.cells 71) := ⟨_, rfl⟩
  have B2 : Hid (Below w1.heap.size w1 w2) := by rw [hw2]; exact (Below.refl _ w1).alloc (Nat.le_refl _) _
  have R2 : Hid (w2.heap[rb + 1]? = some (.cells E.cells 71 (0, 0)) ∧ w2.heap.size = rb + 2) := by
    have e1 := R1.out.2
    rw [hw2]; exact ⟨by rw [← e1]; exact heap_alloc_new w1 _, by simp; omega⟩
  have HW2 : Hid (w1.alloc (.cells E.cells 71) = w2 ∧ w1.heap.size = rb + 1) := ⟨hw2.symm, R1.out.2⟩
  clear hw2
  have ES : Hid ((Try.prog.info? 71).map (·.size) = some E.cells.size) := ent_size E.j E.bv E.t0 E.t1
  go_upto_region 2 with (first
    | (refine wpList_vlookI rfl (.tmp 12) (.tmp 13) 54 71 Try.underlying54 (zero_ent _) rfl Y.jm Y.L.length (fun i => (lookE Y.L i).map En.val) i rfl rfl TJ.out hi ?_; rw [lookD_val, Option.isSome_map, ← HE.out.1, ← HE.out.2, show E.val = .agg E.cells from rfl])
    | (refine wpList_store_new rfl 71 (.tmp 6) (.tmp 15) rfl E.cells rfl rfl 71 _ ES.out rfl EO.out ?_))
  rw [HW2.out.1, HW2.out.2]
  have CT : Hid (Calls Try.prog 27 #[.agg E.cells] w2 fun x w' => ∃ v, x = .returned (.agg (E.j.cells v)) ∧ Own w' w2.heap.size v E.body ∧ Below w2.heap.size w2 w') := told_any E w2 ea ec HI.out.1 (HI.out.2.below (BB.out.trans (B2.out.mono BB.out.size))) hl
  have s1 := BB.out.size
  have s2 := B2.out.size
  have HS : Hid (w.heap.size ≤ w1.heap.size ∧ w1.heap.size ≤ w2.heap.size) := ⟨s1, s2⟩
  clear s1 s2
  go_upto_region 3 with (first
    | (refine wpList_load_row rfl 71 (.tmp 6) rfl (rb + 1) rfl 71 E.cells (0, 0) _ R2.out.1 Try.underlying71 rfl ES.out ?_)
    | (go_at_call 27; refine CT.out.mono ?_; rintro x w3 ⟨v3, rfl, o3, b3⟩; obtain ⟨a3, c3, e3, _⟩ := o3.shape; have H3 : Hid (Own w3 w2.heap.size v3 E.body ∧ Below w2.heap.size w2 w3 ∧ v3 = .slice a3 E.body.length c3 ∧ w3.heap[rb]? = some (.cells z 41 (0, 0))) := ⟨o3, b3, e3, (b3.block rb (by have := R2.out.2; omega)).trans ((B2.out.block rb (by have := R1.out.2; omega)).trans R1.out.1)⟩; have JO : Hid ((E.j.cells v3).all (·.oneCell') = true) := (by rw [e3]; exact job_one _ _ _ _); clear o3 b3 e3)
    | (refine wpList_store_row rfl 41 (.tmp 4) (.tmp 18) rfl rb (E.j.cells v3) rfl rfl 41 z H3.out.2.2.2 (job_size E.j v3) ZS.out JO.out ?_))
  have hrow : (w3.setRow rb (E.j.cells v3)).heap[rb]? = some (.cells (E.j.cells v3) 41 (0, 0)) := setRow_heap w3 rb _ _ _ _ H3.out.2.2.2
  have k6 : Kept (fun k => k = rb) w3 (w3.setRow rb (E.j.cells v3)) := ⟨rfl, rfl, rfl, by simp [World.setRow], fun k _ hk => setRow_other w3 rb k _ hk⟩
  refine bodyPost_ret (v := .tuple #[.agg (E.j.cells v3), .bool bq]) (results_cell_tmp_row (P := Try.prog) Try.results15 _ _ rb 41 _ (0, 0) _ _ rfl rfl hrow Try.underlying41 rfl (job_size E.j v3)) rfl ⟨v3, rfl, ?_, ?_⟩
  · refine Own.wide (B := w2.heap.size) (k6.own H3.out.1 (fun g hg h => ?_)) (by have := HS.out; omega)
    have h : g = rb := h
    have := (World.ownsRow.lt H3.out.1 g hg).1
    have := R2.out.2
    omega
  · have s := HS.out
    have e0 := HW1.out.2
    exact ((BB.out.trans (B2.out.mono s.1)).trans (H3.out.2.1.mono (by omega))).trans (k6.below (B := w.heap.size) (by have := H3.out.2.1.size; omega) (fun k hk h => by have h : k = rb := h; omega))
set_option maxHeartbeats 2000000 in
set_option maxRecDepth 1000000 in
theorem firstOf_any (g : HM) (rk : Int) (w : World) (h : HeapAtM w g.hb g.v g.mb 32 rk g.last g.R) :
    Calls Try.prog 41 #[ptrV g.hb] w fun x w' => x = .returned (.int .i64 ((g.R.head?.map (fun r => r.2.id)).getD 0)) ∧ Below w.heap.size w w' := by
  have CT : Hid (Calls Try.prog 66 #[ptrV g.hb] w fun e w' => e = .returned (topOfM g.R) ∧ Below w.heap.size w w') := topM w g.hb g.mb g.v _ rk g.last g.R h
  obtain ⟨t, i, p, d, o, q, ht, hi⟩ : ∃ (t i p d o : Int) (q : Bool), topOfM g.R = .tuple #[.int .i64 t, .agg #[.int .i64 i, .int .i64 p, .int .i64 d, .int .i64 o], .bool q] ∧ (g.R.head?.map (fun r => r.2.id)).getD 0 = i := by
    unfold topOfM
    cases hR : g.R with
    | nil => exact ⟨0, 0, 0, 0, 0, false, rfl, rfl⟩
    | cons r R => exact ⟨r.1, r.2.id, r.2.pri, r.2.due, r.2.ord, true, rfl, rfl⟩
  rw [ht] at CT
  have HI : Hid ((g.R.head?.map (fun r => r.2.id)).getD 0 = i) := hi
  clear ht hi h
  go_enter Try.func41, Try.ntmps41
  go_wp2_with (first
    | (go_at_call 66; refine CT.out.mono ?_; rintro e w1 ⟨rfl, b1⟩; have B1 : Hid (Below w.heap.size w w1) := b1; have s1 := b1.size; clear b1))
  go_ret
  exact ⟨by rw [HI.out]; rfl, B1.out.trans (((Below.refl _ w1).alloc (Nat.le_refl _) _).mono s1)⟩
/-- The first one of a heap of a tube. -/
def fstOf (Y : Yd) (k : Nat) (t : ByteArray) : Int := match Y.hp (hkT k t) with | some h => (h.R.head?.map (fun r => r.2.id)).getD 0 | none => 0
set_option maxHeartbeats 2000000 in
set_option maxRecDepth 1000000 in
theorem ready_any (t : ByteArray) (w : World) (lab : Nat → HK) (yb : Nat) (Y : Yd) (h : YAt w lab yb Y) (ht : t.size ≤ maxLen) (hn : Y.tb t = none → Y.hp (hkT 0 t) = none) :
    Calls Try.prog 19 #[ptrV yb, .string t] w fun x w' => x = .returned (.int .i64 (fstOf Y 0 t)) ∧ Below w.heap.size w w' := by
  obtain ⟨d, r, hd, hr⟩ := h.two
  have y1 := (h.cells hd hr).2.1
  have ylt := h.yb_lt
  have TT : Hid (VTabS w Y.tm Y.nt (fun t => (Y.tb t).map ptrV)) := h.tubs
  cases hb : Y.tb t with
  | none =>
    have e0 : fstOf Y 0 t = 0 := by unfold fstOf; rw [hn hb]
    have HB : Hid (Y.tb t = none ∧ fstOf Y 0 t = 0) := ⟨hb, e0⟩
    clear hb e0 hn h hd hr
    go_enter Try.func19, Try.ntmps19
    go_wp2_with (first
      | (refine wpList_vlookS rfl (.tmp 11) (.tmp 12) 55 52 Try.underlying55 (zero_ptr _) rfl Y.tm Y.nt (fun t => (Y.tb t).map ptrV) t rfl rfl TT.out ht ?_; simp only [HB.out.1, Option.map_none, Option.getD_none, Option.isSome_none]))
    go_ret
    exact ⟨by rw [HB.out.2]; rfl, Below.refl _ _⟩
  | some b =>
    obtain ⟨h0, h1, h2, e0, e1, e2, blt, c0, c1, c2⟩ := h.tubeCells hb
    have hat := (h.heap _ _ e0).2.at_
    have CF : Hid (Calls Try.prog 41 #[ptrV h0.hb] w fun x w' => x = .returned (.int .i64 (fstOf Y 0 t)) ∧ Below w.heap.size w w') := by
      have := firstOf_any h0 _ w hat
      unfold fstOf
      rw [e0]
      exact this
    have HB : Hid (Y.tb t = some b) := hb
    clear hb hn h hd hr e0 e1 e2 hat c1 c2
    go_enter Try.func19, Try.ntmps19
    go_wp2_with (first
      | (refine wpList_vlookS rfl (.tmp 11) (.tmp 12) 55 52 Try.underlying55 (zero_ptr _) rfl Y.tm Y.nt (fun t => (Y.tb t).map ptrV) t rfl rfl TT.out ht ?_; simp only [HB.out, Option.map_some, Option.getD_some, Option.isSome_some])
      | (go_at_call 41; refine CF.out.mono ?_; rintro e w1 ⟨rfl, b1⟩; have B1 : Hid (Below w.heap.size w w1) := b1; clear b1))
    go_ret
    exact ⟨rfl, B1.out⟩
set_option maxHeartbeats 2000000 in
set_option maxRecDepth 1000000 in
theorem all_any (w : World) (lab : Nat → HK) (yb : Nat) (Y : Yd) (h : YAt w lab yb Y) :
    Calls Try.prog 20 #[ptrV yb] w fun x w' => x = .returned (.agg #[.int .i64 Y.sm.r, .int .i64 Y.sm.d, .int .i64 Y.sm.v, .int .i64 Y.sm.b, .int .i64 Y.sm.u]) ∧ Below w.heap.size w w' := by
  obtain ⟨d, r, hd, hr, hb⟩ := h.box
  have c5 := sums_cells (pre := [.map (some Y.jm), .map (some Y.tm), .map (some Y.hm), ptrV d.hb, ptrV r.hb]) hb 0 _ rfl
  have c6 := sums_cells (pre := [.map (some Y.jm), .map (some Y.tm), .map (some Y.hm), ptrV d.hb, ptrV r.hb]) hb 1 _ rfl
  have c7 := sums_cells (pre := [.map (some Y.jm), .map (some Y.tm), .map (some Y.hm), ptrV d.hb, ptrV r.hb]) hb 2 _ rfl
  have c8 := sums_cells (pre := [.map (some Y.jm), .map (some Y.tm), .map (some Y.hm), ptrV d.hb, ptrV r.hb]) hb 3 _ rfl
  have c9 := sums_cells (pre := [.map (some Y.jm), .map (some Y.tm), .map (some Y.hm), ptrV d.hb, ptrV r.hb]) hb 4 _ rfl
  have ylt := h.yb_lt
  simp only [List.length_cons, List.length_nil, Nat.zero_add, Nat.reduceAdd] at c5 c6 c7 c8 c9
  clear hb hd hr h
  go_enter Try.func20, Try.ntmps20
  go_wp2_with fail
  refine bodyPost_ret (v := .agg #[.int .i64 Y.sm.r, .int .i64 Y.sm.d, .int .i64 Y.sm.v, .int .i64 Y.sm.b, .int .i64 Y.sm.u]) (by simp [results, Try.results20, go_sem]) rfl ⟨rfl, ?_⟩
  exact (Below.refl _ _).alloc (Nat.le_refl _) _
end Go.Proofs.Ytonfdmbcbfpgdaa
