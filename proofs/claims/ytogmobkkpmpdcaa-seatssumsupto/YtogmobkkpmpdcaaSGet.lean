/-
  Get.
-/
import Derived.Test.YtogmobkkpmpdcaaSTold
namespace Go.Proofs.Ytogmobkkpmpdcaa
open Go.RowKit
theorem results_cell_tmp_row {P : Program} {fn : Func} {p q : Tmp} {ty : TypeId} (h : fn.results = #[.cell p ty, .tmp q]) (tmps : Array Value) (w : World) (g : Nat) (t : TypeId) (cs : Array Value) (fr : Nat × Nat) (d : TypeDesc) (v : Value)
    (hp : tmps.getD p undef = .pointer (some ⟨g, 0, none⟩)) (hq : tmps.getD q undef = v) (hg : w.heap[g]? = some (.cells cs t fr))
    (hu : P.underlying ty = some d) (hd : (match d with | .struct _ | .array _ _ => true | _ => false) = true) (hi : (P.info? ty).map (·.size) = some cs.size) :
    (results fn tmps).run P w = .ok (.tuple #[.agg cs, v]) w := by
  have hp' : tmps[p]?.getD undef = .pointer (some ⟨g, 0, none⟩) := by simpa using hp
  have hq' : tmps[q]?.getD undef = v := by simpa using hq
  simp [results, h, hp', hq', asAddr, run_loadVar_row w g t ty cs fr d hg hu hd hi]
/-- What a row has, wherever it lies. -/
theorem own_later {w w' : World} {B B' : Nat} {e : TypeId} {v : Value} {n : Nat} {xs : List Value} {P : Nat → Prop} (h : w.ownsRow B e 1 v n xs) (hk : Kept P w w') (hP : ∀ g, v.ownBlock = some g → ¬ P g) (hB : B' ≤ B) : w'.ownsRow B' e 1 v n xs := by
  have o3 := hk.own h hP
  refine ⟨o3.1, ?_⟩
  rcases o3.2 with h0 | ⟨g, cap, cur, hv, hg, rest⟩
  · exact .inl h0
  · exact .inr ⟨g, cap, cur, hv, Nat.le_trans hB hg, rest⟩
set_option maxHeartbeats 4000000 in
set_option maxRecDepth 1000000 in
theorem get_any (n : Int) (B : Nat) (w : World) (lab : Nat → Int) (sb : Nat) (S : Sx) (x : Cn) (L : List RowT) (h : SAt B w lab sb S) (hx : S.F n = some x) (hL : Listed x.g L) (hn : (Lit.int .i64 n).wf = true) (hN : x.n ≤ 1073741823) :
    Calls Try.prog 10 #[ptrV sb, .int .i64 n] w fun e w' => ∃ gb cap, e = .returned (.tuple #[.agg (seatA n x (.slice (some ⟨gb, 0, none⟩) L.length cap)), .bool true]) ∧ w'.ownsRow w.heap.size 9 1 (.slice (some ⟨gb, 0, none⟩) L.length cap) L.length (L.map fun r => encStr r.1) ∧ Below w.heap.size w w' := by
  obtain ⟨rb, hrb⟩ : ∃ rb, rb = w.heap.size := ⟨_, rfl⟩
  obtain ⟨w1, hw1⟩ : ∃ w1, w1 = w.alloc (.cells seat0 33) := ⟨_, rfl⟩
  have B1 : Below w.heap.size w w1 := by rw [hw1]; exact (Below.refl _ w).alloc (Nat.le_refl _) _
  have R1 : Hid (w1.heap[rb]? = some (.cells seat0 33 (0, 0)) ∧ Below w.heap.size w w1) := ⟨by rw [hw1, hrb]; exact heap_alloc_new w _, B1⟩
  have h1 := h.later B1
  have HW1 : Hid (w.alloc (.cells seat0 33) = w1 ∧ w.heap.size = rb) := ⟨hw1.symm, hrb.symm⟩
  have c0 := h1.cell0.1
  have slt := h1.lt
  have TB : Hid (VTabI w1 S.mb S.nn (fun i => (S.F i).map (fun x => ptrV x.blk))) := h1.tab
  have HF : Hid (S.F n = some x) := hx
  have CT : Hid (Calls Try.prog 29 #[ptrV x.blk, .int .i64 n] w1 fun e w' => ∃ c, e = .returned (.agg c) ∧ c.size = 7 ∧ c.all (·.oneCell') = true ∧ ∃ gb cap, c = seatA n x (.slice (some ⟨gb, 0, none⟩) L.length cap) ∧ w'.ownsRow w1.heap.size 9 1 (.slice (some ⟨gb, 0, none⟩) L.length cap) L.length (L.map fun r => encStr r.1) ∧ Below w1.heap.size w1 w') :=
    (told_any n w1 lab n x L (h1.each n x hx) hL hN).mono fun e w' ⟨gb, cap, e1, e2, e3⟩ => ⟨_, e1, rfl, by simp [seatA, Value.oneCell'], gb, cap, rfl, e2, e3⟩
  clear hrb hw1 B1 h1 h hx hL hN
  go_enter Try.func10, Try.ntmps10
  go_upto_region 1 with fail
  rw [HW1.out.1, HW1.out.2]
  go_wp2_with (first
    | (refine wpList_vlookI rfl (.tmp 12) (.tmp 13) 47 57 Try.underlying47 (zero_seat _) rfl S.mb S.nn (fun i => (S.F i).map (fun x => ptrV x.blk)) n rfl rfl TB.out hn ?_; simp only [HF.out, Option.map_some, Option.getD_some, Option.isSome_some])
    | (go_at_call 29; refine CT.out.mono ?_; rintro e w2 ⟨c2, rfl, z2, v2, r2⟩; have H2 : Hid ((Try.prog.info? 33).map (·.size) = some c2.size ∧ c2.size = 7 ∧ c2.all (·.oneCell') = true ∧ w2.heap[rb]? = some (.cells seat0 33 (0, 0)) ∧ ∃ gb cap, c2 = seatA n x (.slice (some ⟨gb, 0, none⟩) L.length cap) ∧ w2.ownsRow w1.heap.size 9 1 (.slice (some ⟨gb, 0, none⟩) L.length cap) L.length (L.map fun r => encStr r.1) ∧ Below w1.heap.size w1 w2) := ⟨(seat_size 0 x undef).trans (congrArg some (z2.symm)), z2, v2, (by obtain ⟨_, _, _, _, b2⟩ := r2; exact (b2.block rb (Array.getElem?_eq_some_iff.1 R1.out.1).1).trans R1.out.1), r2⟩; clear z2 v2 r2)
    | (refine wpList_store_row rfl 33 (.tmp 4) (.tmp 22) rfl rb c2 rfl rfl 33 seat0 H2.out.2.2.2.1 H2.out.1 H2.out.2.1.symm H2.out.2.2.1 ?_))
  obtain ⟨i2, z2, v2, R2, gb, cap, e2, o2, b2⟩ := H2.out
  have hrow : (w2.setRow rb c2).heap[rb]? = some (.cells c2 33 (0, 0)) := setRow_heap w2 rb _ _ _ _ R2
  have k3 : Kept (fun k => k = rb) w2 (w2.setRow rb c2) := ⟨rfl, rfl, rfl, by simp [World.setRow], fun k _ hk => setRow_other w2 rb k _ hk⟩
  have s1 := R1.out.2.size
  have e0 := HW1.out.2
  have l1 := (Array.getElem?_eq_some_iff.1 R1.out.1).1
  refine bodyPost_ret (v := .tuple #[.agg c2, .bool true]) (results_cell_tmp_row (P := Try.prog) Try.results10 _ _ rb 33 _ (0, 0) _ _ rfl rfl hrow Try.underlying33 rfl i2) rfl ⟨gb, cap, by rw [e2], ?_, ?_⟩
  · exact own_later o2 k3 (fun g hg e => by have e : g = rb := e; have := (World.ownsRow.lt o2 g hg).1; omega) s1
  · exact (R1.out.2.trans (b2.mono s1)).trans (k3.below (by have := b2.size; omega) (fun k hk e => by have e : k = rb := e; omega))
end Go.Proofs.Ytogmobkkpmpdcaa
