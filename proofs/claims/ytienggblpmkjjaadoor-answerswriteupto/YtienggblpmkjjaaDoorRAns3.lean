/-
  The walk of the document's Put.
-/
import Derived.Test.YtienggblpmkjjaaDoorRAns2
import Derived.Test.YtienggblpmkjjaaDoorRefPrint
import Derived.Test.YtienggblpmkjjaaDoorPutA
import Derived.Test.YtienggblpmkjjaaDoorXLent
import Derived.Test.YtienggblpmkjjaaDoorOwnX
import Derived.Test.YtienggblpmkjjaaDoorHand
import Derived.Deep.Cut
import Derived.Deep.RegionWith
namespace Go.Proofs.YtienggblpmkjjaaDoor
open Go.RowKit Go.Sort

def pieceR (r : Rp) (x : UInt8) : List UInt8 := 32 :: (if x = 84 then r.tube else decL (fieldV r x))
def piecesR (r : Rp) (l : List UInt8) : List UInt8 := (l.map (pieceR r)).flatten
theorem pieces_all (r : Rp) (hk : 1 ≤ r.kind ∧ r.kind ≤ 23) : piecesR r (fieldsR r.kind) = fieldsL r := by
  obtain ⟨k, id, num, tube, body⟩ := r
  have hk : 1 ≤ k ∧ k ≤ 23 := hk
  rcases kinds hk with rfl | rfl | rfl | rfl | rfl | rfl | rfl | rfl | rfl | rfl | rfl | rfl | rfl | rfl | rfl | rfl | rfl | rfl | rfl | rfl | rfl | rfl | rfl
  all_goals simp [piecesR, pieceR, fieldsR, fieldsL, fieldV, idOf, nuOf, boOf, tuOf]
theorem pieces_succ (r : Rp) (l : List UInt8) (j : Nat) (x : UInt8) (hx : l[j]? = some x) : piecesR r (l.take (j + 1)) = piecesR r (l.take j) ++ pieceR r x := by
  unfold piecesR
  rw [List.take_add_one, hx]
  simp
theorem piece_le (r : Rp) (hr : rightB r = true) (x : UInt8) (hx : x ∈ fieldsR r.kind) : (pieceR r x).length ≤ 201 := by
  obtain ⟨h1, h2, h3, h4, h5, h6, h7, h8⟩ := right_facts hr
  have hk24 : r.kind.toNat < 24 := by omega
  obtain ⟨t1, t2, t3, t4, t5, t6⟩ := table r.kind.toNat hk24
  unfold pieceR
  split
  · rename_i h84
    subst h84
    have ht : hasR r.kind 84 = true := by unfold hasR; simpa using hx
    rw [(table_has ⟨h1, h2⟩).2.2.2.1] at ht
    rw [if_pos ht] at h8
    unfold validB at h8
    simp only [Bool.and_eq_true, decide_eq_true_eq] at h8
    have := h8.1.1.2
    simp only [List.length_cons]
    omega
  · have : (decL (fieldV r x)).length ≤ 200 := by
      apply dec_short
      unfold fieldV
      split
      · omega
      · split
        · omega
        · omega
    simp only [List.length_cons]
    omega
theorem fields_in (k : Int) : ∀ x ∈ fieldsR k, x = 84 ∨ x = 73 ∨ x = 78 ∨ x = 66 := by
  unfold fieldsR
  repeat' split
  all_goals decide
theorem IsBytes.ofNew2 (w : World) (x y : UInt8) : IsBytes (w.alloc (.cells #[.int .u8 (x.toNat : Int), .int .u8 (y.toNat : Int)] 5)) (some ⟨w.heap.size, 0, none⟩) 2 [x, y] :=
  ByteRow.is (show ByteRow _ 5 w.heap.size [x, y] from heap_alloc_new _ _) 0 2 [x, y] (fun j z hj => by rw [Nat.zero_add]; exact hj) (by simp) (by unfold maxLen; decide)
theorem field_bounds (r : Rp) (hr : rightB r = true) (x : UInt8) : 0 ≤ fieldV r x ∧ fieldV r x ≤ 4611686018427387903 := by
  obtain ⟨h1, h2, h3, h4, h5, h6, h7, h8⟩ := right_facts hr
  have hk24 : r.kind.toNat < 24 := by omega
  obtain ⟨t1, t2, t3, t4, t5, t6⟩ := table r.kind.toNat hk24
  unfold fieldV
  split
  · constructor <;> omega
  · split
    · constructor <;> omega
    · constructor <;> omega
theorem run_exec_append {w w' : World} {o : Oper} {a : Act} {tx : TypeId} {v y v' : Value} (s x : Operand) (ho : o.op = .call { callee := .builtin .append, args := #[s, x], argTypes := #[22, tx] }) (hs : a.eval s = v) (hx : a.eval x = y)
    (hr : (Builtin.append_ #[22, tx] o.type #[v, y]).run Tryd.prog w = .ok v' w') : (execOp a.eval o).run Tryd.prog w = .ok (.value v') w' := by
  unfold execOp
  simp only [ho, resolve, invoke, builtin, Sem.run_bind, Sem.run_pure, Result.andThen_ok, List.map_toArray, List.map_cons, List.map_nil, hs, hx, hr]
theorem OwnC.ltB {w : World} {B : Nat} {v : Value} {l : List UInt8} (h : OwnC w B v l) (g : Nat) (hg : v.ownBlock = some g) : B ≤ g := (OwnX.lt (.inr h) g hg).1

set_option maxHeartbeats 4000000 in
set_option maxRecDepth 1000000 in
theorem refPut_any (w : World) (r : Rp) (a : Option Addr) (c : Nat) (hb : IsBytes w a c r.body) :
    Calls Tryd.prog 13 #[rpV r (.slice a r.body.length c)] w (PutPost r w) := by
  have CC : Hid (∀ w : World, Calls Tryd.prog 38 #[.agg #[.int .i64 r.kind, .int .i64 r.id, .int .i64 r.num, .string ⟨r.tube.toArray⟩, .slice a r.body.length c]] w fun x w' => x = .returned (.int .i64 (checkE r)) ∧ Below w.heap.size w w') := fun w => refCheck_any w r a c
  obtain ⟨ce, hce⟩ : ∃ ce, checkE r = ce := ⟨_, rfl⟩
  rw [hce] at CC
  have HCE := hide hce
  clear hce
  by_cases hz : ce = 0
  · subst hz
    have hr := check_right HCE.out
    have hf := right_facts hr
    have hk : 1 ≤ r.kind ∧ r.kind ≤ 23 := ⟨hf.1, hf.2.1⟩
    have hwr : wrdR r.kind = wordOf r.kind.toNat := by unfold wrdR; rw [if_pos hk]
    have hws : (wordOf r.kind.toNat).length ≤ 200 := wordOf_short _ (by omega)
    have hbl : r.body.length ≤ 4294967295 := by
      have := table r.kind.toNat (by omega)
      omega
    obtain ⟨ls, hls⟩ : ∃ ls, fieldsR r.kind = ls := ⟨_, rfl⟩
    have hll : ls.length ≤ 2 := by rw [← hls]; exact fields_short r.kind
    have PA : Hid (piecesR r ls = fieldsL r) := by rw [← hls]; exact pieces_all r hk
    have PLE : Hid (∀ x ∈ ls, (pieceR r x).length ≤ 201) := by rw [← hls]; exact piece_le r hr
    have LIN : Hid (∀ x ∈ ls, x = 84 ∨ x = 73 ∨ x = 78 ∨ x = 66) := by rw [← hls]; exact fields_in r.kind
    have FBN : Hid (∀ x, 0 ≤ fieldV r x ∧ fieldV r x ≤ 4611686018427387903) := field_bounds r hr
    have CW : Hid (∀ w, Calls Tryd.prog 39 #[.int .i64 r.kind] w fun e w' => e = .returned (.string ⟨(wordOf r.kind.toNat).toArray⟩) ∧ Below w.heap.size w w') := by
      rw [← hwr]
      exact fun w => refWord_any r.kind w
    have CFS : Hid (∀ w, Calls Tryd.prog 40 #[.int .i64 r.kind] w fun e w' => e = .returned (.string ⟨ls.toArray⟩) ∧ w' = w) := by
      rw [← hls]
      exact fun w => refFields_any r.kind w
    have CF : Hid (∀ (x : UInt8), x = 73 ∨ x = 78 ∨ x = 66 → ∀ w, Calls Tryd.prog 42 #[.agg #[.int .i64 r.kind, .int .i64 r.id, .int .i64 r.num, .string ⟨r.tube.toArray⟩, .slice a r.body.length c], .int .u8 x.toNat] w fun e w' => e = .returned (.int .i64 (fieldV r x)) ∧ Below w.heap.size w w') := fun x hx w => refField_any r a c x hx w
    have CP : Hid (∀ (x : UInt8) (w : World), Calls Tryd.prog 41 #[.int .i64 (fieldV r x)] w fun e w' => e = .returned (.string ⟨(decL (fieldV r x)).toArray⟩) ∧ Below w.heap.size w w') := fun x w => by
      have h := FBN.out x
      have := refPrint_any (fieldV r x) w (by omega) (by omega)
      rw [print_dec h.1] at this
      exact this
    have hhas : hasR r.kind 66 = decide (0 < boOf r.kind.toNat) := (table_has hk).2.2.1
    have CH : Hid (∀ (w : World), Calls Tryd.prog 43 #[.int .i64 r.kind, .int .u8 66] w fun e w' => e = .returned (.bool (decide (0 < boOf r.kind.toNat))) ∧ w' = w) := by
      rw [← hhas]
      exact fun w => refHas_any r.kind 66 w
    obtain ⟨W0, hW0⟩ : ∃ W0, wordOf r.kind.toNat = W0 := ⟨_, rfl⟩
    have PL : Hid (putL r = W0 ++ piecesR r ls ++ [13, 10] ++ (if 0 < boOf r.kind.toNat then r.body ++ [13, 10] else [])) := by
      rw [PA.out, ← hW0]
      rfl
    obtain ⟨hasB, hhb⟩ : ∃ b, b = decide (0 < boOf r.kind.toNat) := ⟨_, rfl⟩
    have PL2 : Hid (putL r = W0 ++ piecesR r ls ++ [13, 10] ++ (if hasB then r.body ++ [13, 10] else [])) := by
      show putL r = _
      rw [PL.out, hhb]
      simp
    rw [← hhb] at CH
    rw [hW0] at CW hws
    have PIE : Hid (∀ j x, ls[j]? = some x → piecesR r (ls.take (j + 1)) = piecesR r (ls.take j) ++ pieceR r x) := pieces_succ r ls
    have PLN : Hid (∀ j, j ≤ 2 → (piecesR r (ls.take j)).length ≤ 201 * j) := by
      intro j
      induction j with
      | zero => intro _; simp [piecesR]
      | succ j ih =>
        intro hj
        by_cases hjl : j < ls.length
        · rw [PIE.out j ls[j] (List.getElem?_eq_getElem hjl), List.length_append]
          have := ih (by omega)
          have := PLE.out ls[j] (List.getElem_mem hjl)
          omega
        · rw [List.take_of_length_le (by omega)]
          have := ih (by omega)
          rw [List.take_of_length_le (by omega)] at this
          omega
    have PT : Hid (pieceR r 84 = 32 :: r.tube) := rfl
    have PN : Hid (∀ x, x = 73 ∨ x = 78 ∨ x = 66 → pieceR r x = 32 :: decL (fieldV r x)) := fun x hx => by
      unfold pieceR
      rw [if_neg (by rcases hx with rfl | rfl | rfl <;> decide)]
    have PA0 : Hid (piecesR r (ls.take 0) = []) := by show _ = _; simp [piecesR]
    clear hr hf hk hwr hls PA hhas hW0 PL hhb FBN
    unfold rpV
    obtain ⟨w0, hw0⟩ : ∃ w0, w0 = w.alloc (.cells #[.int .i64 r.kind, .int .i64 r.id, .int .i64 r.num, .string ⟨r.tube.toArray⟩, .slice a r.body.length c] 24) := ⟨_, rfl⟩
    obtain ⟨pb, hpb⟩ : ∃ pb, pb = w.heap.size := ⟨_, rfl⟩
    have B0 : Hid (Below w.heap.size w w0) := by rw [hw0]; exact (Below.refl _ w).alloc (Nat.le_refl _) _
    have G0 : Hid (w0.heap[pb]? = some (.cells #[.int .i64 r.kind, .int .i64 r.id, .int .i64 r.num, .string ⟨r.tube.toArray⟩, .slice a r.body.length c] 24 (0, 0))) := by rw [hw0, hpb]; exact heap_alloc_new _ _
    have I0 : Hid (IsBytes w0 a c r.body) := hb.below B0.out
    have HW0 := hide (And.intro hw0 hpb)
    clear hw0 hpb hb
    obtain ⟨lb, hlb⟩ : ∃ lb : ByteArray, lb = ⟨ls.toArray⟩ := ⟨_, rfl⟩
    rw [← hlb] at CFS
    have hlz : lb.size ≤ 2 := by rw [hlb]; exact hll
    have HLB : Hid (∀ (j : Nat) (h : j < lb.size), ls[j]? = some lb[j] ∧ lb[j] ∈ ls) := by
      intro j h
      subst hlb
      have hj : j < ls.length := h
      exact ⟨List.getElem?_eq_getElem hj, List.getElem_mem hj⟩
    have HLE : Hid (∀ j, ¬ j < lb.size → ls.take j = ls) := by
      intro j h
      subst hlb
      have hj : ¬ j < ls.length := h
      exact List.take_of_length_le (by omega)
    clear hlb
    obtain ⟨wb, hwb⟩ : ∃ wb : ByteArray, wb = ⟨W0.toArray⟩ := ⟨_, rfl⟩
    rw [← hwb] at CW
    have HWB : Hid (wb.data.toList = W0 ∧ wb.size = W0.length) := by rw [hwb]; exact ⟨by simp, rfl⟩
    clear hwb
    go_enter Tryd.func13, Tryd.ntmps13
    go_upto_region 1 with fail
    rw [← HW0.out.1, ← HW0.out.2]
    clear HW0
    have c0 := cells_at G0.out (i := 0) rfl
    have c1 := cells_at G0.out (i := 1) rfl
    have c2 := cells_at G0.out (i := 2) rfl
    have c3 := cells_at G0.out (i := 3) rfl
    have c4 := cells_at G0.out (i := 4) rfl
    simp only [List.getElem_toArray, List.getElem_cons_zero, List.getElem_cons_succ] at c0 c1 c2 c3 c4
    have hlt := cell_lt c0
    go_upto_region 4 with (go_at_call 38; refine (CC.out _).mono ?_; rintro e w1 ⟨rfl, b1⟩; have B1 := hide b1; clear b1)
    have d0 := (B1.out.cell (p := ⟨pb, 0, none⟩) hlt).trans c0
    have hlt1 := cell_lt d0
    clear CC
    have hwbs : wb.size ≤ 200 := by rw [HWB.out.2]; exact hws
    go_upto_region 5 with (go_at_call 39; refine (CW.out _).mono ?_; rintro e w2 ⟨rfl, b2⟩; have B2 := hide b2; obtain ⟨a9, c9, w3, hr9, o9, b9⟩ := conv_bytes w2 wb (by unfold maxLen; omega); have O9 := hide o9; have B9 := hide b9; clear b2 o9 b9)
    have B03 : Hid (Below w0.heap.size w0 w3) := B1.out.trans ((B2.out.trans (B9.out.mono B2.out.size)).mono B1.out.size)
    have OW : Hid (OwnC w3 w0.heap.size (.slice a9 wb.size c9) (W0 ++ piecesR r (ls.take 0))) := by
      have h := O9.out
      rw [HWB.out.1] at h
      rw [PA0.out, List.append_nil]
      exact h.mono (by have := B1.out.size; have := B2.out.size; omega)
    have e0 := (B03.out.cell (p := ⟨pb, 0, none⟩) hlt).trans c0
    have hlt3 := cell_lt e0
    clear d0 hlt1 B1 B2 B9 O9 hr9 CW HWB hwbs PA0
    go_wp2_with (go_at_call 40; refine (CFS.out _).mono ?_; rintro e w4 ⟨rfl, rfl⟩)
    clear e0 hlt3
    go_loopw [5, 7] (fun v i wr => ∃ j : Nat, j ≤ lb.size ∧ i = .int .i64 j ∧ Hid (OwnC wr w0.heap.size v (W0 ++ piecesR r (ls.take j))) ∧ Hid (Below w0.heap.size w0 wr)) (fun _ i _ => lb.size - (intOf i).toNat)
    case atStart => exact ⟨0, by omega, rfl, OW, B03⟩
    case round =>
      obtain ⟨j, hj, rfl, OJ, BJ⟩ := hrel
      clear OW B03 CFS
      have f0 := (BJ.out.cell (p := ⟨pb, 0, none⟩) hlt).trans c0
      have f1 := (BJ.out.cell (p := ⟨pb, 1, none⟩) hlt).trans c1
      have f2 := (BJ.out.cell (p := ⟨pb, 2, none⟩) hlt).trans c2
      have f3 := (BJ.out.cell (p := ⟨pb, 3, none⟩) hlt).trans c3
      have f4 := (BJ.out.cell (p := ⟨pb, 4, none⟩) hlt).trans c4
      have hltj := cell_lt f0
      have hzj := BJ.out.size
      have hpl := PLN.out j (by omega)
      have OWL : Hid ((W0 ++ piecesR r (ls.take j)).length ≤ 1000) := by show _ ≤ _; rw [List.length_append]; omega
      have hz32 : w0.heap.size ≤ (wr.alloc (.cells #[.int .u8 32] 5)).heap.size := by simp; omega
      have OA : Hid (OwnC (wr.alloc (.cells #[.int .u8 32] 5)) w0.heap.size u5 (W0 ++ piecesR r (ls.take j))) := OJ.out.below ((Below.refl _ wr).alloc (Nat.le_refl _) _)
      by_cases hp : j < lb.size
      · obtain ⟨hl1, hl2⟩ := HLB.out j hp
        have hin := LIN.out _ hl2
        have PJ := hide (PIE.out j _ hl1)
        have hpj := PLE.out _ hl2
        have BA : Hid (Below w0.heap.size w0 (wr.alloc (.cells #[.int .u8 32] 5))) := BJ.out.alloc hzj _
        clear hl1 hl2 HLE PIE PLN LIN CH
        by_cases hx : lb[j] = 84
        · have hxb : ((lb[j].toNat : Int) == 84) = true := by rw [hx]; rfl
          have PJ2 : Hid (piecesR r (ls.take (j + 1)) = piecesR r (ls.take j) ++ 32 :: r.tube) := by show _ = _; rw [PJ.out, hx, PT.out]
          have htl : r.tube.length ≤ 200 := by rw [hx, PT.out, List.length_cons] at hpj; omega
          clear hx hin hpj PJ
          go_upto_region 10 with (refine wpList_appendBC rfl (.tmp 26) (.tmp 27) rfl w0.heap.size u5 _ rfl OA.out (some ⟨wr.heap.size, 0, none⟩) 1 1 [32] rfl rfl (Own.ofNew wr 32) (by have := OWL.out; simp only [List.length_singleton]; omega) hz32 ?_; intro v4 w4 own4 gr4; have OWN4 := hide own4; have BE4 : Hid (Below w0.heap.size w0 w4) := BA.out.grown gr4 hz32 (fun g hg => OA.out.ltB g hg); clear own4 gr4)
          have g3 := (BE4.out.cell (p := ⟨pb, 3, none⟩) hlt).trans c3
          have hlt4 := cell_lt g3
          have hz4 := BE4.out.size
          clear f0 f1 f2 f3 f4 hltj OA BA OJ
          go_wp2_with (refine wpList_appendTC rfl (.tmp 33) (.tmp 35) rfl w0.heap.size v4 _ rfl OWN4.out ⟨r.tube.toArray⟩ rfl (by have := OWL.out; simp at this ⊢; omega) hz4 ?_; intro v5 w5 own5 gr5; have OWN5 := hide own5; have BE5 : Hid (Below w0.heap.size w0 w5) := BE4.out.grown gr5 hz4 (fun g hg => OWN4.out.ltB g hg); clear own5 gr5)
          go_roundw
          case rel =>
            refine ⟨j + 1, by omega, by go_num, ?_, BE5⟩
            have h := OWN5.out
            show OwnC _ _ _ _
            rw [PJ2.out]
            simpa using h
          case measure => simp [intOf]; omega
        · have hin2 : lb[j] = 73 ∨ lb[j] = 78 ∨ lb[j] = 66 := hin.resolve_left hx
          have hxb : ((lb[j].toNat : Int) == 84) = false := by
            rcases hin2 with h | h | h <;> rw [h] <;> rfl
          have PJ2 : Hid (piecesR r (ls.take (j + 1)) = piecesR r (ls.take j) ++ 32 :: decL (fieldV r lb[j])) := by show _ = _; rw [PJ.out, PN.out _ hin2]
          have htl : (decL (fieldV r lb[j])).length ≤ 200 := by rw [PN.out _ hin2, List.length_cons] at hpj; omega
          have CF2 := hide (CF.out lb[j] hin2)
          have CP2 := hide (CP.out lb[j])
          clear hx hin hin2 hpj PJ CF CP PN PT
          generalize fieldV r lb[j] = fv at *
          obtain ⟨dl, hdl⟩ : ∃ dl, decL fv = dl := ⟨_, rfl⟩
          rw [hdl] at PJ2 htl CP2
          clear hdl
          go_upto_region 10 with (refine wpList_appendBC rfl (.tmp 26) (.tmp 27) rfl w0.heap.size u5 _ rfl OA.out (some ⟨wr.heap.size, 0, none⟩) 1 1 [32] rfl rfl (Own.ofNew wr 32) (by have := OWL.out; simp only [List.length_singleton]; omega) hz32 ?_; intro v4 w4 own4 gr4; have OWN4 := hide own4; have BE4 : Hid (Below w0.heap.size w0 w4) := BA.out.grown gr4 hz32 (fun g hg => OA.out.ltB g hg); clear own4 gr4)
          have g0 := (BE4.out.cell (p := ⟨pb, 0, none⟩) hlt).trans c0
          have g1 := (BE4.out.cell (p := ⟨pb, 1, none⟩) hlt).trans c1
          have g2 := (BE4.out.cell (p := ⟨pb, 2, none⟩) hlt).trans c2
          have g3 := (BE4.out.cell (p := ⟨pb, 3, none⟩) hlt).trans c3
          have g4 := (BE4.out.cell (p := ⟨pb, 4, none⟩) hlt).trans c4
          have hlt4 := cell_lt g3
          have hz4 := BE4.out.size
          clear f0 f1 f2 f3 f4 hltj OA BA OJ
          go_upto_region 12 with fail
          have s4 : w4.drew.heap[pb]? = some (.cells #[.int .i64 r.kind, .int .i64 r.id, .int .i64 r.num, .string ⟨r.tube.toArray⟩, .slice a r.body.length c] 24 (0, 0)) := (BE4.out.block pb hlt).trans G0.out
          refine wp_region_held_drew (S := fun X => X.heap[pb]? = some (.cells #[.int .i64 r.kind, .int .i64 r.id, .int .i64 r.num, .string ⟨r.tube.toArray⟩, .slice a r.body.length c] 24 (0, 0))) (by kernel_rfl) s4 (fun _ => ?_)
          have B4d : Hid (Below w4.heap.size w4 w4.drew) := (Below.refl _ w4).drew
          obtain ⟨x4, hx4⟩ : ∃ x4, x4 = w4.drew := ⟨_, rfl⟩
          rw [← hx4] at s4 B4d ⊢
          clear hx4
          refine H_take (i := 0) (v := v4) (some 37) rfl rfl (by kernel_rfl) (by kernel_rfl) (by kernel_rfl) (fun _ _ _ h => h) rfl (fun X hX => ?_) s4 ?_
          · simp [go_sem]
          simp only [Act.put, List.setIfInBounds_toArray, List.set_cons_zero, List.set_cons_succ]
          refine H_take (i := 1) (v := .agg #[.int .i64 r.kind, .int .i64 r.id, .int .i64 r.num, .string ⟨r.tube.toArray⟩, .slice a r.body.length c]) (some 38) rfl rfl (by kernel_rfl) (by kernel_rfl) (by kernel_rfl) (fun _ _ _ h => h) rfl (fun X hX => ?_) s4 ?_
          · exact run_loadRow rfl rfl hX Tryd.underlying24 rfl (by kernel_rfl)
          simp only [Act.put, List.setIfInBounds_toArray, List.set_cons_zero, List.set_cons_succ]
          refine H_take (i := 2) (v := .string lb) (some 39) rfl rfl (by kernel_rfl) (by kernel_rfl) (by kernel_rfl) (fun _ _ _ h => h) rfl (fun X hX => ?_) s4 ?_
          · simp [go_sem]
          simp only [Act.put, List.setIfInBounds_toArray, List.set_cons_zero, List.set_cons_succ]
          refine H_take (i := 3) (v := .int .i64 (j : Int)) (some 40) rfl rfl (by kernel_rfl) (by kernel_rfl) (by kernel_rfl) (fun _ _ _ h => h) rfl (fun X hX => ?_) s4 ?_
          · simp [go_sem]
          simp only [Act.put, List.setIfInBounds_toArray, List.set_cons_zero, List.set_cons_succ]
          refine H_take (i := 4) (v := .int .u8 (lb[j].toNat : Int)) (some 41) rfl rfl (by kernel_rfl) (by kernel_rfl) (by kernel_rfl) (fun _ _ _ h => h) rfl (fun X hX => ?_) s4 ?_
          · simp [go_sem, hp]
          simp only [Act.put, List.setIfInBounds_toArray, List.set_cons_zero, List.set_cons_succ]
          refine H_call (i := 5) (f := 42) (args := #[.agg #[.int .i64 r.kind, .int .i64 r.id, .int .i64 r.num, .string ⟨r.tube.toArray⟩, .slice a r.body.length c], .int .u8 (lb[j].toNat : Int)]) (some 42) rfl rfl (by kernel_rfl) rfl (by simp [go_sem]) ((CF2.out x4).mono ?_)
          rintro e x5 ⟨rfl, b5⟩
          have s5 : x5.heap[pb]? = some (.cells #[.int .i64 r.kind, .int .i64 r.id, .int .i64 r.num, .string ⟨r.tube.toArray⟩, .slice a r.body.length c] 24 (0, 0)) := (b5.block pb (Array.getElem?_eq_some_iff.1 s4).1).trans s4
          have B5 : Hid (Below w4.heap.size w4 x5) := B4d.out.trans (b5.mono B4d.out.size)
          refine ⟨_, rfl, s5, ?_⟩
          clear s4 b5
          simp only [Act.put, List.setIfInBounds_toArray, List.set_cons_zero, List.set_cons_succ]
          refine H_call (i := 6) (f := 41) (args := #[.int .i64 fv]) (some 43) rfl rfl (by kernel_rfl) rfl (by simp [go_sem]) ((CP2.out x5).mono ?_)
          rintro e w6 ⟨rfl, b6⟩
          have s6 : w6.heap[pb]? = some (.cells #[.int .i64 r.kind, .int .i64 r.id, .int .i64 r.num, .string ⟨r.tube.toArray⟩, .slice a r.body.length c] 24 (0, 0)) := (b6.block pb (Array.getElem?_eq_some_iff.1 s5).1).trans s5
          have B6 : Hid (Below w4.heap.size w4 w6) := B5.out.trans (b6.mono B5.out.size)
          have BE6 : Hid (Below w0.heap.size w0 w6) := BE4.out.trans (B6.out.mono hz4)
          have OWN6 : Hid (OwnC w6 w0.heap.size v4 (W0 ++ piecesR r (ls.take j) ++ [32])) := OWN4.out.below B6.out
          have hz6 := BE6.out.size
          refine ⟨_, rfl, s6, ?_⟩
          clear s5 b6
          simp only [Act.put, List.setIfInBounds_toArray, List.set_cons_zero, List.set_cons_succ]
          obtain ⟨v7, w7, hr7, own7, gr7, _, _⟩ := run_appendC w6 w0.heap.size 9 22 v4 (.string ⟨dl.toArray⟩) _ dl OWN6.out (srcText w6 ⟨dl.toArray⟩) (by have := OWL.out; simp at this ⊢; omega) hz6
          have OWN7 := hide own7
          have BE7 : Hid (Below w0.heap.size w0 w7) := BE6.out.grown gr7 hz6 (fun g hg => OWN6.out.ltB g hg)
          have s7 : w7.heap[pb]? = some (.cells #[.int .i64 r.kind, .int .i64 r.id, .int .i64 r.num, .string ⟨r.tube.toArray⟩, .slice a r.body.length c] 24 (0, 0)) := (BE7.out.block pb hlt).trans G0.out
          clear own7 gr7
          refine H_value (i := 7) (v := v7) (w' := w7) (some 44) rfl rfl (by kernel_rfl) rfl (run_exec_append (.tmp 37) (.tmp 43) rfl rfl rfl hr7) s7 ?_
          simp only [Act.put, List.setIfInBounds_toArray, List.set_cons_zero, List.set_cons_succ]
          refine H_take (i := 8) (v := v7) (some 5) rfl rfl (by kernel_rfl) (by kernel_rfl) (by kernel_rfl) (fun _ _ _ h => h) rfl (fun X hX => ?_) s7 ?_
          · simp [go_sem]
          simp only [Act.put, List.setIfInBounds_toArray, List.set_cons_zero, List.set_cons_succ]
          refine wpAnyH_done (by kernel_rfl) ?_ _
          clear s6 s7
          all_goals go_wp2_with fail
          all_goals go_roundw
          all_goals first
            | (refine ⟨j + 1, by omega, by go_num, ?_, BE7⟩
               have h := OWN7.out
               show OwnC _ _ _ _
               rw [PJ2.out]
               simpa using h)
            | (simp [intOf]; omega)
      · have hlj := HLE.out j hp
        rw [hlj] at OJ OWL
        have hz13 : w0.heap.size ≤ (wr.alloc (.cells #[.int .u8 13, .int .u8 10] 5)).heap.size := by simp; omega
        have OB : Hid (OwnC (wr.alloc (.cells #[.int .u8 13, .int .u8 10] 5)) w0.heap.size u5 (W0 ++ piecesR r ls)) := OJ.out.below ((Below.refl _ wr).alloc (Nat.le_refl _) _)
        have BB : Hid (Below w0.heap.size w0 (wr.alloc (.cells #[.int .u8 13, .int .u8 10] 5))) := BJ.out.alloc hzj _
        clear hlj HLE HLB PIE PLN LIN PLE PN PT CF CP OA hpl f1 f2 f3 OJ
        go_upto_region 14 with (refine wpList_appendBC rfl (.tmp 45) (.tmp 46) rfl w0.heap.size u5 _ rfl OB.out (some ⟨wr.heap.size, 0, none⟩) 2 2 [13, 10] rfl rfl (IsBytes.ofNew2 wr 13 10) (by have := OWL.out; simp at this ⊢; omega) hz13 ?_; intro v4 w4 own4 gr4; have OWN4 := hide own4; have BE4 : Hid (Below w0.heap.size w0 w4) := BB.out.grown gr4 hz13 (fun g hg => OB.out.ltB g hg); clear own4 gr4)
        have g0 := (BE4.out.cell (p := ⟨pb, 0, none⟩) hlt).trans c0
        have g4 := (BE4.out.cell (p := ⟨pb, 4, none⟩) hlt).trans c4
        have hlt4 := cell_lt g0
        have hz4 := BE4.out.size
        have IB4 : Hid (IsBytes w4 a c r.body) := I0.out.below BE4.out
        clear f0 f4 hltj OB BB
        cases hasB with
        | false =>
          have PL3 : Hid (putL r = W0 ++ piecesR r ls ++ [13, 10]) := by show _ = _; rw [PL2.out]; simp
          go_wp2_with (go_at_call 43; refine (CH.out _).mono ?_; rintro e w5 ⟨rfl, rfl⟩)
          go_ret2
          refine ⟨B0.out.trans (BE4.out.mono B0.out.size), .inr ⟨HCE.out, _, rfl, ?_⟩⟩
          rw [PL3.out]
          exact OWN4.out.mono B0.out.size
        | true =>
          have PL3 : Hid (putL r = W0 ++ piecesR r ls ++ [13, 10] ++ r.body ++ [13, 10]) := by show _ = _; rw [PL2.out]; simp
          go_upto_region 16 with (first
            | (go_at_call 43; refine (CH.out _).mono ?_; rintro e w5 ⟨rfl, rfl⟩)
            | (refine wpList_appendBC rfl (.tmp 51) (.tmp 53) rfl w0.heap.size v4 _ rfl OWN4.out a c r.body.length r.body rfl rfl IB4.out (by have := OWL.out; simp at this ⊢; omega) hz4 ?_; intro v6 w6 own6 gr6; have OWN6 := hide own6; have BE6 : Hid (Below w0.heap.size w0 w6) := BE4.out.grown gr6 hz4 (fun g hg => OWN4.out.ltB g hg); clear own6 gr6))
          have hz6 := BE6.out.size
          have hz7 : w0.heap.size ≤ (w6.alloc (.cells #[.int .u8 13, .int .u8 10] 5)).heap.size := by simp; omega
          have OC : Hid (OwnC (w6.alloc (.cells #[.int .u8 13, .int .u8 10] 5)) w0.heap.size v6 (W0 ++ piecesR r ls ++ [13, 10] ++ r.body)) := OWN6.out.below ((Below.refl _ w6).alloc (Nat.le_refl _) _)
          have BC : Hid (Below w0.heap.size w0 (w6.alloc (.cells #[.int .u8 13, .int .u8 10] 5))) := BE6.out.alloc hz6 _
          clear g0 g4 hlt4 OWN4 BE4
          go_wp2_with (refine wpList_appendBC rfl (.tmp 55) (.tmp 56) rfl w0.heap.size v6 _ rfl OC.out (some ⟨w6.heap.size, 0, none⟩) 2 2 [13, 10] rfl rfl (IsBytes.ofNew2 w6 13 10) (by have := OWL.out; simp at this ⊢; omega) hz7 ?_; intro v8 w8 own8 gr8; have OWN8 := hide own8; have BE8 : Hid (Below w0.heap.size w0 w8) := BC.out.grown gr8 hz7 (fun g hg => OC.out.ltB g hg); clear own8 gr8)
          go_ret2
          refine ⟨B0.out.trans (BE8.out.mono B0.out.size), .inr ⟨HCE.out, _, rfl, ?_⟩⟩
          rw [PL3.out]
          exact OWN8.out.mono B0.out.size
  · have hzb : (ce != 0) = true := by simpa using hz
    have HZ := hide hz
    clear hz
    unfold rpV
    go_enter Tryd.func13, Tryd.ntmps13
    go_wp2_with (go_at_call 38; refine (CC.out _).mono ?_; rintro e w1 ⟨rfl, b1⟩; have B1 := hide b1; clear b1)
    go_ret2
    refine ⟨((Below.refl _ w).alloc (Nat.le_refl _) _).trans (B1.out.mono (by simp)), .inl ⟨by rw [HCE.out]; exact HZ.out, ?_⟩⟩
    rw [HCE.out]
    rfl
end Go.Proofs.YtienggblpmkjjaaDoor
