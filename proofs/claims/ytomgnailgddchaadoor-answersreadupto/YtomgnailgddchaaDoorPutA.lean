/-
  The walk of Put.
-/
import Derived.Test.YtomgnailgddchaaDoorJJ
import Derived.Test.YtomgnailgddchaaDoorCheckA
import Derived.Test.YtomgnailgddchaaDoorJO
import Derived.Test.YtomgnailgddchaaDoorJG
import Derived.Lib.BufferWrite
import Derived.Deep.RegionLaw
import Derived.Deep.RegionWith
import Derived.Deep.Cut
import Derived.Deep.CutRange
namespace Go.Proofs.YtomgnailgddchaaDoor
open Go.RowKit Go.Sort

theorem check_right {r : Rp} (h : checkE r = 0) : rightB r = true := by
  unfold checkE at h
  split at h
  · split at h
    · assumption
    · cases h
  · cases h
theorem OwnC.mono {w : World} {B B' : Nat} {v : Value} {l : List UInt8} (h : OwnC w B v l) (hB : B' ≤ B) : OwnC w B' v l := by
  obtain ⟨g, cap, rfl, h1, rest⟩ := h
  exact ⟨g, cap, rfl, Nat.le_trans hB h1, rest⟩
theorem ByteRow.ownC {w : World} {g : Nat} {l : List UInt8} (h : ByteRow w 5 g l) (hl : l.length ≤ 140737488355328) {n : Nat} (hn : n = l.length) : OwnC w g (.slice (some ⟨g, 0, none⟩) n n) l := by
  subst hn
  refine ⟨g, l.length, rfl, Nat.le_refl _, h.lt, Nat.le_refl _, by unfold maxLen; omega, fun j x hj => h.cell j x hj, fun j hj => ⟨?_, h.frozen j⟩⟩
  rw [h.cell j l[j] (List.getElem?_eq_getElem hj)]
  rfl
/-- 'copy' of a text into a row. -/
theorem wpList_copy_str {w : World} {ops : Array Oper} {rest : List Oper} {o : Oper} {a : Act} {Q : Exit → Act → World → Prop} (hgd : o.guard = none) (d s : Operand)
    (ho : o.op = .call { callee := .builtin .copy, args := #[d, s], argTypes := #[34, 9] }) (g off dLen dCap : Nat) (S : ByteArray) (bs : List UInt8) (hd : a.eval d = .slice (some ⟨g, off, none⟩) dLen dCap) (hs : a.eval s = .string S) (hg : ByteRow w 5 g bs) (hle : S.size ≤ dLen) (hfit : off + S.size ≤ bs.length)
    (h : ∀ w', Hid (ByteRow w' 5 g (splice bs off S.data.toList)) → Kept (fun k => k = g) w w' → wpList Tryd.prog ops Q rest (a.put o.dst (goInt S.size)) w') : wpList Tryd.prog ops Q (o :: rest) a w := by
  refine wpList_plain hgd fun K hK => ?_
  have hrun := Lib.run_copy_row_string (P := Tryd.prog) w 34 9 o.type 5 g off dLen dCap S (u8s bs).toArray 5 Tryd.underlying34 (by kernel_rfl) hg hle (by simpa [u8s_length] using hfit)
  unfold Oper.wp
  simp only [execOp, ho, resolve, invoke, builtin, Sem.run_bind, Sem.run_pure, Result.andThen_ok, List.map_toArray, List.map_cons, List.map_nil, hd, hs, hrun]
  refine hK _ _ (h _ ?_ ⟨rfl, rfl, rfl, by simp [World.setRow], fun q _ hq => setRow_other w g q _ hq⟩)
  show ByteRow _ _ _ _
  unfold ByteRow
  rw [setRow_heap w g _ _ _ _ hg, ← u8s_splice]
  have e : (S.data.toList).length = S.size := by simp
  have e2 : (u8s bs).toArray.toList.take off ++ Lib.byteCells S.data.toList ++ (u8s bs).toArray.toList.drop (off + S.size) = splice (u8s bs) off (u8s S.data.toList) := by
    unfold splice
    rw [List.append_assoc, u8s_length, e]
    rfl
  rw [e2]
theorem three_splice {s2 body : List UInt8} {n1 n2 N : Nat} (h1 : s2.length = n1) (h2 : n2 = n1 + body.length) (hN : N = n2 + 2) : splice (splice (splice (List.replicate N (0 : UInt8)) 0 s2) n1 body) n2 [13, 10] = s2 ++ body ++ [13, 10] := by
  subst h1 h2 hN
  have eA : splice (List.replicate (s2.length + body.length + 2) (0 : UInt8)) 0 s2 = s2 ++ List.replicate (body.length + 2) 0 := by
    unfold splice
    simp
    omega
  have eB : splice (s2 ++ List.replicate (body.length + 2) (0 : UInt8)) s2.length body = s2 ++ body ++ List.replicate 2 0 := by
    unfold splice
    rw [List.take_left, ← List.append_assoc, List.drop_append]
    simp
  rw [eA, eB]
  unfold splice
  rw [show s2.length + body.length = (s2 ++ body).length by simp, List.take_left, List.drop_append]
  simp
theorem wordOf_short : ∀ k, k < 24 → (wordOf k).length ≤ 200 := by decide
theorem opt_short {p : Prop} [Decidable p] {l : List UInt8} (h : p → l.length ≤ 200) : (if p then 32 :: l else []).length ≤ 201 := by
  split
  · rename_i hp; have := h hp; simp; omega
  · simp
theorem line_short {r : Rp} (h : rightB r = true) : (wordOf r.kind.toNat ++ fieldsL r).length ≤ 2000 := by
  obtain ⟨h1, h2, h3, h4, h5, h6, h7, h8⟩ := right_facts h
  have hk : r.kind.toNat < 24 := by omega
  obtain ⟨t1, t2, t3, t4, t5, t6⟩ := table r.kind.toNat hk
  have a0 := wordOf_short r.kind.toNat hk
  have a1 := opt_short (p := 0 < idOf r.kind.toNat) (l := decL r.id) (fun _ => dec_short (by omega))
  have a2 := opt_short (p := 0 < nuOf r.kind.toNat) (l := decL r.num) (fun _ => dec_short (by omega))
  have a3 := opt_short (p := tuOf r.kind.toNat = true) (l := r.tube) (fun ht => by
    rw [if_pos ht] at h8
    unfold validB at h8
    simp only [Bool.and_eq_true, decide_eq_true_eq] at h8
    exact h8.1.1.2)
  have a4 := opt_short (p := 0 < boOf r.kind.toNat) (l := decL r.body.length) (fun _ => dec_short (by omega))
  unfold fieldsL
  simp only [List.length_append]
  omega
theorem join_line {w1 w2 : World} {k id num : Int} {tube : ByteArray} {b : Value} {g cap : Nat} {ws : List ByteArray} {L : List UInt8} (hk : Wk w1 w2 k id num tube b (.slice (some ⟨g, 0, none⟩) ws.length cap) ws) (hj : joinB (ws.map (·.data.toList)) = true) (hl : Lib.join (ws.map (·.data.toList)) [32] = L) (hn : ws.length ≤ 3) (hL : L.length ≤ 2000) :
    Calls Tryd.prog 31 #[.slice (some ⟨g, 0, none⟩) ws.length cap] w2 fun e w' => e = .returned (.tuple #[.string ⟨L.toArray⟩, .bool true]) ∧ Below w2.heap.size w2 w' := by
  have ho := hk.own
  have hlt : g < w2.heap.size := (ho.lt g rfl).2
  have hcap : ws.length ≤ cap := by
    rcases ho.2 with ⟨h0, _⟩ | ⟨g', cap', cur, hv, _, _, h1, _⟩
    · cases h0
    · simp only [Value.slice.injEq] at hv
      rw [hv.2.2]
      exact h1
  refine (join_any g 0 cap ws w2 (fun j x hj' => ?_) hlt (by omega) hcap (by rw [hl]; omega)).mono ?_
  · have a1 := ho.cells (g := g) rfl j (.string x) (by simp [hj'])
    rw [Go.WideShapes.add_plain] at a1
    exact a1
  · rintro e w' ⟨rfl, hb⟩
    refine ⟨?_, hb⟩
    unfold joinV
    rw [hj, if_pos rfl, hl]
/-- What Put tells. -/
def PutPost (r : Rp) (w : World) (x : Ending) (w' : World) : Prop := Below w.heap.size w w' ∧ ((checkE r ≠ 0 ∧ x = .returned (.tuple #[.slice none 0 0, .int .i64 (checkE r)])) ∨ (checkE r = 0 ∧ ∃ v, x = .returned (.tuple #[v, .int .i64 0]) ∧ OwnC w' w.heap.size v (putL r)))

set_option maxHeartbeats 4000000 in
set_option maxRecDepth 1000000 in
theorem put_any (w : World) (r : Rp) (a : Option Addr) (c : Nat) (hb : IsBytes w a c r.body) (hT : Tabs w) :
    Calls Tryd.prog 16 #[rpV r (.slice a r.body.length c)] w (PutPost r w) := by
  obtain ⟨w0, hw0⟩ : ∃ w0, w0 = w.alloc (.cells #[.int .i64 r.kind, .int .i64 r.id, .int .i64 r.num, .string ⟨r.tube.toArray⟩, .slice a r.body.length c] 45) := ⟨_, rfl⟩
  obtain ⟨pb, hpb⟩ : ∃ pb, pb = w.heap.size := ⟨_, rfl⟩
  have B0 : Below w.heap.size w w0 := by rw [hw0]; exact (Below.refl _ w).alloc (Nat.le_refl _) _
  have g0 : w0.heap[pb]? = some (.cells #[.int .i64 r.kind, .int .i64 r.id, .int .i64 r.num, .string ⟨r.tube.toArray⟩, .slice a r.body.length c] 45 (0, 0)) := by rw [hw0, hpb]; exact heap_alloc_new _ _
  have HG0 := hide g0
  have HW0 := hide hw0
  have HPB := hide hpb
  have HB0 := hide B0
  have HT0 : Hid (Tabs w0) := hT.below B0
  have HI0 : Hid (IsBytes w0 a c r.body) := hb.below B0
  have c0 := cells_at g0 (i := 0) rfl
  have c1 := cells_at g0 (i := 1) rfl
  have c2 := cells_at g0 (i := 2) rfl
  have c3 := cells_at g0 (i := 3) rfl
  have c4 := cells_at g0 (i := 4) rfl
  have hlt0 := cell_lt c0
  clear hw0 hpb B0 g0 hb hT
  unfold rpV
  obtain ⟨ce, hce⟩ : ∃ ce, checkE r = ce := ⟨_, rfl⟩
  have HCE := hide hce
  clear hce
  by_cases hz : ce = 0
  · obtain rfl := hz
    have hr := check_right HCE.out
    have hf := right_facts hr
    obtain ⟨k, hk⟩ : ∃ k : Nat, r.kind = k := ⟨r.kind.toNat, by omega⟩
    have hk1 : 1 ≤ k ∧ k < 24 := by omega
    have HR := hide hr
    obtain ⟨kind, id, num, tube, body⟩ := r
    have hk : kind = k := hk
    subst hk
    have hkt : ((k : Int)).toNat = k := Int.toNat_natCast k
    obtain ⟨t1, t2, t3, t4, t5, t6⟩ := table k hk1.2
    have hbl : (body.length : Int) ≤ boOf k := by have := hf.2.2.2.2.2.2.1; rw [show (Rp.mk (k : Int) id num tube body).kind.toNat = k from hkt] at this; exact this
    have hbl2 : body.length ≤ 4294967295 := by omega
    have HBL := hide hbl
    clear hf hr t1 t2 t3 t4 t5 t6 hbl
    go_enter Tryd.func16, Tryd.ntmps16
    go_upto_region 1 with fail
    rw [← HW0.out, ← HPB.out]
    go_upto_region 4 with (go_at_call 30; refine (check_any w0 ⟨(k : Int), id, num, tube, body⟩ a c HT0.out).mono ?_; rintro x w1 ⟨rfl, b1⟩; rw [HCE.out]; have HB1 := hide b1; clear b1)
    have g1 := (HB1.out.block pb hlt0).trans HG0.out
    have d0 := cells_at g1 (i := 0) rfl
    have d1 := cells_at g1 (i := 1) rfl
    have d2 := cells_at g1 (i := 2) rfl
    have d3 := cells_at g1 (i := 3) rfl
    have d4 := cells_at g1 (i := 4) rfl
    have hlt1 := cell_lt d0
    have HG1 := hide g1
    have HT1 : Hid (Tabs w1) := HT0.out.below HB1.out
    clear g1 c0 c1 c2 c3 c4
    simp only [List.getElem_toArray, List.getElem_cons_zero, List.getElem_cons_succ] at d0 d1 d2 d3 d4
    go_upto_region 5 with (first
      | (go_at_call 32; refine (words_any w1 ⟨(k : Int), id, num, tube, body⟩ a c HT1.out HR.out).mono ?_; rintro x w2 ⟨v2, ws, rfl, k2, j2, l2, n2, m2⟩; have HK2 := hide k2; have HJ2 := hide j2; have HL2 := hide l2; obtain ⟨g2, cap2, hv2⟩ : ∃ g cap, v2 = .slice (some ⟨g, 0, none⟩) ws.length cap := (by rcases k2.own.2 with ⟨_, h0⟩ | ⟨g, cap, cur, hv, _⟩; (omega); exact ⟨g, cap, hv⟩); subst hv2; clear k2 j2 l2)
      | (go_at_call 31; refine (join_line HK2.out HJ2.out HL2.out n2 (line_short HR.out)).mono ?_; rintro x w3 ⟨rfl, b3⟩; have HB3 := hide b3; clear b3; obtain ⟨LB, hLB⟩ : ∃ LB : ByteArray, LB = ⟨(wordOf (Rp.mk (k : Int) id num tube body).kind.toNat ++ fieldsL (Rp.mk (k : Int) id num tube body)).toArray⟩ := ⟨_, rfl⟩; rw [← hLB]; have HLB := hide hLB; clear hLB))
    have B23 : Below w1.heap.size w1 w3 := HK2.out.low.trans (HB3.out.mono HK2.out.low.size)
    have g3 := (B23.block pb hlt1).trans HG1.out
    have e0 := cells_at g3 (i := 0) rfl
    have e4 := cells_at g3 (i := 4) rfl
    simp only [List.getElem_toArray, List.getElem_cons_zero, List.getElem_cons_succ] at e0 e4
    have hlt3 := cell_lt e0
    have T3 : Tabs w3 := HT1.out.below B23
    have tb := T3.body k hk1.2
    have htl := cell_lt tb
    have HT3 := hide T3
    have HG3 := hide g3
    have hs1 : w0.heap.size ≤ w1.heap.size := HB1.out.size
    have HB03 : Hid (Below w.heap.size w w3) := HB0.out.trans ((HB1.out.trans (B23.mono hs1)).mono HB0.out.size)
    have hLs : LB.size ≤ 2000 := by
      rw [HLB.out]
      have := line_short HR.out
      simp only [ByteArray.size, List.size_toArray]
      exact this
    have hki : (k : Int) < 24 ∧ 0 ≤ (k : Int) := by omega
    clear T3 g3 B23 d0 d1 d2 d3 d4 HT1 HG1
    by_cases hbo : boOf k = 0
    · have hbb : (boOf k == 0) = true := by rw [hbo]; rfl
      have hss : (LB ++ (⟨#[13, 10]⟩ : ByteArray)).size = LB.size + 2 := by rw [ByteArray.size_append]; rfl
      obtain ⟨a9, c9, w4, hr9, o9, b9⟩ := conv_bytes w3 (LB ++ ⟨#[13, 10]⟩) (by rw [hss]; unfold maxLen; omega)
      have HO9 : Hid (OwnC w4 w3.heap.size (.slice a9 (LB ++ (⟨#[13, 10]⟩ : ByteArray)).size c9) (LB ++ (⟨#[13, 10]⟩ : ByteArray)).data.toList) := o9
      have HB9 := hide b9
      have HPL : Hid ((LB ++ (⟨#[13, 10]⟩ : ByteArray)).data.toList = putL ⟨(k : Int), id, num, tube, body⟩) := by
        show _ = _
        unfold putL
        rw [show (Rp.mk (k : Int) id num tube body).kind.toNat = k from hkt, if_neg (by rw [hbo]; decide), HLB.out]
        simp [hkt]
      clear o9 b9 hbo
      go_wp2_with fail
      go_ret2
      refine ⟨HB03.out.trans (HB9.out.mono HB03.out.size), .inr ⟨HCE.out, _, rfl, ?_⟩⟩
      have := HO9.out
      rw [HPL.out, hss] at this
      exact this.mono HB03.out.size
    · have hbb : (boOf k == 0) = false := by rw [beq_eq_false_iff_ne]; exact hbo
      obtain ⟨i8, hi, hz0, hz1, hz2⟩ := info_parts info_u8
      obtain ⟨N, hN⟩ : ∃ N : Nat, N = LB.size + 2 + body.length + 2 := ⟨_, rfl⟩
      have hNi : (LB.size : Int) + 2 + (body.length : Int) + 2 = (N : Int) := by omega
      have HN := hide hN
      have hNb : N ≤ 8589934592 := by omega
      have HBO := hide hbo
      clear hbo hN
      go_upto_region 8 with (refine wpList_make_row _ rfl (.tmp 36) (.tmp 36) 34 rfl 5 i8 (.int .u8 0) Tryd.underlying34 hi hz0 hz1 rfl .i64 .i64 N rfl rfl (by rw [hz2]; omega) (by omega) ?_)
      obtain ⟨w4, hw4⟩ : ∃ w4, w4 = w3.alloc (.cells (madeCells #[.int .u8 0] N) 5) := ⟨_, rfl⟩
      obtain ⟨g4, hg4⟩ : ∃ g4, g4 = w3.heap.size := ⟨_, rfl⟩
      have B4 : Below w3.heap.size w3 w4 := by rw [hw4]; exact (Below.refl _ w3).alloc (Nat.le_refl _) _
      have R4 : ByteRow w4 5 g4 (List.replicate N 0) := by rw [hw4, hg4]; exact made_row w3 N
      rw [← hw4, ← hg4]
      have HR4 := hide R4
      have HB4 := hide B4
      have HG4 : Hid (w3.heap.size ≤ g4) := by show _ ≤ g4; omega
      have hss : (LB ++ (⟨#[13, 10]⟩ : ByteArray)).size = LB.size + 2 := by rw [ByteArray.size_append]; rfl
      obtain ⟨S2, hS2⟩ : ∃ S2 : ByteArray, S2 = LB ++ ⟨#[13, 10]⟩ := ⟨_, rfl⟩
      have HS2 := hide hS2
      have hS2s : S2.size = LB.size + 2 := by rw [hS2]; exact hss
      have HS2s := hide hS2s
      have hS2le : S2.size ≤ N := by have := HN.out; omega
      clear hw4 hg4 B4 R4 hS2 hss hS2s
      go_upto_region 9 with (rw [← HS2.out]; refine wpList_copy_str rfl (.tmp 38) (.tmp 40) rfl g4 0 N N S2 _ rfl rfl HR4.out (by omega) (by simp; omega) ?_; intro w5 R5 k5)
      obtain ⟨n1, hn1⟩ : ∃ n1, n1 = S2.size := ⟨_, rfl⟩
      rw [← hn1]
      have hN1 : N = n1 + body.length + 2 := by have := HN.out; have := HS2s.out; omega
      have HN1 := hide hN1
      have hn1N : n1 + body.length + 2 ≤ N := by omega
      have hnl : n1 < N := by omega
      have hni : (n1 : Int) ≤ (N : Int) := by omega
      have hnb : n1 ≤ 4096 := by have := HS2s.out; omega
      have HNS : Hid (S2.data.toList.length = n1) := by show _ = n1; rw [hn1]; simp
      have HB5 : Hid (Below w3.heap.size w3 w5) := HB4.out.trans (k5.below HB4.out.size (fun q hq e => by have := HG4.out; omega))
      have g5 := (HB5.out.block pb hlt3).trans HG3.out
      have f4 := cells_at g5 (i := 4) rfl
      simp only [List.getElem_toArray, List.getElem_cons_zero, List.getElem_cons_succ] at f4
      have hlt5 := cell_lt f4
      have HG5 := hide g5
      have HI5 : Hid (IsBytes w5 a c body) := (HI0.out.below (HB1.out.trans ((HK2.out.low.trans (HB3.out.mono HK2.out.low.size)).mono hs1))).below HB5.out
      have HR5 := R5
      clear R5 k5 hN1 hn1 g5 e0 e4 tb
      have hsz : (Tryd.prog.info? 5).map (·.size) = some 1 := by kernel_rfl
      have hneN : ¬ N = n1 := by omega
      have hul : (u8s body).length = body.length := u8s_length body
      go_wp2_with fail
      go_region_law (refine step_copy_splice rfl (.tmp 45) (.tmp 47) 34 34 rfl 5 Tryd.underlying34 hsz (some ⟨g4, n1, none⟩) a (N - n1) (N - n1) body.length c (by simp [Act.eval]) (by simp [Act.eval]) g4 n1 (u8s (splice (List.replicate N 0) 0 S2.data.toList)) 5 HR5.out (u8s body) (by rw [u8s_length]; simp only [Nat.min_def]; split <;> omega) (fun hp => ⟨rfl, (show IsBytes w5 a c body from HI5.out).source (by rw [u8s_length] at hp; exact hp)⟩) (by rw [u8s_length, u8s_length, length_splice _ _ _ (by rw [HNS.out, List.length_replicate]; omega), List.length_replicate]; omega) (u8s_one body) w3.heap.size w3 (HB5.out.drew) HG4.out ?_; intro w6 R6 b6)
      have R6' : ByteRow w6 5 g4 (splice (splice (List.replicate N 0) 0 S2.data.toList) n1 body) := by
        unfold ByteRow
        rw [R6.out, u8s_splice]
      have HR6 := hide R6'
      have HB6 := hide b6
      obtain ⟨n2, hn2⟩ : ∃ n2, n2 = n1 + body.length := ⟨_, rfl⟩
      have hn2i : (n1 : Int) + (body.length : Int) = (n2 : Int) := by omega
      have HN2 := hide hn2
      have hn2N : n2 + 2 ≤ N := by omega
      have hn2l : (n2 : Int) ≤ (N : Int) := by omega
      have hne2 : ¬ N = n2 := by omega
      clear R6 R6' b6 hn2 hneN
      go_wp2_with (refine wpList_copy_str rfl (.tmp 52) _ rfl g4 n2 (N - n2) (N - n2) ⟨#[13, 10]⟩ _ (by simp [Act.eval]) rfl HR6.out (by show 2 ≤ N - n2; omega) (by show n2 + 2 ≤ _; rw [length_splice _ _ _ (by rw [length_splice _ _ _ (by rw [HNS.out, List.length_replicate]; omega), List.length_replicate]; omega), length_splice _ _ _ (by rw [HNS.out, List.length_replicate]; omega), List.length_replicate]; exact hn2N) ?_; intro w7 R7 k7)
      go_ret2
      have hN2 := HN2.out
      have hN1 := HN1.out
      have r7 := R7.out
      rw [three_splice HNS.out hN2 (show N = n2 + 2 by omega)] at r7
      have hpl : S2.data.toList ++ body ++ [13, 10] = putL ⟨(k : Int), id, num, tube, body⟩ := by
        have h0 : 0 < boOf k := by have := (table k hk1.2).2.2.1; have := HBO.out; omega
        unfold putL
        rw [show (Rp.mk (k : Int) id num tube body).kind.toNat = k from hkt, if_pos h0, HS2.out, HLB.out]
        simp [hkt]
      rw [hpl] at r7
      have hB7 : Below w.heap.size w w7 := (HB03.out.trans (HB6.out.mono HB03.out.size)).trans (k7.below (Nat.le_trans HB03.out.size HB6.out.size) (fun q hq e => by have := HG4.out; have := HB03.out.size; omega))
      have hlen : N = (putL ⟨(k : Int), id, num, tube, body⟩).length := by
        rw [← hpl]
        simp only [List.length_append, HNS.out, List.length_cons, List.length_nil]
        omega
      exact ⟨hB7, .inr ⟨HCE.out, _, rfl, (r7.ownC (by rw [← hlen]; omega) hlen).mono (by have := HG4.out; have := HB03.out.size; omega)⟩⟩
  · have hzb : (ce != 0) = true := by simpa using hz
    have HZ := hide hz
    go_enter Tryd.func16, Tryd.ntmps16
    go_upto_region 1 with fail
    rw [← HW0.out, ← HPB.out]
    go_wp2_with (go_at_call 30; refine (check_any w0 r a c HT0.out).mono ?_; rintro x w1 ⟨rfl, b1⟩; rw [HCE.out]; have HB1 := hide b1; clear b1)
    go_ret2
    exact ⟨HB0.out.trans (HB1.out.mono HB0.out.size), .inl ⟨by rw [HCE.out]; exact HZ.out, by rw [HCE.out]; rfl⟩⟩
end Go.Proofs.YtomgnailgddchaaDoor
