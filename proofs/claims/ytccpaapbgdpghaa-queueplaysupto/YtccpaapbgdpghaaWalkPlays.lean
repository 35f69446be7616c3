/-
  The walk of QueuePlays. (Written by genwp.py.)
-/
import Derived.Test.YtccpaapbgdpghaaStepAny
import Derived.Test.YtccpaapbgdpghaaSteps4
import Derived.Test.YtccpaapbgdpghaaShown
import Derived.Test.YtccpaapbgdpghaaFromI
namespace Go.Proofs.Ytccpaapbgdpghaa.queuePlays
open Go.RowKit

theorem wpList_push2 {w : World} {ops : Array Oper} {rest : List Oper} {o : Oper} {a : Act} {Q : Exit → Act → World → Prop} (hgd : o.guard = none) (s x : Operand) (t ty : TypeId) (z : Value)
    (ho : o.op = .call { callee := .builtin .append, args := #[s, x], argTypes := #[t, t] }) (hu : Try.prog.underlying t = some (.slice ty)) (hinfo : (Try.prog.info? ty).map (fun i => (i.zero, i.size, i.bytes)) = some (some z, 2, 16)) (hzs : z.cells.size = 2)
    (B : Nat) (v : Value) (xs : List (Value × Value)) (hs : a.eval s = v) (hown : RowO w B ty v xs) (y : Value × Value) (f : Nat) (hx : a.eval x = .slice (some ⟨f, 0, none⟩) 1 1) (hf : w.heap[f]? = some (.cells #[y.1, y.2] ty (0, 0))) (h1 : y.1.oneCell' = true) (h2 : y.2.oneCell' = true)
    (hl : xs.length ≤ 1000) (hbase : B ≤ w.heap.size)
    (h : ∀ v' w', RowO w' B ty v' (xs ++ [y]) → Kept (fun k => v.ownBlock = some k) w w' → wpList Try.prog ops Q rest (a.put o.dst v') w') : wpList Try.prog ops Q (o :: rest) a w := by
  obtain ⟨i0, hi0, hz0, hz1, hz2⟩ := info_parts hinfo
  obtain ⟨v', w', hr, h3, h4⟩ := hown.push (P := Try.prog) t o.type i0 z hu hi0 hz0 hz1 hzs (by rw [hz2]; decide) y f hf h1 h2 hbase hl
  refine wpList_plain hgd fun K hK => ?_
  unfold Oper.wp execOp
  simp only [ho, resolve, invoke, builtin, Sem.run_bind, Sem.run_pure, Result.andThen_ok, List.map_toArray, List.map_cons, List.map_nil, hs, hx, hr, Oper.upon]
  exact hK _ _ (h v' w' h3 h4)
/-- A pair of empty queues. -/
theorem first_pair {w0 wr w5 : World} {db : Nat} {P : List Pq} {L K : List Ref3} {vl vk : Value} (h : DkAt w0 wr db P L vl K vk 0) (q5 : QueueAtI w5 (wr.heap.size + 1) wr.heap.size 0 []) (b5 : Below wr.heap.size wr w5) :
    DkAt w0 (w5.alloc (.cells #[.slice none 0 0, .slice none 0 0, .int .i64 0] 34)) db (P ++ [⟨wr.heap.size + 1, wr.heap.size, w5.heap.size, 0, [], .slice none 0 0, .slice none 0 0, [], []⟩]) L vl K vk 0 := by
  have b6 : Below w5.heap.size w5 (w5.alloc (.cells #[.slice none 0 0, .slice none 0 0, .int .i64 0] 34)) := (Below.refl _ w5).alloc (Nat.le_refl _) _
  have hz := b5.size
  have h0 := h.bel.size
  refine h.addP (b5.trans (b6.mono hz)) ⟨q5.keptQ (P := fun _ => False) (Kept.ofBelow b6) (fun _ _ h => h), ⟨heap_alloc_new w5 _, World.ownsRow_nil _ _ _ _, World.ownsRow_nil _ _ _ _, .inl rfl, ?_⟩, ⟨rfl, rfl⟩⟩ ⟨Nat.le_refl 0, Int.le_refl 0⟩ (fun k hk => ?_)
  · show w0.heap.size ≤ w5.heap.size
    omega
  · rcases hk with hk | hk
    · rcases hk with hk | hk | ⟨r, hr, _⟩
      · have hk : k = wr.heap.size + 1 := hk
        omega
      · have hk : k = wr.heap.size := hk
        omega
      · cases hr
    · rcases hk with hk | hk | hk
      · have hk : k = w5.heap.size := hk
        omega
      · cases hk
      · cases hk
/-- In the midst of the first loop. -/
def Dk0 (w0 : World) (db k : Nat) (W : World) : Prop := ∃ P L vl vk, DkAt w0 W db P L vl [] vk 0 ∧ L.length = k
theorem desk_new (w0 w1 : World) (hb : Below w0.heap.size w0 w1) : Dk0 w0 w1.heap.size 0 (w1.alloc (.cells #[.slice none 0 0, .slice none 0 0] 28)) := by
  refine ⟨[], [], .slice none 0 0, .slice none 0 0, ⟨hb.alloc hb.size _, heap_alloc_new w1 _, hb.size, ⟨fun i p h => (by simp at h), fun i p h => (by simp at h), fun i p h => (by simp at h), fun i j p q h => (by simp at h)⟩, .inl ⟨rfl, rfl⟩, .inl ⟨rfl, rfl⟩, fun x h => (by cases h), fun x h => (by cases h), by simp, by simp⟩, rfl⟩
theorem bounds_of {x : Int} (h : (Lit.int .i64 x).wf = true) : -9223372036854775808 ≤ x ∧ x ≤ 9223372036854775807 := int_bounds h
set_option maxHeartbeats 8000000 in
set_option maxRecDepth 1000000 in
theorem walk (a : Option Addr) (cap : Nat) (steps : List StepI) (w : World) (ha : IsSteps w a cap steps ∧ (a = none → cap = 0)) (hn : steps.length ≤ 1048576) :
    Calls Try.prog 3 #[.slice a steps.length cap] w fun e w' => e = .returned (.bool true) ∧ Below w.heap.size w w' := by
  have HA := hideR ha.1
  clear ha
  have hnn := fun w p => q_not_nilI w p
  go_enter Try.func3, Try.ntmps3
  go_wp2_with fail
  refine (shown_any w).mono ?_
  rintro e w1 ⟨rfl, B1⟩
  have hd0 := desk_new w w1 B1
  clear B1
  go_wp2_with fail
  generalize hW3 : w1.alloc (.cells #[.slice none 0 0, .slice none 0 0] 28) = W3 at hd0 ⊢
  generalize hDb : w1.heap.size = db at hd0 ⊢
  have HD0 := hideR hd0
  clear hd0 hW3 hDb
  go_loopw [5, 6] (fun i _ wr => ∃ k : Nat, k ≤ 2 ∧ i = .int .i64 (k : Int) ∧ HidR (Dk0 w db k wr)) (fun i _ _ => 2 - (intOf i).toNat)
  case atStart => exact ⟨0, by omega, rfl, HD0⟩
  case round =>
    obtain ⟨k, hk, rfl, HK⟩ := hrel
    clear HD0
    by_cases hlt : k < 2
    · have hki : (k : Int) < 2 := by omega
      obtain ⟨P, L, vl, vk, hd, hLk⟩ := HK.out
      obtain ⟨al, cl, hvl⟩ := hd.rl.form
      rw [List.length_map] at hvl
      subst hvl
      have HD := hideR (And.intro hd hLk)
      clear hd hLk HK
      go_wp2_with fail
      refine (newI wr).mono ?_
      rintro e w5 ⟨rfl, q5, b5⟩
      have d6 := first_pair HD.out.1 q5 b5
      have b6 : Below w5.heap.size w5 (w5.alloc (.cells #[.slice none 0 0, .slice none 0 0, .int .i64 0] 34)) := (Below.refl _ w5).alloc (Nat.le_refl _) _
      have d5 := HD.out.1.later b5
      have k5 : w5.cell? ⟨db, 0, none⟩ = some (.slice al L.length cl) := by have kb := d5.box; simp only [World.cell?, kb]; simp
      obtain ⟨qc, hqc⟩ : ∃ qc, qc = wr.heap.size + 1 := ⟨_, rfl⟩
      rw [← hqc] at d6 ⊢
      have d7 := d6.later ((Below.refl _ (w5.alloc (.cells #[.slice none 0 0, .slice none 0 0, .int .i64 0] 34))).alloc (Nat.le_refl _) (.cells #[.pointer (some ⟨qc, 0, none⟩), .pointer (some ⟨w5.heap.size, 0, none⟩)] 36))
      have hin : LIn (P ++ [⟨qc, wr.heap.size, w5.heap.size, 0, [], .slice none 0 0, .slice none 0 0, [], []⟩]) (qc, w5.heap.size, P.length) := ⟨⟨qc, wr.heap.size, w5.heap.size, 0, [], .slice none 0 0, .slice none 0 0, [], []⟩, by simp, rfl, rfl⟩
      have D7 := hideR (And.intro d7 hin)
      clear d6 d7 d5 b6 b5 q5 hqc hin
      go_wp2_with (at_builtin
                   go_must (
                   refine wpList_push2 rfl (.tmp 25) (.tmp 30) 25 36 (.agg #[.pointer none, .pointer none]) rfl Try.underlying25 info_pairQ rfl w.heap.size (.slice al L.length cl) (L.map lval) rfl D7.out.1.rl (lval (qc, w5.heap.size, P.length)) (w5.heap.size + 1) rfl (by have := heap_alloc_new (w5.alloc (.cells #[.slice none 0 0, .slice none 0 0, .int .i64 0] 34)) (.cells #[.pointer (some ⟨qc, 0, none⟩), .pointer (some ⟨w5.heap.size, 0, none⟩)] 36); rw [World.size_alloc] at this; exact this) rfl rfl (by rw [List.length_map]; have := HD.out.2; omega) D7.out.1.bel.size ?_
                   intro v8 w8 r8 k8
                   obtain ⟨d9, bx8⟩ := D7.out.1.putL (L' := L ++ [(qc, w5.heap.size, P.length)]) k8 (by rw [List.map_append]; exact r8) (fun x hx => by
                     rcases List.mem_append.1 hx with hx | hx
                     · exact D7.out.1.il x hx
                     · obtain rfl : x = (qc, w5.heap.size, P.length) := by simpa using hx
                       exact D7.out.2) (by have := HD.out.2; simp; omega)
                   obtain ⟨a8, c8, hv8⟩ := r8.form
                   rw [List.length_append, List.length_map, List.length_singleton] at hv8
                   subst hv8
                   have D9 := hideR d9
                   have k9 : w8.cell? ⟨db, 0, none⟩ = some (.slice al L.length cl) := by simp only [World.cell?, bx8]; simp
                   have f9 : w8.frozen? ⟨db, 0, none⟩ = false := by simp only [World.frozen?, bx8]; rfl
                   clear d9 bx8 r8 k8))
      exact ⟨⟨k + 1, by omega, by go_num, ⟨⟨_, _, _, _, D9.out, by have := HD.out.2; rw [List.length_append, List.length_singleton]; omega⟩⟩⟩, by simp [intOf]; omega⟩
    · have hki : ¬ (k : Int) < 2 := by omega
      obtain rfl : k = 2 := by omega
      have hdn : HidR (DkN w db 0 wr) := by
        obtain ⟨P, L, vl, vk, hd, hLk⟩ := HK.out
        exact ⟨DkN.mk' hd (fun e => by rw [e] at hLk; simp at hLk) (by simp)⟩
      clear HK
      go_wp2_with fail
      rename World => wq
      go_loopg [7, 8] steps.length (fun gk s7 _ wr => ∃ i : Nat, s7 = .int .i64 (i : Int) ∧ i ≤ steps.length ∧ steps.length - i ≤ gk ∧ HidR (DkN w db i wr))
      case atStart => exact ⟨0, rfl, Nat.zero_le _, Nat.le_refl _, hdn⟩
      case round =>
        obtain ⟨i, rfl, hil, hgk, HI⟩ := hrel
        clear hdn
        by_cases hlt2 : i < steps.length
        · have t1 : (i : Int) < (steps.length : Int) := by omega
          obtain ⟨⟨x0, x1, x2, x3⟩, hx⟩ : ∃ x, steps[i]? = some x := ⟨_, List.getElem?_eq_getElem hlt2⟩
          obtain ⟨bb, oo, rfl, hbb, hcell⟩ : ∃ b o, a = some ⟨b, o, none⟩ ∧ b < w.heap.size ∧ ∀ (j : Nat) x, steps[j]? = some x → ∀ k u, (stepCells x)[k]? = some u → w.cell? ⟨b, o + j * 4 + k, none⟩ = some u := by
            rcases HA.out.2.2.2 with h | h
            · rw [h] at hlt2; simp at hlt2
            · exact h
          obtain ⟨f0, f1, f2, f3⟩ := HA.out.2.2.1 _ (List.mem_of_getElem? hx)
          have hbel : Below w.heap.size w wr := by obtain ⟨P, L, vl, K, vk, hd, _⟩ := HI.out; exact hd.bel
          have cc : ∀ k u, (stepCells (x0, x1, x2, x3))[k]? = some u → wr.cell? ⟨bb, oo + i * 4 + k, none⟩ = some u := fun k u hu => (hbel.cell (p := ⟨bb, oo + i * 4 + k, none⟩) hbb).trans (hcell i _ hx k u hu)
          have c0 : wr.cell? ⟨bb, oo + i * 4, none⟩ = some (.int .i64 x0) := cc 0 _ rfl
          have c1 : wr.cell? ⟨bb, oo + i * 4 + 1, none⟩ = some (.int .i64 x1) := cc 1 _ rfl
          have c2 : wr.cell? ⟨bb, oo + i * 4 + 2, none⟩ = some (.int .i64 x2) := cc 2 _ rfl
          have c3 : wr.cell? ⟨bb, oo + i * 4 + 3, none⟩ = some (.int .i64 x3) := cc 3 _ rfl
          have ST := hideR (step_any w wr db i x0 x1 x2 x3 HI.out (by omega) (bounds_of f1) (bounds_of f2) (bounds_of f3))
          clear hx hcell cc hbel f0 f1 f2 f3
          go_wp2_with fail
          refine ST.out.mono ?_
          rintro e w5 ⟨rfl, d5⟩
          have D5 := hideR d5
          clear d5 c0 c1 c2 c3 ST
          go_wp2_with fail
          go_roundg (steps.length - (i + 1))
          case measure => omega
          case rel => exact ⟨i + 1, by go_num, by omega, Nat.le_refl _, D5⟩
        · have t1 : ¬ (i : Int) < (steps.length : Int) := by omega
          obtain rfl : i = steps.length := by omega
          obtain ⟨P, L, vl, K, vk, hd, hL, _⟩ := HI.out
          obtain ⟨al, cl, hvl⟩ := hd.rl.form
          rw [List.length_map] at hvl
          subst hvl
          have hcl := hd.cl
          have HD := hideR hd
          clear hd hL HI t1 hlt2 hil
          go_wp2_with fail
          rename World => wq2
          go_loopg [9, 10] L.length (fun gk s9 _ wr => ∃ j : Nat, s9 = .int .i64 (j : Int) ∧ j ≤ L.length ∧ L.length - j ≤ gk ∧ HidR (DkAt w wr db P L (.slice al L.length cl) K vk steps.length))
          case atStart => exact ⟨0, rfl, Nat.zero_le _, Nat.le_refl _, HD⟩
          case round =>
            obtain ⟨j, rfl, hjl, hgk2, HJ⟩ := hrel
            clear HD
            have k0 : wr.cell? ⟨db, 0, none⟩ = some (.slice al L.length cl) := by have kb := HJ.out.box; simp only [World.cell?, kb]; simp
            by_cases hlt3 : j < L.length
            · have t3 : (j : Int) < (L.length : Int) := by omega
              obtain ⟨y, hy⟩ : ∃ y, L[j]? = some y := ⟨_, List.getElem?_eq_getElem hlt3⟩
              obtain ⟨gk, off, rfl, hgl, _, _, _⟩ := HJ.out.rl.range (j := j) (x := lval y) (by simp [hy])
              have HG := hideR (And.intro hgl hy)
              clear hgl hy
              go_upto_region 19 with fail
              clear k0
              have hdd : DkAt w wr.drew db P L (.slice (some ⟨gk, off, none⟩) L.length cl) K vk steps.length := HJ.out.later ⟨rfl, rfl, rfl, Nat.le_refl _, fun _ _ => rfl⟩
              have sq : (fun X : World => X.heap[db]? = some (.cells #[.slice (some ⟨gk, off, none⟩) L.length cl, vk] 28 (0, 0)) ∧ X.heap[gk]? = wr.drew.heap[gk]?) wr.drew := ⟨hdd.box, rfl⟩
              obtain ⟨p, hp, hpq, hpr⟩ := hdd.il y (List.mem_of_getElem? HG.out.2)
              obtain ⟨gk', off', eg, _, _, _, hall⟩ := hdd.rl.range (j := j) (x := lval y) (by simp [HG.out.2])
              simp only [Option.some.injEq, Addr.mk.injEq, and_true] at eg
              obtain ⟨rfl, rfl⟩ := eg
              have HP := hideR (And.intro hp (And.intro hpq hpr))
              have HDD := hideR hdd
              clear hdd hp hpq hpr
              refine wp_region_held_drew (S := (fun X : World => X.heap[db]? = some (.cells #[.slice (some ⟨gk, off, none⟩) L.length cl, vk] 28 (0, 0)) ∧ X.heap[gk]? = wr.drew.heap[gk]?)) mixed sq (fun _ => ?_)
              refine H_take (i := 0) (v := .pointer (some ⟨db, 0, none⟩)) (some 57) rfl rfl (by kernel_rfl) (by kernel_rfl) (by kernel_rfl) (fun _ _ _ h => h) rfl (fun X hX => ?_) sq ?_
              · simp [go_sem]
              simp only [Act.put, List.setIfInBounds_toArray, List.set_cons_zero, List.set_cons_succ]
              refine H_take (i := 1) (v := .pointer (some ⟨db, 0, none⟩)) (some 58) rfl rfl (by kernel_rfl) (by kernel_rfl) (by kernel_rfl) (fun _ _ _ h => h) rfl (fun X hX => ?_) sq ?_
              · simp [go_sem]
              simp only [Act.put, List.setIfInBounds_toArray, List.set_cons_zero, List.set_cons_succ]
              refine H_take (i := 2) (v := .pointer (some ⟨db, 0, none⟩)) (some 59) rfl rfl (by kernel_rfl) (by kernel_rfl) (by kernel_rfl) (fun _ _ _ h => h) rfl (fun X hX => ?_) sq ?_
              · simp [go_sem]
              simp only [Act.put, List.setIfInBounds_toArray, List.set_cons_zero, List.set_cons_succ]
              refine H_take (i := 3) (v := .slice (some ⟨gk, off, none⟩) L.length cl) (some 60) rfl rfl (by kernel_rfl) (by kernel_rfl) (by kernel_rfl) (fun _ _ _ h => h) rfl (fun X hX => ?_) sq ?_
              · exact run_load1 rfl rfl Try.isAgg25 (by simp only [World.cell?, hX.1]; simp)
              simp only [Act.put, List.setIfInBounds_toArray, List.set_cons_zero, List.set_cons_succ]
              refine H_take (i := 4) (v := .int .i64 (j : Int)) (some 61) rfl rfl (by kernel_rfl) (by kernel_rfl) (by kernel_rfl) (fun _ _ _ h => h) rfl (fun X hX => ?_) sq ?_
              · simp [go_sem]
              simp only [Act.put, List.setIfInBounds_toArray, List.set_cons_zero, List.set_cons_succ]
              refine H_take (i := 5) (v := .pointer (some ⟨gk, off + 2 * j, none⟩)) (some 62) rfl rfl (by kernel_rfl) (by kernel_rfl) (by kernel_rfl) (fun _ _ _ h => h) rfl (fun X hX => ?_) sq ?_
              · simp [go_sem, t3]
              simp only [Act.put, List.setIfInBounds_toArray, List.set_cons_zero, List.set_cons_succ]
              refine H_take (i := 6) (v := .pointer (some ⟨gk, off + 2 * j, none⟩)) (some 63) rfl rfl (by kernel_rfl) (by kernel_rfl) (by kernel_rfl) (fun _ _ _ h => h) rfl (fun X hX => ?_) sq ?_
              · simp [go_sem]
              simp only [Act.put, List.setIfInBounds_toArray, List.set_cons_zero, List.set_cons_succ]
              refine H_take (i := 7) (v := .pointer (some ⟨y.1, 0, none⟩)) (some 64) rfl rfl (by kernel_rfl) (by kernel_rfl) (by kernel_rfl) (fun _ _ _ h => h) rfl (fun X hX => ?_) sq ?_
              · exact run_load1 rfl rfl Try.isAgg29 ((hall X hX.2).1 0 _ rfl)
              simp only [Act.put, List.setIfInBounds_toArray, List.set_cons_zero, List.set_cons_succ]
              refine H_take (i := 9) (v := .pointer (some ⟨db, 0, none⟩)) (some 66) rfl rfl (by kernel_rfl) (by kernel_rfl) (by kernel_rfl) (fun _ _ _ h => h) rfl (fun X hX => ?_) sq ?_
              · simp [go_sem]
              simp only [Act.put, List.setIfInBounds_toArray, List.set_cons_zero, List.set_cons_succ]
              refine H_take (i := 10) (v := .pointer (some ⟨db, 0, none⟩)) (some 67) rfl rfl (by kernel_rfl) (by kernel_rfl) (by kernel_rfl) (fun _ _ _ h => h) rfl (fun X hX => ?_) sq ?_
              · simp [go_sem]
              simp only [Act.put, List.setIfInBounds_toArray, List.set_cons_zero, List.set_cons_succ]
              refine H_take (i := 11) (v := .pointer (some ⟨db, 0, none⟩)) (some 68) rfl rfl (by kernel_rfl) (by kernel_rfl) (by kernel_rfl) (fun _ _ _ h => h) rfl (fun X hX => ?_) sq ?_
              · simp [go_sem]
              simp only [Act.put, List.setIfInBounds_toArray, List.set_cons_zero, List.set_cons_succ]
              refine H_take (i := 12) (v := .slice (some ⟨gk, off, none⟩) L.length cl) (some 69) rfl rfl (by kernel_rfl) (by kernel_rfl) (by kernel_rfl) (fun _ _ _ h => h) rfl (fun X hX => ?_) sq ?_
              · exact run_load1 rfl rfl Try.isAgg25 (by simp only [World.cell?, hX.1]; simp)
              simp only [Act.put, List.setIfInBounds_toArray, List.set_cons_zero, List.set_cons_succ]
              refine H_take (i := 13) (v := .int .i64 (j : Int)) (some 70) rfl rfl (by kernel_rfl) (by kernel_rfl) (by kernel_rfl) (fun _ _ _ h => h) rfl (fun X hX => ?_) sq ?_
              · simp [go_sem]
              simp only [Act.put, List.setIfInBounds_toArray, List.set_cons_zero, List.set_cons_succ]
              refine H_take (i := 14) (v := .pointer (some ⟨gk, off + 2 * j, none⟩)) (some 71) rfl rfl (by kernel_rfl) (by kernel_rfl) (by kernel_rfl) (fun _ _ _ h => h) rfl (fun X hX => ?_) sq ?_
              · simp [go_sem, t3]
              simp only [Act.put, List.setIfInBounds_toArray, List.set_cons_zero, List.set_cons_succ]
              refine H_take (i := 15) (v := .pointer (some ⟨gk, off + 2 * j + 1, none⟩)) (some 72) rfl rfl (by kernel_rfl) (by kernel_rfl) (by kernel_rfl) (fun _ _ _ h => h) rfl (fun X hX => ?_) sq ?_
              · simp [go_sem]
              simp only [Act.put, List.setIfInBounds_toArray, List.set_cons_zero, List.set_cons_succ]
              refine H_take (i := 16) (v := .pointer (some ⟨y.2.1, 0, none⟩)) (some 73) rfl rfl (by kernel_rfl) (by kernel_rfl) (by kernel_rfl) (fun _ _ _ h => h) rfl (fun X hX => ?_) sq ?_
              · exact run_load1 rfl rfl Try.isAgg31 ((hall X hX.2).1 1 _ rfl)
              simp only [Act.put, List.setIfInBounds_toArray, List.set_cons_zero, List.set_cons_succ]
              refine H_call (i := 8) (f := 8) (args := #[.pointer (some ⟨y.1, 0, none⟩)]) (some 65) rfl rfl (by kernel_rfl) rfl (by simp [go_sem]) ((allI wr.drew y.1).mono ?_)
              rintro e W3 ⟨rfl, hW3⟩
              obtain ⟨cb, hcb⟩ : ∃ cb, cb = wr.drew.heap.size := ⟨_, rfl⟩
              rw [← hcb]
              have b3 : Below wr.drew.heap.size wr.drew W3 := by rw [hW3]; exact (Below.refl _ wr.drew).alloc (Nat.le_refl _) _
              have x3 : W3.heap[cb]? = some (.cells #[.pointer (some ⟨y.1, 0, none⟩)] 29 (0, 0)) := by rw [hW3, hcb]; exact heap_alloc_new wr.drew _
              clear hW3 hcb
              have d3 := HDD.out.later b3
              have e3 := d3.prs.each _ _ HP.out.1
              have few3 := d3.prs.few _ _ HP.out.1
              have WH := whole_any w.heap.size W3 p.qb p.mb cb p.rb p.g p.g p.R p.vt p.vh p.T p.H e3.q (by rw [boxedI, HP.out.2.1]; exact x3) e3.r e3.al (by omega)
              rw [HP.out.2.2] at WH
              have sq3 : (fun X : World => X.heap[db]? = some (.cells #[.slice (some ⟨gk, off, none⟩) L.length cl, vk] 28 (0, 0)) ∧ X.heap[gk]? = wr.drew.heap[gk]?) W3 := ⟨(b3.block _ (Array.getElem?_eq_some_iff.1 sq.1).1).trans sq.1, b3.block gk HG.out.1⟩
              clear few3
              refine ⟨_, rfl, sq3, ?_⟩
              simp only [Act.put, List.setIfInBounds_toArray, List.set_cons_zero, List.set_cons_succ]
              refine H_call (i := 17) (f := 7) (args := #[.func (.func 26) #[] #[.pointer (some ⟨cb, 0, none⟩)], .pointer (some ⟨y.2.1, 0, none⟩)]) (some 74) rfl rfl (by kernel_rfl) rfl (by simp [go_sem]) (WH.mono ?_)
              rintro e W6 ⟨rfl, b4⟩
              have sq4 : (fun X : World => X.heap[db]? = some (.cells #[.slice (some ⟨gk, off, none⟩) L.length cl, vk] 28 (0, 0)) ∧ X.heap[gk]? = wr.drew.heap[gk]?) W6 := ⟨(b4.block _ (Array.getElem?_eq_some_iff.1 sq3.1).1).trans sq3.1, (b4.block gk (Nat.lt_of_lt_of_le HG.out.1 b3.size)).trans sq3.2⟩
              clear sq3
              refine ⟨_, rfl, sq4, ?_⟩
              simp only [Act.put, List.setIfInBounds_toArray, List.set_cons_zero, List.set_cons_succ]
              refine H_take (i := 18) (v := .bool true) (some 10) rfl rfl (by kernel_rfl) (by kernel_rfl) (by kernel_rfl) (fun _ _ _ h => h) rfl (fun X hX => ?_) sq4 ?_
              · simp [go_sem]
              simp only [Act.put, List.setIfInBounds_toArray, List.set_cons_zero, List.set_cons_succ]
              refine wpAnyH_done (by kernel_rfl) ?_ _
              have D6 := hideR (HDD.out.later (b3.trans (b4.mono b3.size)))
              clear sq sq4 b3 b4 hall WH x3 d3 e3
              go_upto_region 20 with fail
              have d7 := D6.out.later (drawnQ W6)
              obtain ⟨p, hp, hpq, hpr⟩ := d7.il y (List.mem_of_getElem? HG.out.2)
              have e7 := d7.prs.each _ _ hp
              obtain ⟨at2, ct2, evt⟩ := e7.r.rt.form
              rw [e7.al.lenT] at evt
              obtain ⟨gk', off', eg, _, _, _, hall⟩ := d7.rl.range (j := j) (x := lval y) (by simp [HG.out.2])
              simp only [Option.some.injEq, Addr.mk.injEq, and_true] at eg
              obtain ⟨rfl, rfl⟩ := eg
              have LQ := hideR (lenI W6.drew p.qb p.mb p.g p.R e7.q)
              have sq : (fun X : World => X.heap[db]? = some (.cells #[.slice (some ⟨gk, off, none⟩) L.length cl, vk] 28 (0, 0)) ∧ X.heap[p.rb]? = some (.cells #[p.vt, p.vh, .int .i64 p.g] 34 (0, 0)) ∧ X.heap[gk]? = W6.drew.heap[gk]?) W6.drew := ⟨d7.box, e7.r.box, rfl⟩
              have D7 := hideR d7
              clear d7 e7 hp
              refine wp_region_held_drew (S := (fun X : World => X.heap[db]? = some (.cells #[.slice (some ⟨gk, off, none⟩) L.length cl, vk] 28 (0, 0)) ∧ X.heap[p.rb]? = some (.cells #[p.vt, p.vh, .int .i64 p.g] 34 (0, 0)) ∧ X.heap[gk]? = W6.drew.heap[gk]?)) mixed sq (fun _ => ?_)
              refine H_take (i := 0) (v := .bool true) (some 75) rfl rfl (by kernel_rfl) (by kernel_rfl) (by kernel_rfl) (fun _ _ _ h => h) rfl (fun X hX => ?_) sq ?_
              · simp [go_sem]
              simp only [Act.put, List.setIfInBounds_toArray, List.set_cons_zero, List.set_cons_succ]
              refine H_take (i := 1) (v := .bool false) (some 76) rfl rfl (by kernel_rfl) (by kernel_rfl) (by kernel_rfl) (fun _ _ _ h => h) rfl (fun X hX => ?_) sq ?_
              · simp [go_sem]
              simp only [Act.put, List.setIfInBounds_toArray, List.set_cons_zero, List.set_cons_succ]
              refine H_take (i := 2) (v := .bool false) (some 77) rfl rfl (by kernel_rfl) (by kernel_rfl) (by kernel_rfl) (fun _ _ _ h => h) rfl (fun X hX => ?_) sq ?_
              · simp [go_sem]
              simp only [Act.put, List.setIfInBounds_toArray, List.set_cons_zero, List.set_cons_succ]
              refine H_take (i := 3) (v := .pointer (some ⟨db, 0, none⟩)) (some 78) rfl rfl (by kernel_rfl) (by kernel_rfl) (by kernel_rfl) (fun _ _ _ h => h) rfl (fun X hX => ?_) sq ?_
              · simp [go_sem]
              simp only [Act.put, List.setIfInBounds_toArray, List.set_cons_zero, List.set_cons_succ]
              refine H_take (i := 4) (v := .pointer (some ⟨db, 0, none⟩)) (some 79) rfl rfl (by kernel_rfl) (by kernel_rfl) (by kernel_rfl) (fun _ _ _ h => h) rfl (fun X hX => ?_) sq ?_
              · simp [go_sem]
              simp only [Act.put, List.setIfInBounds_toArray, List.set_cons_zero, List.set_cons_succ]
              refine H_take (i := 5) (v := .pointer (some ⟨db, 0, none⟩)) (some 80) rfl rfl (by kernel_rfl) (by kernel_rfl) (by kernel_rfl) (fun _ _ _ h => h) rfl (fun X hX => ?_) sq ?_
              · simp [go_sem]
              simp only [Act.put, List.setIfInBounds_toArray, List.set_cons_zero, List.set_cons_succ]
              refine H_take (i := 6) (v := .slice (some ⟨gk, off, none⟩) L.length cl) (some 81) rfl rfl (by kernel_rfl) (by kernel_rfl) (by kernel_rfl) (fun _ _ _ h => h) rfl (fun X hX => ?_) sq ?_
              · exact run_load1 rfl rfl Try.isAgg25 (by simp only [World.cell?, hX.1]; simp)
              simp only [Act.put, List.setIfInBounds_toArray, List.set_cons_zero, List.set_cons_succ]
              refine H_take (i := 7) (v := .int .i64 (j : Int)) (some 82) rfl rfl (by kernel_rfl) (by kernel_rfl) (by kernel_rfl) (fun _ _ _ h => h) rfl (fun X hX => ?_) sq ?_
              · simp [go_sem]
              simp only [Act.put, List.setIfInBounds_toArray, List.set_cons_zero, List.set_cons_succ]
              refine H_take (i := 8) (v := .pointer (some ⟨gk, off + 2 * j, none⟩)) (some 83) rfl rfl (by kernel_rfl) (by kernel_rfl) (by kernel_rfl) (fun _ _ _ h => h) rfl (fun X hX => ?_) sq ?_
              · simp [go_sem, t3]
              simp only [Act.put, List.setIfInBounds_toArray, List.set_cons_zero, List.set_cons_succ]
              refine H_take (i := 9) (v := .pointer (some ⟨gk, off + 2 * j, none⟩)) (some 84) rfl rfl (by kernel_rfl) (by kernel_rfl) (by kernel_rfl) (fun _ _ _ h => h) rfl (fun X hX => ?_) sq ?_
              · simp [go_sem]
              simp only [Act.put, List.setIfInBounds_toArray, List.set_cons_zero, List.set_cons_succ]
              refine H_take (i := 10) (v := .pointer (some ⟨p.qb, 0, none⟩)) (some 85) rfl rfl (by kernel_rfl) (by kernel_rfl) (by kernel_rfl) (fun _ _ _ h => h) rfl (fun X hX => ?_) sq ?_
              · rw [hpq]; exact run_load1 rfl rfl Try.isAgg29 ((hall X hX.2.2).1 0 _ rfl)
              simp only [Act.put, List.setIfInBounds_toArray, List.set_cons_zero, List.set_cons_succ]
              refine H_take (i := 12) (v := .pointer (some ⟨db, 0, none⟩)) (some 87) rfl rfl (by kernel_rfl) (by kernel_rfl) (by kernel_rfl) (fun _ _ _ h => h) rfl (fun X hX => ?_) sq ?_
              · simp [go_sem]
              simp only [Act.put, List.setIfInBounds_toArray, List.set_cons_zero, List.set_cons_succ]
              refine H_take (i := 13) (v := .pointer (some ⟨db, 0, none⟩)) (some 88) rfl rfl (by kernel_rfl) (by kernel_rfl) (by kernel_rfl) (fun _ _ _ h => h) rfl (fun X hX => ?_) sq ?_
              · simp [go_sem]
              simp only [Act.put, List.setIfInBounds_toArray, List.set_cons_zero, List.set_cons_succ]
              refine H_take (i := 14) (v := .pointer (some ⟨db, 0, none⟩)) (some 89) rfl rfl (by kernel_rfl) (by kernel_rfl) (by kernel_rfl) (fun _ _ _ h => h) rfl (fun X hX => ?_) sq ?_
              · simp [go_sem]
              simp only [Act.put, List.setIfInBounds_toArray, List.set_cons_zero, List.set_cons_succ]
              refine H_take (i := 15) (v := .slice (some ⟨gk, off, none⟩) L.length cl) (some 90) rfl rfl (by kernel_rfl) (by kernel_rfl) (by kernel_rfl) (fun _ _ _ h => h) rfl (fun X hX => ?_) sq ?_
              · exact run_load1 rfl rfl Try.isAgg25 (by simp only [World.cell?, hX.1]; simp)
              simp only [Act.put, List.setIfInBounds_toArray, List.set_cons_zero, List.set_cons_succ]
              refine H_take (i := 16) (v := .int .i64 (j : Int)) (some 91) rfl rfl (by kernel_rfl) (by kernel_rfl) (by kernel_rfl) (fun _ _ _ h => h) rfl (fun X hX => ?_) sq ?_
              · simp [go_sem]
              simp only [Act.put, List.setIfInBounds_toArray, List.set_cons_zero, List.set_cons_succ]
              refine H_take (i := 17) (v := .pointer (some ⟨gk, off + 2 * j, none⟩)) (some 92) rfl rfl (by kernel_rfl) (by kernel_rfl) (by kernel_rfl) (fun _ _ _ h => h) rfl (fun X hX => ?_) sq ?_
              · simp [go_sem, t3]
              simp only [Act.put, List.setIfInBounds_toArray, List.set_cons_zero, List.set_cons_succ]
              refine H_take (i := 18) (v := .pointer (some ⟨gk, off + 2 * j + 1, none⟩)) (some 93) rfl rfl (by kernel_rfl) (by kernel_rfl) (by kernel_rfl) (fun _ _ _ h => h) rfl (fun X hX => ?_) sq ?_
              · simp [go_sem]
              simp only [Act.put, List.setIfInBounds_toArray, List.set_cons_zero, List.set_cons_succ]
              refine H_take (i := 19) (v := .pointer (some ⟨p.rb, 0, none⟩)) (some 94) rfl rfl (by kernel_rfl) (by kernel_rfl) (by kernel_rfl) (fun _ _ _ h => h) rfl (fun X hX => ?_) sq ?_
              · rw [hpr]; exact run_load1 rfl rfl Try.isAgg31 ((hall X hX.2.2).1 1 _ rfl)
              simp only [Act.put, List.setIfInBounds_toArray, List.set_cons_zero, List.set_cons_succ]
              refine H_take (i := 20) (v := .pointer (some ⟨p.rb, 0, none⟩)) (some 95) rfl rfl (by kernel_rfl) (by kernel_rfl) (by kernel_rfl) (fun _ _ _ h => h) rfl (fun X hX => ?_) sq ?_
              · simp [go_sem]
              simp only [Act.put, List.setIfInBounds_toArray, List.set_cons_zero, List.set_cons_succ]
              refine H_take (i := 21) (v := .pointer (some ⟨p.rb, 0, none⟩)) (some 96) rfl rfl (by kernel_rfl) (by kernel_rfl) (by kernel_rfl) (fun _ _ _ h => h) rfl (fun X hX => ?_) sq ?_
              · simp [go_sem]
              simp only [Act.put, List.setIfInBounds_toArray, List.set_cons_zero, List.set_cons_succ]
              refine H_take (i := 22) (v := .slice at2 p.R.length ct2) (some 97) rfl rfl (by kernel_rfl) (by kernel_rfl) (by kernel_rfl) (fun _ _ _ h => h) rfl (fun X hX => ?_) sq ?_
              · rw [← evt]; exact run_load1 rfl rfl Try.isAgg32 (by simp only [World.cell?, hX.2.1]; simp)
              simp only [Act.put, List.setIfInBounds_toArray, List.set_cons_zero, List.set_cons_succ]
              refine H_take (i := 23) (v := .int .i64 (p.R.length : Int)) (some 98) rfl rfl (by kernel_rfl) (by kernel_rfl) (by kernel_rfl) (fun _ _ _ h => h) rfl (fun X hX => ?_) sq ?_
              · simp [go_sem]
              simp only [Act.put, List.setIfInBounds_toArray, List.set_cons_zero, List.set_cons_succ]
              refine H_call (i := 11) (f := 9) (args := #[.pointer (some ⟨p.qb, 0, none⟩)]) (some 86) rfl rfl (by kernel_rfl) rfl (by simp [go_sem]) (LQ.out.mono ?_)
              rintro e U4 ⟨rfl, hU⟩
              subst hU
              refine ⟨_, rfl, sq, ?_⟩
              simp only [Act.put, List.setIfInBounds_toArray, List.set_cons_zero, List.set_cons_succ]
              refine H_take (i := 24) (v := .bool false) (some 99) rfl rfl (by kernel_rfl) (by kernel_rfl) (by kernel_rfl) (fun _ _ _ h => h) rfl (fun X hX => ?_) sq ?_
              · simp [go_sem]
              simp only [Act.put, List.setIfInBounds_toArray, List.set_cons_zero, List.set_cons_succ]
              refine H_take (i := 25) (v := .bool false) (some 100) rfl rfl (by kernel_rfl) (by kernel_rfl) (by kernel_rfl) (fun _ _ _ h => h) rfl (fun X hX => ?_) sq ?_
              · simp [go_sem]
              simp only [Act.put, List.setIfInBounds_toArray, List.set_cons_zero, List.set_cons_succ]
              refine wpAnyH_done (by kernel_rfl) ?_ _
              generalize W6.drew = W7 at D7
              clear sq hall evt hpq hpr LQ D6 HDD HP
              go_wp2_with fail
              go_roundg (L.length - (j + 1))
              case measure => omega
              case rel => exact ⟨j + 1, by go_num, by omega, Nat.le_refl _, D7⟩
            · have t3 : ¬ (j : Int) < (L.length : Int) := by omega
              go_wp2_with fail
              go_ret
              exact ⟨rfl, HJ.out.bel⟩
end Go.Proofs.Ytccpaapbgdpghaa.queuePlays
