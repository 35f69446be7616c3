/-
  The walk of the book's spoil: the marks.
-/
import Derived.Test.YteaccpolmmkclaaDoorSpX
namespace Go.Proofs.YteaccpolmmkclaaDoor
open Go.RowKit

theorem SpG.lens {W w : World} {B Bb hb : Nat} {ov wv : Value} {O Wn : List Pl} {S : List (Value × List (Value × Value))} {S0 gb : Nat} {V : Nat → Value} {R : Nat → List Value} {i k : Nat} (h : SpG W w B Bb hb ov wv O Wn S S0 gb V R i k) (hi : i ≤ 100) (hk : k ≤ 4000) : ∀ j, j < 6 → (R j).length ≤ 1000000 := by
  have h1 := h.few
  have h2 := h.l23
  have h3 := h.l45
  have h4 := h.l0
  have h5 := h.l1
  intro j hj
  match j, hj with
  | 0, _ => omega
  | 1, _ => omega
  | 2, _ => omega
  | 3, _ => omega
  | 4, _ => omega
  | 5, _ => omega
theorem spg_start {W w : World} {B Bb hb : Nat} {ov wv : Value} {O Wn : List Pl} {S : List (Value × List (Value × Value))} (h : SpI W w B Bb hb ov wv O Wn S) (hB : B ≤ w.heap.size) : SpG W (w.alloc (.cells #[.slice none 0 0, .slice none 0 0, .slice none 0 0, .slice none 0 0, .slice none 0 0, .slice none 0 0] 64)) B Bb hb ov wv O Wn S w.heap.size w.heap.size (fun _ => .slice none 0 0) (fun _ => []) 0 0 := by
  have b := (Below.refl w.heap.size w).alloc (Nat.le_refl _) (.cells #[.slice none 0 0, .slice none 0 0, .slice none 0 0, .slice none 0 0, .slice none 0 0, .slice none 0 0] 64)
  refine ⟨h.later b, ⟨heap_alloc_new w _, fun i hi => World.ownsRow_nil _ _ _ _, fun i j hi hj hij g e => by cases e⟩, h.kept.size, Nat.le_refl _, by simp, hB, fun g q => ?_, rfl, rfl, rfl, rfl, by simp, fun n v v' h1 => by simp at h1, fun n v v' h1 => by simp at h1, fun n v v' h1 => by simp at h1⟩
  rw [← h.sk] at q
  exact (h.al.sq q).2.1
theorem step_nil_one (n : Int) : ∀ u ∈ [(Value.int .i64 n), .int .i64 0, .slice none 0 0, .int .i64 0, .slice none 0 0], u.oneCell' = true := by
  intro u hu
  simp at hu
  rcases hu with rfl | rfl | rfl | rfl | rfl <;> rfl
theorem field_steps (a b c : Value) (d : Option Addr) (n m : Nat) (w : World) : (Instr.field 31 (.agg #[a, b, c, .slice d n m]) 1).run Tryd.prog w = .ok (.slice d n m) w := by kernel_rfl
theorem gq_upd {w : World} {gb i : Nat} {V : Nat → Value} {v2 : Value} {o : Obj} (hi : i < 6) (hv : v2.ownBlock = (V i).ownBlock ∨ v2.ownBlock = some (w.alloc o).heap.size) (g : Nat) (q : GQ gb (upd V i v2) g) : GQ gb V g ∨ w.heap.size ≤ g := by
  rcases q with e | ⟨j, hj, e⟩
  · exact .inl (.inl e)
  · by_cases hji : j = i
    · subst hji
      simp only [upd, if_true] at e
      rcases hv with hv | hv
      · exact .inl (.inr ⟨j, hj, by rw [← hv, e]⟩)
      · rw [hv] at e; simp at e; exact .inr (by omega)
    · simp only [upd, hji, if_false] at e
      exact .inl (.inr ⟨j, hj, e⟩)
theorem wrap_neg (n : Nat) (h : n ≤ 1000000) : IntKind.i64.wrap (-(n : Int)) = -(n : Int) := by
  rw [IntKind.wrap_i64]
  omega
theorem wrap_n (n : Nat) (h : n ≤ 900000) : IntKind.i64.wrap ((n : Int) + 1) = (n : Int) + 1 ∧ IntKind.i64.wrap (-((n : Int) + 1)) = -((n : Int) + 1) := by
  rw [IntKind.wrap_i64, IntKind.wrap_i64]
  omega
set_option maxHeartbeats 16000000 in
set_option maxRecDepth 1000000 in
theorem spoil_any (W : World) (B Bb hb : Nat) (ov wv : Value) (O Wn : List Pl) (S : List (Value × List (Value × Value))) (h : SpI W W B Bb hb ov wv O Wn S) (hN : O.length ≤ 100) (hB : B ≤ W.heap.size) :
    Calls Tryd.prog 8 #[.pointer (some ⟨hb, 0, none⟩)] W fun e w' => e = .returned (.bool true) ∧ Kept (SpQ S) W w' := by
  obtain ⟨ao, co, eo⟩ := row4_form h.bk.out
  obtain ⟨aw, cw, ew⟩ := row4_form h.bk.want
  rw [← h.ag.len] at ew
  have CH := hide (bholds_any W Bb hb ov wv O Wn h.bk h.agree (by omega))
  obtain ⟨N, hNN⟩ : ∃ N, N = O.length := ⟨_, rfl⟩
  rw [← hNN] at hN eo ew
  subst eo ew
  have HS := hide h
  have HNN := hide hNN
  clear h hNN
  go_enter Tryd.func8, Tryd.ntmps8
  go_wp2_with fail
  refine CH.out.mono ?_
  rintro e w1 ⟨rfl, b1⟩
  have HS1 := hide (HS.out.later b1)
  have k0 := HS1.out.bk.cells.1
  clear b1 CH HS
  go_wp2_with fail
  clear k0
  go_loopg [4, 5] N (fun gk s4 s5 wr => ∃ (n j : Nat) (O' Wn' : List Pl), s4 = .int .i64 (n : Int) ∧ s5 = .int .i64 (j : Int) ∧ N - j ≤ gk ∧ j ≤ N ∧ n ≤ 4000 * j ∧ Hid (O'.length = N) ∧ Hid (SpI W wr B Bb hb (.slice ao N co) (.slice aw N cw) O' Wn' S))
  case atStart => exact ⟨0, 0, O, Wn, rfl, rfl, by omega, by omega, by omega, HNN.out.symm, HS1⟩
  case round =>
    obtain ⟨n, j, O', Wn', rfl, rfl, hgk, hj, hn, HLO, HI⟩ := hrel
    clear HS1
    have k0 := HI.out.bk.cells.1
    by_cases hlt : j < N
    · have tlt : (j : Int) < (N : Int) := by omega
      obtain ⟨x, y, hx, hy, hX, hY, hyl⟩ := HI.out.at (i := j) (by rw [HLO.out]; exact hlt)
      obtain ⟨go, co', eo, _, _, _, m3⟩ := row4_at HI.out.bk.out hx
      simp only [Value.slice.injEq] at eo
      obtain ⟨rfl, q1, rfl⟩ := eo
      obtain ⟨ax, cx, ex⟩ := (HI.out.al.st _ _ hX).form
      rw [ex] at m3
      obtain ⟨K, hK⟩ : ∃ K, K = x.l.length := ⟨_, rfl⟩
      have hK4 := (HI.out.ag.few j x hx).1
      rw [← hK] at m3 hK4
      have HK := hide (And.intro hx hK)
      clear q1 hx hy hX hY hyl ex hK
      go_wp2_with fail
      clear k0 m3
      go_loopg [4, 6] K (fun gk s4 s6 wr => ∃ (n m : Nat) (O' Wn' : List Pl) (x : Pl), s4 = .int .i64 (n : Int) ∧ s6 = .int .i64 (m : Int) ∧ K - m ≤ gk ∧ m ≤ K ∧ n ≤ 4000 * j + m ∧ Hid (O'.length = N) ∧ Hid (O'[j]? = some x ∧ K = x.l.length) ∧ Hid (SpI W wr B Bb hb (.slice (some ⟨go, 0, none⟩) N co) (.slice aw N cw) O' Wn' S))
      case atStart => exact ⟨n, 0, O', Wn', x, rfl, rfl, by omega, by omega, by omega, HLO, HK, HI⟩
      case round =>
        clear HI HLO HK hn
        obtain ⟨n, m, O', Wn', x, rfl, rfl, hgk', hm, hn, HLO, HK, HI⟩ := hrel
        have hnb : n ≤ 800000 := by omega
        obtain ⟨x', y, hx, hy, hX, hY, hyl⟩ := HI.out.at (i := j) (by rw [HLO.out]; exact hlt)
        obtain rfl : x' = x := Option.some.inj (hx.symm.trans HK.out.1)
        have k0 := HI.out.bk.cells.1
        obtain ⟨go', co', eo, _, _, _, m3⟩ := row4_at HI.out.bk.out hx
        simp only [Value.slice.injEq, Option.some.injEq, Addr.mk.injEq, and_true] at eo
        obtain ⟨rfl, q1, rfl⟩ := eo
        clear q1
        by_cases hmt : m < K
        · have tmt : (m : Int) < (K : Int) := by omega
          have k1 := HI.out.bk.cells.2.1
          obtain ⟨gw, cw', ew, _, _, _, n3⟩ := row4_at HI.out.bk.want hy
          simp only [Value.slice.injEq] at ew
          obtain ⟨rfl, q1, rfl⟩ := ew
          obtain ⟨a, ha⟩ : ∃ a, x'.l[m]? = some a := ⟨_, List.getElem?_eq_getElem (by rw [← HK.out.2]; exact hmt)⟩
          obtain ⟨b, hb'⟩ : ∃ b, y.l[m]? = some b := ⟨_, List.getElem?_eq_getElem (by rw [hyl, ← HK.out.2]; exact hmt)⟩
          have hpp : a.p = b.p := by
            have := congrArg (·[m]?) (HI.out.ag.all j x' y hx hy).2.2.2
            simpa [ha, hb'] using this
          obtain ⟨gx, cx, ex, x0, x1, x2, x3, x4, _⟩ := row5_at (HI.out.al.st _ _ hX).1 ha
          obtain ⟨gy, cy, ey, y0, y1, y2, y3, y4, _⟩ := row5_at (HI.out.al.st _ _ hY).1 hb'
          rw [hyl, ← HK.out.2] at ey
          rw [← HK.out.2] at ex
          rw [ex] at m3
          rw [ey] at n3
          have sa := (HI.out.al.st _ _ hX).2 a (List.mem_of_getElem? ha)
          have sb := (HI.out.al.st _ _ hY).2 b (List.mem_of_getElem? hb')
          have hap := HI.out.al.al hX hY ha hb' (by rw [HLO.out]; omega)
          rw [← hpp] at sb y0 y1 y3
          obtain ⟨wn, wg⟩ := wrap_n n (Nat.le_trans hnb (by decide))
          have CM : Hid (∀ X, Below wr.heap.size wr X → Calls Tryd.prog 21 #[.agg #[.int .i64 a.p.kind, .int .i64 a.p.conn, a.dv, .int .i64 a.p.brk, a.kv], .agg #[.int .i64 a.p.kind, .int .i64 a.p.conn, b.dv, .int .i64 a.p.brk, b.kv], .int .i64 ((n : Int) + 1)] X fun e w' => e = .returned (.tuple #[]) ∧ Kept (MB a.dv a.kv b.dv b.kv) X w' ∧ Own w' B a.dv (List.replicate a.p.data.length (mk1 (n + 1))) ∧ Own w' B b.dv (List.replicate a.p.data.length (mk1 (n + 1))) ∧ OwnI w' B a.kv (List.replicate a.p.keep.length (-((n : Int) + 1))) ∧ OwnI w' B b.kv (List.replicate a.p.keep.length (-((n : Int) + 1)))) := fun X hX => by
            have := mark_any X B (n + 1) a.p a.dv a.kv b.dv b.kv (Nat.le_trans (Nat.succ_le_succ hnb) (by decide)) (sa.1.below hX) (sb.1.below hX) (sa.2.below hX) (sb.2.below hX) hap.1 hap.2
            rw [show (((n + 1 : Nat)) : Int) = (n : Int) + 1 from rfl] at this
            exact this
          have HMK : Hid (∀ w1, Kept (MB a.dv a.kv b.dv b.kv) wr w1 → Own w1 B a.dv (List.replicate a.p.data.length (mk1 (n + 1))) → Own w1 B b.dv (List.replicate a.p.data.length (mk1 (n + 1))) → OwnI w1 B a.kv (List.replicate a.p.keep.length (-((n : Int) + 1))) → OwnI w1 B b.kv (List.replicate a.p.keep.length (-((n : Int) + 1))) →
              w1.cell? ⟨gx, m * 5, none⟩ = some (.int .i64 a.p.kind) ∧ w1.frozen? ⟨gx, m * 5, none⟩ = false ∧ (w1.setCell ⟨gx, m * 5, none⟩ (.int .i64 (-((n : Int) + 1)))).cell? ⟨gy, m * 5, none⟩ = some (.int .i64 b.p.kind) ∧ (w1.setCell ⟨gx, m * 5, none⟩ (.int .i64 (-((n : Int) + 1)))).frozen? ⟨gy, m * 5, none⟩ = false ∧
              BkAt w1 Bb hb (.slice (some ⟨go, 0, none⟩) N co) (.slice (some ⟨gw, 0, none⟩) N cw) O' Wn' ∧ BkAt (w1.setCell ⟨gx, m * 5, none⟩ (.int .i64 (-((n : Int) + 1)))) Bb hb (.slice (some ⟨go, 0, none⟩) N co) (.slice (some ⟨gw, 0, none⟩) N cw) O' Wn' ∧
              SpI W ((w1.setCell ⟨gx, m * 5, none⟩ (.int .i64 (-((n : Int) + 1)))).setCell ⟨gy, m * 5, none⟩ (.int .i64 (-((n : Int) + 1)))) B Bb hb (.slice (some ⟨go, 0, none⟩) N co) (.slice (some ⟨gw, 0, none⟩) N cw) (O'.set j (x'.turn m a (mkS (n + 1) a.p))) (Wn'.set j (y.turn m b (mkS (n + 1) b.p))) S) := fun w1 k1 o1 o2 o3 o4 => by
            have := HI.out.mark (n := n + 1) (by rw [HLO.out]; exact hlt) hx hy ha hb' hpp ex ey k1 o1 o2 (by rw [show (((n + 1 : Nat)) : Int) = (n : Int) + 1 from rfl]; exact o3) (by rw [show (((n + 1 : Nat)) : Int) = (n : Int) + 1 from rfl]; exact o4)
            rw [show (((n + 1 : Nat)) : Int) = (n : Int) + 1 from rfl] at this
            exact this
          have HXY := hide (And.intro hx (And.intro hy (And.intro ex ey)))
          clear q1 hx hy hX hY hyl ha hb' hpp ex ey sa sb hap
          go_upto_region 10 with fail
          go_cut [4] from 39 to 62 (fun s4 wx => s4 = .int .i64 ((n : Int) + 1) ∧ Hid (Kept (MB a.dv a.kv b.dv b.kv) wr wx ∧ Own wx B a.dv (List.replicate a.p.data.length (mk1 (n + 1))) ∧ Own wx B b.dv (List.replicate a.p.data.length (mk1 (n + 1))) ∧ OwnI wx B a.kv (List.replicate a.p.keep.length (-((n : Int) + 1))) ∧ OwnI wx B b.kv (List.replicate a.p.keep.length (-((n : Int) + 1)))))
          case first =>
            go_region_law (first
              | (go_simp
                 go_at_call 21
                 refine (CM.out _ (by first | exact (Below.refl _ wr).drew | exact Below.refl _ wr)).mono ?_
                 rintro e w2 ⟨rfl, k2, o1, o2, o3, o4⟩
                 have HM2 : Hid (Kept (MB a.dv a.kv b.dv b.kv) wr w2 ∧ Own w2 B a.dv (List.replicate a.p.data.length (mk1 (n + 1))) ∧ Own w2 B b.dv (List.replicate a.p.data.length (mk1 (n + 1))) ∧ OwnI w2 B a.kv (List.replicate a.p.keep.length (-((n : Int) + 1))) ∧ OwnI w2 B b.kv (List.replicate a.p.keep.length (-((n : Int) + 1)))) := ⟨⟨k2.os, k2.tape, k2.output, k2.size, k2.block⟩, o1, o2, o3, o4⟩
                 clear k2 o1 o2 o3 o4))
            all_goals (
              go_wp2_with fail
              go_meet
              exact ⟨rfl, HM2⟩)
          case rest =>
            obtain ⟨rfl, HM2⟩ := hcut
            obtain ⟨z0, z1, z2, z3, z4, z5, z6⟩ := HMK.out wc HM2.out.1 HM2.out.2.1 HM2.out.2.2.1 HM2.out.2.2.2.1 HM2.out.2.2.2.2
            clear x0 x1 x2 x3 x4 y0 y1 y2 y3 y4 k0 k1 m3 n3 CM
            have k0 := z4.cells.1
            obtain ⟨_, _, eo', _, _, _, m3⟩ := row4_at z4.out HXY.out.1
            simp only [Value.slice.injEq, Option.some.injEq, Addr.mk.injEq, and_true] at eo'
            obtain ⟨rfl, q1, _⟩ := eo'
            rw [HXY.out.2.2.1] at m3
            have k1 := z5.cells.2.1
            obtain ⟨_, _, ew', _, _, _, n3⟩ := row4_at z5.want HXY.out.2.1
            simp only [Value.slice.injEq, Option.some.injEq, Addr.mk.injEq, and_true] at ew'
            obtain ⟨rfl, q2, _⟩ := ew'
            rw [HXY.out.2.2.2] at n3
            have H7 := hide z6
            clear q1 q2 z4 z5 z6
            go_wp2_with fail
            go_roundg (K - (m + 1))
            case measure => omega
            case rel =>
              refine ⟨n + 1, m + 1, _, _, x'.turn m a (mkS (n + 1) a.p), by go_num, by go_num, Nat.le_refl _, hmt, Nat.succ_le_succ hn, ?_, ?_, H7⟩
              · show _ = _
                rw [List.length_set, HLO.out]
              · refine ⟨?_, ?_⟩
                · rw [List.getElem?_set_self (by rw [HLO.out]; exact hlt)]
                · simp only [Pl.turn, List.length_set]
                  exact HK.out.2
        · have tmt : ¬ (m : Int) < (K : Int) := by omega
          obtain ⟨ax, cx, ex⟩ := (HI.out.al.st _ _ hX).form
          rw [ex, ← HK.out.2] at m3
          clear hx hy hX hY hyl ex
          go_wp2_with fail
          go_roundg (N - (j + 1))
          case measure => omega
          case rel => exact ⟨n, j + 1, O', Wn', by go_num, by go_num, Nat.le_refl _, hlt, by omega, HLO, HI⟩
    · have tlt : ¬ (j : Int) < (N : Int) := by omega
      have CH := hide (bholds_any wr Bb hb _ _ O' Wn' HI.out.bk HI.out.agree (by rw [HLO.out]; omega))
      have hn4 : n ≤ 400000 := by omega
      go_wp2_with fail
      refine CH.out.mono ?_
      rintro e w2 ⟨rfl, b2⟩
      have HI2 := hide (HI.out.later b2)
      have hz2 : B ≤ w2.heap.size := Nat.le_trans hB HI2.out.kept.size
      have HG0 := hide (spg_start HI2.out hz2)
      have k0 := HG0.out.sp.bk.cells.1
      obtain ⟨gb, hgb⟩ : ∃ gb, gb = w2.heap.size := ⟨_, rfl⟩
      clear b2 CH HI HI2 hz2
      go_upto_region 15 with fail
      rw [← hgb] at HG0 ⊢
      have HGB := hide hgb
      clear hgb
      generalize w2.alloc (.cells #[.slice none 0 0, .slice none 0 0, .slice none 0 0, .slice none 0 0, .slice none 0 0, .slice none 0 0] 64) = w3 at HG0 k0 ⊢
      go_wp2_with fail
      clear k0 HGB
      go_loopg [4, 8] N (fun gk s4 s8 wr => ∃ (n j : Nat) (V : Nat → Value) (R : Nat → List Value), s4 = .int .i64 (n : Int) ∧ s8 = .int .i64 (j : Int) ∧ N - j ≤ gk ∧ j ≤ N ∧ n ≤ 400000 + 4000 * j ∧ Hid (SpG W wr B Bb hb (.slice ao N co) (.slice aw N cw) O' Wn' S gb gb V R j 0))
      case atStart => exact ⟨n, 0, _, _, rfl, rfl, by omega, by omega, by omega, HG0⟩
      case round =>
        clear HG0 hn tlt hn4 hlt hgk hj
        obtain ⟨n, j, V, R, rfl, rfl, hgk, hj, hn, HG⟩ := hrel
        have k0 := HG.out.sp.bk.cells.1
        by_cases hlt : j < N
        · have tlt : (j : Int) < (N : Int) := by omega
          obtain ⟨x, y, hx, hy, hX, hY, hyl⟩ := HG.out.sp.at (i := j) (by rw [HLO.out]; exact hlt)
          obtain ⟨go, co', eo, _, _, _, m3⟩ := row4_at HG.out.sp.bk.out hx
          simp only [Value.slice.injEq] at eo
          obtain ⟨rfl, q1, rfl⟩ := eo
          obtain ⟨ax, cx, ex⟩ := (HG.out.sp.al.st _ _ hX).form
          rw [ex] at m3
          obtain ⟨K, hK⟩ : ∃ K, K = x.l.length := ⟨_, rfl⟩
          have hK4 := (HG.out.sp.ag.few j x hx).1
          rw [← hK] at m3 hK4 ex
          have HK := hide (And.intro hx (And.intro hK (And.intro hy (And.intro hX (And.intro hY (And.intro hyl ex))))))
          clear q1 hx hy hX hY hyl ex hK
          go_wp2_with fail
          clear k0 m3
          go_loopg [4, 9] K (fun gk s4 s9 wr => ∃ (n m : Nat) (V : Nat → Value) (R : Nat → List Value), s4 = .int .i64 (n : Int) ∧ s9 = .int .i64 (m : Int) ∧ K - m ≤ gk ∧ m ≤ K ∧ n ≤ 400000 + 4000 * j + m ∧ Hid (SpG W wr B Bb hb (.slice (some ⟨go, 0, none⟩) N co) (.slice aw N cw) O' Wn' S gb gb V R j m))
          case atStart => exact ⟨n, 0, V, R, rfl, rfl, by omega, by omega, by omega, HG⟩
          case round =>
            clear HG hn
            obtain ⟨n, m, V, R, rfl, rfl, hgk', hm, hn, HG⟩ := hrel
            have hnb : n ≤ 804000 := by omega
            have k0 := HG.out.sp.bk.cells.1
            obtain ⟨go', co', eo, _, _, _, m3⟩ := row4_at HG.out.sp.bk.out HK.out.1
            simp only [Value.slice.injEq, Option.some.injEq, Addr.mk.injEq, and_true] at eo
            obtain ⟨rfl, q1, rfl⟩ := eo
            rw [HK.out.2.2.2.2.2.2] at m3
            clear q1
            by_cases hmt : m < K
            · have tmt : (m : Int) < (K : Int) := by omega
              obtain ⟨gw, cw', ew, _, _, _, n3⟩ := row4_at HG.out.sp.bk.want HK.out.2.2.1
              simp only [Value.slice.injEq] at ew
              obtain ⟨rfl, q1, rfl⟩ := ew
              have k1 := HG.out.sp.bk.cells.2.1
              obtain ⟨hx, hK, hy, hX, hY, hyl, hex⟩ := HK.out
              obtain ⟨a, ha⟩ : ∃ a, x.l[m]? = some a := ⟨_, List.getElem?_eq_getElem (by rw [← hK]; exact hmt)⟩
              obtain ⟨b, hb'⟩ : ∃ b, y.l[m]? = some b := ⟨_, List.getElem?_eq_getElem (by rw [hyl, ← hK]; exact hmt)⟩
              have hpp : a.p = b.p := by
                have := congrArg (·[m]?) (HG.out.sp.ag.all j x y hx hy).2.2.2
                simpa [ha, hb'] using this
              obtain ⟨gx, cx', ex, x0, x1, x2, x3, x4, _⟩ := row5_at (HG.out.sp.al.st _ _ hX).1 ha
              obtain ⟨gy, cy, ey, y0, y1, y2, y3, y4, _⟩ := row5_at (HG.out.sp.al.st _ _ hY).1 hb'
              rw [hyl, ← hK] at ey
              rw [hex, ← hK] at ex
              simp only [Value.slice.injEq, true_and] at ex
              obtain ⟨rfl, rfl⟩ := ex
              rw [ey] at n3
              have sa := (HG.out.sp.al.st _ _ hX).2 a (List.mem_of_getElem? ha)
              have sb := (HG.out.sp.al.st _ _ hY).2 b (List.mem_of_getElem? hb')
              have hfd := (HG.out.sp.ag.few j x hx).2 a (List.mem_of_getElem? ha)
              rw [← hpp] at sb y0 y1 y3
              obtain ⟨wn, _⟩ := wrap_n n (Nat.le_trans hnb (by decide))
              have hjL : j < O'.length := by rw [HLO.out]; exact hlt
              have CM : Hid (∀ X, Below wr.heap.size wr X → Calls Tryd.prog 22 #[.pointer (some ⟨gb, 0, none⟩), .agg #[.int .i64 a.p.kind, .int .i64 a.p.conn, a.dv, .int .i64 a.p.brk, a.kv], .agg #[.int .i64 a.p.kind, .int .i64 a.p.conn, b.dv, .int .i64 a.p.brk, b.kv], .int .i64 ((n : Int) + 1)] X fun e w' => e = .returned (.tuple #[]) ∧ ∃ V' R', SpG W w' B Bb hb (.slice (some ⟨go, 0, none⟩) N co) (.slice (some ⟨gw, 0, none⟩) N cw) O' Wn' S gb gb V' R' j (m + 1)) := fun X hX' => by
                have hgl := HG.out.later hX'
                have := more_any X B gb gb (n + 1) V R a.p a.dv a.kv b.dv b.kv hgl.gr (sa.1.below hX') (sa.2.below hX') (sb.1.below hX') (sb.2.below hX') (Nat.le_trans hgl.hB hgl.hz) hgl.hz (Nat.le_trans (Nat.succ_le_succ hnb) (by decide)) hfd.1 hfd.2 (hgl.lens (Nat.le_trans hj hN) (Nat.le_trans hm hK4))
                rw [show (((n + 1 : Nat)) : Int) = (n : Int) + 1 from rfl] at this
                exact this.mono (fun e w' hp => hgl.more hjL hx ha hp)
              clear q1 hx hK hy hX hY hyl hex ha hb' hpp ey sa sb hfd
              go_upto_region 22 with fail
              go_region_law (first
                | (go_simp
                   go_at_call 22
                   refine (CM.out _ (by first | exact (Below.refl _ wr).drew | exact Below.refl _ wr)).mono ?_
                   rintro e w2 ⟨rfl, V2, R2, h2⟩
                   have HM2 := hide h2
                   clear h2))
              all_goals (
                clear x0 x1 x2 x3 x4 y0 y1 y2 y3 y4 k0 k1 m3 n3 CM HG
                go_wp2_with fail
                go_roundg (K - (m + 1))
                case measure => omega
                case rel => exact ⟨n + 1, m + 1, V2, R2, by go_num, by go_num, Nat.le_refl _, hmt, Nat.succ_le_succ hn, HM2⟩)
            · have tmt : ¬ (m : Int) < (K : Int) := by omega
              obtain rfl : m = K := by omega
              obtain ⟨gw, cw', ew, n0, n1, n2, n3⟩ := row4_at HG.out.sp.bk.want HK.out.2.2.1
              simp only [Value.slice.injEq] at ew
              obtain ⟨rfl, q1, rfl⟩ := ew
              have k1 := HG.out.sp.bk.cells.2.1
              obtain ⟨hx, hK, hy, hX, hY, hyl, hex⟩ := HK.out
              obtain ⟨ay, cy, ey⟩ := (HG.out.sp.al.st _ _ hY).form
              rw [hyl, ← hK] at ey
              rw [ey] at n3
              have hjL : j < O'.length := by rw [HLO.out]; exact hlt
              have sy := HG.out.sp.al.st _ _ hY
              rw [ey] at sy
              have hsm : SmallP y.l := by
                have hm4 := (HG.out.sp.ag.all j x y hx hy).2.2.2
                refine ⟨by rw [hyl, ← hK]; omega, fun q hq => ?_⟩
                obtain ⟨r, hr⟩ := List.getElem?_of_mem hq
                obtain ⟨q', hq'⟩ : ∃ q', x.l[r]? = some q' := ⟨_, List.getElem?_eq_getElem (by have := (List.getElem?_eq_some_iff.1 hr).1; omega)⟩
                have e := congrArg (·[r]?) hm4
                have e2 : q'.p = q.p := by simpa [hr, hq'] using e
                rw [← e2]
                exact (HG.out.sp.ag.few j x hx).2 q' (List.mem_of_getElem? hq')
              have CO : Hid (Calls Tryd.prog 19 #[.agg #[.int .i64 y.j, .int .i64 y.s, .int .i64 y.q, .slice ay m cy]] wr fun e w' => Below wr.heap.size wr w' ∧ ∃ owv o, e = .returned (.agg #[.int .i64 y.j, .int .i64 y.s, .int .i64 y.q, owv]) ∧ OwnedAt w' wr.heap.size owv o ∧ o.map (·.p) = y.l.map (·.p)) := by
                have := owned_any wr y.j y.s y.q ay cy y.l (by rw [hyl, ← hK]; exact steps_in sy (by rw [hyl, ← hK]; exact hK4)) hsm
                rw [hyl, ← hK] at this
                exact this
              have hxl : ∀ g, x.sv.ownBlock = some g → g < wr.heap.size := fun g e => ((HG.out.sp.al.st _ _ hX).1.lt g e).2
              have HXL := hide (And.intro hxl (HG.out.sp.al.st _ _ hX).1)
              have hzS := HG.out.hz
              have HSB := hide (Nat.le_trans HG.out.hB HG.out.hz)
              clear q1 hx hK hy hX hY hyl ey sy hsm hxl
              have HEX := hide hex
              clear hex
              go_wp2_with fail
              refine CO.out.mono ?_
              rintro e w3 ⟨b3, owv, o, rfl, ho, hmo⟩
              obtain ⟨va, vc, eva⟩ := row5_form ho.1
              have hol : o.length = m := by have e1 := congrArg List.length hmo; simp at e1; have := HK.out.2.2.2.2.2.1; have := HK.out.2.1; omega
              rw [hol] at eva
              subst eva
              have T0 : Hid (LT wr w3 B x (.slice ax m cx) (.slice va m vc) x.l o) := ⟨Kept.ofBelow b3, own5_later HXL.out.2 b3, by have := own5_later HXL.out.2 b3; rw [HEX.out] at this; exact this, fun g e => .inl (by rw [HEX.out]; exact e), ho.steps.1, fun g e e2 => by have := HXL.out.1 g (by rw [HEX.out]; exact e); have := (ho.1.lt g e2).1; omega, HXL.out.1, Nat.le_refl _⟩
              have HOM := hide (And.intro hmo hol)
              have hfl := field_steps (.int .i64 y.j) (.int .i64 y.s) (.int .i64 y.q) va m vc w3
              clear b3 ho hmo hol k0 k1 m3 n0 n1 n2 n3 CO
              go_wp2_with fail
              clear hfl
              have wg := wrap_neg n (Nat.le_trans hnb (by decide))
              go_loopg [10, 11, 12] 12 (fun gk s10 s11 s12 wq => ∃ (t : Nat) (al : Option Addr) (cl : Nat) (am : Option Addr) (cm : Nat), s10 = .slice al (m + t) cl ∧ s11 = .slice am (m + t) cm ∧ s12 = .int .i64 (t : Int) ∧ 12 - t ≤ gk ∧ t ≤ 12 ∧ Hid (LT wr wq B x (.slice al (m + t) cl) (.slice am (m + t) cm) (x.l ++ List.replicate t (zS n)) (o ++ List.replicate t (zS n))))
              case atStart => exact ⟨0, _, _, _, _, rfl, rfl, rfl, by omega, by omega, by simpa using T0⟩
              case round =>
                clear T0
                obtain ⟨t, al, cl, am, cm, rfl, rfl, rfl, hgt, ht, HT⟩ := hrel
                by_cases htt : t < 12
                · have ttt : (t : Int) < 12 := by omega
                  have hln : (x.l ++ List.replicate t (zS n)).length = m + t := by rw [List.length_append, List.length_replicate, ← HK.out.2.1]
                  have hln2 : (o ++ List.replicate t (zS n)).length = m + t := by rw [List.length_append, List.length_replicate, HOM.out.2]
                  have HLN := hide (And.intro hln hln2)
                  have HRS : Hid (List.replicate (t + 1) (zS n) = List.replicate t (zS n) ++ [zS n]) := List.replicate_succ'
                  have hzq := HT.out.kept.size
                  clear hln hln2
                  go_wp2_with (first
                    | (at_builtin
                       refine wpList_stepsK rfl (.tmp 166) (.tmp 170) rfl B (.slice al (m + t) cl) (x.l ++ List.replicate t (zS n)) rfl (own_alloc HT.out.l _) (some ⟨wr.heap.size, 0, none⟩) 1 (zS n) rfl (src_step wr (zS n).p (.slice none 0 0) (.slice none 0 0) (-(n : Int)) rfl) (step_nil_one _) (by rw [HLN.out.1]; omega) (by rw [World.size_alloc]; have := HSB.out; omega) ?_
                       intro v5 w5 ho hg hk hv
                       obtain ⟨a5, c5, e5⟩ := row5_form ho
                       rw [List.length_append, HLN.out.1] at e5
                       simp only [List.length_cons, List.length_nil, Nat.zero_add] at e5
                       subst e5
                       have T5 := hide (HT.out.growL ho hg hk hv)
                       have hz5 := T5.out.kept.size
                       clear ho hg hk hv)
                    | (at_builtin
                       refine wpList_stepsK rfl (.tmp 172) (.tmp 176) rfl _ (.slice am (m + t) cm) (o ++ List.replicate t (zS n)) rfl (own_alloc T5.out.m.1 _) (some ⟨w5.heap.size, 0, none⟩) 1 (zS n) rfl (src_step w5 (zS n).p (.slice none 0 0) (.slice none 0 0) (-(n : Int)) rfl) (step_nil_one _) (by rw [HLN.out.2]; omega) (by rw [World.size_alloc]; omega) ?_
                       intro v7 w7 ho hg hk hv
                       obtain ⟨a7, c7, e7⟩ := row5_form ho
                       rw [List.length_append, HLN.out.2] at e7
                       simp only [List.length_cons, List.length_nil, Nat.zero_add] at e7
                       subst e7
                       have T7 := hide (T5.out.growM ho hg hv)
                       rw [List.append_assoc, List.append_assoc, ← HRS.out] at T7
                       clear ho hg hk hv))
                  go_roundg (12 - (t + 1))
                  case measure => omega
                  case rel => exact ⟨t + 1, a5, c5, a7, c7, by rw [Nat.add_assoc], by rw [Nat.add_assoc], by go_num, Nat.le_refl _, htt, by rw [← Nat.add_assoc]; exact T7⟩
                · have ttt : ¬ (t : Int) < 12 := by omega
                  obtain rfl : t = 12 := by omega
                  have hjL : j < O'.length := by rw [HLO.out]; exact hlt
                  have GT := hide (HG.out.tail hjL HK.out.1 HT.out.kept HT.out.row)
                  have hlens := GT.out.lens (Nat.le_trans hj hN) hK4
                  have hR0 : (R 0).length ≤ 2147483647 := Nat.le_trans (hlens 0 (by omega)) (by decide)
                  have hR1 : (R 1).length ≤ 2147483647 := Nat.le_trans (hlens 1 (by omega)) (by decide)
                  have cA := GT.out.gr.cell (i := 0) (by omega)
                  have hzg := GT.out.hz
                  clear hlens
                  go_wp2_with (first
                    | (at_builtin
                       refine wpList_pushV rfl (.tmp 182) (.tmp 184) 60 29 rfl Tryd.underlying60 info_stepl gb (V 0) (R 0) rfl wr (.slice al (m + 12) cl) rfl (GT.out.gr.row 0 (by omega)) rfl rfl hR0 hzg ?_
                       intro v5 w5 ho hg hv
                       obtain ⟨a5, c5, e5⟩ := row5_form ho
                       rw [List.length_append] at e5
                       simp only [List.length_cons, List.length_nil, Nat.zero_add] at e5
                       subst e5
                       obtain ⟨q1, q2, q3, q4⟩ := GT.out.gr.push (i := 0) (by omega) ho hg hv
                       have N5 : Hid (GrAt (w5.setCell ⟨gb, 0, none⟩ (.slice a5 ((R 0).length + 1) c5)) gb gb (upd V 0 (.slice a5 ((R 0).length + 1) c5)) (upd R 0 (R 0 ++ [.slice al (m + 12) cl]))) := q1
                       have K5 := hide q2
                       have HV5 := hide (gq_upd (gb := gb) (i := 0) (V := V) (by omega) hv)
                       have cB : (w5.setCell ⟨gb, 0, none⟩ (.slice a5 ((R 0).length + 1) c5)).cell? ⟨gb, 1, none⟩ = some (V 1) := q1.cell (i := 1) (by omega)
                       have HSZ : Hid ((w5.setCell ⟨gb, 0, none⟩ (.slice a5 ((R 0).length + 1) c5)).heap.size = w5.heap.size) := by simp [Hid]
                       have hz5 : gb ≤ (w5.setCell ⟨gb, 0, none⟩ (.slice a5 ((R 0).length + 1) c5)).heap.size := Nat.le_trans hzg q2.size
                       clear ho hg hv q1 q2)
                    | (at_builtin
                       refine wpList_pushV rfl (.tmp 192) (.tmp 194) 60 29 rfl Tryd.underlying60 info_stepl gb (V 1) (R 1) rfl (w5.setCell ⟨gb, 0, none⟩ (.slice a5 ((R 0).length + 1) c5)) (.slice am (m + 12) cm) rfl (N5.out.row 1 (by omega)) (by rw [HSZ.out]; rfl) rfl hR1 hz5 ?_
                       intro v7 w7 ho hg hv
                       obtain ⟨a7, c7, e7⟩ := row5_form ho
                       rw [List.length_append] at e7
                       simp only [List.length_cons, List.length_nil, Nat.zero_add] at e7
                       subst e7
                       obtain ⟨q1, q2, q5, q6⟩ := N5.out.push (i := 1) (by omega) ho hg hv
                       have FIN := hide (GT.out.done HK.out.1 HK.out.2.2.1 hK4 K5.out q1 q2 HV5.out HT.out.l (fun g e => (HT.out.nl g e).imp id (fun h => Nat.le_trans HG.out.hz h)) (HT.out.m.mono HG.out.hz) HOM.out.1)
                       clear ho hg hv q1 q2))
                  clear N5 K5 HV5 HSZ cA cB GT HT HG
                  go_roundg (N - (j + 1))
                  case measure => omega
                  case rel => exact ⟨n, j + 1, _, _, by go_num, by go_num, Nat.le_refl _, hlt, by omega, FIN⟩
        · have tlt : ¬ (j : Int) < (N : Int) := by omega
          clear k0
          have CH := hide (bholds_any wr Bb hb _ _ O' Wn' HG.out.sp.bk HG.out.sp.agree (by rw [HLO.out]; omega))
          have k0 := HG.out.sp.bk.cells.1
          go_wp2_with fail
          refine CH.out.mono ?_
          rintro e w5 ⟨rfl, b5⟩
          have HG5 := hide (HG.out.later b5)
          have CG := hide (gholds_any w5 gb gb V R HG5.out.gr HG5.out.ghold (HG5.out.lens (Nat.le_trans hj hN) (by omega)))
          clear b5 CH k0 HG
          go_wp2_with fail
          refine CG.out.mono ?_
          rintro e w6 ⟨rfl, b6⟩
          have HG6 := hide (HG5.out.later b6)
          clear b6 CG HG5
          go_wp2_with fail
          go_ret
          exact ⟨rfl, HG6.out.sp.kept⟩
end Go.Proofs.YteaccpolmmkclaaDoor
