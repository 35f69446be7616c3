/-
  The walk of ReadDict.
-/
import Derived.Test.YtimgjbjibkljhaaReadL
import Derived.Test.YtimgjbjibkljhaaDictW
import Derived.Deep.AppendLies
import Derived.Deep.RegionWith
import Derived.Deep.Cut
import Derived.Deep.CutRange
namespace Go.Proofs.Ytimgjbjibkljhaa
open Go.RowKit

def two (p : BP) : List Value := [.string p.1, .string p.2]
def twos (ps : List BP) : List Value := ps.flatMap two
theorem twos_length : ∀ ps : List BP, (twos ps).length = ps.length * 2
  | [] => rfl
  | p :: ps => by
    have := twos_length ps
    simp [twos, two] at this ⊢
    omega
theorem twos_get : ∀ (ps : List BP) (j : Nat) (p : BP), ps[j]? = some p → (twos ps)[j * 2]? = some (.string p.1) ∧ (twos ps)[j * 2 + 1]? = some (.string p.2)
  | [], j, p, h => by simp at h
  | q :: ps, 0, p, h => by simp at h; subst h; exact ⟨rfl, rfl⟩
  | q :: ps, j + 1, p, h => by
    have h : ps[j]? = some p := by simpa using h
    have := twos_get ps j p h
    rw [show (j + 1) * 2 = j * 2 + 1 + 1 by omega]
    exact this
/-- A list of pairs in a row of the call's own. -/
abbrev Prs (w : World) (B : Nat) (v : Value) (ps : List BP) : Prop := w.ownsRow B 41 2 v ps.length (twos ps)
theorem Prs.below {W W' : World} {B : Nat} {v : Value} {ps : List BP} (h : Prs W B v ps) (hb : Below W.heap.size W W') : Prs W' B v ps := by
  refine ⟨h.1, ?_⟩
  rcases h.2 with h0 | ⟨g, cap, cur, hv, hB, hg, rest⟩
  · exact .inl h0
  · exact .inr ⟨g, cap, cur, hv, hB, (hb.block g (Array.getElem?_eq_some_iff.1 hg).1).trans hg, rest⟩
theorem Prs.mono {W : World} {B B' : Nat} {v : Value} {ps : List BP} (h : Prs W B v ps) (hB : B' ≤ B) : Prs W B' v ps := by
  refine ⟨h.1, ?_⟩
  rcases h.2 with h0 | ⟨g, cap, cur, hv, hb, rest⟩
  · exact .inl h0
  · exact .inr ⟨g, cap, cur, hv, Nat.le_trans hB hb, rest⟩
theorem Prs.is {W : World} {B : Nat} {v : Value} {ps : List BP} (h : Prs W B v ps) (hl : ps.length ≤ 140737488355328) : ∃ a c, v = .slice a ps.length c ∧ IsPairs W a c ps := by
  rcases h.2 with ⟨rfl, h0⟩ | ⟨g, cap, cur, rfl, hB, hg, hnc, hcm, hcs, htake⟩
  · obtain rfl : ps = [] := List.eq_nil_of_length_eq_zero h0
    exact ⟨none, 0, rfl, by simp, by simp, .inl rfl⟩
  · refine ⟨_, cap, rfl, hnc, hl, .inr ⟨g, 0, rfl, (Array.getElem?_eq_some_iff.1 hg).1, fun j p hj => ?_⟩⟩
    obtain ⟨h1, h2⟩ := twos_get ps j p hj
    have a1 := h.cells (g := g) rfl _ _ h1
    have a2 := h.cells (g := g) rfl _ _ h2
    rw [Go.WideShapes.add_plain] at a1 a2
    rw [Nat.zero_add] at a1 a2
    rw [Nat.zero_add]
    exact ⟨a1, a2⟩
theorem info_pair : (Try.prog.info? 41).map (fun i => (i.zero, i.size, i.bytes)) = some (some (.agg #[.string ⟨#[]⟩, .string ⟨#[]⟩]), 2, 32) := by kernel_rfl
/-- 'append' of one pair. -/
theorem wpList_push_pair {W : World} {ops : Array Oper} {rest : List Oper} {o : Oper} {a : Act} {Q : Exit → Act → World → Prop} (hgd : o.guard = none) (s x : Operand)
    (ho : o.op = .call { callee := .builtin .append, args := #[s, x], argTypes := #[37, 37] })
    (B : Nat) (v : Value) (ps : List BP) (p : BP) (hs : a.eval s = v) (hown : Prs W B v ps) (hx : a.eval x = .slice (some ⟨W.heap.size, 0, none⟩) 1 1) (hR : ps.length ≤ 1073741823) (hB : B ≤ W.heap.size)
    (h : ∀ v' w', Prs w' B v' (ps ++ [p]) → Below B W w' → wpList Try.prog ops Q rest (a.put o.dst v') w') : wpList Try.prog ops Q (o :: rest) a (W.alloc (.cells #[.string p.1, .string p.2] 41)) := by
  obtain ⟨i9, hi, hz0, hz1, hz2⟩ := info_parts info_pair
  have hX := hown.alloc (.cells #[.string p.1, .string p.2] 41)
  refine wpList_append_own _ hgd s x 37 ho B 41 i9 (.agg #[.string ⟨#[]⟩, .string ⟨#[]⟩]) 2 32 Try.underlying37 hi hz0 hz1 hz2 rfl (by decide) v ps.length (twos ps) hs hX ⟨W.heap.size, 0, none⟩ 1 1 (two p) hx rfl ?_ (by intro u hu; simp [two] at hu; rcases hu with rfl | rfl <;> rfl) (by unfold maxLen; omega) (by omega) (by simp; omega) ?_
  · exact World.news_of_block (w := W.alloc (.cells #[.string p.1, .string p.2] 41)) (cs := #[.string p.1, .string p.2]) (heap_alloc_new W _)
  intro v' w' h1 h2 _
  refine h v' w' ?_ ?_
  · show World.ownsRow _ _ _ _ _ _ _
    rw [List.length_append, show twos (ps ++ [p]) = twos ps ++ two p by simp [twos]]
    exact h1
  · exact ((Below.refl B W).alloc hB _).grown h2 (by simp; omega) (fun j hj => (hX.lt j hj).1)

theorem MaxAt.below {w w' : World} (h : MaxAt w) (hb : Below w.heap.size w w') : MaxAt w' := by
  obtain ⟨m, hm⟩ := h
  exact ⟨m, (hb.cell (p := ⟨0, 0, none⟩) (cell_lt hm)).trans hm⟩

def readD (b : Txt) (e : Int) (ps : List BP) : Prop := (e = 0 ∧ ps.length ≤ 256 ∧ okF [] (ps.map un) ∧ b = dictL (ps.map un)) ∨ (e = 92 ∧ ps = [] ∧ ∀ us : List Pr, us.length ≤ 256 → okF [] us → b ≠ dictL us)
def ReadDPost (b : Txt) (w : World) (e : Ending) (w' : World) : Prop := ∃ v er ps, e = .returned (.tuple #[v, .int .i64 er]) ∧ readD b er ps ∧ Prs w' w.heap.size v ps ∧ Below w.heap.size w w'
theorem readD_no {b : Txt} {ps : List BP} {rest : Txt} (hok : okF [] (ps.map un)) (hb : b = dictL (ps.map un) ++ rest) (hne : 0 < rest.length) (hno : ps.length < 256 → ∀ p y, checkE (ps.map un) p = 0 → rest ≠ pairL p ++ y) : readD b 92 [] :=
  .inr ⟨rfl, rfl, no_dict hok hb (fun e => by simp [e] at hne) (fun h => hno (by simpa using h))⟩
theorem dictL_snoc (a : List Pr) (t : Pr) : dictL (a ++ [t]) = dictL a ++ pairL t := by simp [dictL, pairsL]

def CutPost (b o c : Nat) (l : Txt) (w : World) (e : Ending) (w' : World) : Prop := (∃ (k v : List UInt8) (n2 c3 : Nat) (a3 : Option Addr) (fb : Bool), e = .returned (.tuple #[.slice (some ⟨b, o, none⟩) k.length c, .slice a3 n2 c3, .bool fb]) ∧ IsBytes w (some ⟨b, o, none⟩) c k ∧ IsBytes w a3 c3 v ∧ n2 = v.length ∧ (fb = true → l = k ++ [58, 32] ++ v) ∧ ∀ k' v', (58 : UInt8) ∉ k' → l = k' ++ [58, 32] ++ v' → fb = true ∧ k = k' ∧ v = v') ∧ ∃ q, w' = w.drewN q

set_option maxHeartbeats 4000000 in
set_option maxRecDepth 1000000 in
theorem readDict_any (a : Option Addr) (c : Nat) (b : List UInt8) (w : World) (h : IsBytes w a c b) (hb : b.length ≤ 1073741823) (hm : MaxAt w) :
    Calls Try.prog 21 #[.slice a b.length c] w (ReadDPost b w) := by
  obtain ⟨w1, hw1⟩ : ∃ w1, w1 = w.alloc (.cells #[.int .u8 45, .int .u8 45, .int .u8 45, .int .u8 10] 5 (4, 5)) := ⟨_, rfl⟩
  have HW1 : Hid (w1 = w.alloc (.cells #[.int .u8 45, .int .u8 45, .int .u8 45, .int .u8 10] 5 (4, 5))) := hw1
  have B1 : Below w.heap.size w w1 := by rw [hw1]; exact (Below.refl _ w).alloc (Nat.le_refl _) _
  have P1 : w1.heap[w.heap.size]? = some (.cells (u8s headL).toArray 5 (4, 5)) := by rw [hw1]; exact heap_alloc_new _ _
  have HB1 : Hid (Below w.heap.size w w1) := B1
  have HR1 : Hid (IsBytes w1 (some ⟨w.heap.size, 0, none⟩) 4 headL) := const_is headL P1 (by decide)
  have HI1 : Hid (IsBytes w1 a c b) := h.below B1
  have HM1 : Hid (MaxAt w1) := hm.below B1
  clear hw1 B1 P1 h hm
  have kc := conv_new w #[.int .u8 45, .int .u8 45, .int .u8 45, .int .u8 10] 4 4
  by_cases hp : headL.isPrefixOf b = true
  · go_enter Try.func21, Try.ntmps21
    go_wp2
    go_step3
    go_wp2_with (go_at_call 34; rw [← HW1.out]; refine (cutPrefix_any a (some ⟨w.heap.size, 0, none⟩) c 4 b headL w1 HI1.out HR1.out (by decide)).mono ?_; rintro e w' ⟨⟨a4, n4, c4, rfl, hi4, hn4, ha4⟩, hw'⟩; obtain rfl := hw'.symm; clear hw'; rw [hp]; rw [if_pos hp] at hi4 hn4; obtain ⟨b4, o4, rfl⟩ := ha4 hp; have HI4 : Hid (IsBytes w1 (some ⟨b4, o4, none⟩) c4 (b.drop 4)) := hi4; have HN4 : Hid (n4 = (b.drop 4).length) := hn4; clear hi4 hn4 ha4)
    have HP : Hid (b = headL ++ b.drop 4) := by
      obtain ⟨r, hr⟩ := List.isPrefixOf_iff_prefix.1 hp
      show b = headL ++ b.drop 4
      rw [← hr]; rfl
    clear hp HI1 HR1 HW1 kc
    go_step3
    go_wp2
    go_loopg [4, 6] (b.drop 4).length (fun gk s4 s6 wr => ∃ (rest : List UInt8) (a4 : Option Addr) (c4 : Nat) (ts : List BP), s4 = .slice a4 rest.length c4 ∧ rest.length ≤ gk ∧ rest.length ≤ 1073741823 ∧ ts.length ≤ 256 ∧ Hid (IsBytes w1 a4 c4 rest) ∧ Hid (b = dictL (ts.map un) ++ rest) ∧ Hid (okF [] (ts.map un)) ∧ Hid (Prs wr w1.heap.size s6 ts) ∧ Hid (Below w1.heap.size w1 wr))
    case atStart => exact ⟨b.drop 4, _, _, [], by rw [HN4.out], Nat.le_refl _, by simp; omega, by simp, HI4.out, HP.out, trivial, World.ownsRow_nil _ _ _ _, Below.refl _ _⟩
    case round =>
      obtain ⟨rest, a5, c5, ts, rfl, hgk, hrl, hts, HI, HE, HT, HS, HB⟩ := hrel
      clear HI4 HN4 HP
      by_cases hne : 0 < rest.length
      · obtain ⟨b5, o5, rfl⟩ := HI.out.addr hne
        go_wp2_with fail
        go_loopg [7] rest.length (fun gk s7 wq => ∃ k : Nat, s7 = .int .i64 k ∧ k < rest.length ∧ rest.length - k ≤ gk ∧ Hid (Prs wq w1.heap.size u6 ts) ∧ Hid (Below w1.heap.size w1 wq) ∧ Hid ((10 : UInt8) ∉ rest.take k))
        case atStart => exact ⟨0, rfl, hne, Nat.le_refl _, HS.out, HB.out, by show _ ∉ _; simp⟩
        case round =>
          clear HS HB
          obtain ⟨k, rfl, hk, hgi, HS, HB, HN⟩ := hrel
          obtain ⟨x, hx⟩ : ∃ x, rest[k]? = some x := ⟨_, List.getElem?_eq_getElem hk⟩
          have c0 : wr.cell? ⟨b5, o5 + k, none⟩ = some (.int .u8 (x.toNat : Int)) := by
            rcases (HI.out.below HB.out).2.2 with e | ⟨b', o', e, _, hc⟩
            · rw [e] at hne; simp at hne
            · cases e; exact hc k x hx
          have hbr : b5 < wr.heap.size := cell_lt c0
          have HX : Hid (rest[k]? = some x) := hx
          clear hx
          by_cases hx10 : x = 10
          · have hxt : ((x.toNat : Int) != (((⟨#[10]⟩ : ByteArray)[0]'(by decide)).toNat : Int)) = false := by rw [hx10]; rfl
            have HX10 : Hid (rest[k]? = some 10) := by show rest[k]? = _; rw [HX.out, hx10]
            clear hx10
            have hkc : k ≤ c5 := by have := HI.out.1; omega
            have hk1c : k + 1 ≤ c5 := by have := HI.out.1; omega
            obtain ⟨w2, hw2⟩ : ∃ w2, w2 = wr.drew := ⟨_, rfl⟩
            have HW2 : Hid (w2 = wr.drew) := hw2
            have B2 : Below wr.heap.size wr w2 := by rw [hw2]; exact (Below.refl _ wr).drew
            obtain ⟨w3, hw3⟩ : ∃ w3, w3 = w2.alloc (.cells #[.int .u8 58, .int .u8 32] 5 (2, 3)) := ⟨_, rfl⟩
            have HW3 : Hid (w3 = w2.alloc (.cells #[.int .u8 58, .int .u8 32] 5 (2, 3))) := hw3
            have B3 : Below w2.heap.size w2 w3 := by rw [hw3]; exact (Below.refl _ w2).alloc (Nat.le_refl _) _
            have P3 : w3.heap[w2.heap.size]? = some (.cells (u8s [58, 32]).toArray 5 (2, 3)) := by rw [hw3]; exact heap_alloc_new _ _
            have B23 : Below wr.heap.size wr w3 := B2.trans (B3.mono B2.size)
            have HB3 : Hid (Below w1.heap.size w1 w3) := HB.out.trans (B23.mono HB.out.size)
            have HS3 : Hid (Prs w3 w1.heap.size u6 ts) := HS.out.below B23
            have HR3 : Hid (IsBytes w3 (some ⟨w2.heap.size, 0, none⟩) 2 [58, 32]) := const_is [58, 32] P3 (by decide)
            have HI3 : Hid (IsBytes w3 (some ⟨b5, o5, none⟩) c5 rest) := HI.out.below HB3.out
            have HIK : Hid (IsBytes w3 (some ⟨b5, o5, none⟩) c5 (rest.take k)) := HI3.out.take k
            have hkl : (rest.take k).length = k := by simp; omega
            have HC : Hid (Calls Try.prog 38 #[.slice (some ⟨b5, o5, none⟩) k c5, .slice (some ⟨w2.heap.size, 0, none⟩) 2 2] w3 (CutPost b5 o5 c5 (rest.take k) w3)) := by
              have := cut_any b5 o5 (some ⟨w2.heap.size, 0, none⟩) c5 2 (rest.take k) w3 HIK.out HR3.out (by omega) (HM1.out.below HB3.out)
              rw [hkl] at this
              refine this.mono ?_
              rintro e w' ⟨⟨k', v', n2, c3, a3, fb, h1, h2, h3, h4, h5, _, h7⟩, h8⟩
              exact ⟨⟨k', v', n2, c3, a3, fb, h1, h2, h3, h4, h5, h7⟩, h8⟩
            have kc := conv_new w2 #[.int .u8 58, .int .u8 32] 2 2
            clear hw2 B2 hw3 B3 P3 B23 hkl
            have hrp : decide ((0 : Int) < (rest.length : Int)) = true := by simp; omega
            obtain ⟨a6, c6, rfl, hi6⟩ := HS3.out.is (by omega)
            have HI6 : Hid (IsPairs w3 a6 c6 ts) := hi6
            clear hi6
            go_wp2_with fail
            go_region
            rw [← HW2.out]
            go_upto_region 11 with (first
              | (go_at_call 38; rw [← HW3.out]; refine HC.out.mono ?_; rintro e w4 ⟨⟨K, V, n2, c3, a3, fb, rfl, hK, hV, hn2, hfb, hfo⟩, q, hw4⟩; have B4 : Below w3.heap.size w3 w4 := (by rw [hw4]; exact below_drewN (Below.refl _ w3) q); clear hw4; have kt1 := conv_is (hK.below B4) rfl; have kt2 := conv_is (hV.below B4) hn2.symm; have HB4 : Hid (Below w3.heap.size w3 w4) := B4; have HFB : Hid (fb = true → rest.take k = K ++ [58, 32] ++ V) := hfb; have HFO : Hid (∀ k' v', (58 : UInt8) ∉ k' → rest.take k = k' ++ [58, 32] ++ v' → fb = true ∧ K = k' ∧ V = v') := hfo; clear B4 hK hV hn2 hfb hfo))
            obtain ⟨KB, hKB⟩ : ∃ KB : ByteArray, KB = ⟨K.toArray⟩ := ⟨_, rfl⟩
            obtain ⟨VB, hVB⟩ : ∃ VB : ByteArray, VB = ⟨V.toArray⟩ := ⟨_, rfl⟩
            rw [← hKB] at kt1
            rw [← hVB] at kt2
            have HUN : Hid (un (KB, VB) = (K, V)) := by show un (KB, VB) = _; rw [hKB, hVB]; rfl
            clear hKB hVB
            obtain ⟨w5, hw5⟩ : ∃ w5, w5 = w4.alloc (.cells #[.string KB, .string VB] 41) := ⟨_, rfl⟩
            have HW5 : Hid (w5 = w4.alloc (.cells #[.string KB, .string VB] 41)) := hw5
            have B5 : Below w4.heap.size w4 w5 := by rw [hw5]; exact (Below.refl _ w4).alloc (Nat.le_refl _) _
            have hbl : w5.heap[w4.heap.size]? = some (.cells #[.string KB, .string VB] 41 (0, 0)) := by rw [hw5]; exact heap_alloc_new _ _
            have m0 : w5.cell? ⟨w4.heap.size, 0, none⟩ = some (.string KB) := by simp [World.cell?, hbl]
            have m1 : w5.cell? ⟨w4.heap.size, 1, none⟩ = some (.string VB) := by simp [World.cell?, hbl]
            have hlt5 : w4.heap.size < w5.heap.size := cell_lt m0
            have B35 : Below w3.heap.size w3 w5 := HB4.out.trans (B5.mono HB4.out.size)
            have HI5 : Hid (IsPairs w5 a6 c6 ts) := HI6.out.below B35
            have HS5 : Hid (Prs w5 w1.heap.size (.slice a6 ts.length c6) ts) := HS3.out.below B35
            have HB5 : Hid (Below w1.heap.size w1 w5) := HB3.out.trans (B35.mono HB3.out.size)
            clear hw5 B5 hbl B35
            have HB5e : Hid (Below w.heap.size w (w4.alloc (.cells #[.string KB, .string VB] 41))) := by show Below _ _ _; rw [← HW5.out]; exact HB1.out.trans (HB5.out.mono HB1.out.size)
            cases fb
            · have HNO : Hid (readD b 92 []) := readD_no HT.out HE.out hne (fun _ p y hp he => by
                have hc := checkE_ok hp
                have h1 := pair_at HX10.out HN.out hc.1 hc.2.2 he
                have h2 := HFO.out p.1 p.2 (fun hm => (keyB_all hc.1 _ hm).2.1 rfl) h1
                cases h2.1)
              go_wp2_with fail
              try rw [Exit.noGoto_ret]
              go_ret2
              exact ⟨_, _, [], rfl, HNO.out, World.ownsRow_nil _ _ _ _, HB5e.out⟩
            · by_cases h256 : ts.length = 256
              · have hti : ((ts.length : Int) == 256) = true := by simp; omega
                have HNO : Hid (readD b 92 []) := readD_no HT.out HE.out hne (fun h => absurd h256 (by omega))
                clear h256
                go_wp2_with fail
                try rw [Exit.noGoto_ret]
                go_ret2
                exact ⟨_, _, [], rfl, HNO.out, World.ownsRow_nil _ _ _ _, HB5e.out⟩
              · have hti : ((ts.length : Int) == 256) = false := by simp; omega
                have hl256 : ts.length < 256 := by omega
                clear h256
                have HTK : Hid (rest.take k = (un (KB, VB)).1 ++ [58, 32] ++ (un (KB, VB)).2) := by show rest.take k = _; rw [HUN.out]; exact HFB.out rfl
                obtain ⟨eb, heb⟩ : ∃ eb, checkE (ts.map un) (un (KB, VB)) = eb := ⟨_, rfl⟩
                have HEB : Hid (checkE (ts.map un) (un (KB, VB)) = eb) := heb
                clear heb
                by_cases hz : eb = 0
                · obtain rfl := hz
                  go_wp2_with (first
                    | (go_at_call 39; rw [← HW5.out]; refine (checkPair_any a6 c6 ts (KB, VB) _ HI5.out).mono ?_; rintro e w6 ⟨rfl, b6⟩; rw [HEB.out]; have HB6 : Hid (Below w5.heap.size w5 w6) := b6; have n0 : w6.cell? ⟨w4.heap.size, 0, none⟩ = some (.string KB) := (b6.cell (p := ⟨w4.heap.size, 0, none⟩) hlt5).trans m0; have n1 : w6.cell? ⟨w4.heap.size, 1, none⟩ = some (.string VB) := (b6.cell (p := ⟨w4.heap.size, 1, none⟩) hlt5).trans m1; have hlt6 : w4.heap.size < w6.heap.size := cell_lt n0; have HS6 : Hid (Prs w6 w1.heap.size (.slice a6 ts.length c6) ts) := HS5.out.below b6; have hsz6 : w1.heap.size ≤ w6.heap.size := Nat.le_trans HB5.out.size b6.size; clear b6)
                    | (at_builtin; go_must (refine wpList_push_pair rfl (.tmp 64) (.tmp 66) rfl w1.heap.size (.slice a6 ts.length c6) ts (KB, VB) rfl HS6.out rfl (by omega) hsz6 ?_); intro v8 w8 o8 b8; have HS8 : Hid (Prs w8 w1.heap.size v8 (ts ++ [(KB, VB)])) := o8; have HB8 : Hid (Below w1.heap.size w1 w8) := (HB5.out.trans (HB6.out.mono HB5.out.size)).trans b8; clear o8 b8))
                  all_goals (
                    have HE8 : Hid (b = dictL ((ts ++ [(KB, VB)]).map un) ++ rest.drop (k + 1)) := by
                      show b = _
                      rw [List.map_append, List.map_singleton, dictL_snoc, List.append_assoc, ← pair_take HX10.out HTK.out]
                      exact HE.out
                    have HT8 : Hid (okF [] ((ts ++ [(KB, VB)]).map un)) := by
                      show okF _ _
                      rw [List.map_append, okF_append]
                      exact ⟨HT.out, HEB.out, trivial⟩
                    have hi8 := HI.out.drop (k + 1) (by omega)
                    have hl8 : (rest.drop (k + 1)).length = rest.length - (k + 1) := by simp
                    go_roundg (rest.length - (k + 1)))
                  case measure => omega
                  case measure => omega
                  case rel =>
                    rw [if_pos h] at hi8
                    exact ⟨rest.drop (k + 1), some ⟨b5, o5, none⟩, c5 - (k + 1), ts ++ [(KB, VB)], by rw [hl8, show c5 - (k + 1) = 0 by omega], by rw [hl8]; exact Nat.le_refl _, by rw [hl8]; omega, by rw [List.length_append, List.length_singleton]; omega, hi8, HE8.out, HT8.out, HS8.out, HB8.out⟩
                  case rel =>
                    rw [if_neg h] at hi8
                    exact ⟨rest.drop (k + 1), some ⟨b5, o5 + (k + 1), none⟩, c5 - (k + 1), ts ++ [(KB, VB)], by rw [hl8], by rw [hl8]; exact Nat.le_refl _, by rw [hl8]; omega, by rw [List.length_append, List.length_singleton]; omega, hi8, HE8.out, HT8.out, HS8.out, HB8.out⟩
                · have hzb : (eb != 0) = true := by simpa using hz
                  have HNO : Hid (readD b 92 []) := readD_no HT.out HE.out hne (fun _ p y hp he => by
                    have hc := checkE_ok hp
                    have h1 := pair_at HX10.out HN.out hc.1 hc.2.2 he
                    have h2 := HFO.out p.1 p.2 (fun hm => (keyB_all hc.1 _ hm).2.1 rfl) h1
                    have h3 : un (KB, VB) = p := by rw [HUN.out, h2.2.1, h2.2.2]
                    have h4 := HEB.out
                    rw [h3, hp] at h4
                    exact hz h4.symm)
                  clear hz
                  go_wp2_with (first
                    | (go_at_call 39; rw [← HW5.out]; refine (checkPair_any a6 c6 ts (KB, VB) _ HI5.out).mono ?_; rintro e w6 ⟨rfl, b6⟩; rw [HEB.out]; have HB6 : Hid (Below w5.heap.size w5 w6) := b6; clear b6))
                  try rw [Exit.noGoto_ret]
                  go_ret2
                  exact ⟨_, _, [], rfl, HNO.out, World.ownsRow_nil _ _ _ _, HB1.out.trans ((HB5.out.trans (HB6.out.mono HB5.out.size)).mono HB1.out.size)⟩
          · have hxt : ((x.toNat : Int) != (((⟨#[10]⟩ : ByteArray)[0]'(by decide)).toNat : Int)) = true := ten_ne hx10
            have HXN : Hid (x ≠ 10) := hx10
            clear hx10
            obtain ⟨w2, hw2⟩ : ∃ w2, w2 = wr.drew := ⟨_, rfl⟩
            have HW2 : Hid (w2 = wr.drew) := hw2
            have B2 : Below wr.heap.size wr w2 := by rw [hw2]; exact (Below.refl _ wr).drew
            have HB2 : Hid (Below w1.heap.size w1 w2) := HB.out.trans (B2.mono HB.out.size)
            have HS2 : Hid (Prs w2 w1.heap.size u6 ts) := HS.out.below B2
            have HN2 : Hid ((10 : UInt8) ∉ rest.take (k + 1)) := no_ten_step HX.out HXN.out HN.out
            clear hw2 B2
            by_cases hk1 : k + 1 = rest.length
            · have hki : (((k : Int) + 1) == (rest.length : Int)) = true := by simp; omega
              have hrp : decide ((0 : Int) < (rest.length : Int)) = true := by simp; omega
              have HNO : Hid (readD b 92 []) := readD_no HT.out HE.out hne (fun _ p y _ he => no_endD (no_ten_all (by omega) HN2.out) p y he)
              go_wp2_with fail
              go_region
              rw [← HW2.out]
              go_wp2_with fail
              try rw [Exit.noGoto_ret]
              go_ret2
              exact ⟨_, _, [], rfl, HNO.out, World.ownsRow_nil _ _ _ _, HB1.out.trans (HB2.out.mono HB1.out.size)⟩
            · have hki : (((k : Int) + 1) == (rest.length : Int)) = false := by simp; omega
              go_wp2_with fail
              go_region
              rw [← HW2.out]
              go_wp2_with fail
              go_roundg (rest.length - (k + 1))
              case measure => omega
              case rel => exact ⟨k + 1, by go_num, by omega, Nat.le_refl _, HS2.out, HB2.out, HN2.out⟩
      · obtain rfl : rest = [] := List.eq_nil_of_length_eq_zero (by omega)
        go_wp2_with fail
        try rw [Exit.noGoto_ret]
        go_ret2
        exact ⟨_, _, ts, rfl, .inl ⟨rfl, hts, HT.out, by simpa using HE.out⟩, HS.out.mono HB1.out.size, HB1.out.trans (HB.out.mono HB1.out.size)⟩
  · have hpf : headL.isPrefixOf b = false := Bool.eq_false_iff.2 hp
    go_enter Try.func21, Try.ntmps21
    go_wp2
    go_step3
    go_wp2_with (go_at_call 34; rw [← HW1.out]; refine (cutPrefix_any a (some ⟨w.heap.size, 0, none⟩) c 4 b headL w1 HI1.out HR1.out (by decide)).mono ?_; rintro e w' ⟨⟨a4, n4, c4, rfl, hi4, hn4, ha4⟩, hw'⟩; obtain rfl := hw'.symm; clear hw'; rw [hpf])
    try rw [Exit.noGoto_ret]
    go_ret2
    exact ⟨_, _, [], rfl, .inr ⟨rfl, rfl, fun us _ _ => no_headD (fun hq => hp (List.isPrefixOf_iff_prefix.2 hq)) us⟩, World.ownsRow_nil _ _ _ _, HB1.out⟩
end Go.Proofs.Ytimgjbjibkljhaa
