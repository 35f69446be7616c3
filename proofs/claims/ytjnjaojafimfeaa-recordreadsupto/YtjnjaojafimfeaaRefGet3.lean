/-
  RefGet1, RefGet2, RefGet3.
-/
import Derived.Test.YtjnjaojafimfeaaPlainGet
import Derived.Test.YtjnjaojafimfeaaTakeN
import Derived.Deep.Cut
import Derived.Test.YtjnjaojafimfeaaRefPut
namespace Go.Proofs.Ytjnjaojafimfeaa
open Go.RowKit

/-- What the last q bytes of eight say. -/
def topV (D : List UInt8) (q : Nat) : Nat := val8 (D.drop (8 - q))
theorem topV_step (D : List UInt8) (hD : D.length = 8) (q : Nat) (hq : q < 8) : ∃ z, D[7 - q]? = some z ∧ topV D (q + 1) = z.toNat + 256 * topV D q := by
  obtain ⟨z, hz⟩ : ∃ z, D[7 - q]? = some z := ⟨_, List.getElem?_eq_getElem (by omega)⟩
  refine ⟨z, hz, ?_⟩
  have e : D.drop (8 - (q + 1)) = z :: D.drop (8 - q) := by
    rw [show 8 - (q + 1) = 7 - q by omega, List.drop_eq_getElem_cons (show 7 - q < D.length by omega), (List.getElem?_eq_some_iff.1 hz).2, show 7 - q + 1 = 8 - q by omega]
  unfold topV
  rw [e, val8]
theorem topV_le (D : List UInt8) (hD : D.length = 8) (B : Nat) (h : val8 D ≤ B) : ∀ q, q ≤ 8 → topV D q ≤ B := by
  have key : ∀ d q, q + d = 8 → topV D q ≤ B := by
    intro d
    induction d with
    | zero =>
      intro q hq
      have : q = 8 := by omega
      subst this
      simpa [topV] using h
    | succ d ih =>
      intro q hq
      have h1 := ih (q + 1) (by omega)
      obtain ⟨z, _, e⟩ := topV_step D hD q (by omega)
      omega
  exact fun q hq => key (8 - q) q (by omega)
theorem hideG {p : Prop} (h : p) : Hid p := h
/-- What number tells. -/
def numV (o : Option Int) : Value := match o with
  | none => .tuple #[.int .i64 0, .bool false]
  | some v => .tuple #[.int .i64 v, .bool true]

set_option maxHeartbeats 4000000 in
set_option maxRecDepth 1000000 in
theorem number_any (g o c : Nat) (x : UInt8) (l : List UInt8) (i : Nat) (w : World) (hb : IsBytes w (some ⟨g, o, none⟩) c (x :: l)) (hi : i ≤ 13) :
    Calls Try.prog 50 #[.slice (some ⟨g, o, none⟩) (l.length + 1) c, .int .i64 (i : Int)] w fun e w' => e = .returned (numV (numO l i)) ∧ w' = w := by
  have hcc := hb.1
  rw [List.length_cons] at hcc
  have hcm : c ≤ 9223372036854775807 := by have := hb.2.1; unfold maxLen at this; omega
  obtain ⟨A, hA⟩ : ∃ A : Nat, (A : Int) = 1 + 8 * (i : Int) := ⟨1 + 8 * i, by omega⟩
  have hA1 : (1 : Int) + 8 * (i : Int) = (A : Int) := hA.symm
  have hAn : A = 8 * i + 1 := by omega
  by_cases h0 : l.length < 8 * i + 8
  · have hn : numO l i = none := by
      unfold numO
      rw [List.getElem?_eq_none_iff.2 (by omega)]
    rw [hn]
    have hlt : ((l.length : Int) + 1 < (A : Int) + 8) := by omega
    clear hb hn hAn hA
    go_enter Try.func50, Try.ntmps50
    go_wp2_with fail
    go_ret2
    exact ⟨rfl, rfl⟩
  · obtain ⟨y, hy⟩ : ∃ y, l[8 * i + 7]? = some y := ⟨_, List.getElem?_eq_getElem (by omega)⟩
    have hge : ¬ ((l.length : Int) + 1 < (A : Int) + 8) := by omega
    obtain ⟨P, hP⟩ : ∃ P : Nat, (A : Int) + 7 = (P : Int) := ⟨A + 7, by omega⟩
    have hcy : w.cell? ⟨g, o + P, none⟩ = some (.int .u8 (y.toNat : Int)) := hb.cell P y (by
      have : P = (8 * i + 7) + 1 := by omega
      rw [this, List.getElem?_cons_succ]
      exact hy)
    have hPl : (P : Int) < (l.length : Int) + 1 := by omega
    by_cases h63 : 63 < y.toNat
    · have hn : numO l i = none := by
        unfold numO
        rw [hy]
        exact if_pos h63
      rw [hn]
      have h63i : (63 : Int) < (y.toNat : Int) := by omega
      clear hb hn hAn hA hy h63
      go_enter Try.func50, Try.ntmps50
      go_wp2_with fail
      go_ret2
      exact ⟨rfl, rfl⟩
    · obtain ⟨D, hD⟩ : ∃ D, D = (l.drop (8 * i)).take 8 := ⟨_, rfl⟩
      have hDl : D.length = 8 := by rw [hD, List.length_take, List.length_drop]; omega
      have hn : numO l i = some (val8 D : Int) := by
        unfold numO
        rw [hy, hD]
        exact if_neg h63
      have hD7 : (l.drop (8 * i))[7]? = some y := by rw [List.getElem?_drop]; exact hy
      have hvb : val8 D ≤ 4611686018427387903 := by
        have := (val_top (l.drop (8 * i)) y (by rw [List.length_drop]; omega) hD7).2
        rw [← hD] at this
        have h2 : (y.toNat + 1) * 72057594037927936 ≤ 64 * 72057594037927936 := Nat.mul_le_mul_right _ (by omega)
        omega
      rw [hn]
      have HT : Hid (∀ q : Nat, q < 8 → ∃ (z : UInt8) (Z : Nat), (A : Int) + (7 - (q : Int)) = (Z : Int) ∧ Z < l.length + 1 ∧ w.cell? ⟨g, o + Z, none⟩ = some (.int .u8 (z.toNat : Int)) ∧ topV D (q + 1) = z.toNat + 256 * topV D q ∧ topV D (q + 1) ≤ 4611686018427387903) := by
        intro q hq
        obtain ⟨z, hz, hs⟩ := topV_step D hDl q hq
        refine ⟨z, A + (7 - q), by omega, by omega, hb.cell _ z ?_, hs, topV_le D hDl _ hvb _ (by omega)⟩
        rw [show A + (7 - q) = (8 * i + (7 - q)) + 1 by omega, List.getElem?_cons_succ]
        rw [hD, List.getElem?_take_of_lt (by omega), List.getElem?_drop] at hz
        exact hz
      have HV : Hid (topV D 0 = 0 ∧ topV D 8 = val8 D) := ⟨by unfold topV; rw [List.drop_eq_nil_of_le (by omega)]; rfl, by simp [topV]⟩
      have h63i : ¬ (63 : Int) < (y.toNat : Int) := by omega
      clear hb hn hAn hA hy hD hD7 hvb h63 hDl
      go_enter Try.func50, Try.ntmps50
      go_wp2_with fail
      clear hP hcy hPl
      go_loopg [7, 8] 8 (fun gk n k wr => ∃ (q : Nat) (v kk : Int), n = .int .i64 v ∧ k = .int .i64 kk ∧ q ≤ 8 ∧ 8 - q ≤ gk ∧ wr = w ∧ Hid (v = (topV D q : Int) ∧ kk = 7 - (q : Int)))
      case atStart => exact ⟨0, 0, 7, rfl, rfl, by omega, by omega, rfl, by rw [HV.out.1]; rfl, rfl⟩
      case round =>
        obtain ⟨q, v, kk, rfl, rfl, hq, hgk, rfl, Hv⟩ := hrel
        by_cases hlt : q < 8
        · obtain ⟨z, Z, hZ, hZl, hc, hs, hbd⟩ := HT.out q hlt
          obtain ⟨K, rfl⟩ : ∃ K : Nat, kk = (K : Int) := ⟨7 - q, by have := Hv.out.2; omega⟩
          have hKq : K = 7 - q := by have := Hv.out.2; omega
          have hK7 : K ≤ 7 := by omega
          rw [← Hv.out.2] at hZ
          obtain ⟨M, hM⟩ : ∃ M, M = 256 * v := ⟨_, rfl⟩
          obtain ⟨R, hR⟩ : ∃ R, R = M + (z.toNat : Int) := ⟨_, rfl⟩
          have HS : Hid (R = (topV D (q + 1) : Int)) := by show _ = _; rw [hR, hM, hs, Hv.out.1]; omega
          have hz := z.toNat_lt
          have m1 : wrap64 (256 * v) = M := by rw [← wrap_64, IntKind.wrap_i64]; have := HS.out; have := Hv.out.1; omega
          have m3 : wrap64 (M + (z.toNat : Int)) = R := by rw [← wrap_64, IntKind.wrap_i64]; have := HS.out; have := Hv.out.1; omega
          have HX := hideG (And.intro hKq (And.intro hlt (And.intro hq hgk)))
          have hx64 : wrap64 (z.toNat : Int) = (z.toNat : Int) := wrap64_u8 z
          clear hs hbd hKq hlt hq hgk hM hR hz
          go_wp2_with fail
          go_roundg (8 - (q + 1))
          case measure => have := HX.out; omega
          case rel => exact ⟨q + 1, R, (K : Int) - 1, by rw [m3], rfl, by have := HX.out; omega, Nat.le_refl _, rfl, HS.out, by have := HX.out; omega⟩
        · obtain rfl : q = 8 := by omega
          obtain rfl : kk = -1 := by have := Hv.out.2; omega
          go_wp2_with fail
          go_ret2
          refine ⟨?_, rfl⟩
          rw [Hv.out.1, HV.out.2]
          rfl
end Go.Proofs.Ytjnjaojafimfeaa

namespace Go.Proofs.Ytjnjaojafimfeaa
open Go.RowKit

theorem many_any (k : Int) (w : World) : Calls Try.prog 42 #[.int .i64 k] w fun e w' => e = .returned (.int .i64 (if k = 1 then 2 else if k = 2 then 13 else if k = 3 then 11 else 1)) ∧ w' = w := by
  by_cases h1 : k = 1
  · subst h1
    go_enter Try.func42, Try.ntmps42
    go_wp2_with fail
    go_ret
    exact ⟨rfl, rfl⟩
  by_cases h2 : k = 2
  · subst h2
    go_enter Try.func42, Try.ntmps42
    go_wp2_with fail
    go_ret
    exact ⟨rfl, rfl⟩
  by_cases h3 : k = 3
  · subst h3
    go_enter Try.func42, Try.ntmps42
    go_wp2_with fail
    go_ret
    exact ⟨rfl, rfl⟩
  rw [if_neg h1, if_neg h2, if_neg h3]
  have e1 : (k == 1) = false := by simpa using h1
  have e2 : (k == 2) = false := by simpa using h2
  have e3 : (k == 3) = false := by simpa using h3
  go_enter Try.func42, Try.ntmps42
  go_wp2_with fail
  go_ret
  exact ⟨rfl, rfl⟩

/-- What numbers tells. -/
def NumsPost (l : List UInt8) (M : Nat) (w : World) (e : Ending) (w' : World) : Prop :=
  Below w.heap.size w w' ∧ (((∃ j, j < M ∧ numO l j = none) ∧ e = .returned (.tuple #[.slice none 0 0, .bool false])) ∨
    ∃ (L : List Int) (v : Value), L.length = M ∧ (∀ (j : Nat) y, L[j]? = some y → numO l j = some y) ∧ e = .returned (.tuple #[v, .bool true]) ∧ w'.ownsRow w.heap.size 3 1 v M (i64s L))
theorem row_below {w w' : World} {B : Nat} {e : TypeId} {s n : Nat} {v : Value} {xs : List Value} (h : w.ownsRow B e s v n xs) (hb : Below w.heap.size w w') : w'.ownsRow B e s v n xs := by
  refine ⟨h.1, ?_⟩
  rcases h.2 with h0 | ⟨g, cap, cur, hv, hB, hg, rest⟩
  · exact .inl h0
  · exact .inr ⟨g, cap, cur, hv, hB, (hb.block g (Array.getElem?_eq_some_iff.1 hg).1).trans hg, rest⟩
theorem i64s_len (L : List Int) : (i64s L).length = L.length := by simp [i64s]
theorem i64s_snoc (L : List Int) (x : Int) : i64s (L ++ [x]) = i64s L ++ [.int .i64 x] := by simp [i64s]
theorem one_int (w : World) (x : Int) : ∀ j u, [Value.int .i64 x][j]? = some u → (w.alloc (.cells #[.int .i64 x] 3)).cell? ((⟨w.heap.size, 0, none⟩ : Addr).add j) = some u := by
  intro j u hj
  match j, hj with
  | 0, hj =>
    rw [Addr.add_mid, Nat.zero_add, cell_of_row _ _ 0 _ _ (0, 0) (heap_alloc_last w _)]
    exact hj
set_option maxHeartbeats 4000000 in
set_option maxRecDepth 1000000 in
theorem numbers_get (g o c : Nat) (x : UInt8) (l : List UInt8) (M : Nat) (w : World) (hb : IsBytes w (some ⟨g, o, none⟩) c (x :: l)) (hM : M ≤ 13) :
    Calls Try.prog 43 #[.slice (some ⟨g, o, none⟩) (l.length + 1) c, .int .i64 (M : Int)] w (NumsPost l M w) := by
  obtain ⟨i, hi, hz0, hz1, hz2⟩ := info_parts info_int
  have CN : Hid (∀ W k, Below w.heap.size w W → k < M → Calls Try.prog 50 #[.slice (some ⟨g, o, none⟩) (l.length + 1) c, .int .i64 (k : Int)] W fun e w' => e = .returned (numV (numO l k)) ∧ w' = W) := fun W k hW hk => number_any g o c x l k W (hb.below hW) (by omega)
  have O0 : Hid ((w.alloc (.cells #[] 3)).ownsRow w.heap.size 3 1 (.slice (some ⟨w.heap.size, 0, none⟩) 0 0) 0 (i64s [])) :=
    ⟨rfl, .inr ⟨w.heap.size, 0, #[], rfl, Nat.le_refl _, heap_alloc_last _ _, Nat.le_refl _, by unfold maxLen; omega, rfl, rfl⟩⟩
  have B0 : Hid (Below w.heap.size w (w.alloc (.cells #[] 3))) := (Below.refl _ w).alloc (Nat.le_refl _) _
  clear hb
  go_enter Try.func43, Try.ntmps43
  go_wp2_with fail
  go_loopg [6, 7, 8, 9] M (fun gk v6 i7 _ _ wr => ∃ (k : Nat) (L : List Int), i7 = .int .i64 (k : Int) ∧ k ≤ M ∧ M - k ≤ gk ∧ Hid (L.length = k ∧ wr.ownsRow w.heap.size 3 1 v6 k (i64s L) ∧ Below w.heap.size w wr ∧ ∀ (j : Nat) y, L[j]? = some y → numO l j = some y))
  case atStart => exact ⟨0, [], rfl, by omega, by omega, rfl, O0.out, B0.out, fun j y h => by simp at h⟩
  case round =>
    obtain ⟨k, L, rfl, hk, hgk, HI⟩ := hrel
    by_cases hlt : k < M
    · have hlti : (k : Int) < (M : Int) := by omega
      cases hn : numO l k with
      | none =>
        have C1 : Hid (Calls Try.prog 50 #[.slice (some ⟨g, o, none⟩) (l.length + 1) c, .int .i64 (k : Int)] wr fun e w' => e = .returned (.tuple #[.int .i64 0, .bool false]) ∧ w' = wr) := by
          have := CN.out wr k HI.out.2.2.1 hlt
          rw [hn] at this
          exact this
        have HN := hideN (And.intro hn hlt)
        clear hn hlt
        go_wp2_with (go_at_call 50; refine C1.out.mono ?_; rintro e w2 ⟨rfl, hw2⟩; obtain rfl := hw2.symm)
        go_ret2
        exact ⟨HI.out.2.2.1, .inl ⟨⟨k, HN.out.2, HN.out.1⟩, rfl⟩⟩
      | some y =>
        have C1 : Hid (Calls Try.prog 50 #[.slice (some ⟨g, o, none⟩) (l.length + 1) c, .int .i64 (k : Int)] wr fun e w' => e = .returned (.tuple #[.int .i64 y, .bool true]) ∧ w' = wr) := by
          have := CN.out wr k HI.out.2.2.1 hlt
          rw [hn] at this
          exact this
        have HN := hideN (And.intro hn hlt)
        have hsz := HI.out.2.2.1.size
        clear hn hlt
        go_wp2_with (first
          | (go_at_call 50; refine C1.out.mono ?_; rintro e w2 ⟨rfl, hw2⟩; obtain rfl := hw2.symm)
          | (at_builtin; refine wpList_append_keeps (w := wr.alloc (.cells #[.int .i64 y] 3)) rfl (.tmp 24) (.tmp 26) 58 rfl w.heap.size 3 i (.int .i64 0) Try.underlying58 hi hz0 hz1 rfl u6 k (i64s L) (by rfl) (row_below HI.out.2.1 ((Below.refl _ wr).alloc (Nat.le_refl _) _)) (some ⟨wr.heap.size, 0, none⟩) 1 1 [.int .i64 y] (by rfl) (by rfl) (.inr ⟨_, rfl, one_int wr y⟩) (by simp [Value.oneCell']) (by unfold maxLen; omega) (by rw [hz2]; omega) (by simp; omega) ?_; intro v2 w2 own2 gr2 g1 g2 g3; clear g1 g2 g3; have H2 := hideN (And.intro own2 gr2); clear own2 gr2))
        go_roundg (M - (k + 1))
        case measure => have := HN.out.2; omega
        case rel =>
          refine ⟨k + 1, L ++ [y], by go_num, by have := HN.out.2; omega, Nat.le_refl _, by simp [HI.out.1], by rw [i64s_snoc]; exact H2.out.1, ?_, fun j z hj => ?_⟩
          · exact (HI.out.2.2.1.alloc hsz _).grown H2.out.2 (by simp; omega) (fun j hj => (World.ownsRow.lt HI.out.2.1 j hj).1)
          · by_cases hjl : j < L.length
            · rw [List.getElem?_append_left hjl] at hj
              exact HI.out.2.2.2 j z hj
            · rw [List.getElem?_append_right (by omega)] at hj
              have hj0 : j - L.length = 0 := by have := (List.getElem?_eq_some_iff.1 hj).1; simp at this; omega
              rw [hj0] at hj
              simp only [List.getElem?_cons_zero, Option.some.injEq] at hj
              have hjk : j = k := by have := HI.out.1; omega
              rw [hjk, HN.out.1, hj]
    · obtain rfl : k = M := by omega
      have hni : ¬ (k : Int) < (k : Int) := by omega
      go_wp2_with fail
      go_ret2
      exact ⟨HI.out.2.2.1, .inr ⟨L, _, HI.out.1, HI.out.2.2.2, rfl, HI.out.2.1⟩⟩
end Go.Proofs.Ytjnjaojafimfeaa

namespace Go.Proofs.Ytjnjaojafimfeaa
open Go.RowKit

theorem info_stored : (Try.prog.info? 32).map (·.size) = some 15 := by kernel_rfl
set_option maxHeartbeats 4000000 in
set_option maxRecDepth 1000000 in
theorem job_whole (x0 x1 x2 x3 x4 x5 x6 x7 x8 x9 x10 x11 x12 : Int) (gb cap : Nat) (w : World) (hcap : 13 ≤ cap ∧ cap ≤ 9223372036854775807) (hc : ∀ (j : Nat) y, [x0, x1, x2, x3, x4, x5, x6, x7, x8, x9, x10, x11, x12][j]? = some y → w.cell? ⟨gb, j, none⟩ = some (.int .i64 y)) (hg : gb < w.heap.size) :
    Calls Try.prog 44 #[.slice (some ⟨gb, 0, none⟩) 13 cap, .bool true] w fun e w' => e = .returned (.agg #[.int .i64 x0, .int .i64 x1, .int .i64 x2, .int .i64 x3, .int .i64 x4, .int .i64 x5, .int .i64 x6, .int .i64 x7, .int .i64 x8, .int .i64 x9, .int .i64 x10, .int .i64 x11, .int .i64 x12, .string ⟨#[]⟩, .slice none 0 0]) ∧ Below w.heap.size w w' := by
  have c0 := hc 0 x0 rfl
  have c1 := hc 1 x1 rfl
  have c2 := hc 2 x2 rfl
  have c3 := hc 3 x3 rfl
  have c4 := hc 4 x4 rfl
  have c5 := hc 5 x5 rfl
  have c6 := hc 6 x6 rfl
  have c7 := hc 7 x7 rfl
  have c8 := hc 8 x8 rfl
  have c9 := hc 9 x9 rfl
  have c10 := hc 10 x10 rfl
  have c11 := hc 11 x11 rfl
  have c12 := hc 12 x12 rfl
  obtain ⟨hcap1, hcap2⟩ := hcap
  clear hc
  go_enter Try.func44, Try.ntmps44
  go_wp2_with fail
  go_region
  go_wp2_with fail
  go_region
  go_wp2_with fail
  refine bodyPost_ret (results_cell_row rfl _ _ w.heap.size 32 _ (0, 0) _ rfl (heap_alloc2_old w _ _) Try.underlying32 rfl info_stored) rfl ?_
  exact ⟨rfl, (((Below.refl _ w).alloc (Nat.le_refl _) _).alloc (by simp) _).drew.drew⟩

set_option maxHeartbeats 4000000 in
set_option maxRecDepth 1000000 in
theorem job_short (x0 x1 x2 x3 x4 x5 x6 x7 x8 x9 x10 : Int) (gb cap : Nat) (w : World) (hcap : 11 ≤ cap ∧ cap ≤ 9223372036854775807) (hc : ∀ (j : Nat) y, [x0, x1, x2, x3, x4, x5, x6, x7, x8, x9, x10][j]? = some y → w.cell? ⟨gb, j, none⟩ = some (.int .i64 y)) (hg : gb < w.heap.size) :
    Calls Try.prog 44 #[.slice (some ⟨gb, 0, none⟩) 11 cap, .bool false] w fun e w' => e = .returned (.agg #[.int .i64 x0, .int .i64 x1, .int .i64 x2, .int .i64 0, .int .i64 0, .int .i64 x3, .int .i64 x4, .int .i64 x5, .int .i64 x6, .int .i64 x7, .int .i64 x8, .int .i64 x9, .int .i64 x10, .string ⟨#[]⟩, .slice none 0 0]) ∧ Below w.heap.size w w' := by
  have c0 := hc 0 x0 rfl
  have c1 := hc 1 x1 rfl
  have c2 := hc 2 x2 rfl
  have c3 := hc 3 x3 rfl
  have c4 := hc 4 x4 rfl
  have c5 := hc 5 x5 rfl
  have c6 := hc 6 x6 rfl
  have c7 := hc 7 x7 rfl
  have c8 := hc 8 x8 rfl
  have c9 := hc 9 x9 rfl
  have c10 := hc 10 x10 rfl
  obtain ⟨hcap1, hcap2⟩ := hcap
  clear hc
  go_enter Try.func44, Try.ntmps44
  go_wp2_with fail
  go_region
  go_wp2_with fail
  go_region
  go_wp2_with fail
  refine bodyPost_ret (results_cell_row rfl _ _ w.heap.size 32 _ (0, 0) _ rfl (heap_alloc2_old w _ _) Try.underlying32 rfl info_stored) rfl ?_
  exact ⟨rfl, (((Below.refl _ w).alloc (Nat.le_refl _) _).alloc (by simp) _).drew.drew⟩
end Go.Proofs.Ytjnjaojafimfeaa
