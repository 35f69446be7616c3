/-
  Layer 13: the document's ReadDict (the texts of layer 9).
-/
import Derived.Test.YthapbnlcodkalaaDoorRefDict
import Derived.Test.YthapbnlcodkalaaDoorFigKit
import Derived.Deep.AppendLies
import Derived.Deep.RegionWith
import Derived.Deep.RegionLaw
import Derived.Deep.Cut
import Derived.Deep.CutRange
import Derived.BigQuiet
import Derived.Deep.LoopGhost
import Derived.Deep.QuietTactic
namespace Go.Proofs.YthapbnlcodkalaaDoor
open Go.RowKit

/-- The slice at 'a', of capacity c, has the texts ss. -/
def IsStrs (w : World) (a : Option Addr) (c : Nat) (ss : List ByteArray) : Prop :=
  ss.length ≤ c ∧ ss.length ≤ maxLen ∧ (ss = [] ∨ ∃ b o, a = some ⟨b, o, none⟩ ∧ b < w.heap.size ∧ ∀ (j : Nat) x, ss[j]? = some x → w.cell? ⟨b, o + j, none⟩ = some (.string x))
abbrev tx (s : ByteArray) : Txt := s.data.toList
theorem IsStrs.below {w w' : World} {a : Option Addr} {c : Nat} {ss : List ByteArray} (h : IsStrs w a c ss) (hb : Below w.heap.size w w') : IsStrs w' a c ss := by
  obtain ⟨h1, h2, h3⟩ := h
  refine ⟨h1, h2, ?_⟩
  rcases h3 with h | ⟨b, o, ha, hbk, hc⟩
  · exact .inl h
  · exact .inr ⟨b, o, ha, Nat.lt_of_lt_of_le hbk hb.size, fun j x hj => (hb.cell (p := ⟨b, o + j, none⟩) hbk).trans (hc j x hj)⟩
theorem IsStrs.at {w : World} {a : Option Addr} {c : Nat} {ss : List ByteArray} (h : IsStrs w a c ss) {j : Nat} {x : ByteArray} (hx : ss[j]? = some x) : ∃ b o, a = some ⟨b, o, none⟩ ∧ b < w.heap.size ∧ w.cell? ⟨b, o + j, none⟩ = some (.string x) := by
  rcases h.2.2 with rfl | ⟨b, o, ha, hb, hc⟩
  · simp at hx
  · exact ⟨b, o, ha, hb, hc j x hx⟩

/-- A list of texts in a row of the call's own. -/
abbrev Strs (w : World) (B : Nat) (v : Value) (ts : List ByteArray) : Prop := w.ownsRow B 9 1 v ts.length (ts.map Value.string)
/-- 'append' of one text. -/
theorem wpList_push_text {W : World} {ops : Array Oper} {rest : List Oper} {o : Oper} {a : Act} {Q : Exit → Act → World → Prop} (hgd : o.guard = none) (s x : Operand)
    (ho : o.op = .call { callee := .builtin .append, args := #[s, x], argTypes := #[70, 70] })
    (B : Nat) (v : Value) (ts : List ByteArray) (t : ByteArray) (hs : a.eval s = v) (hown : Strs W B v ts) (hx : a.eval x = .slice (some ⟨W.heap.size, 0, none⟩) 1 1) (hR : ts.length ≤ 1073741823) (hB : B ≤ W.heap.size)
    (h : ∀ v' w', Strs w' B v' (ts ++ [t]) → Below B W w' → wpList Tryd.prog ops Q rest (a.put o.dst v') w') : wpList Tryd.prog ops Q (o :: rest) a (W.alloc (.cells #[.string t] 9)) := by
  obtain ⟨i9, hi, hz0, hz1, hz2⟩ := info_parts info_string
  have hX := hown.alloc (.cells #[.string t] 9)
  refine wpList_append_own _ hgd s x 70 ho B 9 i9 (.string ⟨#[]⟩) 1 16 Tryd.underlying70 hi hz0 hz1 hz2 rfl (by decide) v ts.length (ts.map Value.string) hs hX ⟨W.heap.size, 0, none⟩ 1 1 [.string t] hx rfl (cell_one_new _ _ _) (by intro u hu; simp at hu; subst hu; rfl) (by unfold maxLen; omega) (by omega) (by simp; omega) ?_
  intro v' w' h1 h2 _
  refine h v' w' ?_ ?_
  · show World.ownsRow _ _ _ _ _ _ _
    rw [List.length_append, List.map_append]
    exact h1
  · exact ((Below.refl B W).alloc hB _).grown h2 (by simp; omega) (fun j hj => (hX.lt j hj).1)
theorem Strs.below {W W' : World} {B : Nat} {v : Value} {ts : List ByteArray} (h : Strs W B v ts) (hb : Below W.heap.size W W') : Strs W' B v ts := by
  refine ⟨h.1, ?_⟩
  rcases h.2 with h0 | ⟨g, cap, cur, hv, hB, hg, rest⟩
  · exact .inl h0
  · exact .inr ⟨g, cap, cur, hv, hB, (hb.block g (Array.getElem?_eq_some_iff.1 hg).1).trans hg, rest⟩
theorem Strs.mono {W : World} {B B' : Nat} {v : Value} {ts : List ByteArray} (h : Strs W B v ts) (hB : B' ≤ B) : Strs W B' v ts := by
  refine ⟨h.1, ?_⟩
  rcases h.2 with h0 | ⟨g, cap, cur, hv, hb, rest⟩
  · exact .inl h0
  · exact .inr ⟨g, cap, cur, hv, Nat.le_trans hB hb, rest⟩
theorem no_ten_step {rest : List UInt8} {k : Nat} {x : UInt8} (hx : rest[k]? = some x) (hne : x ≠ 10) (h : (10 : UInt8) ∉ rest.take k) : (10 : UInt8) ∉ rest.take (k + 1) := by
  rw [List.take_add_one, hx]
  intro hm
  rcases List.mem_append.1 hm with hm | hm
  · exact h hm
  · simp at hm; exact hne hm.symm
theorem no_ten_all {rest : List UInt8} {k : Nat} (hk : rest.length ≤ k) (h : (10 : UInt8) ∉ rest.take k) : (10 : UInt8) ∉ rest := by rwa [List.take_of_length_le hk] at h
theorem ten_ne {x : UInt8} (h : x ≠ 10) : ((x.toNat : Int) != (((⟨#[10]⟩ : ByteArray)[0]'(by decide)).toNat : Int)) = true := by
  rw [bne_iff_ne]
  intro e
  have e : (x.toNat : Int) = 10 := e
  exact h (UInt8.toNat_inj.1 (by rw [show (10 : UInt8).toNat = 10 from rfl]; omega))

def two (p : BP) : List Value := [.string p.1, .string p.2]
def twos (ps : List BP) : List Value := ps.flatMap two
theorem twos_length : ∀ ps : List BP, (twos ps).length = ps.length * 2
  | [] => rfl
  | p :: ps => by
    have := twos_length ps
    simp [twos, two] at this ⊢
    omega
theorem twos_get : ∀ (ps : List BP) (j : Nat) (p : BP), ps[j]? = some p → (twos ps)[j * 2]? = some (.string p.1) ∧ (twos ps)[j * 2 + 1]? = some (.string p.2)
  | [], j, p, h => by simp at h
  | q :: ps, 0, p, h => by simp at h; subst h; exact ⟨rfl, rfl⟩
  | q :: ps, j + 1, p, h => by
    have h : ps[j]? = some p := by simpa using h
    have := twos_get ps j p h
    rw [show (j + 1) * 2 = j * 2 + 1 + 1 by omega]
    exact this
/-- A list of pairs in a row of the call's own. -/
abbrev Prs (w : World) (B : Nat) (v : Value) (ps : List BP) : Prop := w.ownsRow B 52 2 v ps.length (twos ps)
theorem Prs.below {W W' : World} {B : Nat} {v : Value} {ps : List BP} (h : Prs W B v ps) (hb : Below W.heap.size W W') : Prs W' B v ps := by
  refine ⟨h.1, ?_⟩
  rcases h.2 with h0 | ⟨g, cap, cur, hv, hB, hg, rest⟩
  · exact .inl h0
  · exact .inr ⟨g, cap, cur, hv, hB, (hb.block g (Array.getElem?_eq_some_iff.1 hg).1).trans hg, rest⟩
theorem Prs.mono {W : World} {B B' : Nat} {v : Value} {ps : List BP} (h : Prs W B v ps) (hB : B' ≤ B) : Prs W B' v ps := by
  refine ⟨h.1, ?_⟩
  rcases h.2 with h0 | ⟨g, cap, cur, hv, hb, rest⟩
  · exact .inl h0
  · exact .inr ⟨g, cap, cur, hv, Nat.le_trans hB hb, rest⟩
theorem Prs.is {W : World} {B : Nat} {v : Value} {ps : List BP} (h : Prs W B v ps) (hl : ps.length ≤ 140737488355328) : ∃ a c, v = .slice a ps.length c ∧ IsPairs W a c ps := by
  rcases h.2 with ⟨rfl, h0⟩ | ⟨g, cap, cur, rfl, hB, hg, hnc, hcm, hcs, htake⟩
  · obtain rfl : ps = [] := List.eq_nil_of_length_eq_zero h0
    exact ⟨none, 0, rfl, by simp, by simp, .inl rfl⟩
  · refine ⟨_, cap, rfl, hnc, hl, .inr ⟨g, 0, rfl, (Array.getElem?_eq_some_iff.1 hg).1, fun j p hj => ?_⟩⟩
    obtain ⟨h1, h2⟩ := twos_get ps j p hj
    have a1 := h.cells (g := g) rfl _ _ h1
    have a2 := h.cells (g := g) rfl _ _ h2
    rw [Go.WideShapes.add_plain] at a1 a2
    rw [Nat.zero_add] at a1 a2
    rw [Nat.zero_add]
    exact ⟨a1, a2⟩
/-- 'append' of one pair. -/
theorem wpList_push_pair {W : World} {ops : Array Oper} {rest : List Oper} {o : Oper} {a : Act} {Q : Exit → Act → World → Prop} (hgd : o.guard = none) (s x : Operand)
    (ho : o.op = .call { callee := .builtin .append, args := #[s, x], argTypes := #[46, 46] })
    (B : Nat) (v : Value) (ps : List BP) (p : BP) (hs : a.eval s = v) (hown : Prs W B v ps) (hx : a.eval x = .slice (some ⟨W.heap.size, 0, none⟩) 1 1) (hR : ps.length ≤ 1073741823) (hB : B ≤ W.heap.size)
    (h : ∀ v' w', Prs w' B v' (ps ++ [p]) → Below B W w' → wpList Tryd.prog ops Q rest (a.put o.dst v') w') : wpList Tryd.prog ops Q (o :: rest) a (W.alloc (.cells #[.string p.1, .string p.2] 52)) := by
  obtain ⟨i9, hi, hz0, hz1, hz2⟩ := info_parts info_pair
  have hX := hown.alloc (.cells #[.string p.1, .string p.2] 52)
  refine wpList_append_own _ hgd s x 46 ho B 52 i9 (.agg #[.string ⟨#[]⟩, .string ⟨#[]⟩]) 2 32 Tryd.underlying46 hi hz0 hz1 hz2 rfl (by decide) v ps.length (twos ps) hs hX ⟨W.heap.size, 0, none⟩ 1 1 (two p) hx rfl ?_ (by intro u hu; simp [two] at hu; rcases hu with rfl | rfl <;> rfl) (by unfold maxLen; omega) (by omega) (by simp; omega) ?_
  · exact World.news_of_block (w := W.alloc (.cells #[.string p.1, .string p.2] 52)) (cs := #[.string p.1, .string p.2]) (heap_alloc_new W _)
  intro v' w' h1 h2 _
  refine h v' w' ?_ ?_
  · show World.ownsRow _ _ _ _ _ _ _
    rw [List.length_append, show twos (ps ++ [p]) = twos ps ++ two p by simp [twos]]
    exact h1
  · exact ((Below.refl B W).alloc hB _).grown h2 (by simp; omega) (fun j hj => (hX.lt j hj).1)

def readD (b : Txt) (e : Int) (ps : List BP) : Prop := (e = 0 ∧ ps.length ≤ 256 ∧ okF [] (ps.map un) ∧ b = dictL (ps.map un)) ∨ (e = 92 ∧ ps = [] ∧ ∀ us : List Pr, us.length ≤ 256 → okF [] us → b ≠ dictL us)
def ReadDPost (b : Txt) (w : World) (e : Ending) (w' : World) : Prop := ∃ v er ps, e = .returned (.tuple #[v, .int .i64 er]) ∧ readD b er ps ∧ Prs w' w.heap.size v ps ∧ Below w.heap.size w w'
theorem readD_no {b : Txt} {ps : List BP} {rest : Txt} (hok : okF [] (ps.map un)) (hb : b = dictL (ps.map un) ++ rest) (hne : 0 < rest.length) (hno : ps.length < 256 → ∀ p y, checkE (ps.map un) p = 0 → rest ≠ pairL p ++ y) : readD b 92 [] :=
  .inr ⟨rfl, rfl, no_dict hok hb (fun e => by simp [e] at hne) (fun h => hno (by simpa using h))⟩
theorem dictL_snoc (a : List Pr) (t : Pr) : dictL (a ++ [t]) = dictL a ++ pairL t := by simp [dictL, pairsL]

theorem Strs.is1 {W : World} {B : Nat} {v : Value} {ts : List ByteArray} (h : Strs W B v ts) (hl : ts.length ≤ 140737488355328 := by decide) : ∃ a c, v = .slice a ts.length c ∧ IsStrs W a c ts := by
  rcases h.2 with ⟨rfl, h0⟩ | ⟨g, cap, cur, rfl, hB, hg, hnc, hcm, hcs, htake⟩
  · obtain rfl : ts = [] := List.eq_nil_of_length_eq_zero h0
    exact ⟨none, 0, rfl, by simp, by simp, .inl rfl⟩
  · refine ⟨_, cap, rfl, hnc, by unfold maxLen; omega, .inr ⟨g, 0, rfl, (Array.getElem?_eq_some_iff.1 hg).1, fun j x hj => ?_⟩⟩
    have a1 := h.cells (g := g) rfl j (.string x) (by simp [hj])
    rw [Go.WideShapes.add_plain, Nat.zero_add] at a1
    rw [Nat.zero_add]
    exact a1
theorem dict_one {us vs : List Pr} (h1 : okF [] us) (h2 : okF [] vs) (h : dictL us = dictL vs) : us = vs := by
  obtain ⟨r, hr, he⟩ := pairs_strip us vs [] [] h1 h2 (by rw [List.append_nil]; exact List.append_cancel_left h)
  cases r with
  | nil => simpa using hr.symm
  | cons t r => simp [pairsL, pairL] at he
theorem un_inj {p q : BP} (h : un p = un q) : p = q := by
  unfold un at h
  simp only [Prod.mk.injEq] at h
  exact Prod.ext (data_inj h.1) (data_inj h.2)
theorem readD_one {b : Txt} {er : Int} {ts us : List BP} (h : readD b er ts) (hl : us.length ≤ 256) (hus : okF [] (us.map un)) (hb : b = dictL (us.map un)) : er = 0 ∧ ts = us := by
  rcases h with ⟨rfl, _, h1, h2⟩ | ⟨_, _, h3⟩
  · exact ⟨rfl, List.map_inj_right (fun _ _ e => un_inj e) |>.1 (dict_one h1 hus (h2.symm.trans hb))⟩
  · exact absurd hb (h3 _ (by simpa using hl) hus)

set_option maxHeartbeats 400000 in
set_option maxRecDepth 1000000 in
theorem sameR_any (a1 a2 : Option Addr) (c1 c2 : Nat) (xs ys : List UInt8) (w : World) (h1 : IsBytes w a1 c1 xs) (h2 : IsBytes w a2 c2 ys) :
    Calls Tryd.prog 36 #[.slice a1 xs.length c1, .slice a2 ys.length c2] w fun e w' => e = .returned (.bool (decide (xs = ys))) ∧ ∃ n, w' = w.drewN n := by
  obtain ⟨h11, h12, h13⟩ := h1
  obtain ⟨h21, h22, h23⟩ := h2
  unfold maxLen at h12 h22
  have H1 : Hid (xs = [] ∨ ∃ b o, a1 = some ⟨b, o, none⟩ ∧ b < w.heap.size ∧ ∀ (j : Nat) x, xs[j]? = some x → w.cell? ⟨b, o + j, none⟩ = some (.int .u8 (x.toNat : Int))) := h13
  have H2 : Hid (ys = [] ∨ ∃ b o, a2 = some ⟨b, o, none⟩ ∧ b < w.heap.size ∧ ∀ (j : Nat) x, ys[j]? = some x → w.cell? ⟨b, o + j, none⟩ = some (.int .u8 (x.toNat : Int))) := h23
  clear h13 h23
  by_cases hl : xs.length = ys.length
  · have HL : Hid (xs.length = ys.length) := hl
    have hne : ((xs.length : Int) != (ys.length : Int)) = false := by simp [hl]
    clear hl
    go_enter Tryd.func36, Tryd.ntmps36
    go_wp2
    go_loopw [13] (fun i wr => ∃ k : Nat, k ≤ xs.length ∧ i = .int .i64 k ∧ (∃ n, wr = w.drewN n) ∧ xs.take k = ys.take k) (fun i _ => xs.length - (intOf i).toNat)
    case atStart => exact ⟨0, Nat.zero_le _, rfl, ⟨0, rfl⟩, by simp⟩
    case round =>
      obtain ⟨k, hk, rfl, ⟨n, rfl⟩, ht⟩ := hrel
      have HT : Hid (xs.take k = ys.take k) := ht
      clear ht
      by_cases hlt : k < xs.length
      · have hlt2 : k < ys.length := by have := HL.out; omega
        obtain ⟨x, hx⟩ : ∃ x, xs[k]? = some x := ⟨_, List.getElem?_eq_getElem hlt⟩
        obtain ⟨y, hy⟩ : ∃ y, ys[k]? = some y := ⟨_, List.getElem?_eq_getElem hlt2⟩
        rcases H1.out with rfl | ⟨b1, o1, rfl, hb1, hc1⟩
        · simp at hlt
        rcases H2.out with rfl | ⟨b2, o2, rfl, hb2, hc2⟩
        · simp at hlt2
        have c1x : w.cell? ⟨b1, o1 + k, none⟩ = some (.int .u8 (x.toNat : Int)) := hc1 k x hx
        have c2y : w.cell? ⟨b2, o2 + k, none⟩ = some (.int .u8 (y.toNat : Int)) := hc2 k y hy
        have HX : Hid (xs[k]? = some x) := hx
        have HY : Hid (ys[k]? = some y) := hy
        clear hx hy hc1 hc2
        by_cases hxy : x = y
        · subst hxy
          have hxx : ((x.toNat : Int) != (x.toNat : Int)) = false := by simp
          go_wp2
          go_region
          all_goals (try go_wp2)
          all_goals go_roundw
          case rel =>
            refine ⟨k + 1, by omega, by go_num, ⟨_, rfl⟩, ?_⟩
            rw [List.take_add_one, List.take_add_one, HX.out, HY.out, HT.out]
          case measure => simp [intOf]; omega
        · have hxn : ¬ (x.toNat : Int) = (y.toNat : Int) := fun h => hxy (UInt8.toNat_inj.1 (by omega))
          have hxx : ((x.toNat : Int) != (y.toNat : Int)) = true := by simp; omega
          have HN : Hid (xs ≠ ys) := fun h => by
            have h1 := HX.out
            rw [h, HY.out] at h1
            exact hxy (Option.some.inj h1).symm
          clear hxy
          go_wp2
          go_region
          all_goals (try go_wp2)
          all_goals go_ret
          exact ⟨by simp [HN.out], _, rfl⟩
      · go_wp2
        go_ret
        have := HT.out
        have hL := HL.out
        rw [List.take_of_length_le (by omega), List.take_of_length_le (by omega)] at this
        exact ⟨by simp [this], n, rfl⟩
  · have hne : ((xs.length : Int) != (ys.length : Int)) = true := by simp; omega
    have HN : Hid (xs ≠ ys) := fun h => hl (by rw [h])
    clear hl
    go_enter Tryd.func36, Tryd.ntmps36
    go_wp2
    go_ret
    exact ⟨by simp [HN.out], 0, rfl⟩

def joinL (ls : List Txt) : Txt := ls.flatMap (fun l => l ++ [10])
theorem joinL_snoc (ls : List Txt) (l : Txt) : joinL (ls ++ [l]) = joinL ls ++ (l ++ [10]) := by simp [joinL]
theorem joinL_cons (l : Txt) (ls : List Txt) : joinL (l :: ls) = l ++ 10 :: joinL ls := by simp [joinL]
theorem joinL_one : ∀ (a b : List Txt) (t : Txt), (∀ l ∈ a, (10 : UInt8) ∉ l) → (∀ l ∈ b, (10 : UInt8) ∉ l) → (10 : UInt8) ∉ t → joinL a ++ t = joinL b → a = b ∧ t = []
  | [], [], t, _, _, _, h => ⟨rfl, by simpa [joinL] using h⟩
  | [], l :: b, t, _, _, ht, h => by
    exfalso
    rw [joinL_cons] at h
    have h : t = l ++ 10 :: joinL b := by simpa [joinL] using h
    exact ht (by rw [h]; simp)
  | l :: a, [], t, _, _, _, h => by
    exfalso
    rw [joinL_cons] at h
    simp [joinL] at h
  | l :: a, m :: b, t, h1, h2, ht, h => by
    rw [joinL_cons, joinL_cons, List.append_assoc, List.cons_append] at h
    obtain ⟨rfl, h'⟩ := part_one (h1 l (by simp)) (h2 m (by simp)) h
    obtain ⟨rfl, rfl⟩ := joinL_one a b t (fun x hx => h1 x (by simp [hx])) (fun x hx => h2 x (by simp [hx])) ht h'
    exact ⟨rfl, rfl⟩
theorem head_join (ls : List Txt) : headL ++ joinL ls = joinL ([45, 45, 45] :: ls) := by simp [joinL, headL]
/-- How far it has gone: i bytes, of which the lines, and what is behind the last one from 'fr' on. -/
def LinesAt (b : Txt) (i fr : Nat) (out : List Txt) : Prop := fr ≤ i ∧ b.take fr = joinL out ∧ (∀ l ∈ out, (10 : UInt8) ∉ l) ∧ (10 : UInt8) ∉ (b.take i).drop fr
theorem LinesAt.step {b : Txt} {i fr : Nat} {out : List Txt} (h : LinesAt b i fr out) {x : UInt8} (hx : b[i]? = some x) (hne : x ≠ 10) : LinesAt b (i + 1) fr out := by
  obtain ⟨h1, h2, h3, h4⟩ := h
  have hi := (List.getElem?_eq_some_iff.1 hx).1
  refine ⟨by omega, h2, h3, ?_⟩
  rw [List.take_add_one, hx, List.drop_append_of_le_length (by simp; omega)]
  intro hm
  rcases List.mem_append.1 hm with hm | hm
  · exact h4 hm
  · simp at hm; exact hne hm.symm
theorem LinesAt.line {b : Txt} {i fr : Nat} {out : List Txt} (h : LinesAt b i fr out) (hx : b[i]? = some 10) : LinesAt b (i + 1) (i + 1) (out ++ [(b.drop fr).take (i - fr)]) := by
  obtain ⟨h1, h2, h3, h4⟩ := h
  have hi := (List.getElem?_eq_some_iff.1 hx).1
  have e : (b.drop fr).take (i - fr) = (b.take i).drop fr := by rw [List.drop_take]
  refine ⟨Nat.le_refl _, ?_, ?_, ?_⟩
  · rw [joinL_snoc, List.take_add_one, hx, ← h2, e, ← List.append_assoc]
    congr 1
    conv => lhs; rw [← List.take_append_drop fr (b.take i)]
    rw [List.take_take, Nat.min_eq_left h1]
  · intro l hl
    rcases List.mem_append.1 hl with hl | hl
    · exact h3 l hl
    · simp at hl; rw [hl, e]; exact h4
  · rw [List.drop_eq_nil_of_le (by simp; omega)]; simp
theorem LinesAt.all {b : Txt} {i fr : Nat} {out : List Txt} (h : LinesAt b i fr out) (hi : b.length ≤ i) : b = joinL out ++ b.drop fr ∧ (10 : UInt8) ∉ b.drop fr := by
  obtain ⟨h1, h2, h3, h4⟩ := h
  rw [List.take_of_length_le hi] at h4
  exact ⟨by rw [← h2, List.take_append_drop], h4⟩

theorem IsStrs.drop1 {w : World} {g o c : Nat} {ss : List ByteArray} (h : IsStrs w (some ⟨g, o, none⟩) c ss) : IsStrs w (some ⟨g, o + 1, none⟩) (c - 1) (ss.drop 1) := by
  obtain ⟨h1, h2, h3⟩ := h
  refine ⟨by simp; omega, by simp; omega, ?_⟩
  rcases h3 with rfl | ⟨b', o', e, hb, hc⟩
  · exact .inl rfl
  · cases e
    refine .inr ⟨g, o + 1, rfl, hb, fun j x hj => ?_⟩
    rw [List.getElem?_drop] at hj
    rw [Nat.add_assoc]
    exact hc _ x hj
def LinesPost (b : Txt) (w : World) (e : Ending) (w' : World) : Prop := ∃ (ok : Bool) (a : Option Addr) (c : Nat) (ls : List ByteArray), e = .returned (.tuple #[.slice a ls.length c, .bool ok]) ∧ IsStrs w' a c ls ∧ Below w.heap.size w w' ∧ ls.length ≤ b.length ∧
  (ok = true → b = headL ++ joinL (ls.map tx) ∧ ∀ l ∈ ls.map tx, (10 : UInt8) ∉ l) ∧ (ok = false → ∀ us : List Txt, (∀ l ∈ us, (10 : UInt8) ∉ l) → b ≠ headL ++ joinL us)
theorem head_ok (us : List Txt) (h : ∀ l ∈ us, (10 : UInt8) ∉ l) : ∀ l ∈ ([45, 45, 45] :: us : List Txt), (10 : UInt8) ∉ l := by
  intro l hl
  rcases List.mem_cons.1 hl with rfl | hl
  · decide
  · exact h l hl

set_option maxHeartbeats 2000000 in
set_option maxRecDepth 1000000 in
theorem lines_any (a : Option Addr) (c : Nat) (b : List UInt8) (w : World) (h : IsBytes w a c b) (hb : b.length ≤ 1073741823) :
    Calls Tryd.prog 34 #[.slice a b.length c] w (LinesPost b w) := by
  have HI : Hid (IsBytes w a c b) := h
  have hbc : b.length ≤ c := h.1
  clear h
  go_enter Tryd.func34, Tryd.ntmps34
  go_wp2
  go_loopg [4, 5, 10] b.length (fun gk v f i wr => ∃ (k fr : Nat) (out : List ByteArray), i = .int .i64 k ∧ f = .int .i64 fr ∧ k ≤ b.length ∧ fr ≤ k ∧ out.length ≤ k ∧ b.length - k ≤ gk ∧ Hid (LinesAt b k fr (out.map tx)) ∧ Hid (Strs wr w.heap.size v out) ∧ Hid (Below w.heap.size w wr))
  case atStart => exact ⟨0, 0, [], rfl, rfl, Nat.zero_le _, Nat.le_refl _, Nat.le_refl _, Nat.le_refl _, ⟨Nat.le_refl _, by simp [joinL], (fun l hl => by cases hl), by simp⟩, World.ownsRow_nil _ _ _ _, Below.refl _ _⟩
  case round =>
    obtain ⟨k, fr, out, rfl, rfl, hk, hfr, hol, hgk, HL, HS, HB⟩ := hrel
    by_cases hlt : k < b.length
    · obtain ⟨x, hx⟩ : ∃ x, b[k]? = some x := ⟨_, List.getElem?_eq_getElem hlt⟩
      obtain ⟨g, o, rfl⟩ := HI.out.addr (by omega)
      have c0 : wr.cell? ⟨g, o + k, none⟩ = some (.int .u8 (x.toNat : Int)) := by
        rcases (HI.out.below HB.out).2.2 with e | ⟨b', o', e, _, hc⟩
        · rw [e] at hlt; simp at hlt
        · cases e; exact hc k x hx
      have HX : Hid (b[k]? = some x) := hx
      clear hx
      by_cases hx10 : x = 10
      · subst hx10
        obtain ⟨T, hT⟩ : ∃ T : ByteArray, T = ⟨((b.drop fr).take (k - fr)).toArray⟩ := ⟨_, rfl⟩
        have HTD : Hid (tx T = (b.drop fr).take (k - fr)) := by show tx T = _; rw [hT]
        have hfc : fr ≤ c := by omega
        have hkc : k ≤ c := by omega
        have hi3 := ((HI.out.below HB.out).drop fr (by omega)).take (k - fr)
        have kt := conv_is hi3 (n := k - fr) (by simp; omega)
        rw [← hT] at kt
        have hsz : w.heap.size ≤ wr.heap.size := HB.out.size
        clear hT hi3
        rw [if_neg (show ¬ c = fr by omega)] at kt
        go_wp2_with (at_builtin; go_must (refine wpList_push_text rfl (.tmp 17) (.tmp 23) rfl w.heap.size _ out T rfl HS.out rfl (by omega) hsz ?_); intro v8 w8 o8 b8)
        go_roundg (b.length - (k + 1))
        case measure => omega
        case rel => exact ⟨k + 1, k + 1, out ++ [T], by go_num, by go_num, by omega, Nat.le_refl _, by simp; omega, Nat.le_refl _, by show LinesAt _ _ _ _; rw [List.map_append, List.map_singleton, HTD.out]; exact HL.out.line HX.out, o8, HB.out.trans b8⟩
      · have hxt : ((x.toNat : Int) == 10) = false := by
          rw [beq_eq_false_iff_ne]
          intro e
          exact hx10 (UInt8.toNat_inj.1 (by rw [show (10 : UInt8).toNat = 10 from rfl]; omega))
        have HXN : Hid (x ≠ 10) := hx10
        clear hx10
        go_wp2_with fail
        go_roundg (b.length - (k + 1))
        case measure => omega
        case rel => exact ⟨k + 1, fr, out, by go_num, rfl, by omega, by omega, by omega, Nat.le_refl _, HL.out.step HX.out HXN.out, HS.out, HB.out⟩
    · obtain ⟨hall, hno⟩ := HL.out.all (by omega)
      have HALL : Hid (b = joinL (out.map tx) ++ b.drop fr) := hall
      have HNO : Hid ((10 : UInt8) ∉ b.drop fr) := hno
      have HOUT : Hid (∀ l ∈ out.map tx, (10 : UInt8) ∉ l) := HL.out.2.2.1
      have HKEY : Hid (∀ us : List Txt, (∀ l ∈ us, (10 : UInt8) ∉ l) → b = headL ++ joinL us → out.map tx = [45, 45, 45] :: us ∧ b.drop fr = []) := by
        intro us hus he
        rw [head_join] at he
        exact joinL_one _ _ _ HOUT.out (head_ok us hus) HNO.out (HALL.out.symm.trans he)
      clear hall hno HL
      obtain ⟨a4, c4, rfl, i4⟩ := HS.out.is1 (by omega)
      have HI4 : Hid (IsStrs wr a4 c4 out) := i4
      clear i4
      have hlc4 : out.length ≤ c4 := HI4.out.1
      by_cases hf : fr = b.length
      · have hfb : ((fr : Int) != (b.length : Int)) = false := by simp; omega
        have HD : Hid (b.drop fr = []) := List.drop_eq_nil_of_le (by omega)
        clear hf
        by_cases h0 : out.length = 0
        · have h0b : ((out.length : Int) == 0) = true := by rw [h0]; rfl
          have HN : Hid (∀ us : List Txt, (∀ l ∈ us, (10 : UInt8) ∉ l) → b ≠ headL ++ joinL us) := fun us hus he => by
            have := (HKEY.out us hus he).1
            rw [List.eq_nil_of_length_eq_zero h0] at this
            cases this
          clear h0
          go_wp2_with fail
          go_ret2
          exact ⟨false, none, 0, [], rfl, ⟨by simp, by simp, .inl rfl⟩, HB.out, by simp, (fun h => by cases h), fun _ => HN.out⟩
        · have h0b : ((out.length : Int) == 0) = false := beq_eq_false_iff_ne.2 (by omega)
          obtain ⟨x, hx⟩ : ∃ x, out[0]? = some x := ⟨_, List.getElem?_eq_getElem (by omega)⟩
          obtain ⟨g, o, rfl, hg, c0⟩ := HI4.out.at hx
          rw [Nat.add_zero] at c0
          have h0l : 0 < out.length := by omega
          have HX : Hid (out[0]? = some x) := hx
          clear hx
          by_cases hd : x = ⟨#[45, 45, 45]⟩
          · have hdb : (!x.toList == [45, 45, 45]) = false := by rw [hd, ByteArray.toList_eq]; decide
            have HT : Hid (out = ⟨#[45, 45, 45]⟩ :: out.drop 1) := by
              show out = _
              rw [← hd]
              cases out with
              | nil => simp at h0l
              | cons y ys => have := HX.out; simp at this; rw [this]; rfl
            have HR : Hid (b = headL ++ joinL ((out.drop 1).map tx)) := by
              show b = _
              have h1 := HALL.out
              rw [HD.out, List.append_nil, HT.out, List.map_cons] at h1
              rw [head_join]
              exact h1
            have HR2 : Hid (∀ l ∈ (out.drop 1).map tx, (10 : UInt8) ∉ l) := fun l hl => HOUT.out l (by rw [HT.out, List.map_cons]; exact List.mem_cons_of_mem _ hl)
            have hl1 : (out.drop 1).length = out.length - 1 := by simp
            have hi1 := HI4.out.drop1
            clear hd
            go_wp2_with fail
            · go_ret2
              exact ⟨true, some ⟨g, o, none⟩, 0, out.drop 1, by rw [hl1]; rfl, ⟨by simp; omega, by simp; omega, .inl (List.drop_eq_nil_of_le (by omega))⟩, HB.out, by rw [hl1]; omega, fun _ => ⟨HR.out, HR2.out⟩, fun h => by cases h⟩
            · go_ret2
              exact ⟨true, some ⟨g, o + 1, none⟩, c4 - 1, out.drop 1, by rw [hl1]; rfl, hi1, HB.out, by rw [hl1]; omega, fun _ => ⟨HR.out, HR2.out⟩, fun h => by cases h⟩
          · have hdb : (!x.toList == [45, 45, 45]) = true := by
              rw [Bool.not_eq_true', beq_eq_false_iff_ne]
              intro e
              exact hd (list_inj (by rw [e, ByteArray.toList_eq]))
            have HN : Hid (∀ us : List Txt, (∀ l ∈ us, (10 : UInt8) ∉ l) → b ≠ headL ++ joinL us) := fun us hus he => by
              have h1 := (HKEY.out us hus he).1
              cases out with
              | nil => simp at h0l
              | cons y ys =>
                have h2 := HX.out
                simp at h2
                subst h2
                simp only [List.map_cons, List.cons.injEq] at h1
                exact hd (data_inj h1.1)
            clear hd
            go_wp2_with fail
            go_ret2
            exact ⟨false, none, 0, [], rfl, ⟨by simp, by simp, .inl rfl⟩, HB.out, by simp, (fun h => by cases h), fun _ => HN.out⟩
      · have hfb : ((fr : Int) != (b.length : Int)) = true := by simp; omega
        have HN : Hid (∀ us : List Txt, (∀ l ∈ us, (10 : UInt8) ∉ l) → b ≠ headL ++ joinL us) := fun us hus he => by
          have := (HKEY.out us hus he).2
          have h2 : (b.drop fr).length = 0 := by rw [this]; rfl
          simp at h2
          omega
        clear hf
        go_wp2_with fail
        go_ret2
        exact ⟨false, none, 0, [], rfl, ⟨by simp, by simp, .inl rfl⟩, HB.out, by simp, (fun h => by cases h), fun _ => HN.out⟩

def behind (s : ByteArray) : ByteArray := s.extract 2 s.size
theorem behind_tx (s : ByteArray) : tx (behind s) = (tx s).drop 2 := by
  unfold tx behind
  rw [ByteArray.data_extract]
  simp
  rw [List.take_of_length_le (by simp)]
theorem list_lines (us : List Txt) : listL us = headL ++ joinL (us.map fun t => [45, 32] ++ t) := by
  unfold listL linesL joinL
  rw [List.flatMap_map]
  rfl
theorem list_no (us : List Txt) (h : ∀ t ∈ us, textB t = true) : ∀ l ∈ us.map (fun t => [45, 32] ++ t), (10 : UInt8) ∉ l := by
  intro l hl
  obtain ⟨t, ht, rfl⟩ := List.mem_map.1 hl
  exact dash_no (h t ht)
/-- Where there is a list, its lines are these. -/
theorem ls_of {b : Txt} {ls : List ByteArray} (h1 : b = headL ++ joinL (ls.map tx)) (h2 : ∀ l ∈ ls.map tx, (10 : UInt8) ∉ l) {us : List Txt} (hus : ∀ t ∈ us, textB t = true) (hb : b = listL us) : ls.map tx = us.map (fun t => [45, 32] ++ t) := by
  rw [list_lines] at hb
  have := List.append_cancel_left (h1.symm.trans hb)
  exact (joinL_one _ _ [] h2 (list_no us hus) (by simp) (by rw [List.append_nil]; exact this)).1
theorem join_long (ls : List Txt) : ls.length ≤ (joinL ls).length := by
  induction ls with
  | nil => simp
  | cons l ls ih => rw [joinL_cons]; simp; omega
theorem lines_shorter : ∀ (ls : List Txt), (∀ l ∈ ls, 2 ≤ l.length) → (linesL (ls.map (·.drop 2))).length ≤ (joinL ls).length
  | [], _ => by simp [linesL]
  | l :: ls, h => by
    have ih := lines_shorter ls (fun x hx => h x (by simp [hx]))
    have hl := h l (by simp)
    rw [joinL_cons]
    simp only [linesL, List.map_cons, List.flatMap_cons, List.length_append, line_len, List.length_drop, List.length_cons] at ih ⊢
    omega


theorem mem_join_le {l : Txt} : ∀ {ls : List Txt}, l ∈ ls → l.length ≤ (joinL ls).length
  | m :: ls, h => by
    rw [joinL_cons]
    rcases List.mem_cons.1 h with rfl | h
    · simp
    · have := mem_join_le h
      simp
      omega
def lineP (p : Pr) : Txt := p.1 ++ [58, 32] ++ p.2
theorem dict_lines (us : List Pr) : dictL us = headL ++ joinL (us.map lineP) := by
  unfold dictL pairsL joinL
  rw [List.flatMap_map]
  rfl
theorem okF_all : ∀ (us done : List Pr), okF done us → ∀ p ∈ us, keyB p.1 = true ∧ textB p.2 = true
  | [], _, _, p, hp => by cases hp
  | q :: us, done, h, p, hp => by
    have hc := checkE_ok h.1
    rcases List.mem_cons.1 hp with rfl | hp
    · exact ⟨hc.1, hc.2.2⟩
    · exact okF_all us _ h.2 p hp
theorem dict_no (us : List Pr) (h : okF [] us) : ∀ l ∈ us.map lineP, (10 : UInt8) ∉ l := by
  intro l hl
  obtain ⟨p, hp, rfl⟩ := List.mem_map.1 hl
  have := okF_all us [] h p hp
  exact pair_no this.1 this.2
theorem lsD_of {b : Txt} {ls : List ByteArray} (h1 : b = headL ++ joinL (ls.map tx)) (h2 : ∀ l ∈ ls.map tx, (10 : UInt8) ∉ l) {us : List Pr} (hus : okF [] us) (hb : b = dictL us) : ls.map tx = us.map lineP := by
  rw [dict_lines] at hb
  have := List.append_cancel_left (h1.symm.trans hb)
  exact (joinL_one _ _ [] h2 (dict_no us hus) (by simp) (by rw [List.append_nil]; exact this)).1
/-- Where the first colon stands. -/
def colonAt (s : Txt) (k : Nat) : Prop := k ≤ s.length ∧ (58 : UInt8) ∉ s.take k ∧ (k = s.length ∨ s[k]? = some 58)
theorem colon_one {s : Txt} {k : Nat} (h : colonAt s k) {p r : Txt} (hp : (58 : UInt8) ∉ p) (hs : s = p ++ 58 :: r) : k = p.length := by
  obtain ⟨h1, h2, h3⟩ := h
  rcases Nat.lt_trichotomy k p.length with hlt | he | hgt
  · exfalso
    rcases h3 with h3 | h3
    · rw [hs] at h3; simp at h3; omega
    · rw [hs, List.getElem?_append_left hlt] at h3
      exact hp (List.mem_of_getElem? h3)
  · exact he
  · exfalso
    refine h2 (List.mem_iff_getElem?.2 ⟨p.length, ?_⟩)
    rw [List.getElem?_take_of_lt hgt, hs]
    simp
theorem cut_pair {s : Txt} {k : Nat} (h : colonAt s k) {p : Pr} (h1 : keyB p.1 = true) (hs : s = lineP p) : k + 2 ≤ s.length ∧ s.take k = p.1 ∧ s.drop (k + 2) = p.2 := by
  have hk : k = p.1.length := colon_one h (fun hm => (keyB_all h1 _ hm).2.1 rfl) (r := 32 :: p.2) (by rw [hs]; simp [lineP])
  subst hk
  rw [hs]
  unfold lineP
  refine ⟨by simp, by simp, ?_⟩
  rw [List.append_assoc, List.drop_append]
  simp
theorem ext_tx (s : ByteArray) (a b : Nat) : tx (s.extract a b) = ((tx s).drop a).take (b - a) := by
  unfold tx
  rw [ByteArray.data_extract]
  simp

theorem step_pair {ops : Array Oper} {o : Oper} {a : Act} {K : Act → World → Prop} {Q : Exit → Act → World → Prop} {E : Prop} (hgd : o.guard = none) (s x : Operand)
    (ho : o.op = .call { callee := .builtin .append, args := #[s, x], argTypes := #[46, 46] })
    (B : Nat) (w : World) (v : Value) (ps : List BP) (p : BP) (hown : Prs w B v ps) (hB : B ≤ w.heap.size) (hR : ps.length ≤ 1073741823) (hs : a.eval s = v) (hx : a.eval x = .slice (some ⟨w.heap.size, 0, none⟩) 1 1)
    (h : ∀ g cap w', Prs w' B (.slice (some ⟨g, 0, none⟩) (ps.length + 1) cap) (ps ++ [p]) → Below B w w' → K (a.put o.dst (.slice (some ⟨g, 0, none⟩) (ps.length + 1) cap)) w') :
    if Region.wanted o (yielded ops a.tmps) = true then Oper.wp Tryd.prog o a ((w.alloc (.cells #[.string p.1, .string p.2] 52)).drew) K Q else E := by
  obtain ⟨i0, hi, hz0, hz1, hz2⟩ := info_parts info_pair
  have hX : World.ownsRow (w.alloc (.cells #[.string p.1, .string p.2] 52)).drew B 52 2 v ps.length (twos ps) := hown.alloc _
  refine step_append_lies ((w.alloc (.cells #[.string p.1, .string p.2] 52)).drew) hgd s x 46 ho B 52 i0 (.agg #[.string ⟨#[]⟩, .string ⟨#[]⟩]) 2 32 Tryd.underlying46 hi hz0 hz1 hz2 rfl (by decide) v ps.length (twos ps) hs hX ⟨w.heap.size, 0, none⟩ 1 1 (two p) hx rfl ?_ ?_ (by decide) (by unfold maxLen; omega) (by omega) (Nat.le_trans hB (by simp [World.drew])) _ rfl ?_
  · exact World.news_of_block (w := (w.alloc (.cells #[.string p.1, .string p.2] 52)).drew) (cs := #[.string p.1, .string p.2]) (heap_alloc_new w _)
  · intro u hu; simp [two] at hu; rcases hu with rfl | rfl <;> rfl
  · intro g cap w' h1 h2 h3 _
    refine h g cap w' ?_ ?_
    · show World.ownsRow _ _ _ _ _ _ _
      rw [List.length_append, show twos (ps ++ [p]) = twos ps ++ two p by simp [twos]]
      exact h1
    · exact (((Below.refl B w).alloc hB _).drew).grown h2 (by simp [World.drew]; omega) (fun j hj => (hX.lt j hj).1)

set_option maxHeartbeats 4000000 in
set_option maxRecDepth 1000000 in
theorem refReadDict_any (a : Option Addr) (c : Nat) (b : List UInt8) (w : World) (h : IsBytes w a c b) (hb : b.length ≤ 1073741823) :
    Calls Tryd.prog 16 #[.slice a b.length c] w (ReadDPost b w) := by
  have HI : Hid (IsBytes w a c b) := h
  clear h
  go_enter Tryd.func16, Tryd.ntmps16
  go_upto_region 2 with (go_at_call 34; refine (lines_any a c b w HI.out hb).mono ?_; rintro e w1 ⟨ok, a1, c1, ls, rfl, i1, b1, hl1, hy, hn⟩)
  have HI1 : Hid (IsStrs w1 a1 c1 ls) := i1
  have HB1 : Hid (Below w.heap.size w w1) := b1
  have hlc1 : ls.length ≤ c1 := i1.1
  clear i1 b1
  cases ok
  · have HN : Hid (∀ us : List Pr, us.length ≤ 256 → okF [] us → b ≠ dictL us) := fun us _ hus he => hn rfl _ (dict_no us hus) (by rw [← dict_lines]; exact he)
    clear hy hn
    go_wp2_with fail
    go_ret2
    exact ⟨_, _, [], rfl, .inr ⟨rfl, rfl, HN.out⟩, World.ownsRow_nil _ _ _ _, HB1.out⟩
  obtain ⟨hy1, hy2⟩ := hy rfl
  have HY1 : Hid (b = headL ++ joinL (ls.map tx)) := hy1
  have HY2 : Hid (∀ l ∈ ls.map tx, (10 : UInt8) ∉ l) := hy2
  have HLS : Hid (∀ us : List Pr, okF [] us → b = dictL us → ls.map tx = us.map lineP) := fun us hus he => lsD_of hy1 hy2 hus he
  clear hy hn hy1 hy2
  by_cases h256 : 256 < ls.length
  · have h6b : decide ((256 : Int) < (ls.length : Int)) = true := by simp; omega
    have HN : Hid (∀ us : List Pr, us.length ≤ 256 → okF [] us → b ≠ dictL us) := fun us hl hus he => by
      have := congrArg List.length (HLS.out us hus he)
      simp at this
      omega
    go_wp2_with fail
    go_ret2
    exact ⟨_, _, [], rfl, .inr ⟨rfl, rfl, HN.out⟩, World.ownsRow_nil _ _ _ _, HB1.out⟩
  have h6b : decide ((256 : Int) < (ls.length : Int)) = false := by simp; omega
  go_wp2_with fail
  go_loopg [6, 26] ls.length (fun gk v i wr => ∃ (k : Nat) (out : List BP), i = .int .i64 k ∧ k ≤ ls.length ∧ out.length = k ∧ ls.length - k ≤ gk ∧ Hid (Prs wr w1.heap.size v out) ∧ Hid (Below w1.heap.size w1 wr) ∧ Hid ((pairsL (out.map un)).length ≤ (joinL ((ls.take k).map tx)).length) ∧ Hid (∀ us : List Pr, okF [] us → b = dictL us → out.map un = us.take k))
  case atStart => exact ⟨0, [], rfl, Nat.zero_le _, rfl, Nat.le_refl _, World.ownsRow_nil _ _ _ _, Below.refl _ _, by show _ ≤ _; simp [pairsL], fun us _ _ => by simp⟩
  case round =>
    obtain ⟨k, out, rfl, hk, hol, hgk, HS, HB2, HSH, HUS⟩ := hrel
    have HB : Hid (Below w.heap.size w wr) := HB1.out.trans (HB2.out.mono HB1.out.size)
    by_cases hlt : k < ls.length
    · obtain ⟨x, hx⟩ : ∃ x, ls[k]? = some x := ⟨_, List.getElem?_eq_getElem hlt⟩
      obtain ⟨g, o, rfl, hg, c0⟩ := (HI1.out.below HB2.out).at hx
      have HX : Hid (ls[k]? = some x) := hx
      have HXS : Hid (x.size ≤ 1073741823) := by
        have h1 : tx x ∈ ls.map tx := List.mem_map_of_mem (List.mem_of_getElem? hx)
        have h2 := congrArg List.length HY1.out
        rw [List.length_append] at h2
        have h3 := mem_join_le h1
        have h4 : (tx x).length = x.size := by simp [tx]
        show _ ≤ _
        omega
      have hxs := HXS.out
      clear hx
      have hsz : w1.heap.size ≤ wr.heap.size := HB2.out.size
      have HLX : Hid (∀ us : List Pr, okF [] us → b = dictL us → ∃ p, us[k]? = some p ∧ keyB p.1 = true ∧ tx x = lineP p) := fun us hus he => by
        have h3 := HLS.out us hus he
        have h4 : (ls.map tx)[k]? = some (tx x) := by simp [HX.out]
        rw [h3, List.getElem?_map] at h4
        obtain ⟨p, h5, h6⟩ := Option.map_eq_some_iff.1 h4
        exact ⟨p, h5, (okF_all us [] hus p (List.mem_of_getElem? h5)).1, h6.symm⟩
      go_wp2_with fail
      go_loopg [9] x.size (fun gk i wq => ∃ j : Nat, i = .int .i64 j ∧ j ≤ x.size ∧ x.size - j ≤ gk ∧ wq = wr ∧ Hid ((58 : UInt8) ∉ (tx x).take j))
      case atStart => exact ⟨0, rfl, Nat.zero_le _, Nat.le_refl _, rfl, by show _ ∉ _; simp⟩
      case round =>
        obtain ⟨j, rfl, hj, hgj, hwq, HNC⟩ := hrel
        subst hwq
        have hxl : (tx x).length = x.size := by simp [tx]
        by_cases hjx : j < x.size
        · by_cases h58 : x[j] = 58
          · have hjb : ((x[j].toNat : Int) != 58) = false := by rw [h58]; rfl
            have HCO : Hid (colonAt (tx x) j) := ⟨by omega, HNC.out, .inr (by rw [at_list x j hjx, h58])⟩
            clear h58
            by_cases h2 : x.size < j + 2
            · have h2b : decide ((x.size : Int) < (j : Int) + 2) = true := by simp; omega
              have HN : Hid (∀ us : List Pr, us.length ≤ 256 → okF [] us → b ≠ dictL us) := fun us _ hus he => by
                obtain ⟨p, _, hp2, hp3⟩ := HLX.out us hus he
                have := (cut_pair HCO.out hp2 hp3).1
                omega
              go_wp2_with fail
              go_ret2
              exact ⟨_, _, [], rfl, .inr ⟨rfl, rfl, HN.out⟩, World.ownsRow_nil _ _ _ _, HB.out⟩
            · have h2b : decide ((x.size : Int) < (j : Int) + 2) = false := by simp; omega
              have hj2 : j + 2 ≤ x.size := by omega
              have hj2i : (j : Int) + 2 ≤ (x.size : Int) := by omega
              have hR : out.length ≤ 1073741823 := by omega
              have hwj : IntKind.i64.wrap ((j : Int) + 2) = (j : Int) + 2 := by rw [IntKind.wrap_i64]; omega
              have htj : ((j : Int) + 2).toNat = j + 2 := by omega
              have h0j : (0 : Int) ≤ (j : Int) + 2 := by omega
              clear h2
              go_wp2_with fail
              go_region_law (refine step_pair rfl (.tmp 47) (.tmp 56) rfl w1.heap.size wr _ out (x.extract 0 j, x.extract (j + 2) x.size) HS.out hsz hR (by simp [Act.eval]) (by simp [Act.eval]) ?_; intro g8 c8 w8 o8 b8)
              have hunP : un (x.extract 0 j, x.extract (j + 2) x.size) = ((tx x).take j, (tx x).drop (j + 2)) := by
                show (tx _, tx _) = _
                rw [ext_tx, ext_tx, List.drop_zero, Nat.sub_zero, List.take_of_length_le (l := (tx x).drop (j + 2)) (by simp)]
              have HO8 : Hid (Prs w8 w1.heap.size (.slice (some ⟨g8, 0, none⟩) (k + 1) c8) (out ++ [(x.extract 0 j, x.extract (j + 2) x.size)])) := by show Prs _ _ _ _; rw [← hol]; exact o8
              have HSH8 : Hid ((pairsL ((out ++ [(x.extract 0 j, x.extract (j + 2) x.size)]).map un)).length ≤ (joinL ((ls.take (k + 1)).map tx)).length) := by
                have h1 := HSH.out
                show _ ≤ _
                rw [List.take_add_one, HX.out, List.map_append, List.map_append, pairs_append, List.map_singleton, hunP]
                simp only [Option.toList_some, List.map_cons, List.map_nil, joinL_snoc, List.length_append, List.length_cons, List.length_nil]
                simp only [pairsL, List.flatMap_cons, List.flatMap_nil, List.append_nil, pair_len, List.length_take, List.length_drop] at h1 ⊢
                omega
              have HUS8 : Hid (∀ us : List Pr, okF [] us → b = dictL us → (out ++ [(x.extract 0 j, x.extract (j + 2) x.size)]).map un = us.take (k + 1)) := fun us hus he => by
                obtain ⟨p, hp1, hp2, hp3⟩ := HLX.out us hus he
                have h3 := cut_pair HCO.out hp2 hp3
                rw [List.map_append, List.map_singleton, hunP, HUS.out us hus he, List.take_add_one, hp1, h3.2.1, h3.2.2]
                rfl
              have HB8 : Hid (Below w1.heap.size w1 w8) := HB2.out.trans b8
              clear hunP o8 b8
              go_wp2_with fail
              go_roundg (ls.length - (k + 1))
              case measure => omega
              case rel => exact ⟨k + 1, _, by go_num, by omega, by rw [List.length_append, hol]; rfl, Nat.le_refl _, HO8.out, HB8.out, HSH8.out, HUS8.out⟩
          · have hjb : ((x[j].toNat : Int) != 58) = true := by
              rw [bne_iff_ne]
              intro e
              exact h58 (UInt8.toNat_inj.1 (by rw [show (58 : UInt8).toNat = 58 from rfl]; omega))
            have HS2 : Hid ((58 : UInt8) ∉ (tx x).take (j + 1)) := by
              show _ ∉ _
              rw [List.take_add_one, at_list x j hjx]
              intro hm
              rcases List.mem_append.1 hm with hm | hm
              · exact HNC.out hm
              · simp at hm; exact h58 hm.symm
            clear h58
            go_wp2_with fail
            go_roundg (x.size - (j + 1))
            case measure => omega
            case rel => exact ⟨j + 1, by go_num, by omega, Nat.le_refl _, rfl, HS2.out⟩
        · have HN : Hid (∀ us : List Pr, us.length ≤ 256 → okF [] us → b ≠ dictL us) := fun us _ hus he => by
            obtain ⟨p, _, hp2, hp3⟩ := HLX.out us hus he
            have := (cut_pair (k := j) ⟨by omega, HNC.out, .inl (by omega)⟩ hp2 hp3).1
            omega
          have h2b : decide ((x.size : Int) < (j : Int) + 2) = true := by simp; omega
          go_wp2_with fail
          go_ret2
          exact ⟨_, _, [], rfl, .inr ⟨rfl, rfl, HN.out⟩, World.ownsRow_nil _ _ _ _, HB.out⟩
    · have HSHA : Hid ((dictL (out.map un)).length < 140737488355328) := by
        have h1 := HSH.out
        rw [List.take_of_length_le (by omega)] at h1
        have h2 := congrArg List.length HY1.out
        rw [List.length_append] at h2
        show _ < _
        unfold dictL
        rw [List.length_append]
        omega
      have HUA : Hid (∀ us : List Pr, okF [] us → b = dictL us → out.map un = us) := fun us hus he => by
        have h1 := HUS.out us hus he
        have h2 := congrArg List.length (HLS.out us hus he)
        rw [List.take_of_length_le (by simp at h2; omega)] at h1
        exact h1
      have HOL : Hid (out.length ≤ 256) := by show _ ≤ _; omega
      clear hol
      obtain ⟨a6, c6, rfl, i6⟩ := HS.out.is (by have := HOL.out; omega)
      have HI6 : Hid (IsPairs wr a6 c6 out) := i6
      clear i6
      obtain ⟨eb, heb⟩ : ∃ eb, dictE (out.map un) = eb := ⟨_, rfl⟩
      have HEB : Hid (dictE (out.map un) = eb) := heb
      clear heb
      by_cases hz : eb = 0
      · obtain rfl := hz
        have HOK : Hid (okF [] (out.map un)) := by
          have h1 := HEB.out
          unfold dictE at h1
          rw [if_neg (by simpa using HOL.out)] at h1
          exact (goE_ok _ _).1 h1
        obtain ⟨sb, hsb⟩ : ∃ sb, decide (dictL (out.map un) = b) = sb := ⟨_, rfl⟩
        have HSB : Hid (decide (dictL (out.map un) = b) = sb) := hsb
        clear hsb
        have HN : Hid (sb = false → ∀ us : List Pr, us.length ≤ 256 → okF [] us → b ≠ dictL us) := fun hsb us _ hus he => by
          have h1 := HUA.out us hus he
          have h2 := HSB.out
          rw [h1, hsb, decide_eq_false_iff_not] at h2
          exact h2 he.symm
        have HY : Hid (sb = true → b = dictL (out.map un)) := fun hsb => by
          have h2 := HSB.out
          rw [hsb, decide_eq_true_eq] at h2
          exact h2.symm
        go_wp2_with (first
          | (go_at_call 35; refine (refDict_any a6 c6 out wr HI6.out HSHA.out).mono ?_; rintro e w7 ⟨a7, c7, rfl, i7, b7⟩; rw [HEB.out, if_pos rfl]; rw [HEB.out, if_pos rfl] at i7; have HI7 : Hid (IsBytes w7 a7 c7 (dictL (out.map un))) := i7.1; have HB7 : Hid (Below wr.heap.size wr w7) := b7; clear i7 b7)
          | (go_at_call 36; refine (sameR_any a7 a c7 c (dictL (out.map un)) b w7 HI7.out ((HI.out.below HB.out).below HB7.out)).mono ?_; rintro e w8 ⟨rfl, n8, hw8⟩; have HB8 : Hid (Below wr.heap.size wr w8) := (by rw [hw8]; exact below_drewN HB7.out n8); clear hw8; rw [HSB.out]))
        · go_ret2
          rename_i hq
          exact ⟨_, _, [], rfl, .inr ⟨rfl, rfl, HN.out (by simpa using hq)⟩, World.ownsRow_nil _ _ _ _, HB.out.trans (HB8.out.mono HB.out.size)⟩
        · go_ret2
          rename_i hq
          exact ⟨_, _, out, rfl, .inl ⟨rfl, HOL.out, HOK.out, HY.out (by simpa using hq)⟩, (HS.out.below HB8.out).mono HB1.out.size, HB.out.trans (HB8.out.mono HB.out.size)⟩
      · have hzb : (eb != 0) = true := by simpa using hz
        have HN : Hid (∀ us : List Pr, us.length ≤ 256 → okF [] us → b ≠ dictL us) := fun us hl hus he => by
          have h1 := HUA.out us hus he
          have h2 := HEB.out
          rw [h1] at h2
          unfold dictE at h2
          rw [if_neg (by omega), (goE_ok _ _).2 hus] at h2
          exact hz h2.symm
        have HZ : Hid (¬ eb = 0) := hz
        clear hz
        go_wp2_with (first
          | (go_at_call 35; refine (refDict_any a6 c6 out wr HI6.out HSHA.out).mono ?_; rintro e w7 ⟨a7, c7, rfl, i7, b7⟩; rw [HEB.out, if_neg HZ.out]; have HB7 : Hid (Below wr.heap.size wr w7) := b7; clear i7 b7))
        go_ret2
        exact ⟨_, _, [], rfl, .inr ⟨rfl, rfl, HN.out⟩, World.ownsRow_nil _ _ _ _, HB.out.trans (HB7.out.mono HB.out.size)⟩
theorem readD_two {b : Txt} {e1 e2 : Int} {t1 t2 : List BP} (h1 : readD b e1 t1) (h2 : readD b e2 t2) : e2 = e1 ∧ t2 = t1 := by
  rcases h1 with ⟨rfl, a0, a1, a2⟩ | ⟨rfl, rfl, a3⟩
  · exact readD_one h2 a0 a1 a2
  · rcases h2 with ⟨rfl, c0, c1, c2⟩ | ⟨rfl, rfl, _⟩
    · exact absurd c2 (a3 _ (by simpa using c0) c1)
    · exact ⟨rfl, rfl⟩
end Go.Proofs.YthapbnlcodkalaaDoor
