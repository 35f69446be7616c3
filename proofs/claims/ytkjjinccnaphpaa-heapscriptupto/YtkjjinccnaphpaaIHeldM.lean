/-
  INums, IAppend, IHeld, ISpoiling.
-/
import Derived.Test.YtkjjinccnaphpaaProg
import Derived.WalkKit
import Derived.WalkSpells
import Derived.WalkLawsBesides
import Derived.WalkSmall
import Derived.Deep.AppendSrc
import Derived.OwnWalk
import Derived.Laws.CopyOwn
import Derived.Deep.WholeRow
import Derived.Test.YtkjjinccnaphpaaKit
namespace Go.Proofs.Ytkjjinccnaphpaa
open Go.RowKit

/-- The slice at 'a', of capacity c, has the numbers ss. -/
def IsInts (w : World) (a : Option Addr) (c : Nat) (ss : List Int) : Prop :=
  ss.length ≤ c ∧ ss.length ≤ maxLen ∧ (ss = [] ∨ ∃ b o, a = some ⟨b, o, none⟩ ∧ b < w.heap.size ∧ ∀ (j : Nat) x, ss[j]? = some x → w.cell? ⟨b, o + j, none⟩ = some (.int .i64 x))

theorem IsInts.below {w w' : World} {a : Option Addr} {c : Nat} {ss : List Int} (h : IsInts w a c ss) (hb : Below w.heap.size w w') : IsInts w' a c ss := by
  obtain ⟨h1, h2, h3⟩ := h
  refine ⟨h1, h2, ?_⟩
  rcases h3 with h | ⟨b, o, ha, hbk, hc⟩
  · exact .inl h
  · exact .inr ⟨b, o, ha, Nat.lt_of_lt_of_le hbk hb.size, fun j x hj => (hb.cell (p := ⟨b, o + j, none⟩) hbk).trans (hc j x hj)⟩

theorem IsInts.own {w : World} {B e g cap : Nat} {ss : List Int} (h : w.ownsRow B e 1 (.slice (some ⟨g, 0, none⟩) ss.length cap) ss.length (ss.map (Value.int .i64))) (hm : ss.length ≤ maxLen) : IsInts w (some ⟨g, 0, none⟩) cap ss := by
  refine ⟨?_, hm, .inr ⟨g, 0, rfl, (h.lt g rfl).2, fun j x hj => ?_⟩⟩
  · rcases h.2 with ⟨hv, _⟩ | ⟨g', cap', cur, hv, _, _, hx⟩
    · cases hv
    · cases hv; exact hx.1
  · have := h.cells rfl j (.int .i64 x) (by simp [hj])
    rw [Nat.zero_add]
    cases j with
    | zero => simpa [Addr.add] using this
    | succ j => simpa [Addr.add] using this

end Go.Proofs.Ytkjjinccnaphpaa

namespace Go.Proofs.Ytkjjinccnaphpaa
open Go.RowKit

theorem run_append_keeps {P : Program} (w : World) (base : Nat) (t ty e : TypeId) (i : TypeInfo) (z : Value) (ht : P.underlying t = some (.slice e)) (hi : P.info? e = some i) (hz : i.zero = some z)
    (hsize : i.size = 1) (hzs : z.cells.size = 1) (v : Value) (n : Nat) (xs : List Value) (hown : w.ownsRow base e 1 v n xs)
    (a : Option Addr) (m c : Nat) (news : List Value) (hl : news.length = m) (hnews : (a = none ∧ m = 0) ∨ ∃ ad, a = some ad ∧ ∀ j u, news[j]? = some u → w.cell? (ad.add j) = some u) (h1 : ∀ u ∈ news, u.oneCell' = true)
    (h63 : n + m ≤ maxLen) (hbytes : (n + m) * i.bytes ≤ 140737488355328) (hbase : base ≤ w.heap.size) :
    ∃ v' w', (Builtin.append_ #[t, t] ty #[v, .slice a m c]).run P w = .ok v' w' ∧ w'.ownsRow base e 1 v' (n + m) (xs ++ news) ∧ w.grownBy w' v.ownBlock ∧ (∀ (b0 : Nat) (u : Value) (m' : Nat) (ys : List Value), w.ownsRow b0 e 1 u m' ys → (u.ownBlock = v.ownBlock → m' ≤ n) → w'.ownsRow b0 e 1 u m' ys) ∧
      (v'.ownBlock = v.ownBlock ∨ v'.ownBlock = some w.heap.size) ∧ (v' = .slice none 0 0 ↔ v = .slice none 0 0 ∧ m = 0) := by
  have hsmall : n + m ≤ 9223372036854775807 := by simp only [maxLen] at h63; omega
  rcases hnews with ⟨rfl, rfl⟩ | ⟨ad, rfl, hnews⟩
  · obtain rfl : news = [] := List.eq_nil_of_length_eq_zero hl
    refine ⟨v, w, ?_, by simpa using hown, ⟨rfl, rfl, rfl, Nat.le_refl _, fun _ _ _ => rfl⟩, fun _ _ _ _ h _ => h, .inl rfl, by simp⟩
    rcases hown.2 with ⟨rfl, rfl⟩ | ⟨g, cap, cur, rfl, hbg, hg, hnc, hcm, hcs, htake⟩
    · simp [Builtin.append_, run_underlying ht, sizeOf, typeInfo, hi, Builtin.lenOf, Builtin.firstCells]
    · have hr := run_append_room_src (P := P) w t t ty e i ht hi g 0 n cap (.slice none 0 c) 0 [] (Src.ofNil w ht c) (by omega) (by simp) (by simp)
      simpa [World.setCells] using hr
  · have hlen : (xs ++ news).length = (n + m) * 1 := by rw [List.length_append, hown.1, hl]; omega
    have grown : ∀ (old : Nat), old < n + m → ∀ (row : Option Nat),
        (w.drew.alloc (.cells (xs.toArray ++ news.toArray ++ Builtin.zeroCells z.cells (grownCap w (n + m) old e - (n + m))) e)).ownsRow base e 1
          (.slice (some ⟨w.heap.size, 0, none⟩) (n + m) (grownCap w (n + m) old e)) (n + m) (xs ++ news) ∧
        w.grownBy (w.drew.alloc (.cells (xs.toArray ++ news.toArray ++ Builtin.zeroCells z.cells (grownCap w (n + m) old e - (n + m))) e)) row := by
      intro old ho row
      have hge := grownCap_ge w (n + m) old e
      have hcm : grownCap w (n + m) old e ≤ maxLen := grownCap_le_maxLen w (n + m) old e h63
      refine ⟨⟨hlen, .inr ⟨w.heap.size, _, _, rfl, hbase, heap_alloc_new w.drew _, hge, hcm, ?_, ?_⟩⟩, ⟨rfl, rfl, rfl, by simp, fun k hk _ => heap_alloc_old w.drew _ hk⟩⟩
      · simp only [Array.size_append, List.size_toArray, size_zeroCells, hzs, hown.1, hl]
        omega
      · simp only [Array.toList_append, List.append_assoc]
        rw [← List.append_assoc, ← hlen]
        exact List.take_left
    rcases hown.2 with ⟨rfl, rfl⟩ | ⟨g, cap, cur, rfl, hbg, hg, hnc, hcm, hcs, htake⟩
    · have hx : xs = [] := List.eq_nil_of_length_eq_zero (by simpa using hown.1)
      subst hx
      by_cases hm : m = 0
      · subst hm
        obtain rfl : news = [] := List.eq_nil_of_length_eq_zero hl
        refine ⟨.slice none 0 0, w, ?_, World.ownsRow_nil w base e 1, ⟨rfl, rfl, rfl, Nat.le_refl _, fun _ _ _ => rfl⟩, fun _ _ _ _ h _ => h, .inl rfl, by simp⟩
        simp [Builtin.append_, run_underlying ht, sizeOf, typeInfo, hi, Builtin.lenOf, Builtin.firstCells, loadCells, loadCellsFrom]
      · have hr := run_append_nil (P := P) w t ty e i z ht hi hz ad m c news (by rw [hsize, hl, Nat.mul_one]) hnews (by omega) (by omega) (by have hb := hbytes; simp only [Nat.zero_add] at hb; omega)
        have hgr := grown 0 (by omega) (Value.ownBlock (.slice none 0 0))
        simp only [Nat.zero_add, List.nil_append, Array.empty_append] at hgr ⊢
        have hgn := grown 0 (by omega) none
        simp only [Nat.zero_add, List.nil_append, Array.empty_append] at hgn
        exact ⟨_, _, hr, hgr.1, hgr.2, fun _ u _ _ h _ => h.kept hgn.2 (by cases hu : u.ownBlock <;> simp), .inr rfl, by simp [hm]⟩
    · by_cases hroom : n + m ≤ cap
      · have hfit : n * i.size + news.length ≤ cur.size := by rw [hl, hcs, hsize]; omega
        have hr := run_append_room (P := P) w t ty e i ht hi g n cap cur hg ad m c news (by rw [hsize, hl, Nat.mul_one]) hnews h1 hroom hfit
        rw [hsize] at hr
        have htl : (cur.toList.take (n * 1)).length = n * 1 := by rw [htake, hown.1]
        refine ⟨_, _, hr, ⟨hlen, .inr ⟨g, cap, _, rfl, hbg, setRow_heap w g cur _ e _ hg, hroom, hcm, ?_, ?_⟩⟩, ⟨rfl, rfl, rfl, by simp, fun k _ hk => setRow_other w g k _ (fun e => hk (by simp [Value.ownBlock, e]))⟩,
          ?_, .inl rfl, by simp⟩
        · simp only [List.size_toArray, List.length_append, List.length_take, List.length_drop, Array.length_toList]
          omega
        · rw [htake, ← hlen]
          exact List.take_left
        · intro b0 u m' ys h hle
          refine ⟨h.1, ?_⟩
          rcases h.2 with h0 | ⟨g', cap', cur', rfl, hb', hg', hnc', hcm', hcs', htake'⟩
          · exact .inl h0
          · by_cases hgg : g' = g
            · subst hgg
              rw [hg] at hg'
              simp only [Option.some.injEq, Obj.cells.injEq, and_true] at hg'
              obtain rfl := hg'
              refine .inr ⟨g', cap', _, rfl, hb', setRow_heap w g' cur _ e _ hg, hnc', hcm', ?_, ?_⟩
              · rw [← hcs']
                simp only [List.size_toArray, List.length_append, List.length_take, List.length_drop, Array.length_toList]
                omega
              · have hmn := hle rfl
                rw [List.append_assoc]
                simp only []
                rw [List.take_append_of_le_length (by omega), List.take_take, Nat.min_eq_left (by omega), htake']
            · exact .inr ⟨g', cap', cur', rfl, hb', (setRow_other w g g' _ hgg).trans hg', hnc', hcm', hcs', htake'⟩
      · have holds : ∀ j u, xs[j]? = some u → w.cell? ((⟨g, 0, none⟩ : Addr).add j) = some u := hown.cells (g := g) rfl
        have hr := run_append_grow (P := P) w t ty e i z ht hi hz ⟨g, 0, none⟩ n cap xs (by rw [hsize]; exact hown.1) holds ad m c news (by rw [hsize, hl, Nat.mul_one]) hnews (by omega) (by omega) (growslice_fits (by omega) hbytes)
        have hgr := grown cap (by omega) (Value.ownBlock (.slice (some ⟨g, 0, none⟩) n cap))
        have hgn := grown cap (by omega) none
        exact ⟨_, _, hr, hgr.1, hgr.2, fun _ u _ _ h _ => h.kept hgn.2 (by cases hu : u.ownBlock <;> simp), .inr rfl, by simp⟩

theorem wpList_append_keeps {P : Program} {w : World} {ops : Array Oper} {rest : List Oper} {o : Oper} {a : Act} {Q : Exit → Act → World → Prop} (hgd : o.guard = none) (s x : Operand) (t : TypeId)
    (ho : o.op = .call { callee := .builtin .append, args := #[s, x], argTypes := #[t, t] })
    (base : Nat) (e : TypeId) (i : TypeInfo) (z : Value) (ht : P.underlying t = some (.slice e)) (hi : P.info? e = some i) (hz : i.zero = some z) (hsize : i.size = 1) (hzs : z.cells.size = 1)
    (v : Value) (n : Nat) (xs : List Value) (hs : a.eval s = v) (hown : w.ownsRow base e 1 v n xs)
    (ad : Option Addr) (m c : Nat) (news : List Value) (hx : a.eval x = .slice ad m c) (hl : news.length = m) (hnews : (ad = none ∧ m = 0) ∨ ∃ p, ad = some p ∧ ∀ j u, news[j]? = some u → w.cell? (p.add j) = some u) (h1 : ∀ u ∈ news, u.oneCell' = true)
    (h63 : n + m ≤ maxLen) (hbytes : (n + m) * i.bytes ≤ 140737488355328) (hbase : base ≤ w.heap.size)
    (h : ∀ v' w', w'.ownsRow base e 1 v' (n + m) (xs ++ news) → w.grownBy w' v.ownBlock → (∀ (b0 : Nat) (u : Value) (m' : Nat) (ys : List Value), w.ownsRow b0 e 1 u m' ys → (u.ownBlock = v.ownBlock → m' ≤ n) → w'.ownsRow b0 e 1 u m' ys) → (v'.ownBlock = v.ownBlock ∨ v'.ownBlock = some w.heap.size) → (v' = .slice none 0 0 ↔ v = .slice none 0 0 ∧ m = 0) →
      wpList P ops Q rest (a.put o.dst v') w') : wpList P ops Q (o :: rest) a w := by
  refine wpList_plain hgd fun K hK => ?_
  obtain ⟨v', w', hr, h2, h3, h4, h5, h6⟩ := run_append_keeps (P := P) w base t o.type e i z ht hi hz hsize hzs v n xs hown ad m c news hl hnews h1 h63 hbytes hbase
  unfold Oper.wp execOp
  simp only [ho, resolve, invoke, builtin, Sem.run_bind, Sem.run_pure, Result.andThen_ok, List.map_toArray, List.map_cons, List.map_nil, hs, hx, hr]
  exact hK _ _ (h v' w' h2 h3 h4 h5 h6)

/-! ### Texts -/

theorem info_str : (Try.prog.info? 3).map (fun i => (i.zero, i.size, i.bytes)) = some (some (.int .i64 0), 1, 8) := by kernel_rfl
theorem info_strs : (Try.prog.info? 63).map (fun i => (i.zero, i.size, i.bytes)) = some (some (.slice none 0 0), 1, 24) := by kernel_rfl

/-- Texts in a row of the call's own, from block B on. -/
def OwnI (w : World) (B : Nat) (v : Value) (l : List Int) : Prop := w.ownsRow B 3 1 v l.length (l.map (Value.int .i64))

theorem OwnI.shape {w : World} {B : Nat} {v : Value} {l : List Int} (h : OwnI w B v l) : ∃ a c, v = .slice a l.length c ∧ IsInts w a c l := by
  rcases h.2 with ⟨rfl, h0⟩ | ⟨g, cap, cur, rfl, hb, hg, hnc, hcm, hcs, htake⟩
  · have : l = [] := List.eq_nil_of_length_eq_zero h0
    subst this
    exact ⟨none, 0, rfl, by simp, by simp, .inl rfl⟩
  · exact ⟨_, cap, rfl, IsInts.own h (by omega)⟩
theorem OwnI.below {w w' : World} {B : Nat} {v : Value} {l : List Int} (h : OwnI w B v l) (hb : Below w.heap.size w w') : OwnI w' B v l := by
  refine ⟨h.1, ?_⟩
  rcases h.2 with h0 | ⟨g, cap, cur, hv, hB, hg, rest⟩
  · exact .inl h0
  · exact .inr ⟨g, cap, cur, hv, hB, (hb.block g (Array.getElem?_eq_some_iff.1 hg).1).trans hg, rest⟩
theorem OwnI.mono {w : World} {B B' : Nat} {v : Value} {l : List Int} (h : OwnI w B v l) (hB : B' ≤ B) : OwnI w B' v l := by
  refine ⟨h.1, ?_⟩
  rcases h.2 with h0 | ⟨g, cap, cur, hv, hb, rest⟩
  · exact .inl h0
  · exact .inr ⟨g, cap, cur, hv, Nat.le_trans hB hb, rest⟩
theorem OwnI.nil (w : World) (B : Nat) : OwnI w B (.slice none 0 0) [] := World.ownsRow_nil w B _ 1
theorem OwnI.lit (w : World) (B : Nat) (hB : B ≤ w.heap.size) : OwnI (w.alloc (.cells #[] 3)) B (.slice (some ⟨w.heap.size, 0, none⟩) 0 0) [] := World.ownsRow_made w #[] 0 hB (by unfold maxLen; omega) (by simp)
theorem IsInts.src {w : World} {a : Option Addr} {c : Nat} {l : List Int} (h : IsInts w a c l) : (a = none ∧ l.length = 0) ∨ ∃ p, a = some p ∧ ∀ j u, (l.map (Value.int .i64))[j]? = some u → w.cell? (p.add j) = some u := by
  obtain ⟨_, _, h3⟩ := h
  rcases h3 with rfl | ⟨b, o, rfl, _, hc⟩
  · cases a with
    | none => exact .inl ⟨rfl, rfl⟩
    | some p => exact .inr ⟨p, rfl, fun j u hj => by simp at hj⟩
  · refine .inr ⟨_, rfl, fun j u hj => ?_⟩
    rw [List.getElem?_map] at hj
    obtain ⟨x, hx, rfl⟩ := Option.map_eq_some_iff.1 hj
    have := hc j x hx
    cases j with
    | zero => simpa [Addr.add] using this
    | succ j => simpa [Addr.add] using this
theorem IsInts.ofNew (w : World) (x : Int) : IsInts (w.alloc (.cells #[.int .i64 x] 3)) (some ⟨w.heap.size, 0, none⟩) 1 [x] := by
  refine ⟨by simp, by simp [maxLen], .inr ⟨w.heap.size, 0, rfl, by simp, fun j y hj => ?_⟩⟩
  match j, hj with
  | 0, hj => simp at hj; subst hj; simp
  | (j + 1), hj => simp at hj
theorem OwnI.is {w : World} {B g m cap : Nat} {X : List Int} (h : OwnI w B (.slice (some ⟨g, 0, none⟩) m cap) X) : IsInts w (some ⟨g, 0, none⟩) cap X ∧ X.length = m := by
  obtain ⟨a, c, hv, his⟩ := h.shape
  simp only [Value.slice.injEq] at hv
  obtain ⟨rfl, rfl, rfl⟩ := hv
  exact ⟨his, rfl⟩
theorem OwnI.cell {w : World} {B g m cap : Nat} {X : List Int} (h : OwnI w B (.slice (some ⟨g, 0, none⟩) m cap) X) (j : Nat) (x : Int) (hx : X[j]? = some x) : w.cell? ⟨g, j, none⟩ = some (.int .i64 x) := by
  rcases h.is.1.2.2 with rfl | ⟨b, o, ha, hb, hc⟩
  · simp at hx
  · simp only [Option.some.injEq, Addr.mk.injEq] at ha
    obtain ⟨rfl, rfl, _⟩ := ha
    have := hc j x hx
    rwa [Nat.zero_add] at this
theorem OwnI.frozen {w : World} {B g m cap : Nat} {X : List Int} (h : OwnI w B (.slice (some ⟨g, 0, none⟩) m cap) X) (j : Nat) : w.frozen? ⟨g, j, none⟩ = false := by
  rcases h.2 with ⟨h', _⟩ | ⟨g', cap', cur, h', hb, hg, _⟩
  · simp at h'
  · simp only [Value.slice.injEq, Option.some.injEq, Addr.mk.injEq] at h'
    obtain ⟨⟨rfl, _⟩, _⟩ := h'
    simp [World.frozen?, hg]
theorem OwnI.set {w : World} {B g m cap : Nat} {X : List Int} (h : OwnI w B (.slice (some ⟨g, 0, none⟩) m cap) X) (j : Nat) (x : Int) :
    OwnI (w.setCell ⟨g, j, none⟩ (.int .i64 x)) B (.slice (some ⟨g, 0, none⟩) m cap) (X.set j x) ∧ w.grownBy (w.setCell ⟨g, j, none⟩ (.int .i64 x)) (some g) := by
  have hm := h.is.2
  unfold OwnI at h ⊢
  rw [hm] at h
  have := h.stored j (.int .i64 x)
  rw [List.length_set, hm, List.map_set]
  exact this
theorem OwnI.shapeSome {w : World} {B : Nat} {v : Value} {l : List Int} (h : OwnI w B v l) (hl : 0 < l.length) : ∃ g c, v = .slice (some ⟨g, 0, none⟩) l.length c := by
  rcases h.2 with ⟨_, h0⟩ | ⟨g, cap, cur, hv, _⟩
  · omega
  · exact ⟨g, cap, hv⟩

/-- 'append' of texts onto texts of the call's own. -/
theorem wpList_appendS {w : World} {ops : Array Oper} {rest : List Oper} {o : Oper} {a : Act} {Q : Exit → Act → World → Prop} (hgd : o.guard = none) (s x : Operand)
    (ho : o.op = .call { callee := .builtin .append, args := #[s, x], argTypes := #[63, 63] })
    (B : Nat) (v : Value) (l : List Int) (hs : a.eval s = v) (hown : OwnI w B v l) (ad : Option Addr) (c : Nat) (m : List Int) (hx : a.eval x = .slice ad m.length c) (hm : IsInts w ad c m)
    (hb : l.length + m.length ≤ 8796093022208) (hbase : B ≤ w.heap.size)
    (h : ∀ v' w', OwnI w' B v' (l ++ m) → w.grownBy w' v.ownBlock → (∀ (b0 : Nat) (u : Value) (ys : List Int), OwnI w b0 u ys → (u.ownBlock = v.ownBlock → ys.length ≤ l.length) → OwnI w' b0 u ys) → (v'.ownBlock = v.ownBlock ∨ v'.ownBlock = some w.heap.size) → (v' = .slice none 0 0 ↔ v = .slice none 0 0 ∧ m = []) →
      wpList Try.prog ops Q rest (a.put o.dst v') w') : wpList Try.prog ops Q (o :: rest) a w := by
  obtain ⟨i, hi, hz0, hz1, hz2⟩ := info_parts info_str
  refine wpList_append_keeps hgd s x 63 ho B 3 i (.int .i64 0) Try.underlying63 hi hz0 hz1 rfl v l.length (l.map (Value.int .i64)) hs hown ad m.length c (m.map (Value.int .i64)) hx (by simp) hm.src (by intro u hu; simp at hu; obtain ⟨y, _, rfl⟩ := hu; rfl) (by unfold maxLen; omega) (by rw [hz2]; omega) hbase ?_
  intro v' w' h1 h2 h3 h4 h5
  refine h v' w' ?_ h2 (fun b0 u ys hu hle => h3 b0 u ys.length _ hu hle) h4 (by rw [h5]; simp)
  unfold OwnI
  rw [List.length_append, List.map_append]
  exact h1
theorem grown_below {w w1 : World} {B g : Nat} (h : w.grownBy w1 (some g)) (hB : B ≤ g) (hBw : B ≤ w.heap.size) : Below B w w1 :=
  (Below.refl B w).grown h hBw (fun j hj => by cases hj; exact hB)
end Go.Proofs.Ytkjjinccnaphpaa

namespace Go.Proofs.Ytkjjinccnaphpaa
open Go.RowKit

/-- Whose block. -/
structure Tag where
  kind : Nat
  num : Nat
abbrev Tag.box : Tag := ⟨0, 0⟩
abbrev Tag.outs : Tag := ⟨1, 0⟩
abbrev Tag.wants : Tag := ⟨2, 0⟩
abbrev Tag.out (i : Nat) : Tag := ⟨3, i⟩
abbrev Tag.want (i : Nat) : Tag := ⟨4, i⟩
abbrev Tag.user (i : Nat) : Tag := ⟨5, i⟩

theorem Kept.ownI {P : Nat → Prop} {w w1 : World} {B : Nat} {v : Value} {l : List Int} (h : Kept P w w1) (ho : OwnI w B v l) (hP : ∀ g, v.ownBlock = some g → ¬ P g) : OwnI w1 B v l := Kept.own h ho hP

/-- A slice's block bears a tag. -/
def Tagged (lab : Nat → Tag) (v : Value) (t : Tag) : Prop := ∀ g, v.ownBlock = some g → lab g = t
/-- One entry. -/
structure Ent where
  out : Value
  want : Value
  bytes : List Int

/-- The desk's other cells: its two lists of heaps, and 'fresh'. -/
structure Fx where
  x0 : Value
  x1 : Value
  f : Value
/-- The struct and its two lists. -/
def HRows (w : World) (B : Nat) (lab : Nat → Tag) (Hb : Nat) (vo vw : Value) (fr : Fx) (os ws : List Value) : Prop :=
  w.heap[Hb]? = some (.cells #[fr.x0, fr.x1, vo, vw, fr.f] 35) ∧ lab Hb = .box ∧ B ≤ Hb ∧ (w.ownsRow B 63 1 vo os.length os ∧ Tagged lab vo .outs) ∧ (w.ownsRow B 63 1 vw ws.length ws ∧ Tagged lab vw .wants)
/-- One entry's bytes. -/
def EntAt (w : World) (B : Nat) (lab : Nat → Tag) (ok : Nat → Nat → Prop) (j : Nat) (e : Ent) : Prop :=
  (OwnI w B e.out e.bytes ∧ ∀ g, e.out.ownBlock = some g → ∃ q, lab g = .out q ∧ ok j q) ∧ (OwnI w B e.want e.bytes ∧ Tagged lab e.want (.want j))
def Ents (w : World) (B : Nat) (lab : Nat → Tag) (ok : Nat → Nat → Prop) (es : List Ent) : Prop := ∀ (j : Nat) e, es[j]? = some e → EntAt w B lab ok j e
def Held (w : World) (B : Nat) (lab : Nat → Tag) (Hb : Nat) (fr : Fx) (ok : Nat → Nat → Prop) (es : List Ent) : Prop :=
  ∃ vo vw, HRows w B lab Hb vo vw fr (es.map (·.out)) (es.map (·.want)) ∧ Ents w B lab ok es

theorem Tagged.congr {w : World} {B e : Nat} {lab lab' : Nat → Tag} {v : Value} {n : Nat} {xs : List Value} {t : Tag} (h : Tagged lab v t) (ho : w.ownsRow B e 1 v n xs) (hl : ∀ k, k < w.heap.size → lab' k = lab k) : Tagged lab' v t := fun g hg => (hl g (ho.lt g hg).2).trans (h g hg)
theorem HRows.lt {w : World} {B : Nat} {lab : Nat → Tag} {Hb : Nat} {vo vw : Value} {fr : Fx} {os ws : List Value} (h : HRows w B lab Hb vo vw fr os ws) : Hb < w.heap.size := (Array.getElem?_eq_some_iff.1 h.1).1
theorem HRows.relabel {w : World} {B : Nat} {lab lab' : Nat → Tag} {Hb : Nat} {vo vw : Value} {fr : Fx} {os ws : List Value} (h : HRows w B lab Hb vo vw fr os ws) (hl : ∀ k, k < w.heap.size → lab' k = lab k) : HRows w B lab' Hb vo vw fr os ws :=
  ⟨h.1, (hl Hb h.lt).trans h.2.1, h.2.2.1, ⟨h.2.2.2.1.1, h.2.2.2.1.2.congr h.2.2.2.1.1 hl⟩, ⟨h.2.2.2.2.1, h.2.2.2.2.2.congr h.2.2.2.2.1 hl⟩⟩
theorem EntAt.relabel {w : World} {B : Nat} {lab lab' : Nat → Tag} {ok : Nat → Nat → Prop} {j : Nat} {e : Ent} (h : EntAt w B lab ok j e) (hl : ∀ k, k < w.heap.size → lab' k = lab k) : EntAt w B lab' ok j e :=
  ⟨⟨h.1.1, fun g hg => by rw [hl g (h.1.1.lt g hg).2]; exact h.1.2 g hg⟩, ⟨h.2.1, h.2.2.congr h.2.1 hl⟩⟩
theorem Ents.relabel {w : World} {B : Nat} {lab lab' : Nat → Tag} {ok : Nat → Nat → Prop} {es : List Ent} (h : Ents w B lab ok es) (hl : ∀ k, k < w.heap.size → lab' k = lab k) : Ents w B lab' ok es := fun j e he => (h j e he).relabel hl
theorem Held.relabel {w : World} {B : Nat} {lab lab' : Nat → Tag} {Hb : Nat} {fr : Fx} {ok : Nat → Nat → Prop} {es : List Ent} (h : Held w B lab Hb fr ok es) (hl : ∀ k, k < w.heap.size → lab' k = lab k) : Held w B lab' Hb fr ok es := by
  obtain ⟨vo, vw, h1, h2⟩ := h
  exact ⟨vo, vw, h1.relabel hl, h2.relabel hl⟩

theorem HRows.kept {P : Nat → Prop} {w w' : World} {B : Nat} {lab : Nat → Tag} {Hb : Nat} {vo vw : Value} {fr : Fx} {os ws : List Value} (h : HRows w B lab Hb vo vw fr os ws) (hk : Kept P w w') (hP : ∀ k, lab k = .box ∨ lab k = .outs ∨ lab k = .wants → ¬ P k) : HRows w' B lab Hb vo vw fr os ws :=
  ⟨(hk.block Hb h.lt (hP _ (.inl h.2.1))).trans h.1, h.2.1, h.2.2.1, ⟨hk.own h.2.2.2.1.1 (fun g hg => hP _ (.inr (.inl (h.2.2.2.1.2 g hg)))), h.2.2.2.1.2⟩, ⟨hk.own h.2.2.2.2.1 (fun g hg => hP _ (.inr (.inr (h.2.2.2.2.2 g hg)))), h.2.2.2.2.2⟩⟩
theorem EntAt.kept {P : Nat → Prop} {w w' : World} {B : Nat} {lab : Nat → Tag} {ok : Nat → Nat → Prop} {j : Nat} {e : Ent} (h : EntAt w B lab ok j e) (hk : Kept P w w') (hP : ∀ k, (∃ q, lab k = .out q ∧ ok j q) ∨ lab k = .want j → ¬ P k) : EntAt w' B lab ok j e :=
  ⟨⟨hk.ownI h.1.1 (fun g hg => hP g (.inl (h.1.2 g hg))), h.1.2⟩, ⟨hk.ownI h.2.1 (fun g hg => hP g (.inr (h.2.2 g hg))), h.2.2⟩⟩
theorem Held.kept {P : Nat → Prop} {w w' : World} {B : Nat} {lab : Nat → Tag} {Hb : Nat} {fr : Fx} {ok : Nat → Nat → Prop} {es : List Ent} (h : Held w B lab Hb fr ok es) (hk : Kept P w w') (hP : ∀ k, (∀ i, lab k ≠ .user i) → ¬ P k) : Held w' B lab Hb fr ok es := by
  obtain ⟨vo, vw, h1, h2⟩ := h
  refine ⟨vo, vw, h1.kept hk (fun k hk => hP k (fun i e => ?_)), fun j e he => (h2 j e he).kept hk (fun k hk => hP k (fun i e => ?_))⟩
  · rw [e] at hk; simp at hk
  · rw [e] at hk; rcases hk with ⟨q, hk, _⟩ | hk <;> simp at hk
theorem Held.below {w w' : World} {B : Nat} {lab : Nat → Tag} {Hb : Nat} {fr : Fx} {ok : Nat → Nat → Prop} {es : List Ent} (h : Held w B lab Hb fr ok es) (hb : Below w.heap.size w w') : Held w' B lab Hb fr ok es := h.kept (Kept.ofBelow (P := fun _ => False) hb) (fun _ _ h => h)

/-- Blocks of the struct and its lists. -/
def Lists (lab : Nat → Tag) (k : Nat) : Prop := lab k = .box ∨ lab k = .outs ∨ lab k = .wants

/-- A new struct. -/
theorem Held.start (w : World) (B : Nat) (lab : Nat → Tag) (ok : Nat → Nat → Prop) (hB : B ≤ w.heap.size) (hl : lab w.heap.size = .box) : Held (w.alloc (.cells #[.slice none 0 0, .slice none 0 0, .slice none 0 0, .slice none 0 0, .int .i64 0] 35)) B lab w.heap.size ⟨.slice none 0 0, .slice none 0 0, .int .i64 0⟩ ok [] :=
  ⟨_, _, ⟨heap_alloc_last _ _, hl, hB, ⟨World.ownsRow_nil _ _ _ _, fun g hg => by simp [Value.ownBlock] at hg⟩, ⟨World.ownsRow_nil _ _ _ _, fun g hg => by simp [Value.ownBlock] at hg⟩⟩, fun j e he => by simp at he⟩

/-- 'h.out = append(h.out, v)': what the append's law gives, then the store. -/
theorem HRows.pushOut {w w1 : World} {B : Nat} {lab : Nat → Tag} {Hb : Nat} {vo vw v vo' : Value} {fr : Fx} {os ws : List Value} (h : HRows w B lab Hb vo vw fr os ws) (ho : w1.ownsRow B 63 1 vo' (os.length + 1) (os ++ [v])) (hg : w.grownBy w1 vo.ownBlock) (hv : vo'.ownBlock = vo.ownBlock ∨ vo'.ownBlock = some w.heap.size) :
    HRows (w1.setCell ⟨Hb, 2, none⟩ vo') B (fun k => if k = w.heap.size then .outs else lab k) Hb vo' vw fr (os ++ [v]) ws ∧ Kept (Lists lab) w (w1.setCell ⟨Hb, 2, none⟩ vo') := by
  have hlt := h.lt
  obtain ⟨h1, h2, h3, ⟨h4, h5⟩, ⟨h6, h7⟩⟩ := h
  have hH : w1.heap[Hb]? = some (.cells #[fr.x0, fr.x1, vo, vw, fr.f] 35) := (hg.block Hb hlt (fun e => by have := h5 Hb e.symm; rw [h2] at this; cases this)).trans h1
  have kset : Kept (fun k => k = Hb) w1 (w1.setCell ⟨Hb, 2, none⟩ vo') := Kept.setCell _ w1 Hb 2 vo' rfl
  have hlab : ∀ k, k < w.heap.size → (fun k => if k = w.heap.size then Tag.outs else lab k) k = lab k := fun k hk => by simp only []; rw [if_neg (by omega)]
  have tvo : Tagged (fun k => if k = w.heap.size then Tag.outs else lab k) vo' .outs := fun g hgv => by
    rcases hv with hv | hv
    · rw [hv] at hgv
      rw [hlab g (h4.lt g hgv).2]
      exact h5 g hgv
    · rw [hv] at hgv
      simp only [Option.some.injEq] at hgv
      simp [hgv]
  have hne : ∀ g, vo'.ownBlock = some g → g ≠ Hb := fun g hgv e => by
    subst e
    have := tvo g hgv
    rw [hlab g hlt, h2] at this
    cases this
  have kall : Kept (Lists lab) w (w1.setCell ⟨Hb, 2, none⟩ vo') := (Kept.ofGrown (P := Lists lab) hg (fun g e => .inr (.inl (h5 g e)))).trans (Kept.setCell _ w1 Hb 2 vo' (.inl h2))
  refine ⟨⟨?_, (hlab Hb hlt).trans h2, h3, ⟨?_, tvo⟩, ⟨?_, h7.congr h6 hlab⟩⟩, kall⟩
  · rw [setCell_eq_setRow w1 Hb 2 _ _ _ _ hH, setRow_heap w1 Hb _ _ _ _ hH]
    rfl
  · rw [List.length_append]
    exact kset.own ho (fun g hgv => hne g hgv)
  · have := (Kept.ofGrown (P := fun k => lab k = .outs) hg (fun g e => h5 g e)).own h6 (fun g e => by rw [h7 g e]; simp)
    exact kset.own this (fun g e hh => by have := h7 g e; rw [hh, h2] at this; cases this)
/-- 'h.want = append(h.want, v)'. -/
theorem HRows.pushWant {w w1 : World} {B : Nat} {lab : Nat → Tag} {Hb : Nat} {vo vw v vw' : Value} {fr : Fx} {os ws : List Value} (h : HRows w B lab Hb vo vw fr os ws) (ho : w1.ownsRow B 63 1 vw' (ws.length + 1) (ws ++ [v])) (hg : w.grownBy w1 vw.ownBlock) (hv : vw'.ownBlock = vw.ownBlock ∨ vw'.ownBlock = some w.heap.size) :
    HRows (w1.setCell ⟨Hb, 3, none⟩ vw') B (fun k => if k = w.heap.size then .wants else lab k) Hb vo vw' fr os (ws ++ [v]) ∧ Kept (Lists lab) w (w1.setCell ⟨Hb, 3, none⟩ vw') := by
  have hlt := h.lt
  obtain ⟨h1, h2, h3, ⟨h6, h7⟩, ⟨h4, h5⟩⟩ := h
  have hH : w1.heap[Hb]? = some (.cells #[fr.x0, fr.x1, vo, vw, fr.f] 35) := (hg.block Hb hlt (fun e => by have := h5 Hb e.symm; rw [h2] at this; cases this)).trans h1
  have kset : Kept (fun k => k = Hb) w1 (w1.setCell ⟨Hb, 3, none⟩ vw') := Kept.setCell _ w1 Hb 3 vw' rfl
  have hlab : ∀ k, k < w.heap.size → (fun k => if k = w.heap.size then Tag.wants else lab k) k = lab k := fun k hk => by simp only []; rw [if_neg (by omega)]
  have tvo : Tagged (fun k => if k = w.heap.size then Tag.wants else lab k) vw' .wants := fun g hgv => by
    rcases hv with hv | hv
    · rw [hv] at hgv
      rw [hlab g (h4.lt g hgv).2]
      exact h5 g hgv
    · rw [hv] at hgv
      simp only [Option.some.injEq] at hgv
      simp [hgv]
  have hne : ∀ g, vw'.ownBlock = some g → g ≠ Hb := fun g hgv e => by
    subst e
    have := tvo g hgv
    rw [hlab g hlt, h2] at this
    cases this
  have kall : Kept (Lists lab) w (w1.setCell ⟨Hb, 3, none⟩ vw') := (Kept.ofGrown (P := Lists lab) hg (fun g e => .inr (.inr (h5 g e)))).trans (Kept.setCell _ w1 Hb 3 vw' (.inl h2))
  refine ⟨⟨?_, (hlab Hb hlt).trans h2, h3, ⟨?_, h7.congr h6 hlab⟩, ⟨?_, tvo⟩⟩, kall⟩
  · rw [setCell_eq_setRow w1 Hb 3 _ _ _ _ hH, setRow_heap w1 Hb _ _ _ _ hH]
    rfl
  · have := (Kept.ofGrown (P := fun k => lab k = .wants) hg (fun g e => h5 g e)).own h6 (fun g e => by rw [h7 g e]; simp)
    exact kset.own this (fun g e hh => by have := h7 g e; rw [hh, h2] at this; cases this)
  · rw [List.length_append]
    exact kset.own ho (fun g hgv => hne g hgv)

theorem HRows.below {w w' : World} {B : Nat} {lab : Nat → Tag} {Hb : Nat} {vo vw : Value} {fr : Fx} {os ws : List Value} (h : HRows w B lab Hb vo vw fr os ws) (hb : Below w.heap.size w w') : HRows w' B lab Hb vo vw fr os ws := h.kept (Kept.ofBelow (P := fun _ => False) hb) (fun _ _ h => h)
theorem HRows.alloc {w : World} {B : Nat} {lab : Nat → Tag} {Hb : Nat} {vo vw : Value} {fr : Fx} {os ws : List Value} (h : HRows w B lab Hb vo vw fr os ws) (o : Obj) : HRows (w.alloc o) B lab Hb vo vw fr os ws := h.below ((Below.refl _ w).alloc (Nat.le_refl _) o)
theorem HRows.boxOut {w w2 : World} {B : Nat} {lab : Nat → Tag} {Hb : Nat} {vo vw : Value} {fr : Fx} {os ws : List Value} (h : HRows w B lab Hb vo vw fr os ws) (hg : w.grownBy w2 vo.ownBlock) : w2.heap[Hb]? = some (.cells #[fr.x0, fr.x1, vo, vw, fr.f] 35) :=
  (hg.block Hb h.lt (fun e => by have := h.2.2.2.1.2 Hb e.symm; rw [h.2.1] at this; cases this)).trans h.1
theorem HRows.boxWant {w w2 : World} {B : Nat} {lab : Nat → Tag} {Hb : Nat} {vo vw : Value} {fr : Fx} {os ws : List Value} (h : HRows w B lab Hb vo vw fr os ws) (hg : w.grownBy w2 vw.ownBlock) : w2.heap[Hb]? = some (.cells #[fr.x0, fr.x1, vo, vw, fr.f] 35) :=
  (hg.block Hb h.lt (fun e => by have := h.2.2.2.2.2 Hb e.symm; rw [h.2.1] at this; cases this)).trans h.1
theorem box_cell {w : World} {Hb : Nat} {vo vw : Value} {fr : Fx} (h : w.heap[Hb]? = some (.cells #[fr.x0, fr.x1, vo, vw, fr.f] 35)) : w.cell? ⟨Hb, 2, none⟩ = some vo ∧ w.cell? ⟨Hb, 3, none⟩ = some vw ∧ w.frozen? ⟨Hb, 2, none⟩ = false ∧ w.frozen? ⟨Hb, 3, none⟩ = false := by
  simp [World.cell?, World.frozen?, h]
theorem EntAt.below {w w' : World} {B : Nat} {lab : Nat → Tag} {ok : Nat → Nat → Prop} {j : Nat} {e : Ent} (h : EntAt w B lab ok j e) (hb : Below w.heap.size w w') : EntAt w' B lab ok j e := h.kept (Kept.ofBelow (P := fun _ => False) hb) (fun _ _ h => h)
theorem EntAt.push {w w' : World} {B : Nat} {lab : Nat → Tag} {ok : Nat → Nat → Prop} {j : Nat} {e : Ent} (h : EntAt w B lab ok j e) (hk : Kept (Lists lab) w w') (t : Tag) (ht : t = .outs ∨ t = .wants) : EntAt w' B (fun k => if k = w.heap.size then t else lab k) ok j e := by
  refine (h.relabel (lab' := fun k => if k = w.heap.size then t else lab k) (fun k hk => if_neg (by omega))).kept hk (fun k hl hL => ?_)
  by_cases hkw : k = w.heap.size
  · simp only [hkw, if_true] at hl
    rcases ht with rfl | rfl <;> simp at hl
  · simp only [hkw, if_false] at hl
    rcases hL with h | h | h <;> rw [h] at hl <;> simp at hl
theorem HRows.cell0 {w : World} {B : Nat} {lab : Nat → Tag} {Hb : Nat} {vo vw : Value} {fr : Fx} {os ws : List Value} (h : HRows w B lab Hb vo vw fr os ws) : w.cell? ⟨Hb, 2, none⟩ = some vo := by simp [World.cell?, h.1]
theorem HRows.cell1 {w : World} {B : Nat} {lab : Nat → Tag} {Hb : Nat} {vo vw : Value} {fr : Fx} {os ws : List Value} (h : HRows w B lab Hb vo vw fr os ws) : w.cell? ⟨Hb, 3, none⟩ = some vw := by simp [World.cell?, h.1]
theorem HRows.frozen {w : World} {B : Nat} {lab : Nat → Tag} {Hb : Nat} {vo vw : Value} {fr : Fx} {os ws : List Value} (h : HRows w B lab Hb vo vw fr os ws) (i : Nat) : w.frozen? ⟨Hb, i, none⟩ = false := by simp [World.frozen?, h.1]
end Go.Proofs.Ytkjjinccnaphpaa

namespace Go.Proofs.Ytkjjinccnaphpaa
open Go.RowKit

/-- Blocks that are not the caller's own. -/
def NotUser (lab : Nat → Tag) (k : Nat) : Prop := ∀ i, lab k ≠ .user i
/-- Whose blocks the entries' lists lie in: ahead of 'first' in old ones, behind it each in its own. -/
def okA (first j q : Nat) : Prop := (j < first ∧ q < first) ∨ q = j
/-- .. while they grow: the new ones, behind n, in the old one's or their own. -/
def okB (first n j q : Nat) : Prop := (j < first ∧ q < first) ∨ q = j ∨ (n ≤ j ∧ first ≤ q ∧ q < n ∧ j = n + (q - first))

theorem set_same {α : Type} (l : List α) (i : Nat) (x : α) (h : l[i]? = some x) : l.set i x = l := by
  apply List.ext_getElem?
  intro j
  rw [List.getElem?_set]
  by_cases hij : i = j
  · subst hij
    have := (List.getElem?_eq_some_iff.1 h).1
    simp [this]
    exact (List.getElem?_eq_some_iff.1 h).2.symm
  · simp [hij]

/-- One text of an entry marked, in both of its lists. -/
theorem Held.mark {w : World} {B : Nat} {lab : Nat → Tag} {Hb : Nat} {fr : Fx} {first : Nat} {es : List Ent} (h : Held w B lab Hb fr (okA first) es) (i k : Nat) (hi : first ≤ i) (e : Ent) (he : es[i]? = some e) (x : Int) (go co gw cw : Nat)
    (ho : e.out = .slice (some ⟨go, 0, none⟩) e.bytes.length co) (hw : e.want = .slice (some ⟨gw, 0, none⟩) e.bytes.length cw) :
    (Kept (NotUser lab) w (w.setCell ⟨go, k, none⟩ (.int .i64 x)) ∧ lab go = .out i ∧ lab gw = .want i) ∧
    Held ((w.setCell ⟨go, k, none⟩ (.int .i64 x)).setCell ⟨gw, k, none⟩ (.int .i64 x)) B lab Hb fr (okA first) (es.set i ⟨e.out, e.want, e.bytes.set k x⟩) ∧
      Kept (NotUser lab) w ((w.setCell ⟨go, k, none⟩ (.int .i64 x)).setCell ⟨gw, k, none⟩ (.int .i64 x)) := by
  obtain ⟨vo, vw, hr, hes⟩ := h
  obtain ⟨⟨o1, l1⟩, o2, l2⟩ := hes i e he
  have lo : lab go = .out i := by
    obtain ⟨q, hq, hok⟩ := l1 go (by rw [ho]; rfl)
    rcases hok with ⟨h, _⟩ | h
    · omega
    · rw [hq, h]
  have lw : lab gw = .want i := l2 gw (by rw [hw]; rfl)
  have kk1 : Kept (fun j => j = go) w (w.setCell ⟨go, k, none⟩ (.int .i64 x)) := Kept.setCell _ _ _ _ _ rfl
  have kk2 : Kept (fun j => j = gw) (w.setCell ⟨go, k, none⟩ (.int .i64 x)) ((w.setCell ⟨go, k, none⟩ (.int .i64 x)).setCell ⟨gw, k, none⟩ (.int .i64 x)) := Kept.setCell _ _ _ _ _ rfl
  have hne : go ≠ gw := fun h => by rw [h, lw] at lo; simp at lo
  rw [ho] at o1
  rw [hw] at o2
  have s1 := (o1.set k x).1
  have s2 := kk1.ownI o2 (fun g hg e => by simp [Value.ownBlock] at hg; omega)
  have t1 := kk2.ownI s1 (fun g hg e => by simp [Value.ownBlock] at hg; omega)
  have t2 := (s2.set k x).1
  have hmo : (es.set i ⟨e.out, e.want, e.bytes.set k x⟩).map (·.out) = es.map (·.out) := by
    rw [List.map_set, set_same _ _ _ (by simp [he])]
  have hmw : (es.set i ⟨e.out, e.want, e.bytes.set k x⟩).map (·.want) = es.map (·.want) := by
    rw [List.map_set, set_same _ _ _ (by simp [he])]
  refine ⟨⟨kk1.mono (fun q _ e => by intro u; rw [e, lo]; simp), lo, lw⟩, ⟨vo, vw, ?_, ?_⟩, ?_⟩
  · rw [hmo, hmw]
    exact (hr.kept kk1 (fun j hj e => by rw [e, lo] at hj; simp at hj)).kept kk2 (fun j hj e => by rw [e, lw] at hj; simp at hj)
  · intro j f hf
    by_cases hji : j = i
    · subst hji
      rw [List.getElem?_set_self (List.getElem?_eq_some_iff.1 he).1] at hf
      simp only [Option.some.injEq] at hf
      subst hf
      refine ⟨⟨?_, l1⟩, ?_, l2⟩
      · simp only []
        rw [ho]
        exact t1
      · simp only []
        rw [hw]
        exact t2
    · rw [List.getElem?_set_ne (fun h => hji h.symm)] at hf
      have := hes j f hf
      refine (this.kept kk1 (fun q hq e => ?_)).kept kk2 (fun q hq e => ?_)
      · rw [e, lo] at hq
        rcases hq with ⟨q', hq', hok⟩ | hq
        · simp at hq'
          rcases hok with h | h <;> omega
        · simp at hq
      · rw [e, lw] at hq
        rcases hq with ⟨q', hq', hok⟩ | hq
        · simp at hq'
        · simp at hq
          omega
  · exact (kk1.mono (fun q _ e => by intro u; rw [e, lo]; simp)).trans (kk2.mono (fun q _ e => by intro u; rw [e, lw]; simp))

theorem Held.toB {w : World} {B : Nat} {lab : Nat → Tag} {Hb : Nat} {fr : Fx} {first n : Nat} {es : List Ent} (h : Held w B lab Hb fr (okA first) es) : Held w B lab Hb fr (okB first n) es := by
  obtain ⟨vo, vw, hr, hes⟩ := h
  refine ⟨vo, vw, hr, fun j e he => ?_⟩
  obtain ⟨⟨o1, l1⟩, o2⟩ := hes j e he
  refine ⟨⟨o1, fun g hg => ?_⟩, o2⟩
  obtain ⟨q, hq, hok⟩ := l1 g hg
  exact ⟨q, hq, by rcases hok with h | h; exact .inl h; exact .inr (.inl h)⟩
theorem Held.toA {w : World} {B : Nat} {lab : Nat → Tag} {Hb : Nat} {fr : Fx} {first n : Nat} {es : List Ent} (h : Held w B lab Hb fr (okB first n) es) (hf : first ≤ n) (hl : n ≤ es.length) : Held w B lab Hb fr (okA es.length) es := by
  obtain ⟨vo, vw, hr, hes⟩ := h
  refine ⟨vo, vw, hr, fun j e he => ?_⟩
  have hj := (List.getElem?_eq_some_iff.1 he).1
  obtain ⟨⟨o1, l1⟩, o2⟩ := hes j e he
  refine ⟨⟨o1, fun g hg => ?_⟩, o2⟩
  obtain ⟨q, hq, hok⟩ := l1 g hg
  refine ⟨q, hq, ?_⟩
  unfold okB at hok
  unfold okA
  omega

/-- A list that has begun to grow: where its texts lie. -/
def LTag (lab : Nat → Tag) (i n : Nat) (v : Value) : Prop := ∀ g, v.ownBlock = some g → lab g = .out i ∨ lab g = .out n

theorem nil_of_none {w : World} {B : Nat} {v : Value} {l : List Int} (h : OwnI w B v l) (hn : v.ownBlock = none) : l = [] := by
  rcases h.2 with ⟨rfl, h0⟩ | ⟨g, cap, cur, rfl, _⟩
  · exact List.eq_nil_of_length_eq_zero h0
  · simp [Value.ownBlock] at hn

/-- A list grows that began as the list of an entry: what is kept reads as it did. -/
theorem Held.growOut {w w' : World} {B : Nat} {lab : Nat → Tag} {Hb : Nat} {fr : Fx} {first n t : Nat} {es : List Ent} (h : Held w B lab Hb fr (okB first n) es) (hle : es.length = n + t) (hin : first + t < n) (e : Ent) (he : es[first + t]? = some e) (v : Value) (l : List Int) (hv : LTag lab (first + t) (n + t) v) (hel : e.bytes.length ≤ l.length)
    (hg : w.grownBy w' v.ownBlock) (hk : ∀ (b0 : Nat) (u : Value) (ys : List Int), OwnI w b0 u ys → (u.ownBlock = v.ownBlock → ys.length ≤ l.length) → OwnI w' b0 u ys) : Held w' B lab Hb fr (okB first n) es := by
  obtain ⟨vo, vw, hr, hes⟩ := h
  have kg : Kept (fun q => some q = v.ownBlock) w w' := Kept.ofGrown hg (fun g hg => hg.symm)
  refine ⟨vo, vw, hr.kept kg (fun q hq e => ?_), fun j f hf => ?_⟩
  · rcases hv q e.symm with h | h <;> rw [h] at hq <;> simp at hq
  · have hjl := (List.getElem?_eq_some_iff.1 hf).1
    obtain ⟨⟨o1, l1⟩, o2, l2⟩ := hes j f hf
    refine ⟨⟨hk B f.out f.bytes o1 (fun hb => ?_), l1⟩, kg.ownI o2 (fun g hg hx => ?_), l2⟩
    · cases hfo : f.out.ownBlock with
      | none => rw [nil_of_none o1 hfo]; simp
      | some g =>
        have hj : j = first + t := by
          obtain ⟨q, hq, hok⟩ := l1 g hfo
          unfold okB at hok
          rcases hv g (by rw [← hb]; exact hfo) with h2 | h2 <;> rw [hq] at h2 <;> simp at h2 <;> omega
        subst hj
        rw [he] at hf
        simp only [Option.some.injEq] at hf
        rw [← hf]
        exact hel
    · have h1 := l2 g hg
      rcases hv g hx.symm with h2 | h2 <;> rw [h1] at h2 <;> simp at h2
/-- .. and the copy beside it. -/
theorem Held.growWant {w w' : World} {B : Nat} {lab : Nat → Tag} {Hb : Nat} {fr : Fx} {ok : Nat → Nat → Prop} {es : List Ent} (h : Held w B lab Hb fr ok es) (v : Value) (hv : Tagged lab v (.want es.length)) (hg : w.grownBy w' v.ownBlock) : Held w' B lab Hb fr ok es := by
  obtain ⟨vo, vw, hr, hes⟩ := h
  have kg : Kept (fun q => some q = v.ownBlock) w w' := Kept.ofGrown hg (fun g hg => hg.symm)
  refine ⟨vo, vw, hr.kept kg (fun q hq e => ?_), fun j f hf => (hes j f hf).kept kg (fun q hq e => ?_)⟩
  · rw [hv q e.symm] at hq; simp at hq
  · have hjl := (List.getElem?_eq_some_iff.1 hf).1
    rw [hv q e.symm] at hq
    rcases hq with ⟨q', hq, _⟩ | hq <;> simp at hq
    omega

/-- The lists that are kept, one that began as the list of entry i, and its copy; t of them have grown. -/
def Grows (w : World) (B : Nat) (lab : Nat → Tag) (Hb : Nat) (fr : Fx) (first n t : Nat) (es : List Ent) (v u : Value) (l m : List Int) : Prop :=
  Held w B lab Hb fr (okB first n) es ∧ (OwnI w B v l ∧ LTag lab (first + t) (n + t) v) ∧ (OwnI w B u m ∧ Tagged lab u (.want (n + t))) ∧ es.length = n + t ∧ first + t < n ∧ ∃ e, es[first + t]? = some e ∧ e.bytes.length ≤ l.length

theorem Grows.below {w w' : World} {B : Nat} {lab : Nat → Tag} {Hb : Nat} {fr : Fx} {first n t : Nat} {es : List Ent} {v u : Value} {l m : List Int} (h : Grows w B lab Hb fr first n t es v u l m) (hb : Below w.heap.size w w') : Grows w' B lab Hb fr first n t es v u l m :=
  ⟨h.1.below hb, ⟨h.2.1.1.below hb, h.2.1.2⟩, ⟨h.2.2.1.1.below hb, h.2.2.1.2⟩, h.2.2.2⟩

/-- The list grows. -/
theorem Grows.out {w w' : World} {B : Nat} {lab : Nat → Tag} {Hb : Nat} {fr : Fx} {first n t : Nat} {es : List Ent} {v u v' : Value} {l m x : List Int} (h : Grows w B lab Hb fr first n t es v u l m) (ho : OwnI w' B v' (l ++ x)) (hg : w.grownBy w' v.ownBlock)
    (hk : ∀ (b0 : Nat) (u : Value) (ys : List Int), OwnI w b0 u ys → (u.ownBlock = v.ownBlock → ys.length ≤ l.length) → OwnI w' b0 u ys) (hv : v'.ownBlock = v.ownBlock ∨ v'.ownBlock = some w.heap.size) :
    Grows w' B (fun k => if k = w.heap.size then .out (n + t) else lab k) Hb fr first n t es v' u (l ++ x) m ∧ Kept (NotUser lab) w w' := by
  obtain ⟨hh, ⟨ov, tv⟩, ⟨ou, tu⟩, hle, hin, e, he, hel⟩ := h
  have hlab : ∀ k, k < w.heap.size → (fun k => if k = w.heap.size then Tag.out (n + t) else lab k) k = lab k := fun k hk => if_neg (by omega)
  have tv1 : LTag (fun k => if k = w.heap.size then Tag.out (n + t) else lab k) (first + t) (n + t) v := fun g hgv => by rw [hlab g (ov.lt g hgv).2]; exact tv g hgv
  have tu1 := tu.congr ou hlab
  have kg : Kept (fun q => some q = v.ownBlock) w w' := Kept.ofGrown hg (fun g hg => hg.symm)
  have hheld := (hh.relabel hlab).growOut hle hin e he v l tv1 hel hg hk
  refine ⟨⟨hheld, ⟨ho, fun g hgv => ?_⟩, ⟨kg.ownI ou (fun g hgu hx => ?_), tu1⟩, hle, hin, e, he, by simp; omega⟩, kg.mono (fun q _ hq => ?_)⟩
  · rcases hv with hv | hv
    · exact tv1 g (hv.symm.trans hgv)
    · rw [hv] at hgv
      simp only [Option.some.injEq] at hgv
      right
      exact if_pos hgv.symm
  · have h1 := tu g hgu
    rcases tv g hx.symm with h2 | h2 <;> rw [h1] at h2 <;> simp at h2
  · intro a
    rcases tv q hq.symm with h2 | h2 <;> rw [h2] <;> simp
/-- Its copy grows. -/
theorem Grows.want {w w' : World} {B : Nat} {lab : Nat → Tag} {Hb : Nat} {fr : Fx} {first n t : Nat} {es : List Ent} {v u u' : Value} {l m x : List Int} (h : Grows w B lab Hb fr first n t es v u l m) (ho : OwnI w' B u' (m ++ x)) (hg : w.grownBy w' u.ownBlock) (hv : u'.ownBlock = u.ownBlock ∨ u'.ownBlock = some w.heap.size) :
    Grows w' B (fun k => if k = w.heap.size then .want (n + t) else lab k) Hb fr first n t es v u' l (m ++ x) ∧ Kept (NotUser lab) w w' := by
  obtain ⟨hh, ⟨ov, tv⟩, ⟨ou, tu⟩, hle, hin, e, he, hel⟩ := h
  have hlab : ∀ k, k < w.heap.size → (fun k => if k = w.heap.size then Tag.want (n + t) else lab k) k = lab k := fun k hk => if_neg (by omega)
  have tv1 : LTag (fun k => if k = w.heap.size then Tag.want (n + t) else lab k) (first + t) (n + t) v := fun g hgv => by rw [hlab g (ov.lt g hgv).2]; exact tv g hgv
  have tu1 := tu.congr ou hlab
  have kg : Kept (fun q => some q = u.ownBlock) w w' := Kept.ofGrown hg (fun g hg => hg.symm)
  have hheld := (hh.relabel hlab).growWant u (by rw [hle]; exact tu1) hg
  refine ⟨⟨hheld, ⟨kg.ownI ov (fun g hgv hx => ?_), tv1⟩, ⟨ho, fun g hgv => ?_⟩, hle, hin, e, he, hel⟩, kg.mono (fun q _ hq => ?_)⟩
  · have h1 := tu g hx.symm
    rcases tv g hgv with h2 | h2 <;> rw [h1] at h2 <;> simp at h2
  · rcases hv with hv | hv
    · exact tu1 g (hv.symm.trans hgv)
    · rw [hv] at hgv
      simp only [Option.some.injEq] at hgv
      exact if_pos hgv.symm
  · intro a
    rw [tu q hq.symm]
    simp

/-- A copy is made, and the growing begins. -/
theorem Grows.start {w w1 : World} {B : Nat} {lab : Nat → Tag} {Hb : Nat} {fr : Fx} {first n t : Nat} {es : List Ent} {u : Value} (h : Held w B lab Hb fr (okB first n) es) (hle : es.length = n + t) (hin : first + t < n) (e : Ent) (he : es[first + t]? = some e) (hb : Below w.heap.size w w1) (ou : OwnI w1 w.heap.size u e.bytes) (hB : B ≤ w.heap.size) :
    Grows w1 B (fun k => if k < w.heap.size then lab k else .want (n + t)) Hb fr first n t es e.out u e.bytes e.bytes := by
  have hlab : ∀ k, k < w.heap.size → (fun k => if k < w.heap.size then lab k else Tag.want (n + t)) k = lab k := fun k hk => if_pos hk
  have h1 := (h.relabel hlab).below hb
  obtain ⟨vo, vw, hr, hes⟩ := h
  obtain ⟨⟨o1, l1⟩, o2⟩ := hes (first + t) e he
  refine ⟨h1, ⟨o1.below hb, fun g hg => ?_⟩, ⟨ou.mono hB, fun g hg => ?_⟩, hle, hin, e, he, Nat.le_refl _⟩
  · left
    rw [hlab g (o1.lt g hg).2]
    obtain ⟨q, hq, hok⟩ := l1 g hg
    unfold okB at hok
    rw [hq]
    congr 1
    omega
  · have := (ou.lt g hg).1
    exact if_neg (by omega)

/-- Both are put into the lists. -/
theorem Grows.entry {w : World} {B : Nat} {lab : Nat → Tag} {Hb : Nat} {fr : Fx} {first n t : Nat} {es : List Ent} {v u : Value} {l : List Int} (h : Grows w B lab Hb fr first n t es v u l l) : EntAt w B lab (okB first n) es.length ⟨v, u, l⟩ := by
  obtain ⟨_, ⟨ov, tv⟩, ⟨ou, tu⟩, hle, hin, _⟩ := h
  rw [hle]
  refine ⟨⟨ov, fun g hg => ?_⟩, ⟨ou, tu⟩⟩
  rcases tv g hg with h | h
  · exact ⟨_, h, .inr (.inr (by omega))⟩
  · exact ⟨_, h, .inr (.inl rfl)⟩
/-- One entry more: what both appends and both stores make. -/
theorem Held.pushed {w w2 w4 : World} {B : Nat} {lab : Nat → Tag} {Hb : Nat} {ok : Nat → Nat → Prop} {es : List Ent} {vo vw vo' vw' : Value} {fr : Fx} {e : Ent} (hr : HRows w B lab Hb vo vw fr (es.map (·.out)) (es.map (·.want))) (hes : Ents w B lab ok es) (hnew : EntAt w B lab ok es.length e) (o1 o2 : Obj)
    (ho1 : w2.ownsRow B 63 1 vo' ((es.map (·.out)).length + 1) (es.map (·.out) ++ [e.out])) (hg1 : (w.alloc o1).grownBy w2 vo.ownBlock) (hv1 : vo'.ownBlock = vo.ownBlock ∨ vo'.ownBlock = some (w.alloc o1).heap.size)
    (ho2 : w4.ownsRow B 63 1 vw' ((es.map (·.want)).length + 1) (es.map (·.want) ++ [e.want])) (hg2 : ((w2.setCell ⟨Hb, 2, none⟩ vo').alloc o2).grownBy w4 vw.ownBlock) (hv2 : vw'.ownBlock = vw.ownBlock ∨ vw'.ownBlock = some ((w2.setCell ⟨Hb, 2, none⟩ vo').alloc o2).heap.size) :
    ∃ lab', Held (w4.setCell ⟨Hb, 3, none⟩ vw') B lab' Hb fr ok (es ++ [e]) ∧ (∀ k, k < w.heap.size → lab' k = lab k) ∧ Kept (Lists lab) w (w4.setCell ⟨Hb, 3, none⟩ vw') := by
  have hal1 : Below w.heap.size w (w.alloc o1) := (Below.refl _ w).alloc (Nat.le_refl _) _
  obtain ⟨hr3, k3⟩ := (hr.alloc o1).pushOut ho1 hg1 hv1
  obtain ⟨hr5, k5⟩ := (hr3.alloc o2).pushWant ho2 hg2 hv2
  have hz2 := hg1.size
  have chain : ∀ j f, EntAt w B lab ok j f → EntAt (w4.setCell ⟨Hb, 3, none⟩ vw') B _ ok j f := fun j f h => (((h.below hal1).push k3 .outs (.inl rfl)).below ((Below.refl _ _).alloc (Nat.le_refl _) o2)).push k5 .wants (.inr rfl)
  refine ⟨_, ⟨_, _, by rw [List.map_append, List.map_append]; exact hr5, ?_⟩, ?_, ?_⟩
  · intro j f hj
    refine chain j f ?_
    by_cases hjl : j < es.length
    · rw [List.getElem?_append_left hjl] at hj
      exact hes j f hj
    · rw [List.getElem?_append_right (by omega)] at hj
      have hj0 : j - es.length = 0 := by have := (List.getElem?_eq_some_iff.1 hj).1; simp at this; omega
      obtain rfl : j = es.length := by omega
      rw [hj0] at hj
      simp only [List.getElem?_cons_zero, Option.some.injEq] at hj
      subst hj
      exact hnew
  · intro k hk
    simp at hz2 ⊢
    rw [if_neg (by omega), if_neg (by omega)]
  · refine (((Kept.ofBelow hal1 : Kept (Lists lab) w _).step k3 ?_).trans (Kept.ofBelow ((Below.refl _ _).alloc (Nat.le_refl _) o2))).step k5 ?_
    · intro k hk h
      exact h
    · intro k hk h
      unfold Lists at h ⊢
      simp only [World.size_alloc] at h
      rw [if_neg (by omega)] at h
      exact h

/-- Another cell of the desk is turned. -/
theorem Held.setX {w : World} {B : Nat} {lab : Nat → Tag} {Hb : Nat} {fr fr' : Fx} {ok : Nat → Nat → Prop} {es : List Ent} (h : Held w B lab Hb fr ok es) (i : Nat) (v : Value) (hfr : ∀ vo vw, (#[fr.x0, fr.x1, vo, vw, fr.f] : Array Value).setIfInBounds i v = #[fr'.x0, fr'.x1, vo, vw, fr'.f]) : Held (w.setCell ⟨Hb, i, none⟩ v) B lab Hb fr' ok es ∧ Kept (fun k => k = Hb) w (w.setCell ⟨Hb, i, none⟩ v) := by
  obtain ⟨vo, vw, hr, hes⟩ := h
  have ks : Kept (fun k => k = Hb) w (w.setCell ⟨Hb, i, none⟩ v) := Kept.setCell _ _ _ _ _ rfl
  have hb := hr.2.1
  refine ⟨⟨vo, vw, ⟨?_, hr.2.1, hr.2.2.1, ⟨ks.own hr.2.2.2.1.1 (fun g hg e => ?_), hr.2.2.2.1.2⟩, ⟨ks.own hr.2.2.2.2.1 (fun g hg e => ?_), hr.2.2.2.2.2⟩⟩, fun j e he => (hes j e he).kept ks (fun k hk e => ?_)⟩, ks⟩
  · rw [setCell_eq_setRow w Hb i _ _ _ _ hr.1, setRow_heap w Hb _ _ _ _ hr.1, hfr]
  · have := hr.2.2.2.1.2 g hg
    rw [e, hb] at this
    simp at this
  · have := hr.2.2.2.2.2 g hg
    rw [e, hb] at this
    simp at this
  · rw [e, hb] at hk
    rcases hk with ⟨q, hk, _⟩ | hk <;> simp at hk
/-- 'h.fresh = ..'. -/
theorem Held.fresh {w : World} {B : Nat} {lab : Nat → Tag} {Hb : Nat} {fr : Fx} {ok : Nat → Nat → Prop} {es : List Ent} (h : Held w B lab Hb fr ok es) (v : Value) : Held (w.setCell ⟨Hb, 4, none⟩ v) B lab Hb ⟨fr.x0, fr.x1, v⟩ ok es ∧ Kept (Lists lab) w (w.setCell ⟨Hb, 4, none⟩ v) := by
  have hb : lab Hb = .box := by obtain ⟨_, _, hr, _⟩ := h; exact hr.2.1
  have := h.setX (fr' := ⟨fr.x0, fr.x1, v⟩) 4 v (fun _ _ => rfl)
  exact ⟨this.1, this.2.mono (fun k _ e => .inl (by rw [e]; exact hb))⟩
end Go.Proofs.Ytkjjinccnaphpaa
