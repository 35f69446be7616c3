/-
  Mem, Append, Kit.
-/
import Derived.Test.YtomgnailgddchaaDoorProg
import Derived.WalkKit
import Derived.WalkSpells
import Derived.WalkLawsBesides
import Derived.WalkSmall
import Derived.Laws.CopyOwn
import Derived.Lib.OthersKept
import Derived.Deep.AppendSrc
import Derived.OwnWalk
import Derived.StillTailTactics
import Derived.BigRegion
import Derived.BigQuiet
import Derived.Deep.LoopGhost
import Derived.Maps.OwnSet
import Derived.Maps.AppendAt
import Derived.Shelf.Abstract
namespace Go.Proofs.YtomgnailgddchaaDoor
open Go.RowKit

/-- The slice at 'a', of capacity c, has the bytes l. -/
def IsBytes (w : World) (a : Option Addr) (c : Nat) (l : List UInt8) : Prop :=
  l.length ≤ c ∧ c ≤ maxLen ∧ (l = [] ∨ ∃ b o, a = some ⟨b, o, none⟩ ∧ b < w.heap.size ∧ ∀ (j : Nat) x, l[j]? = some x → w.cell? ⟨b, o + j, none⟩ = some (.int .u8 (x.toNat : Int)))

theorem IsBytes.below {w w' : World} {a : Option Addr} {c : Nat} {l : List UInt8} (h : IsBytes w a c l) (hb : Below w.heap.size w w') : IsBytes w' a c l := by
  obtain ⟨h1, h2, h3⟩ := h
  refine ⟨h1, h2, ?_⟩
  rcases h3 with h | ⟨b, o, ha, hbk, hc⟩
  · exact .inl h
  · exact .inr ⟨b, o, ha, Nat.lt_of_lt_of_le hbk hb.size, fun j x hj => (hb.cell (p := ⟨b, o + j, none⟩) hbk).trans (hc j x hj)⟩

/-- The cells of bytes. -/
def u8s (l : List UInt8) : List Value := l.map fun b => Value.int .u8 (b.toNat : Int)
theorem u8s_length (l : List UInt8) : (u8s l).length = l.length := by simp [u8s]
theorem u8s_get (l : List UInt8) (j : Nat) : (u8s l)[j]? = l[j]?.map fun b => Value.int .u8 (b.toNat : Int) := by simp [u8s]
theorem u8s_one (l : List UInt8) : ∀ v ∈ u8s l, v.oneCell' = true := by
  intro v hv; simp [u8s] at hv; obtain ⟨x, _, rfl⟩ := hv; rfl
theorem u8s_splice (l m : List UInt8) (o : Nat) : splice (u8s l) o (u8s m) = u8s (splice l o m) := by simp [splice, u8s, List.map_append]

/-- A block has just the bytes bs, and may be written. -/
def ByteRow (w : World) (t : TypeId) (g : Nat) (bs : List UInt8) : Prop := w.heap[g]? = some (.cells (u8s bs).toArray t (0, 0))

theorem ByteRow.lt {w : World} {t : TypeId} {g : Nat} {bs : List UInt8} (h : ByteRow w t g bs) : g < w.heap.size := by
  have h : w.heap[g]? = _ := h
  exact (Array.getElem?_eq_some_iff.1 h).1
theorem ByteRow.cell {w : World} {t : TypeId} {g : Nat} {bs : List UInt8} (h : ByteRow w t g bs) (j : Nat) (x : UInt8) (hx : bs[j]? = some x) : w.cell? ⟨g, j, none⟩ = some (.int .u8 (x.toNat : Int)) := by
  have h : w.heap[g]? = _ := h
  simp [World.cell?, h, u8s_get, hx]
theorem ByteRow.frozen {w : World} {t : TypeId} {g : Nat} {bs : List UInt8} (h : ByteRow w t g bs) (j : Nat) : w.frozen? ⟨g, j, none⟩ = false := by
  have h : w.heap[g]? = _ := h
  simp [World.frozen?, h]
theorem ByteRow.below {w w' : World} {t : TypeId} {B g : Nat} {bs : List UInt8} (h : ByteRow w t g bs) (hb : Below B w w') (hg : g < B) : ByteRow w' t g bs := by
  have h : w.heap[g]? = _ := h
  exact (hb.block g hg).trans h
theorem ByteRow.drew {w : World} {t : TypeId} {g : Nat} {bs : List UInt8} (h : ByteRow w t g bs) : ByteRow w.drew t g bs := h
theorem IsBytes.drew {w : World} {a : Option Addr} {c : Nat} {l : List UInt8} (h : IsBytes w a c l) : IsBytes w.drew a c l := h.below (Below.refl _ w).drew
theorem ByteRow.grown {w w' : World} {t : TypeId} {g k : Nat} {bs : List UInt8} (h : ByteRow w t g bs) (hb : w.grownBy w' (some k)) (hg : g ≠ k) : ByteRow w' t g bs := by
  have hlt := h.lt
  have h : w.heap[g]? = _ := h
  exact (hb.block g hlt (fun e => hg (Option.some.inj e))).trans h
theorem ByteRow.is {w : World} {t : TypeId} {g : Nat} {bs : List UInt8} (h : ByteRow w t g bs) (o c : Nat) (l : List UInt8) (hl : ∀ (j : Nat) x, l[j]? = some x → bs[o + j]? = some x) (hc : l.length ≤ c) (hm : c ≤ maxLen) : IsBytes w (some ⟨g, o, none⟩) c l :=
  ⟨hc, hm, .inr ⟨g, o, rfl, h.lt, fun j x hj => h.cell (o + j) x (hl j x hj)⟩⟩
theorem ByteRow.set {w : World} {t : TypeId} {g : Nat} {bs : List UInt8} (h : ByteRow w t g bs) (j : Nat) (x : UInt8) : ByteRow (w.setCell ⟨g, j, none⟩ (.int .u8 (x.toNat : Int))) t g (bs.set j x) ∧ w.grownBy (w.setCell ⟨g, j, none⟩ (.int .u8 (x.toNat : Int))) (some g) := by
  have h : w.heap[g]? = _ := h
  rw [setCell_eq_setRow w g j _ t (0, 0) _ h]
  refine ⟨?_, ⟨rfl, rfl, rfl, by simp [World.setRow], fun k _ hk => ?_⟩⟩
  · unfold ByteRow
    rw [setRow_heap w g _ _ t _ h]
    simp [u8s, List.map_set]
  · exact setRow_other w g k _ (fun e => hk (by rw [e]))
theorem grown_refl (w : World) (g : Option Nat) : w.grownBy w g := ⟨rfl, rfl, rfl, Nat.le_refl _, fun _ _ _ => rfl⟩
theorem grown_trans {w w1 w2 : World} {g : Option Nat} (h1 : w.grownBy w1 g) (h2 : w1.grownBy w2 g) : w.grownBy w2 g := by
  obtain ⟨a1, a2, a3, a4, a5⟩ := h1
  obtain ⟨b1, b2, b3, b4, b5⟩ := h2
  exact ⟨b1.trans a1, b2.trans a2, b3.trans a3, Nat.le_trans a4 b4, fun k hk hg => (b5 k (Nat.lt_of_lt_of_le hk a4) hg).trans (a5 k hk hg)⟩
theorem grown_below {w w1 : World} {B g : Nat} (h : w.grownBy w1 (some g)) (hB : B ≤ g) (hBw : B ≤ w.heap.size) : Below B w w1 :=
  (Below.refl B w).grown h hBw (fun j hj => by cases hj; exact hB)
end Go.Proofs.YtomgnailgddchaaDoor

namespace Go.Proofs.YtomgnailgddchaaDoor
open Go.RowKit

theorem run_append_keeps {P : Program} (w : World) (base : Nat) (t ty e : TypeId) (i : TypeInfo) (z : Value) (ht : P.underlying t = some (.slice e)) (hi : P.info? e = some i) (hz : i.zero = some z)
    (hsize : i.size = 1) (hzs : z.cells.size = 1) (v : Value) (n : Nat) (xs : List Value) (hown : w.ownsRow base e 1 v n xs)
    (a : Option Addr) (m c : Nat) (news : List Value) (hl : news.length = m) (hnews : (a = none ∧ m = 0) ∨ ∃ ad, a = some ad ∧ ∀ j u, news[j]? = some u → w.cell? (ad.add j) = some u) (h1 : ∀ u ∈ news, u.oneCell' = true)
    (h63 : n + m ≤ maxLen) (hbytes : (n + m) * i.bytes ≤ 140737488355328) (hbase : base ≤ w.heap.size) :
    ∃ v' w', (Builtin.append_ #[t, t] ty #[v, .slice a m c]).run P w = .ok v' w' ∧ w'.ownsRow base e 1 v' (n + m) (xs ++ news) ∧ w.grownBy w' v.ownBlock ∧ (∀ (b0 : Nat) (u : Value) (m' : Nat) (ys : List Value), w.ownsRow b0 e 1 u m' ys → (u.ownBlock = v.ownBlock → m' ≤ n) → w'.ownsRow b0 e 1 u m' ys) ∧
      (v'.ownBlock = v.ownBlock ∨ v'.ownBlock = some w.heap.size) ∧ (v' = .slice none 0 0 ↔ v = .slice none 0 0 ∧ m = 0) := by
  have hsmall : n + m ≤ 9223372036854775807 := by simp only [maxLen] at h63; omega
  rcases hnews with ⟨rfl, rfl⟩ | ⟨ad, rfl, hnews⟩
  · obtain rfl : news = [] := List.eq_nil_of_length_eq_zero hl
    refine ⟨v, w, ?_, by simpa using hown, ⟨rfl, rfl, rfl, Nat.le_refl _, fun _ _ _ => rfl⟩, fun _ _ _ _ h _ => h, .inl rfl, by simp⟩
    rcases hown.2 with ⟨rfl, rfl⟩ | ⟨g, cap, cur, rfl, hbg, hg, hnc, hcm, hcs, htake⟩
    · simp [Builtin.append_, run_underlying ht, sizeOf, typeInfo, hi, Builtin.lenOf, Builtin.firstCells]
    · have hr := run_append_room_src (P := P) w t t ty e i ht hi g 0 n cap (.slice none 0 c) 0 [] (Src.ofNil w ht c) (by omega) (by simp) (by simp)
      simpa [World.setCells] using hr
  · have hlen : (xs ++ news).length = (n + m) * 1 := by rw [List.length_append, hown.1, hl]; omega
    have grown : ∀ (old : Nat), old < n + m → ∀ (row : Option Nat),
        (w.drew.alloc (.cells (xs.toArray ++ news.toArray ++ Builtin.zeroCells z.cells (grownCap w (n + m) old e - (n + m))) e)).ownsRow base e 1
          (.slice (some ⟨w.heap.size, 0, none⟩) (n + m) (grownCap w (n + m) old e)) (n + m) (xs ++ news) ∧
        w.grownBy (w.drew.alloc (.cells (xs.toArray ++ news.toArray ++ Builtin.zeroCells z.cells (grownCap w (n + m) old e - (n + m))) e)) row := by
      intro old ho row
      have hge := grownCap_ge w (n + m) old e
      have hcm : grownCap w (n + m) old e ≤ maxLen := grownCap_le_maxLen w (n + m) old e h63
      refine ⟨⟨hlen, .inr ⟨w.heap.size, _, _, rfl, hbase, heap_alloc_new w.drew _, hge, hcm, ?_, ?_⟩⟩, ⟨rfl, rfl, rfl, by simp, fun k hk _ => heap_alloc_old w.drew _ hk⟩⟩
      · simp only [Array.size_append, List.size_toArray, size_zeroCells, hzs, hown.1, hl]
        omega
      · simp only [Array.toList_append, List.append_assoc]
        rw [← List.append_assoc, ← hlen]
        exact List.take_left
    rcases hown.2 with ⟨rfl, rfl⟩ | ⟨g, cap, cur, rfl, hbg, hg, hnc, hcm, hcs, htake⟩
    · have hx : xs = [] := List.eq_nil_of_length_eq_zero (by simpa using hown.1)
      subst hx
      by_cases hm : m = 0
      · subst hm
        obtain rfl : news = [] := List.eq_nil_of_length_eq_zero hl
        refine ⟨.slice none 0 0, w, ?_, World.ownsRow_nil w base e 1, ⟨rfl, rfl, rfl, Nat.le_refl _, fun _ _ _ => rfl⟩, fun _ _ _ _ h _ => h, .inl rfl, by simp⟩
        simp [Builtin.append_, run_underlying ht, sizeOf, typeInfo, hi, Builtin.lenOf, Builtin.firstCells, loadCells, loadCellsFrom]
      · have hr := run_append_nil (P := P) w t ty e i z ht hi hz ad m c news (by rw [hsize, hl, Nat.mul_one]) hnews (by omega) (by omega) (by have hb := hbytes; simp only [Nat.zero_add] at hb; omega)
        have hgr := grown 0 (by omega) (Value.ownBlock (.slice none 0 0))
        simp only [Nat.zero_add, List.nil_append, Array.empty_append] at hgr ⊢
        have hgn := grown 0 (by omega) none
        simp only [Nat.zero_add, List.nil_append, Array.empty_append] at hgn
        exact ⟨_, _, hr, hgr.1, hgr.2, fun _ u _ _ h _ => h.kept hgn.2 (by cases hu : u.ownBlock <;> simp), .inr rfl, by simp [hm]⟩
    · by_cases hroom : n + m ≤ cap
      · have hfit : n * i.size + news.length ≤ cur.size := by rw [hl, hcs, hsize]; omega
        have hr := run_append_room (P := P) w t ty e i ht hi g n cap cur hg ad m c news (by rw [hsize, hl, Nat.mul_one]) hnews h1 hroom hfit
        rw [hsize] at hr
        have htl : (cur.toList.take (n * 1)).length = n * 1 := by rw [htake, hown.1]
        refine ⟨_, _, hr, ⟨hlen, .inr ⟨g, cap, _, rfl, hbg, setRow_heap w g cur _ e _ hg, hroom, hcm, ?_, ?_⟩⟩, ⟨rfl, rfl, rfl, by simp, fun k _ hk => setRow_other w g k _ (fun e => hk (by simp [Value.ownBlock, e]))⟩,
          ?_, .inl rfl, by simp⟩
        · simp only [List.size_toArray, List.length_append, List.length_take, List.length_drop, Array.length_toList]
          omega
        · rw [htake, ← hlen]
          exact List.take_left
        · intro b0 u m' ys h hle
          refine ⟨h.1, ?_⟩
          rcases h.2 with h0 | ⟨g', cap', cur', rfl, hb', hg', hnc', hcm', hcs', htake'⟩
          · exact .inl h0
          · by_cases hgg : g' = g
            · subst hgg
              rw [hg] at hg'
              simp only [Option.some.injEq, Obj.cells.injEq, and_true] at hg'
              obtain rfl := hg'
              refine .inr ⟨g', cap', _, rfl, hb', setRow_heap w g' cur _ e _ hg, hnc', hcm', ?_, ?_⟩
              · rw [← hcs']
                simp only [List.size_toArray, List.length_append, List.length_take, List.length_drop, Array.length_toList]
                omega
              · have hmn := hle rfl
                rw [List.append_assoc]
                simp only []
                rw [List.take_append_of_le_length (by omega), List.take_take, Nat.min_eq_left (by omega), htake']
            · exact .inr ⟨g', cap', cur', rfl, hb', (setRow_other w g g' _ hgg).trans hg', hnc', hcm', hcs', htake'⟩
      · have holds : ∀ j u, xs[j]? = some u → w.cell? ((⟨g, 0, none⟩ : Addr).add j) = some u := hown.cells (g := g) rfl
        have hr := run_append_grow (P := P) w t ty e i z ht hi hz ⟨g, 0, none⟩ n cap xs (by rw [hsize]; exact hown.1) holds ad m c news (by rw [hsize, hl, Nat.mul_one]) hnews (by omega) (by omega) (growslice_fits (by omega) hbytes)
        have hgr := grown cap (by omega) (Value.ownBlock (.slice (some ⟨g, 0, none⟩) n cap))
        have hgn := grown cap (by omega) none
        exact ⟨_, _, hr, hgr.1, hgr.2, fun _ u _ _ h _ => h.kept hgn.2 (by cases hu : u.ownBlock <;> simp), .inr rfl, by simp⟩

theorem wpList_append_keeps {P : Program} {w : World} {ops : Array Oper} {rest : List Oper} {o : Oper} {a : Act} {Q : Exit → Act → World → Prop} (hgd : o.guard = none) (s x : Operand) (t : TypeId)
    (ho : o.op = .call { callee := .builtin .append, args := #[s, x], argTypes := #[t, t] })
    (base : Nat) (e : TypeId) (i : TypeInfo) (z : Value) (ht : P.underlying t = some (.slice e)) (hi : P.info? e = some i) (hz : i.zero = some z) (hsize : i.size = 1) (hzs : z.cells.size = 1)
    (v : Value) (n : Nat) (xs : List Value) (hs : a.eval s = v) (hown : w.ownsRow base e 1 v n xs)
    (ad : Option Addr) (m c : Nat) (news : List Value) (hx : a.eval x = .slice ad m c) (hl : news.length = m) (hnews : (ad = none ∧ m = 0) ∨ ∃ p, ad = some p ∧ ∀ j u, news[j]? = some u → w.cell? (p.add j) = some u) (h1 : ∀ u ∈ news, u.oneCell' = true)
    (h63 : n + m ≤ maxLen) (hbytes : (n + m) * i.bytes ≤ 140737488355328) (hbase : base ≤ w.heap.size)
    (h : ∀ v' w', w'.ownsRow base e 1 v' (n + m) (xs ++ news) → w.grownBy w' v.ownBlock → (∀ (b0 : Nat) (u : Value) (m' : Nat) (ys : List Value), w.ownsRow b0 e 1 u m' ys → (u.ownBlock = v.ownBlock → m' ≤ n) → w'.ownsRow b0 e 1 u m' ys) → (v'.ownBlock = v.ownBlock ∨ v'.ownBlock = some w.heap.size) → (v' = .slice none 0 0 ↔ v = .slice none 0 0 ∧ m = 0) →
      wpList P ops Q rest (a.put o.dst v') w') : wpList P ops Q (o :: rest) a w := by
  refine wpList_plain hgd fun K hK => ?_
  obtain ⟨v', w', hr, h2, h3, h4, h5, h6⟩ := run_append_keeps (P := P) w base t o.type e i z ht hi hz hsize hzs v n xs hown ad m c news hl hnews h1 h63 hbytes hbase
  unfold Oper.wp execOp
  simp only [ho, resolve, invoke, builtin, Sem.run_bind, Sem.run_pure, Result.andThen_ok, List.map_toArray, List.map_cons, List.map_nil, hs, hx, hr]
  exact hK _ _ (h v' w' h2 h3 h4 h5 h6)

/-! ### Bytes -/

theorem info_u8 : (Tryd.prog.info? 5).map (fun i => (i.zero, i.size, i.bytes)) = some (some (.int .u8 0), 1, 1) := by kernel_rfl

/-- Bytes in a row of the call's own, from block B on. -/
def Own (w : World) (B : Nat) (v : Value) (l : List UInt8) : Prop := w.ownsRow B 5 1 v l.length (u8s l)

theorem Own.shape {w : World} {B : Nat} {v : Value} {l : List UInt8} (h : Own w B v l) : ∃ a c, v = .slice a l.length c ∧ IsBytes w a c l := by
  rcases h.2 with ⟨rfl, h0⟩ | ⟨g, cap, cur, rfl, hb, hg, hnc, hcm, hcs, htake⟩
  · have : l = [] := List.eq_nil_of_length_eq_zero h0
    subst this
    exact ⟨none, 0, rfl, by simp, by unfold maxLen; omega, .inl rfl⟩
  · refine ⟨_, cap, rfl, hnc, hcm, .inr ⟨g, 0, rfl, (Array.getElem?_eq_some_iff.1 hg).1, fun j x hj => ?_⟩⟩
    have := h.cells (g := g) rfl j (.int .u8 (x.toNat : Int)) (by rw [u8s_get, hj]; rfl)
    rw [Nat.zero_add]
    cases j with
    | zero => simpa [Addr.add] using this
    | succ j => simpa [Addr.add] using this
theorem Own.below {w w' : World} {B : Nat} {v : Value} {l : List UInt8} (h : Own w B v l) (hb : Below w.heap.size w w') : Own w' B v l := by
  refine ⟨h.1, ?_⟩
  rcases h.2 with h0 | ⟨g, cap, cur, hv, hB, hg, rest⟩
  · exact .inl h0
  · exact .inr ⟨g, cap, cur, hv, hB, (hb.block g (Array.getElem?_eq_some_iff.1 hg).1).trans hg, rest⟩
theorem Own.mono {w : World} {B B' : Nat} {v : Value} {l : List UInt8} (h : Own w B v l) (hB : B' ≤ B) : Own w B' v l := by
  refine ⟨h.1, ?_⟩
  rcases h.2 with h0 | ⟨g, cap, cur, hv, hb, rest⟩
  · exact .inl h0
  · exact .inr ⟨g, cap, cur, hv, Nat.le_trans hB hb, rest⟩
theorem Own.nil (w : World) (B : Nat) : Own w B (.slice none 0 0) [] := World.ownsRow_nil w B _ 1
theorem IsBytes.src {w : World} {a : Option Addr} {c : Nat} {l : List UInt8} (h : IsBytes w a c l) : (a = none ∧ l.length = 0) ∨ ∃ p, a = some p ∧ ∀ j u, (u8s l)[j]? = some u → w.cell? (p.add j) = some u := by
  obtain ⟨_, _, h3⟩ := h
  rcases h3 with rfl | ⟨b, o, rfl, _, hc⟩
  · cases a with
    | none => exact .inl ⟨rfl, rfl⟩
    | some p => exact .inr ⟨p, rfl, fun j u hj => by simp [u8s] at hj⟩
  · refine .inr ⟨_, rfl, fun j u hj => ?_⟩
    rw [u8s_get] at hj
    obtain ⟨x, hx, rfl⟩ := Option.map_eq_some_iff.1 hj
    have := hc j x hx
    cases j with
    | zero => simpa [Addr.add] using this
    | succ j => simpa [Addr.add] using this

/-- 'append' of bytes onto bytes of the call's own. -/
theorem wpList_append8 {w : World} {ops : Array Oper} {rest : List Oper} {o : Oper} {a : Act} {Q : Exit → Act → World → Prop} (hgd : o.guard = none) (s x : Operand)
    (ho : o.op = .call { callee := .builtin .append, args := #[s, x], argTypes := #[34, 34] })
    (B : Nat) (v : Value) (l : List UInt8) (hs : a.eval s = v) (hown : Own w B v l) (ad : Option Addr) (c : Nat) (m : List UInt8) (hx : a.eval x = .slice ad m.length c) (hm : IsBytes w ad c m)
    (hb : l.length + m.length ≤ 140737488355328) (hbase : B ≤ w.heap.size)
    (h : ∀ v' w', Own w' B v' (l ++ m) → w.grownBy w' v.ownBlock → (∀ (b0 : Nat) (u : Value) (ys : List UInt8), Own w b0 u ys → (u.ownBlock = v.ownBlock → ys.length ≤ l.length) → Own w' b0 u ys) → (v'.ownBlock = v.ownBlock ∨ v'.ownBlock = some w.heap.size) → (v' = .slice none 0 0 ↔ v = .slice none 0 0 ∧ m = []) →
      wpList Tryd.prog ops Q rest (a.put o.dst v') w') : wpList Tryd.prog ops Q (o :: rest) a w := by
  obtain ⟨i, hi, hz0, hz1, hz2⟩ := info_parts info_u8
  refine wpList_append_keeps hgd s x 34 ho B 5 i (.int .u8 0) Tryd.underlying34 hi hz0 hz1 rfl v l.length (u8s l) hs hown ad m.length c (u8s m) hx (u8s_length m) hm.src (u8s_one m) (by unfold maxLen; omega) (by rw [hz2]; omega) hbase ?_
  intro v' w' h1 h2 h3 h4 h5
  refine h v' w' ?_ h2 (fun b0 u ys hu hle => h3 b0 u ys.length (u8s ys) hu hle) h4 (by rw [h5]; simp)
  unfold Own
  rw [List.length_append, show u8s (l ++ m) = u8s l ++ u8s m by simp [u8s]]
  exact h1
end Go.Proofs.YtomgnailgddchaaDoor

namespace Go.Proofs.YtomgnailgddchaaDoor
open Go.RowKit
/-- A region of reads that ends in a forced tail, the world by its short name. -/
theorem wp_tail {P : Program} {id : Nat} {Q : Exit → Act → World → Prop} {a : Act} {w : World} {l : List Oper} (n : Nat) (hm : P.follows .mixedOrders = true) (hB : Region.lexTailB .any l.toArray n = true)
    (h : wpStill P l.toArray w.drew (fun a' => wpList P l.toArray Q (l.drop n) a' w.drew) (l.take n) a) : (Code.region id l.toArray true).wp P Q a w :=
  wp_region_still_tail n hm hB h
theorem cell_lt {w : World} {p : Addr} {v : Value} (h : w.cell? p = some v) : p.block < w.heap.size := by
  unfold World.cell? at h
  cases hb : w.heap[p.block]? with
  | none => rw [hb] at h; simp at h
  | some o => exact (Array.getElem?_eq_some_iff.1 hb).1
/-- Nothing but blocks of P, and new ones, has turned. -/
structure Kept (P : Nat → Prop) (w w' : World) : Prop where
  os : w'.os = w.os
  tape : w'.tape = w.tape
  output : w'.output = w.output
  size : w.heap.size ≤ w'.heap.size
  block : ∀ k, k < w.heap.size → ¬ P k → w'.heap[k]? = w.heap[k]?

theorem Kept.refl (P : Nat → Prop) (w : World) : Kept P w w := ⟨rfl, rfl, rfl, Nat.le_refl _, fun _ _ _ => rfl⟩
theorem Kept.trans {P : Nat → Prop} {w w1 w2 : World} (h : Kept P w w1) (k : Kept P w1 w2) : Kept P w w2 :=
  ⟨k.os.trans h.os, k.tape.trans h.tape, k.output.trans h.output, Nat.le_trans h.size k.size, fun j hj hP => (k.block j (Nat.lt_of_lt_of_le hj h.size) hP).trans (h.block j hj hP)⟩
theorem Kept.mono {P Q : Nat → Prop} {w w1 : World} (h : Kept P w w1) (hPQ : ∀ k, k < w.heap.size → P k → Q k) : Kept Q w w1 :=
  ⟨h.os, h.tape, h.output, h.size, fun j hj hQ => h.block j hj (fun hP => hQ (hPQ j hj hP))⟩
theorem Kept.step {P Q : Nat → Prop} {w w1 w2 : World} (h : Kept P w w1) (k : Kept Q w1 w2) (hq : ∀ j, j < w.heap.size → Q j → P j) : Kept P w w2 :=
  ⟨k.os.trans h.os, k.tape.trans h.tape, k.output.trans h.output, Nat.le_trans h.size k.size, fun j hj hP => (k.block j (Nat.lt_of_lt_of_le hj h.size) (fun e => hP (hq j hj e))).trans (h.block j hj hP)⟩
theorem Kept.ofBelow {P : Nat → Prop} {w w1 : World} (h : Below w.heap.size w w1) : Kept P w w1 := ⟨h.os, h.tape, h.output, h.size, fun k hk _ => h.block k hk⟩
theorem Kept.ofGrown {P : Nat → Prop} {w w1 : World} {row : Option Nat} (h : w.grownBy w1 row) (hP : ∀ g, row = some g → P g) : Kept P w w1 :=
  ⟨h.os, h.tape, h.output, h.size, fun k hk hnP => h.block k hk (fun e => hnP (hP k e.symm))⟩
theorem Kept.below {P : Nat → Prop} {w w1 : World} {B : Nat} (h : Kept P w w1) (hB : B ≤ w.heap.size) (hP : ∀ k, k < B → ¬ P k) : Below B w w1 :=
  ⟨h.os, h.tape, h.output, h.size, fun k hk => h.block k (Nat.lt_of_lt_of_le hk hB) (hP k hk)⟩
theorem Kept.setCell (P : Nat → Prop) (w : World) (b i : Nat) (v : Value) (hP : P b) : Kept P w (w.setCell ⟨b, i, none⟩ v) :=
  ⟨rfl, rfl, rfl, by simp, fun k _ hk => Below.heap_setCell w ⟨b, i, none⟩ v k (fun e => hk (by rw [show k = b from e]; exact hP))⟩
theorem Kept.own {P : Nat → Prop} {w w1 : World} {B e : Nat} {v : Value} {n : Nat} {xs : List Value} (h : Kept P w w1) (ho : w.ownsRow B e 1 v n xs) (hP : ∀ g, v.ownBlock = some g → ¬ P g) : w1.ownsRow B e 1 v n xs := by
  refine ⟨ho.1, ?_⟩
  rcases ho.2 with h0 | ⟨g, cap, cur, rfl, hB, hg, rest⟩
  · exact .inl h0
  · exact .inr ⟨g, cap, cur, rfl, hB, (h.block g (Array.getElem?_eq_some_iff.1 hg).1 (hP g rfl)).trans hg, rest⟩
theorem Kept.cell {P : Nat → Prop} {w w' : World} (h : Kept P w w') {b i : Nat} {v : Value} (hb : ¬ P b) (hc : w.cell? ⟨b, i, none⟩ = some v) : w'.cell? ⟨b, i, none⟩ = some v :=
  (World.cell?_of_block (h.block b (cell_lt hc) hb)).trans hc
theorem below_two (w : World) (o1 o2 : Obj) : Below w.heap.size w ((w.alloc o1).alloc o2).drew := (((Below.refl _ w).alloc (Nat.le_refl _) _).alloc (by simp) _).drew
theorem set_cells {w : World} {rb : Nat} {cur : Array Value} {t : TypeId} (hg : w.heap[rb]? = some (.cells cur t (0, 0))) (q : Nat) (u : Value) :
    (w.setCell ⟨rb, q, none⟩ u).heap[rb]? = some (.cells (cur.setIfInBounds q u) t (0, 0)) ∧ w.grownBy (w.setCell ⟨rb, q, none⟩ u) (some rb) := by
  rw [setCell_eq_setRow w rb q _ t (0, 0) _ hg]
  exact ⟨setRow_heap w rb _ _ t _ hg, ⟨rfl, rfl, rfl, by simp [World.setRow], fun k _ hk => setRow_other w rb k _ (fun e => hk (by rw [e]))⟩⟩
theorem grown_of_drew {w w1 : World} {g : Option Nat} (h : w.drew.grownBy w1 g) : w.grownBy w1 g := ⟨h.os, h.tape, h.output, h.size, h.block⟩
theorem mixed : Tryd.prog.follows .mixedOrders = true := by kernel_rfl
end Go.Proofs.YtomgnailgddchaaDoor
