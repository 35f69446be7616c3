/-
  Bytes in memory of the call's own, told cell by cell (also where a text was turned to bytes); 'append' onto them.
-/
import Derived.Test.YtimgjbjibkljhaaKit
import Derived.Test.YtimgjbjibkljhaaYBytes
import Derived.Laws.IdiomStrings
import Derived.Laws.IdiomCopy
import Derived.Lib.LazyBuf
import Derived.Deep.MidRow
import Derived.Deep.AppendSrc
namespace Go.Proofs.Ytimgjbjibkljhaa
open Go.RowKit

def OwnC (w : World) (B : Nat) (v : Value) (l : List UInt8) : Prop := ∃ g cap, v = .slice (some ⟨g, 0, none⟩) l.length cap ∧ B ≤ g ∧ g < w.heap.size ∧ l.length ≤ cap ∧ cap ≤ maxLen ∧
  (∀ (j : Nat) x, l[j]? = some x → w.cell? ⟨g, j, none⟩ = some (.int .u8 (x.toNat : Int))) ∧ ∀ j, j < cap → (w.cell? ⟨g, j, none⟩).isSome = true ∧ w.frozen? ⟨g, j, none⟩ = false
theorem OwnC.is {w : World} {B : Nat} {v : Value} {l : List UInt8} (h : OwnC w B v l) : ∃ a c, v = .slice a l.length c ∧ IsBytes w a c l ∧ ∀ b' o, a = some ⟨b', o, none⟩ → B ≤ b' := by
  obtain ⟨g, cap, rfl, hB, hg, h1, h2, h3, _⟩ := h
  exact ⟨_, cap, rfl, ⟨h1, h2, .inr ⟨g, 0, rfl, hg, fun j x hj => by rw [Nat.zero_add]; exact h3 j x hj⟩⟩, fun b' o e => by cases e; exact hB⟩
theorem OwnC.below {w w' : World} {B : Nat} {v : Value} {l : List UInt8} (h : OwnC w B v l) (hb : Below w.heap.size w w') : OwnC w' B v l := by
  obtain ⟨g, cap, rfl, hB, hg, h1, h2, h3, h4⟩ := h
  have hblk := hb.block g hg
  refine ⟨g, cap, rfl, hB, Nat.lt_of_lt_of_le hg hb.size, h1, h2, fun j x hj => (World.cell?_of_block hblk).trans (h3 j x hj), fun j hj => ?_⟩
  obtain ⟨q1, q2⟩ := h4 j hj
  refine ⟨by rw [World.cell?_of_block hblk]; exact q1, ?_⟩
  rw [← q2]
  simp only [World.frozen?, hblk]

theorem setCells_size (b : Nat) : ∀ (vs : List Value) (o : Nat) (w : World), (w.setCells b o vs).heap.size = w.heap.size
  | [], _, _ => rfl
  | v :: vs, o, w => by
    show ((w.setCell ⟨b, o, none⟩ v).setCells b (o + 1) vs).heap.size = _
    rw [setCells_size b vs]
    simp

theorem below_setCells' {B b : Nat} {a : World} (hb : B ≤ b) : ∀ (vs : List Value) (o : Nat) (w : World), Below B a w → Below B a (w.setCells b o vs)
  | [], _, _, h => h
  | v :: vs, o, w, h => below_setCells' hb vs (o + 1) (w.setCell ⟨b, o, none⟩ v) (h.trans ⟨rfl, rfl, rfl, by simp, fun j hj => Below.heap_setCell w ⟨b, o, none⟩ v j (fun e => by have : j = b := e; omega)⟩)
theorem u8s_src (w : World) (s : ByteArray) : Src Try.prog 1 9 (.string s) s.data.toList.length (u8s s.data.toList) w := by
  rw [show s.data.toList.length = s.size by simp]
  exact Src.ofString w Try.underlying9 s
theorem is_src {w : World} {a : Option Addr} {c : Nat} {m : List UInt8} (hm : IsBytes w a c m) : Src Try.prog 1 31 (.slice a m.length c) m.length (u8s m) w := by
  cases a with
  | none =>
    obtain rfl : m = [] := by
      rcases hm.2.2 with h | ⟨_, _, e, _⟩
      · exact h
      · cases e
    exact Src.ofNil w Try.underlying31 c
  | some p =>
    refine Src.ofSlice w Try.underlying31 p m.length c (u8s m) (by rw [u8s_length]; omega) ?_ (u8s_one m)
    rcases hm.src with ⟨e, _⟩ | ⟨q, e, hq⟩
    · cases e
    · cases e; exact hq
theorem kept_setCells {P : Nat → Prop} {b : Nat} (hb : P b) : ∀ (vs : List Value) (o : Nat) (w : World), Kept P w (w.setCells b o vs)
  | [], _, w => Kept.refl _ w
  | v :: vs, o, w => (Kept.setCell P w b o v hb).trans (kept_setCells hb vs (o + 1) (w.setCell ⟨b, o, none⟩ v))
theorem OwnC.ne {w : World} {B : Nat} {v : Value} {l : List UInt8} (h : OwnC w B v l) (hl : 0 < l.length) {pb : Nat} {s : ByteArray} (hc : w.cell? ⟨pb, 0, none⟩ = some (.string s)) : ¬ v.ownBlock = some pb := by
  obtain ⟨g, cap, rfl, _, _, _, _, h3, _⟩ := h
  intro e
  simp only [Value.ownBlock, Option.some.injEq] at e
  subst e
  have := h3 0 l[0] (List.getElem?_eq_getElem hl)
  rw [hc] at this
  cases this
/-- 'append' of bytes, or of a text's. -/
theorem run_appendS (w : World) (B : Nat) (t2 ty : TypeId) (v x : Value) (l m : List UInt8) (h : OwnC w B v l) (hsrc : Src Try.prog 1 t2 x m.length (u8s m) w) (hb : l.length + m.length ≤ 140737488355328) (hB : B ≤ w.heap.size) :
    ∃ v' w', (Builtin.append_ #[31, t2] ty #[v, x]).run Try.prog w = .ok v' w' ∧ OwnC w' B v' (l ++ m) ∧ Below B w w' ∧ Kept (fun k => v.ownBlock = some k) w w' := by
  obtain ⟨i, hi, hz0, hz1, hz2⟩ := info_parts info_u8
  obtain ⟨g, cap, rfl, hBg, hg, h1, h2, h3, h4⟩ := h
  have hll : (l ++ m).length = l.length + m.length := by simp
  rw [← hz1] at hsrc
  by_cases hroom : l.length + m.length ≤ cap
  · have hcs : ∀ j, j < (u8s m).length → (w.cell? ⟨g, 0 + l.length * i.size + j, none⟩).isSome = true := fun j hj => by rw [hz1]; rw [u8s_length] at hj; exact (h4 _ (by omega)).1
    have hfs : ∀ j, j < (u8s m).length → w.frozen? ⟨g, 0 + l.length * i.size + j, none⟩ = false := fun j hj => by rw [hz1]; rw [u8s_length] at hj; exact (h4 _ (by omega)).2
    have hr := run_append_room_src (P := Try.prog) w 31 t2 ty 5 i Try.underlying31 hi g 0 l.length cap x m.length (u8s m) hsrc hroom hcs hfs
    refine ⟨_, _, hr, ⟨g, cap, by rw [hll], hBg, by rw [setCells_size]; exact hg, by rw [hll]; exact hroom, h2, fun j x hj => ?_, fun j hj => ?_⟩, below_setCells' hBg _ _ _ (Below.refl _ w), kept_setCells (P := fun k => (Value.slice (some ⟨g, 0, none⟩) l.length cap).ownBlock = some k) rfl _ _ _⟩
    · rcases Nat.lt_or_ge j l.length with hlt | hge
      · rw [List.getElem?_append_left hlt] at hj
        rw [World.cell?_setCells_out g (u8s m) _ w ⟨g, j, none⟩ (fun _ _ => .inl (by rw [hz1]; show j < _; omega))]
        exact h3 j x hj
      · rw [List.getElem?_append_right hge] at hj
        have hjm := (List.getElem?_eq_some_iff.1 hj).1
        have hin := World.cell?_setCells_in g (u8s m) (0 + l.length * i.size) w hcs (j - l.length) (by rw [u8s_length]; exact hjm)
        rw [show 0 + l.length * i.size + (j - l.length) = j by rw [hz1]; omega] at hin
        rw [hin]
        have hu : (u8s m)[j - l.length]? = some (.int .u8 (x.toNat : Int)) := by rw [u8s_get, hj]; rfl
        rw [List.getElem?_eq_getElem (by rw [u8s_length]; exact hjm)] at hu
        exact hu
    · obtain ⟨q1, q2⟩ := h4 j hj
      exact ⟨World.isSome_setCells g (u8s m) _ w ⟨g, j, none⟩ q1, by rw [World.frozen?_setCells]; exact q2⟩
  · have hge := grownCap_ge w (l.length + m.length) cap 5
    have hold : (Builtin.firstCells i.size l.length (.slice (some ⟨g, 0, none⟩) l.length cap)).run Try.prog w.drew = .ok (u8s l).toArray w.drew := run_firstCells_some w.drew i.size l.length ⟨g, 0, none⟩ l.length cap (u8s l) (by rw [hz1, u8s_length]; omega) (fun j u hj => by
      rw [u8s_get] at hj
      obtain ⟨x, hx, rfl⟩ := Option.map_eq_some_iff.1 hj
      rw [Go.WideShapes.add_plain, Nat.zero_add]
      exact h3 j x hx)
    have hr := run_append_grow_src (P := Try.prog) w 31 t2 ty 5 i (.int .u8 0) Try.underlying31 hi hz0 (some ⟨g, 0, none⟩) l.length cap (u8s l) hold x m.length (u8s m) hsrc (by omega) (by omega) (growslice_fits (by omega) (by rw [hz2]; omega))
    obtain ⟨C, hC⟩ : ∃ C, C = (u8s l ++ u8s m).toArray ++ Builtin.zeroCells (Value.int .u8 0).cells (grownCap w (l.length + m.length) cap 5 - (l.length + m.length)) := ⟨_, rfl⟩
    rw [← hC] at hr
    have hCs : C.size = grownCap w (l.length + m.length) cap 5 := by
      rw [hC]
      simp only [Array.size_append, List.size_toArray, List.length_append, size_zeroCells, u8s_length]
      have : (Value.int .u8 0).cells.size = 1 := rfl
      rw [this]
      omega
    have hnew : (w.drew.alloc (.cells C 5)).heap[w.heap.size]? = some (.cells C 5 (0, 0)) := heap_alloc_new w.drew _
    refine ⟨_, _, hr, ⟨w.heap.size, _, by rw [hll], hB, (by rw [World.size_alloc]; exact Nat.lt_succ_self _), by rw [hll]; exact hge, grownCap_le_maxLen w _ _ _ (by unfold maxLen; omega), fun j x hj => ?_, fun j hj => ?_⟩, (Below.refl _ w).drew.alloc hB _, Kept.ofBelow ((Below.refl _ w).drew.alloc (Nat.le_refl _) _)⟩
    · unfold World.cell?
      rw [hnew]
      show C[j]? = _
      have hjl := (List.getElem?_eq_some_iff.1 hj).1
      rw [hC, Array.getElem?_append_left (by simp [u8s_length]; omega)]
      have : u8s l ++ u8s m = u8s (l ++ m) := by simp [u8s]
      rw [this]
      simp [u8s_get, hj]
    · constructor
      · unfold World.cell?
        rw [hnew]
        simp [hCs, hj]
      · unfold World.frozen?
        rw [hnew]
        simp
theorem wpList_appendS {w : World} {ops : Array Oper} {rest : List Oper} {o : Oper} {a : Act} {Q : Exit → Act → World → Prop} (hgd : o.guard = none) (s x : Operand) (t2 : TypeId)
    (ho : o.op = .call { callee := .builtin .append, args := #[s, x], argTypes := #[31, t2] })
    (B : Nat) (v : Value) (l : List UInt8) (hs : a.eval s = v) (hown : OwnC w B v l) (y : Value) (m : List UInt8) (hx : a.eval x = y) (hm : Src Try.prog 1 t2 y m.length (u8s m) w)
    (hb : l.length + m.length ≤ 140737488355328) (hbase : B ≤ w.heap.size)
    (h : ∀ v' w', OwnC w' B v' (l ++ m) → Below B w w' → Kept (fun k => v.ownBlock = some k) w w' → wpList Try.prog ops Q rest (a.put o.dst v') w') : wpList Try.prog ops Q (o :: rest) a w := by
  refine wpList_plain hgd fun K hK => ?_
  obtain ⟨v', w', hr, h2, h3, h4⟩ := run_appendS w B t2 o.type v y l m hown hm hb hbase
  unfold Oper.wp execOp
  simp only [ho, resolve, invoke, builtin, Sem.run_bind, Sem.run_pure, Result.andThen_ok, List.map_toArray, List.map_cons, List.map_nil, hs, hx, hr]
  exact hK _ _ (h v' w' h2 h3 h4)
/-- A constant turned to bytes. -/
theorem const_own {W : World} {g B : Nat} {n m : Nat} (l : List UInt8) (h : W.heap[g]? = some (.cells (u8s l).toArray 5 (n, m))) (hl : l.length ≤ 100) (hn : l.length ≤ n) (hB : B ≤ g) : OwnC W B (.slice (some ⟨g, 0, none⟩) l.length l.length) l := by
  refine ⟨g, l.length, rfl, hB, (Array.getElem?_eq_some_iff.1 h).1, Nat.le_refl _, by unfold maxLen; omega, fun j x hj => by simp [World.cell?, h, u8s_get, hj], fun j hj => ?_⟩
  constructor
  · simp [World.cell?, h, u8s_get, hj]
  · unfold World.frozen?
    rw [h]
    simp
    omega
end Go.Proofs.Ytimgjbjibkljhaa
