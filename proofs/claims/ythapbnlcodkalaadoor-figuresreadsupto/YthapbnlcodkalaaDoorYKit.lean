/-
  Pieces of layer 9's texts that the document's Dict wants.
-/
import Derived.Test.YthapbnlcodkalaaDoorDictW
import Derived.Laws.IdiomStrings
import Derived.Laws.IdiomCopy
import Derived.Lib.LazyBuf
import Derived.Lib.SmallJoins
import Derived.Deep.MidRow
import Derived.Deep.AppendSrc
import Derived.Deep.RegionWith
import Derived.Deep.Cut
import Derived.Deep.CutRange
import Derived.Laws.Rows
namespace Go.Proofs.YthapbnlcodkalaaDoor
open Go.RowKit

def nums (l : List UInt8) : List Int := l.map fun x => (x.toNat : Int)
theorem nums_length (l : List UInt8) : (nums l).length = l.length := by simp [nums]
theorem nums_get (l : List UInt8) (i : Nat) (x : UInt8) (h : l[i]? = some x) : (nums l).getD i 0 = (x.toNat : Int) := by simp [nums, List.getD, h]
theorem IsBytes.at {w : World} {p : Addr} {c : Nat} {l : List UInt8} (h : IsBytes w (some p) c l) : ∀ i, i < l.length → w.cell? (p.add i) = some (.int .u8 ((nums l).getD i 0)) := by
  intro i hi
  obtain ⟨x, hx⟩ : ∃ x, l[i]? = some x := ⟨_, List.getElem?_eq_getElem hi⟩
  rcases h.2.2 with rfl | ⟨b, o, e, _, hc⟩
  · simp at hi
  · cases e
    rw [Go.WideShapes.add_plain, nums_get l i x hx]
    exact hc i x hx

theorem IsBytes.take {w : World} {a : Option Addr} {c : Nat} {l : List UInt8} (h : IsBytes w a c l) (k : Nat) : IsBytes w a c (l.take k) := by
  obtain ⟨h1, h2, h3⟩ := h
  refine ⟨by simp; omega, h2, ?_⟩
  rcases h3 with rfl | ⟨b, o, rfl, hb, hc⟩
  · exact .inl (by simp)
  · refine .inr ⟨b, o, rfl, hb, fun j x hj => hc j x ?_⟩
    rw [List.getElem?_take] at hj
    split at hj
    · exact hj
    · cases hj
theorem IsBytes.drop {w : World} {b o c : Nat} {l : List UInt8} (h : IsBytes w (some ⟨b, o, none⟩) c l) (k : Nat) (hk : k ≤ l.length) : IsBytes w (if c = k then some ⟨b, o, none⟩ else some ⟨b, o + k, none⟩) (c - k) (l.drop k) := by
  obtain ⟨h1, h2, h3⟩ := h
  refine ⟨by simp; omega, by omega, ?_⟩
  by_cases hc : c = k
  · left
    exact List.drop_eq_nil_of_le (by omega)
  · rw [if_neg hc]
    rcases h3 with rfl | ⟨b', o', e, hb, hcl⟩
    · left; simp
    · cases e
      refine .inr ⟨b, o + k, rfl, hb, fun j x hj => ?_⟩
      rw [List.getElem?_drop] at hj
      rw [Nat.add_assoc]
      exact hcl _ x hj
theorem IsBytes.addr {w : World} {a : Option Addr} {c : Nat} {l : List UInt8} (h : IsBytes w a c l) (hl : 0 < l.length) : ∃ b o, a = some ⟨b, o, none⟩ := by
  rcases h.2.2 with rfl | ⟨b, o, e, _⟩
  · simp at hl
  · exact ⟨b, o, e⟩
theorem conv_is {w : World} {a : Option Addr} {c n : Nat} {l : List UInt8} (h : IsBytes w a c l) (hn : l.length = n) : (convert 24 9 (.slice a n c)).run Tryd.prog w = .ok (.string ⟨l.toArray⟩) w := by
  subst hn
  cases a with
  | none =>
    obtain rfl : l = [] := by
      rcases h.2.2 with h | ⟨_, _, e, _⟩
      · exact h
      · cases e
    exact run_convert_bytes_nil w 24 5 Tryd.underlying24 Tryd.underlying5 0 c 9 Tryd.underlying9
  | some p =>
    refine run_convert_bytes_back w 24 9 5 p c l Tryd.underlying24 Tryd.underlying5 Tryd.underlying9 (fun j hj => ?_)
    rw [h.at j hj, nums_get l j l[j] (List.getElem?_eq_getElem hj)]

theorem conv_new (W : World) (C : Array Value) (n c : Nat) : (convert 24 24 (.slice (some ⟨W.heap.size, 0, none⟩) n c)).run Tryd.prog (W.alloc (.cells C 5)) = .ok (.slice (some ⟨W.heap.size, 0, none⟩) n c) (W.alloc (.cells C 5 (C.size, C.size + 1))) :=
  Lib.run_convert_bytes_const (P := Tryd.prog) W 24 5 C n c Tryd.underlying24 Tryd.underlying5
theorem const_is {W : World} {g : Nat} {x : Nat × Nat} (l : List UInt8) (h : W.heap[g]? = some (.cells (u8s l).toArray 5 x)) (hl : l.length ≤ 100) : IsBytes W (some ⟨g, 0, none⟩) l.length l := by
  refine ⟨Nat.le_refl _, by unfold maxLen; omega, .inr ⟨g, 0, rfl, (Array.getElem?_eq_some_iff.1 h).1, fun j x hj => ?_⟩⟩
  rw [Nat.zero_add]
  simp [World.cell?, h, u8s_get, hj]

theorem info_string : (Tryd.prog.info? 9).map (fun i => (i.zero, i.size, i.bytes)) = some (some (.string ⟨#[]⟩), 1, 16) := by kernel_rfl
def OwnC (w : World) (B : Nat) (v : Value) (l : List UInt8) : Prop := ∃ g cap, v = .slice (some ⟨g, 0, none⟩) l.length cap ∧ B ≤ g ∧ g < w.heap.size ∧ l.length ≤ cap ∧ cap ≤ maxLen ∧
  (∀ (j : Nat) x, l[j]? = some x → w.cell? ⟨g, j, none⟩ = some (.int .u8 (x.toNat : Int))) ∧ ∀ j, j < cap → (w.cell? ⟨g, j, none⟩).isSome = true ∧ w.frozen? ⟨g, j, none⟩ = false
theorem OwnC.is {w : World} {B : Nat} {v : Value} {l : List UInt8} (h : OwnC w B v l) : ∃ a c, v = .slice a l.length c ∧ IsBytes w a c l ∧ ∀ b' o, a = some ⟨b', o, none⟩ → B ≤ b' := by
  obtain ⟨g, cap, rfl, hB, hg, h1, h2, h3, _⟩ := h
  exact ⟨_, cap, rfl, ⟨h1, h2, .inr ⟨g, 0, rfl, hg, fun j x hj => by rw [Nat.zero_add]; exact h3 j x hj⟩⟩, fun b' o e => by cases e; exact hB⟩
theorem OwnC.below {w w' : World} {B : Nat} {v : Value} {l : List UInt8} (h : OwnC w B v l) (hb : Below w.heap.size w w') : OwnC w' B v l := by
  obtain ⟨g, cap, rfl, hB, hg, h1, h2, h3, h4⟩ := h
  have hblk := hb.block g hg
  refine ⟨g, cap, rfl, hB, Nat.lt_of_lt_of_le hg hb.size, h1, h2, fun j x hj => (World.cell?_of_block hblk).trans (h3 j x hj), fun j hj => ?_⟩
  obtain ⟨q1, q2⟩ := h4 j hj
  refine ⟨by rw [World.cell?_of_block hblk]; exact q1, ?_⟩
  rw [← q2]
  simp only [World.frozen?, hblk]

theorem setCells_size (b : Nat) : ∀ (vs : List Value) (o : Nat) (w : World), (w.setCells b o vs).heap.size = w.heap.size
  | [], _, _ => rfl
  | v :: vs, o, w => by
    show ((w.setCell ⟨b, o, none⟩ v).setCells b (o + 1) vs).heap.size = _
    rw [setCells_size b vs]
    simp

theorem below_setCells' {B b : Nat} {a : World} (hb : B ≤ b) : ∀ (vs : List Value) (o : Nat) (w : World), Below B a w → Below B a (w.setCells b o vs)
  | [], _, _, h => h
  | v :: vs, o, w, h => below_setCells' hb vs (o + 1) (w.setCell ⟨b, o, none⟩ v) (h.trans ⟨rfl, rfl, rfl, by simp, fun j hj => Below.heap_setCell w ⟨b, o, none⟩ v j (fun e => by have : j = b := e; omega)⟩)
theorem u8s_src (w : World) (s : ByteArray) : Src Tryd.prog 1 9 (.string s) s.data.toList.length (u8s s.data.toList) w := by
  rw [show s.data.toList.length = s.size by simp]
  exact Src.ofString w Tryd.underlying9 s
theorem is_src {w : World} {a : Option Addr} {c : Nat} {m : List UInt8} (hm : IsBytes w a c m) : Src Tryd.prog 1 24 (.slice a m.length c) m.length (u8s m) w := by
  cases a with
  | none =>
    obtain rfl : m = [] := by
      rcases hm.2.2 with h | ⟨_, _, e, _⟩
      · exact h
      · cases e
    exact Src.ofNil w Tryd.underlying24 c
  | some p =>
    refine Src.ofSlice w Tryd.underlying24 p m.length c (u8s m) (by rw [u8s_length]; omega) ?_ (u8s_one m)
    rcases hm.src with ⟨e, _⟩ | ⟨q, e, hq⟩
    · cases e
    · cases e; exact hq
theorem kept_setCells {P : Nat → Prop} {b : Nat} (hb : P b) : ∀ (vs : List Value) (o : Nat) (w : World), Kept P w (w.setCells b o vs)
  | [], _, w => Kept.refl _ w
  | v :: vs, o, w => (Kept.setCell P w b o v hb).trans (kept_setCells hb vs (o + 1) (w.setCell ⟨b, o, none⟩ v))
theorem OwnC.ne {w : World} {B : Nat} {v : Value} {l : List UInt8} (h : OwnC w B v l) (hl : 0 < l.length) {pb : Nat} {s : ByteArray} (hc : w.cell? ⟨pb, 0, none⟩ = some (.string s)) : ¬ v.ownBlock = some pb := by
  obtain ⟨g, cap, rfl, _, _, _, _, h3, _⟩ := h
  intro e
  simp only [Value.ownBlock, Option.some.injEq] at e
  subst e
  have := h3 0 l[0] (List.getElem?_eq_getElem hl)
  rw [hc] at this
  cases this
/-- 'append' of bytes, or of a text's. -/
theorem run_appendS (w : World) (B : Nat) (t2 ty : TypeId) (v x : Value) (l m : List UInt8) (h : OwnC w B v l) (hsrc : Src Tryd.prog 1 t2 x m.length (u8s m) w) (hb : l.length + m.length ≤ 140737488355328) (hB : B ≤ w.heap.size) :
    ∃ v' w', (Builtin.append_ #[24, t2] ty #[v, x]).run Tryd.prog w = .ok v' w' ∧ OwnC w' B v' (l ++ m) ∧ Below B w w' ∧ Kept (fun k => v.ownBlock = some k) w w' := by
  obtain ⟨i, hi, hz0, hz1, hz2⟩ := info_parts info_u8
  obtain ⟨g, cap, rfl, hBg, hg, h1, h2, h3, h4⟩ := h
  have hll : (l ++ m).length = l.length + m.length := by simp
  rw [← hz1] at hsrc
  by_cases hroom : l.length + m.length ≤ cap
  · have hcs : ∀ j, j < (u8s m).length → (w.cell? ⟨g, 0 + l.length * i.size + j, none⟩).isSome = true := fun j hj => by rw [hz1]; rw [u8s_length] at hj; exact (h4 _ (by omega)).1
    have hfs : ∀ j, j < (u8s m).length → w.frozen? ⟨g, 0 + l.length * i.size + j, none⟩ = false := fun j hj => by rw [hz1]; rw [u8s_length] at hj; exact (h4 _ (by omega)).2
    have hr := run_append_room_src (P := Tryd.prog) w 24 t2 ty 5 i Tryd.underlying24 hi g 0 l.length cap x m.length (u8s m) hsrc hroom hcs hfs
    refine ⟨_, _, hr, ⟨g, cap, by rw [hll], hBg, by rw [setCells_size]; exact hg, by rw [hll]; exact hroom, h2, fun j x hj => ?_, fun j hj => ?_⟩, below_setCells' hBg _ _ _ (Below.refl _ w), kept_setCells (P := fun k => (Value.slice (some ⟨g, 0, none⟩) l.length cap).ownBlock = some k) rfl _ _ _⟩
    · rcases Nat.lt_or_ge j l.length with hlt | hge
      · rw [List.getElem?_append_left hlt] at hj
        rw [World.cell?_setCells_out g (u8s m) _ w ⟨g, j, none⟩ (fun _ _ => .inl (by rw [hz1]; show j < _; omega))]
        exact h3 j x hj
      · rw [List.getElem?_append_right hge] at hj
        have hjm := (List.getElem?_eq_some_iff.1 hj).1
        have hin := World.cell?_setCells_in g (u8s m) (0 + l.length * i.size) w hcs (j - l.length) (by rw [u8s_length]; exact hjm)
        rw [show 0 + l.length * i.size + (j - l.length) = j by rw [hz1]; omega] at hin
        rw [hin]
        have hu : (u8s m)[j - l.length]? = some (.int .u8 (x.toNat : Int)) := by rw [u8s_get, hj]; rfl
        rw [List.getElem?_eq_getElem (by rw [u8s_length]; exact hjm)] at hu
        exact hu
    · obtain ⟨q1, q2⟩ := h4 j hj
      exact ⟨World.isSome_setCells g (u8s m) _ w ⟨g, j, none⟩ q1, by rw [World.frozen?_setCells]; exact q2⟩
  · have hge := grownCap_ge w (l.length + m.length) cap 5
    have hold : (Builtin.firstCells i.size l.length (.slice (some ⟨g, 0, none⟩) l.length cap)).run Tryd.prog w.drew = .ok (u8s l).toArray w.drew := run_firstCells_some w.drew i.size l.length ⟨g, 0, none⟩ l.length cap (u8s l) (by rw [hz1, u8s_length]; omega) (fun j u hj => by
      rw [u8s_get] at hj
      obtain ⟨x, hx, rfl⟩ := Option.map_eq_some_iff.1 hj
      rw [Go.WideShapes.add_plain, Nat.zero_add]
      exact h3 j x hx)
    have hr := run_append_grow_src (P := Tryd.prog) w 24 t2 ty 5 i (.int .u8 0) Tryd.underlying24 hi hz0 (some ⟨g, 0, none⟩) l.length cap (u8s l) hold x m.length (u8s m) hsrc (by omega) (by omega) (growslice_fits (by omega) (by rw [hz2]; omega))
    obtain ⟨C, hC⟩ : ∃ C, C = (u8s l ++ u8s m).toArray ++ Builtin.zeroCells (Value.int .u8 0).cells (grownCap w (l.length + m.length) cap 5 - (l.length + m.length)) := ⟨_, rfl⟩
    rw [← hC] at hr
    have hCs : C.size = grownCap w (l.length + m.length) cap 5 := by
      rw [hC]
      simp only [Array.size_append, List.size_toArray, List.length_append, size_zeroCells, u8s_length]
      have : (Value.int .u8 0).cells.size = 1 := rfl
      rw [this]
      omega
    have hnew : (w.drew.alloc (.cells C 5)).heap[w.heap.size]? = some (.cells C 5 (0, 0)) := heap_alloc_new w.drew _
    refine ⟨_, _, hr, ⟨w.heap.size, _, by rw [hll], hB, (by rw [World.size_alloc]; exact Nat.lt_succ_self _), by rw [hll]; exact hge, grownCap_le_maxLen w _ _ _ (by unfold maxLen; omega), fun j x hj => ?_, fun j hj => ?_⟩, (Below.refl _ w).drew.alloc hB _, Kept.ofBelow ((Below.refl _ w).drew.alloc (Nat.le_refl _) _)⟩
    · unfold World.cell?
      rw [hnew]
      show C[j]? = _
      have hjl := (List.getElem?_eq_some_iff.1 hj).1
      rw [hC, Array.getElem?_append_left (by simp [u8s_length]; omega)]
      have : u8s l ++ u8s m = u8s (l ++ m) := by simp [u8s]
      rw [this]
      simp [u8s_get, hj]
    · constructor
      · unfold World.cell?
        rw [hnew]
        simp [hCs, hj]
      · unfold World.frozen?
        rw [hnew]
        simp
theorem wpList_appendS {w : World} {ops : Array Oper} {rest : List Oper} {o : Oper} {a : Act} {Q : Exit → Act → World → Prop} (hgd : o.guard = none) (s x : Operand) (t2 : TypeId)
    (ho : o.op = .call { callee := .builtin .append, args := #[s, x], argTypes := #[24, t2] })
    (B : Nat) (v : Value) (l : List UInt8) (hs : a.eval s = v) (hown : OwnC w B v l) (y : Value) (m : List UInt8) (hx : a.eval x = y) (hm : Src Tryd.prog 1 t2 y m.length (u8s m) w)
    (hb : l.length + m.length ≤ 140737488355328) (hbase : B ≤ w.heap.size)
    (h : ∀ v' w', OwnC w' B v' (l ++ m) → Below B w w' → Kept (fun k => v.ownBlock = some k) w w' → wpList Tryd.prog ops Q rest (a.put o.dst v') w') : wpList Tryd.prog ops Q (o :: rest) a w := by
  refine wpList_plain hgd fun K hK => ?_
  obtain ⟨v', w', hr, h2, h3, h4⟩ := run_appendS w B t2 o.type v y l m hown hm hb hbase
  unfold Oper.wp execOp
  simp only [ho, resolve, invoke, builtin, Sem.run_bind, Sem.run_pure, Result.andThen_ok, List.map_toArray, List.map_cons, List.map_nil, hs, hx, hr]
  exact hK _ _ (h v' w' h2 h3 h4)
/-- A constant turned to bytes. -/
theorem const_own {W : World} {g B : Nat} {n m : Nat} (l : List UInt8) (h : W.heap[g]? = some (.cells (u8s l).toArray 5 (n, m))) (hl : l.length ≤ 100) (hn : l.length ≤ n) (hB : B ≤ g) : OwnC W B (.slice (some ⟨g, 0, none⟩) l.length l.length) l := by
  refine ⟨g, l.length, rfl, hB, (Array.getElem?_eq_some_iff.1 h).1, Nat.le_refl _, by unfold maxLen; omega, fun j x hj => by simp [World.cell?, h, u8s_get, hj], fun j hj => ?_⟩
  constructor
  · simp [World.cell?, h, u8s_get, hj]
  · unfold World.frozen?
    rw [h]
    simp
    omega
theorem textB_eq (s : ByteArray) (h : s.data.toList.all inT = true) : textB s.data.toList = (decide ((1 : Int) ≤ (s.size : Int)) && decide ((s.size : Int) ≤ 4096)) := by
  have e : s.data.toList.length = s.size := by simp
  unfold textB
  rw [h, e, Bool.and_true]
  congr 1 <;> (rw [decide_eq_decide]; omega)
theorem keyB_eq (s : ByteArray) (h : s.data.toList.all inK = true) : keyB s.data.toList = (decide ((1 : Int) ≤ (s.size : Int)) && decide ((s.size : Int) ≤ 64)) := by
  have e : s.data.toList.length = s.size := by simp
  unfold keyB
  rw [h, e, Bool.and_true]
  congr 1 <;> (rw [decide_eq_decide]; omega)
set_option maxHeartbeats 400000 in
set_option maxRecDepth 1000000 in
theorem plain_any (s : ByteArray) (w : World) (hs : s.size ≤ 4611686018427387904) :
    Calls Tryd.prog 46 #[.string s] w fun e w' => e = .returned (.bool (textB s.data.toList)) ∧ w' = w := by
  go_enter Tryd.func46, Tryd.ntmps46
  go_wp2_with fail
  go_loopg [3] s.size (fun gk i wr => ∃ k : Nat, i = .int .i64 k ∧ k ≤ s.size ∧ s.size - k ≤ gk ∧ wr = w ∧ Hid ((s.data.toList.take k).all inT = true))
  case atStart => exact ⟨0, rfl, Nat.zero_le _, Nat.le_refl _, rfl, rfl⟩
  case round =>
    obtain ⟨k, rfl, hk, hgk, hwr, HA⟩ := hrel
    obtain rfl := hwr.symm
    by_cases hp : k < s.size
    · by_cases hq1 : (s[k].toNat : Int) < 33
      · go_wp2_with fail
        go_ret
        exact ⟨by rw [text_no s k hp (inT_no (.inl hq1))]; rfl, rfl⟩
      by_cases hq2 : (126 : Int) < (s[k].toNat : Int)
      · go_wp2_with fail
        go_ret
        exact ⟨by rw [text_no s k hp (inT_no (.inr hq2))]; rfl, rfl⟩
      · go_wp2_with fail
        go_roundg (s.size - (k + 1))
        case measure => omega
        case rel => exact ⟨k + 1, by go_num, by omega, Nat.le_refl _, rfl, take_step s inT k hp HA.out (inT_yes (by omega) (by omega))⟩
    · have HALL : Hid (s.data.toList.all inT = true) := by
        have := HA.out
        rwa [List.take_of_length_le (by simp; omega)] at this
      obtain ⟨x, hx⟩ : ∃ x, decide ((1 : Int) ≤ (s.size : Int)) = x := ⟨_, rfl⟩
      obtain ⟨y, hy⟩ : ∃ y, decide ((s.size : Int) ≤ 4096) = y := ⟨_, rfl⟩
      have HE : Hid (textB s.data.toList = (x && y)) := by show textB _ = _; rw [textB_eq s HALL.out, hx, hy]
      cases x <;> cases y <;> (
        go_wp2_with fail
        go_ret
        exact ⟨by rw [HE.out]; rfl, rfl⟩)
set_option maxHeartbeats 1000000 in
set_option maxRecDepth 1000000 in
theorem key_any (s : ByteArray) (w : World) (hs : s.size ≤ 4611686018427387904) :
    Calls Tryd.prog 45 #[.string s] w fun e w' => e = .returned (.bool (keyB s.data.toList)) ∧ w' = w := by
  go_enter Tryd.func45, Tryd.ntmps45
  go_wp2_with fail
  go_loopg [3] s.size (fun gk i wr => ∃ k : Nat, i = .int .i64 k ∧ k ≤ s.size ∧ s.size - k ≤ gk ∧ wr = w ∧ Hid ((s.data.toList.take k).all inK = true))
  case atStart => exact ⟨0, rfl, Nat.zero_le _, Nat.le_refl _, rfl, rfl⟩
  case round =>
    obtain ⟨k, rfl, hk, hgk, hwr, HA⟩ := hrel
    obtain rfl := hwr.symm
    by_cases hp : k < s.size
    · obtain ⟨a, ha⟩ : ∃ a, decide ((97 : Int) ≤ (s[k].toNat : Int)) = a := ⟨_, rfl⟩
      obtain ⟨b, hb⟩ : ∃ a, decide ((s[k].toNat : Int) ≤ 122) = a := ⟨_, rfl⟩
      obtain ⟨d, hd⟩ : ∃ a, decide ((48 : Int) ≤ (s[k].toNat : Int)) = a := ⟨_, rfl⟩
      obtain ⟨e, he⟩ : ∃ a, decide ((s[k].toNat : Int) ≤ 57) = a := ⟨_, rfl⟩
      obtain ⟨f, hf⟩ : ∃ a, ((s[k].toNat : Int) == 45) = a := ⟨_, rfl⟩
      have HK : Hid (inK s[k] = (a && b || d && e || f)) := inK_of a b d e f ha hb hd he hf
      cases a <;> cases b <;> cases d <;> cases e <;> cases f <;> (
        go_wp2_with fail
        first
        | (go_ret
           exact ⟨by rw [key_no s k hp (by rw [HK.out]; rfl)]; rfl, rfl⟩)
        | (go_roundg (s.size - (k + 1))
           case measure => omega
           case rel => exact ⟨k + 1, by go_num, by omega, Nat.le_refl _, rfl, take_step s inK k hp HA.out (by rw [HK.out]; rfl)⟩))
    · have HALL : Hid (s.data.toList.all inK = true) := by
        have := HA.out
        rwa [List.take_of_length_le (by simp; omega)] at this
      obtain ⟨x, hx⟩ : ∃ x, decide ((1 : Int) ≤ (s.size : Int)) = x := ⟨_, rfl⟩
      obtain ⟨y, hy⟩ : ∃ y, decide ((s.size : Int) ≤ 64) = y := ⟨_, rfl⟩
      have HE : Hid (keyB s.data.toList = (x && y)) := by show keyB _ = _; rw [keyB_eq s HALL.out, hx, hy]
      cases x <;> cases y <;> (
        go_wp2_with fail
        go_ret
        exact ⟨by rw [HE.out]; rfl, rfl⟩)
def RefPost (er : Int) (l : Txt) (w : World) (e : Ending) (w' : World) : Prop := ∃ a c, e = .returned (.tuple #[.slice a l.length c, .int .i64 er]) ∧ IsBytes w' a c l ∧ Below w.heap.size w w'
theorem ten_src (W : World) : Src Tryd.prog 1 24 (.slice (some ⟨W.heap.size, 0, none⟩) 1 1) ([10] : List UInt8).length (u8s [10]) (W.alloc (.cells #[.int .u8 10] 5)) :=
  is_src (const_is (x := (0, 0)) [10] (heap_alloc_new _ _) (by decide))

end Go.Proofs.YthapbnlcodkalaaDoor
