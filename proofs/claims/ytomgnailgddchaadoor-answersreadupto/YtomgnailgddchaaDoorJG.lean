/-
  OwnC, OwnX, XStore.
-/
import Derived.Test.YtomgnailgddchaaDoorJA
import Derived.Laws.IdiomStrings
import Derived.Laws.IdiomCopy
import Derived.Lib.LazyBuf
import Derived.Deep.MidRow
import Derived.OwnWalk
import Derived.Deep.AppendSrc
namespace Go.Proofs.YtomgnailgddchaaDoor
open Go.RowKit

def OwnC (w : World) (B : Nat) (v : Value) (l : List UInt8) : Prop := ∃ g cap, v = .slice (some ⟨g, 0, none⟩) l.length cap ∧ B ≤ g ∧ g < w.heap.size ∧ l.length ≤ cap ∧ cap ≤ maxLen ∧
  (∀ (j : Nat) x, l[j]? = some x → w.cell? ⟨g, j, none⟩ = some (.int .u8 (x.toNat : Int))) ∧ ∀ j, j < cap → (w.cell? ⟨g, j, none⟩).isSome = true ∧ w.frozen? ⟨g, j, none⟩ = false
theorem OwnC.is {w : World} {B : Nat} {v : Value} {l : List UInt8} (h : OwnC w B v l) : ∃ a c, v = .slice a l.length c ∧ IsBytes w a c l ∧ ∀ b' o, a = some ⟨b', o, none⟩ → B ≤ b' := by
  obtain ⟨g, cap, rfl, hB, hg, h1, h2, h3, _⟩ := h
  exact ⟨_, cap, rfl, ⟨h1, h2, .inr ⟨g, 0, rfl, hg, fun j x hj => by rw [Nat.zero_add]; exact h3 j x hj⟩⟩, fun b' o e => by cases e; exact hB⟩
theorem OwnC.below {w w' : World} {B : Nat} {v : Value} {l : List UInt8} (h : OwnC w B v l) (hb : Below w.heap.size w w') : OwnC w' B v l := by
  obtain ⟨g, cap, rfl, hB, hg, h1, h2, h3, h4⟩ := h
  have hblk := hb.block g hg
  refine ⟨g, cap, rfl, hB, Nat.lt_of_lt_of_le hg hb.size, h1, h2, fun j x hj => (World.cell?_of_block hblk).trans (h3 j x hj), fun j hj => ?_⟩
  obtain ⟨q1, q2⟩ := h4 j hj
  refine ⟨by rw [World.cell?_of_block hblk]; exact q1, ?_⟩
  rw [← q2]
  simp only [World.frozen?, hblk]

theorem bytesRow_get (s : ByteArray) (cap j : Nat) (x : UInt8) (h : s.data.toList[j]? = some x) : (bytesRow s cap)[j]? = some (.int .u8 (x.toNat : Int)) := by
  have hj := (List.getElem?_eq_some_iff.1 h).1
  have hj2 : j < s.data.size := by simpa using hj
  unfold bytesRow
  rw [Array.getElem?_append_left (by simpa using hj2), Array.getElem?_map]
  rw [Array.getElem?_toList] at h
  rw [h]
  rfl
theorem conv_bytes (w : World) (s : ByteArray) (hs : s.size ≤ maxLen) : ∃ a c w2, (convert 9 34 (.string s)).run Tryd.prog w = .ok (.slice a s.size c) w2 ∧ OwnC w2 w.heap.size (.slice a s.size c) s.data.toList ∧ Below w.heap.size w w2 := by
  have hcap := grownCap_ge w s.size 0 5
  have hlen : s.data.toList.length = s.size := by simp
  have hnew := heap_alloc_new w.drew (.cells (bytesRow s (grownCap w s.size 0 5)) 5 ((bytesRow s (grownCap w s.size 0 5)).size, (bytesRow s (grownCap w s.size 0 5)).size + 1))
  have hsz : (bytesRow s (grownCap w s.size 0 5)).size = grownCap w s.size 0 5 := by
    unfold bytesRow; simp; omega
  refine ⟨_, _, _, run_bytes_of_string w 9 34 5 s Tryd.underlying9 Tryd.underlying34 Tryd.underlying5, ⟨w.heap.size, _, by rw [hlen], Nat.le_refl _, (by rw [World.size_alloc]; exact Nat.lt_succ_self _), by rw [hlen]; exact hcap, grownCap_le_maxLen w _ _ _ hs, fun j x hj => ?_, fun j hj => ?_⟩, ((Below.refl _ w).drew.alloc (Nat.le_refl _) _)⟩
  · have hnew' : (w.drew.alloc (.cells (bytesRow s (grownCap w s.size 0 5)) 5 ((bytesRow s (grownCap w s.size 0 5)).size, (bytesRow s (grownCap w s.size 0 5)).size + 1))).heap[w.heap.size]? = _ := hnew
    unfold World.cell?
    rw [hnew']
    exact bytesRow_get s _ j x hj
  · have hnew' : (w.drew.alloc (.cells (bytesRow s (grownCap w s.size 0 5)) 5 ((bytesRow s (grownCap w s.size 0 5)).size, (bytesRow s (grownCap w s.size 0 5)).size + 1))).heap[w.heap.size]? = _ := hnew
    constructor
    · unfold World.cell?
      rw [hnew']
      simp [hsz, hj]
    · unfold World.frozen?
      rw [hnew']
      simp [hsz]
      omega

end Go.Proofs.YtomgnailgddchaaDoor

namespace Go.Proofs.YtomgnailgddchaaDoor
open Go.RowKit

def OwnX (w : World) (B : Nat) (v : Value) (l : List UInt8) : Prop := (v = .slice none 0 0 ∧ l = []) ∨ OwnC w B v l

theorem OwnX.ofOwn {w : World} {B : Nat} {v : Value} {l : List UInt8} (h : Own w B v l) : OwnX w B v l := by
  rcases h.2 with ⟨rfl, h0⟩ | ⟨g, cap, cur, hv, hB, hg, h1, h2, h3, h4⟩
  · exact .inl ⟨rfl, List.eq_nil_of_length_eq_zero h0⟩
  · subst hv
    refine .inr ⟨g, cap, rfl, hB, (Array.getElem?_eq_some_iff.1 hg).1, h1, h2, fun j x hj => ?_, fun j hj => ⟨?_, ?_⟩⟩
    · have := h.cells (g := g) rfl j (.int .u8 (x.toNat : Int)) (by rw [u8s_get, hj]; rfl)
      rw [Go.WideShapes.add_plain, Nat.zero_add] at this
      exact this
    · unfold World.cell?
      rw [hg]
      have : j < cur.size := by omega
      simp [this]
    · simp [World.frozen?, hg]
theorem OwnX.shape {w : World} {B : Nat} {v : Value} {l : List UInt8} (h : OwnX w B v l) : ∃ a c, v = .slice a l.length c ∧ IsBytes w a c l := by
  rcases h with ⟨rfl, rfl⟩ | h
  · exact ⟨none, 0, rfl, by simp, by unfold maxLen; omega, .inl rfl⟩
  · obtain ⟨a, c, h1, h2, _⟩ := h.is
    exact ⟨a, c, h1, h2⟩
theorem OwnX.is {w : World} {B : Nat} {a : Option Addr} {n c : Nat} {l : List UInt8} (h : OwnX w B (.slice a n c) l) : IsBytes w a c l ∧ l.length = n := by
  obtain ⟨a', c', hv, his⟩ := h.shape
  simp only [Value.slice.injEq] at hv
  obtain ⟨rfl, rfl, rfl⟩ := hv
  exact ⟨his, rfl⟩
theorem OwnX.lt {w : World} {B : Nat} {v : Value} {l : List UInt8} (h : OwnX w B v l) (g : Nat) (hg : v.ownBlock = some g) : B ≤ g ∧ g < w.heap.size := by
  rcases h with ⟨rfl, rfl⟩ | ⟨g', cap, rfl, hB, hlt, _⟩
  · simp [Value.ownBlock] at hg
  · simp only [Value.ownBlock, Option.some.injEq] at hg
    subst hg
    exact ⟨hB, hlt⟩
theorem OwnC.same {w w' : World} {B : Nat} {v : Value} {l : List UInt8} (h : OwnC w B v l) (hs : w.heap.size ≤ w'.heap.size) (hb : ∀ g, v.ownBlock = some g → w'.heap[g]? = w.heap[g]?) : OwnC w' B v l := by
  obtain ⟨g, cap, rfl, hB, hg, h1, h2, h3, h4⟩ := h
  have hblk := hb g rfl
  refine ⟨g, cap, rfl, hB, by omega, h1, h2, fun j x hj => (World.cell?_of_block hblk).trans (h3 j x hj), fun j hj => ?_⟩
  obtain ⟨q1, q2⟩ := h4 j hj
  exact ⟨by rw [World.cell?_of_block hblk]; exact q1, (World.frozen?_of_block hblk).trans q2⟩
theorem OwnX.same {w w' : World} {B : Nat} {v : Value} {l : List UInt8} (h : OwnX w B v l) (hs : w.heap.size ≤ w'.heap.size) (hb : ∀ g, v.ownBlock = some g → g < w.heap.size → w'.heap[g]? = w.heap[g]?) : OwnX w' B v l := by
  rcases h with h | h
  · exact .inl h
  · exact .inr (h.same hs (fun g hg => hb g hg (OwnX.lt (.inr h) g hg).2))
theorem OwnX.below {w w' : World} {B : Nat} {v : Value} {l : List UInt8} (h : OwnX w B v l) (hb : Below w.heap.size w w') : OwnX w' B v l := h.same hb.size (fun g _ hlt => hb.block g hlt)
theorem OwnX.mono {w : World} {B B' : Nat} {v : Value} {l : List UInt8} (h : OwnX w B v l) (hB : B' ≤ B) : OwnX w B' v l := by
  rcases h with h | ⟨g, cap, rfl, h1, rest⟩
  · exact .inl h
  · exact .inr ⟨g, cap, rfl, Nat.le_trans hB h1, rest⟩
theorem Kept.OwnX {P : Nat → Prop} {w w1 : World} {B : Nat} {v : Value} {l : List UInt8} (h : Kept P w w1) (ho : OwnX w B v l) (hP : ∀ g, v.ownBlock = some g → ¬ P g) : OwnX w1 B v l := OwnX.same ho h.size (fun g hg hlt => h.block g hlt (hP g hg))
theorem OwnX.shapeSome {w : World} {B : Nat} {v : Value} {l : List UInt8} (h : OwnX w B v l) (hl : 0 < l.length) : ∃ g c, v = .slice (some ⟨g, 0, none⟩) l.length c := by
  rcases h with ⟨rfl, rfl⟩ | ⟨g, cap, rfl, _⟩
  · simp at hl
  · exact ⟨g, cap, rfl⟩
theorem OwnX.cell {w : World} {B g m cap : Nat} {X : List UInt8} (h : OwnX w B (.slice (some ⟨g, 0, none⟩) m cap) X) (j : Nat) (x : UInt8) (hx : X[j]? = some x) : w.cell? ⟨g, j, none⟩ = some (.int .u8 (x.toNat : Int)) := by
  rcases h with ⟨h, _⟩ | ⟨g', cap', hv, _, _, _, _, h3, _⟩
  · cases h
  · simp only [Value.slice.injEq, Option.some.injEq, Addr.mk.injEq] at hv
    obtain ⟨⟨rfl, _⟩, _⟩ := hv
    exact h3 j x hx
theorem OwnX.frozen {w : World} {B g m cap : Nat} {X : List UInt8} (h : OwnX w B (.slice (some ⟨g, 0, none⟩) m cap) X) (j : Nat) (hj : j < X.length) : w.frozen? ⟨g, j, none⟩ = false := by
  rcases h with ⟨h, _⟩ | ⟨g', cap', hv, _, _, h1, _, _, h4⟩
  · cases h
  · simp only [Value.slice.injEq, Option.some.injEq, Addr.mk.injEq] at hv
    obtain ⟨⟨rfl, _⟩, _⟩ := hv
    exact (h4 j (by omega)).2
theorem OwnX.set {w : World} {B g m cap : Nat} {X : List UInt8} (h : OwnX w B (.slice (some ⟨g, 0, none⟩) m cap) X) (j : Nat) (x : UInt8) (hj : j < X.length) :
    OwnX (w.setCell ⟨g, j, none⟩ (.int .u8 (x.toNat : Int))) B (.slice (some ⟨g, 0, none⟩) m cap) (X.set j x) := by
  rcases h with ⟨h, _⟩ | ⟨g', cap', hv, hB, hg, h1, h2, h3, h4⟩
  · cases h
  · simp only [Value.slice.injEq, Option.some.injEq, Addr.mk.injEq] at hv
    obtain ⟨⟨rfl, _⟩, rfl, rfl⟩ := hv
    have hs : ∀ i, i < [Value.int .u8 (x.toNat : Int)].length → (w.cell? ⟨g, j + i, none⟩).isSome = true := fun i hi => by
      simp only [List.length_singleton] at hi
      obtain rfl : i = 0 := by omega
      exact (h4 j (by omega)).1
    show OwnX (w.setCells g j [.int .u8 (x.toNat : Int)]) _ _ _
    refine .inr ⟨g, cap, by simp, hB, by show _ < (w.setCell ⟨g, j, none⟩ (.int .u8 (x.toNat : Int))).heap.size; simpa using hg, by simpa using h1, h2, fun i y hi => ?_, fun i hi => ?_⟩
    · by_cases hij : i = j
      · subst hij
        rw [List.getElem?_set_self hj] at hi
        have := World.cell?_setCells_in g [Value.int .u8 (x.toNat : Int)] i w hs 0 (by simp)
        simp only [Nat.add_zero, List.getElem_cons_zero] at this
        rw [this, Option.some.inj hi]
      · rw [List.getElem?_set_ne (fun e => hij e.symm)] at hi
        rw [World.cell?_setCells_out g _ j w ⟨g, i, none⟩ (fun _ _ => by simp; omega)]
        exact h3 i y hi
    · obtain ⟨q1, q2⟩ := h4 i hi
      exact ⟨World.isSome_setCells g _ j w ⟨g, i, none⟩ q1, by rw [World.frozen?_setCells]; exact q2⟩
theorem nil_of_noneX {w : World} {B : Nat} {v : Value} {l : List UInt8} (h : OwnX w B v l) (hn : v.ownBlock = none) : l = [] := by
  rcases h with ⟨rfl, rfl⟩ | ⟨g, cap, rfl, _⟩
  · rfl
  · simp [Value.ownBlock] at hn

theorem setCells_size (b : Nat) : ∀ (vs : List Value) (o : Nat) (w : World), (w.setCells b o vs).heap.size = w.heap.size
  | [], _, _ => rfl
  | v :: vs, o, w => by
    show ((w.setCell ⟨b, o, none⟩ v).setCells b (o + 1) vs).heap.size = _
    rw [setCells_size b vs]
    simp
theorem grown_setCells (b : Nat) : ∀ (vs : List Value) (o : Nat) (w : World), w.grownBy (w.setCells b o vs) (some b)
  | [], _, w => ⟨rfl, rfl, rfl, Nat.le_refl _, fun _ _ _ => rfl⟩
  | v :: vs, o, w => by
    have ih := grown_setCells b vs (o + 1) (w.setCell ⟨b, o, none⟩ v)
    refine ⟨ih.os, ih.tape, ih.output, by rw [setCells_size]; exact Nat.le_refl _, fun k hk hne => ?_⟩
    refine (ih.block k (by simpa using hk) hne).trans (Below.heap_setCell w ⟨b, o, none⟩ v k (fun e => hne (by rw [show k = b from e])))
/-- 'append' of bytes, or of a text. -/
theorem run_appendC (w : World) (B : Nat) (tx ty : TypeId) (v x : Value) (l m : List UInt8) (h : OwnC w B v l) (hsrc : Src Tryd.prog 1 tx x m.length (u8s m) w) (hb : l.length + m.length ≤ 140737488355328) (hB : B ≤ w.heap.size) :
    ∃ v' w', (Builtin.append_ #[34, tx] ty #[v, x]).run Tryd.prog w = .ok v' w' ∧ OwnC w' B v' (l ++ m) ∧ w.grownBy w' v.ownBlock ∧
      (∀ (b0 : Nat) (u : Value) (ys : List UInt8), OwnX w b0 u ys → (u.ownBlock = v.ownBlock → ys.length ≤ l.length) → OwnX w' b0 u ys) ∧ (v'.ownBlock = v.ownBlock ∨ v'.ownBlock = some w.heap.size) := by
  obtain ⟨i, hi, hz0, hz1, hz2⟩ := info_parts info_u8
  obtain ⟨g, cap, rfl, hBg, hg, h1, h2, h3, h4⟩ := h
  have hll : (l ++ m).length = l.length + m.length := by simp
  have hsrc2 : Src Tryd.prog i.size tx x m.length (u8s m) w := by rw [hz1]; exact hsrc
  by_cases hroom : l.length + m.length ≤ cap
  · have hcs : ∀ j, j < (u8s m).length → (w.cell? ⟨g, 0 + l.length * i.size + j, none⟩).isSome = true := fun j hj => by rw [hz1]; rw [u8s_length] at hj; exact (h4 _ (by omega)).1
    have hfs : ∀ j, j < (u8s m).length → w.frozen? ⟨g, 0 + l.length * i.size + j, none⟩ = false := fun j hj => by rw [hz1]; rw [u8s_length] at hj; exact (h4 _ (by omega)).2
    have hr := run_append_room_src (P := Tryd.prog) w 34 tx ty 5 i Tryd.underlying34 hi g 0 l.length cap x m.length (u8s m) hsrc2 hroom hcs hfs
    refine ⟨_, _, hr, ⟨g, cap, by rw [hll], hBg, by rw [setCells_size]; exact hg, by rw [hll]; exact hroom, h2, fun j x hj => ?_, fun j hj => ?_⟩, grown_setCells g _ _ w, fun b0 u ys hu hle => ?_, .inl rfl⟩
    · rcases Nat.lt_or_ge j l.length with hlt | hge
      · rw [List.getElem?_append_left hlt] at hj
        rw [World.cell?_setCells_out g (u8s m) _ w ⟨g, j, none⟩ (fun _ _ => .inl (by rw [hz1]; show j < _; omega))]
        exact h3 j x hj
      · rw [List.getElem?_append_right hge] at hj
        have hjm := (List.getElem?_eq_some_iff.1 hj).1
        have hin := World.cell?_setCells_in g (u8s m) (0 + l.length * i.size) w hcs (j - l.length) (by rw [u8s_length]; exact hjm)
        rw [show 0 + l.length * i.size + (j - l.length) = j by rw [hz1]; omega] at hin
        rw [hin]
        have hu : (u8s m)[j - l.length]? = some (.int .u8 (x.toNat : Int)) := by rw [u8s_get, hj]; rfl
        rw [List.getElem?_eq_getElem (by rw [u8s_length]; exact hjm)] at hu
        exact hu
    · obtain ⟨q1, q2⟩ := h4 j hj
      exact ⟨World.isSome_setCells g (u8s m) _ w ⟨g, j, none⟩ q1, by rw [World.frozen?_setCells]; exact q2⟩
    · rcases hu with hu | ⟨g', cap', rfl, k1, k2, k3, k4, k5, k6⟩
      · exact .inl hu
      · refine .inr ⟨g', cap', rfl, k1, by rw [setCells_size]; exact k2, k3, k4, fun j x hj => ?_, fun j hj => ?_⟩
        · have hjl := (List.getElem?_eq_some_iff.1 hj).1
          rw [World.cell?_setCells_out g (u8s m) _ w ⟨g', j, none⟩ (fun e _ => .inl (by
            have e : g' = g := e
            have := hle (by simp [Value.ownBlock, e])
            rw [hz1]; show j < _; omega))]
          exact k5 j x hj
        · obtain ⟨q1, q2⟩ := k6 j hj
          exact ⟨World.isSome_setCells g (u8s m) _ w ⟨g', j, none⟩ q1, by rw [World.frozen?_setCells]; exact q2⟩
  · have hge := grownCap_ge w (l.length + m.length) cap 5
    have hold : (Builtin.firstCells i.size l.length (.slice (some ⟨g, 0, none⟩) l.length cap)).run Tryd.prog w.drew = .ok (u8s l).toArray w.drew :=
      run_firstCells_some w.drew i.size l.length ⟨g, 0, none⟩ l.length cap (u8s l) (by rw [hz1, u8s_length]; omega) (fun j u hj => by
        rw [u8s_get] at hj
        obtain ⟨x, hx, rfl⟩ := Option.map_eq_some_iff.1 hj
        rw [Go.WideShapes.add_plain, Nat.zero_add]
        exact h3 j x hx)
    have hr := run_append_grow_src (P := Tryd.prog) w 34 tx ty 5 i (.int .u8 0) Tryd.underlying34 hi hz0 (some ⟨g, 0, none⟩) l.length cap (u8s l) hold x m.length (u8s m) hsrc2 (by omega) (by omega) (growslice_fits (by omega) (by rw [hz2]; omega))
    obtain ⟨C, hC⟩ : ∃ C, C = (u8s l ++ u8s m).toArray ++ Builtin.zeroCells (Value.int .u8 0).cells (grownCap w (l.length + m.length) cap 5 - (l.length + m.length)) := ⟨_, rfl⟩
    rw [← hC] at hr
    have hCs : C.size = grownCap w (l.length + m.length) cap 5 := by
      rw [hC]
      simp only [Array.size_append, List.size_toArray, size_zeroCells, u8s_length, List.length_append]
      have : (Value.int .u8 0).cells.size = 1 := rfl
      rw [this]
      omega
    have hnew : (w.drew.alloc (.cells C 5)).heap[w.heap.size]? = some (.cells C 5 (0, 0)) := heap_alloc_new w.drew _
    have hbel : Below w.heap.size w (w.drew.alloc (.cells C 5)) := (Below.refl _ w).drew.alloc (Nat.le_refl _) _
    refine ⟨_, _, hr, ⟨w.heap.size, _, by rw [hll], hB, (by rw [World.size_alloc]; exact Nat.lt_succ_self _), by rw [hll]; exact hge, grownCap_le_maxLen w _ _ _ (by unfold maxLen; omega), fun j x hj => ?_, fun j hj => ?_⟩, ⟨hbel.os, hbel.tape, hbel.output, hbel.size, fun k hk _ => hbel.block k hk⟩, fun b0 u ys hu _ => hu.below hbel, .inr rfl⟩
    · unfold World.cell?
      rw [hnew]
      show C[j]? = _
      have hjl := (List.getElem?_eq_some_iff.1 hj).1
      rw [hC, Array.getElem?_append_left (by simp [u8s_length]; omega)]
      have : u8s l ++ u8s m = u8s (l ++ m) := by simp [u8s]
      rw [this]
      simp [u8s_get, hj]
    · constructor
      · unfold World.cell?
        rw [hnew]
        simp [hCs, hj]
      · unfold World.frozen?
        rw [hnew]
        simp
theorem IsBytes.srcOf {w : World} {a : Option Addr} {c : Nat} {m : List UInt8} (h : IsBytes w a c m) : Src Tryd.prog 1 34 (.slice a m.length c) m.length (u8s m) w := by
  rcases h.src with ⟨rfl, h0⟩ | ⟨p, rfl, hp⟩
  · obtain rfl := List.eq_nil_of_length_eq_zero h0
    exact Src.ofNil w Tryd.underlying34 c
  · exact Src.ofSlice w Tryd.underlying34 p m.length c (u8s m) (by rw [u8s_length]; omega) hp (u8s_one m)
theorem srcText (w : World) (t : ByteArray) : Src Tryd.prog 1 9 (.string t) t.data.toList.length (u8s t.data.toList) w := by
  have := Src.ofString (P := Tryd.prog) w Tryd.underlying9 t
  rw [show t.data.toList.length = t.size by simp]
  exact this
/-- 'append' of a text onto bytes. -/
theorem wpList_appendTC {w : World} {ops : Array Oper} {rest : List Oper} {o : Oper} {a : Act} {Q : Exit → Act → World → Prop} (hgd : o.guard = none) (s x : Operand)
    (ho : o.op = .call { callee := .builtin .append, args := #[s, x], argTypes := #[34, 9] })
    (B : Nat) (v : Value) (l : List UInt8) (hs : a.eval s = v) (hown : OwnC w B v l) (t : ByteArray) (hx : a.eval x = .string t)
    (hb : l.length + t.data.toList.length ≤ 140737488355328) (hbase : B ≤ w.heap.size)
    (h : ∀ v' w', OwnC w' B v' (l ++ t.data.toList) → w.grownBy w' v.ownBlock → wpList Tryd.prog ops Q rest (a.put o.dst v') w') : wpList Tryd.prog ops Q (o :: rest) a w := by
  refine wpList_plain hgd fun K hK => ?_
  obtain ⟨v', w', hr, h2, h3, h4, h5⟩ := run_appendC w B 9 o.type v (.string t) l t.data.toList hown (srcText w t) hb hbase
  unfold Oper.wp execOp
  simp only [ho, resolve, invoke, builtin, Sem.run_bind, Sem.run_pure, Result.andThen_ok, List.map_toArray, List.map_cons, List.map_nil, hs, hx, hr]
  exact hK _ _ (h v' w' h2 h3)
/-- .. of bytes. -/
theorem wpList_appendBC {w : World} {ops : Array Oper} {rest : List Oper} {o : Oper} {a : Act} {Q : Exit → Act → World → Prop} (hgd : o.guard = none) (s x : Operand)
    (ho : o.op = .call { callee := .builtin .append, args := #[s, x], argTypes := #[34, 34] })
    (B : Nat) (v : Value) (l : List UInt8) (hs : a.eval s = v) (hown : OwnC w B v l) (ad : Option Addr) (c n : Nat) (m : List UInt8) (hn : m.length = n) (hx : a.eval x = .slice ad n c) (hm : IsBytes w ad c m)
    (hb : l.length + m.length ≤ 140737488355328) (hbase : B ≤ w.heap.size)
    (h : ∀ v' w', OwnC w' B v' (l ++ m) → w.grownBy w' v.ownBlock → wpList Tryd.prog ops Q rest (a.put o.dst v') w') : wpList Tryd.prog ops Q (o :: rest) a w := by
  subst hn
  refine wpList_plain hgd fun K hK => ?_
  obtain ⟨v', w', hr, h2, h3, h4, h5⟩ := run_appendC w B 34 o.type v (.slice ad m.length c) l m hown hm.srcOf hb hbase
  unfold Oper.wp execOp
  simp only [ho, resolve, invoke, builtin, Sem.run_bind, Sem.run_pure, Result.andThen_ok, List.map_toArray, List.map_cons, List.map_nil, hs, hx, hr]
  exact hK _ _ (h v' w' h2 h3)
theorem wpList_appendX {w : World} {ops : Array Oper} {rest : List Oper} {o : Oper} {a : Act} {Q : Exit → Act → World → Prop} (hgd : o.guard = none) (s x : Operand)
    (ho : o.op = .call { callee := .builtin .append, args := #[s, x], argTypes := #[34, 34] })
    (B : Nat) (v : Value) (l : List UInt8) (hs : a.eval s = v) (hown : OwnX w B v l) (ad : Option Addr) (c : Nat) (m : List UInt8) (hx : a.eval x = .slice ad m.length c) (hm : IsBytes w ad c m)
    (hb : l.length + m.length ≤ 140737488355328) (hbase : B ≤ w.heap.size)
    (h : ∀ v' w', OwnX w' B v' (l ++ m) → w.grownBy w' v.ownBlock → (∀ (b0 : Nat) (u : Value) (ys : List UInt8), OwnX w b0 u ys → (u.ownBlock = v.ownBlock → ys.length ≤ l.length) → OwnX w' b0 u ys) → (v'.ownBlock = v.ownBlock ∨ v'.ownBlock = some w.heap.size) →
      wpList Tryd.prog ops Q rest (a.put o.dst v') w') : wpList Tryd.prog ops Q (o :: rest) a w := by
  rcases hown with ⟨rfl, rfl⟩ | hown
  · refine wpList_append8 hgd s x ho B (.slice none 0 0) [] hs (Own.nil w B) ad c m hx hm hb hbase ?_
    intro v' w' h1 h2 _ h4 _
    exact h v' w' (OwnX.ofOwn h1) h2 (fun b0 u ys hu _ => hu.same h2.size (fun g _ hlt => h2.block g hlt (by simp [Value.ownBlock]))) h4
  · refine wpList_plain hgd fun K hK => ?_
    obtain ⟨v', w', hr, h2, h3, h4, h5⟩ := run_appendC w B 34 o.type v (.slice ad m.length c) l m hown hm.srcOf hb hbase
    unfold Oper.wp execOp
    simp only [ho, resolve, invoke, builtin, Sem.run_bind, Sem.run_pure, Result.andThen_ok, List.map_toArray, List.map_cons, List.map_nil, hs, hx, hr]
    exact hK _ _ (h v' w' (.inr h2) h3 h4 h5)
end Go.Proofs.YtomgnailgddchaaDoor

namespace Go.Proofs.YtomgnailgddchaaDoor
open Go.RowKit

theorem IsBytes.takeX {w : World} {a : Option Addr} {c : Nat} {l : List UInt8} (h : IsBytes w a c l) (k : Nat) : IsBytes w a c (l.take k) := by
  obtain ⟨h1, h2, h3⟩ := h
  refine ⟨by simp; omega, h2, ?_⟩
  rcases h3 with rfl | ⟨b, o, ha, hb, hc⟩
  · left; simp
  · refine .inr ⟨b, o, ha, hb, fun j x hj => hc j x ?_⟩
    have hjk : j < k := by have := (List.getElem?_eq_some_iff.1 hj).1; simp at this; omega
    rwa [List.getElem?_take_of_lt hjk] at hj
theorem IsBytes.head {w : World} {a : Option Addr} {c : Nat} {l m : List UInt8} (h : IsBytes w a c (l ++ m)) : IsBytes w a c l := by
  have := h.takeX l.length
  rwa [List.take_left] at this

theorem Own.is {w : World} {B g m cap : Nat} {X : List UInt8} (h : Own w B (.slice (some ⟨g, 0, none⟩) m cap) X) : IsBytes w (some ⟨g, 0, none⟩) cap X ∧ X.length = m := by
  obtain ⟨a, c, hv, his⟩ := h.shape
  simp only [Value.slice.injEq] at hv
  obtain ⟨rfl, rfl, rfl⟩ := hv
  exact ⟨his, rfl⟩
theorem Own.block {w : World} {B g m cap : Nat} {X : List UInt8} (h : Own w B (.slice (some ⟨g, 0, none⟩) m cap) X) : B ≤ g ∧ g < w.heap.size := h.lt g rfl
theorem Own.cell {w : World} {B g m cap : Nat} {X : List UInt8} (h : Own w B (.slice (some ⟨g, 0, none⟩) m cap) X) (j : Nat) (x : UInt8) (hx : X[j]? = some x) : w.cell? ⟨g, j, none⟩ = some (.int .u8 (x.toNat : Int)) := by
  rcases h.is.1.2.2 with rfl | ⟨b, o, ha, hb, hc⟩
  · simp at hx
  · simp only [Option.some.injEq, Addr.mk.injEq] at ha
    obtain ⟨rfl, rfl, _⟩ := ha
    have := hc j x hx
    rwa [Nat.zero_add] at this
theorem Own.frozen {w : World} {B g m cap : Nat} {X : List UInt8} (h : Own w B (.slice (some ⟨g, 0, none⟩) m cap) X) (j : Nat) : w.frozen? ⟨g, j, none⟩ = false := by
  rcases h.2 with ⟨h', _⟩ | ⟨g', cap', cur, h', hb, hg, _⟩
  · simp at h'
  · simp only [Value.slice.injEq, Option.some.injEq, Addr.mk.injEq] at h'
    obtain ⟨⟨rfl, _⟩, _⟩ := h'
    simp [World.frozen?, hg]
theorem Own.set {w : World} {B g m cap : Nat} {X : List UInt8} (h : Own w B (.slice (some ⟨g, 0, none⟩) m cap) X) (j : Nat) (x : UInt8) :
    Own (w.setCell ⟨g, j, none⟩ (.int .u8 (x.toNat : Int))) B (.slice (some ⟨g, 0, none⟩) m cap) (X.set j x) ∧ w.grownBy (w.setCell ⟨g, j, none⟩ (.int .u8 (x.toNat : Int))) (some g) := by
  have hm := h.is.2
  unfold Own at h ⊢
  rw [hm] at h
  have := h.stored j (.int .u8 (x.toNat : Int))
  rw [List.length_set, hm, show u8s (X.set j x) = (u8s X).set j (.int .u8 (x.toNat : Int)) by simp [u8s, List.map_set]]
  exact this
theorem Own.keep {w w' : World} {B C : Nat} {v : Value} {X : List UInt8} (h : Own w B v X) (hb : Below C w w') (hC : ∀ g, v.ownBlock = some g → g < C) : Own w' B v X := by
  refine ⟨h.1, ?_⟩
  rcases h.2 with h0 | ⟨g, cap, cur, rfl, hB, hg, rest⟩
  · exact .inl h0
  · exact .inr ⟨g, cap, cur, rfl, hB, (hb.block g (hC g rfl)).trans hg, rest⟩

/-- The first k bytes turned. -/
def turned (l : List UInt8) (k : Nat) : List UInt8 := (l.take k).map (fun b => b ^^^ 33) ++ l.drop k
theorem turned_zero (l : List UInt8) : turned l 0 = l := by simp [turned]
theorem turned_length (l : List UInt8) (k : Nat) : (turned l k).length = l.length := by simp [turned]; omega
theorem turned_all (l : List UInt8) : turned l l.length = l.map fun b => b ^^^ 33 := by simp [turned]
theorem turned_get (l m : List UInt8) (k : Nat) (x : UInt8) (hx : l[k]? = some x) : (turned l k ++ m)[k]? = some x := by
  have hk := (List.getElem?_eq_some_iff.1 hx).1
  rw [List.getElem?_append_left (by rw [turned_length]; exact hk)]
  unfold turned
  rw [List.getElem?_append_right (by simp; omega)]
  simp only [List.length_map, List.length_take, List.getElem?_drop]
  rw [show k + (k - min k l.length) = k by omega]
  exact hx
theorem turned_set (l m : List UInt8) (k : Nat) (x : UInt8) (hx : l[k]? = some x) : (turned l k ++ m).set k (x ^^^ 33) = turned l (k + 1) ++ m := by
  have hk := (List.getElem?_eq_some_iff.1 hx).1
  have hg := (List.getElem?_eq_some_iff.1 hx).2
  rw [List.set_append_left _ _ (by rw [turned_length]; exact hk)]
  congr 1
  unfold turned
  rw [List.set_append_right _ _ (by simp; omega), List.drop_eq_getElem_cons hk, hg, List.take_add_one, hx]
  simp only [List.length_map, List.length_take]
  rw [show k - min k l.length = 0 by omega]
  simp
theorem xor33 (x : UInt8) : bits .xor .u8 (x.toNat : Int) 33 = (((x ^^^ 33 : UInt8).toNat : Nat) : Int) := by
  have hx := x.toNat_lt
  have h : x.toNat ^^^ 33 < 256 := Nat.xor_lt_two_pow (n := 8) hx (by decide)
  have ha' : x.toNat % 2 ^ IntKind.u8.bits = x.toNat := Nat.mod_eq_of_lt hx
  have e : bits .xor .u8 (x.toNat : Int) ((33 : Nat) : Int) = ((x.toNat ^^^ 33 : Nat) : Int) := by
    simp only [bits, BitVec.ofInt_natCast, BitVec.toNat_xor, BitVec.toNat_ofNat, ha', show 33 % 2 ^ IntKind.u8.bits = 33 from rfl]
    rw [IntKind.wrap_u8]
    omega
  rw [show (33 : Int) = ((33 : Nat) : Int) from rfl, e]
  simp
end Go.Proofs.YtomgnailgddchaaDoor
