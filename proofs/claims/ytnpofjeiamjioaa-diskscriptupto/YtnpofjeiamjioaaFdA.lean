/-
  Lists of files that were handed out, with what they must read as, in memory.
-/
import Derived.Test.YtnpofjeiamjioaaRAp
import Derived.Test.YtnpofjeiamjioaaRawF
import Derived.Test.YtnpofjeiamjioaaKeepH
namespace Go.Proofs.Ytnpofjeiamjioaa
open Go.RowKit

/-- A file of a list that was handed out, and of the one that it must read as. -/
structure Fz where
  num : Int
  safe : Nat
  ob : List UInt8
  wb : List UInt8
  od : Value
  wd : Value
/-- A list that was handed out, and what it must read as. -/
structure Ls where
  ov : Value
  wv : Value
  l : List Fz
def Fz.o (z : Fz) : Fl × Value := (⟨z.num, z.ob, z.safe⟩, z.od)
def Fz.w (z : Fz) : Fl × Value := (⟨z.num, z.wb, z.safe⟩, z.wd)
def Apt (u v : Value) : Prop := ∀ g, u.ownBlock = some g → v.ownBlock ≠ some g
theorem Apt.symm {u v : Value} (h : Apt u v) : Apt v u := fun g e e2 => h g e2 e
structure LsAt (w : World) (B : Nat) (x : Ls) : Prop where
  ro : w.ownsRow B 62 3 x.ov x.l.length (flatR (x.l.map Fz.o))
  rw : w.ownsRow B 62 3 x.wv x.l.length (flatR (x.l.map Fz.w))
  oo : ∀ z ∈ x.l, Own w B z.od z.ob
  ow : ∀ z ∈ x.l, Own w B z.wd z.wb
  fit : ∀ z ∈ x.l, -9223372036854775808 ≤ z.num ∧ z.num ≤ 9223372036854775807 ∧ z.safe ≤ 9223372036854775807
/-- The struct and its two lists. -/
structure FRows (w : World) (B hb : Nat) (vo vw : Value) (os ws : List Value) (sz : Int) : Prop where
  box : w.heap[hb]? = some (.cells #[vo, vw, .int .i64 sz] 36 (0, 0))
  lo : B ≤ hb
  ro : w.ownsRow B 48 1 vo os.length os
  rw : w.ownsRow B 48 1 vw ws.length ws
  ap : Apt vo vw
structure FdAt (w : World) (B hb : Nat) (vo vw : Value) (P : List Ls) (sz : Int) : Prop where
  rows : FRows w B hb vo vw (P.map (·.ov)) (P.map (·.wv)) sz
  ls : ∀ x ∈ P, LsAt w B x
/-- Blocks of a list. -/
def LsB (x : Ls) (g : Nat) : Prop := x.ov.ownBlock = some g ∨ x.wv.ownBlock = some g ∨ ∃ z ∈ x.l, z.od.ownBlock = some g ∨ z.wd.ownBlock = some g
def FdB (hb : Nat) (vo vw : Value) (P : List Ls) (g : Nat) : Prop := g = hb ∨ vo.ownBlock = some g ∨ vw.ownBlock = some g ∨ ∃ x ∈ P, LsB x g
section
variable {w w' : World} {B hb : Nat} {K : Nat → Prop} {x : Ls} {vo vw : Value} {os ws : List Value} {sz : Int} {P : List Ls}
theorem LsAt.kept (h : LsAt w B x) (hk : Kept K w w') (hK : ∀ g, LsB x g → ¬ K g) : LsAt w' B x :=
  ⟨row_keptR h.ro hk (fun g e => hK g (.inl e)), row_keptR h.rw hk (fun g e => hK g (.inr (.inl e))), fun z hz => Kept.own hk (h.oo z hz) (fun g e => hK g (.inr (.inr ⟨z, hz, .inl e⟩))), fun z hz => Kept.own hk (h.ow z hz) (fun g e => hK g (.inr (.inr ⟨z, hz, .inr e⟩))), h.fit⟩
theorem LsAt.later (h : LsAt w B x) (hb : Below w.heap.size w w') : LsAt w' B x := h.kept (K := fun _ => False) (Kept.ofBelow hb) (fun _ _ h => h)
theorem LsAt.type (h : LsAt w B x) {g : Nat} (hg : LsB x g) : ∃ c t, w.heap[g]? = some (.cells c t (0, 0)) ∧ (t = 62 ∨ t = 5) ∧ B ≤ g := by
  rcases hg with e | e | ⟨z, hz, e | e⟩
  · obtain ⟨c, hc⟩ := row_typeR h.ro e
    exact ⟨c, _, hc, .inl rfl, (h.ro.lt g e).1⟩
  · obtain ⟨c, hc⟩ := row_typeR h.rw e
    exact ⟨c, _, hc, .inl rfl, (h.rw.lt g e).1⟩
  · obtain ⟨c, hc⟩ := row_typeR (h.oo z hz) e
    exact ⟨c, _, hc, .inr rfl, ((h.oo z hz).lt g e).1⟩
  · obtain ⟨c, hc⟩ := row_typeR (h.ow z hz) e
    exact ⟨c, _, hc, .inr rfl, ((h.ow z hz).lt g e).1⟩
theorem LsAt.keptT (h : LsAt w B x) (hk : Kept K w w') (hK : ∀ g c t, K g → w.heap[g]? = some (.cells c t (0, 0)) → t ≠ 62 ∧ t ≠ 5) : LsAt w' B x :=
  h.kept hk (fun g hg k => by
    obtain ⟨c, t, hc, ht, _⟩ := h.type hg
    have := hK g c t k hc
    rcases ht with e | e
    · exact this.1 e
    · exact this.2 e)
theorem FRows.lt (h : FRows w B hb vo vw os ws sz) : hb < w.heap.size := (Array.getElem?_eq_some_iff.1 h.box).1
theorem FRows.kept (h : FRows w B hb vo vw os ws sz) (hk : Kept K w w') (h0 : ¬ K hb) (h1 : ∀ g, vo.ownBlock = some g → ¬ K g) (h2 : ∀ g, vw.ownBlock = some g → ¬ K g) : FRows w' B hb vo vw os ws sz :=
  ⟨(hk.block hb h.lt h0).trans h.box, h.lo, Kept.own hk h.ro h1, Kept.own hk h.rw h2, h.ap⟩
theorem FRows.later (h : FRows w B hb vo vw os ws sz) (hl : Below w.heap.size w w') : FRows w' B hb vo vw os ws sz := h.kept (K := fun _ => False) (Kept.ofBelow hl) (fun h => h) (fun _ _ h => h) (fun _ _ h => h)
theorem FdAt.kept (h : FdAt w B hb vo vw P sz) (hk : Kept K w w') (hK : ∀ g, FdB hb vo vw P g → ¬ K g) : FdAt w' B hb vo vw P sz :=
  ⟨h.rows.kept hk (hK _ (.inl rfl)) (fun g e => hK g (.inr (.inl e))) (fun g e => hK g (.inr (.inr (.inl e)))), fun x hx => (h.ls x hx).kept hk (fun g hg => hK g (.inr (.inr (.inr ⟨x, hx, hg⟩))))⟩
theorem FdAt.later (h : FdAt w B hb vo vw P sz) (hl : Below w.heap.size w w') : FdAt w' B hb vo vw P sz := ⟨h.rows.later hl, fun x hx => (h.ls x hx).later hl⟩
theorem FRows.cells (h : FRows w B hb vo vw os ws sz) : w.cell? ⟨hb, 0, none⟩ = some vo ∧ w.cell? ⟨hb, 1, none⟩ = some vw ∧ w.cell? ⟨hb, 2, none⟩ = some (.int .i64 sz) ∧ ∀ i, w.frozen? ⟨hb, i, none⟩ = false := by
  simp [World.cell?, World.frozen?, h.box]
theorem FRows.forms (h : FRows w B hb vo vw os ws sz) : ∃ a c b d, vo = .slice a os.length c ∧ vw = .slice b ws.length d := by
  obtain ⟨a, c, e⟩ := row_formR h.ro
  obtain ⟨b, d, f⟩ := row_formR h.rw
  exact ⟨a, c, b, d, e, f⟩
theorem FRows.tyO (h : FRows w B hb vo vw os ws sz) {g : Nat} (e : vo.ownBlock = some g) : ∃ c, w.heap[g]? = some (.cells c 48 (0, 0)) := row_typeR h.ro e
theorem FRows.tyW (h : FRows w B hb vo vw os ws sz) {g : Nat} (e : vw.ownBlock = some g) : ∃ c, w.heap[g]? = some (.cells c 48 (0, 0)) := row_typeR h.rw e
theorem clashF {w : World} {g : Nat} {c1 c2 : Array Value} {t1 t2 : TypeId} (h1 : w.heap[g]? = some (.cells c1 t1 (0, 0))) (h2 : w.heap[g]? = some (.cells c2 t2 (0, 0))) (ht : t1 ≠ t2) : False := by
  rw [h1] at h2
  simp only [Option.some.injEq, Obj.cells.injEq] at h2
  exact ht h2.2.1
/-- 'h.out = append(h.out, v)': what the append's law gives, then the store. -/
theorem FRows.pushOut {w1 : World} {v vo' : Value} (h : FRows w B hb vo vw os ws sz) (ho : w1.ownsRow B 48 1 vo' (os.length + 1) (os ++ [v])) (hg : w.grownBy w1 vo.ownBlock) (hv : vo'.ownBlock = vo.ownBlock ∨ vo'.ownBlock = some w.heap.size) :
    FRows (w1.setCell ⟨hb, 0, none⟩ vo') B hb vo' vw (os ++ [v]) ws sz ∧ Kept (fun g => g = hb ∨ vo.ownBlock = some g) w (w1.setCell ⟨hb, 0, none⟩ vo') ∧ w1.cell? ⟨hb, 0, none⟩ = some vo ∧ w1.frozen? ⟨hb, 0, none⟩ = false := by
  have hH : w1.heap[hb]? = some (.cells #[vo, vw, .int .i64 sz] 36 (0, 0)) := (hg.block hb h.lt (fun e => by
    obtain ⟨c, hc⟩ := h.tyO e.symm
    exact clashF hc h.box (by decide))).trans h.box
  have ks : Kept (fun k => k = hb) w1 (w1.setCell ⟨hb, 0, none⟩ vo') := Kept.setCell _ w1 hb 0 vo' rfl
  have kg : Kept (fun g => vo.ownBlock = some g) w w1 := Kept.ofGrown hg (fun g e => e)
  refine ⟨⟨?_, h.lo, ?_, ?_, fun g e e2 => ?_⟩, (kg.mono (fun g _ e => .inr e)).trans (ks.mono (fun g _ e => .inl e)), by simp [World.cell?, hH], by simp [World.frozen?, hH]⟩
  · exact (set_cells hH 0 vo').1
  · rw [List.length_append]
    exact Kept.own ks ho (fun g e e2 => by
      obtain ⟨c, hc⟩ := row_typeR ho e
      rw [e2] at hc
      exact clashF hc hH (by decide))
  · have := Kept.own kg h.rw (fun g e e2 => h.ap g e2 e)
    exact Kept.own ks this (fun g e e2 => by
      obtain ⟨c, hc⟩ := row_typeR this e
      rw [e2] at hc
      exact clashF hc hH (by decide))
  · have hl := (h.rw.lt g e2).2
    rcases hv with hv | hv
    · exact h.ap g (hv ▸ e) e2
    · rw [hv] at e
      simp only [Option.some.injEq] at e
      omega
theorem FRows.pushWant {w1 : World} {v vw' : Value} (h : FRows w B hb vo vw os ws sz) (ho : w1.ownsRow B 48 1 vw' (ws.length + 1) (ws ++ [v])) (hg : w.grownBy w1 vw.ownBlock) (hv : vw'.ownBlock = vw.ownBlock ∨ vw'.ownBlock = some w.heap.size) :
    FRows (w1.setCell ⟨hb, 1, none⟩ vw') B hb vo vw' os (ws ++ [v]) sz ∧ Kept (fun g => g = hb ∨ vw.ownBlock = some g) w (w1.setCell ⟨hb, 1, none⟩ vw') ∧ w1.cell? ⟨hb, 1, none⟩ = some vw ∧ w1.frozen? ⟨hb, 1, none⟩ = false := by
  have hH : w1.heap[hb]? = some (.cells #[vo, vw, .int .i64 sz] 36 (0, 0)) := (hg.block hb h.lt (fun e => by
    obtain ⟨c, hc⟩ := h.tyW e.symm
    exact clashF hc h.box (by decide))).trans h.box
  have ks : Kept (fun k => k = hb) w1 (w1.setCell ⟨hb, 1, none⟩ vw') := Kept.setCell _ w1 hb 1 vw' rfl
  have kg : Kept (fun g => vw.ownBlock = some g) w w1 := Kept.ofGrown hg (fun g e => e)
  refine ⟨⟨?_, h.lo, ?_, ?_, fun g e e2 => ?_⟩, (kg.mono (fun g _ e => .inr e)).trans (ks.mono (fun g _ e => .inl e)), by simp [World.cell?, hH], by simp [World.frozen?, hH]⟩
  · exact (set_cells hH 1 vw').1
  · have := Kept.own kg h.ro (fun g e e2 => h.ap g e e2)
    exact Kept.own ks this (fun g e e2 => by
      obtain ⟨c, hc⟩ := row_typeR this e
      rw [e2] at hc
      exact clashF hc hH (by decide))
  · rw [List.length_append]
    exact Kept.own ks ho (fun g e e2 => by
      obtain ⟨c, hc⟩ := row_typeR ho e
      rw [e2] at hc
      exact clashF hc hH (by decide))
  · have hl := (h.ro.lt g e).2
    rcases hv with hv | hv
    · exact h.ap g e (hv ▸ e2)
    · rw [hv] at e2
      simp only [Option.some.injEq] at e2
      omega
theorem FRows.size {n : Int} (h : FRows w B hb vo vw os ws sz) : FRows (w.setCell ⟨hb, 2, none⟩ (.int .i64 n)) B hb vo vw os ws n ∧ Kept (fun g => g = hb) w (w.setCell ⟨hb, 2, none⟩ (.int .i64 n)) := by
  have ks : Kept (fun k => k = hb) w (w.setCell ⟨hb, 2, none⟩ (.int .i64 n)) := Kept.setCell _ w hb 2 _ rfl
  refine ⟨⟨(set_cells h.box 2 _).1, h.lo, Kept.own ks h.ro (fun g e e2 => ?_), Kept.own ks h.rw (fun g e e2 => ?_), h.ap⟩, ks⟩
  · obtain ⟨c, hc⟩ := h.tyO e
    rw [e2] at hc
    exact clashF hc h.box (by decide)
  · obtain ⟨c, hc⟩ := h.tyW e
    rw [e2] at hc
    exact clashF hc h.box (by decide)
theorem LsAt.box (h : LsAt w B x) (hr : FRows w B hb vo vw os ws sz) (hk : Kept (fun g => g = hb ∨ vo.ownBlock = some g ∨ vw.ownBlock = some g) w w') : LsAt w' B x :=
  h.keptT hk (fun g c t k hc => by
    rcases k with rfl | e | e
    · rw [hr.box] at hc
      simp only [Option.some.injEq, Obj.cells.injEq] at hc
      rw [← hc.2.1]
      decide
    · obtain ⟨c2, hc2⟩ := hr.tyO e
      rw [hc2] at hc
      simp only [Option.some.injEq, Obj.cells.injEq] at hc
      rw [← hc.2.1]
      decide
    · obtain ⟨c2, hc2⟩ := hr.tyW e
      rw [hc2] at hc
      simp only [Option.some.injEq, Obj.cells.injEq] at hc
      rw [← hc.2.1]
      decide)
end
/-- A row of files, as it is read. -/
theorem rows_raw {w : World} {B C : Nat} {v : Value} {G : List (Fl × Value)} (h : w.ownsRow B 62 3 v G.length (flatR G)) (ho : ∀ p ∈ G, Own w C p.2 p.1.data) (hf : ∀ p ∈ G, rawFits (raw p.1)) : ∃ a c, v = .slice a G.length c ∧ IsRaw w a c (G.map fun p => raw p.1) := by
  rcases h.2 with ⟨rfl, h0⟩ | ⟨g, cap, cur, rfl, _, hg, hnc, hcm, _⟩
  · have : G = [] := List.eq_nil_of_length_eq_zero h0
    subst this
    exact ⟨none, 0, rfl, by simp, by simp [maxLen], by simp, .inl rfl⟩
  · refine ⟨_, cap, rfl, by simpa using hnc, hcm, fun x hx => ?_, .inr ⟨g, 0, rfl, (Array.getElem?_eq_some_iff.1 hg).1, fun j x hj => ?_⟩⟩
    · obtain ⟨p, hp, rfl⟩ := List.mem_map.1 hx
      exact hf p hp
    · rw [List.getElem?_map] at hj
      obtain ⟨p, hp, rfl⟩ := Option.map_eq_some_iff.1 hj
      have hc : ∀ k u, k < 3 → (cellR p)[k]? = some u → w.cell? ⟨g, 0 + j * 3 + k, none⟩ = some u := fun k u hk hu => by
        have := cell_at (h.cells (g := g) rfl (j * 3 + k) u (flatR_at G j p hp k hk u hu))
        rw [show 0 + j * 3 + k = j * 3 + k by omega]
        exact this
      obtain ⟨a, c, e, hi⟩ := (ho p (List.mem_of_getElem? hp)).shape
      refine ⟨hc 0 _ (by omega) rfl, ⟨a, c, ?_, hi⟩, hc 2 _ (by omega) rfl⟩
      have := hc 1 p.2 (by omega) rfl
      rw [e] at this
      exact this
theorem LsAt.rawO {w : World} {B : Nat} {x : Ls} (h : LsAt w B x) : ∃ a c, x.ov = .slice a x.l.length c ∧ IsRaw w a c (x.l.map fun z => raw z.o.1) := by
  have := rows_raw (v := x.ov) (G := x.l.map Fz.o) (C := B) (by rw [List.length_map]; exact h.ro) (fun p hp => by obtain ⟨z, hz, rfl⟩ := List.mem_map.1 hp; exact h.oo z hz) (fun p hp => by
    obtain ⟨z, hz, rfl⟩ := List.mem_map.1 hp
    have := h.fit z hz
    exact ⟨WalkArith.wf_i64 ⟨this.1, this.2.1⟩, WalkArith.wf_i64 (show -9223372036854775808 ≤ (z.safe : Int) ∧ (z.safe : Int) ≤ 9223372036854775807 by omega)⟩)
  rw [List.length_map, List.map_map] at this
  exact this
theorem LsAt.rawW {w : World} {B : Nat} {x : Ls} (h : LsAt w B x) : ∃ a c, x.wv = .slice a x.l.length c ∧ IsRaw w a c (x.l.map fun z => raw z.w.1) := by
  have := rows_raw (v := x.wv) (G := x.l.map Fz.w) (C := B) (by rw [List.length_map]; exact h.rw) (fun p hp => by obtain ⟨z, hz, rfl⟩ := List.mem_map.1 hp; exact h.ow z hz) (fun p hp => by
    obtain ⟨z, hz, rfl⟩ := List.mem_map.1 hp
    have := h.fit z hz
    exact ⟨WalkArith.wf_i64 ⟨this.1, this.2.1⟩, WalkArith.wf_i64 (show -9223372036854775808 ≤ (z.safe : Int) ∧ (z.safe : Int) ≤ 9223372036854775807 by omega)⟩)
  rw [List.length_map, List.map_map] at this
  exact this
end Go.Proofs.Ytnpofjeiamjioaa
