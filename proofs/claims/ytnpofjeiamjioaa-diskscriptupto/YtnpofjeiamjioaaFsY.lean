/-
  FsC, FsD, FsE, FsG.
-/
import Derived.Test.YtnpofjeiamjioaaFsX
namespace Go.Proofs.Ytnpofjeiamjioaa
open Go.RowKit

section
variable {w w' : World} {B hb : Nat} {vo vw : Value} {P : List Ls} {sz : Int} {i k : Nat} {x : Ls} {z : Fz}
theorem FdAt.read (h : FdAt w B hb vo vw P sz) (hx : P[i]? = some x) : ∃ gv ca gu cb, vo = .slice (some ⟨gv, 0, none⟩) P.length ca ∧ vw = .slice (some ⟨gu, 0, none⟩) P.length cb ∧ w.cell? ⟨gv, i, none⟩ = some x.ov ∧ w.cell? ⟨gu, i, none⟩ = some x.wv ∧ gv ≠ hb ∧ gu ≠ hb := by
  have hl : 0 < P.length := by have := (List.getElem?_eq_some_iff.1 hx).1; omega
  have r1 := h.rows.ro
  have r2 := h.rows.rw
  rw [List.length_map] at r1 r2
  obtain ⟨a, c, e, _, _, hc⟩ := row_shape r1
  obtain ⟨b, d, f, _, _, hd⟩ := row_shape r2
  obtain ⟨gv, rfl, e1, hc⟩ := hc hl
  obtain ⟨gu, rfl, e2, hd⟩ := hd hl
  refine ⟨gv, c, gu, d, e, f, hc i _ (by rw [List.getElem?_map, hx]; rfl), hd i _ (by rw [List.getElem?_map, hx]; rfl), fun e3 => ?_, fun e3 => ?_⟩
  · obtain ⟨c2, hc2⟩ := h.rows.tyO e1
    rw [e3] at hc2
    exact clashF hc2 h.rows.box (by decide)
  · obtain ⟨c2, hc2⟩ := h.rows.tyW e2
    rw [e3] at hc2
    exact clashF hc2 h.rows.box (by decide)
theorem LsAt.read (h : LsAt w B x) (hz : x.l[k]? = some z) : ∃ go co gw cw, x.ov = .slice (some ⟨go, 0, none⟩) x.l.length co ∧ x.wv = .slice (some ⟨gw, 0, none⟩) x.l.length cw ∧ w.cell? ⟨go, k * 3, none⟩ = some (.int .i64 z.num) ∧ w.cell? ⟨go, k * 3 + 1, none⟩ = some z.od ∧ (∀ j, w.frozen? ⟨go, j, none⟩ = false) ∧ w.cell? ⟨gw, k * 3, none⟩ = some (.int .i64 z.num) ∧ w.cell? ⟨gw, k * 3 + 1, none⟩ = some z.wd ∧ ∀ j, w.frozen? ⟨gw, j, none⟩ = false := by
  have hl : 0 < x.l.length := by have := (List.getElem?_eq_some_iff.1 hz).1; omega
  rcases h.ro.2 with ⟨_, h0⟩ | ⟨go, co, cur, e1, _, hg1, _⟩
  · omega
  rcases h.rw.2 with ⟨_, h0⟩ | ⟨gw, cw, cur2, e2, _, hg2, _⟩
  · omega
  have ro := h.ro
  have rw' := h.rw
  rw [e1] at ro
  rw [e2] at rw'
  refine ⟨go, co, gw, cw, e1, e2, ?_, ?_, fun j => by simp [World.frozen?, hg1], ?_, ?_, fun j => by simp [World.frozen?, hg2]⟩
  · exact cell_at (ro.cells (g := go) rfl (k * 3 + 0) _ (flatR_at (x.l.map Fz.o) k z.o (by rw [List.getElem?_map, hz]; rfl) 0 (by omega) _ rfl))
  · exact cell_at (ro.cells (g := go) rfl (k * 3 + 1) _ (flatR_at (x.l.map Fz.o) k z.o (by rw [List.getElem?_map, hz]; rfl) 1 (by omega) _ rfl))
  · exact cell_at (rw'.cells (g := gw) rfl (k * 3 + 0) _ (flatR_at (x.l.map Fz.w) k z.w (by rw [List.getElem?_map, hz]; rfl) 0 (by omega) _ rfl))
  · exact cell_at (rw'.cells (g := gw) rfl (k * 3 + 1) _ (flatR_at (x.l.map Fz.w) k z.w (by rw [List.getElem?_map, hz]; rfl) 1 (by omega) _ rfl))
theorem flatR_eq {L M : List (Fl × Value)} (h : L.map cellR = M.map cellR) : flatR L = flatR M := by
  unfold flatR
  rw [List.flatMap_def, List.flatMap_def, h]
/-- The bytes that were handed out are others. -/
def rebX (f : Nat → List UInt8) (x : Ls) : Ls := ⟨x.ov, x.wv, x.l.mapIdx fun k z => ⟨z.num, z.safe, f k, z.wb, z.od, z.wd⟩⟩
def reb (f : Nat → Nat → List UInt8) (P : List Ls) : List Ls := P.mapIdx fun i x => rebX (f i) x
theorem reb_get {f : Nat → Nat → List UInt8} {y : Ls} (h : (reb f P)[i]? = some y) : ∃ x, P[i]? = some x ∧ y = rebX (f i) x := by
  unfold reb at h
  rw [List.getElem?_mapIdx] at h
  obtain ⟨x, hx, e⟩ := Option.map_eq_some_iff.1 h
  exact ⟨x, hx, e.symm⟩
theorem rebX_get {f : Nat → List UInt8} {y : Fz} (h : (rebX f x).l[k]? = some y) : ∃ z, x.l[k]? = some z ∧ y = ⟨z.num, z.safe, f k, z.wb, z.od, z.wd⟩ := by
  unfold rebX at h
  simp only [List.getElem?_mapIdx] at h
  obtain ⟨z, hz, e⟩ := Option.map_eq_some_iff.1 h
  exact ⟨z, hz, e.symm⟩
theorem rebX_cells (f : Nat → List UInt8) (x : Ls) : flatR ((rebX f x).l.map Fz.o) = flatR (x.l.map Fz.o) ∧ (rebX f x).l.map Fz.w = x.l.map Fz.w ∧ (rebX f x).l.length = x.l.length := by
  refine ⟨flatR_eq ?_, ?_, by simp [rebX]⟩
  · apply List.ext_getElem?
    intro k
    simp only [rebX, List.getElem?_map, List.getElem?_mapIdx]
    cases x.l[k]? <;> rfl
  · apply List.ext_getElem?
    intro k
    simp only [rebX, List.getElem?_map, List.getElem?_mapIdx]
    cases x.l[k]? <;> rfl
theorem reb_maps (f : Nat → Nat → List UInt8) (P : List Ls) : (reb f P).map (·.ov) = P.map (·.ov) ∧ (reb f P).map (·.wv) = P.map (·.wv) ∧ (reb f P).length = P.length := by
  refine ⟨?_, ?_, by simp [reb]⟩
  · apply List.ext_getElem?
    intro k
    simp only [reb, List.getElem?_map, List.getElem?_mapIdx]
    cases P[k]? <;> rfl
  · apply List.ext_getElem?
    intro k
    simp only [reb, List.getElem?_map, List.getElem?_mapIdx]
    cases P[k]? <;> rfl
theorem FdAt.reb {K : Nat → Prop} {f : Nat → Nat → List UInt8} (h : FdAt w B hb vo vw P sz) (hk : Kept K w w') (hK : ∀ g, FdR hb vo vw P g → ¬ K g) (hf : ∀ (i : Nat) x (k : Nat) z, P[i]? = some x → x.l[k]? = some z → Own w' B z.od (f i k)) : FdAt w' B hb vo vw (reb f P) sz := by
  obtain ⟨m1, m2, _⟩ := reb_maps f P
  refine ⟨?_, fun y hy => ?_⟩
  · rw [m1, m2]
    exact h.rows.kept hk (hK _ (.inl rfl)) (fun g e => hK g (.inr (.inl e))) (fun g e => hK g (.inr (.inr (.inl e))))
  · obtain ⟨i, hi⟩ := List.getElem?_of_mem hy
    obtain ⟨x, hx, rfl⟩ := reb_get hi
    have lx := h.ls x (List.mem_of_getElem? hx)
    obtain ⟨c1, c2, c3⟩ := rebX_cells (f i) x
    refine ⟨?_, ?_, fun a ha => ?_, fun a ha => ?_, fun a ha => ?_⟩
    · rw [c1, c3]
      exact row_keptR lx.ro hk (fun g e => hK g (.inr (.inr (.inr ⟨x, List.mem_of_getElem? hx, .inl e⟩))))
    · rw [c2, c3]
      exact row_keptR lx.rw hk (fun g e => hK g (.inr (.inr (.inr ⟨x, List.mem_of_getElem? hx, .inr (.inl e)⟩))))
    · obtain ⟨k, hk2⟩ := List.getElem?_of_mem ha
      obtain ⟨z, hz, rfl⟩ := rebX_get hk2
      exact hf i x k z hx hz
    · obtain ⟨k, hk2⟩ := List.getElem?_of_mem ha
      obtain ⟨z, hz, rfl⟩ := rebX_get hk2
      exact Kept.own hk (lx.ow z (List.mem_of_getElem? hz)) (fun g e => hK g (.inr (.inr (.inr ⟨x, List.mem_of_getElem? hx, .inr (.inr ⟨z, List.mem_of_getElem? hz, e⟩)⟩))))
    · obtain ⟨k, hk2⟩ := List.getElem?_of_mem ha
      obtain ⟨z, hz, rfl⟩ := rebX_get hk2
      exact lx.fit z (List.mem_of_getElem? hz)
/-- Rows are a matter of two lists of values. -/
theorem Rap.congr {P Q : List Ls} (h : Rap P) (e1 : Q.map (·.ov) = P.map (·.ov)) (e2 : Q.map (·.wv) = P.map (·.wv)) : Rap Q := by
  have up : ∀ {i : Nat} {x : Ls}, Q[i]? = some x → ∃ y, P[i]? = some y ∧ x.ov = y.ov ∧ x.wv = y.wv := fun {i x} hx => by
    have a1 := congrArg (·[i]?) e1
    have a2 := congrArg (·[i]?) e2
    simp only [List.getElem?_map, hx, Option.map_some] at a1 a2
    obtain ⟨y, hy, ey⟩ := Option.map_eq_some_iff.1 a1.symm
    rw [hy] at a2
    simp only [Option.map_some, Option.some.injEq] at a2
    exact ⟨y, hy, ey.symm, a2⟩
  intro i j x y hx hy
  obtain ⟨x', hx', ex1, ex2⟩ := up hx
  obtain ⟨y', hy', ey1, ey2⟩ := up hy
  rw [ex1, ex2, ey1, ey2]
  exact h i j x' y' hx' hy'
/-- What a file must read as is put anew. -/
def Ls.putw (x : Ls) (k : Nat) (z : Fz) (v : Value) : Ls := ⟨x.ov, x.wv, x.l.set k ⟨z.num, z.safe, z.ob, z.ob, z.od, v⟩⟩
theorem FdAt.putw {gw cw : Nat} {v : Value} (h : FdAt w B hb vo vw P sz) (ha : Rap P) (hx : P[i]? = some x) (hz : x.l[k]? = some z) (hw : x.wv = .slice (some ⟨gw, 0, none⟩) x.l.length cw) (hv : Own w B v z.ob) :
    FdAt (w.setCell ⟨gw, k * 3 + 1, none⟩ v) B hb vo vw (P.set i (x.putw k z v)) sz ∧ Kept (fun g => g = gw) w (w.setCell ⟨gw, k * 3 + 1, none⟩ v) := by
  have lx := h.ls x (List.mem_of_getElem? hx)
  have k1 : Kept (fun j => j = gw) w (w.setCell ⟨gw, k * 3 + 1, none⟩ v) := Kept.setCell _ _ _ _ _ rfl
  have r2 := lx.rw
  rw [hw] at r2
  have s2 := (r2.stored (k * 3 + 1) v).1
  rw [flatR_set (x.l.map Fz.w) k 1 z.w ((⟨z.num, z.ob, z.safe⟩ : Fl), v) (by rw [List.getElem?_map, hz]; rfl) v (by omega) rfl] at s2
  have d8 : ∀ {u : Value} {d : List UInt8}, Own w B u d → Own (w.setCell ⟨gw, k * 3 + 1, none⟩ v) B u d := fun {u d} hu => Kept.own k1 hu (fun g e e2 => (hu.rowF r2) g e (by rw [e2]; rfl))
  refine ⟨h.turn ha hx k1 (fun g e => .inr (by rw [hw, e]; rfl)) rfl rfl ⟨?_, ?_, fun y hy => ?_, fun y hy => ?_, fun y hy => ?_⟩, k1⟩
  · show World.ownsRow _ _ _ _ x.ov (x.l.set k _).length (flatR ((x.l.set k _).map Fz.o))
    rw [List.length_set, List.map_set, set_eq (by rw [List.getElem?_map, hz]; rfl)]
    exact row_keptR lx.ro k1 (fun g e e2 => (ha i i x x hx hx).2 g e (by rw [hw, e2]; rfl))
  · show World.ownsRow _ _ _ _ x.wv (x.l.set k _).length (flatR ((x.l.set k _).map Fz.w))
    rw [List.length_set, List.map_set, hw]
    exact s2
  · obtain ⟨m, hm⟩ := List.getElem?_of_mem hy
    rcases set_keyR hm with ⟨_, rfl⟩ | ⟨_, hm⟩
    · exact d8 (lx.oo z (List.mem_of_getElem? hz))
    · exact d8 (lx.oo y (List.mem_of_getElem? hm))
  · obtain ⟨m, hm⟩ := List.getElem?_of_mem hy
    rcases set_keyR hm with ⟨_, rfl⟩ | ⟨_, hm⟩
    · exact d8 hv
    · exact d8 (lx.ow y (List.mem_of_getElem? hm))
  · obtain ⟨m, hm⟩ := List.getElem?_of_mem hy
    rcases set_keyR hm with ⟨_, rfl⟩ | ⟨_, hm⟩
    · exact lx.fit z (List.mem_of_getElem? hz)
    · exact lx.fit y (List.mem_of_getElem? hm)
end
end Go.Proofs.Ytnpofjeiamjioaa

namespace Go.Proofs.Ytnpofjeiamjioaa
open Go.RowKit

theorem off_le (S : List Xk) (i : Nat) : off S i ≤ (odb S).length := by
  have h : (odb S).length = off S i + ((S.drop i).map fun x => x.l.length).sum := by
    rw [← off_all]
    unfold off
    rw [List.take_length, ← List.sum_append, ← List.map_append, List.take_append_drop]
  omega
theorem row_none {w : World} {B e sz n : Nat} {v : Value} {xs : List Value} (h : w.ownsRow B e sz v n xs) (hn : v.ownBlock = none) : n = 0 := by
  rcases h.2 with ⟨_, h0⟩ | ⟨g, cap, cur, rfl, _⟩
  · exact h0
  · simp [Value.ownBlock] at hn
/-- A list that grows, and its like, beside the book. -/
structure GrI (B hb : Nat) (vo vw : Value) (P : List Ls) (sz : Int) (s0 : Nat) (x : Ls) (v u : Value) (G M : List (Fl × Value)) (wr : World) : Prop where
  fd : FdAt wr B hb vo vw P sz
  rv : wr.ownsRow B 62 3 v G.length (flatR G)
  ru : wr.ownsRow B 62 3 u M.length (flatR M)
  dv : ∀ p ∈ G, Own wr B p.2 p.1.data
  du : ∀ p ∈ M, Own wr B p.2 p.1.data
  ge : x.l.length ≤ G.length
  lv : ∀ g, v.ownBlock = some g → x.ov.ownBlock = some g ∨ (s0 ≤ g ∧ ∀ y ∈ P, y.ov.ownBlock ≠ some g ∧ y.wv.ownBlock ≠ some g)
  lu : ∀ g, u.ownBlock = some g → (s0 ≤ g ∧ ∀ y ∈ P, y.ov.ownBlock ≠ some g ∧ y.wv.ownBlock ≠ some g) ∧ v.ownBlock ≠ some g
def Gap (P : List Ls) (i : Nat) (x : Ls) : Prop := ∀ (j : Nat) y, P[j]? = some y → (j ≠ i → Apt x.ov y.ov) ∧ Apt x.ov y.wv
section
variable {w w' wr : World} {B hb s0 i : Nat} {vo vw v u v' : Value} {P : List Ls} {sz : Int} {x : Ls} {G M : List (Fl × Value)} {p : Fl × Value}
theorem FdAt.grown (h : FdAt w B hb vo vw P sz) (hk : Kept (fun g => v.ownBlock = some g) w w') (hT : ∀ g, v.ownBlock = some g → ∃ c, w.heap[g]? = some (.cells c 62 (0, 0)))
    (hr : ∀ y ∈ P, w'.ownsRow B 62 3 y.ov y.l.length (flatR (y.l.map Fz.o)) ∧ w'.ownsRow B 62 3 y.wv y.l.length (flatR (y.l.map Fz.w))) : FdAt w' B hb vo vw P sz := by
  refine ⟨h.rows.kept hk (fun e => ?_) (fun g e e3 => ?_) (fun g e e3 => ?_), fun y hy => ⟨(hr y hy).1, (hr y hy).2, fun z hz => Kept.own hk ((h.ls y hy).oo z hz) (fun g e e3 => ?_), fun z hz => Kept.own hk ((h.ls y hy).ow z hz) (fun g e e3 => ?_), (h.ls y hy).fit⟩⟩
  · obtain ⟨c, hc⟩ := hT hb e
    exact clashF hc h.rows.box (by decide)
  · obtain ⟨c, hc⟩ := hT g e3
    obtain ⟨c2, hc2⟩ := h.rows.tyO e
    exact clashF hc hc2 (by decide)
  · obtain ⟨c, hc⟩ := hT g e3
    obtain ⟨c2, hc2⟩ := h.rows.tyW e
    exact clashF hc hc2 (by decide)
  · obtain ⟨c, hc⟩ := hT g e3
    obtain ⟨c2, hc2⟩ := row_typeR ((h.ls y hy).oo z hz) e
    exact clashF hc hc2 (by decide)
  · obtain ⟨c, hc⟩ := hT g e3
    obtain ⟨c2, hc2⟩ := row_typeR ((h.ls y hy).ow z hz) e
    exact clashF hc hc2 (by decide)
theorem GrI.later (h : GrI B hb vo vw P sz s0 x v u G M w) (hl : Below w.heap.size w w') : GrI B hb vo vw P sz s0 x v u G M w' :=
  ⟨h.fd.later hl, row_keptR (P := fun _ => False) h.rv (Kept.ofBelow hl) (fun _ _ h => h), row_keptR (P := fun _ => False) h.ru (Kept.ofBelow hl) (fun _ _ h => h), fun p hp => (h.dv p hp).below hl, fun p hp => (h.du p hp).below hl, h.ge, h.lv, h.lu⟩
/-- The list grows by one file. -/
theorem GrI.out (h : GrI B hb vo vw P sz s0 x v u G M w) (hi : P[i]? = some x) (hgap : Gap P i x) (hs : s0 ≤ w.heap.size) (ho : w'.ownsRow B 62 3 v' (G.length + 1) (flatR G ++ cellR p)) (hg : w.grownBy w' v.ownBlock)
    (hkp : ∀ (b0 : Nat) (u : Value) (m' : Nat) (ys : List Value), w.ownsRow b0 62 3 u m' ys → (u.ownBlock = v.ownBlock → m' ≤ G.length) → w'.ownsRow b0 62 3 u m' ys) (hv : v'.ownBlock = v.ownBlock ∨ v'.ownBlock = some w.heap.size) (hp : Own w' B p.2 p.1.data) :
    GrI B hb vo vw P sz s0 x v' u (G ++ [p]) M w' ∧ Kept (fun g => v.ownBlock = some g) w w' := by
  have hk : Kept (fun g => v.ownBlock = some g) w w' := Kept.ofGrown hg (fun g e => e)
  have d8 : ∀ {z : Value} {d : List UInt8}, Own w B z d → Own w' B z d := fun {z d} hz => Kept.own hk hz (fun g e e2 => (hz.rowF h.rv) g e e2)
  have lo : ∀ y ∈ P, y.ov.ownBlock = v.ownBlock → y.l.length ≤ G.length := fun y hy e => by
    have ly := h.fd.ls y hy
    cases hb : y.ov.ownBlock with
    | none => have := row_none ly.ro hb; omega
    | some g =>
      rcases h.lv g (by rw [← e]; exact hb) with e2 | ⟨_, e2⟩
      · obtain ⟨j, hj⟩ := List.getElem?_of_mem hy
        by_cases hji : j = i
        · subst hji
          rw [hi] at hj
          cases hj
          exact h.ge
        · exact absurd hb ((hgap j y hj).1 hji g e2)
      · exact absurd hb (e2 y hy).1
  have lw : ∀ y ∈ P, y.wv.ownBlock = v.ownBlock → y.l.length ≤ G.length := fun y hy e => by
    have ly := h.fd.ls y hy
    cases hb : y.wv.ownBlock with
    | none => have := row_none ly.rw hb; omega
    | some g =>
      rcases h.lv g (by rw [← e]; exact hb) with e2 | ⟨_, e2⟩
      · obtain ⟨j, hj⟩ := List.getElem?_of_mem hy
        exact absurd hb ((hgap j y hj).2 g e2)
      · exact absurd hb (e2 y hy).2
  refine ⟨⟨h.fd.grown hk (fun g e => row_typeR h.rv e) (fun y hy => ⟨hkp _ _ _ _ (h.fd.ls y hy).ro (lo y hy), hkp _ _ _ _ (h.fd.ls y hy).rw (lw y hy)⟩), ?_, ?_, fun a ha => ?_, fun a ha => d8 (h.du a ha), by rw [List.length_append]; have := h.ge; omega, fun g e => ?_, fun g e => ⟨(h.lu g e).1, fun e2 => ?_⟩⟩, hk⟩
  · rw [List.length_append, flatR_append]
    simpa [flatR] using ho
  · exact hkp _ _ _ _ h.ru (fun e => by
      cases hb : u.ownBlock with
      | none => have := row_none h.ru hb; omega
      | some g => exact absurd (by rw [← e]; exact hb) (h.lu g hb).2)
  · rcases List.mem_append.1 ha with ha | ha
    · exact d8 (h.dv a ha)
    · have : a = p := by simpa using ha
      rw [this]
      exact hp
  · rcases hv with hv | hv
    · exact h.lv g (hv ▸ e)
    · rw [hv] at e
      simp only [Option.some.injEq] at e
      refine .inr ⟨by omega, fun y hy => ⟨fun e2 => ?_, fun e2 => ?_⟩⟩
      · have := ((h.fd.ls y hy).ro.lt g e2).2; omega
      · have := ((h.fd.ls y hy).rw.lt g e2).2; omega
  · rcases hv with hv | hv
    · exact (h.lu g e).2 (hv ▸ e2)
    · rw [hv] at e2
      simp only [Option.some.injEq] at e2
      have := (h.ru.lt g e).2
      omega
/-- Its like grows by one file. -/
theorem GrI.want {u' : Value} (h : GrI B hb vo vw P sz s0 x v u G M w) (hs : s0 ≤ w.heap.size) (ho : w'.ownsRow B 62 3 u' (M.length + 1) (flatR M ++ cellR p)) (hg : w.grownBy w' u.ownBlock) (hv : u'.ownBlock = u.ownBlock ∨ u'.ownBlock = some w.heap.size) (hp : Own w' B p.2 p.1.data) :
    GrI B hb vo vw P sz s0 x v u' G (M ++ [p]) w' ∧ Kept (fun g => u.ownBlock = some g) w w' := by
  have hk : Kept (fun g => u.ownBlock = some g) w w' := Kept.ofGrown hg (fun g e => e)
  have d8 : ∀ {z : Value} {d : List UInt8}, Own w B z d → Own w' B z d := fun {z d} hz => Kept.own hk hz (fun g e e2 => (hz.rowF h.ru) g e e2)
  refine ⟨⟨h.fd.grown hk (fun g e => row_typeR h.ru e) (fun y hy => ⟨row_keptR (h.fd.ls y hy).ro hk (fun g e e2 => ((h.lu g e2).1.2 y hy).1 e), row_keptR (h.fd.ls y hy).rw hk (fun g e e2 => ((h.lu g e2).1.2 y hy).2 e)⟩), row_keptR h.rv hk (fun g e e2 => (h.lu g e2).2 e), ?_, fun a ha => d8 (h.dv a ha), fun a ha => ?_, h.ge, h.lv, fun g e => ?_⟩, hk⟩
  · rw [List.length_append, flatR_append]
    simpa [flatR] using ho
  · rcases List.mem_append.1 ha with ha | ha
    · exact d8 (h.du a ha)
    · have : a = p := by simpa using ha
      rw [this]
      exact hp
  · rcases hv with hv | hv
    · exact h.lu g (hv ▸ e)
    · rw [hv] at e
      simp only [Option.some.injEq] at e
      refine ⟨⟨by omega, fun y hy => ⟨fun e2 => ?_, fun e2 => ?_⟩⟩, fun e2 => ?_⟩
      · have := ((h.fd.ls y hy).ro.lt g e2).2; omega
      · have := ((h.fd.ls y hy).rw.lt g e2).2; omega
      · have := (h.rv.lt g e2).2; omega
/-- Both, side by side. -/
theorem GrI.ls (h : GrI B hb vo vw P sz s0 x v u G M w) (he : G.map (·.1) = M.map (·.1)) (hf : ∀ p ∈ G, -9223372036854775808 ≤ p.1.num ∧ p.1.num ≤ 9223372036854775807 ∧ p.1.safe ≤ 9223372036854775807) : LsAt w B ⟨v, u, zipF G M⟩ := by
  obtain ⟨z1, z2, _⟩ := zipF_o G M he
  have l1 : (zipF G M).length = G.length := by have := congrArg List.length z1; simpa using this
  have l2 : (zipF G M).length = M.length := by have := congrArg List.length z2; simpa using this
  refine ⟨?_, ?_, fun z hz => ?_, fun z hz => ?_, fun z hz => ?_⟩
  · simp only []
    rw [z1, l1]
    exact h.rv
  · simp only []
    rw [z2, l2]
    exact h.ru
  · exact h.dv z.o (by rw [← z1]; exact List.mem_map_of_mem hz)
  · exact h.du z.w (by rw [← z2]; exact List.mem_map_of_mem hz)
  · exact hf z.o (by rw [← z1]; exact List.mem_map_of_mem hz)
end
end Go.Proofs.Ytnpofjeiamjioaa

namespace Go.Proofs.Ytnpofjeiamjioaa
open Go.RowKit

theorem FdAt.len {w : World} {B hb n m c d : Nat} {a b : Option Addr} {Q : List Ls} {sz : Int} (h : FdAt w B hb (.slice a n c) (.slice b m d) Q sz) : Q.length = n := by
  obtain ⟨a1, c1, _, _, e, _⟩ := h.rows.forms
  simp only [Value.slice.injEq, List.length_map] at e
  exact e.2.1.symm
theorem SpI.later {w w' wr : World} {B hb bx n : Nat} {vo vw : Value} {P Pm : List Ls} {sz : Int} {es : List Ent} {lab : Nat → Tag} (h : SpI w B hb vo vw P sz bx n Pm es lab wr) (hl : Below wr.heap.size wr w') : SpI w B hb vo vw P sz bx n Pm es lab w' :=
  ⟨h.fd.later hl, h.sk, h.held.below hl, h.es, h.lab, h.kept.trans (Kept.ofBelow hl)⟩
/-- Where the spoiling of the book is, behind that of the bytes. -/
structure SpJ (w : World) (B hb : Nat) (vo0 vw0 : Value) (P : List Ls) (s0 bx m : Nat) (es : List Ent) (lab : Nat → Tag) (vo vw : Value) (Q : List Ls) (sz : Int) (wr : World) : Prop where
  fd : FdAt wr B hb vo vw Q sz
  held : Held wr B lab bx m es
  kept : Kept (FdB hb vo0 vw0 P) w wr
  size : s0 ≤ wr.heap.size
  org : ∀ g, FdR hb vo vw Q g → FdR hb vo0 vw0 P g ∨ s0 ≤ g
  u0 : ∀ g, FdR hb vo0 vw0 P g ∨ s0 ≤ g → lab g = .user 0
  ws : w.heap.size ≤ s0
section
variable {w w' wr : World} {B hb s0 bx m : Nat} {vo0 vw0 vo vw vo' vw' : Value} {P Q Q' : List Ls} {es : List Ent} {lab : Nat → Tag} {sz sz' : Int} {K : Nat → Prop}
theorem SpJ.step (h : SpJ w B hb vo0 vw0 P s0 bx m es lab vo vw Q sz wr) (hk : Kept K wr w') (hK : ∀ g, K g → FdR hb vo vw Q g ∨ s0 ≤ g) (fd' : FdAt w' B hb vo' vw' Q' sz') (org' : ∀ g, FdR hb vo' vw' Q' g → FdR hb vo vw Q g ∨ s0 ≤ g) : SpJ w B hb vo0 vw0 P s0 bx m es lab vo' vw' Q' sz' w' := by
  have up : ∀ g, FdR hb vo vw Q g ∨ s0 ≤ g → FdR hb vo0 vw0 P g ∨ s0 ≤ g := fun g e => by
    rcases e with e | e
    · exact h.org g e
    · exact .inr e
  refine ⟨fd', h.held.kept hk (fun g hg e => hg 0 (h.u0 g (up g (hK g e)))), h.kept.step hk (fun j hj e => ?_), Nat.le_trans h.size hk.size, fun g e => up g (org' g e), h.u0, h.ws⟩
  rcases up j (hK j e) with e2 | e2
  · exact e2.b
  · have := h.ws; omega
theorem SpJ.later (h : SpJ w B hb vo0 vw0 P s0 bx m es lab vo vw Q sz wr) (hl : Below wr.heap.size wr w') : SpJ w B hb vo0 vw0 P s0 bx m es lab vo vw Q sz w' :=
  h.step (K := fun _ => False) (Kept.ofBelow hl) (fun _ e => e.elim) (h.fd.later hl) (fun _ e => .inl e)
/-- A list's want of one file is put. -/
theorem SpJ.putw {i k gw cw : Nat} {x : Ls} {z : Fz} {v : Value} (h : SpJ w B hb vo0 vw0 P s0 bx m es lab vo vw Q sz wr) (ha : Rap Q) (hx : Q[i]? = some x) (hz : x.l[k]? = some z) (hw : x.wv = .slice (some ⟨gw, 0, none⟩) x.l.length cw) (hv : Own wr B v z.ob) (hn : ∀ g, v.ownBlock = some g → s0 ≤ g) :
    SpJ w B hb vo0 vw0 P s0 bx m es lab vo vw (Q.set i (x.putw k z v)) sz (wr.setCell ⟨gw, k * 3 + 1, none⟩ v) := by
  obtain ⟨f1, k1⟩ := h.fd.putw ha hx hz hw hv
  refine h.step k1 (fun g e => .inl (.inr (.inr (.inr ⟨x, List.mem_of_getElem? hx, .inr (.inl (by rw [hw, e]; rfl))⟩)))) f1 (fun g e => ?_)
  rcases e with e | e | e | ⟨y, hy, e⟩
  · exact .inl (.inl e)
  · exact .inl (.inr (.inl e))
  · exact .inl (.inr (.inr (.inl e)))
  · obtain ⟨j, hj⟩ := List.getElem?_of_mem hy
    rcases set_keyR hj with ⟨_, rfl⟩ | ⟨_, hj⟩
    · rcases e with e | e | ⟨a, ha2, e⟩
      · exact .inl (.inr (.inr (.inr ⟨x, List.mem_of_getElem? hx, .inl e⟩)))
      · exact .inl (.inr (.inr (.inr ⟨x, List.mem_of_getElem? hx, .inr (.inl e)⟩)))
      · obtain ⟨n, hn2⟩ := List.getElem?_of_mem ha2
        rcases set_keyR hn2 with ⟨_, rfl⟩ | ⟨_, hn2⟩
        · exact .inr (hn g e)
        · exact .inl (.inr (.inr (.inr ⟨x, List.mem_of_getElem? hx, .inr (.inr ⟨a, List.mem_of_getElem? hn2, e⟩)⟩)))
    · exact .inl (.inr (.inr (.inr ⟨y, List.mem_of_getElem? hj, e⟩)))
theorem FdR_reb {f : Nat → Nat → List UInt8} {g : Nat} (e : FdR hb vo vw (reb f Q) g) : FdR hb vo vw Q g := by
  rcases e with e | e | e | ⟨y, hy, e⟩
  · exact .inl e
  · exact .inr (.inl e)
  · exact .inr (.inr (.inl e))
  · obtain ⟨j, hj⟩ := List.getElem?_of_mem hy
    obtain ⟨x, hx, rfl⟩ := reb_get hj
    refine .inr (.inr (.inr ⟨x, List.mem_of_getElem? hx, ?_⟩))
    rcases e with e | e | ⟨a, ha, e⟩
    · exact .inl e
    · exact .inr (.inl e)
    · obtain ⟨k, hk⟩ := List.getElem?_of_mem ha
      obtain ⟨z, hz, rfl⟩ := rebX_get hk
      exact .inr (.inr ⟨z, List.mem_of_getElem? hz, e⟩)
/-- Behind the spoiling of the bytes. -/
theorem SpI.spoilt {w0 : World} {n : Nat} {Pm : List Ls} (h : SpI w B hb vo vw P sz bx n Pm es lab wr) (ha : Aps P) (h0 : FdAt w0 B hb vo vw P sz) (hbx : w0.heap.size ≤ bx) (hw : w.heap.size ≤ bx) (hbr : bx < wr.heap.size) (hn : (odb (skL P)).length ≤ n) (hs : Spoilt wr B lab bx es w') :
    ∃ f lab5 es5, SpJ w B hb vo vw P w'.heap.size bx es.length es5 lab5 vo vw (reb f Pm) sz w' ∧ ∀ (i : Nat) x (k : Nat) z, Pm[i]? = some x → x.l[k]? = some z → (f i k).length = z.ob.length := by
  obtain ⟨hk, lab4, fs, news, hh, hsk, hl4⟩ := hs
  obtain ⟨vo4, vw4, hr4, he4⟩ := hh
  have hes := h.es
  rw [List.take_of_length_le hn] at hes
  have key : ∀ (i : Nat) x (k : Nat) z, Pm[i]? = some x → x.l[k]? = some z → ∃ e, fs[off (skL P) i + k]? = some e ∧ e.out = z.od ∧ e.bytes.length = z.ob.length ∧ Own w' B z.od e.bytes := fun i x k z hx hz => by
    have ho := odb_at (skL Pm) i k x.k z.k (skL_at hx) (k_at hz)
    rw [h.sk, ← hes, List.getElem?_map] at ho
    obtain ⟨e, he, ee⟩ := Option.map_eq_some_iff.1 ho
    simp only [Prod.mk.injEq] at ee
    have hq : (skE fs)[off (skL P) i + k]? = some (e.out, e.bytes.length) := by rw [hsk]; simp [skE, he]
    unfold skE at hq
    rw [List.getElem?_map] at hq
    obtain ⟨e', he', ee'⟩ := Option.map_eq_some_iff.1 hq
    simp only [Prod.mk.injEq] at ee'
    have ho4 := (he4 _ e' (by rw [List.getElem?_append_left (List.getElem?_eq_some_iff.1 he').1]; exact he')).1.1
    refine ⟨e', he', ee'.1.trans ee.1, by rw [ee'.2, ee.2]; rfl, ?_⟩
    have e3 : z.od = e'.out := (ee'.1.trans ee.1).symm
    rw [e3]
    exact ho4
  have hz := hk.size
  have hU : ∀ g, FdR hb vo vw P g → lab g = .user 0 := fun g hg => by
    have := h0.blt hg.b
    rw [h.lab g (by omega)]
    exact h0.lab ha hbx hg
  refine ⟨fun i k => match fs[off (skL P) i + k]? with | some e => e.bytes | none => [], fun g => if g < w'.heap.size then lab4 g else .user 0, fs ++ news, ⟨?_, ?_, ?_, Nat.le_refl _, fun g e => .inl (FdR_congr h.sk (FdR_reb e)), fun g e => ?_, ?_⟩, fun i x k z hx hz => ?_⟩
  · refine h.fd.reb hk (fun g e hN => hN 0 (hU g (FdR_congr h.sk e))) (fun i x k z hx hz => ?_)
    obtain ⟨e, he, _, _, ho⟩ := key i x k z hx hz
    simp only [he]
    exact ho
  · exact Held.relabel (lab := lab4) ⟨vo4, vw4, hr4, he4⟩ (fun k hk => if_pos hk)
  · refine h.kept.step hk (fun j hj e => ?_)
    by_cases hF : FdB hb vo vw P j
    · exact hF
    · exfalso
      refine e 0 ?_
      rw [h.lab j (by omega)]
      refine lab0_user (by omega) (fun p hp e2 => hF ?_)
      obtain ⟨x, hx, z, hz, rfl⟩ := odb_mem hp
      exact .inr (.inr (.inr ⟨x, hx, .inr (.inr ⟨z, hz, .inl e2⟩)⟩))
  · by_cases hg : g < w'.heap.size
    · rw [if_pos hg]
      rcases e with e | e
      · have := h0.blt e.b
        rw [hl4 g (by omega)]
        exact hU g e
      · omega
    · rw [if_neg hg]
  · omega
  · obtain ⟨e, he, _, hl, _⟩ := key i x k z hx hz
    simp only [he]
    exact hl
end
end Go.Proofs.Ytnpofjeiamjioaa

namespace Go.Proofs.Ytnpofjeiamjioaa
open Go.RowKit

/-- How far the lists have grown. -/
structure S4 (N T i : Nat) (Q R : List Ls) : Prop where
  len : Q.length = N
  rl : R.length = i
  eql : Eql (Q ++ R)
  gap : ∀ (j : Nat) x, i ≤ j → Q[j]? = some x → Gap (Q ++ R) j x
  few : ∀ x ∈ Q, x.l.length ≤ T ∧ ∀ z ∈ x.l, z.ob.length ≤ 1073741823
theorem S4.start {N T : Nat} {Q : List Ls} (h1 : Q.length = N) (h2 : Rap Q) (h3 : ∀ x ∈ Q, x.l.length ≤ T ∧ ∀ z ∈ x.l, z.ob.length ≤ 1073741823) (h4 : Eql Q) : S4 N T 0 Q [] :=
  ⟨h1, rfl, by rw [List.append_nil]; exact h4, fun j x _ hx k y hy => by
    rw [List.append_nil] at hy
    exact ⟨fun e => ((h2 j k x y hx hy).1 (Ne.symm e)).1, (h2 j k x y hx hy).2⟩, h3⟩
section
variable {w w1 w5 : World} {B hb s0 bx m N T i : Nat} {vo0 vw0 vo vw vo' vw' v u : Value} {P Q R P4 : List Ls} {es : List Ent} {lab : Nat → Tag} {sz : Int} {x : Ls} {G M : List (Fl × Value)}
theorem S4.next (h : S4 N T i Q R) (hx : Q[i]? = some x) (hg : GrI B hb vo vw (Q ++ R) sz s0 x v u G M w) (he : G.map (·.1) = M.map (·.1)) : S4 N T (i + 1) Q (R ++ [⟨v, u, zipF G M⟩]) := by
  have hxa : (Q ++ R)[i]? = some x := by rw [List.getElem?_append_left (List.getElem?_eq_some_iff.1 hx).1]; exact hx
  refine ⟨h.len, by rw [List.length_append, h.rl]; rfl, ?_, fun j y hj hy => ?_, h.few⟩
  · rw [← List.append_assoc]
    intro y hy z hz
    rcases List.mem_append.1 hy with hy | hy
    · exact h.eql y hy z hz
    · have : y = ⟨v, u, zipF G M⟩ := by simpa using hy
      rw [this] at hz
      exact (zipF_o G M he).2.2 z hz
  · have gj := h.gap j y (by omega) hy
    have hya : (Q ++ R)[j]? = some y := by rw [List.getElem?_append_left (List.getElem?_eq_some_iff.1 hy).1]; exact hy
    intro k a ha
    rw [← List.append_assoc] at ha
    rcases snoc_keyR ha with ha | ⟨_, rfl⟩
    · exact gj k a ha
    · refine ⟨fun _ g e e2 => ?_, fun g e e2 => ?_⟩
      · rcases hg.lv g e2 with e3 | ⟨_, e3⟩
        · exact ((gj i x hxa).1 (by omega)) g e e3
        · exact (e3 y (List.mem_of_getElem? hya)).1 e
      · exact ((hg.lu g e2).1.2 y (List.mem_of_getElem? hya)).1 e
/-- Both are laid into the book. -/
theorem SpJ.pushed (h : SpJ w B hb vo0 vw0 P s0 bx m es lab vo vw P4 sz w1) (hg : GrI B hb vo vw P4 sz s0 x v u G M w1) (hx : x ∈ P4) (he : G.map (·.1) = M.map (·.1)) (hf : ∀ p ∈ G, -9223372036854775808 ≤ p.1.num ∧ p.1.num ≤ 9223372036854775807 ∧ p.1.safe ≤ 9223372036854775807)
    (hM : ∀ p ∈ M, ∀ g, p.2.ownBlock = some g → s0 ≤ g) (hk : Kept (fun g => g = hb ∨ vo.ownBlock = some g ∨ vw.ownBlock = some g) w1 w5) (r5 : FRows w5 B hb vo' vw' (P4.map (·.ov) ++ [v]) (P4.map (·.wv) ++ [u]) sz)
    (l1 : ∀ g, vo'.ownBlock = some g → vo.ownBlock = some g ∨ s0 ≤ g) (l2 : ∀ g, vw'.ownBlock = some g → vw.ownBlock = some g ∨ s0 ≤ g) : SpJ w B hb vo0 vw0 P s0 bx m es lab vo' vw' (P4 ++ [⟨v, u, zipF G M⟩]) sz w5 := by
  refine h.step hk (fun g e => .inl ?_) ⟨?_, fun y hy => ?_⟩ (fun g e => ?_)
  · rcases e with e | e | e
    · exact .inl e
    · exact .inr (.inl e)
    · exact .inr (.inr (.inl e))
  · rw [List.map_append, List.map_append]
    exact r5
  · rcases List.mem_append.1 hy with hy | hy
    · exact (h.fd.ls y hy).box h.fd.rows hk
    · have : y = ⟨v, u, zipF G M⟩ := by simpa using hy
      rw [this]
      exact (hg.ls he hf).box h.fd.rows hk
  · rcases e with e | e | e | ⟨y, hy, e⟩
    · exact .inl (.inl e)
    · rcases l1 g e with e | e
      · exact .inl (.inr (.inl e))
      · exact .inr e
    · rcases l2 g e with e | e
      · exact .inl (.inr (.inr (.inl e)))
      · exact .inr e
    · rcases List.mem_append.1 hy with hy | hy
      · exact .inl (.inr (.inr (.inr ⟨y, hy, e⟩)))
      · have : y = ⟨v, u, zipF G M⟩ := by simpa using hy
        rw [this] at e
        rcases e with e | e | ⟨z, hz, e⟩
        · rcases hg.lv g e with e | e
          · exact .inl (.inr (.inr (.inr ⟨x, hx, .inl e⟩)))
          · exact .inr e.1
        · exact .inr (hg.lu g e).1.1
        · exact .inr (hM z.w (by rw [← (zipF_o G M he).2.1]; exact List.mem_map_of_mem hz) g e)
theorem GrI.kv (h : GrI B hb vo vw P4 sz s0 x v u G M w) (hx : x ∈ P4) : ∀ g, v.ownBlock = some g → FdR hb vo vw P4 g ∨ s0 ≤ g := fun g e => by
  rcases h.lv g e with e | e
  · exact .inl (.inr (.inr (.inr ⟨x, hx, .inl e⟩)))
  · exact .inr e.1
theorem GrI.ku (h : GrI B hb vo vw P4 sz s0 x v u G M w) : ∀ g, u.ownBlock = some g → FdR hb vo vw P4 g ∨ s0 ≤ g := fun g e => .inr (h.lu g e).1.1
/-- The growing begins. -/
theorem GrI.start {w2 : World} (h : SpJ w B hb vo0 vw0 P s0 bx m es lab vo vw P4 sz w1) (hx : x ∈ P4) (hb2 : Below w1.heap.size w1 w2) (hu : FlsAt w2 w1.heap.size u M) (hB : B ≤ w1.heap.size) : GrI B hb vo vw P4 sz s0 x x.ov u (x.l.map Fz.o) M w2 := by
  have lx := (h.fd.later hb2).ls x hx
  have hs := h.size
  refine ⟨h.fd.later hb2, by rw [List.length_map]; exact lx.ro, hu.row.monoR hB, fun p hp => ?_, fun p hp => (hu.own p hp).mono hB, by rw [List.length_map]; exact Nat.le_refl _, fun g e => .inl e, fun g e => ?_⟩
  · obtain ⟨z, hz, rfl⟩ := List.mem_map.1 hp
    exact lx.oo z hz
  · have hge := (hu.row.lt g e).1
    refine ⟨⟨by omega, fun y hy => ⟨fun e2 => ?_, fun e2 => ?_⟩⟩, fun e2 => ?_⟩
    · have := ((h.fd.ls y hy).ro.lt g e2).2; omega
    · have := ((h.fd.ls y hy).rw.lt g e2).2; omega
    · have := ((h.fd.ls x hx).ro.lt g e2).2; omega
end
end Go.Proofs.Ytnpofjeiamjioaa
