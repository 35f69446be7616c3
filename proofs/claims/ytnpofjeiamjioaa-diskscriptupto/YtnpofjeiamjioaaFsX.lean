/-
  FsA, FsB.
-/
import Derived.Test.YtnpofjeiamjioaaFdX
import Derived.Test.YtnpofjeiamjioaaSpoilH
import Derived.Test.YtnpofjeiamjioaaRCra
namespace Go.Proofs.Ytnpofjeiamjioaa
open Go.RowKit

/-- A file's values and bytes, without its numbers. -/
structure Zk where
  od : Value
  ob : List UInt8
  wd : Value
  wb : List UInt8
structure Xk where
  ov : Value
  wv : Value
  l : List Zk
def Fz.k (z : Fz) : Zk := ⟨z.od, z.ob, z.wd, z.wb⟩
def Ls.k (x : Ls) : Xk := ⟨x.ov, x.wv, x.l.map Fz.k⟩
def skL (P : List Ls) : List Xk := P.map Ls.k
/-- The bytes of all that was handed out, in order. -/
def odb (S : List Xk) : List (Value × List UInt8) := S.flatMap fun x => x.l.map fun z => (z.od, z.ob)
def off (S : List Xk) (i : Nat) : Nat := ((S.take i).map fun x => x.l.length).sum
theorem off_succ {S : List Xk} {i : Nat} {x : Xk} (h : S[i]? = some x) : off S (i + 1) = off S i + x.l.length := by
  unfold off
  rw [List.take_add_one, h]
  simp
theorem off_all (S : List Xk) : off S S.length = (odb S).length := by
  unfold off odb
  rw [List.take_length, List.length_flatMap]
  simp
theorem odb_at : ∀ (S : List Xk) (i k : Nat) (x : Xk) (z : Zk), S[i]? = some x → x.l[k]? = some z → (odb S)[off S i + k]? = some (z.od, z.ob)
  | [], i, k, x, z, h, _ => by simp at h
  | y :: S, 0, k, x, z, h, hz => by
    simp only [List.getElem?_cons_zero, Option.some.injEq] at h
    subst h
    show ((y.l.map fun z => (z.od, z.ob)) ++ odb S)[0 + k]? = _
    rw [Nat.zero_add, List.getElem?_append_left (by simpa using (List.getElem?_eq_some_iff.1 hz).1), List.getElem?_map, hz]
    rfl
  | y :: S, i + 1, k, x, z, h, hz => by
    simp only [List.getElem?_cons_succ] at h
    have ih := odb_at S i k x z h hz
    have e : off (y :: S) (i + 1) = y.l.length + off S i := by simp [off]
    show ((y.l.map fun z => (z.od, z.ob)) ++ odb S)[off (y :: S) (i + 1) + k]? = _
    rw [e, List.getElem?_append_right (by simp; omega)]
    simp only [List.length_map]
    rw [show y.l.length + off S i + k - y.l.length = off S i + k by omega]
    exact ih
theorem skL_at {P : List Ls} {i : Nat} {x : Ls} (h : P[i]? = some x) : (skL P)[i]? = some x.k := by simp [skL, h]
theorem k_at {x : Ls} {k : Nat} {z : Fz} (h : x.l[k]? = some z) : x.k.l[k]? = some z.k := by simp [Ls.k, h]
theorem at_skL {P : List Ls} {i : Nat} {y : Xk} (h : (skL P)[i]? = some y) : ∃ x, P[i]? = some x ∧ y = x.k := by
  unfold skL at h
  rw [List.getElem?_map] at h
  cases hx : P[i]? with
  | none => rw [hx] at h; simp at h
  | some x => rw [hx] at h; simp at h; exact ⟨x, rfl, h.symm⟩
theorem at_k {x : Ls} {k : Nat} {y : Zk} (h : x.k.l[k]? = some y) : ∃ z, x.l[k]? = some z ∧ y = z.k := by
  unfold Ls.k at h
  simp only [List.getElem?_map] at h
  cases hz : x.l[k]? with
  | none => rw [hz] at h; simp at h
  | some z => rw [hz] at h; simp at h; exact ⟨z, rfl, h.symm⟩
/-- What lies apart is a matter of the values. -/
theorem Aps.congr {P Q : List Ls} (h : Aps P) (e : skL Q = skL P) : Aps Q := by
  have up : ∀ {i : Nat} {x : Ls}, Q[i]? = some x → ∃ y, P[i]? = some y ∧ x.k = y.k := fun {i x} hx => at_skL (by rw [← e]; exact skL_at hx)
  have dn : ∀ {x y : Ls} {m : Nat} {a : Fz}, x.k = y.k → x.l[m]? = some a → ∃ b, y.l[m]? = some b ∧ a.k = b.k := fun {x y m a} exy ha => at_k (by rw [← exy]; exact k_at ha)
  have v1 : ∀ {x y : Ls}, x.k = y.k → x.ov = y.ov ∧ x.wv = y.wv := fun h => by simp only [Ls.k, Xk.mk.injEq] at h; exact ⟨h.1, h.2.1⟩
  have v2 : ∀ {a b : Fz}, a.k = b.k → a.od = b.od ∧ a.wd = b.wd := fun h => by simp only [Fz.k, Zk.mk.injEq] at h; exact ⟨h.1, h.2.2.1⟩
  refine ⟨fun i j x y hx hy => ?_, fun i j x y m n a b hx hy ha hb => ?_⟩
  · obtain ⟨x', hx', ex⟩ := up hx
    obtain ⟨y', hy', ey⟩ := up hy
    have := h.rr i j x' y' hx' hy'
    rw [(v1 ex).1, (v1 ex).2, (v1 ey).1, (v1 ey).2]
    exact this
  · obtain ⟨x', hx', ex⟩ := up hx
    obtain ⟨y', hy', ey⟩ := up hy
    obtain ⟨a', ha', ea⟩ := dn ex ha
    obtain ⟨b', hb', eb⟩ := dn ey hb
    have := h.dd i j x' y' m n a' b' hx' hy' ha' hb'
    rw [(v2 ea).1, (v2 eb).1, (v2 eb).2]
    exact this
theorem Eql.congr {P Q : List Ls} (h : Eql P) (e : skL Q = skL P) : Eql Q := fun x hx z hz => by
  obtain ⟨i, hi⟩ := List.getElem?_of_mem hx
  obtain ⟨k, hk⟩ := List.getElem?_of_mem hz
  obtain ⟨y, hy, exy⟩ := at_skL (show (skL P)[i]? = some x.k by rw [← e]; exact skL_at hi)
  obtain ⟨a, ha, eza⟩ := at_k (show y.k.l[k]? = some z.k by rw [← exy]; exact k_at hk)
  simp only [Fz.k, Zk.mk.injEq] at eza
  rw [eza.2.1, eza.2.2.2]
  exact h y (List.mem_of_getElem? hy) a (List.mem_of_getElem? ha)
/-- A file's number is turned. -/
def Ls.mark (x : Ls) (k : Nat) (z : Fz) (n : Int) : Ls := ⟨x.ov, x.wv, x.l.set k ⟨n, z.safe, z.ob, z.wb, z.od, z.wd⟩⟩
theorem set_eq {α : Type} {l : List α} {k : Nat} {a : α} (h : l[k]? = some a) : l.set k a = l := by
  apply List.ext_getElem?
  intro n
  by_cases hn : k = n
  · subst hn
    rw [List.getElem?_set_self (List.getElem?_eq_some_iff.1 h).1, h]
  · rw [List.getElem?_set_ne hn]
theorem skL_mark {P : List Ls} {i k : Nat} {x : Ls} {z : Fz} (hx : P[i]? = some x) (hz : x.l[k]? = some z) (n : Int) : skL (P.set i (x.mark k z n)) = skL P := by
  unfold skL
  rw [List.map_set]
  apply set_eq
  rw [List.getElem?_map, hx]
  simp only [Option.map_some, Option.some.injEq, Ls.k, Ls.mark, Xk.mk.injEq, true_and]
  rw [List.map_set]
  exact (set_eq (by rw [List.getElem?_map, hz]; rfl)).symm
theorem map_ov {P : List Ls} {i : Nat} {x y : Ls} (hx : P[i]? = some x) (h1 : y.ov = x.ov) (h2 : y.wv = x.wv) : (P.set i y).map (·.ov) = P.map (·.ov) ∧ (P.set i y).map (·.wv) = P.map (·.wv) := by
  rw [List.map_set, List.map_set]
  exact ⟨set_eq (by rw [List.getElem?_map, hx, h1]; rfl), set_eq (by rw [List.getElem?_map, hx, h2]; rfl)⟩
theorem Own.rowF {w : World} {B C : Nat} {u v : Value} {d : List UInt8} {n : Nat} {xs : List Value} (h : Own w B u d) (hr : w.ownsRow C 62 3 v n xs) : Apt u v := fun g e e2 => by
  obtain ⟨c1, q1⟩ := row_typeR h e
  obtain ⟨c2, q2⟩ := row_typeR hr e2
  exact clashF q1 q2 (by decide)
/-- Rows lie apart. -/
def Rap (P : List Ls) : Prop := ∀ (i j : Nat) x y, P[i]? = some x → P[j]? = some y → (i ≠ j → Apt x.ov y.ov ∧ Apt x.wv y.wv) ∧ Apt x.ov y.wv
section
variable {w w' : World} {B hb : Nat} {vo vw : Value} {P : List Ls} {sz : Int} {i k go gw co cw : Nat} {x : Ls} {z : Fz}
/-- Cells of a list's two rows were stored; what is no block of these is as it was. -/
theorem FdAt.turn {K : Nat → Prop} {y : Ls} (h : FdAt w B hb vo vw P sz) (ha : Rap P) (hx : P[i]? = some x) (hk : Kept K w w') (hK : ∀ g, K g → x.ov.ownBlock = some g ∨ x.wv.ownBlock = some g) (e1 : y.ov = x.ov) (e2 : y.wv = x.wv) (hy : LsAt w' B y) : FdAt w' B hb vo vw (P.set i y) sz := by
  have lx := h.ls x (List.mem_of_getElem? hx)
  have tx : ∀ g, K g → ∃ c, w.heap[g]? = some (.cells c 62 (0, 0)) := fun g e => by
    rcases hK g e with e | e
    · exact row_typeR lx.ro e
    · exact row_typeR lx.rw e
  obtain ⟨m1, m2⟩ := map_ov hx e1 e2
  refine ⟨?_, fun a hm => ?_⟩
  · rw [m1, m2]
    refine h.rows.kept hk (fun e => ?_) (fun g e e3 => ?_) (fun g e e3 => ?_)
    · obtain ⟨c, hc⟩ := tx hb e
      exact clashF hc h.rows.box (by decide)
    · obtain ⟨c, hc⟩ := tx g e3
      obtain ⟨c2, hc2⟩ := h.rows.tyO e
      exact clashF hc hc2 (by decide)
    · obtain ⟨c, hc⟩ := tx g e3
      obtain ⟨c2, hc2⟩ := h.rows.tyW e
      exact clashF hc hc2 (by decide)
  · obtain ⟨j, hj⟩ := List.getElem?_of_mem hm
    rcases set_keyR hj with ⟨_, rfl⟩ | ⟨hne, hj⟩
    · exact hy
    · have la := h.ls a (List.mem_of_getElem? hj)
      have r1 := ha i j x a hx hj
      have r2 := ha j i a x hj hx
      have r3 := r1.1 (Ne.symm hne)
      refine ⟨row_keptR la.ro hk (fun g e e3 => ?_), row_keptR la.rw hk (fun g e e3 => ?_), fun z hz => Kept.own hk (la.oo z hz) (fun g e e3 => ?_), fun z hz => Kept.own hk (la.ow z hz) (fun g e e3 => ?_), la.fit⟩
      · rcases hK g e3 with e4 | e4
        · exact r3.1 g e4 e
        · exact r2.2 g e e4
      · rcases hK g e3 with e4 | e4
        · exact r1.2 g e4 e
        · exact r3.2 g e4 e
      · obtain ⟨c, hc⟩ := tx g e3
        obtain ⟨c2, hc2⟩ := row_typeR (la.oo z hz) e
        exact clashF hc hc2 (by decide)
      · obtain ⟨c, hc⟩ := tx g e3
        obtain ⟨c2, hc2⟩ := row_typeR (la.ow z hz) e
        exact clashF hc hc2 (by decide)
/-- A number is marked in both rows. -/
theorem FdAt.mark (h : FdAt w B hb vo vw P sz) (ha : Aps P) (hx : P[i]? = some x) (hz : x.l[k]? = some z) (ho : x.ov = .slice (some ⟨go, 0, none⟩) x.l.length co) (hw : x.wv = .slice (some ⟨gw, 0, none⟩) x.l.length cw) (n : Int) (hn : -9223372036854775808 ≤ n ∧ n ≤ 9223372036854775807) :
    FdAt ((w.setCell ⟨go, k * 3, none⟩ (.int .i64 n)).setCell ⟨gw, k * 3, none⟩ (.int .i64 n)) B hb vo vw (P.set i (x.mark k z n)) sz ∧ Kept (fun g => g = go ∨ g = gw) w ((w.setCell ⟨go, k * 3, none⟩ (.int .i64 n)).setCell ⟨gw, k * 3, none⟩ (.int .i64 n)) := by
  have lx := h.ls x (List.mem_of_getElem? hx)
  have hne : go ≠ gw := fun e => (ha.rr i i x x hx hx).2 go (by rw [ho]; rfl) (by rw [hw, e]; rfl)
  have k1 : Kept (fun j => j = go) w (w.setCell ⟨go, k * 3, none⟩ (.int .i64 n)) := Kept.setCell _ _ _ _ _ rfl
  have k2 : Kept (fun j => j = gw) (w.setCell ⟨go, k * 3, none⟩ (.int .i64 n)) ((w.setCell ⟨go, k * 3, none⟩ (.int .i64 n)).setCell ⟨gw, k * 3, none⟩ (.int .i64 n)) := Kept.setCell _ _ _ _ _ rfl
  have kk : Kept (fun g => g = go ∨ g = gw) w ((w.setCell ⟨go, k * 3, none⟩ (.int .i64 n)).setCell ⟨gw, k * 3, none⟩ (.int .i64 n)) := (k1.mono (fun g _ e => .inl e)).trans (k2.mono (fun g _ e => .inr e))
  have r1 := lx.ro
  have r2 := lx.rw
  rw [ho] at r1
  rw [hw] at r2
  have s1 := (r1.stored (k * 3 + 0) (.int .i64 n)).1
  rw [flatR_set (x.l.map Fz.o) k 0 z.o ((⟨n, z.ob, z.safe⟩ : Fl), z.od) (by rw [List.getElem?_map, hz]; rfl) (.int .i64 n) (by omega) rfl] at s1
  have t1 := row_keptR s1 k2 (fun g e e2 => by simp [Value.ownBlock] at e; omega)
  have t2 := row_keptR r2 k1 (fun g e e2 => by simp [Value.ownBlock] at e; omega)
  have s2 := (t2.stored (k * 3 + 0) (.int .i64 n)).1
  rw [flatR_set (x.l.map Fz.w) k 0 z.w ((⟨n, z.wb, z.safe⟩ : Fl), z.wd) (by rw [List.getElem?_map, hz]; rfl) (.int .i64 n) (by omega) rfl] at s2
  have d8 : ∀ {u : Value} {d : List UInt8}, Own w B u d → Own ((w.setCell ⟨go, k * 3, none⟩ (.int .i64 n)).setCell ⟨gw, k * 3, none⟩ (.int .i64 n)) B u d := fun {u d} hu => Kept.own kk hu (fun g e e2 => by
    rcases e2 with e2 | e2
    · exact (hu.rowF r1) g e (by rw [e2]; rfl)
    · exact (hu.rowF r2) g e (by rw [e2]; rfl))
  refine ⟨h.turn ha.rr hx kk (fun g e => ?_) rfl rfl ⟨?_, ?_, fun y hy => ?_, fun y hy => ?_, fun y hy => ?_⟩, kk⟩
  · rcases e with rfl | rfl
    · exact .inl (by rw [ho]; rfl)
    · exact .inr (by rw [hw]; rfl)
  · show World.ownsRow _ _ _ _ x.ov (x.l.set k _).length (flatR ((x.l.set k _).map Fz.o))
    rw [List.length_set, List.map_set, ho]
    exact t1
  · show World.ownsRow _ _ _ _ x.wv (x.l.set k _).length (flatR ((x.l.set k _).map Fz.w))
    rw [List.length_set, List.map_set, hw]
    exact s2
  · obtain ⟨m, hm⟩ := List.getElem?_of_mem hy
    rcases set_keyR hm with ⟨_, rfl⟩ | ⟨_, hm⟩
    · exact d8 (lx.oo z (List.mem_of_getElem? hz))
    · exact d8 (lx.oo y (List.mem_of_getElem? hm))
  · obtain ⟨m, hm⟩ := List.getElem?_of_mem hy
    rcases set_keyR hm with ⟨_, rfl⟩ | ⟨_, hm⟩
    · exact d8 (lx.ow z (List.mem_of_getElem? hz))
    · exact d8 (lx.ow y (List.mem_of_getElem? hm))
  · obtain ⟨m, hm⟩ := List.getElem?_of_mem hy
    rcases set_keyR hm with ⟨_, rfl⟩ | ⟨_, hm⟩
    · exact ⟨hn.1, hn.2, (lx.fit z (List.mem_of_getElem? hz)).2.2⟩
    · exact lx.fit y (List.mem_of_getElem? hm)
end
end Go.Proofs.Ytnpofjeiamjioaa

namespace Go.Proofs.Ytnpofjeiamjioaa
open Go.RowKit

theorem odb_get : ∀ (S : List Xk) (j : Nat) (p : Value × List UInt8), (odb S)[j]? = some p → ∃ i k x z, S[i]? = some x ∧ x.l[k]? = some z ∧ p = (z.od, z.ob) ∧ j = off S i + k
  | [], j, p, h => by simp [odb] at h
  | y :: S, j, p, h => by
    have e : odb (y :: S) = (y.l.map fun z => (z.od, z.ob)) ++ odb S := rfl
    rw [e] at h
    by_cases hj : j < y.l.length
    · rw [List.getElem?_append_left (by simpa using hj), List.getElem?_map] at h
      obtain ⟨z, hz, rfl⟩ := Option.map_eq_some_iff.1 h
      exact ⟨0, j, y, z, rfl, hz, rfl, by simp [off]⟩
    · rw [List.getElem?_append_right (by simpa using hj)] at h
      obtain ⟨i, k, x, z, hi, hk, ep, ej⟩ := odb_get S _ p h
      refine ⟨i + 1, k, x, z, by simpa using hi, hk, ep, ?_⟩
      have e2 : off (y :: S) (i + 1) = y.l.length + off S i := by simp [off]
      rw [e2]
      simp only [List.length_map] at ej
      omega
/-- Whose a block is, when the book of bytes is made at block bx. -/
def lab0 (S : List Xk) (bx g : Nat) : Tag := if g = bx then .box else match (odb S).findIdx? (fun p => p.1.ownBlock == some g) with | some j => .out j | none => .user 0
theorem lab0_box (S : List Xk) (bx : Nat) : lab0 S bx bx = .box := by simp [lab0]
theorem lab0_user {S : List Xk} {bx g : Nat} (h1 : g ≠ bx) (h2 : ∀ p ∈ odb S, p.1.ownBlock ≠ some g) : lab0 S bx g = .user 0 := by
  unfold lab0
  rw [if_neg h1]
  have : (odb S).findIdx? (fun p => p.1.ownBlock == some g) = none := List.findIdx?_eq_none_iff.2 (fun p hp => by simpa using h2 p hp)
  rw [this]
theorem lab0_od {P : List Ls} (ha : Aps P) {bx j : Nat} {p : Value × List UInt8} (hp : (odb (skL P))[j]? = some p) (hb : ∀ g, p.1.ownBlock = some g → g ≠ bx) : Tagged (lab0 (skL P) bx) p.1 (.out j) := by
  intro g hg
  unfold lab0
  rw [if_neg (hb g hg)]
  have hlt := (List.getElem?_eq_some_iff.1 hp).1
  have hpe := (List.getElem?_eq_some_iff.1 hp).2
  have : (odb (skL P)).findIdx? (fun p => p.1.ownBlock == some g) = some j := by
    rw [List.findIdx?_eq_some_iff_getElem]
    refine ⟨hlt, by rw [hpe]; simpa using hg, fun j' hj' => ?_⟩
    have hp' : (odb (skL P))[j']? = some (odb (skL P))[j'] := List.getElem?_eq_getElem _
    generalize (odb (skL P))[j'] = p' at hp' ⊢
    obtain ⟨i, k, x, z, hx, hz, rfl, ej⟩ := odb_get _ _ _ hp
    obtain ⟨i', k', x', z', hx', hz', rfl, ej'⟩ := odb_get _ _ _ hp'
    obtain ⟨y, hy, rfl⟩ := at_skL hx
    obtain ⟨y', hy', rfl⟩ := at_skL hx'
    obtain ⟨a, ha1, rfl⟩ := at_k hz
    obtain ⟨a', ha2, rfl⟩ := at_k hz'
    have := (ha.dd i i' y y' k k' a a' hy hy' ha1 ha2).1 (fun e => by
      obtain ⟨rfl, rfl⟩ := e
      omega)
    have := this g hg
    simpa [Fz.k] using this
  rw [this]
section
variable {w : World} {B hb : Nat} {vo vw : Value} {P : List Ls} {sz : Int}
theorem FdAt.blt (h : FdAt w B hb vo vw P sz) {g : Nat} (hg : FdB hb vo vw P g) : g < w.heap.size := by
  rcases hg with rfl | e | e | ⟨x, hx, hl⟩
  · exact h.rows.lt
  · exact (h.rows.ro.lt g e).2
  · exact (h.rows.rw.lt g e).2
  · obtain ⟨c, t, hc, _⟩ := (h.ls x hx).type hl
    exact (Array.getElem?_eq_some_iff.1 hc).1
theorem FdAt.bge (h : FdAt w B hb vo vw P sz) {g : Nat} (hg : FdB hb vo vw P g) : B ≤ g := by
  rcases hg with rfl | e | e | ⟨x, hx, hl⟩
  · exact h.rows.lo
  · exact (h.rows.ro.lt g e).1
  · exact (h.rows.rw.lt g e).1
  · obtain ⟨c, t, hc, _, hb⟩ := (h.ls x hx).type hl
    exact hb
theorem odb_mem {p : Value × List UInt8} (hp : p ∈ odb (skL P)) : ∃ x ∈ P, ∃ z ∈ x.l, p = (z.od, z.ob) := by
  obtain ⟨j, hj⟩ := List.getElem?_of_mem hp
  obtain ⟨i, k, x, z, hx, hz, e, _⟩ := odb_get _ _ _ hj
  obtain ⟨y, hy, rfl⟩ := at_skL hx
  obtain ⟨a, ha, rfl⟩ := at_k hz
  exact ⟨y, List.mem_of_getElem? hy, a, List.mem_of_getElem? ha, e⟩
/-- Blocks of the book that are not bytes that were handed out. -/
def FdR (hb : Nat) (vo vw : Value) (P : List Ls) (g : Nat) : Prop := g = hb ∨ vo.ownBlock = some g ∨ vw.ownBlock = some g ∨ ∃ x ∈ P, x.ov.ownBlock = some g ∨ x.wv.ownBlock = some g ∨ ∃ z ∈ x.l, z.wd.ownBlock = some g
theorem FdR.b {g : Nat} (h : FdR hb vo vw P g) : FdB hb vo vw P g := by
  rcases h with e | e | e | ⟨x, hx, e | e | ⟨z, hz, e⟩⟩
  · exact .inl e
  · exact .inr (.inl e)
  · exact .inr (.inr (.inl e))
  · exact .inr (.inr (.inr ⟨x, hx, .inl e⟩))
  · exact .inr (.inr (.inr ⟨x, hx, .inr (.inl e)⟩))
  · exact .inr (.inr (.inr ⟨x, hx, .inr (.inr ⟨z, hz, .inr e⟩)⟩))
theorem FdAt.lab (h : FdAt w B hb vo vw P sz) (ha : Aps P) {bx g : Nat} (hbx : w.heap.size ≤ bx) (hg : FdR hb vo vw P g) : lab0 (skL P) bx g = .user 0 := by
  have hlt := h.blt hg.b
  refine lab0_user (by omega) (fun p hp e => ?_)
  obtain ⟨x, hx, z, hz, rfl⟩ := odb_mem hp
  have lz := (h.ls x hx).oo z hz
  obtain ⟨c, hc⟩ := row_typeR lz e
  rcases hg with rfl | e2 | e2 | ⟨y, hy, e2 | e2 | ⟨a, ha2, e2⟩⟩
  · exact clashF hc h.rows.box (by decide)
  · obtain ⟨c2, hc2⟩ := h.rows.tyO e2
    exact clashF hc hc2 (by decide)
  · obtain ⟨c2, hc2⟩ := h.rows.tyW e2
    exact clashF hc hc2 (by decide)
  · exact (lz.rowF (h.ls y hy).ro) g e e2
  · exact (lz.rowF (h.ls y hy).rw) g e e2
  · obtain ⟨i, hi⟩ := List.getElem?_of_mem hx
    obtain ⟨j, hj⟩ := List.getElem?_of_mem hy
    obtain ⟨m, hm⟩ := List.getElem?_of_mem hz
    obtain ⟨n, hn⟩ := List.getElem?_of_mem ha2
    exact (ha.dd i j x y m n z a hi hj hm hn).2 g e e2
/-- No block of the book is one of the other book's own. -/
theorem FdAt.notLists (h : FdAt w B hb vo vw P sz) {bx g : Nat} {lab : Nat → Tag} (hbx : w.heap.size ≤ bx) (hl : ∀ g, g ≤ bx → lab g = lab0 (skL P) bx g) (hg : FdB hb vo vw P g) : ¬ Lists lab g := by
  have hlt := h.blt hg
  intro hL
  have hlg := hl g (by omega)
  have : lab g = .user 0 ∨ ∃ j, lab g = .out j := by
    rw [hlg]
    unfold lab0
    rw [if_neg (by omega)]
    split
    · exact .inr ⟨_, rfl⟩
    · exact .inl rfl
  rcases this with e | ⟨j, e⟩ <;> rcases hL with h | h | h <;> rw [h] at e <;> cases e
end
/-- Where the spoiling of the book is, while its lists are marked. -/
structure SpI (w : World) (B hb : Nat) (vo vw : Value) (P : List Ls) (sz : Int) (bx n : Nat) (Pm : List Ls) (es : List Ent) (lab : Nat → Tag) (wr : World) : Prop where
  fd : FdAt wr B hb vo vw Pm sz
  sk : skL Pm = skL P
  held : Held wr B lab bx 0 es
  es : es.map (fun e => (e.out, e.bytes)) = (odb (skL P)).take n
  lab : ∀ g, g ≤ bx → lab g = lab0 (skL P) bx g
  kept : Kept (FdB hb vo vw P) w wr
theorem FdB_congr {hb : Nat} {vo vw : Value} {P Q : List Ls} (e : skL Q = skL P) {g : Nat} (h : FdB hb vo vw Q g) : FdB hb vo vw P g := by
  rcases h with h | h | h | ⟨x, hx, hl⟩
  · exact .inl h
  · exact .inr (.inl h)
  · exact .inr (.inr (.inl h))
  · obtain ⟨i, hi⟩ := List.getElem?_of_mem hx
    obtain ⟨y, hy, exy⟩ := at_skL (show (skL P)[i]? = some x.k by rw [← e]; exact skL_at hi)
    have e1 : x.ov = y.ov ∧ x.wv = y.wv := by simp only [Ls.k, Xk.mk.injEq] at exy; exact ⟨exy.1, exy.2.1⟩
    refine .inr (.inr (.inr ⟨y, List.mem_of_getElem? hy, ?_⟩))
    rcases hl with h | h | ⟨z, hz, h⟩
    · exact .inl (e1.1 ▸ h)
    · exact .inr (.inl (e1.2 ▸ h))
    · obtain ⟨k, hk⟩ := List.getElem?_of_mem hz
      obtain ⟨a, ha, eza⟩ := at_k (show y.k.l[k]? = some z.k by rw [← exy]; exact k_at hk)
      simp only [Fz.k, Zk.mk.injEq] at eza
      rw [eza.1, eza.2.2.1] at h
      exact .inr (.inr ⟨a, List.mem_of_getElem? ha, h⟩)
theorem FdR_congr {hb : Nat} {vo vw : Value} {P Q : List Ls} (e : skL Q = skL P) {g : Nat} (h : FdR hb vo vw Q g) : FdR hb vo vw P g := by
  rcases h with h | h | h | ⟨x, hx, hl⟩
  · exact .inl h
  · exact .inr (.inl h)
  · exact .inr (.inr (.inl h))
  · obtain ⟨i, hi⟩ := List.getElem?_of_mem hx
    obtain ⟨y, hy, exy⟩ := at_skL (show (skL P)[i]? = some x.k by rw [← e]; exact skL_at hi)
    have e1 : x.ov = y.ov ∧ x.wv = y.wv := by simp only [Ls.k, Xk.mk.injEq] at exy; exact ⟨exy.1, exy.2.1⟩
    refine .inr (.inr (.inr ⟨y, List.mem_of_getElem? hy, ?_⟩))
    rcases hl with h | h | ⟨z, hz, h⟩
    · exact .inl (e1.1 ▸ h)
    · exact .inr (.inl (e1.2 ▸ h))
    · obtain ⟨k, hk⟩ := List.getElem?_of_mem hz
      obtain ⟨a, ha, eza⟩ := at_k (show y.k.l[k]? = some z.k by rw [← exy]; exact k_at hk)
      simp only [Fz.k, Zk.mk.injEq] at eza
      rw [eza.2.2.1] at h
      exact .inr (.inr ⟨a, List.mem_of_getElem? ha, h⟩)
section
variable {w w0 wr w' : World} {B hb bx n : Nat} {vo vw : Value} {P Pm : List Ls} {sz : Int} {es : List Ent} {lab lab' : Nat → Tag}
theorem SpI.start (h0 : FdAt w0 B hb vo vw P sz) (hb0 : Below w.heap.size w w0) (hB : B ≤ w0.heap.size) : SpI w B hb vo vw P sz w0.heap.size 0 P [] (lab0 (skL P) w0.heap.size) (w0.alloc (.cells #[.slice none 0 0, .slice none 0 0] 74)) :=
  ⟨h0.later ((Below.refl _ w0).alloc (Nat.le_refl _) _), rfl, Held.start w0 B _ hB (lab0_box _ _), by simp, fun _ _ => rfl, (Kept.ofBelow hb0).trans (Kept.ofBelow ((Below.refl _ w0).alloc (Nat.le_refl _) _))⟩
theorem SpI.keep {e : Ent} (h : SpI w B hb vo vw P sz bx n Pm es lab wr) (h0 : FdAt w0 B hb vo vw P sz) (hbx : w0.heap.size ≤ bx) (hw : w.heap.size ≤ bx) (hbr : bx < wr.heap.size) (he : (odb (skL P))[n]? = some (e.out, e.bytes)) (hh : Held w' B lab' bx 0 (es ++ [e])) (hl : ∀ k, k < wr.heap.size → lab' k = lab k) (hk : Kept (Lists lab) wr w') :
    SpI w B hb vo vw P sz bx (n + 1) Pm (es ++ [e]) lab' w' := by
  have nl : ∀ g, FdB hb vo vw P g → ¬ Lists lab g := fun g hg => h0.notLists hbx h.lab hg
  refine ⟨h.fd.kept hk (fun g hg => nl g (FdB_congr h.sk hg)), h.sk, hh, ?_, fun g hg => (hl g (by omega)).trans (h.lab g hg), h.kept.step hk (fun j hj hL => ?_)⟩
  · rw [List.map_append, h.es, List.take_add_one, he]
    rfl
  · exfalso
    have e1 := h.lab j (by omega)
    have e2 : lab j = .user 0 ∨ ∃ i, lab j = .out i := by
      rw [e1]
      unfold lab0
      rw [if_neg (by omega)]
      split
      · exact .inr ⟨_, rfl⟩
      · exact .inl rfl
    rcases e2 with e | ⟨i, e⟩ <;> rcases hL with h | h | h <;> rw [h] at e <;> cases e
theorem SpI.mark {i k go gw co cw : Nat} {x : Ls} {z : Fz} (h : SpI w B hb vo vw P sz bx n Pm es lab wr) (ha : Aps P) (h0 : FdAt w0 B hb vo vw P sz) (hbx : w0.heap.size ≤ bx) (hx : Pm[i]? = some x) (hz : x.l[k]? = some z) (ho : x.ov = .slice (some ⟨go, 0, none⟩) x.l.length co) (hw : x.wv = .slice (some ⟨gw, 0, none⟩) x.l.length cw) (m : Int) (hm : -9223372036854775808 ≤ m ∧ m ≤ 9223372036854775807) :
    SpI w B hb vo vw P sz bx n (Pm.set i (x.mark k z m)) es lab ((wr.setCell ⟨go, k * 3, none⟩ (.int .i64 m)).setCell ⟨gw, k * 3, none⟩ (.int .i64 m)) := by
  obtain ⟨f1, k1⟩ := h.fd.mark (ha.congr h.sk) hx hz ho hw m hm
  have hR : ∀ g, g = go ∨ g = gw → FdR hb vo vw Pm g := fun g e => by
    rcases e with e | e
    · exact .inr (.inr (.inr ⟨x, List.mem_of_getElem? hx, .inl (by rw [ho, e]; rfl)⟩))
    · exact .inr (.inr (.inr ⟨x, List.mem_of_getElem? hx, .inr (.inl (by rw [hw, e]; rfl))⟩))
  have hU : ∀ g, g = go ∨ g = gw → lab g = .user 0 := fun g e => by
    have hR' := FdR_congr h.sk (hR g e)
    have := h0.blt hR'.b
    rw [h.lab g (by omega)]
    exact h0.lab ha hbx hR'
  refine ⟨f1, (skL_mark hx hz m).trans h.sk, h.held.kept k1 (fun g hg e => hg 0 (hU g e)), h.es, h.lab, h.kept.step k1 (fun j _ e => FdB_congr h.sk (hR j e).b)⟩
end
end Go.Proofs.Ytnpofjeiamjioaa
