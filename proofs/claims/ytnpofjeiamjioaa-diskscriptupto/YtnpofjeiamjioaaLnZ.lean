/-
  Lnd, Lend, LnX, Lod.
-/
import Derived.Test.YtnpofjeiamjioaaFdX
import Derived.Test.YtnpofjeiamjioaaLSm
import Derived.Test.YtnpofjeiamjioaaDkA
import Derived.Test.YtnpofjeiamjioaaSameG
import Derived.BigQuiet
import Derived.Test.YtnpofjeiamjioaaHStore
import Derived.Deep.MidRow
import Derived.Test.YtnpofjeiamjioaaLoadW
import Derived.Test.YtnpofjeiamjioaaRLoad
namespace Go.Proofs.Ytnpofjeiamjioaa
open Go.RowKit

/-- A file that is lent: what it reads as, where its bytes lie. -/
structure Ln where
  r : Rf
  g : Nat
  cap : Nat
def Ln.dv (x : Ln) : Value := .slice (some ⟨x.g, 0, none⟩) (x.r.data.length + 8) x.cap
def Ln.cells (x : Ln) : List Value := [.int .i64 x.r.num, .slice (some ⟨x.g, 0, none⟩) x.r.data.length x.cap, .int .i64 x.r.safe]
def lflat (Q : List Ln) : List Value := Q.flatMap Ln.cells
theorem lflat_length (Q : List Ln) : (lflat Q).length = Q.length * 3 := by
  induction Q with
  | nil => rfl
  | cons a Q ih =>
    show (a.cells ++ lflat Q).length = _
    rw [List.length_append, ih]
    simp [Ln.cells]
    omega
theorem lflat_append (a b : List Ln) : lflat (a ++ b) = lflat a ++ lflat b := by simp [lflat]
/-- The lists while they are laid. -/
structure LnAt (w : World) (B ob : Nat) (av dv : Value) (Q : List Ln) : Prop where
  box : w.heap[ob]? = some (.cells #[av, dv] 79 (0, 0))
  lo : B ≤ ob
  ra : w.ownsRow B 62 3 av Q.length (lflat Q)
  rd : w.ownsRow B 37 1 dv Q.length (Q.map Ln.dv)
  own : ∀ x ∈ Q, Own w B x.dv (x.r.data ++ marks 8)
  ap : ∀ (i j : Nat) x y, Q[i]? = some x → Q[j]? = some y → i ≠ j → x.g ≠ y.g
section
variable {w w' : World} {B ob : Nat} {av dv : Value} {Q : List Ln}
theorem LnAt.later (h : LnAt w B ob av dv Q) (hl : Below w.heap.size w w') : LnAt w' B ob av dv Q :=
  ⟨(hl.block _ (Array.getElem?_eq_some_iff.1 h.box).1).trans h.box, h.lo, row_keptR (P := fun _ => False) h.ra (Kept.ofBelow hl) (fun _ _ h => h), row_keptR (P := fun _ => False) h.rd (Kept.ofBelow hl) (fun _ _ h => h), fun x hx => (h.own x hx).below hl, h.ap⟩
theorem LnAt.cells (h : LnAt w B ob av dv Q) : w.cell? ⟨ob, 0, none⟩ = some av ∧ w.cell? ⟨ob, 1, none⟩ = some dv ∧ ∀ i, w.frozen? ⟨ob, i, none⟩ = false := by simp [World.cell?, World.frozen?, h.box]
theorem LnAt.forms (h : LnAt w B ob av dv Q) : ∃ a c b d, av = .slice a Q.length c ∧ dv = .slice b Q.length d := by
  obtain ⟨a, c, e⟩ := row_formR h.ra
  obtain ⟨b, d, f⟩ := row_formR h.rd
  exact ⟨a, c, b, d, e, f⟩
/-- One file more: what both appends and both stores make. -/
theorem LnAt.push {w2 w4 : World} {av' dv' : Value} {x : Ln} {o1 o2 : Obj} (h : LnAt w B ob av dv Q) (hx : Own w B x.dv (x.r.data ++ marks 8)) (hn : ∀ y ∈ Q, y.g ≠ x.g)
    (ho1 : w2.ownsRow B 62 3 av' (Q.length + 1) (lflat Q ++ x.cells)) (hg1 : (w.alloc o1).grownBy w2 av.ownBlock)
    (ho2 : w4.ownsRow B 37 1 dv' (Q.length + 1) (Q.map Ln.dv ++ [x.dv])) (hg2 : ((w2.setCell ⟨ob, 0, none⟩ av').alloc o2).grownBy w4 dv.ownBlock) :
    LnAt (w4.setCell ⟨ob, 1, none⟩ dv') B ob av' dv' (Q ++ [x]) ∧ Kept (fun g => g = ob ∨ av.ownBlock = some g ∨ dv.ownBlock = some g) w (w4.setCell ⟨ob, 1, none⟩ dv') ∧
      (w2.cell? ⟨ob, 0, none⟩ = some av ∧ w2.frozen? ⟨ob, 0, none⟩ = false) ∧ (w4.cell? ⟨ob, 1, none⟩ = some dv ∧ w4.frozen? ⟨ob, 1, none⟩ = false) := by
  have k1 : Kept (fun g => av.ownBlock = some g) w w2 := (Kept.ofBelow ((Below.refl _ w).alloc (Nat.le_refl _) o1)).trans (Kept.ofGrown hg1 (fun g e => e))
  have hlt := (Array.getElem?_eq_some_iff.1 h.box).1
  have b2 : w2.heap[ob]? = some (.cells #[av, dv] 79 (0, 0)) := (k1.block ob hlt (fun e => by
    obtain ⟨c, hc⟩ := row_typeR h.ra e
    exact clashF hc h.box (by decide))).trans h.box
  have k2 : Kept (fun g => g = ob) w2 (w2.setCell ⟨ob, 0, none⟩ av') := Kept.setCell _ _ _ _ _ rfl
  have b3 := (set_cells b2 0 av').1
  have d2 : w2.ownsRow B 37 1 dv Q.length (Q.map Ln.dv) := row_keptR h.rd k1 (fun g e e2 => by
    obtain ⟨c, hc⟩ := row_typeR h.rd e
    obtain ⟨c2, hc2⟩ := row_typeR h.ra e2
    exact clashF hc hc2 (by decide))
  have d3 := row_keptR d2 k2 (fun g e e2 => by
    obtain ⟨c, hc⟩ := row_typeR d2 e
    rw [e2] at hc
    exact clashF hc b2 (by decide))
  have k3 : Kept (fun g => dv.ownBlock = some g) (w2.setCell ⟨ob, 0, none⟩ av') w4 := (Kept.ofBelow ((Below.refl _ _).alloc (Nat.le_refl _) o2)).trans (Kept.ofGrown hg2 (fun g e => e))
  have b4 : w4.heap[ob]? = some (.cells #[av', dv] 79 (0, 0)) := (k3.block ob (Array.getElem?_eq_some_iff.1 b3).1 (fun e => by
    obtain ⟨c, hc⟩ := row_typeR d3 e
    exact clashF hc b3 (by decide))).trans b3
  have k4 : Kept (fun g => g = ob) w4 (w4.setCell ⟨ob, 1, none⟩ dv') := Kept.setCell _ _ _ _ _ rfl
  have kk : Kept (fun g => g = ob ∨ av.ownBlock = some g ∨ dv.ownBlock = some g) w (w4.setCell ⟨ob, 1, none⟩ dv') := ((k1.mono (fun g _ e => .inr (.inl e))).trans ((k2.mono (fun g _ e => .inl e)).trans (k3.mono (fun g _ e => .inr (.inr e))))).trans (k4.mono (fun g _ e => .inl e))
  have a3 := row_keptR ho1 k2 (fun g e e2 => by
    obtain ⟨c, hc⟩ := row_typeR ho1 e
    rw [e2] at hc
    exact clashF hc b2 (by decide))
  have a4 := row_keptR a3 k3 (fun g e e2 => by
    obtain ⟨c, hc⟩ := row_typeR a3 e
    obtain ⟨c2, hc2⟩ := row_typeR d3 e2
    exact clashF hc hc2 (by decide))
  have n8 : ∀ {u : Value} {d : List UInt8}, Own w B u d → Own (w4.setCell ⟨ob, 1, none⟩ dv') B u d := fun {u d} hu => Kept.own kk hu (fun g e e2 => by
    obtain ⟨c, hc⟩ := row_typeR hu e
    rcases e2 with e2 | e2 | e2
    · rw [e2] at hc
      exact clashF hc h.box (by decide)
    · obtain ⟨c2, hc2⟩ := row_typeR h.ra e2
      exact clashF hc hc2 (by decide)
    · obtain ⟨c2, hc2⟩ := row_typeR h.rd e2
      exact clashF hc hc2 (by decide))
  refine ⟨⟨(set_cells b4 1 dv').1, h.lo, ?_, ?_, fun y hy => ?_, fun i j y z hy hz hij => ?_⟩, kk, ⟨by simp [World.cell?, b2], by simp [World.frozen?, b2]⟩, ⟨by simp [World.cell?, b4], by simp [World.frozen?, b4]⟩⟩
  · rw [List.length_append, lflat_append]
    have := row_keptR a4 k4 (fun g e e2 => by
      obtain ⟨c, hc⟩ := row_typeR a4 e
      rw [e2] at hc
      exact clashF hc b4 (by decide))
    simpa [lflat] using this
  · rw [List.length_append, List.map_append]
    exact row_keptR ho2 k4 (fun g e e2 => by
      obtain ⟨c, hc⟩ := row_typeR ho2 e
      rw [e2] at hc
      exact clashF hc b4 (by decide))
  · rcases List.mem_append.1 hy with hy | hy
    · exact n8 (h.own y hy)
    · have : y = x := by simpa using hy
      rw [this]
      exact n8 hx
  · rcases snoc_keyR hy with hy2 | ⟨e1, rfl⟩ <;> rcases snoc_keyR hz with hz2 | ⟨e3, rfl⟩
    · exact h.ap i j y z hy2 hz2 hij
    · exact hn y (List.mem_of_getElem? hy2)
    · exact fun e => hn z (List.mem_of_getElem? hz2) e.symm
    · omega
end
end Go.Proofs.Ytnpofjeiamjioaa

namespace Go.Proofs.Ytnpofjeiamjioaa
open Go.RowKit

theorem info_lent : (Try.prog.info? 79).map (·.size) = some 2 := by kernel_rfl
theorem under_lent : Try.prog.underlying 79 = some (.struct (Try.prog.fieldsOf 79)) := by kernel_rfl
/-- What was lent. -/
structure LentAt (w : World) (B : Nat) (av dv : Value) (Q : List Ln) : Prop where
  ra : w.ownsRow B 62 3 av (Q.length + 1) (lflat Q ++ [.int .i64 (-7), .slice none 0 0, .int .i64 0])
  rd : w.ownsRow B 37 1 dv Q.length (Q.map Ln.dv)
  own : ∀ x ∈ Q, Own w B x.dv (x.r.data ++ marks 8)
  ap : ∀ (i j : Nat) x y, Q[i]? = some x → Q[j]? = some y → i ≠ j → x.g ≠ y.g
def LendP (w : World) (R : List Rf) (e : Ending) (w' : World) : Prop :=
  Below w.heap.size w w' ∧ ∃ av dv Q, e = .returned (.agg #[av, dv]) ∧ LentAt w' w.heap.size av dv Q ∧ Q.map (·.r) = R
section
variable {w w' : World} {B ob : Nat} {av dv : Value} {Q : List Ln}
theorem LnAt.mid {w2 : World} {o1 : Obj} {av' : Value} (h : LnAt w B ob av dv Q) (hg1 : (w.alloc o1).grownBy w2 av.ownBlock) :
    w2.heap[ob]? = some (.cells #[av, dv] 79 (0, 0)) ∧ (w2.setCell ⟨ob, 0, none⟩ av').heap[ob]? = some (.cells #[av', dv] 79 (0, 0)) ∧ (w2.setCell ⟨ob, 0, none⟩ av').ownsRow B 37 1 dv Q.length (Q.map Ln.dv) := by
  have k1 : Kept (fun g => av.ownBlock = some g) w w2 := (Kept.ofBelow ((Below.refl _ w).alloc (Nat.le_refl _) o1)).trans (Kept.ofGrown hg1 (fun g e => e))
  have hlt := (Array.getElem?_eq_some_iff.1 h.box).1
  have b2 : w2.heap[ob]? = some (.cells #[av, dv] 79 (0, 0)) := (k1.block ob hlt (fun e => by
    obtain ⟨c, hc⟩ := row_typeR h.ra e
    exact clashF hc h.box (by decide))).trans h.box
  have k2 : Kept (fun g => g = ob) w2 (w2.setCell ⟨ob, 0, none⟩ av') := Kept.setCell _ _ _ _ _ rfl
  have b3 := (set_cells b2 0 av').1
  have d2 : w2.ownsRow B 37 1 dv Q.length (Q.map Ln.dv) := row_keptR h.rd k1 (fun g e e2 => by
    obtain ⟨c, hc⟩ := row_typeR h.rd e
    obtain ⟨c2, hc2⟩ := row_typeR h.ra e2
    exact clashF hc hc2 (by decide))
  exact ⟨b2, b3, row_keptR d2 k2 (fun g e e2 => by
    obtain ⟨c, hc⟩ := row_typeR d2 e
    rw [e2] at hc
    exact clashF hc b2 (by decide))⟩
/-- The last file, with which nothing is lent. -/
theorem LnAt.last {w2 : World} {av' : Value} {o1 : Obj} {rb : Nat} (h : LnAt w B ob av dv Q) (ho1 : w2.ownsRow B 62 3 av' (Q.length + 1) (lflat Q ++ [.int .i64 (-7), .slice none 0 0, .int .i64 0])) (hg1 : (w.alloc o1).grownBy w2 av.ownBlock)
    (hr : w.heap[rb]? = some (.cells #[.slice none 0 0, .slice none 0 0] 79 (0, 0))) (hne : rb ≠ ob) :
    (w2.setCell ⟨ob, 0, none⟩ av').heap[rb]? = some (.cells #[.slice none 0 0, .slice none 0 0] 79 (0, 0)) ∧ LentAt ((w2.setCell ⟨ob, 0, none⟩ av').setRow rb #[av', dv]) B av' dv Q ∧ Kept (fun g => av.ownBlock = some g ∨ g = ob ∨ g = rb) w ((w2.setCell ⟨ob, 0, none⟩ av').setRow rb #[av', dv]) := by
  have k1 : Kept (fun g => av.ownBlock = some g) w w2 := (Kept.ofBelow ((Below.refl _ w).alloc (Nat.le_refl _) o1)).trans (Kept.ofGrown hg1 (fun g e => e))
  obtain ⟨b2, b3, d3⟩ := h.mid (av' := av') hg1
  have r2 : w2.heap[rb]? = some (.cells #[.slice none 0 0, .slice none 0 0] 79 (0, 0)) := (k1.block rb (Array.getElem?_eq_some_iff.1 hr).1 (fun e => by
    obtain ⟨c, hc⟩ := row_typeR h.ra e
    exact clashF hc hr (by decide))).trans hr
  have k2 : Kept (fun g => g = ob) w2 (w2.setCell ⟨ob, 0, none⟩ av') := Kept.setCell _ _ _ _ _ rfl
  have r3 := (k2.block rb (Array.getElem?_eq_some_iff.1 r2).1 (fun e => hne e)).trans r2
  obtain ⟨w3, hw3⟩ : ∃ w3, w3 = w2.setCell ⟨ob, 0, none⟩ av' := ⟨_, rfl⟩
  rw [← hw3] at b3 d3 k2 r3 ⊢
  have k3 : Kept (fun g => g = rb) w3 (w3.setRow rb #[av', dv]) := ⟨rfl, rfl, rfl, by simp [World.setRow], fun k _ hk => setRow_other w3 _ k _ hk⟩
  have kk : Kept (fun g => av.ownBlock = some g ∨ g = ob ∨ g = rb) w (w3.setRow rb #[av', dv]) := ((k1.mono (fun g _ e => .inl e)).trans (k2.mono (fun g _ e => .inr (.inl e)))).trans (k3.mono (fun g _ e => .inr (.inr e)))
  have a3 := row_keptR ho1 k2 (fun g e e2 => by
    obtain ⟨c, hc⟩ := row_typeR ho1 e
    rw [e2] at hc
    exact clashF hc b2 (by decide))
  refine ⟨r3, ⟨row_keptR a3 k3 (fun g e e2 => ?_), row_keptR d3 k3 (fun g e e2 => ?_), fun x hx => Kept.own kk (h.own x hx) (fun g e e2 => ?_), h.ap⟩, kk⟩
  · obtain ⟨c, hc⟩ := row_typeR a3 e
    rw [e2] at hc
    exact clashF hc r3 (by decide)
  · obtain ⟨c, hc⟩ := row_typeR d3 e
    rw [e2] at hc
    exact clashF hc r3 (by decide)
  · obtain ⟨c, hc⟩ := row_typeR (h.own x hx) e
    rcases e2 with e2 | e2 | e2
    · obtain ⟨c2, hc2⟩ := row_typeR h.ra e2
      exact clashF hc hc2 (by decide)
    · rw [e2] at hc
      exact clashF hc h.box (by decide)
    · rw [e2] at hc
      exact clashF hc hr (by decide)
theorem LnAt.keptB {bx : Nat} (h : LnAt w B ob av dv Q) (hk : Kept (fun g => g = bx) w w') (h0 : ob ≠ bx) (h1 : av.ownBlock ≠ some bx) (h2 : dv.ownBlock ≠ some bx) (h3 : ∀ x ∈ Q, x.g ≠ bx) : LnAt w' B ob av dv Q :=
  ⟨(hk.block _ (Array.getElem?_eq_some_iff.1 h.box).1 h0).trans h.box, h.lo, row_keptR h.ra hk (fun g e e2 => h1 (e2 ▸ e)), row_keptR h.rd hk (fun g e e2 => h2 (e2 ▸ e)), fun x hx => Kept.own hk (h.own x hx) (fun g e e2 => h3 x hx (by simp [Ln.dv, Value.ownBlock] at e; omega)), h.ap⟩
theorem LnAt.glt (h : LnAt w B ob av dv Q) {x : Ln} (hx : x ∈ Q) : x.g < w.heap.size := ((h.own x hx).lt x.g rfl).2
end
set_option maxHeartbeats 4000000 in
set_option maxRecDepth 1000000 in
theorem lend_any (w : World) (a : Option Addr) (c : Nat) (R : List Rf) (h : IsRaw w a c R) (hn : R.length ≤ 1048576) (ht : totR R ≤ 1073741823) :
    Calls Try.prog 36 #[.slice a R.length c] w (LendP w R) := by
  have HH := hideR h
  obtain ⟨N, hN⟩ : ∃ N, N = R.length := ⟨_, rfl⟩
  have HN := hideR hN
  rw [← hN] at hn ⊢
  obtain ⟨w2, hw2⟩ : ∃ w2, w2 = (w.alloc (.cells #[.slice none 0 0, .slice none 0 0] 79)).alloc (.cells #[.slice none 0 0, .slice none 0 0] 79) := ⟨_, rfl⟩
  have b2 : Below w.heap.size w w2 := by rw [hw2]; exact ((Below.refl _ w).alloc (Nat.le_refl _) _).alloc (by simp) _
  have r2 : w2.heap[w.heap.size]? = some (.cells #[.slice none 0 0, .slice none 0 0] 79 (0, 0)) := by
    rw [hw2]
    exact (heap_alloc_old (w.alloc (.cells #[.slice none 0 0, .slice none 0 0] 79)) _ (by simp)).trans (heap_alloc_new w _)
  have l2 : LnAt w2 w.heap.size (w.heap.size + 1) (.slice none 0 0) (.slice none 0 0) [] := by
    refine ⟨?_, by omega, World.ownsRow_nil _ _ _ _, World.ownsRow_nil _ _ _ _, fun x hx => by simp at hx, fun i j x y hx => by simp at hx⟩
    rw [hw2]
    have := heap_alloc_new (w.alloc (.cells #[.slice none 0 0, .slice none 0 0] 79)) (.cells #[.slice none 0 0, .slice none 0 0] 79)
    rw [World.size_alloc] at this
    exact this
  have HB2 := hideR b2
  have HL2 := hideR l2
  have HR2 := hideR r2
  clear h hN b2 l2 r2
  go_enter Try.func36, Try.ntmps36
  go_wp2_with fail
  rw [← hw2]
  clear hw2
  go_loopg [4] N (fun gk s4 wr => ∃ (k : Nat) (aa da : Option Addr) (ac dc : Nat) (Q : List Ln), s4 = .int .i64 (k : Int) ∧ N - k ≤ gk ∧ k ≤ N ∧ HidR (Below w.heap.size w wr ∧ wr.heap[w.heap.size]? = some (.cells #[.slice none 0 0, .slice none 0 0] 79 (0, 0)) ∧ LnAt wr w.heap.size (w.heap.size + 1) (.slice aa k ac) (.slice da k dc) Q) ∧ HidR (Q.map (·.r) = R.take k))
  case atStart => exact ⟨0, none, none, 0, 0, [], rfl, by omega, by omega, ⟨⟨HB2.out, HR2.out, HL2.out⟩⟩, ⟨by simp⟩⟩
  case round =>
    clear HB2 HL2 HR2
    obtain ⟨k, aa, da, ac, dc, Q, rfl, hgk, hk, HW, HM⟩ := hrel
    have hql : Q.length = k := by have := congrArg List.length HM.out; simp at this; have := HN.out; omega
    have HQL := hideR hql
    clear hql
    by_cases hlt : k < N
    · have tlt : (k : Int) < (N : Int) := by omega
      obtain ⟨x, hx⟩ : ∃ x, R[k]? = some x := ⟨_, List.getElem?_eq_getElem (by have := HN.out; omega)⟩
      obtain ⟨b, o, ea, hbw, m0, ⟨xa, xc, m1, hi⟩, m2⟩ := (HH.out.below HW.out.1).at hx
      subst ea
      have hdl : x.data.length ≤ 1073741823 := by have h2 := totR_take R k x hx; have h3 := totR_le R (k + 1); omega
      have HX : HidR (R.take (k + 1) = R.take k ++ [x]) := ⟨by rw [List.take_add_one, hx]; rfl⟩
      obtain ⟨w3, hw3⟩ : ∃ w3, w3 = wr.alloc (.cells #[.int .i64 x.num, .slice xa x.data.length xc, .int .i64 x.safe] 62) := ⟨_, rfl⟩
      have b3 : Below wr.heap.size wr w3 := by rw [hw3]; exact (Below.refl _ wr).alloc (Nat.le_refl _) _
      have x3 : w3.heap[wr.heap.size]? = some (.cells #[.int .i64 x.num, .slice xa x.data.length xc, .int .i64 x.safe] 62 (0, 0)) := by rw [hw3]; exact heap_alloc_new wr _
      have c1 : w3.cell? ⟨wr.heap.size, 1, none⟩ = some (.slice xa x.data.length xc) := by simp [World.cell?, x3]
      have CL := hideR (lent_any xa xc x.data w3 (hi.below b3) (by omega))
      have HW3 := hideR hw3
      have HX3 := hideR x3
      have HB3 := hideR b3
      clear hx hi hw3 b3 x3 hbw
      go_upto_region 6 with fail
      rw [← HW3.out]
      clear m0 m1 m2
      go_upto_region 7 with (go_at_call 40
                             refine CL.out.mono ?_
                             rintro e w4 ⟨g, cap, rfl, o4, b4⟩
                             have O4 := hideR o4
                             have B4 := hideR b4
                             have hc4 : x.data.length + 8 ≤ cap ∧ cap ≤ 9223372036854775807 := by
                               obtain ⟨a1, c1, e1, hi⟩ := o4.shape
                               simp only [Value.slice.injEq] at e1
                               obtain ⟨rfl, _, rfl⟩ := e1
                               have h1 := hi.1
                               have h2 := hi.2.1
                               unfold maxLen at h2
                               simp [marks] at h1
                               omega
                             clear o4 b4)
      clear c1
      have x4 := (B4.out.block _ (Array.getElem?_eq_some_iff.1 HX3.out).1).trans HX3.out
      have d2 : w4.cell? ⟨wr.heap.size, 1, none⟩ = some (.slice xa x.data.length xc) := by simp [World.cell?, x4]
      have d3 : w4.frozen? ⟨wr.heap.size, 1, none⟩ = false := by simp [World.frozen?, x4]
      have i0 : (0 : Int) ≤ (x.data.length : Int) := by omega
      have i1 : (x.data.length : Int) ≤ (cap : Int) := by omega
      have i2 : (x.data.length : Int) ≤ ((x.data.length + 8 : Nat) : Int) := by omega
      have i3 : (x.data.length : Int) ≤ (x.data.length : Int) + 8 := by omega
      go_upto_region 8 with fail
      clear d2 d3
      obtain ⟨w5, hw5⟩ : ∃ w5, w5 = w4.setCell ⟨wr.heap.size, 1, none⟩ (.slice (some ⟨g, 0, none⟩) x.data.length cap) := ⟨_, rfl⟩
      rw [← hw5]
      have x5 : w5.heap[wr.heap.size]? = some (.cells #[.int .i64 x.num, .slice (some ⟨g, 0, none⟩) x.data.length cap, .int .i64 x.safe] 62 (0, 0)) := by rw [hw5]; exact (set_cells x4 1 _).1
      have k5 : Kept (fun j => j = wr.heap.size) w4 w5 := by rw [hw5]; exact Kept.setCell _ _ _ _ _ rfl
      have hzw := HW.out.1.size
      have hz3 := HB3.out.size
      have b4 : Below wr.heap.size wr w4 := HB3.out.trans (B4.out.mono hz3)
      have l4 := HW.out.2.2.later b4
      have hob := (Array.getElem?_eq_some_iff.1 HW.out.2.2.box).1
      have hz34 : w3.heap.size = wr.heap.size + 1 := by rw [HW3.out]; simp
      have hgl : w3.heap.size ≤ g := (O4.out.lt g rfl).1
      have l5 : LnAt w5 w.heap.size (w.heap.size + 1) (.slice aa k ac) (.slice da k dc) Q := by
        refine l4.keptB k5 (by omega) (fun e => ?_) (fun e => ?_) (fun y hy e => ?_)
        · have := (HW.out.2.2.ra.lt _ e).2; omega
        · have := (HW.out.2.2.rd.lt _ e).2; omega
        · have := HW.out.2.2.glt hy; omega
      have kw5 : Kept (fun j => j = wr.heap.size) wr w5 := (Kept.ofBelow b4).trans k5
      have bw5 : Below w.heap.size w w5 := HW.out.1.trans (kw5.below hzw (fun j hj e => by omega))
      have r5 : w5.heap[w.heap.size]? = some (.cells #[.slice none 0 0, .slice none 0 0] 79 (0, 0)) := (kw5.block _ (by omega) (fun e => by omega)).trans HW.out.2.1
      have o5a : Own w5 w3.heap.size (.slice (some ⟨g, 0, none⟩) (x.data.length + 8) cap) (x.data ++ marks 8) := Kept.own k5 O4.out (fun j e e2 => by simp [Value.ownBlock] at e; omega)
      have o5 : Own w5 w.heap.size (.slice (some ⟨g, 0, none⟩) (x.data.length + 8) cap) (x.data ++ marks 8) := o5a.mono (by omega)
      have gn : ∀ y ∈ Q, y.g ≠ g := fun y hy e => by have := HW.out.2.2.glt hy; omega
      have H5 := hideR (And.intro l5 (And.intro bw5 (And.intro r5 (And.intro o5 gn))))
      have hz5 := bw5.size
      obtain ⟨g0, g1, g2⟩ : w5.cell? ⟨wr.heap.size, 0, none⟩ = some (.int .i64 x.num) ∧ w5.cell? ⟨wr.heap.size, 1, none⟩ = some (.slice (some ⟨g, 0, none⟩) x.data.length cap) ∧ w5.cell? ⟨wr.heap.size, 2, none⟩ = some (.int .i64 x.safe) := by simp [World.cell?, x5]
      obtain ⟨q0, q1, q2⟩ := l5.cells
      clear hw5 x5 k5 b4 l4 l5 kw5 bw5 r5 o5 o5a gn x4 q1 q2
      go_upto_region 9 with (first
        | (refine wpList_fapp rfl (.tmp 28) (.tmp 30) rfl w.heap.size (.slice aa k ac) Q.length (lflat Q) rfl (H5.out.1.ra.alloc _) (some ⟨w5.heap.size, 0, none⟩) 1 1 [.int .i64 x.num, .slice (some ⟨g, 0, none⟩) x.data.length cap, .int .i64 x.safe] rfl rfl (.inr (src_one w5 x.num x.safe (.slice (some ⟨g, 0, none⟩) x.data.length cap))) one_file (by have := HQL.out; omega) (by rw [World.size_alloc]; omega) ?_
           intro v6 w6 ho hg _ _ _
           obtain ⟨a6, c6, e6⟩ := row_formR ho
           rw [HQL.out] at e6
           subst e6
           obtain ⟨m1, m2, m3⟩ := H5.out.1.mid (av' := .slice a6 (k + 1) c6) hg
           have f1 : w6.cell? ⟨w.heap.size + 1, 0, none⟩ = some (.slice aa k ac) := by simp [World.cell?, m1]
           have f2 : w6.frozen? ⟨w.heap.size + 1, 0, none⟩ = false := by simp [World.frozen?, m1]
           have HO6 := hideR (And.intro ho hg)
           have HM6 := hideR (And.intro m2 m3)
           clear ho hg m1 m2 m3))
      obtain ⟨w7, hw7⟩ : ∃ w7, w7 = w6.setCell ⟨w.heap.size + 1, 0, none⟩ (.slice a6 (k + 1) c6) := ⟨_, rfl⟩
      rw [← hw7]
      have HW7 := hideR hw7
      obtain ⟨m2, m3⟩ := HM6.out
      rw [← hw7] at m2 m3
      have p1 : w7.cell? ⟨w.heap.size + 1, 1, none⟩ = some (.slice da k dc) := by simp [World.cell?, m2]
      have M3 : HidR (w7.ownsRow w.heap.size 37 1 (.slice da k dc) (Q.map Ln.dv).length (Q.map Ln.dv)) := ⟨by rw [List.length_map]; exact m3⟩
      have h7 := (m3.lt)
      have hz7 : w.heap.size ≤ w7.heap.size := by have := (Array.getElem?_eq_some_iff.1 m2).1; omega
      clear hw7 m2 m3 h7 f1 f2 q0 g0 g1 g2
      go_wp2_with (first
        | (refine wpList_push rfl (.tmp 34) (.tmp 36) rfl w.heap.size (.slice da k dc) (Q.map Ln.dv) rfl M3.out (.slice (some ⟨g, 0, none⟩) (x.data.length + 8) cap) _ rfl rfl rfl (by rw [List.length_map, HQL.out]; omega) hz7 ?_
           intro v8 w8 ho8 hg8 _
           rw [List.length_map] at ho8
           obtain ⟨a8, c8, e8⟩ := row_formR ho8
           rw [HQL.out] at e8
           subst e8
           rw [HW7.out] at hg8
           obtain ⟨P1, P2, P3, P4⟩ := H5.out.1.push (x := ⟨x, g, cap⟩) H5.out.2.2.2.1 H5.out.2.2.2.2 HO6.out.1 HO6.out.2 ho8 hg8
           obtain ⟨f3, f4⟩ := P4
           have HP := hideR (And.intro P1 P2)
           clear ho8 hg8 P1 P2 P3))
      go_roundg (N - (k + 1))
      case measure => omega
      case rel =>
        obtain ⟨P1, P2⟩ := HP.out
        refine ⟨k + 1, a6, a8, c6, c8, Q ++ [⟨x, g, cap⟩], by go_num, Nat.le_refl _, hlt, ⟨⟨?_, ?_, P1⟩⟩, ⟨?_⟩⟩
        · refine H5.out.2.1.trans (P2.below H5.out.2.1.size (fun j hj e => ?_))
          rcases e with e | e | e
          · omega
          · have := (H5.out.1.ra.lt j e).1; omega
          · have := (H5.out.1.rd.lt j e).1; omega
        · refine (P2.block _ (by have := (Array.getElem?_eq_some_iff.1 H5.out.2.2.1).1; omega) (fun e => ?_)).trans H5.out.2.2.1
          rcases e with e | e | e
          · omega
          · obtain ⟨ct, hc⟩ := row_typeR H5.out.1.ra e
            exact clashF hc H5.out.2.2.1 (by decide)
          · obtain ⟨ct, hc⟩ := row_typeR H5.out.1.rd e
            exact clashF hc H5.out.2.2.1 (by decide)
        · rw [List.map_append, HM.out, HX.out]
          rfl
    · have tlt : ¬ (k : Int) < (N : Int) := by omega
      obtain rfl : k = N := by omega
      have hzw := HW.out.1.size
      obtain ⟨q0, q1, q2⟩ := HW.out.2.2.cells
      clear q1 q2
      go_upto_region 11 with (first
        | (refine wpList_fapp rfl (.tmp 40) (.tmp 42) rfl w.heap.size (.slice aa k ac) Q.length (lflat Q) rfl (HW.out.2.2.ra.alloc _) (some ⟨wr.heap.size, 0, none⟩) 1 1 [.int .i64 (-7), .slice none 0 0, .int .i64 0] rfl rfl (.inr (src_one wr (-7) 0 (.slice none 0 0))) one_file (by have := HQL.out; omega) (by rw [World.size_alloc]; omega) ?_
           intro v6 w6 ho hg _ _ _
           obtain ⟨a6, c6, e6⟩ := row_formR ho
           rw [HQL.out] at e6
           subst e6
           obtain ⟨m1, m2, m3⟩ := HW.out.2.2.mid (av' := .slice a6 (k + 1) c6) hg
           have f1 : w6.cell? ⟨w.heap.size + 1, 0, none⟩ = some (.slice aa k ac) := by simp [World.cell?, m1]
           have f2 : w6.frozen? ⟨w.heap.size + 1, 0, none⟩ = false := by simp [World.frozen?, m1]
           obtain ⟨m4, m5, m6⟩ := HW.out.2.2.last ho hg HW.out.2.1 (by omega)
           have HM4 := hideR (And.intro m4 (And.intro m5 m6))
           have HM2 := hideR m2
           clear ho hg m1 m2 m3 m4 m5 m6))
      obtain ⟨w7, hw7⟩ : ∃ w7, w7 = w6.setCell ⟨w.heap.size + 1, 0, none⟩ (.slice a6 (k + 1) c6) := ⟨_, rfl⟩
      rw [← hw7]
      have HW7 := hideR hw7
      have m2 := HM2.out
      rw [← hw7] at m2
      obtain ⟨p0, p1⟩ : w7.cell? ⟨w.heap.size + 1, 0, none⟩ = some (.slice a6 (k + 1) c6) ∧ w7.cell? ⟨w.heap.size + 1, 1, none⟩ = some (.slice da k dc) := by simp [World.cell?, m2]
      have m4 := HM4.out
      rw [← hw7] at m4
      have HM5 := hideR m4
      clear hw7 m2 m4 f1 f2 q0
      go_wp2_with (refine wpList_store_row rfl 79 (.tmp 2) (.tmp 45) rfl w.heap.size #[.slice a6 (k + 1) c6, .slice da k dc] rfl rfl 79 #[.slice none 0 0, .slice none 0 0] HM5.out.1 info_lent rfl (by simp [Value.oneCell']) ?_)
      refine bodyPost_ret (results_cell_row rfl _ _ w.heap.size 79 _ (0, 0) _ rfl (setRow_heap _ _ _ _ _ _ HM5.out.1) under_lent rfl info_lent) rfl ?_
      obtain ⟨n1, n2, n3⟩ := HM5.out
      refine ⟨HW.out.1.trans (n3.below hzw (fun j hj e => ?_)), _, _, Q, rfl, n2, by rw [HM.out, HN.out, List.take_length]⟩
      rcases e with e | e | e
      · have := (HW.out.2.2.ra.lt j e).1; omega
      · omega
      · omega
end Go.Proofs.Ytnpofjeiamjioaa

namespace Go.Proofs.Ytnpofjeiamjioaa
open Go.RowKit

theorem lflat_at : ∀ (Q : List Ln) (j : Nat) (x : Ln), Q[j]? = some x → ∀ (k : Nat) u, k < 3 → x.cells[k]? = some u → ∀ t, (lflat Q ++ t)[j * 3 + k]? = some u := by
  intro Q
  induction Q with
  | nil => intro j x h; simp at h
  | cons a Q ih =>
    intro j x hx k u hk hu t
    show ((a.cells ++ lflat Q) ++ t)[_]? = _
    have ha : a.cells.length = 3 := by simp [Ln.cells]
    cases j with
    | zero =>
      obtain rfl : a = x := by simpa using hx
      rw [List.append_assoc, List.getElem?_append_left (by omega), Nat.zero_mul, Nat.zero_add]
      exact hu
    | succ j =>
      rw [List.append_assoc, List.getElem?_append_right (by omega), ha, show (j + 1) * 3 + k - 3 = j * 3 + k by omega]
      exact ih j x (by simpa using hx) k u hk hu t
theorem LentAt.raw {w : World} {B : Nat} {av dv : Value} {Q : List Ln} (h : LentAt w B av dv Q) (hf : ∀ x ∈ Q, rawFits x.r) :
    ∃ g c, av = .slice (some ⟨g, 0, none⟩) (Q.length + 1) c ∧ Q.length + 1 ≤ c ∧ c ≤ maxLen ∧ IsRaw w (some ⟨g, 0, none⟩) c (Q.map (·.r)) ∧ w.cell? ⟨g, Q.length * 3, none⟩ = some (.int .i64 (-7)) := by
  rcases h.ra.2 with ⟨_, h0⟩ | ⟨g, cap, cur, rfl, _, hg, hnc, hcm, _⟩
  · omega
  · have hc : ∀ k u, (lflat Q ++ [Value.int .i64 (-7), .slice none 0 0, .int .i64 0])[k]? = some u → w.cell? ⟨g, k, none⟩ = some u := fun k u hu => cell_at (h.ra.cells (g := g) rfl k u hu)
    refine ⟨g, cap, rfl, hnc, hcm, ⟨by rw [List.length_map]; omega, hcm, fun x hx => ?_, .inr ⟨g, 0, rfl, (Array.getElem?_eq_some_iff.1 hg).1, fun j x hj => ?_⟩⟩, ?_⟩
    · obtain ⟨p, hp, rfl⟩ := List.mem_map.1 hx
      exact hf p hp
    · rw [List.getElem?_map] at hj
      obtain ⟨p, hp, rfl⟩ := Option.map_eq_some_iff.1 hj
      have ho := h.own p (List.mem_of_getElem? hp)
      obtain ⟨a, c, e, hi⟩ := ho.shape
      simp only [Ln.dv, Value.slice.injEq] at e
      obtain ⟨rfl, _, rfl⟩ := e
      have at3 : ∀ k u, k < 3 → p.cells[k]? = some u → w.cell? ⟨g, 0 + j * 3 + k, none⟩ = some u := fun k u hk hu => by
        rw [show 0 + j * 3 + k = j * 3 + k by omega]
        exact hc _ u (lflat_at Q j p hp k u hk hu _)
      exact ⟨at3 0 _ (by omega) rfl, ⟨_, _, at3 1 _ (by omega) rfl, hi.cut⟩, at3 2 _ (by omega) rfl⟩
    · refine hc _ _ ?_
      rw [List.getElem?_append_right (by rw [lflat_length]; omega), lflat_length, Nat.sub_self]
      rfl
set_option maxHeartbeats 4000000 in
set_option maxRecDepth 1000000 in
theorem lstill_any (w : World) (B : Nat) (av dv : Value) (Q : List Ln) (a2 : Option Addr) (c2 : Nat) (R : List Rf) (h : LentAt w B av dv Q) (hQ : Q.map (·.r) = R) (h2 : IsRaw w a2 c2 R) :
    Calls Try.prog 38 #[.agg #[av, dv], .slice a2 R.length c2] w fun e w' => e = .returned (.bool true) ∧ Below w.heap.size w w' := by
  obtain ⟨N, hN⟩ : ∃ N, N = R.length := ⟨_, rfl⟩
  have hql : Q.length = N := by rw [hN, ← hQ, List.length_map]
  obtain ⟨g, c, rfl, hnc, hcm, hraw, h7⟩ := h.raw (fun x hx => h2.2.2.1 x.r (by rw [← hQ]; exact List.mem_map_of_mem hx))
  rw [hQ] at hraw
  rw [hql] at h h7 hnc ⊢
  obtain ⟨da, dc, rfl, hdm, hdn, hdr⟩ := row_shape h.rd
  rw [hql] at hdn hdr h ⊢
  have HN := hideR hN
  obtain ⟨w1, hw1⟩ : ∃ w1, w1 = w.alloc (.cells #[.slice (some ⟨g, 0, none⟩) (N + 1) c, .slice da N dc] 79) := ⟨_, rfl⟩
  have b1 : Below w.heap.size w w1 := by rw [hw1]; exact (Below.refl _ w).alloc (Nat.le_refl _) _
  have x1 : w1.heap[w.heap.size]? = some (.cells #[.slice (some ⟨g, 0, none⟩) (N + 1) c, .slice da N dc] 79 (0, 0)) := by rw [hw1]; exact heap_alloc_new w _
  obtain ⟨k0, k1⟩ : w1.cell? ⟨w.heap.size, 0, none⟩ = some (.slice (some ⟨g, 0, none⟩) (N + 1) c) ∧ w1.cell? ⟨w.heap.size, 1, none⟩ = some (.slice da N dc) := by simp [World.cell?, x1]
  have hgw := (h.ra.lt g rfl).2
  have h7' : w1.cell? ⟨g, N * 3, none⟩ = some (.int .i64 (-7)) := (b1.cell (p := ⟨g, N * 3, none⟩) hgw).trans h7
  have CS := hideR (sameFiles_yes (some ⟨g, 0, none⟩) a2 c c2 R w1 (hraw.below b1) (h2.below b1))
  have H := hideR (And.intro h (And.intro hQ (And.intro h2 (And.intro hdr hql))))
  have HW1 := hideR b1
  have hc9 : (c : Int) ≤ 9223372036854775807 := by unfold maxLen at hcm; omega
  have i0 : (0 : Int) ≤ (N : Int) := by omega
  have i1 : (N : Int) ≤ (c : Int) := by omega
  have i2 : (N : Int) ≤ ((N + 1 : Nat) : Int) := by omega
  have i3 : (N : Int) ≤ (N : Int) + 1 := by omega
  rw [← hN] at CS ⊢
  clear h hQ h2 hdr hql hraw h7 b1 x1 hN hcm hdm hnc hdn
  go_enter Try.func38, Try.ntmps38
  go_upto_region 2 with fail
  rw [← hw1]
  clear hw1
  go_upto_region 3 with (go_at_call 28
                         refine CS.out.mono ?_
                         rintro e w2 ⟨rfl, n2, hw2⟩
                         have hk0 : w2.cell? ⟨w.heap.size, 0, none⟩ = some (.slice (some ⟨g, 0, none⟩) (N + 1) c) := by rw [hw2]; exact k0
                         have hk1 : w2.cell? ⟨w.heap.size, 1, none⟩ = some (.slice da N dc) := by rw [hw2]; exact k1
                         have hk7 : w2.cell? ⟨g, N * 3, none⟩ = some (.int .i64 (-7)) := by rw [hw2]; exact h7'
                         have HW2 : HidR (Below w1.heap.size w1 w2) := ⟨by rw [hw2]; exact below_drewN (Below.refl _ w1) n2⟩
                         clear hw2 k0 k1 h7')
  go_wp2_with fail
  go_loopw [6] (fun i wr => ∃ k : Nat, k ≤ N ∧ i = .int .i64 k ∧ HidR (∃ m, wr = w2.drewN m)) (fun i _ => N - (RowKit.intOf i).toNat)
  case atStart => exact ⟨0, Nat.zero_le _, rfl, ⟨⟨0, rfl⟩⟩⟩
  case round =>
    obtain ⟨k, hk, rfl, HM⟩ := hrel
    have HB : HidR (Below w2.heap.size w2 wr) := ⟨by obtain ⟨m, hm⟩ := HM.out; rw [hm]; exact below_drewN (Below.refl _ w2) m⟩
    by_cases hlt : k < N
    · have hki : (k : Int) < (N : Int) := by omega
      obtain ⟨h, hQ, h2, hdr, hql⟩ := H.out
      have hbw : Below w.heap.size w wr := HW1.out.trans ((HW2.out.trans (HB.out.mono HW2.out.size)).mono HW1.out.size)
      obtain ⟨x, hx⟩ : ∃ x, R[k]? = some x := ⟨_, List.getElem?_eq_getElem (by have := HN.out; omega)⟩
      obtain ⟨b2, o2, rfl, hb2, q0, ⟨ya, yc, q1, qb⟩, q2⟩ := (h2.below hbw).at hx
      obtain ⟨y, hy⟩ : ∃ y, Q[k]? = some y := ⟨_, List.getElem?_eq_getElem (by omega)⟩
      have hyx : y.r = x := by
        have : (Q.map (·.r))[k]? = some y.r := by rw [List.getElem?_map, hy]; rfl
        rw [hQ, hx] at this
        simpa using this.symm
      obtain ⟨gd, rfl, egd, hcd⟩ := hdr (by omega)
      have m1 : wr.cell? ⟨gd, k, none⟩ = some y.dv := (hbw.cell (p := ⟨gd, k, none⟩) (h.rd.lt gd egd).2).trans (hcd k y.dv (by rw [List.getElem?_map, hy]; rfl))
      have hob := (h.own y (List.mem_of_getElem? hy)).below hbw
      have hib : IsBytes wr (some ⟨y.g, 0, none⟩) y.cap (x.data ++ marks 8) := by
        obtain ⟨a, c, e, hi⟩ := hob.shape
        simp only [Ln.dv, Value.slice.injEq] at e
        obtain ⟨rfl, _, rfl⟩ := e
        rw [hyx] at hi
        exact hi
      have I1 := hideR hib
      have I2 := hideR qb
      rw [show y.dv = .slice (some ⟨y.g, 0, none⟩) (x.data.length + 8) y.cap by rw [Ln.dv, hyx]] at m1
      have wk1 : wr.cell? ⟨w.heap.size, 1, none⟩ = some (.slice (some ⟨gd, 0, none⟩) N dc) := by obtain ⟨m, hm⟩ := HM.out; rw [hm]; exact hk1
      clear h hQ h2 hdr hbw hx hy hyx hcd hob hib qb q0 q2 hk0 hk1 hk7 egd hb2
      go_wp2_with fail
      go_quiet ((go_at_call 42; exact Calls.quiet_of (still_any _ _ _ _ x.data _ (I1.out.below (below_drewN (Below.refl _ wr) _)) (I2.out.below (below_drewN (Below.refl _ wr) _)))))
      go_wp2
      go_roundw
      case rel => exact ⟨k + 1, by omega, by go_num, ⟨by obtain ⟨m, hm⟩ := HM.out; exact ⟨m + nq, by rw [hm, World.drewN_drewN]⟩⟩⟩
      case measure => simp [RowKit.intOf]; omega
    · have hki : ¬ (k : Int) < (N : Int) := by omega
      go_wp2
      go_ret
      exact ⟨rfl, HW1.out.trans ((HW2.out.trans (HB.out.mono HW2.out.size)).mono HW1.out.size)⟩
end Go.Proofs.Ytnpofjeiamjioaa

namespace Go.Proofs.Ytnpofjeiamjioaa
open Go.RowKit

/-- What was lent, while it is written over. -/
structure WpAt (w : World) (B M : Nat) (ga : Nat) (dv : Value) (Q : List Ln) : Prop where
  ra : ∃ cur, w.heap[ga]? = some (.cells cur 62 (0, 0)) ∧ (Q.length + 1) * 3 ≤ cur.size
  rd : w.ownsRow B 37 1 dv Q.length (Q.map Ln.dv)
  own : ∀ x ∈ Q, ∃ bs : List UInt8, bs.length = x.r.data.length + 8 ∧ Own w B x.dv bs
  ap : ∀ (i j : Nat) x y, Q[i]? = some x → Q[j]? = some y → i ≠ j → x.g ≠ y.g
  lim : ∀ g, (g = ga ∨ dv.ownBlock = some g ∨ ∃ x ∈ Q, x.g = g) → B ≤ g ∧ g < M
section
variable {w w' : World} {B M ga : Nat} {dv : Value} {Q : List Ln}
theorem WpAt.kept (h : WpAt w B M ga dv Q) {K : Nat → Prop} (hk : Kept K w w') (hK : ∀ g, B ≤ g → g < M → ¬ K g) : WpAt w' B M ga dv Q := by
  obtain ⟨cur, hc, hs⟩ := h.ra
  have l := h.lim
  refine ⟨⟨cur, (hk.block ga (Array.getElem?_eq_some_iff.1 hc).1 (hK _ (l ga (.inl rfl)).1 (l ga (.inl rfl)).2)).trans hc, hs⟩, row_keptR h.rd hk (fun g e => hK g (l g (.inr (.inl e))).1 (l g (.inr (.inl e))).2), fun x hx => ?_, h.ap, l⟩
  obtain ⟨bs, hb, ho⟩ := h.own x hx
  refine ⟨bs, hb, Kept.own hk ho (fun g e => ?_)⟩
  simp only [Ln.dv, Value.ownBlock, Option.some.injEq] at e
  have := l g (.inr (.inr ⟨x, hx, e⟩))
  exact hK g this.1 this.2
theorem LentAt.wp {av : Value} (h : LentAt w B av dv Q) (hM : w.heap.size ≤ M) : ∃ ga ca, av = .slice (some ⟨ga, 0, none⟩) (Q.length + 1) ca ∧ Q.length + 1 ≤ ca ∧ ca ≤ maxLen ∧ WpAt w B M ga dv Q := by
  rcases h.ra.2 with ⟨_, h0⟩ | ⟨g, cap, cur, rfl, hB, hg, hnc, hcm, hcs, htk⟩
  · omega
  · refine ⟨g, cap, rfl, hnc, hcm, ⟨⟨cur, hg, by rw [hcs]; omega⟩, h.rd, fun x hx => ⟨_, by simp [marks], h.own x hx⟩, h.ap, fun j e => ?_⟩⟩
    rcases e with rfl | e | ⟨x, hx, rfl⟩
    · exact ⟨hB, Nat.lt_of_lt_of_le (Array.getElem?_eq_some_iff.1 hg).1 hM⟩
    · have := h.rd.lt j e; omega
    · have := (h.own x hx).lt x.g rfl; omega
theorem WpAt.setD (h : WpAt w B M ga dv Q) {k j : Nat} {y : Ln} (hy : Q[k]? = some y) : WpAt (w.setCell ⟨y.g, j, none⟩ (.int .u8 90)) B M ga dv Q := by
  obtain ⟨bs, hb, ho⟩ := h.own y (List.mem_of_getElem? hy)
  have hs := (Own.set (g := y.g) (m := y.r.data.length + 8) (cap := y.cap) ho j 90).1
  have hk : Kept (fun g => g = y.g) w (w.setCell ⟨y.g, j, none⟩ (.int .u8 90)) := Kept.setCell _ _ _ _ _ rfl
  obtain ⟨cur, hc, hsz⟩ := h.ra
  have n1 : ga ≠ y.g := fun e => by
    obtain ⟨c, hc2⟩ := row_typeR ho (g := y.g) rfl
    rw [← e] at hc2
    exact clashF hc hc2 (by decide)
  refine ⟨⟨cur, (hk.block ga (Array.getElem?_eq_some_iff.1 hc).1 n1).trans hc, hsz⟩, row_keptR h.rd hk (fun g e e2 => ?_), fun x hx => ?_, h.ap, h.lim⟩
  · obtain ⟨c, hc2⟩ := row_typeR ho (g := y.g) rfl
    obtain ⟨c3, hc3⟩ := row_typeR h.rd e
    rw [e2] at hc3
    exact clashF hc3 hc2 (by decide)
  · obtain ⟨i, hi⟩ := List.getElem?_of_mem hx
    by_cases hik : i = k
    · subst hik
      rw [hy] at hi
      cases hi
      exact ⟨bs.set j 90, by rw [List.length_set]; exact hb, hs⟩
    · obtain ⟨bx, hbx, hox⟩ := h.own x hx
      exact ⟨bx, hbx, Kept.own hk hox (fun g e e2 => by
        simp only [Ln.dv, Value.ownBlock, Option.some.injEq] at e
        exact h.ap i k x y hi hy hik (e.trans e2))⟩
theorem kept_setCells (b : Nat) : ∀ (vs : List Value) (o : Nat) (w : World), Kept (fun g => g = b) w (w.setCells b o vs) := by
  intro vs
  induction vs with
  | nil => intro o w; exact Kept.refl _ _
  | cons v vs ih => intro o w; exact (Kept.setCell (fun g => g = b) w b o v rfl).trans (ih (o + 1) _)
theorem block_setCells {t : TypeId} (b : Nat) : ∀ (vs : List Value) (o : Nat) (w : World) (cur : Array Value), w.heap[b]? = some (.cells cur t (0, 0)) → ∃ cur', (w.setCells b o vs).heap[b]? = some (.cells cur' t (0, 0)) ∧ cur'.size = cur.size := by
  intro vs
  induction vs with
  | nil => intro o w cur h; exact ⟨cur, h, rfl⟩
  | cons v vs ih =>
    intro o w cur h
    obtain ⟨c, h1, h2⟩ := ih (o + 1) _ _ (set_cells h o v).1
    exact ⟨c, h1, by rw [h2]; simp⟩
theorem WpAt.setA (h : WpAt w B M ga dv Q) (o : Nat) (vs : List Value) : WpAt (w.setCells ga o vs) B M ga dv Q := by
  obtain ⟨cur, hc, hsz⟩ := h.ra
  have hk := kept_setCells ga vs o w
  obtain ⟨c', h1, h2⟩ := block_setCells ga vs o w cur hc
  refine ⟨⟨c', h1, by omega⟩, row_keptR h.rd hk (fun g e e2 => ?_), fun x hx => ?_, h.ap, h.lim⟩
  · obtain ⟨c3, hc3⟩ := row_typeR h.rd e
    rw [e2] at hc3
    exact clashF hc3 hc (by decide)
  · obtain ⟨bs, hb, ho⟩ := h.own x hx
    refine ⟨bs, hb, Kept.own hk ho (fun g e e2 => ?_)⟩
    obtain ⟨c3, hc3⟩ := row_typeR ho e
    rw [e2] at hc3
    exact clashF hc3 hc (by decide)
theorem WpAt.there (h : WpAt w B M ga dv Q) {k : Nat} (hk : k ≤ Q.length) : w.there ga (k * 3) 3 := by
  obtain ⟨cur, hc, hsz⟩ := h.ra
  intro j hj
  constructor
  · have : k * 3 + j < cur.size := by have : k * 3 ≤ Q.length * 3 := Nat.mul_le_mul_right 3 hk; omega
    simp [World.cell?, hc, this]
  · simp [World.frozen?, hc]
end
theorem info_file3 : (Try.prog.info? 62).map (·.size) = some 3 := by kernel_rfl
set_option maxHeartbeats 4000000 in
set_option maxRecDepth 1000000 in
theorem wipe_any (w : World) (B M ga ca : Nat) (dv : Value) (Q : List Ln) (h : WpAt w B M ga dv Q) (hM : M ≤ w.heap.size) (hc1 : Q.length + 1 ≤ ca) (hc2 : ca ≤ maxLen) (hQ : Q.length ≤ 1048576) (hd : ∀ x ∈ Q, x.r.data.length ≤ 1073741823) :
    Calls Try.prog 39 #[.agg #[.slice (some ⟨ga, 0, none⟩) (Q.length + 1) ca, dv]] w fun e w' => e = .returned (.tuple #[]) ∧ Kept (fun g => B ≤ g ∧ g < M) w w' := by
  obtain ⟨N, hN⟩ : ∃ N, N = Q.length := ⟨_, rfl⟩
  obtain ⟨da, dc, rfl, _⟩ := row_shape h.rd
  rw [← hN] at h hc1 hQ ⊢
  have HN := hideR hN
  have HD := hideR hd
  have hcm : (ca : Int) ≤ 9223372036854775807 := by unfold maxLen at hc2; omega
  obtain ⟨w1, hw1⟩ : ∃ w1, w1 = w.alloc (.cells #[.slice (some ⟨ga, 0, none⟩) (N + 1) ca, .slice da N dc] 79) := ⟨_, rfl⟩
  have b1 : Below w.heap.size w w1 := by rw [hw1]; exact (Below.refl _ w).alloc (Nat.le_refl _) _
  have x1 : w1.heap[w.heap.size]? = some (.cells #[.slice (some ⟨ga, 0, none⟩) (N + 1) ca, .slice da N dc] 79 (0, 0)) := by rw [hw1]; exact heap_alloc_new w _
  have H1 := hideR (And.intro (h.kept (Kept.ofBelow (P := fun _ => False) b1) (fun _ _ _ e => e)) (And.intro x1 b1))
  clear h hN hd b1 x1 hc2
  go_enter Try.func39, Try.ntmps39
  go_wp2_with fail
  rw [← hw1]
  clear hw1
  go_loopg [2] N (fun gk s2 wr => ∃ i : Nat, s2 = .int .i64 (i : Int) ∧ N - i ≤ gk ∧ i ≤ N ∧ HidR (Kept (fun g => B ≤ g ∧ g < M) w1 wr ∧ WpAt wr B M ga (.slice da N dc) Q ∧ wr.heap[w.heap.size]? = some (.cells #[.slice (some ⟨ga, 0, none⟩) (N + 1) ca, .slice da N dc] 79 (0, 0))))
  case atStart => exact ⟨0, rfl, by omega, by omega, ⟨⟨Kept.refl _ _, H1.out.1, H1.out.2.1⟩⟩⟩
  case round =>
    obtain ⟨i, rfl, hgk, hi, HW⟩ := hrel
    obtain ⟨p0, p1⟩ : wr.cell? ⟨w.heap.size, 0, none⟩ = some (.slice (some ⟨ga, 0, none⟩) (N + 1) ca) ∧ wr.cell? ⟨w.heap.size, 1, none⟩ = some (.slice da N dc) := by simp [World.cell?, HW.out.2.2]
    by_cases hlt : i < N
    · have tlt : (i : Int) < (N : Int) := by omega
      obtain ⟨y, hy⟩ : ∃ y, Q[i]? = some y := ⟨_, List.getElem?_eq_getElem (by have := HN.out; omega)⟩
      have hdl := HD.out y (List.mem_of_getElem? hy)
      have HY := hideR hy
      obtain ⟨gd, hda, hgd⟩ : ∃ gd, da = some ⟨gd, 0, none⟩ ∧ ∀ W, WpAt W B M ga (.slice da N dc) Q → W.cell? ⟨gd, i, none⟩ = some (.slice (some ⟨y.g, 0, none⟩) (y.r.data.length + 8) y.cap) := by
        obtain ⟨a2, c2, e2, _, _, h2⟩ := row_shape HW.out.2.1.rd
        simp only [Value.slice.injEq] at e2
        obtain ⟨rfl, _, rfl⟩ := e2
        obtain ⟨gd, e3, _, _⟩ := h2 (by have := HN.out; omega)
        refine ⟨gd, e3, fun W hW => ?_⟩
        obtain ⟨a4, c4, e4, _, _, h4⟩ := row_shape hW.rd
        simp only [Value.slice.injEq] at e4
        obtain ⟨rfl, _, rfl⟩ := e4
        obtain ⟨g5, e5, _, h5⟩ := h4 (by have := HN.out; omega)
        rw [e3] at e5
        simp only [Option.some.injEq, Addr.mk.injEq, and_true] at e5
        subst e5
        exact h5 i y.dv (by rw [List.getElem?_map, hy]; rfl)
      subst hda
      have HG := hideR hgd
      obtain ⟨D, hD⟩ : ∃ D, D = y.r.data.length + 8 := ⟨_, rfl⟩
      rw [← hD] at HG
      have HDD := hideR hD
      have hDb : D ≤ 1073741831 := by omega
      clear hy hgd hD
      go_wp2_with fail
      clear p0 p1
      obtain ⟨wo, hwo⟩ : ∃ wo, wo = wr := ⟨_, rfl⟩
      rw [← hwo] at HW ⊢
      clear hwo
      clear wr
      go_loopg [3] D (fun gk s3 wr => ∃ j : Nat, s3 = .int .i64 (j : Int) ∧ D - j ≤ gk ∧ j ≤ D ∧ HidR (Kept (fun g => B ≤ g ∧ g < M) w1 wr ∧ WpAt wr B M ga (.slice (some ⟨gd, 0, none⟩) N dc) Q ∧ wr.heap[w.heap.size]? = some (.cells #[.slice (some ⟨ga, 0, none⟩) (N + 1) ca, .slice (some ⟨gd, 0, none⟩) N dc] 79 (0, 0))))
      case atStart => exact ⟨0, rfl, by omega, by omega, HW⟩
      case round =>
        clear HW
        obtain ⟨j, rfl, hgj, hj, HW⟩ := hrel
        have p1 : wr.cell? ⟨w.heap.size, 1, none⟩ = some (.slice (some ⟨gd, 0, none⟩) N dc) := by simp [World.cell?, HW.out.2.2]
        have p2 := HG.out wr HW.out.2.1
        by_cases hlt2 : j < D
        · have tlt2 : (j : Int) < (D : Int) := by omega
          obtain ⟨bs, hbl, hob⟩ := HW.out.2.1.own y (List.mem_of_getElem? HY.out)
          obtain ⟨x, hx⟩ : ∃ x, bs[j]? = some x := ⟨_, List.getElem?_eq_getElem (by have := HDD.out; omega)⟩
          have m0 := Own.cell (g := y.g) hob j x hx
          have m1 := Own.frozen (g := y.g) hob j
          have S2 := hideR (HW.out.2.1.setD HY.out (j := j))
          clear hx hob
          go_wp2_with fail
          go_roundg (D - (j + 1))
          case measure => omega
          case rel =>
            have hl := HW.out.2.1.lim y.g (.inr (.inr ⟨y, List.mem_of_getElem? HY.out, rfl⟩))
            exact ⟨j + 1, by go_num, Nat.le_refl _, hlt2, ⟨⟨HW.out.1.trans (Kept.setCell _ _ _ _ _ hl), S2.out, ((Kept.setCell (fun g => B ≤ g ∧ g < M) wr y.g j (.int .u8 90) hl).block _ (Array.getElem?_eq_some_iff.1 HW.out.2.2).1 (fun e => by have := e.2; omega)).trans HW.out.2.2⟩⟩⟩
        · have tlt2 : ¬ (j : Int) < (D : Int) := by omega
          have p0 : wr.cell? ⟨w.heap.size, 0, none⟩ = some (.slice (some ⟨ga, 0, none⟩) (N + 1) ca) := by simp [World.cell?, HW.out.2.2]
          have hth := HW.out.2.1.there (k := i) (by have := HN.out; omega)
          go_wp2_with (refine wpList_store_mid rfl 62 (.tmp 32) (.tmp 31) rfl ga (i * 3) #[.int .i64 (-9), .slice none 0 0, .int .i64 0] rfl rfl hth info_file3 (by simp [Value.oneCell']) ?_)
          go_roundg (N - (i + 1))
          case measure => omega
          case rel =>
            have hl := HW.out.2.1.lim ga (.inl rfl)
            have kk := (kept_setCells ga [.int .i64 (-9), .slice none 0 0, .int .i64 0] (i * 3) wr).mono (Q := fun g => B ≤ g ∧ g < M) (fun g _ e => e ▸ hl)
            exact ⟨i + 1, by go_num, Nat.le_refl _, hlt, ⟨⟨HW.out.1.trans kk, HW.out.2.1.setA _ _, (kk.block _ (Array.getElem?_eq_some_iff.1 HW.out.2.2).1 (fun e => by have := e.2; omega)).trans HW.out.2.2⟩⟩⟩
    · have tlt : ¬ (i : Int) < (N : Int) := by omega
      go_wp2_with fail
      go_end0
      exact ⟨rfl, (Kept.ofBelow H1.out.2.2).trans HW.out.1⟩
end Go.Proofs.Ytnpofjeiamjioaa

namespace Go.Proofs.Ytnpofjeiamjioaa
open Go.RowKit Go.Maps

theorem info_pair : (Try.prog.info? 33).map (·.size) = some 2 := by kernel_rfl
theorem under_pair : Try.prog.underlying 33 = some (.struct (Try.prog.fieldsOf 33)) := by kernel_rfl
theorem results_cell_tmp_row {P : Program} {fn : Func} {p q : Tmp} {ty : TypeId} (h : fn.results = #[.cell p ty, .tmp q]) (tmps : Array Value) (w : World) (g : Nat) (t : TypeId) (cs : Array Value) (fr : Nat × Nat) (d : TypeDesc) (v : Value)
    (hp : tmps.getD p undef = .pointer (some ⟨g, 0, none⟩)) (hq : tmps.getD q undef = v) (hg : w.heap[g]? = some (.cells cs t fr))
    (hu : P.underlying ty = some d) (hd : (match d with | .struct _ | .array _ _ => true | _ => false) = true) (hi : (P.info? ty).map (·.size) = some cs.size) :
    (results fn tmps).run P w = .ok (.tuple #[.agg cs, v]) w := by
  have hp' : tmps[p]?.getD undef = .pointer (some ⟨g, 0, none⟩) := by simpa using hp
  have hq' : tmps[q]?.getD undef = v := by simpa using hq
  simp [results, h, hp', hq', asAddr, run_loadVar_row w g t ty cs fr d hg hu hd hi]
/-- What lend leaves, told so as it is wanted. -/
def LendQ (w : World) (R : List Rf) (e : Ending) (w' : World) : Prop :=
  Below w.heap.size w w' ∧ ∃ (ga ca : Nat) (da : Option Addr) (dc : Nat) (Q : List Ln), e = .returned (.agg #[.slice (some ⟨ga, 0, none⟩) (R.length + 1) ca, .slice da R.length dc]) ∧ LentAt w' w.heap.size (.slice (some ⟨ga, 0, none⟩) (R.length + 1) ca) (.slice da R.length dc) Q ∧ Q.map (·.r) = R ∧
    R.length + 1 ≤ ca ∧ ca ≤ maxLen ∧ IsRaw w' (some ⟨ga, 0, none⟩) ca R ∧ WpAt w' w.heap.size w'.heap.size ga (.slice da R.length dc) Q
theorem lend_anyQ (w : World) (a : Option Addr) (c : Nat) (R : List Rf) (h : IsRaw w a c R) (hn : R.length ≤ 1048576) (ht : totR R ≤ 1073741823) :
    Calls Try.prog 36 #[.slice a R.length c] w (LendQ w R) := by
  refine (lend_any w a c R h hn ht).mono ?_
  rintro e w' ⟨b, av, dv, Q, rfl, hl, hq⟩
  have hf : ∀ x ∈ Q, rawFits x.r := fun x hx => h.2.2.1 x.r (by rw [← hq]; exact List.mem_map_of_mem hx)
  have hlen : Q.length = R.length := by rw [← hq, List.length_map]
  obtain ⟨g1, c1, e1, n1, m1, raw1, _⟩ := hl.raw hf
  obtain ⟨g2, c2, e2, _, _, wp2⟩ := hl.wp (Nat.le_refl _)
  rw [e1] at e2
  simp only [Value.slice.injEq, Option.some.injEq, Addr.mk.injEq, and_true] at e2
  obtain ⟨rfl, _⟩ := e2
  obtain ⟨da, dc, ed, _⟩ := row_shape hl.rd
  rw [hlen] at e1 n1 ed
  subst e1
  subst ed
  rw [hq] at raw1
  exact ⟨b, g1, c1, da, dc, Q, rfl, hl, hq, n1, m1, raw1, wp2⟩
theorem RfAt.monoB {w : World} {B B' rb : Nat} {q : Int} {fv : Value} {F : List (Fl × Value)} (h : RfAt w B rb q fv F) (hB : B' ≤ B) : RfAt w B' rb q fv F :=
  ⟨h.box, h.row.monoR hB, fun p hp => (h.own p hp).mono hB⟩
theorem RfAt.rge {w : World} {B rb : Nat} {q : Int} {fv : Value} {F : List (Fl × Value)} (h : RfAt w B rb q fv F) (hB : B ≤ rb) {g : Nat} (hg : RM rb fv F g) : B ≤ g := by
  rcases hg with rfl | e | ⟨p, hp, e⟩
  · exact hB
  · exact (h.row.lt g e).1
  · exact ((h.own p hp).lt g e).1
/-- What loaded answers. -/
def LoadedP (q : Int) (R : List Rf) (w : World) (e : Ending) (w' : World) : Prop :=
  Below w.heap.size w w' ∧ ((chk q R ≠ 0 ∧ e = .returned (.tuple #[.agg #[.pointer none, .pointer none], .bool true])) ∨
    (chk q R = 0 ∧ ∃ db mb vs rb fv F, e = .returned (.tuple #[.agg #[.pointer (some ⟨db, 0, none⟩), .pointer (some ⟨rb, 0, none⟩)], .bool true]) ∧ Pr w' w.heap.size db mb q (R.map cook) vs rb fv F))
set_option linter.unusedSimpArgs false in
set_option maxHeartbeats 4000000 in
set_option maxRecDepth 1000000 in
theorem loaded_any (w : World) (q : Int) (a : Option Addr) (c : Nat) (R : List Rf) (h : IsRaw w a c R) (hn : R.length ≤ 1048576) (ht : totR R ≤ 1073741823) (hd : ∀ x ∈ R, x.data.length ≤ 1073741823) :
    Calls Try.prog 14 #[.int .i64 q, .slice a R.length c] w (LoadedP q R w) := by
  have HH := hideR h
  have HD := hideR hd
  obtain ⟨w0, hw0⟩ : ∃ w0, w0 = w.alloc (.cells #[.pointer none, .pointer none] 33) := ⟨_, rfl⟩
  have b0 : Below w.heap.size w w0 := by rw [hw0]; exact (Below.refl _ w).alloc (Nat.le_refl _) _
  have x0 : w0.heap[w.heap.size]? = some (.cells #[.pointer none, .pointer none] 33 (0, 0)) := by rw [hw0]; exact heap_alloc_new w _
  have z0 : w0.heap.size = w.heap.size + 1 := by rw [hw0]; simp
  have CL := hideR (lend_anyQ w0 a c R (h.below b0) hn ht)
  have H0 := hideR (And.intro b0 (And.intro x0 z0))
  have HT := hideR ht
  obtain ⟨N, hN⟩ : ∃ N, N = R.length := ⟨_, rfl⟩
  have HN := hideR hN
  rw [← hN] at hn ⊢
  unfold LendQ at CL
  rw [← hN] at CL
  clear h hd b0 x0 z0 hN ht
  by_cases hz : chk q R = 0
  · have HZ := hideR hz
    clear hz
    go_enter Try.func14, Try.ntmps14
    go_upto_region 1 with fail
    rw [← hw0]
    clear hw0
    go_upto_region 2 with (go_at_call 36
                           refine CL.out.mono ?_
                           rintro e w1 ⟨b1, ga, ca, da, dc, Q, rfl, l1, l2, l3, l4, l5, l6⟩
                           have H1 := hideR (And.intro b1 (And.intro l1 (And.intro l2 (And.intro l5 l6))))
                           have hca : (N : Int) ≤ (ca : Int) ∧ (ca : Int) ≤ 9223372036854775807 ∧ N + 1 ≤ ca ∧ ca ≤ maxLen := by unfold maxLen at l4 ⊢; omega
                           clear b1 l1 l2 l3 l4 l5 l6)
    obtain ⟨c1, c2, c3, c4⟩ := hca
    have C4 := hideR (And.intro c3 c4)
    clear c4
    obtain ⟨w2, hw2⟩ : ∃ w2, w2 = w1.alloc (.cells #[.slice (some ⟨ga, 0, none⟩) (N + 1) ca, .slice da N dc] 79) := ⟨_, rfl⟩
    rw [← hw2]
    have b2 : Below w1.heap.size w1 w2 := by rw [hw2]; exact (Below.refl _ w1).alloc (Nat.le_refl _) _
    have z2 : w2.heap.size = w1.heap.size + 1 := by rw [hw2]; simp
    have x2 : w2.heap[w1.heap.size]? = some (.cells #[.slice (some ⟨ga, 0, none⟩) (N + 1) ca, .slice da N dc] 79 (0, 0)) := by rw [hw2]; exact heap_alloc_new w1 _
    have H2 := hideR (And.intro b2 (And.intro z2 x2))
    have k0 : w2.cell? ⟨w1.heap.size, 0, none⟩ = some (.slice (some ⟨ga, 0, none⟩) (N + 1) ca) := by simp [World.cell?, x2]
    have LD := hideR (load_any q (some ⟨ga, 0, none⟩) ca R w2 (H1.out.2.2.2.1.below b2) (by have := HT.out; omega))
    rw [← HN.out] at LD
    have i0 : (0 : Int) ≤ (N : Int) := by omega
    have i2 : (N : Int) ≤ ((N + 1 : Nat) : Int) := by omega
    have i3 : (N : Int) ≤ (N : Int) + 1 := by omega
    clear hw2 b2 z2 x2 c3
    go_upto_region 3 with (go_at_call 23
                           refine LD.out.mono ?_
                           rintro e w3 ⟨b3, hc⟩
                           rcases hc with ⟨h1, _⟩ | ⟨_, db, mb, vs, rfl, d3, m3⟩
                           · exact absurd HZ.out h1
                           have D3 := hideR (And.intro d3 m3)
                           have B3 := hideR b3
                           clear d3 m3 b3)
    have hb12 := H1.out.1.size
    have LR := hideR (refLoad_any q a c R w3 (HH.out.below (H0.out.1.trans ((H1.out.1.trans ((H2.out.1.trans (B3.out.mono H2.out.1.size)).mono hb12)).mono H0.out.1.size))) HT.out (by have := HN.out; omega))
    rw [← HN.out] at LR
    clear k0
    go_upto_region 4 with (go_at_call 37
                           refine LR.out.mono ?_
                           rintro e w4 ⟨b4, hc⟩
                           rcases hc with ⟨h1, _⟩ | ⟨_, rb, fv, F, rfl, r0, r1, r2⟩
                           · exact absurd HZ.out h1
                           have R4 := hideR (And.intro r0 (And.intro r1 r2))
                           have B4 := hideR b4
                           clear r0 r1 r2 b4)
    have b24 : Below w2.heap.size w2 w4 := B3.out.trans (B4.out.mono B3.out.size)
    have b14 : Below w1.heap.size w1 w4 := H2.out.1.trans (b24.mono H2.out.1.size)
    have b04 : Below w0.heap.size w0 w4 := H1.out.1.trans (b14.mono H1.out.1.size)
    have bw4 : Below w.heap.size w w4 := H0.out.1.trans (b04.mono H0.out.1.size)
    have x4 := (b24.block _ (Array.getElem?_eq_some_iff.1 H2.out.2.2).1).trans H2.out.2.2
    have l4 : LentAt w4 w0.heap.size (.slice (some ⟨ga, 0, none⟩) (N + 1) ca) (.slice da N dc) Q := ⟨row_keptR (P := fun _ => False) H1.out.2.1.ra (Kept.ofBelow b14) (fun _ _ h => h), row_keptR (P := fun _ => False) H1.out.2.1.rd (Kept.ofBelow b14) (fun _ _ h => h), fun x hx => (H1.out.2.1.own x hx).below b14, H1.out.2.1.ap⟩
    have LS := hideR (lstill_any w4 w0.heap.size _ _ Q a c R l4 H1.out.2.2.1 (HH.out.below bw4))
    rw [← HN.out] at LS
    have H4 := hideR (And.intro bw4 (And.intro b04 (And.intro b14 (And.intro b24 x4))))
    obtain ⟨k0, k1⟩ : w4.cell? ⟨w1.heap.size, 0, none⟩ = some (.slice (some ⟨ga, 0, none⟩) (N + 1) ca) ∧ w4.cell? ⟨w1.heap.size, 1, none⟩ = some (.slice da N dc) := by simp [World.cell?, x4]
    clear b24 b14 b04 bw4 x4 l4
    skip
    go_upto_region 5 with (go_at_call 38
                           refine LS.out.mono ?_
                           rintro e w5 ⟨rfl, b5⟩
                           have B5 := hideR b5
                           clear b5)
    clear k0 k1
    have x5 := (B5.out.block _ (Array.getElem?_eq_some_iff.1 H4.out.2.2.2.2).1).trans H4.out.2.2.2.2
    obtain ⟨k0, k1⟩ : w5.cell? ⟨w1.heap.size, 0, none⟩ = some (.slice (some ⟨ga, 0, none⟩) (N + 1) ca) ∧ w5.cell? ⟨w1.heap.size, 1, none⟩ = some (.slice da N dc) := by simp [World.cell?, x5]
    have b15 : Below w1.heap.size w1 w5 := H4.out.2.2.1.trans (B5.out.mono H4.out.2.2.1.size)
    have hql : Q.length = N := by rw [HN.out, ← H1.out.2.2.1, List.length_map]
    have wp5 := H1.out.2.2.2.2.kept (Kept.ofBelow (P := fun _ => False) b15) (fun _ _ _ e => e)
    have LW := hideR (wipe_any w5 w0.heap.size w1.heap.size ga ca (.slice da N dc) Q wp5 b15.size (by have := C4.out.1; omega) C4.out.2 (by omega) (fun x hx => HD.out x.r (by rw [← H1.out.2.2.1]; exact List.mem_map_of_mem hx)))
    rw [hql] at LW
    have HB15 := hideR b15
    clear b15 wp5 hql x5
    go_upto_region 6 with (go_at_call 39
                           refine LW.out.mono ?_
                           rintro e w6 ⟨rfl, k6⟩
                           have K6 := hideR k6
                           clear k6)
    clear k0 k1
    have hs1 := H0.out.1.size
    have zz0 := H0.out.2.2
    have hs2 := H1.out.1.size
    have hs15 := HB15.out.size
    have hlt := (Array.getElem?_eq_some_iff.1 H0.out.2.1).1
    have x6 : w6.heap[w.heap.size]? = some (.cells #[.pointer none, .pointer none] 33 (0, 0)) := (K6.out.block _ (by omega) (fun e => by have := e.1; omega)).trans ((HB15.out.block _ (by omega)).trans ((H1.out.1.block _ hlt).trans H0.out.2.1))
    have bw6 : Below w.heap.size w w6 := H4.out.1.trans ((B5.out.mono H4.out.1.size).trans (K6.out.below (by omega) (fun k hk e => by have := e.1; omega)))
    have X6 := hideR (And.intro x6 bw6)
    clear x6 bw6
    go_wp2_with (refine wpList_store_row rfl 33 (.tmp 4) (.tmp 49) rfl w.heap.size #[.pointer (some ⟨db, 0, none⟩), .pointer (some ⟨rb, 0, none⟩)] rfl rfl 33 #[.pointer none, .pointer none] X6.out.1 info_pair rfl (by simp [Value.oneCell']) ?_)
    refine bodyPost_ret (results_cell_tmp_row rfl _ _ w.heap.size 33 _ (0, 0) _ (.bool true) rfl rfl (setRow_heap _ _ _ _ _ _ X6.out.1) under_pair rfl info_pair) rfl ?_
    have k7 : Kept (fun g => g = w.heap.size) w6 (w6.setRow w.heap.size #[.pointer (some ⟨db, 0, none⟩), .pointer (some ⟨rb, 0, none⟩)]) := ⟨rfl, rfl, rfl, by simp [World.setRow], fun k _ hk => setRow_other w6 _ k _ hk⟩
    refine ⟨X6.out.2.trans (k7.below X6.out.2.size (fun j hj e => by omega)), .inr ⟨HZ.out, db, mb, vs, rb, fv, F, rfl, ?_⟩⟩
    obtain ⟨d3, m3⟩ := D3.out
    obtain ⟨r0, r1, r2⟩ := R4.out
    have z2 := H2.out.2.1
    have hs3 := B3.out.size
    have pr4 : Pr w4 w.heap.size db mb q (R.map cook) vs rb fv F := ⟨d3.kept (P := fun _ => False) (Kept.ofBelow B4.out) (fun _ _ e => e), r1.monoB (by omega), r2, fun g e e2 => by
      have h1 := d3.lt e
      have h2 := r1.rge r0 e2
      omega, fun g e => by
      rcases e with e | e
      · have := m3 g e; omega
      · have := r1.rge r0 e; omega⟩
    have lo : ∀ g, PM db mb (R.map cook) vs rb fv F g → w1.heap.size < g := fun g e => by
      rcases e with e | e
      · have := m3 g e; omega
      · have := r1.rge r0 e; omega
    exact ((pr4.later B5.out).kept K6.out (fun g e e2 => by have := lo g e; have := e2.2; omega)).kept k7 (fun g e e2 => by have := lo g e; omega)
  · have HZ := hideR hz
    clear hz
    go_enter Try.func14, Try.ntmps14
    go_upto_region 1 with fail
    rw [← hw0]
    clear hw0
    go_upto_region 2 with (go_at_call 36
                           refine CL.out.mono ?_
                           rintro e w1 ⟨b1, ga, ca, da, dc, Q, rfl, l1, l2, l3, l4, l5, l6⟩
                           have H1 := hideR (And.intro b1 (And.intro l1 (And.intro l2 (And.intro l5 l6))))
                           have hca : (N : Int) ≤ (ca : Int) ∧ (ca : Int) ≤ 9223372036854775807 ∧ N + 1 ≤ ca ∧ ca ≤ maxLen := by unfold maxLen at l4 ⊢; omega
                           clear b1 l1 l2 l3 l4 l5 l6)
    obtain ⟨c1, c2, c3, c4⟩ := hca
    have C4 := hideR (And.intro c3 c4)
    clear c4
    obtain ⟨w2, hw2⟩ : ∃ w2, w2 = w1.alloc (.cells #[.slice (some ⟨ga, 0, none⟩) (N + 1) ca, .slice da N dc] 79) := ⟨_, rfl⟩
    rw [← hw2]
    have b2 : Below w1.heap.size w1 w2 := by rw [hw2]; exact (Below.refl _ w1).alloc (Nat.le_refl _) _
    have z2 : w2.heap.size = w1.heap.size + 1 := by rw [hw2]; simp
    have x2 : w2.heap[w1.heap.size]? = some (.cells #[.slice (some ⟨ga, 0, none⟩) (N + 1) ca, .slice da N dc] 79 (0, 0)) := by rw [hw2]; exact heap_alloc_new w1 _
    have H2 := hideR (And.intro b2 (And.intro z2 x2))
    have k0 : w2.cell? ⟨w1.heap.size, 0, none⟩ = some (.slice (some ⟨ga, 0, none⟩) (N + 1) ca) := by simp [World.cell?, x2]
    have LD := hideR (load_any q (some ⟨ga, 0, none⟩) ca R w2 (H1.out.2.2.2.1.below b2) (by have := HT.out; omega))
    rw [← HN.out] at LD
    have i0 : (0 : Int) ≤ (N : Int) := by omega
    have i2 : (N : Int) ≤ ((N + 1 : Nat) : Int) := by omega
    have i3 : (N : Int) ≤ (N : Int) + 1 := by omega
    clear hw2 b2 z2 x2 c3
    go_upto_region 3 with (go_at_call 23
                           refine LD.out.mono ?_
                           rintro e w3 ⟨b3, hc⟩
                           rcases hc with ⟨_, rfl⟩ | ⟨h1, _⟩
                           case inr => exact absurd h1 HZ.out
                           have B3 := hideR b3
                           clear b3)
    have hb12 := H1.out.1.size
    have LR := hideR (refLoad_any q a c R w3 (HH.out.below (H0.out.1.trans ((H1.out.1.trans ((H2.out.1.trans (B3.out.mono H2.out.1.size)).mono hb12)).mono H0.out.1.size))) HT.out (by have := HN.out; omega))
    rw [← HN.out] at LR
    clear k0
    go_upto_region 4 with (go_at_call 37
                           refine LR.out.mono ?_
                           rintro e w4 ⟨b4, hc⟩
                           rcases hc with ⟨_, rfl⟩ | ⟨h1, _⟩
                           case inr => exact absurd h1 HZ.out
                           have B4 := hideR b4
                           clear b4)
    have b24 : Below w2.heap.size w2 w4 := B3.out.trans (B4.out.mono B3.out.size)
    have b14 : Below w1.heap.size w1 w4 := H2.out.1.trans (b24.mono H2.out.1.size)
    have b04 : Below w0.heap.size w0 w4 := H1.out.1.trans (b14.mono H1.out.1.size)
    have bw4 : Below w.heap.size w w4 := H0.out.1.trans (b04.mono H0.out.1.size)
    have x4 := (b24.block _ (Array.getElem?_eq_some_iff.1 H2.out.2.2).1).trans H2.out.2.2
    have l4 : LentAt w4 w0.heap.size (.slice (some ⟨ga, 0, none⟩) (N + 1) ca) (.slice da N dc) Q := ⟨row_keptR (P := fun _ => False) H1.out.2.1.ra (Kept.ofBelow b14) (fun _ _ h => h), row_keptR (P := fun _ => False) H1.out.2.1.rd (Kept.ofBelow b14) (fun _ _ h => h), fun x hx => (H1.out.2.1.own x hx).below b14, H1.out.2.1.ap⟩
    have LS := hideR (lstill_any w4 w0.heap.size _ _ Q a c R l4 H1.out.2.2.1 (HH.out.below bw4))
    rw [← HN.out] at LS
    have H4 := hideR (And.intro bw4 (And.intro b04 (And.intro b14 (And.intro b24 x4))))
    obtain ⟨k0, k1⟩ : w4.cell? ⟨w1.heap.size, 0, none⟩ = some (.slice (some ⟨ga, 0, none⟩) (N + 1) ca) ∧ w4.cell? ⟨w1.heap.size, 1, none⟩ = some (.slice da N dc) := by simp [World.cell?, x4]
    clear b24 b14 b04 bw4 x4 l4
    obtain ⟨Z, hZ⟩ : ∃ Z, Z = chk q R := ⟨_, rfl⟩
    have hzz : Z ≠ 0 := by rw [hZ]; exact HZ.out
    rw [← hZ]
    have hzb : (Z == 0) = false := by simp [hzz]
    have HZZ := hideR hZ
    clear hZ
    go_upto_region 5 with (go_at_call 38
                           refine LS.out.mono ?_
                           rintro e w5 ⟨rfl, b5⟩
                           have B5 := hideR b5
                           clear b5)
    clear k0 k1
    have x5 := (B5.out.block _ (Array.getElem?_eq_some_iff.1 H4.out.2.2.2.2).1).trans H4.out.2.2.2.2
    obtain ⟨k0, k1⟩ : w5.cell? ⟨w1.heap.size, 0, none⟩ = some (.slice (some ⟨ga, 0, none⟩) (N + 1) ca) ∧ w5.cell? ⟨w1.heap.size, 1, none⟩ = some (.slice da N dc) := by simp [World.cell?, x5]
    have b15 : Below w1.heap.size w1 w5 := H4.out.2.2.1.trans (B5.out.mono H4.out.2.2.1.size)
    have hql : Q.length = N := by rw [HN.out, ← H1.out.2.2.1, List.length_map]
    have wp5 := H1.out.2.2.2.2.kept (Kept.ofBelow (P := fun _ => False) b15) (fun _ _ _ e => e)
    have LW := hideR (wipe_any w5 w0.heap.size w1.heap.size ga ca (.slice da N dc) Q wp5 b15.size (by have := C4.out.1; omega) C4.out.2 (by omega) (fun x hx => HD.out x.r (by rw [← H1.out.2.2.1]; exact List.mem_map_of_mem hx)))
    rw [hql] at LW
    have HB15 := hideR b15
    clear b15 wp5 hql x5
    go_upto_region 6 with (go_at_call 39
                           refine LW.out.mono ?_
                           rintro e w6 ⟨rfl, k6⟩
                           have K6 := hideR k6
                           clear k6)
    clear k0 k1
    have hs1 := H0.out.1.size
    have zz0 := H0.out.2.2
    have hs2 := H1.out.1.size
    have hs15 := HB15.out.size
    have hlt := (Array.getElem?_eq_some_iff.1 H0.out.2.1).1
    have x6 : w6.heap[w.heap.size]? = some (.cells #[.pointer none, .pointer none] 33 (0, 0)) := (K6.out.block _ (by omega) (fun e => by have := e.1; omega)).trans ((HB15.out.block _ (by omega)).trans ((H1.out.1.block _ hlt).trans H0.out.2.1))
    have bw6 : Below w.heap.size w w6 := H4.out.1.trans ((B5.out.mono H4.out.1.size).trans (K6.out.below (by omega) (fun k hk e => by have := e.1; omega)))
    have X6 := hideR (And.intro x6 bw6)
    clear x6 bw6
    go_wp2_with (refine wpList_store_row rfl 33 (.tmp 4) (.tmp 49) rfl w.heap.size #[.pointer none, .pointer none] rfl rfl 33 #[.pointer none, .pointer none] X6.out.1 info_pair rfl (by simp [Value.oneCell']) ?_)
    refine bodyPost_ret (results_cell_tmp_row rfl _ _ w.heap.size 33 _ (0, 0) _ (.bool true) rfl rfl (setRow_heap _ _ _ _ _ _ X6.out.1) under_pair rfl info_pair) rfl ?_
    have k7 : Kept (fun g => g = w.heap.size) w6 (w6.setRow w.heap.size #[.pointer none, .pointer none]) := ⟨rfl, rfl, rfl, by simp [World.setRow], fun k _ hk => setRow_other w6 _ k _ hk⟩
    refine ⟨X6.out.2.trans (k7.below X6.out.2.size (fun j hj e => by omega)), .inl ⟨HZ.out, rfl⟩⟩
end Go.Proofs.Ytnpofjeiamjioaa
