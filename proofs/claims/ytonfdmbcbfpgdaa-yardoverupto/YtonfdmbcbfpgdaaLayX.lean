/-
  YLayK, YLayE, YLayL, YLay.
-/
import Derived.Test.YtonfdmbcbfpgdaaYCnt
import Derived.Test.YtonfdmbcbfpgdaaMembers
import Derived.Deep.WholeRow
namespace Go.Proofs.Ytonfdmbcbfpgdaa
open Go.RowKit
abbrev uT : HK := (9, eB, 0)
/-- In the midst of a call: the yard, the job's box. -/
structure St (w : World) (lab : Nat → HK) (yb jb : Nat) (j : Jb) (bv : Value) (body : List UInt8) (wx : World) (labx : Nat → HK) (Yx : Yd) : Prop where
  yard : YAt wx labx yb Yx
  job : JobBox wx jb j bv
  labs : ∀ k, k < w.heap.size → labx k = lab k
  mine : labx jb = uT
  kept : Kept (Ours lab) w wx
  body : BodyAt wx labx bv body
theorem St.step {w : World} {lab : Nat → HK} {yb jb : Nat} {j : Jb} {bv : Value} {body : List UInt8} {wx w' : World} {labx lab' : Nat → HK} {Yx Y' : Yd} (h : St w lab yb jb j bv body wx labx Yx) (a : YAt w' lab' yb Y') (hl : ∀ k, k < wx.heap.size → lab' k = labx k) (hk : Kept (Ours labx) wx w') : St w lab yb jb j bv body w' lab' Y' :=
  ⟨a, (hk.block jb h.job.lt (fun e => by have e : (labx jb).1 ≤ 7 := e; rw [h.mine] at e; exact absurd e (by decide))).trans h.job, fun k hk2 => (hl k (Nat.lt_of_lt_of_le hk2 h.kept.size)).trans (h.labs k hk2), (hl jb h.job.lt).trans h.mine, h.kept.step hk (fun k hk2 e => by have e : (labx k).1 ≤ 7 := e; rw [h.labs k hk2] at e; exact e), h.body.kept hk (fun b _ e8 e => by have e : (labx b).1 ≤ 7 := e; omega) hl⟩
/-- New blocks are somebody else's. -/
theorem St.user {w : World} {lab : Nat → HK} {yb jb : Nat} {j : Jb} {bv : Value} {body : List UInt8} {wx w' : World} {labx : Nat → HK} {Yx : Yd} (h : St w lab yb jb j bv body wx labx Yx) (hb : Below wx.heap.size wx w') : St w lab yb jb j bv body w' (fun k => if k < wx.heap.size then labx k else uT) Yx :=
  h.step (h.yard.below hb (fun _ hk => if_pos hk)) (fun _ hk => if_pos hk) (Kept.ofBelow hb)
theorem St.later {w : World} {lab : Nat → HK} {yb jb : Nat} {j : Jb} {bv : Value} {body : List UInt8} {wx w' : World} {labx : Nat → HK} {Yx : Yd} (h : St w lab yb jb j bv body wx labx Yx) (hb : Below wx.heap.size wx w') : St w lab yb jb j bv body w' labx Yx :=
  h.step (h.yard.below hb (fun _ _ => rfl)) (fun _ _ => rfl) (Kept.ofBelow hb)
theorem St.begin {w : World} {lab : Nat → HK} {yb : Nat} {Y : Yd} (h : YAt w lab yb Y) (j : Jb) (bv : Value) (body : List UInt8) (hb : BodyAt w lab bv body) : St w lab yb w.heap.size j bv body (w.alloc (.cells (j.cells bv) 41)) (fun k => if k < w.heap.size then lab k else uT) Y := by
  have b1 : Below w.heap.size w (w.alloc (.cells (j.cells bv) 41)) := (Below.refl _ w).alloc (Nat.le_refl _) _
  exact ⟨h.below b1 (fun _ hk => if_pos hk), JobBox.new w j bv, fun _ hk => if_pos hk, if_neg (Nat.lt_irrefl _), Kept.ofBelow b1, hb.kept (P := fun _ => False) (Kept.ofBelow b1) (fun _ _ _ h => h) (fun _ hk => if_pos hk)⟩
/-- The tube is there. -/
def T1 (Y : Yd) (t : ByteArray) (Y1 : Yd) : Prop := (∃ b, Y.tb t = some b ∧ Y1 = Y) ∨ (Y.tb t = none ∧ ∃ b hb0 mb0 hb1 mb1 hb2 mb2, Y1 = Y.withTube t b hb0 mb0 hb1 mb1 hb2 mb2)
theorem T1.tb {Y Y1 : Yd} {t : ByteArray} (h : T1 Y t Y1) : ∃ b, Y1.tb t = some b := by
  rcases h with ⟨b, hb, rfl⟩ | ⟨_, b, _, _, _, _, _, _, rfl⟩
  · exact ⟨b, hb⟩
  · exact ⟨b, if_pos rfl⟩
/-- So is the holder's heap. -/
def T2 (Y1 : Yd) (j : Jb) (Y2 : Yd) : Prop := ((j.st = 3 → (Y1.hp (hkH j.ho)).isSome = true) ∧ Y2 = Y1) ∨ (j.st = 3 ∧ Y1.hp (hkH j.ho) = none ∧ ∃ hb mb, Y2 = { Y1 with nh := Y1.nh + 1, hp := updH Y1.hp (hkH j.ho) (some (hm0 hb mb)) })
theorem T2.held {Y1 Y2 : Yd} {j : Jb} (h : T2 Y1 j Y2) (hs : j.st = 3) : (Y2.hp (hkH j.ho)).isSome = true := by
  rcases h with ⟨h1, rfl⟩ | ⟨_, _, hb, mb, rfl⟩
  · exact h1 hs
  · show (updH Y1.hp (hkH j.ho) (some (hm0 hb mb)) (hkH j.ho)).isSome = true
    rw [updH_at]
    rfl
theorem T2.tb {Y1 Y2 : Yd} {j : Jb} (h : T2 Y1 j Y2) : Y2.tb = Y1.tb := by
  rcases h with ⟨_, rfl⟩ | ⟨_, _, hb, mb, rfl⟩ <;> rfl
theorem T1.same {Y Y1 : Yd} {t : ByteArray} (h : T1 Y t Y1) : Y1.L = Y.L ∧ Y1.sm = Y.sm ∧ Y1.jm = Y.jm := by
  rcases h with ⟨b, _, rfl⟩ | ⟨_, b, _, _, _, _, _, _, rfl⟩ <;> exact ⟨rfl, rfl, rfl⟩
theorem T2.same {Y1 Y2 : Yd} {j : Jb} (h : T2 Y1 j Y2) : Y2.L = Y1.L ∧ Y2.sm = Y1.sm ∧ Y2.jm = Y1.jm ∧ Y2.ts = Y1.ts := by
  rcases h with ⟨_, rfl⟩ | ⟨_, _, hb, mb, rfl⟩ <;> exact ⟨rfl, rfl, rfl, rfl⟩
/-- How much there may be. -/
structure Few (Y : Yd) (N : Nat) : Prop where
  heap : ∀ K h, Y.hp K = some h → 0 ≤ h.last ∧ h.last ≤ N ∧ h.R.length ≤ N ∧ ∀ r ∈ h.R, r.1 ≤ h.last
  nt : Y.nt ≤ N
  nh : Y.nh ≤ N
  nl : Y.L.length ≤ N
  sm : Y.sm.small
  ts : ∀ t, (Y.ts t).small
theorem sm0_small : sm0.small := by unfold Sm.small; decide
theorem Few.one {Y Y1 : Yd} {t : ByteArray} {N : Nat} (h : Few Y N) (h1 : T1 Y t Y1) : Few Y1 (N + 1) := by
  rcases h1 with ⟨b, _, rfl⟩ | ⟨_, b, hb0, mb0, hb1, mb1, hb2, mb2, rfl⟩
  · exact ⟨fun K g hg => ⟨(h.heap K g hg).1, by have := (h.heap K g hg).2.1; omega, by have := (h.heap K g hg).2.2.1; omega, (h.heap K g hg).2.2.2⟩, by have := h.nt; omega, by have := h.nh; omega, by have := h.nl; omega, h.sm, h.ts⟩
  · have new : ∀ hb mb : Nat, 0 ≤ (hm0 hb mb).last ∧ (hm0 hb mb).last ≤ ((N + 1 : Nat) : Int) ∧ (hm0 hb mb).R.length ≤ N + 1 ∧ ∀ r ∈ (hm0 hb mb).R, r.1 ≤ (hm0 hb mb).last := fun hb mb => ⟨Int.le_refl 0, by show (0 : Int) ≤ _; omega, by simp [hm0], fun r hr => by cases hr⟩
    refine ⟨fun K g hg => ?_, by show Y.nt + 1 ≤ N + 1; have := h.nt; omega, by show Y.nh ≤ N + 1; have := h.nh; omega, by show Y.L.length ≤ N + 1; have := h.nl; omega, h.sm, fun s => ?_⟩
    · simp only [Yd.withTube] at hg
      split at hg
      · cases hg; exact new _ _
      · split at hg
        · cases hg; exact new _ _
        · split at hg
          · cases hg; exact new _ _
          · exact ⟨(h.heap K g hg).1, by have := (h.heap K g hg).2.1; omega, by have := (h.heap K g hg).2.2.1; omega, (h.heap K g hg).2.2.2⟩
    · show (updT Y.ts t sm0 s).small
      unfold updT
      split
      · exact sm0_small
      · exact h.ts s
theorem Few.two {Y Y1 : Yd} {j : Jb} {N : Nat} (h : Few Y N) (h1 : T2 Y j Y1) : Few Y1 (N + 1) := by
  rcases h1 with ⟨_, rfl⟩ | ⟨_, _, hb, mb, rfl⟩
  · exact ⟨fun K g hg => ⟨(h.heap K g hg).1, by have := (h.heap K g hg).2.1; omega, by have := (h.heap K g hg).2.2.1; omega, (h.heap K g hg).2.2.2⟩, by have := h.nt; omega, by have := h.nh; omega, by have := h.nl; omega, h.sm, h.ts⟩
  · refine ⟨fun K g hg => ?_, by show Y.nt ≤ N + 1; have := h.nt; omega, by show Y.nh + 1 ≤ N + 1; have := h.nh; omega, by show Y.L.length ≤ N + 1; have := h.nl; omega, h.sm, h.ts⟩
    by_cases e : K = hkH j.ho
    · subst e
      have hg : some (hm0 hb mb) = some g := (updH_at Y.hp (hkH j.ho) (some (hm0 hb mb))).symm.trans hg
      cases hg
      exact ⟨Int.le_refl 0, by show (0 : Int) ≤ _; omega, by simp [hm0], fun r hr => by cases hr⟩
    · have hg : Y.hp K = some g := (updH_ne Y.hp (K := hkH j.ho) (some (hm0 hb mb)) e).symm.trans hg
      exact ⟨(h.heap K g hg).1, by have := (h.heap K g hg).2.1; omega, by have := (h.heap K g hg).2.2.1; omega, (h.heap K g hg).2.2.2⟩
/-- What a push makes of a heap's rows. -/
def pushR (K : HK) (h : HM) (m : Mk) : List (Int × Mk) := (riseL (ltK (rkOf K.1)) h.R.length (h.R ++ [(h.last + 1, m)]) h.R.length 0).1
/-- Pushes, the latest first: which heap, what it was, what it is. -/
abbrev Pu := HK × HM × HM
def PuY (Y : Yd) : List Pu → Yd
  | [] => Y
  | p :: r => { PuY Y r with hp := updH (PuY Y r).hp p.1 (some p.2.2) }
def PuV (Y : Yd) (m : Mk) : List Pu → Prop
  | [] => True
  | p :: r => PuV Y m r ∧ (PuY Y r).hp p.1 = some p.2.1 ∧ p.2.2.hb = p.2.1.hb ∧ p.2.2.mb = p.2.1.mb ∧ p.2.2.last = p.2.1.last + 1 ∧ p.2.2.R = pushR p.1 p.2.1 m
theorem PuY.tb (Y : Yd) : ∀ S : List Pu, (PuY Y S).tb = Y.tb ∧ (PuY Y S).jm = Y.jm ∧ (PuY Y S).L = Y.L ∧ (PuY Y S).sm = Y.sm ∧ (PuY Y S).ts = Y.ts ∧ (PuY Y S).nt = Y.nt ∧ (PuY Y S).nh = Y.nh
  | [] => ⟨rfl, rfl, rfl, rfl, rfl, rfl, rfl⟩
  | _ :: r => PuY.tb Y r
theorem pushR_len (K : HK) (h : HM) (m : Mk) : (pushR K h m).length = h.R.length + 1 := by unfold pushR; rw [riseL_length]; simp
theorem mem_pushR {K : HK} {h : HM} {m : Mk} {r : Int × Mk} : r ∈ pushR K h m ↔ r ∈ h.R ∨ r = (h.last + 1, m) := by
  unfold pushR
  rw [mem_rise]
  simp
theorem Few.push {Y : Yd} {N : Nat} (h : Few Y N) {K : HK} {g g' : HM} {m : Mk} (hg : Y.hp K = some g) (hl : g'.last = g.last + 1) (hR : g'.R = pushR K g m) : Few { Y with hp := updH Y.hp K (some g') } (N + 1) := by
  refine ⟨fun J x hx => ?_, by show Y.nt ≤ N + 1; have := h.nt; omega, by show Y.nh ≤ N + 1; have := h.nh; omega, by show Y.L.length ≤ N + 1; have := h.nl; omega, h.sm, h.ts⟩
  obtain ⟨a1, a2, a3, a4⟩ := h.heap K g hg
  by_cases e : J = K
  · subst e
    have hx : some g' = some x := (updH_at Y.hp J (some g')).symm.trans hx
    cases hx
    refine ⟨by omega, by omega, by rw [hR, pushR_len]; omega, fun r hr => ?_⟩
    rw [hR, mem_pushR] at hr
    rcases hr with hr | rfl
    · have := a4 r hr; omega
    · show g.last + 1 ≤ _; omega
  · have hx : Y.hp J = some x := (updH_ne Y.hp (K := K) (some g') e).symm.trans hx
    exact ⟨(h.heap J x hx).1, by have := (h.heap J x hx).2.1; omega, by have := (h.heap J x hx).2.2.1; omega, (h.heap J x hx).2.2.2⟩
theorem Few.pushes {Y : Yd} {N : Nat} {m : Mk} (h : Few Y N) : ∀ S : List Pu, PuV Y m S → Few (PuY Y S) (N + S.length)
  | [], _ => h
  | p :: r, hv => by
    obtain ⟨h1, h2, _, _, h5, h6⟩ := hv
    have := (Few.pushes h r h1).push h2 h5 h6
    exact this
/-- A push on one of a yard's heaps. -/
theorem push_any {w : World} {lab : Nat → HK} {yb : Nat} {Y : Yd} (h : YAt w lab yb Y) {N : Nat} (hf : Few Y N) (hN : N ≤ 1000000000) {K : HK} {g : HM} (hg : Y.hp K = some g) (m : Mk) :
    Calls Try.prog 48 #[ptrV g.hb, .agg #[.int .i64 m.id, .int .i64 m.pri, .int .i64 m.due, .int .i64 m.ord]] w fun e w' => e = .returned (.int .i64 (g.last + 1)) ∧ ∃ g' lab', g'.hb = g.hb ∧ g'.mb = g.mb ∧ g'.last = g.last + 1 ∧ g'.R = pushR K g m ∧ YAt w' lab' yb { Y with hp := updH Y.hp K (some g') } ∧ (∀ k, k < w.heap.size → lab' k = lab k) ∧ Kept (Ours lab) w w' := by
  obtain ⟨k5, hat⟩ := h.heap K g hg
  obtain ⟨f1, f2, f3, f4⟩ := hf.heap K g hg
  refine (pushM (rank_asks (rkOf K.1)) w g.hb g.mb g.v g.last g.R m 0 hat.at_ trivial (fun _ _ => trivial) trivial (fun _ _ h => h) (by omega) f1 (by omega) f4).mono ?_
  rintro e w' ⟨rfl, v', h1, _, h3, h4⟩
  have k3 : Kept (Mine g.hb g.v g.mb) w w' := h3.mono (fun k _ hk => hk.resolve_right (fun h => h))
  obtain ⟨lab', a', l', k'⟩ := h.turned (g' := ⟨g.hb, g.mb, v', g.last + 1, pushR K g m⟩) hg h1 rfl k3 h4
  exact ⟨rfl, ⟨g.hb, g.mb, v', g.last + 1, pushR K g m⟩, lab', rfl, rfl, rfl, rfl, a', l', k'⟩
end Go.Proofs.Ytonfdmbcbfpgdaa

namespace Go.Proofs.Ytonfdmbcbfpgdaa
open Go.RowKit
def entA (j : Jb) (bv : Value) (t0 t1 : Int) : Array Value := j.cells bv ++ #[.int .i64 t0, .int .i64 t1]
theorem entA_val (j : Jb) (bv : Value) (body : List UInt8) (t0 t1 : Int) : En.val ⟨j, bv, body, t0, t1⟩ = .agg (entA j bv t0 t1) := rfl
theorem build_entry (j : Jb) (bv : Value) (w : World) : (Instr.build 71 #[(0, .agg (j.cells bv))]).run Try.prog w = .ok (.agg (entA j bv 0 0)) w := by
  obtain ⟨id, pr, dl, tr, bo, st, du, od, ho, c0, c1, c2, c3, c4, nm⟩ := j
  kernel_rfl
theorem ent_size (j : Jb) (bv : Value) (t0 t1 : Int) : (Try.prog.info? 71).map (·.size) = some (entA j bv t0 t1).size := by
  show _ = some 18
  kernel_rfl
theorem ent_one (j : Jb) (a : Option Addr) (n c : Nat) (t0 t1 : Int) : (entA j (.slice a n c) t0 t1).all (·.oneCell') = true := by
  simp [entA, Jb.cells, Value.oneCell']
def EntBox (w : World) (b : Nat) (j : Jb) (bv : Value) (t0 t1 : Int) : Prop := w.heap[b]? = some (.cells (entA j bv t0 t1) 71 (0, 0))
theorem EntBox.lt {w : World} {b : Nat} {j : Jb} {bv : Value} {t0 t1 : Int} (h : EntBox w b j bv t0 t1) : b < w.heap.size := (Array.getElem?_eq_some_iff.1 (show w.heap[b]? = _ from h)).1
theorem EntBox.cells {w : World} {b : Nat} {j : Jb} {bv : Value} {t0 t1 : Int} (h : EntBox w b j bv t0 t1) : w.cell? ⟨b, 16, none⟩ = some (.int .i64 t0) ∧ w.cell? ⟨b, 17, none⟩ = some (.int .i64 t1) ∧ ∀ k, w.frozen? ⟨b, k, none⟩ = false := by
  have h : w.heap[b]? = _ := h
  refine ⟨by simp [World.cell?, h, entA, Jb.cells], by simp [World.cell?, h, entA, Jb.cells], fun k => by simp [World.frozen?, h]⟩
theorem EntBox.set0 {w : World} {b : Nat} {j : Jb} {bv : Value} {t0 t1 : Int} (h : EntBox w b j bv t0 t1) (x : Int) : EntBox (w.setCell ⟨b, 16, none⟩ (.int .i64 x)) b j bv x t1 := by
  have := (set_cells (show w.heap[b]? = _ from h) 16 (.int .i64 x)).1
  unfold EntBox
  rw [this]
  rfl
theorem EntBox.set1 {w : World} {b : Nat} {j : Jb} {bv : Value} {t0 t1 : Int} (h : EntBox w b j bv t0 t1) (x : Int) : EntBox (w.setCell ⟨b, 17, none⟩ (.int .i64 x)) b j bv t0 x := by
  have := (set_cells (show w.heap[b]? = _ from h) 17 (.int .i64 x)).1
  unfold EntBox
  rw [this]
  rfl
theorem wpList_store_new {P : Program} {ops : Array Oper} {rest : List Oper} {o : Oper} {a : Act} {W : World} {Q : Exit → Act → World → Prop} (hgd : o.guard = none) (ty : TypeId) (x y : Operand) (ho : o.op = .store ty x y)
    (cells : Array Value) (hx : a.eval x = .pointer (some ⟨W.heap.size, 0, none⟩)) (hy : a.eval y = .agg cells) (t : TypeId) (old : Array Value) (hi : (P.info? ty).map (·.size) = some cells.size)
    (hold : old.size = cells.size) (h1 : cells.all (·.oneCell') = true) (h : wpList P ops Q rest (a.put o.dst undef) (W.alloc (.cells cells t))) : wpList P ops Q (o :: rest) a (W.alloc (.cells old t)) := by
  refine wpList_store_row hgd ty x y ho W.heap.size cells hx hy t old (heap_alloc_last W _) hi hold h1 ?_
  rw [World.setRow_alloc_new]
  exact h
theorem wpList_value {P : Program} {ops : Array Oper} {rest : List Oper} {o : Oper} {a : Act} {w : World} {v : Value} {Q : Exit → Act → World → Prop} (hgd : o.guard = none) (hx : (execOp a.eval o).run P w = .ok (.value v) w) (h : wpList P ops Q rest (a.put o.dst v) w) : wpList P ops Q (o :: rest) a w :=
  wpList_plain hgd fun K hK => by
    unfold Oper.wp
    rw [hx]
    exact hK _ _ h
theorem run_buildE {o : Oper} {a : Act} {w : World} {x : Operand} {j : Jb} {bv : Value} (ho : o.op = .build 71 #[(0, x)]) (hx : a.eval x = .agg (j.cells bv)) : (execOp a.eval o).run Try.prog w = .ok (.value (.agg (entA j bv 0 0))) w := by
  unfold execOp
  simp only [ho, hx, List.map_toArray, List.map_cons, List.map_nil, Sem.run_bind, build_entry, Sem.run_pure, Result.andThen_ok]
/-- A job's place among the others. -/
def insE : List En → En → List En
  | [], e => [e]
  | x :: r, e => if e.j.id < x.j.id then e :: x :: r else x :: insE r e
theorem insE_len : ∀ (L : List En) (e : En), (insE L e).length = L.length + 1
  | [], _ => rfl
  | x :: r, e => by
    unfold insE
    split
    · simp
    · simp [insE_len r e]
theorem mem_insE {x : En} : ∀ (L : List En) (e : En), x ∈ insE L e ↔ x = e ∨ x ∈ L
  | [], e => by simp [insE]
  | y :: r, e => by
    unfold insE
    split
    · simp
    · simp only [List.mem_cons, mem_insE r e]
      exact ⟨fun h => h.elim (fun h => .inr (.inl h)) (fun h => h.elim .inl (fun h => .inr (.inr h))), fun h => h.elim (fun h => .inr (.inl h)) (fun h => h.elim .inl (fun h => .inr (.inr h)))⟩
theorem look_insE : ∀ (L : List En) (e : En) (i : Int), lookE L e.j.id = none → lookE (insE L e) i = if i = e.j.id then some e else lookE L i
  | [], e, i, _ => by
    unfold insE lookE
    simp only [List.find?_cons, List.find?_nil]
    by_cases h : i = e.j.id
    · subst h; simp
    · rw [if_neg h, show (e.j.id == i) = false by simpa using fun e2 => h e2.symm]
  | x :: r, e, i, hn => by
    unfold lookE at hn
    simp only [List.find?_cons] at hn
    cases hx : (x.j.id == e.j.id) with
    | true => rw [hx] at hn; cases hn
    | false =>
      rw [hx] at hn
      have ih := look_insE r e i hn
      have hxe : ¬ x.j.id = e.j.id := by simpa using hx
      unfold insE
      split
      · unfold lookE
        simp only [List.find?_cons]
        by_cases h : i = e.j.id
        · subst h; simp
        · rw [if_neg h, show (e.j.id == i) = false by simpa using fun e2 => h e2.symm]
      · unfold lookE at ih ⊢
        simp only [List.find?_cons]
        cases hxi : (x.j.id == i) with
        | true =>
          have : ¬ i = e.j.id := fun e2 => hxe (by rw [← e2]; simpa using hxi)
          rw [if_neg this]
        | false => exact ih
end Go.Proofs.Ytonfdmbcbfpgdaa

namespace Go.Proofs.Ytonfdmbcbfpgdaa
open Go.RowKit
def tks (S : List Pu) : List Int := S.reverse.map (fun p => p.2.1.last + 1)
def tkOf (S : List Pu) (i : Nat) : Int := ((tks S)[i]?).getD 0
/-- A block of somebody else's is written. -/
theorem St.poke {w : World} {lab : Nat → HK} {yb jb : Nat} {j : Jb} {bv : Value} {body : List UInt8} {wx w' : World} {labx : Nat → HK} {Yx : Yd} (h : St w lab yb jb j bv body wx labx Yx) {eb : Nat} (hk : Kept (fun k => k = eb) wx w') (he : labx eb = uT) (hj : jb ≠ eb) (hw : w.heap.size ≤ eb) : St w lab yb jb j bv body w' labx Yx :=
  ⟨h.yard.kept hk (fun b _ e => by rw [show b = eb from e, he]; decide) (fun _ _ => rfl), (hk.block jb h.job.lt hj).trans h.job, h.labs, h.mine, h.kept.step hk (fun k hk2 e => by have e : k = eb := e; omega), h.body.kept hk (fun b _ e8 e => by have e : b = eb := e; rw [e, he] at e8; exact absurd e8 (by decide)) (fun _ _ => rfl)⟩
theorem ks_some {w : World} {lab : Nat → HK} {yb : Nat} {Y : Yd} (h : YAt w lab yb Y) (j : Jb) {b : Nat} (hb : Y.tb j.nm = some b) (hh : j.st = 3 → (Y.hp (hkH j.ho)).isSome = true) : ∀ K ∈ ksOf j, ∃ x, Y.hp K = some x := by
  obtain ⟨d, r, hd, hr⟩ := h.two
  obtain ⟨_, h0, h1, h2, e0, e1, e2, _⟩ := h.tube j.nm b hb
  intro K hK
  unfold ksOf at hK
  split at hK
  · obtain rfl := List.mem_singleton.1 hK; exact ⟨_, e0⟩
  · split at hK
    · rcases List.mem_cons.1 hK with rfl | hK
      · exact ⟨_, e1⟩
      · obtain rfl := List.mem_singleton.1 hK; exact ⟨_, hd⟩
    · split at hK
      · rename_i h3
        rcases List.mem_cons.1 hK with rfl | hK
        · exact Option.isSome_iff_exists.1 (hh h3)
        · obtain rfl := List.mem_singleton.1 hK; exact ⟨_, hr⟩
      · obtain rfl := List.mem_singleton.1 hK; exact ⟨_, e2⟩
theorem ks_len (j : Jb) : (ksOf j).length = 1 ∨ (ksOf j).length = 2 := by
  unfold ksOf
  split
  · exact .inl rfl
  · split
    · exact .inr rfl
    · split
      · exact .inr rfl
      · exact .inl rfl
theorem ks_nodup (j : Jb) : (ksOf j).Nodup := by
  unfold ksOf
  split
  · simp
  · split
    · simp
    · split
      · simp
      · simp
/-- Where a heap's box lies does not change. -/
theorem PuY.hb {Y : Yd} {m : Mk} : ∀ (S : List Pu), PuV Y m S → ∀ K x, Y.hp K = some x → ∃ x', (PuY Y S).hp K = some x' ∧ x'.hb = x.hb
  | [], _, K, x, hx => ⟨x, hx, rfl⟩
  | p :: r, hv, K, x, hx => by
    obtain ⟨h1, h2, h3, _⟩ := hv
    obtain ⟨x', hx', e⟩ := PuY.hb r h1 K x hx
    by_cases hk : K = p.1
    · subst hk
      rw [h2] at hx'
      cases hx'
      exact ⟨p.2.2, updH_at _ _ _, h3.trans e⟩
    · exact ⟨x', (updH_ne _ _ hk).trans hx', e⟩
/-- In the midst of the loop. -/
structure Lp (w : World) (lab : Nat → HK) (yb jb : Nat) (j : Jb) (bv : Value) (body : List UInt8) (Y3 : Yd) (eb g : Nat) (i : Nat) (S : List Pu) (wr : World) (labr : Nat → HK) : Prop where
  val : PuV Y3 j.mark S
  keys : (S.map (·.1)).reverse = (ksOf j).take i
  st : St w lab yb jb j bv body wr labr (PuY Y3 S)
  ent : EntBox wr eb j bv (tkOf S 0) (tkOf S 1)
  le : labr eb = uT
  cells : ∀ (i : Nat) K x, (ksOf j)[i]? = some K → Y3.hp K = some x → wr.cell? ⟨g, i, none⟩ = some (ptrV x.hb)
  lg : labr g = uT
  glt : g < wr.heap.size
theorem Lp.len {w : World} {lab : Nat → HK} {yb jb : Nat} {j : Jb} {bv : Value} {body : List UInt8} {Y3 : Yd} {eb g i : Nat} {S : List Pu} {wr : World} {labr : Nat → HK} (h : Lp w lab yb jb j bv body Y3 eb g i S wr labr) (hi : i ≤ (ksOf j).length) : S.length = i := by
  have := congrArg List.length h.keys
  simp at this
  omega
theorem Lp.after {w : World} {lab : Nat → HK} {yb jb : Nat} {j : Jb} {bv : Value} {body : List UInt8} {Y3 : Yd} {eb g i : Nat} {S : List Pu} {wr w5 w6 : World} {labr : Nat → HK} (h : Lp w lab yb jb j bv body Y3 eb g i S wr labr) (hi : i < (ksOf j).length) (b5 : Below wr.heap.size wr w5) (k6 : Kept (Ours (fun k => if k < wr.heap.size then labr k else uT)) w5 w6) :
    (∃ v, w6.cell? ⟨eb, 16 + i, none⟩ = some v) ∧ (∀ k, w6.frozen? ⟨eb, k, none⟩ = false) ∧ eb < w6.heap.size := by
  have elt := h.ent.lt
  have s5z := b5.size
  have ent6 : EntBox w6 eb j bv (tkOf S 0) (tkOf S 1) := (k6.block eb (by omega) (fun e => by
    have e : (if eb < wr.heap.size then labr eb else uT).1 ≤ 7 := e
    rw [if_pos elt, h.le] at e
    exact absurd e (by decide))).trans ((b5.block eb elt).trans h.ent)
  obtain ⟨c0, c1, c2⟩ := ent6.cells
  refine ⟨?_, c2, ent6.lt⟩
  have hi2 : i = 0 ∨ i = 1 := by have := ks_len j; omega
  rcases hi2 with rfl | rfl
  · exact ⟨_, c0⟩
  · exact ⟨_, c1⟩
/-- One more push. -/
theorem Lp.push {w : World} {lab : Nat → HK} {yb jb : Nat} {j : Jb} {bv : Value} {body : List UInt8} {Y3 : Yd} {eb g i : Nat} {S : List Pu} {wr w5 w6 : World} {labr lab6 : Nat → HK} (h : Lp w lab yb jb j bv body Y3 eb g i S wr labr) {K : HK} (hK : (ksOf j)[i]? = some K) {x x' : HM} (hx : (PuY Y3 S).hp K = some x) (b5 : Below wr.heap.size wr w5)
    (e1 : x'.hb = x.hb) (e2 : x'.mb = x.mb) (e3 : x'.last = x.last + 1) (e4 : x'.R = pushR K x j.mark) (a6 : YAt w6 lab6 yb { PuY Y3 S with hp := updH (PuY Y3 S).hp K (some x') }) (l6 : ∀ k, k < w5.heap.size → lab6 k = (if k < wr.heap.size then labr k else uT)) (k6 : Kept (Ours (fun k => if k < wr.heap.size then labr k else uT)) w5 w6) (hje : jb ≠ eb) (hwe : w.heap.size ≤ eb) (hge : g ≠ eb) :
    Lp w lab yb jb j bv body Y3 eb g (i + 1) ((K, x, x') :: S) (w6.setCell ⟨eb, 16 + i, none⟩ (.int .i64 (x.last + 1))) lab6 := by
  have hil : i < (ksOf j).length := (List.getElem?_eq_some_iff.1 hK).1
  have hlen := h.len (by omega)
  have s5 := h.st.user b5
  have s6 : St w lab yb jb j bv body w6 lab6 (PuY Y3 ((K, x, x') :: S)) := s5.step a6 l6 k6
  have elt := h.ent.lt
  have s5z := b5.size
  have le6 : lab6 eb = uT := by rw [l6 eb (by omega), if_pos elt]; exact h.le
  have nO : ∀ b, b < wr.heap.size → labr b = uT → ¬ Ours (fun k => if k < wr.heap.size then labr k else uT) b := fun b hb e2 e => by
    have e : (if b < wr.heap.size then labr b else uT).1 ≤ 7 := e
    rw [if_pos hb, e2] at e
    exact absurd e (by decide)
  have ent6 : EntBox w6 eb j bv (tkOf S 0) (tkOf S 1) := (k6.block eb (by omega) (nO eb elt h.le)).trans ((b5.block eb elt).trans h.ent)
  have kp : Kept (fun k => k = eb) w6 (w6.setCell ⟨eb, 16 + i, none⟩ (.int .i64 (x.last + 1))) := Kept.setCell _ w6 eb _ _ rfl
  refine ⟨⟨h.val, hx, e1, e2, e3, e4⟩, ?_, s6.poke kp le6 hje hwe, ?_, le6, fun q J z hq hz => ?_, ?_, ?_⟩
  · rw [List.map_cons, List.reverse_cons, h.keys, List.take_add_one, hK]
    rfl
  · have htk : tks ((K, x, x') :: S) = tks S ++ [x.last + 1] := by simp [tks]
    have hl2 : (tks S).length = i := by simp [tks, hlen]
    have hi2 : i = 0 ∨ i = 1 := by have := ks_len j; omega
    rcases hi2 with rfl | rfl
    · have t0 : tkOf ((K, x, x') :: S) 0 = x.last + 1 := by unfold tkOf; rw [htk, List.getElem?_append_right (by omega), hl2]; rfl
      have t1 : tkOf ((K, x, x') :: S) 1 = tkOf S 1 := by
        unfold tkOf
        rw [htk, List.getElem?_eq_none (by simp [hl2]), List.getElem?_eq_none (by omega)]
      rw [t0, t1]
      exact ent6.set0 _
    · have t1 : tkOf ((K, x, x') :: S) 1 = x.last + 1 := by unfold tkOf; rw [htk, List.getElem?_append_right (by omega), hl2]; rfl
      have t0 : tkOf ((K, x, x') :: S) 0 = tkOf S 0 := by
        unfold tkOf
        rw [htk, List.getElem?_append_left (by omega)]
      rw [t0, t1]
      exact ent6.set1 _
  · have hc := h.cells q J z hq hz
    have glt := h.glt
    have c5 : w5.cell? ⟨g, q, none⟩ = some (ptrV z.hb) := (b5.cell (p := ⟨g, q, none⟩) glt).trans hc
    have c6 : w6.cell? ⟨g, q, none⟩ = some (ptrV z.hb) := k6.cell (nO g glt h.lg) c5
    exact kp.cell hge c6
  · rw [l6 g (by have := h.glt; omega), if_pos h.glt]
    exact h.lg
  · have := h.glt
    have := k6.size
    show g < (w6.setCell _ _).heap.size
    simp
    omega
end Go.Proofs.Ytonfdmbcbfpgdaa

namespace Go.Proofs.Ytonfdmbcbfpgdaa
open Go.RowKit
theorem H_skip {P : Program} {ops : Array Oper} {Q : Exit → Act → World → Prop} {md : Region.Mode} {S : World → Prop} {i : Nat} {o : Oper} {fuel : Nat} {listed : Array Bool} {a : Act} {w w' : World} (hi : ops[i]? = some o) (hd : o.dst = none) (hr : Region.ready md ops listed = [i])
    (hg : Region.wanted o (yielded ops a.tmps) = true) (hx : (execOp a.eval o).run P w = .ok .skip w') (hS : S w')
    (h : wpAnyH P md ops Q S fuel (listed.setIfInBounds i true) a w') : wpAnyH P md ops Q S (fuel + 1) listed a w := by
  refine wpAnyH_all hr (by simp) (fun j hj => ?_)
  obtain rfl : j = i := by simpa using hj
  unfold wpOp
  simp only [hi, hg, if_true, Oper.wp, hx, Oper.upon, hd, Act.put]
  exact .inl ⟨hS, h⟩
/-- What lay leaves. -/
def Laid (w : World) (lab : Nat → HK) (yb : Nat) (Y : Yd) (j : Jb) (bv : Value) (body : List UInt8) (w' : World) : Prop :=
  ∃ lab' Y1 Y2 S, T1 Y j.nm Y1 ∧ T2 Y1 j Y2 ∧ PuV Y2 j.mark S ∧ (S.map (·.1)).reverse = ksOf j ∧ YAt w' lab' yb { PuY Y2 S with L := insE Y.L ⟨j, bv, body, tkOf S 0, tkOf S 1⟩, sm := Y.sm.add j.st j.pr 1, ts := updT Y1.ts j.nm ((Y1.ts j.nm).add j.st j.pr 1) } ∧ (∀ k, k < w.heap.size → lab' k = lab k) ∧ Kept (Ours lab) w w'
theorem cell_kept {w w' : World} (hb : Below w.heap.size w w') {b i : Nat} {v : Value} (h : w.cell? ⟨b, i, none⟩ = some v) : w'.cell? ⟨b, i, none⟩ = some v := (hb.cell (p := ⟨b, i, none⟩) (cell_lt h)).trans h
set_option maxHeartbeats 8000000 in
set_option maxRecDepth 1000000 in
theorem lay_any (j : Jb) (bv : Value) (body : List UInt8) (w : World) (lab : Nat → HK) (yb : Nat) (Y : Yd) (N : Nat) (h : YAt w lab yb Y) (hj : j.ok) (hbd : BodyAt w lab bv body) (hf : Few Y N) (hN : N ≤ 100000000) (hno : lookE Y.L j.id = none) :
    Calls Try.prog 40 #[ptrV yb, .agg (j.cells bv)] w fun e w' => e = .returned (.tuple #[]) ∧ Laid w lab yb Y j bv body w' := by
  obtain ⟨jb, hjb⟩ : ∃ jb, jb = w.heap.size := ⟨_, rfl⟩
  obtain ⟨w1, hw1⟩ : ∃ w1, w1 = w.alloc (.cells (j.cells bv) 41) := ⟨_, rfl⟩
  obtain ⟨lab1, hlab1⟩ : ∃ lab1 : Nat → HK, lab1 = fun k => if k < w.heap.size then lab k else uT := ⟨_, rfl⟩
  have S1 : St w lab yb jb j bv body w1 lab1 Y := by rw [hjb, hw1, hlab1]; exact St.begin h j bv body hbd
  obtain ⟨d, r, hd, hr⟩ := S1.yard.two
  obtain ⟨y0, y1, y2, y3, y4⟩ := S1.yard.cells hd hr
  obtain ⟨q0, q5, q8, q14, q15⟩ := S1.job.at
  have jlt := S1.job.lt
  have ylt := S1.yard.yb_lt
  obtain ⟨pv, hpv⟩ : ∃ pv, pv = ((Y.tb j.nm).map ptrV).getD (.pointer none) := ⟨_, rfl⟩
  obtain ⟨bq, hbq⟩ : ∃ bq, bq = (Y.tb j.nm).isSome := ⟨_, rfl⟩
  have hlk : (Instr.lookup 55 (.map (some Y.tm)) (.string j.nm) true).run Try.prog w1.drew = .ok (.tuple #[pv, .bool bq]) w1.drew := by
    have := (S1.yard.tubs.later (Below.refl _ w1).drew).look2_run (w := w1.drew) Try.underlying55 (zero_ptr _) j.nm hj.2.2.2.2.2.2.2.2.2.2.2.2.2.2
    rw [hpv, hbq, this, Option.isSome_map]
  have HS1 : Hid (St w lab yb jb j bv body w1 lab1 Y) := S1
  have HW1 : Hid (w1 = w.alloc (.cells (j.cells bv) 41)) := hw1
  have HJB : Hid (jb = w.heap.size) := hjb
  have HBQ : Hid (bq = (Y.tb j.nm).isSome) := hbq
  have HF : Hid (Few Y N) := hf
  have HJ : Hid j.ok := hj
  have HNO : Hid (lookE Y.L j.id = none) := hno
  clear hw1 hjb S1 hlab1 h hbd hf hpv hbq hno hj
  go_enter Try.func40, Try.ntmps40
  go_upto_region 1 with fail
  rw [← HW1.out, ← HJB.out]
  refine wp_still mixed (by kernel_rfl) ?_
  repeat still_step
  refine wpStill_nil ?_
  clear hlk
  go_upto_if 22 with fail
  go_cut [] from 22 to 29 (fun wx => ∃ labx Yx, Hid (St w lab yb jb j bv body wx labx Yx ∧ T1 Y j.nm Yx))
  case first =>
    cases bq
    · have SD : Hid (St w lab yb jb j bv body w1.drew.drew lab1 Y) := (HS1.out.later (Below.refl _ w1).drew).later (Below.refl _ w1.drew).drew
      go_upto_region 3 with fail
      have sq : w1.drew.drew.cell? ⟨yb, 1, none⟩ = some (.map (some Y.tm)) ∧ w1.drew.drew.cell? ⟨jb, 14, none⟩ = some (.string j.nm) := ⟨y1, q14⟩
      refine wp_region_held_drew (S := fun X => X.cell? ⟨yb, 1, none⟩ = some (.map (some Y.tm)) ∧ X.cell? ⟨jb, 14, none⟩ = some (.string j.nm)) (by kernel_rfl) sq (fun _ => ?_)
      refine H_take (i := 0) (v := ptrV yb) (some 23) rfl rfl (by kernel_rfl) (by kernel_rfl) (by kernel_rfl) (fun _ _ _ h => h) rfl (fun X hX => ?_) sq ?_
      · simp [go_sem]
      simp only [Act.put, List.setIfInBounds_toArray, List.set_cons_zero, List.set_cons_succ]
      refine H_take (i := 1) (v := ptrV yb) (some 24) rfl rfl (by kernel_rfl) (by kernel_rfl) (by kernel_rfl) (fun _ _ _ h => h) rfl (fun X hX => ?_) sq ?_
      · simp [go_sem]
      simp only [Act.put, List.setIfInBounds_toArray, List.set_cons_zero, List.set_cons_succ]
      refine H_take (i := 2) (v := .pointer (some ⟨yb, 1, none⟩)) (some 25) rfl rfl (by kernel_rfl) (by kernel_rfl) (by kernel_rfl) (fun _ _ _ h => h) rfl (fun X hX => ?_) sq ?_
      · simp [go_sem]
      simp only [Act.put, List.setIfInBounds_toArray, List.set_cons_zero, List.set_cons_succ]
      refine H_take (i := 3) (v := .map (some Y.tm)) (some 26) rfl rfl (by kernel_rfl) (by kernel_rfl) (by kernel_rfl) (fun _ _ _ h => h) rfl (fun X hX => ?_) sq ?_
      · exact run_load1 rfl rfl Try.isAgg55 hX.1
      simp only [Act.put, List.setIfInBounds_toArray, List.set_cons_zero, List.set_cons_succ]
      refine H_take (i := 4) (v := .pointer (some ⟨jb, 14, none⟩)) (some 27) rfl rfl (by kernel_rfl) (by kernel_rfl) (by kernel_rfl) (fun _ _ _ h => h) rfl (fun X hX => ?_) sq ?_
      · simp [go_sem]
      simp only [Act.put, List.setIfInBounds_toArray, List.set_cons_zero, List.set_cons_succ]
      refine H_take (i := 5) (v := .string j.nm) (some 28) rfl rfl (by kernel_rfl) (by kernel_rfl) (by kernel_rfl) (fun _ _ _ h => h) rfl (fun X hX => ?_) sq ?_
      · exact run_load1 rfl rfl Try.isAgg9 hX.2
      simp only [Act.put, List.setIfInBounds_toArray, List.set_cons_zero, List.set_cons_succ]
      refine H_call (i := 6) (f := 62) (args := #[]) (some 29) rfl rfl (by kernel_rfl) rfl (by simp [go_sem]) ((newTube_any _).mono ?_)
      rintro e w2 ⟨n1, n2, n3, hb0, mb0, hb1, mb1, hb2, mb2, rfl, s1, s2, s3, s4, g0, g1, g2, gc, b2⟩
      have sr : w2.cell? ⟨yb, 1, none⟩ = some (.map (some Y.tm)) ∧ w2.cell? ⟨jb, 14, none⟩ = some (.string j.nm) := ⟨cell_kept b2 sq.1, cell_kept b2 sq.2⟩
      refine ⟨_, rfl, sr, ?_⟩
      simp only [Act.put, List.setIfInBounds_toArray, List.set_cons_zero, List.set_cons_succ]
      obtain ⟨w3, hrun, hm3, hg3⟩ := VTabS.put_run Try.underlying55 (SD.out.yard.tubs.later b2) j.nm (ptrV n3) (by have := HF.out.nt; unfold maxLen; omega) HJ.out.2.2.2.2.2.2.2.2.2.2.2.2.2.2
      have ht : Y.tb j.nm = none := by have := HBQ.out; cases hx : Y.tb j.nm with | none => rfl | some x => rw [hx] at this; cases this
      obtain ⟨lab2, a2, l2, k2⟩ := SD.out.yard.addTube j.nm ht s1 s2 s3 s4 g0 g1 g2 gc b2 hm3 hg3
      have S2 := SD.out.step a2 l2 k2
      refine H_skip (i := 7) (w' := w3) rfl rfl (by kernel_rfl) rfl (by simp [execOp, Act.eval, hrun, Result.andThen]) ?_ ?_
      · obtain ⟨d2, r2, hd2, hr2⟩ := S2.yard.two
        exact ⟨(S2.yard.cells hd2 hr2).2.1, S2.job.at.2.2.2.1⟩
      refine wpAnyH_done (by kernel_rfl) ?_ _
      have F2 : Hid (St w lab yb jb j bv body w3 lab2 (Y.withTube j.nm n3 hb0 mb0 hb1 mb1 hb2 mb2) ∧ T1 Y j.nm (Y.withTube j.nm n3 hb0 mb0 hb1 mb1 hb2 mb2)) := ⟨S2, .inr ⟨ht, n3, hb0, mb0, hb1, mb1, hb2, mb2, rfl⟩⟩
      clear S2 a2 l2 k2 hrun hm3 hg3 sr gc g0 g1 g2 b2
      go_wp2_with fail
      go_meet
      exact ⟨_, _, F2.out⟩
    · go_wp2_with fail
      go_meet
      refine ⟨lab1, Y, HS1.out.later (Below.refl _ w1).drew, .inl ?_⟩
      obtain ⟨b, hb⟩ := Option.isSome_iff_exists.1 HBQ.out.symm
      exact ⟨b, hb, rfl⟩
  case rest =>
    obtain ⟨labc, Yc, HC⟩ := hcut
    clear HS1 HW1 HBQ y0 y1 y2 y3 y4 q0 q5 q8 q14 q15 jlt ylt hd hr
    obtain ⟨d, r, hd, hr⟩ := HC.out.1.yard.two
    obtain ⟨y0, y1, y2, y3, y4⟩ := HC.out.1.yard.cells hd hr
    obtain ⟨q0, q5, q8, q14, q15⟩ := HC.out.1.job.at
    have jlt := HC.out.1.job.lt
    have ylt := HC.out.1.yard.yb_lt
    obtain ⟨pw, hpw⟩ : ∃ pw, pw = ((Yc.hp (hkH j.ho)).map (fun h => ptrV h.hb)).getD (.pointer none) := ⟨_, rfl⟩
    obtain ⟨hq, hhq⟩ : ∃ hq, hq = (Yc.hp (hkH j.ho)).isSome := ⟨_, rfl⟩
    have hlh : (Instr.lookup 56 (.map (some Yc.hm)) (.int .i64 j.ho) true).run Try.prog wc.drew = .ok (.tuple #[pw, .bool hq]) wc.drew := by
      have := (HC.out.1.yard.hels.later (Below.refl _ wc).drew).look2_run (w := wc.drew) Try.underlying56 (zero_hptr _) j.ho HJ.out.2.2.2.2.2.2.2.2.1
      rw [hpw, hhq, this, Option.isSome_map]
    have HHQ : Hid (hq = (Yc.hp (hkH j.ho)).isSome) := hhq
    clear hpw hhq
    go_upto_region 4 with fail
    refine wp_still mixed (by kernel_rfl) ?_
    repeat still_step
    refine wpStill_nil ?_
    clear hlh
    obtain ⟨wd, hwd⟩ : ∃ wd, wd = wc.drew := ⟨_, rfl⟩
    have SD : Hid (St w lab yb jb j bv body wd labc Yc) := by rw [hwd]; exact HC.out.1.later (Below.refl _ wc).drew
    have y2' : wd.cell? ⟨yb, 2, none⟩ = some (.map (some Yc.hm)) := by rw [hwd]; exact y2
    have q8' : wd.cell? ⟨jb, 8, none⟩ = some (.int .i64 j.ho) := by rw [hwd]; exact q8
    have q5' : wd.cell? ⟨jb, 5, none⟩ = some (.int .i64 j.st) := by rw [hwd]; exact q5
    have jlt' : jb < wd.heap.size := by rw [hwd]; exact jlt
    have ylt' : yb < wd.heap.size := by rw [hwd]; exact ylt
    have HWD : Hid (wc.drew = wd) := hwd.symm
    clear hwd y0 y1 y2 y3 y4 q0 q5 q8 q14 q15 jlt ylt
    go_upto_region 5 with fail
    rw [HWD.out]
    obtain ⟨s3, hs3⟩ : ∃ s3, s3 = (j.st == 3) := ⟨_, rfl⟩
    have HS3 : Hid (s3 = (j.st == 3)) := hs3
    have q3 := hs3.symm
    clear hs3
    go_cut [46] from 40 to 45 (fun y wx => y = .bool (!hq && s3) ∧ wx = wd)
    case first =>
      cases hq
      · go_wp2_with fail
        go_meet
        exact ⟨by simp, rfl⟩
      · go_wp2_with fail
        go_meet
        exact ⟨by simp, rfl⟩
    case rest =>
      obtain ⟨rfl, rfl⟩ := hcut
      generalize hcq : (!hq && s3) = cq
      have HCQ : Hid ((!hq && s3) = cq) := hcq
      clear hcq q3
      go_upto_if 46 with fail
      go_cut [] from 46 to 54 (fun wx => ∃ labx Yx, Hid (St w lab yb jb j bv body wx labx Yx ∧ T2 Yc j Yx))
      case first =>
        cases cq
        · go_wp2_with fail
          go_meet
          refine ⟨labc, Yc, SD.out, .inl ⟨fun h3 => ?_, rfl⟩⟩
          have := HCQ.out
          rw [HS3.out, h3, HHQ.out] at this
          simpa using this
        · go_upto_region 6 with fail
          have sq : wc.drew.cell? ⟨yb, 2, none⟩ = some (.map (some Yc.hm)) ∧ wc.drew.cell? ⟨jb, 8, none⟩ = some (.int .i64 j.ho) := ⟨y2', q8'⟩
          have SE : Hid (St w lab yb jb j bv body wc.drew labc Yc) := SD.out.later (Below.refl _ wc).drew
          refine wp_region_held_drew (S := fun X => X.cell? ⟨yb, 2, none⟩ = some (.map (some Yc.hm)) ∧ X.cell? ⟨jb, 8, none⟩ = some (.int .i64 j.ho)) (by kernel_rfl) sq (fun _ => ?_)
          refine H_take (i := 0) (v := ptrV yb) (some 47) rfl rfl (by kernel_rfl) (by kernel_rfl) (by kernel_rfl) (fun _ _ _ h => h) rfl (fun X hX => ?_) sq ?_
          · simp [go_sem]
          simp only [Act.put, List.setIfInBounds_toArray, List.set_cons_zero, List.set_cons_succ]
          refine H_take (i := 1) (v := ptrV yb) (some 48) rfl rfl (by kernel_rfl) (by kernel_rfl) (by kernel_rfl) (fun _ _ _ h => h) rfl (fun X hX => ?_) sq ?_
          · simp [go_sem]
          simp only [Act.put, List.setIfInBounds_toArray, List.set_cons_zero, List.set_cons_succ]
          refine H_take (i := 2) (v := .pointer (some ⟨yb, 2, none⟩)) (some 49) rfl rfl (by kernel_rfl) (by kernel_rfl) (by kernel_rfl) (fun _ _ _ h => h) rfl (fun X hX => ?_) sq ?_
          · simp [go_sem]
          simp only [Act.put, List.setIfInBounds_toArray, List.set_cons_zero, List.set_cons_succ]
          refine H_take (i := 3) (v := .map (some Yc.hm)) (some 50) rfl rfl (by kernel_rfl) (by kernel_rfl) (by kernel_rfl) (fun _ _ _ h => h) rfl (fun X hX => ?_) sq ?_
          · exact run_load1 rfl rfl Try.isAgg56 hX.1
          simp only [Act.put, List.setIfInBounds_toArray, List.set_cons_zero, List.set_cons_succ]
          refine H_take (i := 4) (v := .pointer (some ⟨jb, 8, none⟩)) (some 51) rfl rfl (by kernel_rfl) (by kernel_rfl) (by kernel_rfl) (fun _ _ _ h => h) rfl (fun X hX => ?_) sq ?_
          · simp [go_sem]
          simp only [Act.put, List.setIfInBounds_toArray, List.set_cons_zero, List.set_cons_succ]
          refine H_take (i := 5) (v := .int .i64 j.ho) (some 52) rfl rfl (by kernel_rfl) (by kernel_rfl) (by kernel_rfl) (fun _ _ _ h => h) rfl (fun X hX => ?_) sq ?_
          · exact run_load1 rfl rfl Try.isAgg3 hX.2
          simp only [Act.put, List.setIfInBounds_toArray, List.set_cons_zero, List.set_cons_succ]
          refine H_take (i := 6) (v := .func (.func 32) #[.int .i64 1] #[]) (some 53) rfl rfl (by kernel_rfl) (by kernel_rfl) (by kernel_rfl) (fun _ _ _ h => h) rfl (fun X hX => ?_) sq ?_
          · simp [go_sem]
          simp only [Act.put, List.setIfInBounds_toArray, List.set_cons_zero, List.set_cons_succ]
          refine H_call (i := 7) (f := 31) (args := #[.func (.func 32) #[.int .i64 1] #[]]) (some 54) rfl rfl (by kernel_rfl) rfl (by simp [go_sem]) ((heapNew_any 1 _).mono ?_)
          rintro e w2 ⟨hb, mb, rfl, g0, b2⟩
          have sr : w2.cell? ⟨yb, 2, none⟩ = some (.map (some Yc.hm)) ∧ w2.cell? ⟨jb, 8, none⟩ = some (.int .i64 j.ho) := ⟨cell_kept b2 sq.1, cell_kept b2 sq.2⟩
          refine ⟨_, rfl, sr, ?_⟩
          simp only [Act.put, List.setIfInBounds_toArray, List.set_cons_zero, List.set_cons_succ]
          obtain ⟨w3, hrun, hm3, hg3⟩ := VTabI.put_run Try.underlying56 (SE.out.yard.hels.later b2) j.ho (ptrV hb) (by have := (HF.out.one HC.out.2).nh; unfold maxLen; omega) HJ.out.2.2.2.2.2.2.2.2.1
          have hn : Yc.hp (hkH j.ho) = none := by
            have h1 := HCQ.out
            rw [HHQ.out] at h1
            cases hx : Yc.hp (hkH j.ho) with
            | none => rfl
            | some x => rw [hx] at h1; simp at h1
          have hst : j.st = 3 := by
            have h1 := HCQ.out
            rw [HS3.out] at h1
            simp at h1
            exact h1.2
          obtain ⟨lab2, a2, l2, k2⟩ := SE.out.yard.addHeld j.ho hn g0 b2 hm3 hg3
          have S2 := SE.out.step a2 l2 k2
          refine H_skip (i := 8) (w' := w3) rfl rfl (by kernel_rfl) rfl (by simp [execOp, Act.eval, hrun, Result.andThen]) ?_ ?_
          · obtain ⟨d2, r2, hd2, hr2⟩ := S2.yard.two
            exact ⟨(S2.yard.cells hd2 hr2).2.2.1, S2.job.at.2.2.1⟩
          refine wpAnyH_done (by kernel_rfl) ?_ _
          have F2 : Hid (St w lab yb jb j bv body w3 lab2 { Yc with nh := Yc.nh + 1, hp := updH Yc.hp (hkH j.ho) (some (hm0 hb mb)) } ∧ T2 Yc j { Yc with nh := Yc.nh + 1, hp := updH Yc.hp (hkH j.ho) (some (hm0 hb mb)) }) := ⟨S2, .inr ⟨hst, hn, hb, mb, rfl⟩⟩
          clear S2 a2 l2 k2 hrun hm3 hg3 sr g0 b2
          go_wp2_with fail
          go_meet
          exact ⟨_, _, F2.out⟩
      case rest =>
        obtain ⟨lab3, Y3, H3⟩ := hcut
        clear SD y2' q8' q5' jlt' ylt' HCQ HHQ HS3 hd hr
        have HT1 : Hid (T1 Y j.nm Yc) := HC.out.2
        clear HC HWD
        have FW : Hid (Few Y3 (N + 2)) := (HF.out.one HT1.out).two H3.out.2
        obtain ⟨av, nv, cv, ebv⟩ : ∃ a n c, bv = .slice a n c := by obtain ⟨a, c, e, _⟩ := H3.out.1.body; exact ⟨a, _, c, e⟩
        have EO : Hid ((entA j bv 0 0).all (·.oneCell') = true) := by rw [ebv]; exact ent_one j av nv cv 0 0
        have J3 : Hid (JobBox wc jb j bv) := H3.out.1.job
        obtain ⟨eb, heb⟩ : ∃ eb, eb = wc.heap.size := ⟨_, rfl⟩
        obtain ⟨w4, hw4⟩ : ∃ w4, w4 = wc.alloc (.cells (entA j bv 0 0) 71) := ⟨_, rfl⟩
        have B4 : Below wc.heap.size wc w4 := by rw [hw4]; exact (Below.refl _ wc).alloc (Nat.le_refl _) _
        have S4 : Hid (St w lab yb jb j bv body w4 (fun k => if k < wc.heap.size then lab3 k else uT) Y3) := H3.out.1.user B4
        have E4 : Hid (EntBox w4 eb j bv 0 0 ∧ (if eb < wc.heap.size then lab3 eb else uT) = uT) := by
          rw [hw4, heb]; exact ⟨heap_alloc_new wc _, if_neg (Nat.lt_irrefl _)⟩
        have HW4 : Hid (wc.alloc (.cells (entA j bv 0 0) 71) = w4 ∧ wc.heap.size = eb) := ⟨hw4.symm, heb.symm⟩
        clear hw4 heb B4 ebv
        go_upto_region 8 with (first
          | (refine wpList_load_row rfl 41 (.tmp 3) rfl jb rfl 41 (j.cells bv) (0, 0) _ J3.out Try.underlying41 rfl (job_size j bv) ?_)
          | (refine wpList_value rfl (run_buildE (j := j) (bv := bv) rfl rfl) ?_)
          | (refine wpList_store_new rfl 71 (.tmp 8) (.tmp 56) rfl (entA j bv 0 0) rfl rfl 71 _ (ent_size j bv 0 0) rfl EO.out ?_))
        rw [HW4.out.1, HW4.out.2]
        have HTB : Hid (∃ b, Y3.tb j.nm = some b) := by
          obtain ⟨b, hb⟩ := HT1.out.tb
          exact ⟨b, by rw [H3.out.2.tb]; exact hb⟩
        have HHH : Hid (j.st = 3 → (Y3.hp (hkH j.ho)).isSome = true) := H3.out.2.held
        have HO : Hid (Calls Try.prog 63 #[ptrV yb, .agg (j.cells bv)] w4 fun e w' => ∃ g c, e = .returned (.slice (some ⟨g, 0, none⟩) (ksOf j).length c) ∧ (∀ (i : Nat) K x, (ksOf j)[i]? = some K → Y3.hp K = some x → w'.cell? ⟨g, i, none⟩ = some (ptrV x.hb)) ∧ w4.heap.size ≤ g ∧ g < w'.heap.size ∧ Below w4.heap.size w4 w') := by
          obtain ⟨b, hb⟩ := HTB.out
          exact heapsOf_any j bv w4 _ yb Y3 S4.out.yard HJ.out b hb HHH.out
        obtain ⟨n, hn⟩ : ∃ n, n = (ksOf j).length := ⟨_, rfl⟩
        have HN : Hid (n = (ksOf j).length) := hn
        have n2 : n ≤ 2 := by have := ks_len j; omega
        rw [← hn] at HO
        clear hn
        have J4 : Hid (JobBox w4 jb j bv) := S4.out.job
        go_wp2_with (first
          | (refine wpList_load_row rfl 41 (.tmp 3) rfl jb rfl 41 (j.cells bv) (0, 0) _ J4.out Try.underlying41 rfl (job_size j bv) ?_)
          | (go_at_call 63; refine HO.out.mono ?_; rintro e w5 ⟨g, cg, rfl, hc5, g5, gl5, b5⟩; have H5 : Hid ((∀ (i : Nat) K x, (ksOf j)[i]? = some K → Y3.hp K = some x → w5.cell? ⟨g, i, none⟩ = some (ptrV x.hb)) ∧ w4.heap.size ≤ g ∧ g < w5.heap.size ∧ Below w4.heap.size w4 w5) := ⟨hc5, g5, gl5, b5⟩; clear hc5 g5 gl5 b5))
        have hje : Hid (jb ≠ eb ∧ w.heap.size ≤ eb ∧ g ≠ eb) := by
          have e1 := J3.out.lt
          have e2 := HW4.out.2
          have e3 := H3.out.1.kept.size
          have e4 := E4.out.1.lt
          have e5 := H5.out.2.1
          exact ⟨by omega, by omega, by omega⟩
        have LP0 : Hid (Lp w lab yb jb j bv body Y3 eb g 0 [] w5 (fun k => if k < w4.heap.size then (if k < wc.heap.size then lab3 k else uT) else uT)) := by
          have e4 := E4.out.1.lt
          refine ⟨trivial, by simp, S4.out.user H5.out.2.2.2, (H5.out.2.2.2.block eb e4).trans E4.out.1, ?_, H5.out.1, if_neg (by have := H5.out.2.1; omega), H5.out.2.2.1⟩
          show (if eb < w4.heap.size then (if eb < wc.heap.size then lab3 eb else uT) else uT) = uT
          rw [if_pos e4]
          exact E4.out.2
        clear J3 J4 S4 E4 HW4 H5 HO EO
        go_loopw [61] (fun i wr => ∃ (k : Nat) (Sp : List Pu) (labr : Nat → HK), i = .int .i64 k ∧ k ≤ n ∧ Hid (Lp w lab yb jb j bv body Y3 eb g k Sp wr labr)) (fun i _ => n - (intOf i).toNat)
        case atStart => exact ⟨0, [], _, rfl, Nat.zero_le _, LP0⟩
        case round =>
          obtain ⟨k, Sp, labr, rfl, hk, HLP⟩ := hrel
          clear LP0
          by_cases hlt : k < n
          · have hltI : (k : Int) < (n : Int) := by omega
            have hk0 : (0 : Int) ≤ (k : Int) := by omega
            have hk2 : (k : Int) < 2 := by omega
            have hkl : k < (ksOf j).length := by rw [← HN.out]; exact hlt
            obtain ⟨K, hK⟩ : ∃ K, (ksOf j)[k]? = some K := ⟨_, List.getElem?_eq_getElem hkl⟩
            obtain ⟨x0, hx0⟩ : ∃ x0, Y3.hp K = some x0 := by
              obtain ⟨b, hb⟩ := HTB.out
              exact ks_some H3.out.1.yard j hb HHH.out K (List.mem_of_getElem? hK)
            obtain ⟨x, hx, exb⟩ := PuY.hb Sp HLP.out.val K x0 hx0
            have cg0 := HLP.out.cells k K x0 hK hx0
            rw [← exb] at cg0
            have glt := HLP.out.glt
            have HKX : Hid ((ksOf j)[k]? = some K ∧ (PuY Y3 Sp).hp K = some x) := ⟨hK, hx⟩
            have JR : Hid (JobBox wr jb j bv) := HLP.out.st.job
            have FP : Hid (Few (PuY Y3 Sp) (N + 4)) := by
              have f1 := FW.out.pushes Sp HLP.out.val
              have f2 := HLP.out.len (by omega)
              rw [f2] at f1
              exact ⟨fun J z hz => ⟨(f1.heap J z hz).1, by have := (f1.heap J z hz).2.1; omega, by have := (f1.heap J z hz).2.2.1; omega, (f1.heap J z hz).2.2.2⟩, by have := f1.nt; omega, by have := f1.nh; omega, by have := f1.nl; omega, f1.sm, f1.ts⟩
            have CM : Hid (Calls Try.prog 64 #[.agg (j.cells bv)] wr fun e w' => e = .returned (.agg #[.int .i64 j.id, .int .i64 j.pr, .int .i64 j.du, .int .i64 j.od]) ∧ Below wr.heap.size wr w') := markOf_any j bv wr
            have CP : Hid (∀ w5, Below wr.heap.size wr w5 → Calls Try.prog 48 #[ptrV x.hb, .agg #[.int .i64 j.id, .int .i64 j.pr, .int .i64 j.du, .int .i64 j.od]] w5 fun e w' => e = .returned (.int .i64 (x.last + 1)) ∧ ∃ x' lab', x'.hb = x.hb ∧ x'.mb = x.mb ∧ x'.last = x.last + 1 ∧ x'.R = pushR K x j.mark ∧ YAt w' lab' yb { PuY Y3 Sp with hp := updH (PuY Y3 Sp).hp K (some x') } ∧ (∀ k, k < w5.heap.size → lab' k = (if k < wr.heap.size then labr k else uT)) ∧ Kept (Ours (fun k => if k < wr.heap.size then labr k else uT)) w5 w') := fun w5 b5 => push_any (HLP.out.st.user b5).yard FP.out (by omega) hx j.mark
            clear hK hx exb hx0
            go_wp2_with (first
              | (refine wpList_load_row rfl 41 (.tmp 3) rfl jb rfl 41 (j.cells bv) (0, 0) _ JR.out Try.underlying41 rfl (job_size j bv) ?_)
              | (go_at_call 64; refine CM.out.mono ?_; rintro e w6 ⟨rfl, b6⟩; have B6 : Hid (Below wr.heap.size wr w6) := b6; clear b6)
              | (go_at_call 48; refine (CP.out _ B6.out).mono ?_; rintro e w7 ⟨rfl, x', lab7, p1, p2, p3, p4, p5, p6, p7⟩; have H7 : Hid (x'.hb = x.hb ∧ x'.mb = x.mb ∧ x'.last = x.last + 1 ∧ x'.R = pushR K x j.mark ∧ YAt w7 lab7 yb { PuY Y3 Sp with hp := updH (PuY Y3 Sp).hp K (some x') } ∧ (∀ k, k < w6.heap.size → lab7 k = (if k < wr.heap.size then labr k else uT)) ∧ Kept (Ours (fun k => if k < wr.heap.size then labr k else uT)) w6 w7) := ⟨p1, p2, p3, p4, p5, p6, p7⟩; obtain ⟨⟨cv0, ce0⟩, ce1, ce2⟩ := HLP.out.after hkl B6.out p7; clear p1 p2 p3 p4 p5 p6 p7))
            obtain ⟨p1, p2, p3, p4, p5, p6, p7⟩ := H7.out
            exact ⟨⟨k + 1, (K, x, x') :: Sp, lab7, by go_num, by omega, HLP.out.push HKX.out.1 HKX.out.2 B6.out p1 p2 p3 p4 p5 p6 p7 hje.out.1 hje.out.2.1 hje.out.2.2⟩, by simp [intOf]; omega⟩
          · have hltI : ¬ (k : Int) < (n : Int) := by omega
            obtain ⟨Yr, hYr⟩ : ∃ Yr, Yr = PuY Y3 Sp := ⟨_, rfl⟩
            have SR : Hid (St w lab yb jb j bv body wr labr Yr) := by rw [hYr]; exact HLP.out.st
            have hL : Yr.L = Y.L := by rw [hYr, (PuY.tb Y3 Sp).2.2.1, H3.out.2.same.1, HT1.out.same.1]
            have hsm : Yr.sm = Y.sm := by rw [hYr, (PuY.tb Y3 Sp).2.2.2.1, H3.out.2.same.2.1, HT1.out.same.2.1]
            have hts : Yr.ts = Yc.ts := by rw [hYr, (PuY.tb Y3 Sp).2.2.2.2.1, H3.out.2.same.2.2.2]
            have htb : Yr.tb = Y3.tb := by rw [hYr, (PuY.tb Y3 Sp).1]
            obtain ⟨d, r, hd, hr⟩ := SR.out.yard.two
            have y0 := (SR.out.yard.cells hd hr).1
            have q0 := SR.out.job.at.1
            have jlt := SR.out.job.lt
            have ylt := SR.out.yard.yb_lt
            have elt := HLP.out.ent.lt
            obtain ⟨t0, ht0⟩ : ∃ t0, t0 = tkOf Sp 0 := ⟨_, rfl⟩
            obtain ⟨t1, ht1⟩ : ∃ t1, t1 = tkOf Sp 1 := ⟨_, rfl⟩
            have ED : Hid (EntBox wr.drew eb j bv t0 t1) := by rw [ht0, ht1]; exact HLP.out.ent
            have TJ : Hid (VTabI wr.drew Yr.jm Yr.L.length (fun i => (lookE Yr.L i).map En.val)) := SR.out.yard.jobs.later (Below.refl _ wr).drew
            have HY : Hid (Yr = PuY Y3 Sp ∧ Yr.L = Y.L ∧ Yr.sm = Y.sm ∧ Yr.ts = Yc.ts ∧ Yr.tb = Y3.tb ∧ t0 = tkOf Sp 0 ∧ t1 = tkOf Sp 1) := ⟨hYr, hL, hsm, hts, htb, ht0, ht1⟩
            clear hYr hL hsm hts htb ht0 ht1 hd hr
            go_upto_region 13 with fail
            refine wp_tail 7 mixed (by kernel_rfl) ?_
            simp only [List.take_succ_cons, List.take_zero, List.drop_succ_cons, List.drop_zero]
            repeat (first | (refine still_value (v := .agg (entA j bv t0 t1)) rfl (run_loadRow (ty := 71) (x := .tmp 8) rfl rfl ED.out Try.underlying71 rfl (ent_size j bv t0 t1)) ?_; simp only [Act.put, List.setIfInBounds_toArray, List.set_cons_zero, List.set_cons_succ]) | still_step)
            refine wpStill_nil ?_
            go_upto_region 14 with (first
              | (refine wpList_vputI rfl (.tmp 77) (.tmp 79) (.tmp 80) 54 71 Try.underlying54 rfl Yr.jm Yr.L.length (fun i => (lookE Yr.L i).map En.val) j.id (.agg (entA j bv t0 t1)) rfl rfl rfl TJ.out (by have := HF.out.nl; rw [HY.out.2.1]; unfold maxLen; omega) HJ.out.1 ?_; intro w8 v8 g8; have H8 : Hid (VTabI w8 Yr.jm (if ((lookE Yr.L j.id).map En.val).isSome then Yr.L.length else Yr.L.length + 1) (putVI (fun i => (lookE Yr.L i).map En.val) j.id (.agg (entA j bv t0 t1))) ∧ wr.drew.grownBy w8 (some Yr.jm)) := ⟨v8, g8⟩; clear v8 g8))
            have hnr : lookE Yr.L j.id = none := by rw [HY.out.2.1]; exact HNO.out
            have A8 : YAt w8 labr yb { Yr with L := insE Yr.L ⟨j, bv, body, t0, t1⟩ } ∧ Kept (Ours labr) wr.drew w8 := by
              refine (SR.out.yard.below (Below.refl _ wr).drew (fun _ _ => rfl)).jobsTurned _ ?_ H8.out.2 (fun e he => ?_)
              · have h8 := H8.out.1
                rw [hnr] at h8
                refine h8.congr (insE_len _ _) (fun i => ?_)
                rw [look_insE Yr.L ⟨j, bv, body, t0, t1⟩ i hnr]
                show (if i = j.id then some _ else lookE Yr.L i).map En.val = if i = j.id then some _ else (lookE Yr.L i).map En.val
                split <;> rfl
              · rcases (mem_insE Yr.L _).1 he with rfl | h
                · exact .inr (SR.out.body.kept (P := fun _ => False) (Kept.ofBelow (Below.refl _ wr).drew) (fun _ _ _ h => h) (fun _ _ => rfl))
                · exact .inl h
            have S8 : Hid (St w lab yb jb j bv body w8 labr { Yr with L := insE Yr.L ⟨j, bv, body, t0, t1⟩ }) := (SR.out.later (Below.refl _ wr).drew).step A8.1 (fun _ _ => rfl) A8.2
            have CC : Hid (Calls Try.prog 65 #[ptrV yb, .agg (j.cells bv), .int .i64 1] w8 fun e w' => e = .returned (.tuple #[]) ∧ Laid w lab yb Y j bv body w') := by
              obtain ⟨b, hb⟩ := HTB.out
              refine (count_any j bv 1 w8 labr yb _ S8.out.yard HJ.out b (by show Yr.tb j.nm = some b; rw [HY.out.2.2.2.2.1]; exact hb) (by show Yr.sm.small; rw [HY.out.2.2.1]; exact HF.out.sm) (by show (Yr.ts j.nm).small; rw [HY.out.2.2.2.1]; exact (HF.out.one HT1.out).ts _) (by omega)).mono ?_
              rintro e w9 ⟨rfl, a9, k9⟩
              obtain ⟨e1, e2, e3, e4, e5, e6, e7⟩ := HY.out
              refine ⟨rfl, labr, Yc, Y3, Sp, HT1.out, H3.out.2, HLP.out.val, ?_, ?_, SR.out.labs, S8.out.kept.step k9 (fun q hq e => by have e : (labr q).1 ≤ 7 := e; rw [SR.out.labs q hq] at e; exact e)⟩
              · rw [HLP.out.keys, List.take_of_length_le (by rw [← HN.out]; omega)]
              · rw [← e1, ← e6, ← e7, ← e2, ← e3, ← e4]
                exact a9
            have J8 : Hid (JobBox w8 jb j bv) := S8.out.job
            clear A8 S8 H8 TJ ED SR hnr
            go_wp2_with (first
              | (refine wpList_load_row rfl 41 (.tmp 3) rfl jb rfl 41 (j.cells bv) (0, 0) _ J8.out Try.underlying41 rfl (job_size j bv) ?_)
              | (go_at_call 65; refine CC.out.mono ?_; rintro e w9 ⟨rfl, l9⟩; have L9 : Hid (Laid w lab yb Y j bv body w9) := l9; clear l9))
            go_end0
            exact ⟨rfl, L9.out⟩
end Go.Proofs.Ytonfdmbcbfpgdaa
