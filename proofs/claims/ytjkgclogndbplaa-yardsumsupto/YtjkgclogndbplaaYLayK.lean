/-
  What the walk of lay goes by.
-/
import Derived.Test.YtjkgclogndbplaaYCnt
import Derived.Test.YtjkgclogndbplaaMembers
namespace Go.Proofs.Ytjkgclogndbplaa
open Go.RowKit
abbrev uT : HK := (9, eB, 0)
/-- In the midst of a call: the yard, the job's box. -/
structure St (w : World) (lab : Nat → HK) (yb jb : Nat) (j : Jb) (bv : Value) (body : List UInt8) (wx : World) (labx : Nat → HK) (Yx : Yd) : Prop where
  yard : YAt wx labx yb Yx
  job : JobBox wx jb j bv
  labs : ∀ k, k < w.heap.size → labx k = lab k
  mine : labx jb = uT
  kept : Kept (Ours lab) w wx
  body : BodyAt wx labx bv body
theorem St.step {w : World} {lab : Nat → HK} {yb jb : Nat} {j : Jb} {bv : Value} {body : List UInt8} {wx w' : World} {labx lab' : Nat → HK} {Yx Y' : Yd} (h : St w lab yb jb j bv body wx labx Yx) (a : YAt w' lab' yb Y') (hl : ∀ k, k < wx.heap.size → lab' k = labx k) (hk : Kept (Ours labx) wx w') : St w lab yb jb j bv body w' lab' Y' :=
  ⟨a, (hk.block jb h.job.lt (fun e => by have e : (labx jb).1 ≤ 7 := e; rw [h.mine] at e; exact absurd e (by decide))).trans h.job, fun k hk2 => (hl k (Nat.lt_of_lt_of_le hk2 h.kept.size)).trans (h.labs k hk2), (hl jb h.job.lt).trans h.mine, h.kept.step hk (fun k hk2 e => by have e : (labx k).1 ≤ 7 := e; rw [h.labs k hk2] at e; exact e), h.body.kept hk (fun b _ e8 e => by have e : (labx b).1 ≤ 7 := e; omega) hl⟩
/-- New blocks are somebody else's. -/
theorem St.user {w : World} {lab : Nat → HK} {yb jb : Nat} {j : Jb} {bv : Value} {body : List UInt8} {wx w' : World} {labx : Nat → HK} {Yx : Yd} (h : St w lab yb jb j bv body wx labx Yx) (hb : Below wx.heap.size wx w') : St w lab yb jb j bv body w' (fun k => if k < wx.heap.size then labx k else uT) Yx :=
  h.step (h.yard.below hb (fun _ hk => if_pos hk)) (fun _ hk => if_pos hk) (Kept.ofBelow hb)
theorem St.later {w : World} {lab : Nat → HK} {yb jb : Nat} {j : Jb} {bv : Value} {body : List UInt8} {wx w' : World} {labx : Nat → HK} {Yx : Yd} (h : St w lab yb jb j bv body wx labx Yx) (hb : Below wx.heap.size wx w') : St w lab yb jb j bv body w' labx Yx :=
  h.step (h.yard.below hb (fun _ _ => rfl)) (fun _ _ => rfl) (Kept.ofBelow hb)
theorem St.begin {w : World} {lab : Nat → HK} {yb : Nat} {Y : Yd} (h : YAt w lab yb Y) (j : Jb) (bv : Value) (body : List UInt8) (hb : BodyAt w lab bv body) : St w lab yb w.heap.size j bv body (w.alloc (.cells (j.cells bv) 38)) (fun k => if k < w.heap.size then lab k else uT) Y := by
  have b1 : Below w.heap.size w (w.alloc (.cells (j.cells bv) 38)) := (Below.refl _ w).alloc (Nat.le_refl _) _
  exact ⟨h.below b1 (fun _ hk => if_pos hk), JobBox.new w j bv, fun _ hk => if_pos hk, if_neg (Nat.lt_irrefl _), Kept.ofBelow b1, hb.kept (P := fun _ => False) (Kept.ofBelow b1) (fun _ _ _ h => h) (fun _ hk => if_pos hk)⟩
/-- The tube is there. -/
def T1 (Y : Yd) (t : ByteArray) (Y1 : Yd) : Prop := (∃ b, Y.tb t = some b ∧ Y1 = Y) ∨ (Y.tb t = none ∧ ∃ b hb0 mb0 hb1 mb1 hb2 mb2, Y1 = Y.withTube t b hb0 mb0 hb1 mb1 hb2 mb2)
theorem T1.tb {Y Y1 : Yd} {t : ByteArray} (h : T1 Y t Y1) : ∃ b, Y1.tb t = some b := by
  rcases h with ⟨b, hb, rfl⟩ | ⟨_, b, _, _, _, _, _, _, rfl⟩
  · exact ⟨b, hb⟩
  · exact ⟨b, if_pos rfl⟩
/-- So is the holder's heap. -/
def T2 (Y1 : Yd) (j : Jb) (Y2 : Yd) : Prop := ((j.st = 3 → (Y1.hp (hkH j.ho)).isSome = true) ∧ Y2 = Y1) ∨ (j.st = 3 ∧ Y1.hp (hkH j.ho) = none ∧ ∃ hb mb, Y2 = { Y1 with nh := Y1.nh + 1, hp := updH Y1.hp (hkH j.ho) (some (hm0 hb mb)) })
theorem T2.held {Y1 Y2 : Yd} {j : Jb} (h : T2 Y1 j Y2) (hs : j.st = 3) : (Y2.hp (hkH j.ho)).isSome = true := by
  rcases h with ⟨h1, rfl⟩ | ⟨_, _, hb, mb, rfl⟩
  · exact h1 hs
  · show (updH Y1.hp (hkH j.ho) (some (hm0 hb mb)) (hkH j.ho)).isSome = true
    rw [updH_at]
    rfl
theorem T2.tb {Y1 Y2 : Yd} {j : Jb} (h : T2 Y1 j Y2) : Y2.tb = Y1.tb := by
  rcases h with ⟨_, rfl⟩ | ⟨_, _, hb, mb, rfl⟩ <;> rfl
theorem T1.same {Y Y1 : Yd} {t : ByteArray} (h : T1 Y t Y1) : Y1.L = Y.L ∧ Y1.sm = Y.sm ∧ Y1.jm = Y.jm := by
  rcases h with ⟨b, _, rfl⟩ | ⟨_, b, _, _, _, _, _, _, rfl⟩ <;> exact ⟨rfl, rfl, rfl⟩
theorem T2.same {Y1 Y2 : Yd} {j : Jb} (h : T2 Y1 j Y2) : Y2.L = Y1.L ∧ Y2.sm = Y1.sm ∧ Y2.jm = Y1.jm ∧ Y2.ts = Y1.ts := by
  rcases h with ⟨_, rfl⟩ | ⟨_, _, hb, mb, rfl⟩ <;> exact ⟨rfl, rfl, rfl, rfl⟩
/-- How much there may be. -/
structure Few (Y : Yd) (N : Nat) : Prop where
  heap : ∀ K h, Y.hp K = some h → 0 ≤ h.last ∧ h.last ≤ N ∧ h.R.length ≤ N ∧ ∀ r ∈ h.R, r.1 ≤ h.last
  nt : Y.nt ≤ N
  nh : Y.nh ≤ N
  nl : Y.L.length ≤ N
  sm : Y.sm.small
  ts : ∀ t, (Y.ts t).small
theorem sm0_small : sm0.small := by unfold Sm.small; decide
theorem Few.one {Y Y1 : Yd} {t : ByteArray} {N : Nat} (h : Few Y N) (h1 : T1 Y t Y1) : Few Y1 (N + 1) := by
  rcases h1 with ⟨b, _, rfl⟩ | ⟨_, b, hb0, mb0, hb1, mb1, hb2, mb2, rfl⟩
  · exact ⟨fun K g hg => ⟨(h.heap K g hg).1, by have := (h.heap K g hg).2.1; omega, by have := (h.heap K g hg).2.2.1; omega, (h.heap K g hg).2.2.2⟩, by have := h.nt; omega, by have := h.nh; omega, by have := h.nl; omega, h.sm, h.ts⟩
  · have new : ∀ hb mb : Nat, 0 ≤ (hm0 hb mb).last ∧ (hm0 hb mb).last ≤ ((N + 1 : Nat) : Int) ∧ (hm0 hb mb).R.length ≤ N + 1 ∧ ∀ r ∈ (hm0 hb mb).R, r.1 ≤ (hm0 hb mb).last := fun hb mb => ⟨Int.le_refl 0, by show (0 : Int) ≤ _; omega, by simp [hm0], fun r hr => by cases hr⟩
    refine ⟨fun K g hg => ?_, by show Y.nt + 1 ≤ N + 1; have := h.nt; omega, by show Y.nh ≤ N + 1; have := h.nh; omega, by show Y.L.length ≤ N + 1; have := h.nl; omega, h.sm, fun s => ?_⟩
    · simp only [Yd.withTube] at hg
      split at hg
      · cases hg; exact new _ _
      · split at hg
        · cases hg; exact new _ _
        · split at hg
          · cases hg; exact new _ _
          · exact ⟨(h.heap K g hg).1, by have := (h.heap K g hg).2.1; omega, by have := (h.heap K g hg).2.2.1; omega, (h.heap K g hg).2.2.2⟩
    · show (updT Y.ts t sm0 s).small
      unfold updT
      split
      · exact sm0_small
      · exact h.ts s
theorem Few.two {Y Y1 : Yd} {j : Jb} {N : Nat} (h : Few Y N) (h1 : T2 Y j Y1) : Few Y1 (N + 1) := by
  rcases h1 with ⟨_, rfl⟩ | ⟨_, _, hb, mb, rfl⟩
  · exact ⟨fun K g hg => ⟨(h.heap K g hg).1, by have := (h.heap K g hg).2.1; omega, by have := (h.heap K g hg).2.2.1; omega, (h.heap K g hg).2.2.2⟩, by have := h.nt; omega, by have := h.nh; omega, by have := h.nl; omega, h.sm, h.ts⟩
  · refine ⟨fun K g hg => ?_, by show Y.nt ≤ N + 1; have := h.nt; omega, by show Y.nh + 1 ≤ N + 1; have := h.nh; omega, by show Y.L.length ≤ N + 1; have := h.nl; omega, h.sm, h.ts⟩
    by_cases e : K = hkH j.ho
    · subst e
      have hg : some (hm0 hb mb) = some g := (updH_at Y.hp (hkH j.ho) (some (hm0 hb mb))).symm.trans hg
      cases hg
      exact ⟨Int.le_refl 0, by show (0 : Int) ≤ _; omega, by simp [hm0], fun r hr => by cases hr⟩
    · have hg : Y.hp K = some g := (updH_ne Y.hp (K := hkH j.ho) (some (hm0 hb mb)) e).symm.trans hg
      exact ⟨(h.heap K g hg).1, by have := (h.heap K g hg).2.1; omega, by have := (h.heap K g hg).2.2.1; omega, (h.heap K g hg).2.2.2⟩
/-- What a push makes of a heap's rows. -/
def pushR (K : HK) (h : HM) (m : Mk) : List (Int × Mk) := (riseL (ltK (rkOf K.1)) h.R.length (h.R ++ [(h.last + 1, m)]) h.R.length 0).1
/-- Pushes, the latest first: which heap, what it was, what it is. -/
abbrev Pu := HK × HM × HM
def PuY (Y : Yd) : List Pu → Yd
  | [] => Y
  | p :: r => { PuY Y r with hp := updH (PuY Y r).hp p.1 (some p.2.2) }
def PuV (Y : Yd) (m : Mk) : List Pu → Prop
  | [] => True
  | p :: r => PuV Y m r ∧ (PuY Y r).hp p.1 = some p.2.1 ∧ p.2.2.hb = p.2.1.hb ∧ p.2.2.mb = p.2.1.mb ∧ p.2.2.last = p.2.1.last + 1 ∧ p.2.2.R = pushR p.1 p.2.1 m
theorem PuY.tb (Y : Yd) : ∀ S : List Pu, (PuY Y S).tb = Y.tb ∧ (PuY Y S).jm = Y.jm ∧ (PuY Y S).L = Y.L ∧ (PuY Y S).sm = Y.sm ∧ (PuY Y S).ts = Y.ts ∧ (PuY Y S).nt = Y.nt ∧ (PuY Y S).nh = Y.nh
  | [] => ⟨rfl, rfl, rfl, rfl, rfl, rfl, rfl⟩
  | _ :: r => PuY.tb Y r
theorem pushR_len (K : HK) (h : HM) (m : Mk) : (pushR K h m).length = h.R.length + 1 := by unfold pushR; rw [riseL_length]; simp
theorem mem_pushR {K : HK} {h : HM} {m : Mk} {r : Int × Mk} : r ∈ pushR K h m ↔ r ∈ h.R ∨ r = (h.last + 1, m) := by
  unfold pushR
  rw [mem_rise]
  simp
theorem Few.push {Y : Yd} {N : Nat} (h : Few Y N) {K : HK} {g g' : HM} {m : Mk} (hg : Y.hp K = some g) (hl : g'.last = g.last + 1) (hR : g'.R = pushR K g m) : Few { Y with hp := updH Y.hp K (some g') } (N + 1) := by
  refine ⟨fun J x hx => ?_, by show Y.nt ≤ N + 1; have := h.nt; omega, by show Y.nh ≤ N + 1; have := h.nh; omega, by show Y.L.length ≤ N + 1; have := h.nl; omega, h.sm, h.ts⟩
  obtain ⟨a1, a2, a3, a4⟩ := h.heap K g hg
  by_cases e : J = K
  · subst e
    have hx : some g' = some x := (updH_at Y.hp J (some g')).symm.trans hx
    cases hx
    refine ⟨by omega, by omega, by rw [hR, pushR_len]; omega, fun r hr => ?_⟩
    rw [hR, mem_pushR] at hr
    rcases hr with hr | rfl
    · have := a4 r hr; omega
    · show g.last + 1 ≤ _; omega
  · have hx : Y.hp J = some x := (updH_ne Y.hp (K := K) (some g') e).symm.trans hx
    exact ⟨(h.heap J x hx).1, by have := (h.heap J x hx).2.1; omega, by have := (h.heap J x hx).2.2.1; omega, (h.heap J x hx).2.2.2⟩
theorem Few.pushes {Y : Yd} {N : Nat} {m : Mk} (h : Few Y N) : ∀ S : List Pu, PuV Y m S → Few (PuY Y S) (N + S.length)
  | [], _ => h
  | p :: r, hv => by
    obtain ⟨h1, h2, _, _, h5, h6⟩ := hv
    have := (Few.pushes h r h1).push h2 h5 h6
    exact this
/-- A push on one of a yard's heaps. -/
theorem push_any {w : World} {lab : Nat → HK} {yb : Nat} {Y : Yd} (h : YAt w lab yb Y) {N : Nat} (hf : Few Y N) (hN : N ≤ 1000000000) {K : HK} {g : HM} (hg : Y.hp K = some g) (m : Mk) :
    Calls Try.prog 60 #[ptrV g.hb, .agg #[.int .i64 m.id, .int .i64 m.pri, .int .i64 m.due, .int .i64 m.ord]] w fun e w' => e = .returned (.int .i64 (g.last + 1)) ∧ ∃ g' lab', g'.hb = g.hb ∧ g'.mb = g.mb ∧ g'.last = g.last + 1 ∧ g'.R = pushR K g m ∧ YAt w' lab' yb { Y with hp := updH Y.hp K (some g') } ∧ (∀ k, k < w.heap.size → lab' k = lab k) ∧ Kept (Ours lab) w w' := by
  obtain ⟨k5, hat⟩ := h.heap K g hg
  obtain ⟨f1, f2, f3, f4⟩ := hf.heap K g hg
  refine (pushM (rank_asks (rkOf K.1)) w g.hb g.mb g.v g.last g.R m 0 hat.at_ trivial (fun _ _ => trivial) trivial (fun _ _ h => h) (by omega) f1 (by omega) f4).mono ?_
  rintro e w' ⟨rfl, v', h1, _, h3, h4⟩
  have k3 : Kept (Mine g.hb g.v g.mb) w w' := h3.mono (fun k _ hk => hk.resolve_right (fun h => h))
  obtain ⟨lab', a', l', k'⟩ := h.turned (g' := ⟨g.hb, g.mb, v', g.last + 1, pushR K g m⟩) hg h1 rfl k3 h4
  exact ⟨rfl, ⟨g.hb, g.mb, v', g.last + 1, pushR K g m⟩, lab', rfl, rfl, rfl, rfl, a', l', k'⟩
end Go.Proofs.Ytjkgclogndbplaa
