/-
  What the loop of lay goes by.
-/
import Derived.Test.YtjkgclogndbplaaYLayE
namespace Go.Proofs.Ytjkgclogndbplaa
open Go.RowKit
def tks (S : List Pu) : List Int := S.reverse.map (fun p => p.2.1.last + 1)
def tkOf (S : List Pu) (i : Nat) : Int := ((tks S)[i]?).getD 0
/-- A block of somebody else's is written. -/
theorem St.poke {w : World} {lab : Nat → HK} {yb jb : Nat} {j : Jb} {bv : Value} {body : List UInt8} {wx w' : World} {labx : Nat → HK} {Yx : Yd} (h : St w lab yb jb j bv body wx labx Yx) {eb : Nat} (hk : Kept (fun k => k = eb) wx w') (he : labx eb = uT) (hj : jb ≠ eb) (hw : w.heap.size ≤ eb) : St w lab yb jb j bv body w' labx Yx :=
  ⟨h.yard.kept hk (fun b _ e => by rw [show b = eb from e, he]; decide) (fun _ _ => rfl), (hk.block jb h.job.lt hj).trans h.job, h.labs, h.mine, h.kept.step hk (fun k hk2 e => by have e : k = eb := e; omega), h.body.kept hk (fun b _ e8 e => by have e : b = eb := e; rw [e, he] at e8; exact absurd e8 (by decide)) (fun _ _ => rfl)⟩
theorem ks_some {w : World} {lab : Nat → HK} {yb : Nat} {Y : Yd} (h : YAt w lab yb Y) (j : Jb) {b : Nat} (hb : Y.tb j.nm = some b) (hh : j.st = 3 → (Y.hp (hkH j.ho)).isSome = true) : ∀ K ∈ ksOf j, ∃ x, Y.hp K = some x := by
  obtain ⟨d, r, hd, hr⟩ := h.two
  obtain ⟨_, h0, h1, h2, e0, e1, e2, _⟩ := h.tube j.nm b hb
  intro K hK
  unfold ksOf at hK
  split at hK
  · obtain rfl := List.mem_singleton.1 hK; exact ⟨_, e0⟩
  · split at hK
    · rcases List.mem_cons.1 hK with rfl | hK
      · exact ⟨_, e1⟩
      · obtain rfl := List.mem_singleton.1 hK; exact ⟨_, hd⟩
    · split at hK
      · rename_i h3
        rcases List.mem_cons.1 hK with rfl | hK
        · exact Option.isSome_iff_exists.1 (hh h3)
        · obtain rfl := List.mem_singleton.1 hK; exact ⟨_, hr⟩
      · obtain rfl := List.mem_singleton.1 hK; exact ⟨_, e2⟩
theorem ks_len (j : Jb) : (ksOf j).length = 1 ∨ (ksOf j).length = 2 := by
  unfold ksOf
  split
  · exact .inl rfl
  · split
    · exact .inr rfl
    · split
      · exact .inr rfl
      · exact .inl rfl
theorem ks_nodup (j : Jb) : (ksOf j).Nodup := by
  unfold ksOf
  split
  · simp
  · split
    · simp
    · split
      · simp
      · simp
/-- Where a heap's box lies does not change. -/
theorem PuY.hb {Y : Yd} {m : Mk} : ∀ (S : List Pu), PuV Y m S → ∀ K x, Y.hp K = some x → ∃ x', (PuY Y S).hp K = some x' ∧ x'.hb = x.hb
  | [], _, K, x, hx => ⟨x, hx, rfl⟩
  | p :: r, hv, K, x, hx => by
    obtain ⟨h1, h2, h3, _⟩ := hv
    obtain ⟨x', hx', e⟩ := PuY.hb r h1 K x hx
    by_cases hk : K = p.1
    · subst hk
      rw [h2] at hx'
      cases hx'
      exact ⟨p.2.2, updH_at _ _ _, h3.trans e⟩
    · exact ⟨x', (updH_ne _ _ hk).trans hx', e⟩
/-- In the midst of the loop. -/
structure Lp (w : World) (lab : Nat → HK) (yb jb : Nat) (j : Jb) (bv : Value) (body : List UInt8) (Y3 : Yd) (eb g : Nat) (i : Nat) (S : List Pu) (wr : World) (labr : Nat → HK) : Prop where
  val : PuV Y3 j.mark S
  keys : (S.map (·.1)).reverse = (ksOf j).take i
  st : St w lab yb jb j bv body wr labr (PuY Y3 S)
  ent : EntBox wr eb j bv (tkOf S 0) (tkOf S 1)
  le : labr eb = uT
  cells : ∀ (i : Nat) K x, (ksOf j)[i]? = some K → Y3.hp K = some x → wr.cell? ⟨g, i, none⟩ = some (ptrV x.hb)
  lg : labr g = uT
  glt : g < wr.heap.size
theorem Lp.len {w : World} {lab : Nat → HK} {yb jb : Nat} {j : Jb} {bv : Value} {body : List UInt8} {Y3 : Yd} {eb g i : Nat} {S : List Pu} {wr : World} {labr : Nat → HK} (h : Lp w lab yb jb j bv body Y3 eb g i S wr labr) (hi : i ≤ (ksOf j).length) : S.length = i := by
  have := congrArg List.length h.keys
  simp at this
  omega
theorem Lp.after {w : World} {lab : Nat → HK} {yb jb : Nat} {j : Jb} {bv : Value} {body : List UInt8} {Y3 : Yd} {eb g i : Nat} {S : List Pu} {wr w5 w6 : World} {labr : Nat → HK} (h : Lp w lab yb jb j bv body Y3 eb g i S wr labr) (hi : i < (ksOf j).length) (b5 : Below wr.heap.size wr w5) (k6 : Kept (Ours (fun k => if k < wr.heap.size then labr k else uT)) w5 w6) :
    (∃ v, w6.cell? ⟨eb, 16 + i, none⟩ = some v) ∧ (∀ k, w6.frozen? ⟨eb, k, none⟩ = false) ∧ eb < w6.heap.size := by
  have elt := h.ent.lt
  have s5z := b5.size
  have ent6 : EntBox w6 eb j bv (tkOf S 0) (tkOf S 1) := (k6.block eb (by omega) (fun e => by
    have e : (if eb < wr.heap.size then labr eb else uT).1 ≤ 7 := e
    rw [if_pos elt, h.le] at e
    exact absurd e (by decide))).trans ((b5.block eb elt).trans h.ent)
  obtain ⟨c0, c1, c2⟩ := ent6.cells
  refine ⟨?_, c2, ent6.lt⟩
  have hi2 : i = 0 ∨ i = 1 := by have := ks_len j; omega
  rcases hi2 with rfl | rfl
  · exact ⟨_, c0⟩
  · exact ⟨_, c1⟩
/-- One more push. -/
theorem Lp.push {w : World} {lab : Nat → HK} {yb jb : Nat} {j : Jb} {bv : Value} {body : List UInt8} {Y3 : Yd} {eb g i : Nat} {S : List Pu} {wr w5 w6 : World} {labr lab6 : Nat → HK} (h : Lp w lab yb jb j bv body Y3 eb g i S wr labr) {K : HK} (hK : (ksOf j)[i]? = some K) {x x' : HM} (hx : (PuY Y3 S).hp K = some x) (b5 : Below wr.heap.size wr w5)
    (e1 : x'.hb = x.hb) (e2 : x'.mb = x.mb) (e3 : x'.last = x.last + 1) (e4 : x'.R = pushR K x j.mark) (a6 : YAt w6 lab6 yb { PuY Y3 S with hp := updH (PuY Y3 S).hp K (some x') }) (l6 : ∀ k, k < w5.heap.size → lab6 k = (if k < wr.heap.size then labr k else uT)) (k6 : Kept (Ours (fun k => if k < wr.heap.size then labr k else uT)) w5 w6) (hje : jb ≠ eb) (hwe : w.heap.size ≤ eb) (hge : g ≠ eb) :
    Lp w lab yb jb j bv body Y3 eb g (i + 1) ((K, x, x') :: S) (w6.setCell ⟨eb, 16 + i, none⟩ (.int .i64 (x.last + 1))) lab6 := by
  have hil : i < (ksOf j).length := (List.getElem?_eq_some_iff.1 hK).1
  have hlen := h.len (by omega)
  have s5 := h.st.user b5
  have s6 : St w lab yb jb j bv body w6 lab6 (PuY Y3 ((K, x, x') :: S)) := s5.step a6 l6 k6
  have elt := h.ent.lt
  have s5z := b5.size
  have le6 : lab6 eb = uT := by rw [l6 eb (by omega), if_pos elt]; exact h.le
  have nO : ∀ b, b < wr.heap.size → labr b = uT → ¬ Ours (fun k => if k < wr.heap.size then labr k else uT) b := fun b hb e2 e => by
    have e : (if b < wr.heap.size then labr b else uT).1 ≤ 7 := e
    rw [if_pos hb, e2] at e
    exact absurd e (by decide)
  have ent6 : EntBox w6 eb j bv (tkOf S 0) (tkOf S 1) := (k6.block eb (by omega) (nO eb elt h.le)).trans ((b5.block eb elt).trans h.ent)
  have kp : Kept (fun k => k = eb) w6 (w6.setCell ⟨eb, 16 + i, none⟩ (.int .i64 (x.last + 1))) := Kept.setCell _ w6 eb _ _ rfl
  refine ⟨⟨h.val, hx, e1, e2, e3, e4⟩, ?_, s6.poke kp le6 hje hwe, ?_, le6, fun q J z hq hz => ?_, ?_, ?_⟩
  · rw [List.map_cons, List.reverse_cons, h.keys, List.take_add_one, hK]
    rfl
  · have htk : tks ((K, x, x') :: S) = tks S ++ [x.last + 1] := by simp [tks]
    have hl2 : (tks S).length = i := by simp [tks, hlen]
    have hi2 : i = 0 ∨ i = 1 := by have := ks_len j; omega
    rcases hi2 with rfl | rfl
    · have t0 : tkOf ((K, x, x') :: S) 0 = x.last + 1 := by unfold tkOf; rw [htk, List.getElem?_append_right (by omega), hl2]; rfl
      have t1 : tkOf ((K, x, x') :: S) 1 = tkOf S 1 := by
        unfold tkOf
        rw [htk, List.getElem?_eq_none (by simp [hl2]), List.getElem?_eq_none (by omega)]
      rw [t0, t1]
      exact ent6.set0 _
    · have t1 : tkOf ((K, x, x') :: S) 1 = x.last + 1 := by unfold tkOf; rw [htk, List.getElem?_append_right (by omega), hl2]; rfl
      have t0 : tkOf ((K, x, x') :: S) 0 = tkOf S 0 := by
        unfold tkOf
        rw [htk, List.getElem?_append_left (by omega)]
      rw [t0, t1]
      exact ent6.set1 _
  · have hc := h.cells q J z hq hz
    have glt := h.glt
    have c5 : w5.cell? ⟨g, q, none⟩ = some (ptrV z.hb) := (b5.cell (p := ⟨g, q, none⟩) glt).trans hc
    have c6 : w6.cell? ⟨g, q, none⟩ = some (ptrV z.hb) := k6.cell (nO g glt h.lg) c5
    exact kp.cell hge c6
  · rw [l6 g (by have := h.glt; omega), if_pos h.glt]
    exact h.lg
  · have := h.glt
    have := k6.size
    show g < (w6.setCell _ _).heap.size
    simp
    omega
end Go.Proofs.Ytjkgclogndbplaa
