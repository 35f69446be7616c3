/-
  What stands in the two queues of QueueTexts.
-/
import Derived.Test.YtpnbmokgjinnbaaFromS
import Derived.Test.YtpnbmokgjinnbaaView
import Derived.Test.YtpnbmokgjinnbaaRefLeave
namespace Go.Proofs.Ytpnbmokgjinnbaa
open Go.RowKit

def txt (ss : List ByteArray) (h : Int) : Value := .string (ss.getD h.toNat ByteArray.empty)
/-- The queue's places, the document's tickets and things, the texts. -/
structure TRel (R : List Stand) (T H : List Int) (ss : List ByteArray) : Prop where
  tks : R.map Stand.tk = T
  vals : R.map Stand.v = H.map (txt ss)
  ok : ∀ h ∈ H, 0 ≤ h ∧ h.toNat < ss.length
theorem TRel.lenT {R : List Stand} {T H : List Int} {ss : List ByteArray} (h : TRel R T H ss) : T.length = R.length := by rw [← h.tks, List.length_map]
theorem TRel.lenH {R : List Stand} {T H : List Int} {ss : List ByteArray} (h : TRel R T H ss) : H.length = R.length := by have := congrArg List.length h.vals; simpa using this.symm
theorem txt_more {ss : List ByteArray} {s : ByteArray} {h : Int} (hh : h.toNat < ss.length) : txt (ss ++ [s]) h = txt ss h := by
  unfold txt
  simp [List.getD_eq_getElem?_getD, List.getElem?_append_left hh]
theorem TRel.join {R : List Stand} {T H : List Int} {ss : List ByteArray} (h : TRel R T H ss) (b : Nat) (t : Int) (s : ByteArray) : TRel (R ++ [⟨b, t, .string s⟩]) (T ++ [t]) (H ++ [(ss.length : Int)]) (ss ++ [s]) := by
  refine ⟨by rw [List.map_append, h.tks]; rfl, ?_, ?_⟩
  · rw [List.map_append, List.map_append, h.vals]
    congr 1
    · exact List.map_congr_left fun x hx => (txt_more (h.ok x hx).2).symm
    · simp [txt]
  · intro x hx
    rcases List.mem_append.1 hx with hx | hx
    · have := h.ok x hx
      simp
      omega
    · simp at hx
      subst hx
      simp
theorem TRel.spot_none {R : List Stand} {T H : List Int} {ss : List ByteArray} (h : TRel R T H ss) {t : Int} (h0 : R.find? (fun r => r.tk == t) = none) : spot T t = none := by
  refine Go.Proofs.Ytpnbmokgjinnbaa.spot_none fun j _ x hx => ?_
  rw [← h.tks] at hx
  rw [List.getElem?_map] at hx
  obtain ⟨r, hr, rfl⟩ := Option.map_eq_some_iff.1 hx
  have := List.find?_eq_none.1 h0 r (List.mem_of_getElem? hr)
  simpa using this
theorem TRel.split {R : List Stand} {T H : List Int} {ss : List ByteArray} (h : TRel R T H ss) (up : R.Pairwise (fun a b => a.tk < b.tk)) {t : Int} {A B : List Stand} {r : Stand} (hR : R = A ++ r :: B) (hr : r.tk = t) (hA : ∀ s ∈ A, s.tk ≠ t) :
    spot T t = some A.length ∧ (∃ x, H[A.length]? = some x ∧ txt ss x = r.v ∧ 0 ≤ x ∧ x.toNat < ss.length) ∧ TRel (R.filter (fun r => r.tk != t)) (T.eraseIdx A.length) (H.eraseIdx A.length) ss := by
  have hne := up_ne (hR ▸ up)
  have hF : R.filter (fun r => r.tk != t) = A ++ B := by
    rw [hR, List.filter_append, List.filter_cons]
    have e1 : A.filter (fun r => r.tk != t) = A := List.filter_eq_self.2 fun s hs => by simpa using hA s hs
    have e2 : B.filter (fun r => r.tk != t) = B := List.filter_eq_self.2 fun s hs => by have := hne s (by simp [hs]); simpa [← hr] using this
    rw [e1, e2]
    simp [hr]
  have hlH : A.length < H.length := by rw [h.lenH, hR]; simp
  obtain ⟨x, hx⟩ : ∃ x, H[A.length]? = some x := ⟨_, List.getElem?_eq_getElem hlH⟩
  have hv := congrArg (fun l : List Value => l[A.length]?) h.vals
  simp only [List.getElem?_map, hx, Option.map_some] at hv
  rw [hR, List.getElem?_append_right (Nat.le_refl _), Nat.sub_self] at hv
  simp only [List.getElem?_cons_zero, Option.map_some, Option.some.injEq] at hv
  refine ⟨spot_here (fun j hj y hy => ?_) ?_, ⟨x, hx, hv.symm, (h.ok x (List.mem_of_getElem? hx)).1, (h.ok x (List.mem_of_getElem? hx)).2⟩, ?_, ?_, fun y hy => h.ok y (List.mem_of_mem_eraseIdx hy)⟩
  · rw [← h.tks, List.getElem?_map, hR, List.getElem?_append_left hj] at hy
    obtain ⟨s, hs, rfl⟩ := Option.map_eq_some_iff.1 hy
    exact hA s (List.mem_of_getElem? hs)
  · rw [← h.tks, List.getElem?_map, hR, List.getElem?_append_right (Nat.le_refl _), Nat.sub_self]
    simp [hr]
  · rw [hF, ← h.tks, hR, List.map_append, List.map_append, List.map_cons, List.eraseIdx_append_of_length_le (by simp)]
    simp
  · have hHs : H = H.take A.length ++ x :: H.drop (A.length + 1) := by
      rw [List.getElem?_eq_some_iff] at hx
      obtain ⟨_, hx2⟩ := hx
      rw [← hx2]
      simp
    have he : H.eraseIdx A.length = H.take A.length ++ H.drop (A.length + 1) := List.eraseIdx_eq_take_drop_succ _ _
    have hv2 := h.vals
    rw [hR, hHs, List.map_append, List.map_append, List.map_cons, List.map_cons] at hv2
    have hl : (A.map Stand.v).length = ((H.take A.length).map (txt ss)).length := by simp; omega
    obtain ⟨h1, h2⟩ := List.append_inj hv2 hl
    rw [hF, he, List.map_append, List.map_append, h1]
    congr 1
    exact (List.cons.inj h2).2

def strv (ss : List ByteArray) : List Value := ss.map Value.string
/-- What lies beside the two queues. -/
structure Beside (B : Nat) (W : World) (rb bp ba : Nat) (va : Value) (ss : List ByteArray) : Prop where
  hp : W.heap[bp]? = some (.cells #[.pointer (some ⟨rb, 0, none⟩)] 31 (0, 0))
  ha : W.heap[ba]? = some (.cells #[va] 49 (0, 0))
  all : W.ownsRow B 9 1 va ss.length (strv ss)
  lea : B ≤ ba
theorem Beside.kept {B : Nat} {W W' : World} {rb bp ba : Nat} {va : Value} {ss : List ByteArray} (h : Beside B W rb bp ba va ss) {P : Nat → Prop} (hk : Kept P W W') (hP : ∀ (k : Nat) (c : Array Value) (t : TypeId), W.heap[k]? = some (.cells c t (0, 0)) → t = 31 ∨ t = 49 ∨ t = 9 → ¬ P k) : Beside B W' rb bp ba va ss := by
  refine ⟨(hk.block _ (Array.getElem?_eq_some_iff.1 h.hp).1 (hP _ _ _ h.hp (.inl rfl))).trans h.hp, (hk.block _ (Array.getElem?_eq_some_iff.1 h.ha).1 (hP _ _ _ h.ha (.inr (.inl rfl)))).trans h.ha, hk.own h.all (fun g e => ?_), h.lea⟩
  rcases h.all.2 with ⟨rfl, _⟩ | ⟨g', cap, cur, rfl, _, hc, _⟩
  · cases e
  · cases e; exact hP _ _ _ hc (.inr (.inr rfl))
theorem Beside.below {B : Nat} {W W' : World} {rb bp ba : Nat} {va : Value} {ss : List ByteArray} (h : Beside B W rb bp ba va ss) (hb : Below W.heap.size W W') : Beside B W' rb bp ba va ss := h.kept (P := fun _ => False) (Kept.ofBelow hb) (fun _ _ _ _ _ h => h)
theorem Beside.queue {B : Nat} {W W' : World} {rb bp ba : Nat} {va : Value} {ss : List ByteArray} (h : Beside B W rb bp ba va ss) {qb mb : Nat} {g : Int} {R : List Stand} (q : QueueAtS W qb mb g R) (hk : Kept (Mine qb mb R) W W') : Beside B W' rb bp ba va ss :=
  h.kept hk (fun k c t hc ht => by rcases ht with rfl | rfl | rfl <;> exact q.not hc (by decide) (by decide))
theorem Beside.ref {B B' : Nat} {W W' : World} {rb bp ba rb' : Nat} {va : Value} {ss : List ByteArray} (h : Beside B W rb bp ba va ss) {J : Int} {vt vh : Value} {T H : List Int} (r : RefAt B' W rb' J vt vh T H) (hk : Kept (RMine rb' vt vh) W W') : Beside B W' rb bp ba va ss :=
  h.kept hk (fun k c t hc ht => by rcases ht with rfl | rfl | rfl <;> exact r.not hc (fun c h => by simp at h) (fun c h => by simp at h))
theorem RefAt.queue {B : Nat} {W W' : World} {rb : Nat} {J : Int} {vt vh : Value} {T H : List Int} (r : RefAt B W rb J vt vh T H) {qb mb : Nat} {g : Int} {R : List Stand} (q : QueueAtS W qb mb g R) (hk : Kept (Mine qb mb R) W W') : RefAt B W' rb J vt vh T H :=
  r.kept hk (fun k hk hM => by
    rcases hk with rfl | e | e
    · exact q.not r.box (by decide) (by decide) hM
    · obtain ⟨c, hc, _⟩ := r.rt.block e
      exact q.not hc (by decide) (by decide) hM
    · obtain ⟨c, hc, _⟩ := r.rh.block e
      exact q.not hc (by decide) (by decide) hM)
theorem FromS.ref {w0 W W' : World} {qb mb : Nat} {given : Int} {R : List Stand} (h : FromS w0 W qb mb given R) {rb : Nat} {J : Int} {vt vh : Value} {T H : List Int} (r : RefAt w0.heap.size W rb J vt vh T H) (hk : Kept (RMine rb vt vh) W W') : FromS w0 W' qb mb given R :=
  h.kept hk (fun k hm hM => by
    rcases hM with rfl | e | e
    · exact h.q.not r.box (by decide) (by decide) hm
    · obtain ⟨c, hc, _⟩ := r.rt.block e
      exact h.q.not hc (by decide) (by decide) hm
    · obtain ⟨c, hc, _⟩ := r.rh.block e
      exact h.q.not hc (by decide) (by decide) hm) (fun k hk hM => by have := r.base hM; omega)

/-- All of it. -/
structure TMem (W1 W : World) (qb mb rb bp ba : Nat) (R : List Stand) (vt vh va : Value) (T H : List Int) (ss : List ByteArray) : Prop where
  q : FromS W1 W qb mb (ss.length : Int) R
  r : RefAt W1.heap.size W rb (ss.length : Int) vt vh T H
  b : Beside W1.heap.size W rb bp ba va ss
  rel : TRel R T H ss
  few : R.length ≤ ss.length
theorem TMem.below {W1 W W' : World} {qb mb rb bp ba : Nat} {R : List Stand} {vt vh va : Value} {T H : List Int} {ss : List ByteArray} (h : TMem W1 W qb mb rb bp ba R vt vh va T H ss) (hb : Below W.heap.size W W') : TMem W1 W' qb mb rb bp ba R vt vh va T H ss :=
  ⟨h.q.below hb, h.r.below hb, h.b.below hb, h.rel, h.few⟩
end Go.Proofs.Ytpnbmokgjinnbaa
