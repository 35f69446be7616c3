/-
  Layer 9: the method list.
-/
import Derived.Test.YtimgjbjibkljhaaYBk
import Derived.Test.YtimgjbjibkljhaaYDictM
import Derived.Test.YtimgjbjibkljhaaRefList
import Derived.Test.YtimgjbjibkljhaaListW
import Derived.Deep.Cut
namespace Go.Proofs.Ytimgjbjibkljhaa
open Go.RowKit

/-- Texts that read so wherever the blocks of us are, and what stood at the beginning. -/
def WnT (w : World) (us : List (Nat × Obj)) (a : Option Addr) (c : Nat) (ts : List ByteArray) : Prop := ∀ X : World, Below w.heap.size w X → (∀ p ∈ us, X.heap[p.1]? = some p.2) → IsStrs X a c ts

set_option maxHeartbeats 4000000 in
set_option maxRecDepth 1000000 in
theorem listM_any {w W : World} {us : List (Nat × Obj)} {f : Nat} {lab : Nat → Tag} {Hb : Nat} {es : List Ent} {M : Nat} (ts : List ByteArray) (a1 a2 : Option Addr) (c1 c2 : Nat) (h : Bk w us f lab Hb es M W) (p1 : WnT w us a1 c1 (ts ++ [bs, bs])) (p2 : WnT w us a2 c2 ts) (hM : M ≤ 4294967296) (hsz : (listL (ts.map tx)).length ≤ M) (he : es.length ≤ 899) :
    Calls Try.prog 11 #[.pointer (some ⟨Hb, 0, none⟩), .slice a1 ts.length c1, .slice a2 ts.length c2] W fun e w' => e = .returned (.bool true) ∧ ∃ lab' es', Bk w us f lab' Hb es' M w' ∧ es'.length = es.length + 1 := by
  obtain ⟨n, hn⟩ : ∃ n, n = ts.length := ⟨_, rfl⟩
  obtain ⟨D, hD⟩ : ∃ D, D = (if allT ts then listL (ts.map tx) else []) := ⟨_, rfl⟩
  obtain ⟨er, her⟩ : ∃ er, er = (if allT ts then 0 else 91 : Int) := ⟨_, rfl⟩
  have hDM : D.length ≤ M := by
    rw [hD]
    split
    · exact hsz
    · simp
  have CD : Hid (Calls Try.prog 27 #[.slice a1 n c1] W fun e w' => ∃ a c, e = .returned (.tuple #[.slice a D.length c, .int .i64 er]) ∧ Own w' W.heap.size (.slice a D.length c) D ∧ Below W.heap.size W w') := by
    rw [hn, hD, her]
    refine (list_any a1 c1 ts W (p1 W h.below (fun p hp => (h.usr p hp).1)).front (by omega)).mono ?_
    rintro e w' ⟨v, rfl, o, b⟩
    obtain ⟨a, c, rfl, _⟩ := o.shape
    exact ⟨a, c, rfl, o, b⟩
  have CR : Hid (∀ X, Below W.heap.size W X → Calls Try.prog 14 #[.slice a2 n c2] X fun e w' => ∃ a c, e = .returned (.tuple #[.slice a D.length c, .int .i64 er]) ∧ NewB X w' a c D ∧ Below X.heap.size X w') := fun X hX => by
    rw [hn, hD, her]
    exact refList_any a2 c2 ts X (p2 X (h.later hX).below (fun p hp => ((h.later hX).usr p hp).1)) (by omega)
  have CP : Hid (∀ X, Below w.heap.size w X → (∀ p ∈ us, X.heap[p.1]? = some p.2) → Calls Try.prog 31 #[.slice a1 n c1, .slice a2 n c2] X fun e w' => e = .returned (.bool true) ∧ Below X.heap.size X w') := fun X hb hu => by
    rw [hn]
    exact still_any a1 a2 c1 c2 ts X (p1 X hb hu) (p2 X hb hu)
  have HK := hideY h
  have HDM := hideY (And.intro hDM (And.intro hM he))
  rw [← hn]
  clear p1 p2 hsz hn hD her h hDM hM he
  have hee : (er == er) = true := by simp
  go_enter Try.func11, Try.ntmps11
  go_upto_region 2 with (go_at_call 27; refine CD.out.mono ?_; rintro e w1 ⟨a7, c7, rfl, o1, b1⟩; have O1 := hideY (And.intro o1 b1); clear o1 b1)
  go_upto_region 3 with (go_at_call 14; refine (CR.out _ O1.out.2).mono ?_; rintro e w2 ⟨a9, c9, rfl, n2, b2⟩; have N2 := hideY (And.intro n2 b2); clear n2 b2)
  go_upto_region 4 with (go_at_call 30; refine (HK.out.keep O1.out.2 N2.out.2 O1.out.1 HDM.out.1 HDM.out.2.1 HDM.out.2.2).mono ?_; rintro e w3 ⟨rfl, lab3, cw3, k3, q3⟩; have K3 := hideY (And.intro k3 q3); clear k3 q3)
  have I3 : Hid (IsBytes w3 a7 c7 D ∧ IsBytes w3 a9 c9 D) := by
    refine ⟨?_, N2.out.1.1.blk (fun b o e hlt => K3.out.2.block b hlt (fun hp => ?_))⟩
    · obtain ⟨vo, vw, _, hes⟩ := K3.out.1.held
      have := (hes es.length ⟨.slice a7 D.length c7, cw3, D⟩ (by rw [List.getElem?_append_right (Nat.le_refl _)]; simp)).1.1
      obtain ⟨a, c, e2, i2⟩ := this.shape
      simp only [Value.slice.injEq] at e2
      obtain ⟨rfl, _, rfl⟩ := e2
      exact i2
    · have h1 := N2.out.1.2 b o e
      have h2 := O1.out.2.size
      have h3 := hp.2
      omega
  go_wp2_with (first
    | (go_at_call 28; refine (same_any a7 a9 c7 c9 D D _ I3.out.1 I3.out.2).mono ?_; rintro e w4 ⟨rfl, m4, hw4⟩; have B4 : Hid (Below w3.heap.size w3 w4) := (by rw [hw4]; exact below_drewM _ w3 m4); clear hw4; rw [decide_eq_true rfl])
    | (go_at_call 31; refine (CP.out _ (K3.out.1.later B4.out).below (fun p hp => ((K3.out.1.later B4.out).usr p hp).1)).mono ?_; rintro e w5 ⟨rfl, b5⟩; have B5 := hideY b5; clear b5)
    | (go_at_call 32; refine (((K3.out.1.later B4.out).later B5.out).holds).mono ?_; rintro e w6 ⟨rfl, k6, _⟩; have K6 := hideY k6; clear k6))
  go_ret
  exact ⟨rfl, lab3, _, K6.out, by simp⟩
end Go.Proofs.Ytimgjbjibkljhaa
