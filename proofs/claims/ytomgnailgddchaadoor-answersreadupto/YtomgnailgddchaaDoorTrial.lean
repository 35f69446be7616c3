/-
  A trial in memory; the walks of text and take.
-/
import Derived.Test.YtomgnailgddchaaDoorJA
import Derived.Test.YtomgnailgddchaaDoorJB
import Derived.Deep.QuietTactic
namespace Go.Proofs.YtomgnailgddchaaDoor
open Go.RowKit

theorem hide {p : Prop} (h : p) : Hid p := h
theorem cells_at {w : World} {b : Nat} {cs : Array Value} {t : TypeId} {fr : Nat × Nat} (h : w.heap[b]? = some (.cells cs t fr)) {i : Nat} {x : Value} (hx : cs[i]? = some x) : w.cell? ⟨b, i, none⟩ = some x := by
  simp [World.cell?, h, hx]
theorem byte_eq {x y : UInt8} : ((x.toNat : Int) = (y.toNat : Int)) ↔ x = y := ⟨fun h => UInt8.toNat_inj.1 (by omega), fun h => by rw [h]⟩
/-- A trial's own block. -/
def TrAt (w : World) (tb : Nat) (a : Option Addr) (n c p e : Nat) : Prop := w.heap[tb]? = some (.cells #[.slice a n c, .int .i64 (p : Int), .int .i64 (e : Int)] 70 (0, 0))
theorem TrAt.lt {w : World} {tb : Nat} {a : Option Addr} {n c p e : Nat} (h : TrAt w tb a n c p e) : tb < w.heap.size := (Array.getElem?_eq_some_iff.1 h).1
theorem TrAt.cell {w : World} {tb : Nat} {a : Option Addr} {n c p e : Nat} (h : TrAt w tb a n c p e) : w.cell? ⟨tb, 0, none⟩ = some (.slice a n c) ∧ w.cell? ⟨tb, 1, none⟩ = some (.int .i64 (p : Int)) ∧ w.cell? ⟨tb, 2, none⟩ = some (.int .i64 (e : Int)) :=
  ⟨cells_at h rfl, cells_at h rfl, cells_at h rfl⟩
theorem TrAt.free {w : World} {tb : Nat} {a : Option Addr} {n c p e : Nat} (h : TrAt w tb a n c p e) (j : Nat) : w.frozen? ⟨tb, j, none⟩ = false := by
  unfold TrAt at h
  simp [World.frozen?, h]
theorem TrAt.setPos {w : World} {tb : Nat} {a : Option Addr} {n c p e : Nat} (h : TrAt w tb a n c p e) (q : Nat) : TrAt (w.setCell ⟨tb, 1, none⟩ (.int .i64 (q : Int))) tb a n c q e ∧ Kept (fun k => k = tb) w (w.setCell ⟨tb, 1, none⟩ (.int .i64 (q : Int))) := by
  obtain ⟨c1, c2⟩ := set_cells h 1 (.int .i64 (q : Int))
  exact ⟨by unfold TrAt; rw [c1]; simp, Kept.setCell _ w tb 1 _ rfl⟩
theorem TrAt.setSt {w : World} {tb : Nat} {a : Option Addr} {n c p e : Nat} (h : TrAt w tb a n c p e) (q : Nat) : TrAt (w.setCell ⟨tb, 2, none⟩ (.int .i64 (q : Int))) tb a n c p q ∧ Kept (fun k => k = tb) w (w.setCell ⟨tb, 2, none⟩ (.int .i64 (q : Int))) := by
  obtain ⟨c1, c2⟩ := set_cells h 2 (.int .i64 (q : Int))
  exact ⟨by unfold TrAt; rw [c1]; simp, Kept.setCell _ w tb 2 _ rfl⟩
theorem TrAt.kept {P : Nat → Prop} {w w' : World} {tb : Nat} {a : Option Addr} {n c p e : Nat} (h : TrAt w tb a n c p e) (hk : Kept P w w') (hP : ¬ P tb) : TrAt w' tb a n c p e := (hk.block tb h.lt hP).trans h
theorem TrAt.below {w w' : World} {tb : Nat} {a : Option Addr} {n c p e : Nat} (h : TrAt w tb a n c p e) (hk : Below w.heap.size w w') : TrAt w' tb a n c p e := (hk.block tb h.lt).trans h
theorem TrAt.not {w : World} {tb : Nat} {a : Option Addr} {n c p e : Nat} (h : TrAt w tb a n c p e) {b o : Nat} {x : Int} (hc : w.cell? ⟨b, o, none⟩ = some (.int .u8 x)) : b ≠ tb := by
  rintro rfl
  unfold TrAt at h
  simp only [World.cell?, h] at hc
  match o, hc with
  | 0, hc => simp at hc
  | 1, hc => simp at hc
  | 2, hc => simp at hc
  | o + 3, hc => simp at hc
theorem IsBytes.get {w : World} {a : Option Addr} {c : Nat} {l : List UInt8} (h : IsBytes w a c l) (hl : l ≠ []) : ∃ b o, a = some ⟨b, o, none⟩ ∧ b < w.heap.size ∧ ∀ (j : Nat) x, l[j]? = some x → w.cell? ⟨b, o + j, none⟩ = some (.int .u8 (x.toNat : Int)) := by
  rcases h.2.2 with h | h
  · exact absurd h hl
  · exact h
theorem IsBytes.kept {P : Nat → Prop} {w w' : World} {a : Option Addr} {c : Nat} {l : List UInt8} (h : IsBytes w a c l) (hk : Kept P w w') (hP : ∀ b o, a = some ⟨b, o, none⟩ → l ≠ [] → ¬ P b) : IsBytes w' a c l := by
  obtain ⟨h1, h2, h3⟩ := h
  refine ⟨h1, h2, ?_⟩
  rcases h3 with h | ⟨b, o, rfl, hb, hc⟩
  · exact .inl h
  · by_cases hl : l = []
    · exact .inl hl
    · exact .inr ⟨b, o, rfl, Nat.lt_of_lt_of_le hb hk.size, fun j x hj => hk.cell (hP b o rfl hl) (hc j x hj)⟩
theorem IsBytes.not {w : World} {tb : Nat} {a a' : Option Addr} {n c c' p e : Nat} {l : List UInt8} (h : IsBytes w a' c' l) (ht : TrAt w tb a n c p e) : ∀ b o, a' = some ⟨b, o, none⟩ → l ≠ [] → b ≠ tb := by
  intro b o e hl
  obtain ⟨b', o', e', _, hc⟩ := h.get hl
  rw [e] at e'
  cases e'
  obtain ⟨x, r, rfl⟩ : ∃ x r, l = x :: r := by cases l with | nil => exact absurd rfl hl | cons x r => exact ⟨x, r, rfl⟩
  exact ht.not (hc 0 x rfl)
theorem Kept.drew {P : Nat → Prop} {w w' : World} (h : Kept P w w') : Kept P w w'.drew := ⟨h.os, h.tape, h.output, h.size, h.block⟩
theorem Kept.drew' {P : Nat → Prop} {w w' : World} (h : Kept P w.drew w') : Kept P w w' := ⟨h.os, h.tape, h.output, h.size, h.block⟩
/-- Where text gets to. -/
def textR (b s : List UInt8) (p e : Nat) : Nat × Nat := if e = 0 then textP b s p else (p, e)

set_option maxHeartbeats 2000000 in
set_option maxRecDepth 1000000 in
theorem text_any (w : World) (tb : Nat) (a : Option Addr) (c p e : Nat) (b : List UInt8) (s : ByteArray) (ht : TrAt w tb a b.length c p e) (hb : IsBytes w a c b) (hp : e = 0 → p ≤ b.length) (hs : s.size ≤ 1000) :
    Calls Tryd.prog 50 #[.pointer (some ⟨tb, 0, none⟩), .string s] w fun x w' => x = .returned (.tuple #[]) ∧ TrAt w' tb a b.length c (textR b s.data.toList p e).1 (textR b s.data.toList p e).2 ∧ Kept (fun k => k = tb) w w' := by
  have HB : Hid (∀ w', Kept (fun k => k = tb) w w' → IsBytes w' a c b) := fun w' hk => hb.kept hk (hb.not ht)
  have hbl : b.length ≤ 9223372036854775807 := by
    have h1 := hb.1
    have h2 := hb.2.1
    unfold maxLen at h2
    omega
  have HT : Hid (TrAt w tb a b.length c p e) := ht
  have HP : Hid (e = 0 → p ≤ b.length) := hp
  clear ht hb hp
  obtain ⟨R, hR⟩ : ∃ R, R = textR b s.data.toList p e := ⟨_, rfl⟩
  rw [← hR]
  have HR : Hid (R = textR b s.data.toList p e) := hR
  clear hR
  go_enter Tryd.func50, Tryd.ntmps50
  go_wp2
  go_loopg [4] s.size (fun gk i wr => ∃ (k p1 e1 : Nat), i = .int .i64 k ∧ k ≤ s.size ∧ s.size - k ≤ gk ∧ Hid (TrAt wr tb a b.length c p1 e1) ∧ Hid (Kept (fun k => k = tb) w wr) ∧ Hid (e1 = 0 → p1 ≤ b.length) ∧ Hid (R = textR b (s.data.toList.drop k) p1 e1))
  case atStart => exact ⟨0, p, e, rfl, Nat.zero_le _, Nat.le_refl _, HT, Kept.refl _ _, HP, by rw [List.drop_zero]; exact HR⟩
  case round =>
    obtain ⟨k, p1, e1, rfl, hk, hgk, T1, K1, P1, R1⟩ := hrel
    obtain ⟨k0, k1, k2⟩ := T1.out.cell
    have f1 := T1.out.free 1
    have f2 := T1.out.free 2
    have hlt := T1.out.lt
    by_cases hks : k < s.size
    · have hcons : s.data.toList.drop k = s[k] :: s.data.toList.drop (k + 1) := drop_cons s k hks
      by_cases he : e1 = 0
      · subst he
        have hp1 := P1.out rfl
        by_cases hpn : p1 = b.length
        · subst hpn
          have HR1 : Hid (R = (b.length, 1)) := by
            show R = _
            rw [R1.out, hcons]
            unfold textR textP
            rw [if_pos rfl, List.getElem?_eq_none (Nat.le_refl _)]
          go_wp2_with (first | go_region | fail)
          go_roundg (s.size - (k + 1))
          case measure => omega
          case rel =>
            obtain ⟨q1, q2⟩ := T1.out.setSt 1
            exact ⟨k + 1, b.length, 1, by go_num, by omega, Nat.le_refl _, q1, (K1.out.trans q2).drew, fun h => absurd h (by decide), by rw [HR1.out]; rfl⟩
        · obtain ⟨y, hy⟩ : ∃ y, b[p1]? = some y := ⟨_, List.getElem?_eq_getElem (by omega)⟩
          have hyl := (List.getElem?_eq_some_iff.1 hy).1
          obtain ⟨bb, oo, rfl, hbb, hcell⟩ := (HB.out wr K1.out).get (by rintro rfl; simp at hyl)
          have cy := hcell p1 y hy
          have hne : ((p1 : Int) == (b.length : Int)) = false := by rw [beq_eq_false_iff_ne]; omega
          by_cases hyc : y = s[k]
          · have HR1 : Hid (R = textR b (s.data.toList.drop (k + 1)) (p1 + 1) 0) := by
              show R = _
              rw [R1.out, hcons]
              unfold textR
              rw [if_pos rfl, if_pos rfl]
              unfold textP
              rw [hy]
              simp only [if_pos hyc]
              rw [← textP.eq_def]
            clear hcell R1
            rw [hyc] at cy
            go_wp2_with (first | go_region | fail)
            go_roundg (s.size - (k + 1))
            case measure => omega
            case rel =>
              obtain ⟨q1, q2⟩ := T1.out.setPos (p1 + 1)
              exact ⟨k + 1, p1 + 1, 0, by go_num, by omega, Nat.le_refl _, q1, (K1.out.trans q2).drew.drew, fun _ => by omega, HR1.out⟩
          · have HR1 : Hid (R = (p1, 2)) := by
              show R = _
              rw [R1.out, hcons]
              unfold textR textP
              rw [if_pos rfl, hy]
              simp only [if_neg hyc]
            have hyc2 : ((y.toNat : Int) == (s[k].toNat : Int)) = false := by rw [beq_eq_false_iff_ne]; exact fun e => hyc (byte_eq.1 e)
            clear hcell R1
            go_wp2_with (first | go_region | fail)
            go_roundg (s.size - (k + 1))
            case measure => omega
            case rel =>
              obtain ⟨q1, q2⟩ := T1.out.setSt 2
              exact ⟨k + 1, p1, 2, by go_num, by omega, Nat.le_refl _, q1, (K1.out.trans q2).drew.drew, fun h => absurd h (by decide), by rw [HR1.out]; rfl⟩
      · have he2 : ((e1 : Int) == 0) = false := by rw [beq_eq_false_iff_ne]; omega
        have HR1 : Hid (R = (p1, e1)) := by
          show R = _
          rw [R1.out]
          unfold textR
          rw [if_neg he]
        clear R1
        go_wp2_with (first | go_region | fail)
        go_end0
        rw [HR1.out]
        exact ⟨rfl, T1.out, K1.out⟩
    · have HR1 : Hid (R = (p1, e1)) := by
        show R = _
        rw [R1.out, List.drop_of_length_le (by simp; omega)]
        unfold textR textP
        by_cases he : e1 = 0
        · rw [if_pos he, he]
        · rw [if_neg he]
      clear R1
      go_wp2_with (first | go_region | fail)
      go_end0
      rw [HR1.out]
      exact ⟨rfl, T1.out, K1.out⟩
theorem IsBytes.take {w : World} {a : Option Addr} {c : Nat} {l : List UInt8} (h : IsBytes w a c l) (k : Nat) : IsBytes w a c (l.take k) := by
  obtain ⟨h1, h2, h3⟩ := h
  refine ⟨by simp; omega, h2, ?_⟩
  rcases h3 with rfl | ⟨b, o, rfl, hb, hc⟩
  · exact .inl (by simp)
  · refine .inr ⟨b, o, rfl, hb, fun j x hj => hc j x ?_⟩
    rw [List.getElem?_take] at hj
    split at hj
    · exact hj
    · cases hj
theorem IsBytes.map {w : World} {a : Option Addr} {c : Nat} {l : List UInt8} (h : IsBytes w a c l) (k : Nat) (hk : k ≤ l.length) : IsBytes w (a.map fun x => x.add k) (c - k) (l.drop k) := by
  obtain ⟨h1, h2, h3⟩ := h
  refine ⟨by simp; omega, by omega, ?_⟩
  rcases h3 with rfl | ⟨b, o, rfl, hb, hc⟩
  · exact .inl (by simp)
  · refine .inr ⟨b, o + k, by simp [Go.WideShapes.add_plain], hb, fun j x hj => ?_⟩
    rw [List.getElem?_drop] at hj
    rw [Nat.add_assoc]
    exact hc (k + j) x hj
theorem IsBytes.empty {w : World} (a : Option Addr) (c : Nat) (hc : c ≤ maxLen) : IsBytes w a c [] := ⟨by simp, hc, .inl rfl⟩

/-- What take gets. -/
def takeL (b : List UInt8) (p e size : Nat) : List UInt8 := if e = 0 then (if b.length < p + size then [] else (b.drop p).take size) else []
def takeR (b : List UInt8) (p e size : Nat) : Nat × Nat := if e = 0 then (p + size, if b.length < p + size then 1 else 0) else (p, e)
set_option maxHeartbeats 2000000 in
set_option maxRecDepth 1000000 in
theorem take_any (w : World) (tb : Nat) (a : Option Addr) (c p e size : Nat) (b : List UInt8) (ht : TrAt w tb a b.length c p e) (hb : IsBytes w a c b) (hp : e = 0 → p ≤ b.length) (hs : size ≤ 4294967295) (hbl : b.length ≤ 4294967296) :
    Calls Tryd.prog 53 #[.pointer (some ⟨tb, 0, none⟩), .int .i64 (size : Int)] w fun x w' => (∃ a' c', x = .returned (.slice a' (takeL b p e size).length c') ∧ IsBytes w' a' c' (takeL b p e size)) ∧ TrAt w' tb a b.length c (takeR b p e size).1 (takeR b p e size).2 ∧ Kept (fun k => k = tb) w w' := by
  have HB : Hid (∀ w', Kept (fun k => k = tb) w w' → IsBytes w' a c b) := fun w' hk => hb.kept hk (hb.not ht)
  have hbc := hb.1
  have hcm : c ≤ 9223372036854775807 := by
    have h2 := hb.2.1
    unfold maxLen at h2
    omega
  obtain ⟨k0, k1, k2⟩ := ht.cell
  have f1 := ht.free 1
  have f2 := ht.free 2
  have hlt := ht.lt
  have HT : Hid (TrAt w tb a b.length c p e) := ht
  clear ht hb
  by_cases he : e = 0
  · subst he
    have hp := hp rfl
    by_cases hl : b.length < p + size
    · have HL : Hid (takeL b p 0 size = [] ∧ takeR b p 0 size = (p + size, 1)) := by
        show _ ∧ _
        unfold takeL takeR
        simp [hl]
      have hl' : (b.length : Int) < (p : Int) + (size : Int) := by omega
      go_enter Tryd.func53, Tryd.ntmps53
      go_wp2_with (first | go_region | fail)
      go_ret
      rw [HL.out.1, HL.out.2]
      obtain ⟨q1, q2⟩ := HT.out.setPos (p + size)
      obtain ⟨q3, q4⟩ := q1.setSt 1
      rw [Int.natCast_add] at q3 q4 q2
      exact ⟨⟨none, 0, rfl, IsBytes.empty none 0 (Nat.zero_le _)⟩, q3, (q2.trans q4).drew⟩
    · have HL : Hid (takeL b p 0 size = (b.drop p).take size ∧ takeR b p 0 size = (p + size, 0)) := by
        show _ ∧ _
        unfold takeL takeR
        simp [hl]
      have hlen : ((b.drop p).take size).length = size := by simp; omega
      have HN : Hid (((b.drop p).take size).length = size) := hlen
      clear hlen
      by_cases hck : c = p
      · subst hck
        go_enter Tryd.func53, Tryd.ntmps53
        go_wp2_with (first | go_region | fail)
        go_ret
        rw [HL.out.1, HL.out.2, HN.out]
        obtain ⟨q1, q2⟩ := HT.out.setPos (c + size)
        rw [Int.natCast_add] at q1 q2
        obtain rfl : size = 0 := by omega
        refine ⟨⟨_, _, rfl, ?_⟩, q1, q2.drew.drew⟩
        exact IsBytes.empty _ _ (by unfold maxLen; omega)
      · have hckb : (c == p) = false := by simpa using hck
        go_enter Tryd.func53, Tryd.ntmps53
        go_wp2_with (first | go_region | fail)
        go_ret
        rw [HL.out.1, HL.out.2, HN.out]
        obtain ⟨q1, q2⟩ := HT.out.setPos (p + size)
        rw [Int.natCast_add] at q1 q2
        refine ⟨⟨_, _, rfl, ?_⟩, q1, q2.drew.drew⟩
        exact ((HB.out _ q2.drew.drew).map p (by omega)).take size
  · have HL : Hid (takeL b p e size = [] ∧ takeR b p e size = (p, e)) := by
      show _ ∧ _
      unfold takeL takeR
      simp [he]
    have he2 : ((e : Int) == 0) = false := by rw [beq_eq_false_iff_ne]; omega
    go_enter Tryd.func53, Tryd.ntmps53
    go_wp2_with (first | go_region | fail)
    go_ret
    rw [HL.out.1, HL.out.2]
    exact ⟨⟨none, 0, rfl, IsBytes.empty none 0 (Nat.zero_le _)⟩, HT.out, Kept.refl _ _⟩
end Go.Proofs.YtomgnailgddchaaDoor
