/-
  The walk of addLine.
-/
import Derived.Test.YtimgjbjibkljhaaSmall
import Derived.Lib.AppendStr
namespace Go.Proofs.Ytimgjbjibkljhaa
open Go.RowKit

theorem Own.row {w : World} {B : Nat} {v : Value} {l : List UInt8} (h : Own w B v l) {g : Nat} (hg : v.ownBlock = some g) : ∃ cur, w.heap[g]? = some (.cells cur 5 (0, 0)) ∧ B ≤ g := by
  rcases h.2 with ⟨rfl, _⟩ | ⟨g', cap, cur, rfl, hB, hc, _⟩
  · cases hg
  · cases hg; exact ⟨cur, hc, hB⟩
/-- 'append' of a text onto bytes of the call's own. -/
theorem wpList_append_text {w : World} {ops : Array Oper} {rest : List Oper} {o : Oper} {a : Act} {Q : Exit → Act → World → Prop} (hgd : o.guard = none) (s x : Operand)
    (ho : o.op = .call { callee := .builtin .append, args := #[s, x], argTypes := #[31, 9] })
    (B : Nat) (v : Value) (l : List UInt8) (hs : a.eval s = v) (hown : Own w B v l) (t : ByteArray) (hx : a.eval x = .string t)
    (hb : l.length + t.size ≤ 140737488355328) (hbase : B ≤ w.heap.size)
    (h : ∀ v' w', Own w' B v' (l ++ t.data.toList) → w.grownBy w' v.ownBlock → wpList Try.prog ops Q rest (a.put o.dst v') w') : wpList Try.prog ops Q (o :: rest) a w := by
  obtain ⟨i, hi, hz0, hz1, hz2⟩ := info_parts info_u8
  refine Lib.wpList_append_own_string w hgd s x 31 9 ho B 5 i Try.underlying31 Try.underlying9 hi hz0 hz1 hz2 v l.length (u8s l) hs hown t hx (by unfold maxLen; omega) hb hbase ?_
  intro v' w' h1 h2 _
  refine h v' w' ?_ h2
  unfold Own
  have e : t.data.toList.length = t.size := by simp
  rw [List.length_append, e, show u8s (l ++ t.data.toList) = u8s l ++ Lib.strCells t by simp [u8s, Lib.strCells]]
  exact h1

/-- A block has just the texts ss. -/
def StrRow (w : World) (g : Nat) (ss : List ByteArray) : Prop := w.heap[g]? = some (.cells (ss.map Value.string).toArray 9 (0, 0))
theorem StrRow.cell {w : World} {g : Nat} {ss : List ByteArray} (h : StrRow w g ss) (j : Nat) (x : ByteArray) (hx : ss[j]? = some x) : w.cell? ⟨g, j, none⟩ = some (.string x) := by
  have h : w.heap[g]? = _ := h
  simp [World.cell?, h, hx]
theorem StrRow.lt {w : World} {g : Nat} {ss : List ByteArray} (h : StrRow w g ss) : g < w.heap.size := by
  have h : w.heap[g]? = _ := h
  exact (Array.getElem?_eq_some_iff.1 h).1
theorem StrRow.grown {w w' : World} {B g : Nat} {v : Value} {l : List UInt8} {ss : List ByteArray} (h : StrRow w g ss) (ho : Own w B v l) (hg : w.grownBy w' v.ownBlock) : StrRow w' g ss := by
  have hlt := h.lt
  have h : w.heap[g]? = _ := h
  refine (hg.block g hlt (fun e => ?_)).trans h
  obtain ⟨cur, hc, _⟩ := ho.row e.symm
  rw [h] at hc
  simp at hc
theorem Own.grown_below {w w' : World} {B : Nat} {v : Value} {l : List UInt8} (ho : Own w B v l) (hg : w.grownBy w' v.ownBlock) (hB : B ≤ w.heap.size) : Below B w w' :=
  (Below.refl B w).grown hg hB (fun _ hj => (ho.row hj).choose_spec.2)

/-- The texts, one behind the other. -/
def cat (ss : List ByteArray) : List UInt8 := ss.flatMap (·.data.toList)
theorem cat_take {ss : List ByteArray} {k : Nat} {x : ByteArray} (h : ss[k]? = some x) : cat (ss.take (k + 1)) = cat (ss.take k) ++ x.data.toList := by
  rw [List.take_add_one, h]
  simp [cat]
theorem cat_le (ss : List ByteArray) (k : Nat) : (cat (ss.take k)).length ≤ (cat ss).length := by
  have : cat ss = cat (ss.take k) ++ cat (ss.drop k) := by
    unfold cat
    rw [← List.flatMap_append, List.take_append_drop]
  rw [this, List.length_append]; omega

theorem ten_size : (ByteArray.mk #[10]).size = 1 := rfl
set_option maxHeartbeats 1000000 in
set_option maxRecDepth 1000000 in
theorem addLine_any (w : World) (B : Nat) (v : Value) (l : List UInt8) (pb : Nat) (ss : List ByteArray) (hown : Own w B v l) (hp : StrRow w pb ss) (hB : B ≤ w.heap.size) (hs : ss.length ≤ 1000) (hb : l.length + (cat ss).length < 140737488355328) :
    Calls Try.prog 43 #[v, .slice (some ⟨pb, 0, none⟩) ss.length ss.length] w fun e w' => ∃ v', e = .returned v' ∧ Own w' B v' (l ++ cat ss ++ [10]) ∧ Below B w w' := by
  have HO : Hid (Own w B v l) := hown
  have HP : Hid (StrRow w pb ss) := hp
  have HB : Hid (B ≤ w.heap.size) := hB
  have HL : Hid (l.length + (cat ss).length < 140737488355328) := hb
  clear hown hp hB hb
  go_enter Try.func43, Try.ntmps43
  go_wp2
  go_loopg [0, 9] ss.length (fun gk s0 i wr => ∃ k : Nat, i = .int .i64 k ∧ k ≤ ss.length ∧ ss.length - k ≤ gk ∧ Hid (Own wr B s0 (l ++ cat (ss.take k))) ∧ Hid (StrRow wr pb ss) ∧ Hid (Below B w wr))
  case atStart => exact ⟨0, rfl, Nat.zero_le _, Nat.le_refl _, by show Own w B v _; simpa [cat] using HO.out, HP.out, Below.refl _ _⟩
  case round =>
    obtain ⟨k, rfl, hk, hgk, HOk, HPk, HBk⟩ := hrel
    have hBr : B ≤ wr.heap.size := Nat.le_trans HB.out HBk.out.size
    by_cases hlt : k < ss.length
    · obtain ⟨x, hx⟩ : ∃ x, ss[k]? = some x := ⟨_, List.getElem?_eq_getElem hlt⟩
      have c0 : wr.cell? ⟨pb, k, none⟩ = some (.string x) := HPk.out.cell k x hx
      have HX : Hid (ss[k]? = some x) := hx
      have HLk : Hid ((l ++ cat (ss.take k)).length + x.size ≤ 140737488355328) := by
        have h1 := cat_le ss (k + 1)
        rw [cat_take hx, List.length_append] at h1
        have h2 := HL.out
        have e : x.data.toList.length = x.size := by simp
        show (l ++ cat (ss.take k)).length + x.size ≤ 140737488355328
        rw [List.length_append]
        omega
      clear hx
      go_wp2_with (at_builtin; refine wpList_append_text rfl (.tmp 13) (.tmp 14) rfl B _ _ rfl HOk.out x rfl HLk.out hBr ?_; intro v2 w2 o2 g2)
      have q1 : StrRow w2 pb ss := HPk.out.grown HOk.out g2
      have q2 : Below B w w2 := HBk.out.trans (HOk.out.grown_below g2 hBr)
      go_roundg (ss.length - (k + 1))
      case measure => omega
      case rel => exact ⟨k + 1, by go_num, by omega, Nat.le_refl _, by show Own _ _ _ _; rw [cat_take HX.out, ← List.append_assoc]; exact o2, q1, q2⟩
    · have HLk : Hid ((l ++ cat (ss.take k)).length + 1 ≤ 140737488355328) := by
        have h1 := cat_le ss k
        have h2 := HL.out
        show (l ++ cat (ss.take k)).length + 1 ≤ 140737488355328
        rw [List.length_append]
        omega
      go_wp2_with (at_builtin; refine wpList_append_text rfl (.tmp 17) _ rfl B _ _ rfl HOk.out ⟨#[10]⟩ rfl HLk.out hBr ?_; intro v2 w2 o2 g2)
      have q2 : Below B w w2 := HBk.out.trans (HOk.out.grown_below g2 hBr)
      go_ret
      refine ⟨v2, rfl, ?_, q2⟩
      rw [List.take_of_length_le (by omega)] at o2
      rw [← List.append_assoc]
      exact o2
end Go.Proofs.Ytimgjbjibkljhaa
