/-
  'copy' onto bytes of the call's own; what is read of some bytes is one thing.
-/
import Derived.Test.YtimgjbjibkljhaaLine
import Derived.Test.YtimgjbjibkljhaaShown
namespace Go.Proofs.Ytimgjbjibkljhaa
open Go.RowKit

def over (l m : List UInt8) : List UInt8 := m.take (min m.length l.length) ++ l.drop (min m.length l.length)
theorem over_length (l m : List UInt8) : (over l m).length = l.length := by simp [over]; omega
theorem u8s_drop (l : List UInt8) (k : Nat) : (u8s l).drop k = u8s (l.drop k) := by simp [u8s, List.map_drop]
/-- 'copy'. -/
theorem wpList_copy8 {w : World} {ops : Array Oper} {rest : List Oper} {o : Oper} {a : Act} {Q : Exit → Act → World → Prop} (hgd : o.guard = none) (d s : Operand)
    (ho : o.op = .call { callee := .builtin .copy, args := #[d, s], argTypes := #[31, 31] })
    (B : Nat) (dp : Option Addr) (dc n : Nat) (l : List UInt8) (hnl : l.length = n) (hd : a.eval d = .slice dp n dc) (hown : Own w B (.slice dp n dc) l) (ad : Option Addr) (c nm : Nat) (m : List UInt8) (hnm : m.length = nm) (hs : a.eval s = .slice ad nm c) (hm : IsBytes w ad c m)
    (h : ∀ (r : Int) w', Own w' B (.slice dp n dc) (over l m) → Kept (fun k => (Value.slice dp n dc).ownBlock = some k) w w' → wpList Try.prog ops Q rest (a.put o.dst (goInt r)) w') : wpList Try.prog ops Q (o :: rest) a w := by
  subst hnl hnm
  have hsz : (Try.prog.info? 5).map (·.size) = some 1 := by kernel_rfl
  by_cases h0 : min m.length l.length = 0
  · refine wpList_copy_nothing hgd d s 31 31 ho 5 Try.underlying31 hsz dp ad l.length dc m.length c hd hs h0 ?_
    exact h 0 w (by unfold over; rw [h0]; simpa using hown) (Kept.refl _ w)
  · have hown' := hown
    rcases hown.2 with ⟨hv, hn0⟩ | ⟨g, cap, cur, hv, hB, hg, hnc, hcm, hcs, htake⟩
    · rw [hn0] at h0; simp at h0
    · simp only [Value.slice.injEq] at hv
      obtain ⟨rfl, _, rfl⟩ := hv
      obtain ⟨sb, so, rfl⟩ := hm.addr (by omega)
      have hk1 : min m.length l.length ≤ m.length := Nat.min_le_left _ _
      have hk2 : min m.length l.length ≤ l.length := Nat.min_le_right _ _
      obtain ⟨k, hk⟩ : ∃ k, k = min m.length l.length := ⟨_, rfl⟩
      rw [← hk] at hk1 hk2 h0
      have hcl : (u8s (m.take k)).length = k := by rw [u8s_length, List.length_take, Nat.min_eq_left hk1]
      have hcs1 : cur.size = dc := by simpa using hcs
      refine wpList_copy_own hgd d s 31 31 ho 5 Try.underlying31 hsz g 0 l.length dc ⟨sb, so, none⟩ m.length c hd hs cur 5 hg (u8s (m.take k)) (by rw [hcl, hk]) (fun j v hj => ?_) (by rw [hcl, Nat.zero_add, hcs1]; omega) (u8s_one _) ?_
      · rw [u8s_get] at hj
        obtain ⟨x, hx, rfl⟩ := Option.map_eq_some_iff.1 hj
        have hx' : m[j]? = some x := by
          rw [List.getElem?_take] at hx
          split at hx
          · exact hx
          · cases hx
        rcases hm.2.2 with rfl | ⟨b', o', e, _, hc⟩
        · simp at hx'
        · cases e
          rw [Go.WideShapes.add_plain]
          exact hc j x hx'
      · refine h _ _ ⟨by rw [over_length, u8s_length, over_length]; omega, .inr ⟨g, dc, _, by rw [over_length], hB, setRow_heap w g cur _ _ _ hg, by rw [over_length]; exact hnc, hcm, ?_, ?_⟩⟩ ⟨rfl, rfl, rfl, by simp [World.setRow], fun q _ hq => setRow_other w g q _ (fun e => hq (by rw [e]; rfl))⟩
        · simp only [List.size_toArray, List.take_zero, List.nil_append, List.length_append, hcl, List.length_drop, Array.length_toList, Nat.zero_add]
          omega
        · rw [over_length]
          have ht : cur.toList.take l.length = u8s l := by simpa using htake
          simp only [List.take_zero, List.nil_append, Nat.zero_add, Nat.mul_one]
          rw [List.take_append, hcl, List.take_of_length_le (by rw [hcl]; exact hk2), List.take_drop, show k + (l.length - k) = l.length by omega, ht, u8s_drop]
          unfold over
          rw [← hk]
          simp [u8s]

theorem readT_two {b : Txt} {e1 e2 : Int} {t1 t2 : List ByteArray} (h1 : readT b e1 t1) (h2 : readT b e2 t2) : e2 = e1 ∧ t2 = t1 := by
  rcases h1 with ⟨rfl, a1, a2⟩ | ⟨rfl, rfl, a3⟩
  · exact readT_one h2 a1 a2
  · rcases h2 with ⟨rfl, c1, c2⟩ | ⟨rfl, rfl, _⟩
    · exact absurd c2 (a3 _ (fun t ht => by obtain ⟨s, hs, rfl⟩ := List.mem_map.1 ht; exact c1 s hs))
    · exact ⟨rfl, rfl⟩
theorem readD_two {b : Txt} {e1 e2 : Int} {t1 t2 : List BP} (h1 : readD b e1 t1) (h2 : readD b e2 t2) : e2 = e1 ∧ t2 = t1 := by
  rcases h1 with ⟨rfl, a0, a1, a2⟩ | ⟨rfl, rfl, a3⟩
  · exact readD_one h2 a0 a1 a2
  · rcases h2 with ⟨rfl, c0, c1, c2⟩ | ⟨rfl, rfl, _⟩
    · exact absurd c2 (a3 _ (by simpa using c0) c1)
    · exact ⟨rfl, rfl⟩
end Go.Proofs.Ytimgjbjibkljhaa
