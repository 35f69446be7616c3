/-
  The document's book in memory.
-/
import Derived.Test.YthjaehibndmehaaPlainRef
import Derived.Test.YthjaehibndmehaaKeepsG
import Derived.Test.YthjaehibndmehaaRefValid
import Derived.Sort.EncStr
import Derived.Deep.Cut
import Derived.Deep.RegionHeld3
import Derived.Deep.QuietTactic
import Derived.BigQuiet
namespace Go.Proofs.Ythjaehibndmehaa
open Go.RowKit

theorem hide {p : Prop} (h : p) : Hid p := h
def flatS (S : List RowT) : List Value := S.flatMap (fun r => [encStr r.1, .int .i64 r.2])
theorem flatS_app (S U : List RowT) : flatS (S ++ U) = flatS S ++ flatS U := by simp [flatS]
theorem flatS_cons (r : RowT) (S : List RowT) : flatS (r :: S) = encStr r.1 :: .int .i64 r.2 :: flatS S := rfl
theorem flatS_length : ∀ S : List RowT, (flatS S).length = S.length * 2
  | [] => rfl
  | r :: S => by rw [flatS_cons, List.length_cons, List.length_cons, flatS_length S, List.length_cons]; omega
theorem flatS_get : ∀ (S : List RowT) (i : Nat) (r : RowT), S[i]? = some r → (flatS S)[i * 2]? = some (encStr r.1) ∧ (flatS S)[i * 2 + 1]? = some (.int .i64 r.2)
  | [], i, r, h => by simp at h
  | x :: S, 0, r, h => by
    simp only [List.getElem?_cons_zero, Option.some.injEq] at h
    subst h
    exact ⟨rfl, rfl⟩
  | x :: S, i + 1, r, h => by
    simp only [List.getElem?_cons_succ] at h
    have ih := flatS_get S i r h
    rw [flatS_cons, show (i + 1) * 2 = i * 2 + 1 + 1 by omega]
    exact ih
theorem flatS_drop : ∀ (S : List RowT) (k : Nat), flatS (S.drop k) = (flatS S).drop (k * 2)
  | S, 0 => by simp
  | [], k + 1 => by simp [flatS]
  | x :: S, k + 1 => by
    rw [List.drop_succ_cons, flatS_drop S k, flatS_cons, show (k + 1) * 2 = k * 2 + 1 + 1 by omega, List.drop_succ_cons, List.drop_succ_cons]
theorem flatS_set : ∀ (S : List RowT) (k : Nat) (t : Text) (c u : Int), S[k]? = some (t, c) → flatS (S.set k (t, u)) = (flatS S).set (k * 2 + 1) (.int .i64 u)
  | [], k, t, c, u, h => by simp at h
  | x :: S, 0, t, c, u, h => by
    simp only [List.getElem?_cons_zero, Option.some.injEq] at h
    subst h
    rfl
  | x :: S, k + 1, t, c, u, h => by
    simp only [List.getElem?_cons_succ] at h
    have ih := flatS_set S k t c u h
    rw [List.set_cons_succ, flatS_cons, ih, flatS_cons, show (k + 1) * 2 + 1 = k * 2 + 1 + 1 + 1 by omega, List.set_cons_succ, List.set_cons_succ]
theorem flatS_one (S : List RowT) : ∀ u ∈ flatS S, u.oneCell' = true := by
  intro u hu
  obtain ⟨r, _, h⟩ := List.mem_flatMap.1 hu
  simp only [List.mem_cons, List.not_mem_nil, or_false] at h
  rcases h with rfl | rfl <;> rfl

/-- The document's book: its box, its row of names and counts. -/
structure RefB (w : World) (lo db : Nat) (lv : Value) (S : List RowT) : Prop where
  box : w.heap[db]? = some (.cells #[lv] 62 (0, 0))
  row : w.ownsRow lo 46 2 lv S.length (flatS S)
  low : lo ≤ db
  up : S.Pairwise (fun x y => less x.1 y.1 = true)
def MineR (db : Nat) (lv : Value) (k : Nat) : Prop := k = db ∨ lv.ownBlock = some k

section
variable {w w' : World} {lo db : Nat} {lv : Value} {S : List RowT}
theorem RefB.block (h : RefB w lo db lv S) {k : Nat} (hk : lv.ownBlock = some k) : ∃ cur, w.heap[k]? = some (.cells cur 46 (0, 0)) ∧ lo ≤ k := by
  rcases h.row.2 with ⟨rfl, _⟩ | ⟨g, cap, cur, rfl, hB, hg, _⟩
  · cases hk
  · simp only [Value.ownBlock, Option.some.injEq] at hk
    subst hk
    exact ⟨cur, hg, hB⟩
theorem RefB.kept {K : Nat → Prop} (h : RefB w lo db lv S) (hk : Kept K w w') (h1 : ∀ k, MineR db lv k → ¬ K k) : RefB w' lo db lv S := by
  refine ⟨(hk.block db (Array.getElem?_eq_some_iff.1 h.box).1 (h1 db (.inl rfl))).trans h.box, ⟨h.row.1, ?_⟩, h.low, h.up⟩
  rcases h.row.2 with h0 | ⟨g, cap, cur, rfl, hB, hg, rest⟩
  · exact .inl h0
  · exact .inr ⟨g, cap, cur, rfl, hB, (hk.block g (Array.getElem?_eq_some_iff.1 hg).1 (h1 g (.inr rfl))).trans hg, rest⟩
theorem RefB.below (h : RefB w lo db lv S) (hb : Below w.heap.size w w') : RefB w' lo db lv S := h.kept (K := fun _ => False) (Kept.ofBelow hb) (fun _ _ => id)
theorem RefB.form (h : RefB w lo db lv S) : ∃ a c, lv = .slice a S.length c ∧ S.length ≤ c := by
  rcases h.row.2 with ⟨rfl, h0⟩ | ⟨g, cap, cur, rfl, _, _, hc, _⟩
  · exact ⟨none, 0, by rw [h0], by omega⟩
  · exact ⟨_, _, rfl, hc⟩
theorem RefB.cell {a : Option Addr} {n c : Nat} (h : RefB w lo db (.slice a n c) S) {i : Nat} {r : RowT} (hr : S[i]? = some r) : ∃ g, a = some ⟨g, 0, none⟩ ∧ w.cell? ⟨g, i * 2, none⟩ = some (encStr r.1) ∧ w.cell? ⟨g, i * 2 + 1, none⟩ = some (.int .i64 r.2) ∧ w.frozen? ⟨g, i * 2 + 1, none⟩ = false := by
  have hi := (List.getElem?_eq_some_iff.1 hr).1
  rcases h.row.2 with ⟨_, h0⟩ | ⟨g, cap, cur, e, hB, hg, hnc, hcm, hcs, ht⟩
  · rw [h0] at hi; omega
  · simp only [Value.slice.injEq] at e
    obtain ⟨rfl, _, rfl⟩ := e
    obtain ⟨f0, f1⟩ := flatS_get S i r hr
    rw [← ht] at f0 f1
    rw [List.getElem?_take_of_lt (by omega)] at f0 f1
    exact ⟨g, rfl, by simpa [World.cell?, hg] using f0, by simpa [World.cell?, hg] using f1, by simp [World.frozen?, hg]⟩
end
theorem bytesLess_eq (a b : List UInt8) : Op.bytesLess a b = less a b := rfl

set_option maxHeartbeats 4000000 in
set_option maxRecDepth 1000000 in
theorem place_any (w : World) (lo db : Nat) (lv : Value) (S : List RowT) (s : ByteArray) (h : RefB w lo db lv S) (hS : S.length ≤ 1073741823) :
    Calls Try.prog 43 #[.pointer (some ⟨db, 0, none⟩), .string s] w fun e w' => (∃ (k : Nat), (∃ c, e = .returned (.tuple #[.int .i64 (k : Int), .bool true]) ∧ There S s.data.toList k c) ∨ (e = .returned (.tuple #[.int .i64 (k : Int), .bool false]) ∧ Away S s.data.toList k)) ∧ ∃ q, w' = w.drewN q := by
  obtain ⟨a, c, rfl, hSc⟩ := h.form
  have m0 : w.cell? ⟨db, 0, none⟩ = some (.slice a S.length c) := by simp [World.cell?, h.box]
  have HR := hide h
  obtain ⟨⟨t⟩⟩ := s
  simp only [] at ⊢
  clear h
  go_enter Try.func43, Try.ntmps43
  go_wp2_with fail
  go_loopg [6] S.length (fun gk s6 wr => ∃ i : Nat, s6 = .int .i64 (i : Int) ∧ i ≤ S.length ∧ S.length - i ≤ gk ∧ wr = w ∧ Hid (∀ x ∈ S.take i, less x.1 t = true))
  case atStart => exact ⟨0, rfl, Nat.zero_le _, Nat.le_refl _, rfl, (show ∀ x ∈ S.take 0, less x.1 t = true by simp)⟩
  case round =>
    obtain ⟨i, rfl, hi, hgk, hwr, HN⟩ := hrel
    subst hwr
    by_cases hit : i < S.length
    · have t1 : (i : Int) < (S.length : Int) := by omega
      obtain ⟨r, hx⟩ : ∃ x, S[i]? = some x := ⟨_, List.getElem?_eq_getElem hit⟩
      obtain ⟨g, rfl, c0, c1, _⟩ := HR.out.cell hx
      have HX := hide hx
      obtain ⟨rt, rc⟩ := r
      replace c0 : wr.cell? ⟨g, i * 2, none⟩ = some (.string ⟨rt.toArray⟩) := c0
      clear hx c1
      cases hl : less rt t
      · have HF := hide (first_at HR.out.up HN.out HX.out hl)
        go_upto_if 25 with fail
        have hl2 : Op.bytesLess rt t = false := hl
        have hb : ((rt == t) = true ∧ rt = t) ∨ ((rt == t) = false ∧ rt ≠ t) := by
          by_cases e : rt = t
          · exact .inl ⟨by simpa using e, e⟩
          · exact .inr ⟨by simpa using e, e⟩
        rcases hb with ⟨hb, e⟩ | ⟨hb, e⟩
        · go_wp2_with fail
          go_quiet (fail)
          go_wp2_with fail
          go_ret2
          rcases HF.out with hf | hf
          · exact ⟨⟨i, .inl ⟨rc, rfl, hf.2⟩⟩, _, rfl⟩
          · exact absurd e hf.1
        · go_wp2_with fail
          go_quiet (fail)
          go_wp2_with fail
          go_ret2
          rcases HF.out with hf | hf
          · exact absurd hf.1 e
          · exact ⟨⟨i, .inr ⟨rfl, hf.2⟩⟩, _, rfl⟩
      · have hl2 : Op.bytesLess rt t = true := hl
        have HL := hide hl
        clear hl
        go_wp2_with fail
        go_roundg (S.length - (i + 1))
        case measure => omega
        case rel =>
          refine ⟨i + 1, by go_num, by omega, Nat.le_refl _, rfl, ?_⟩
          show ∀ x ∈ S.take (i + 1), less x.1 t = true
          intro x hx
          rw [List.take_add_one, HX.out] at hx
          rcases List.mem_append.1 hx with hx | hx
          · exact HN.out x hx
          · simp at hx
            rw [hx]
            exact HL.out
    · have t1 : ¬ (i : Int) < (S.length : Int) := by omega
      obtain rfl : i = S.length := by omega
      go_wp2_with fail
      go_ret2
      refine ⟨⟨S.length, .inr ⟨rfl, ?_⟩⟩, 0, rfl⟩
      have := HN.out
      rw [List.take_length] at this
      exact none_at this
end Go.Proofs.Ythjaehibndmehaa
