/-
  Plain facts for P1.6: what is joined is split again.
-/
import Derived.Test.YtfecbepleeoibaaDoorPlainSplit
import Derived.Test.YtfecbepleeoibaaDoorJoin
import Derived.Lib.Join
namespace Go.Proofs.YtfecbepleeoibaaDoor
open Go.RowKit

theorem pieces_ne (l cur : List UInt8) : pieces l cur ≠ [] := by
  cases l with
  | nil => simp [pieces]
  | cons c r =>
    rw [pieces]
    split
    · simp
    · exact pieces_ne r _

theorem join_pieces : ∀ (l cur : List UInt8), Lib.join (pieces l cur) [32] = cur ++ l
  | [], cur => by rw [pieces, Lib.join_one]; simp
  | c :: r, cur => by
    rw [pieces]
    by_cases h : c.toNat = 32
    · rw [if_pos h]
      have hc : c = 32 := by
        have : c.toNat = (32 : UInt8).toNat := h
        exact UInt8.toNat_inj.1 this
      have ih := join_pieces r []
      obtain ⟨x, t, hx⟩ : ∃ x t, pieces r [] = x :: t := by
        cases hp : pieces r [] with
        | nil => exact absurd hp (pieces_ne r [])
        | cons x t => exact ⟨x, t, rfl⟩
      rw [hx] at ih ⊢
      rw [Lib.join_cons] at ih
      rw [Lib.join_cons, hc]
      simp only [Lib.joinTail, List.map_cons, List.flatten_cons] at ih ⊢
      simp only [List.nil_append] at ih
      rw [← ih]
      simp
    · rw [if_neg h, join_pieces r]; simp

theorem pieces_word : ∀ (x r cur : List UInt8), (∀ c ∈ x, c.toNat ≠ 32) → pieces (x ++ r) cur = pieces r (cur ++ x)
  | [], r, cur, _ => by simp
  | c :: x, r, cur, h => by
    rw [List.cons_append, pieces, if_neg (h c (by simp)), pieces_word x r _ (fun d hd => h d (by simp [hd]))]
    simp

theorem pieces_tail : ∀ (ws : List (List UInt8)) (x cur : List UInt8), (∀ c ∈ x, c.toNat ≠ 32) → (∀ y ∈ ws, ∀ c ∈ y, c.toNat ≠ 32) → pieces (x ++ Lib.joinTail [32] ws) cur = (cur ++ x) :: ws
  | [], x, cur, hx, _ => by
    have : Lib.joinTail [32] [] = [] := rfl
    rw [pieces_word x _ cur hx, this, pieces]
  | y :: ws, x, cur, hx, h => by
    have : Lib.joinTail [32] (y :: ws) = 32 :: (y ++ Lib.joinTail [32] ws) := by simp [Lib.joinTail]
    rw [pieces_word x _ cur hx, this, pieces, if_pos (by decide), pieces_tail ws y [] (h y (by simp)) (fun z hz => h z (by simp [hz]))]
    simp

theorem word_no32 (l : List UInt8) (h : wordB l = true) : ∀ c ∈ l, c.toNat ≠ 32 := by
  intro c hc h32
  have := word_bad l c hc (by simp [okc, h32])
  rw [this] at h; cases h

theorem joinB_iff (ws : List (List UInt8)) : joinB ws = true ↔ ws ≠ [] ∧ ∀ x ∈ ws, wordB x = true := by
  unfold joinB
  rw [Bool.and_eq_true, List.all_eq_true]
  cases ws <;> simp

theorem split_joined (ws : List (List UInt8)) (h : joinB ws = true) : splitL (Lib.join ws [32]) = some ws := by
  obtain ⟨h1, h2⟩ := (joinB_iff ws).1 h
  cases ws with
  | nil => exact absurd rfl h1
  | cons x r =>
    have hp : pieces (Lib.join (x :: r) [32]) [] = x :: r := by
      rw [Lib.join_cons, pieces_tail r x [] (word_no32 x (h2 x (by simp))) (fun y hy => word_no32 y (h2 y (by simp [hy])))]
      simp
    unfold splitL
    rw [hp, if_pos (List.all_eq_true.2 h2)]

theorem join_split (l : List UInt8) (ws : List (List UInt8)) (h : splitL l = some ws) : joinB ws = true ∧ Lib.join ws [32] = l := by
  unfold splitL at h
  by_cases ha : (pieces l []).all wordB = true
  · rw [if_pos ha] at h
    obtain rfl := Option.some.inj h
    exact ⟨(joinB_iff _).2 ⟨pieces_ne l [], List.all_eq_true.1 ha⟩, by rw [join_pieces]; simp⟩
  · rw [if_neg ha] at h; cases h

theorem map_data_inj : ∀ (xs ys : List ByteArray), xs.map (·.data.toList) = ys.map (·.data.toList) → xs = ys
  | [], [], _ => rfl
  | [], _ :: _, h => by simp at h
  | _ :: _, [], h => by simp at h
  | x :: xs, y :: ys, h => by
    simp only [List.map_cons, List.cons.injEq] at h
    rw [WideShapes.bytes_inj h.1, map_data_inj xs ys h.2]

theorem tail_length : ∀ (r : List ByteArray), r.length + (r.map ByteArray.size).sum = (Lib.joinTail [32] (r.map (·.data.toList))).length
  | [] => by simp [Lib.joinTail]
  | b :: r => by
    have ih := tail_length r
    have hb : b.data.toList.length = b.size := by simp
    simp only [Lib.joinTail, List.map_cons, List.flatten_cons, List.length_append, List.length_cons, List.length_nil, List.sum_cons] at ih ⊢
    omega
theorem words_le (ws : List ByteArray) : ws.length + (ws.map ByteArray.size).sum ≤ (Lib.join (ws.map (·.data.toList)) [32]).length + 1 := by
  cases ws with
  | nil => simp
  | cons a r =>
    have h := tail_length r
    have ha : a.data.toList.length = a.size := by simp
    simp only [List.map_cons, Lib.join_cons, List.length_append, List.length_cons, List.sum_cons]
    omega

/-- What the law's loop has found behind k words. -/
def rightTo (ss : List ByteArray) (k : Nat) : Bool := decide (0 < ss.length) && (ss.take k).all (fun x => wordB x.data.toList)
theorem rightTo_zero (ss : List ByteArray) : rightTo ss 0 = decide (0 < ss.length) := by simp [rightTo]
theorem rightTo_succ (ss : List ByteArray) (k : Nat) (x : ByteArray) (h : ss[k]? = some x) : rightTo ss (k + 1) = (rightTo ss k && wordB x.data.toList) := by
  simp [rightTo, List.take_add_one, h, Bool.and_assoc]
theorem rightTo_all (ss : List ByteArray) (k : Nat) (h : ss.length ≤ k) : rightTo ss k = joinB (ss.map (·.data.toList)) := by
  rw [rightTo, List.take_of_length_le h, joinB]
  cases ss <;> simp [Function.comp_def]
end Go.Proofs.YtfecbepleeoibaaDoor
