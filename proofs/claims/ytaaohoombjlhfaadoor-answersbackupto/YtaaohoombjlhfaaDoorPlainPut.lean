/-
  Plain facts: what is read is written just so, and what is written is read.
-/
import Derived.Test.YtaaohoombjlhfaaDoorPlainScan
namespace Go.Proofs.YtaaohoombjlhfaaDoor
open Go.RowKit

theorem St.keep_text (w b : List UInt8) (s : St) : (textS w b s).id = s.id ∧ (textS w b s).num = s.num ∧ (textS w b s).tube = s.tube ∧ (textS w b s).size = s.size ∧ (textS w b s).body = s.body := by
  unfold textS; split <;> exact ⟨rfl, rfl, rfl, rfl, rfl⟩
theorem St.keep_id (m : Int) (b : List UInt8) (s : St) : (idS m b s).num = s.num ∧ (idS m b s).tube = s.tube ∧ (idS m b s).size = s.size ∧ (idS m b s).body = s.body := by
  unfold idS; split <;> exact ⟨rfl, rfl, rfl, rfl⟩
theorem St.keep_num (m : Int) (b : List UInt8) (s : St) : (numS m b s).id = s.id ∧ (numS m b s).tube = s.tube ∧ (numS m b s).size = s.size ∧ (numS m b s).body = s.body := by
  unfold numS; split <;> exact ⟨rfl, rfl, rfl, rfl⟩
theorem St.keep_tube (b : List UInt8) (s : St) : (tubeS b s).id = s.id ∧ (tubeS b s).num = s.num ∧ (tubeS b s).size = s.size ∧ (tubeS b s).body = s.body := by
  unfold tubeS; split <;> exact ⟨rfl, rfl, rfl, rfl⟩
theorem St.keep_size (m : Int) (b : List UInt8) (s : St) : (sizeS m b s).id = s.id ∧ (sizeS m b s).num = s.num ∧ (sizeS m b s).tube = s.tube ∧ (sizeS m b s).body = s.body := by
  unfold sizeS; split <;> exact ⟨rfl, rfl, rfl, rfl⟩
theorem St.keep_take (b : List UInt8) (s : St) : (takeS b s).id = s.id ∧ (takeS b s).num = s.num ∧ (takeS b s).tube = s.tube ∧ (takeS b s).size = s.size := by
  unfold takeS; split
  · split <;> exact ⟨rfl, rfl, rfl, rfl⟩
  · exact ⟨rfl, rfl, rfl, rfl⟩
/-- So far a trial has found a text. -/
def Got (b : List UInt8) (s : St) (t : List UInt8) : Prop := s.st = 0 ∧ s.pos ≤ b.length ∧ b.take s.pos = t
theorem take_more {b w r : List UInt8} {p : Nat} (h : b.drop p = w ++ r) : b.take (p + w.length) = b.take p ++ w := by
  rw [List.take_add, h, List.take_left]
theorem got_text {w b t : List UInt8} {s : St} (h : Got b s t) (h0 : (textS w b s).st = 0) : Got b (textS w b s) (t ++ w) := by
  obtain ⟨g0, g1, g2⟩ := h
  unfold textS at h0 ⊢
  rw [if_pos g0] at h0 ⊢
  obtain ⟨a, c, d⟩ := text_good b w s.pos g1 h0
  refine ⟨h0, by show (textP b w s.pos).1 ≤ _; omega, ?_⟩
  show b.take (textP b w s.pos).1 = _
  rw [a, take_more c, g2]
theorem got_word {fits : List UInt8 → Bool} (hc : Closed fits) {b t : List UInt8} {p : Nat} (ht : b.take p = t) (h : (wordP b fits p).2.2 = 0) : (wordP b fits p).2.1 ≤ b.length ∧ b.take (wordP b fits p).2.1 = t ++ 32 :: (wordP b fits p).1 ∧ fits (wordP b fits p).1 = true := by
  obtain ⟨a, _, c, d, e, _⟩ := word_good hc b p h
  refine ⟨Nat.le_of_lt e, ?_, c⟩
  rw [d, show p + 1 + (wordP b fits p).1.length = p + (32 :: (wordP b fits p).1).length by simp; omega, take_more (r := b.drop (wordP b fits p).2.1) (by rw [a]; rfl), ht]
theorem fits_value {l m : Int} {s : List UInt8} (h : numFits l m s = true) : s = decL (parseV s m) ∧ l ≤ parseV s m ∧ parseV s m ≤ m ∧ 0 ≤ parseV s m := by
  obtain ⟨u, rfl, h1, h2⟩ := fits_dec.1 h
  rw [dec_value h2]
  exact ⟨rfl, h1, h2, by omega⟩
theorem got_id {m : Int} {b t : List UInt8} {s : St} (h : Got b s t) (h0 : (idS m b s).st = 0) : Got b (idS m b s) (t ++ 32 :: decL (idS m b s).id) ∧ 1 ≤ (idS m b s).id ∧ (idS m b s).id ≤ m := by
  obtain ⟨g0, g1, g2⟩ := h
  unfold idS at h0 ⊢
  rw [if_pos g0] at h0 ⊢
  obtain ⟨a, c, d⟩ := got_word (num_closed (l := 1) (m := m) (by decide)) g2 h0
  obtain ⟨e1, e2, e3, _⟩ := fits_value d
  refine ⟨⟨h0, a, ?_⟩, e2, e3⟩
  show b.take (wordP b (numFits 1 m) s.pos).2.1 = _
  rw [c]
  exact congrArg (fun x => t ++ 32 :: x) e1
theorem got_num {m : Int} {b t : List UInt8} {s : St} (h : Got b s t) (h0 : (numS m b s).st = 0) : Got b (numS m b s) (t ++ 32 :: decL (numS m b s).num) ∧ 0 ≤ (numS m b s).num ∧ (numS m b s).num ≤ m := by
  obtain ⟨g0, g1, g2⟩ := h
  unfold numS at h0 ⊢
  rw [if_pos g0] at h0 ⊢
  obtain ⟨a, c, d⟩ := got_word (num_closed (l := 0) (m := m) (by decide)) g2 h0
  obtain ⟨e1, e2, e3, _⟩ := fits_value d
  refine ⟨⟨h0, a, ?_⟩, e2, e3⟩
  show b.take (wordP b (numFits 0 m) s.pos).2.1 = _
  rw [c]
  exact congrArg (fun x => t ++ 32 :: x) e1
theorem got_size {m : Int} {b t : List UInt8} {s : St} (h : Got b s t) (h0 : (sizeS m b s).st = 0) : Got b (sizeS m b s) (t ++ 32 :: decL (sizeS m b s).size) ∧ 0 ≤ (sizeS m b s).size ∧ (sizeS m b s).size ≤ m := by
  obtain ⟨g0, g1, g2⟩ := h
  unfold sizeS at h0 ⊢
  rw [if_pos g0] at h0 ⊢
  obtain ⟨a, c, d⟩ := got_word (num_closed (l := 0) (m := m) (by decide)) g2 h0
  obtain ⟨e1, e2, e3, _⟩ := fits_value d
  refine ⟨⟨h0, a, ?_⟩, e2, e3⟩
  show b.take (wordP b (numFits 0 m) s.pos).2.1 = _
  rw [c]
  exact congrArg (fun x => t ++ 32 :: x) e1
theorem got_tube {b t : List UInt8} {s : St} (h : Got b s t) (h0 : (tubeS b s).st = 0) : Got b (tubeS b s) (t ++ 32 :: (tubeS b s).tube) ∧ validB (tubeS b s).tube = true := by
  obtain ⟨g0, g1, g2⟩ := h
  unfold tubeS at h0 ⊢
  rw [if_pos g0] at h0 ⊢
  obtain ⟨a, c, d⟩ := got_word valid_closed g2 h0
  exact ⟨⟨h0, a, c⟩, d⟩
theorem got_take {b t : List UInt8} {s : St} (h : Got b s t) (h0 : (takeS b s).st = 0) : Got b (takeS b s) (t ++ (takeS b s).body) ∧ (takeS b s).body.length = s.size.toNat := by
  obtain ⟨g0, g1, g2⟩ := h
  unfold takeS at h0 ⊢
  rw [if_pos g0] at h0 ⊢
  by_cases hl : b.length < s.pos + s.size.toNat
  · rw [if_pos hl] at h0; cases h0
  · rw [if_neg hl] at h0 ⊢
    have hb : ((b.drop s.pos).take s.size.toNat).length = s.size.toNat := by simp; omega
    refine ⟨⟨h0, by show s.pos + _ ≤ _; omega, ?_⟩, hb⟩
    show b.take (s.pos + s.size.toNat) = t ++ _
    rw [List.take_add, g2]
theorem Fine.was {p : List UInt8 → St → St} (h : Fine p) {b : List UInt8} {s : St} (h0 : (p b s).st = 0) : s.st = 0 := by
  by_cases hz : s.st = 0
  · exact hz
  · rw [h.stuck b s hz] at h0; exact h0
theorem table : ∀ k, k < 24 → 0 ≤ idOf k ∧ 0 ≤ nuOf k ∧ 0 ≤ boOf k ∧ idOf k ≤ 4611686018427387903 ∧ nuOf k ≤ 4294967295 ∧ boOf k ≤ 4294967295 := by decide
/-- What is read is written just so. -/
theorem kind_put (k : Nat) (hk : 1 ≤ k ∧ k ≤ 23) (b : List UInt8) (h : (kindS k b).st = 0) : b.take (kindS k b).pos = putL (rpOf k (kindS k b)) ∧ rightB (rpOf k (kindS k b)) = true := by
  obtain ⟨t1, t2, t3, _⟩ := table k (by omega)
  obtain ⟨s1, e1⟩ : ∃ s, s = textS (wordOf k) b st0 := ⟨_, rfl⟩
  obtain ⟨s2, e2⟩ : ∃ s, s = if 0 < idOf k then idS (idOf k) b s1 else s1 := ⟨_, rfl⟩
  obtain ⟨s3, e3⟩ : ∃ s, s = if 0 < nuOf k then numS (nuOf k) b s2 else s2 := ⟨_, rfl⟩
  obtain ⟨s4, e4⟩ : ∃ s, s = if tuOf k = true then tubeS b s3 else s3 := ⟨_, rfl⟩
  obtain ⟨s5, e5⟩ : ∃ s, s = if 0 < boOf k then sizeS (boOf k) b s4 else s4 := ⟨_, rfl⟩
  obtain ⟨s6, e6⟩ : ∃ s, s = bodyS k b s5 := ⟨_, rfl⟩
  obtain ⟨s7, e7⟩ : ∃ s, s = textS [13, 10] b s6 := ⟨_, rfl⟩
  have ek : kindS k b = s7 := by rw [e7, e6, e5, e4, e3, e2, e1]; rfl
  rw [ek] at h ⊢
  have z6 : s6.st = 0 := (fine_text [13, 10]).was (by rw [← e7]; exact h)
  have z5 : s5.st = 0 := (fine_body k).was (by rw [← e6]; exact z6)
  have z4 : s4.st = 0 := ((fine_size (boOf k)).opt (0 < boOf k)).was (b := b) (by show (if 0 < boOf k then sizeS (boOf k) b s4 else s4).st = 0; rw [← e5]; exact z5)
  have z3 : s3.st = 0 := (fine_tube.opt (tuOf k = true)).was (b := b) (by show (if tuOf k = true then tubeS b s3 else s3).st = 0; rw [← e4]; exact z4)
  have z2 : s2.st = 0 := ((fine_num (nuOf k)).opt (0 < nuOf k)).was (b := b) (by show (if 0 < nuOf k then numS (nuOf k) b s2 else s2).st = 0; rw [← e3]; exact z3)
  have z1 : s1.st = 0 := ((fine_id (idOf k)).opt (0 < idOf k)).was (b := b) (by show (if 0 < idOf k then idS (idOf k) b s1 else s1).st = 0; rw [← e2]; exact z2)
  have k1 := St.keep_text (wordOf k) b st0
  rw [← e1] at k1
  have g1 : Got b s1 (wordOf k) := by
    have := got_text (w := wordOf k) (b := b) (t := []) (s := st0) ⟨rfl, Nat.zero_le _, rfl⟩ (by rw [← e1]; exact z1)
    rw [← e1] at this
    exact this
  have g2 : Got b s2 (wordOf k ++ if 0 < idOf k then 32 :: decL s2.id else []) ∧ min (idOf k) 1 ≤ s2.id ∧ s2.id ≤ idOf k ∧ s2.num = 0 ∧ s2.tube = [] ∧ s2.body = [] := by
    by_cases hc : 0 < idOf k
    · rw [if_pos hc] at e2
      rw [if_pos hc]
      obtain ⟨a, c, d⟩ := got_id (m := idOf k) g1 (by rw [← e2]; exact z2)
      have kk := St.keep_id (idOf k) b s1
      rw [← e2] at a c d kk
      exact ⟨a, by omega, d, kk.1.trans k1.2.1, kk.2.1.trans k1.2.2.1, kk.2.2.2.trans k1.2.2.2.2⟩
    · rw [if_neg hc] at e2
      rw [if_neg hc, List.append_nil, e2, k1.1]
      exact ⟨g1, by show min (idOf k) 1 ≤ 0; omega, t1, k1.2.1, k1.2.2.1, k1.2.2.2.2⟩
  have g3 : Got b s3 (wordOf k ++ (if 0 < idOf k then 32 :: decL s3.id else []) ++ if 0 < nuOf k then 32 :: decL s3.num else []) ∧ s3.id = s2.id ∧ 0 ≤ s3.num ∧ s3.num ≤ nuOf k ∧ s3.tube = [] ∧ s3.body = [] := by
    by_cases hc : 0 < nuOf k
    · rw [if_pos hc] at e3
      rw [if_pos hc]
      obtain ⟨a, c, d⟩ := got_num (m := nuOf k) g2.1 (by rw [← e3]; exact z3)
      have kk := St.keep_num (nuOf k) b s2
      rw [← e3] at a c d kk
      rw [kk.1]
      exact ⟨a, rfl, c, d, kk.2.1.trans g2.2.2.2.2.1, kk.2.2.2.trans g2.2.2.2.2.2⟩
    · rw [if_neg hc] at e3
      rw [if_neg hc, List.append_nil, e3, g2.2.2.2.1]
      exact ⟨g2.1, rfl, Int.le_refl _, t2, g2.2.2.2.2⟩
  have g4 : Got b s4 (wordOf k ++ (if 0 < idOf k then 32 :: decL s4.id else []) ++ (if 0 < nuOf k then 32 :: decL s4.num else []) ++ if tuOf k = true then 32 :: s4.tube else []) ∧ s4.id = s3.id ∧ s4.num = s3.num ∧ (if tuOf k = true then validB s4.tube else s4.tube.isEmpty) = true ∧ s4.body = [] := by
    by_cases hc : tuOf k = true
    · rw [if_pos hc] at e4
      rw [if_pos hc, if_pos hc]
      obtain ⟨a, c⟩ := got_tube g3.1 (by rw [← e4]; exact z4)
      have kk := St.keep_tube b s3
      rw [← e4] at a c kk
      rw [kk.1, kk.2.1]
      exact ⟨a, rfl, rfl, c, kk.2.2.2.trans g3.2.2.2.2.2⟩
    · rw [if_neg hc] at e4
      rw [if_neg hc, if_neg hc, List.append_nil, e4, g3.2.2.2.2.1]
      exact ⟨g3.1, rfl, rfl, rfl, g3.2.2.2.2.2⟩
  have g5 : Got b s5 (wordOf k ++ (if 0 < idOf k then 32 :: decL s5.id else []) ++ (if 0 < nuOf k then 32 :: decL s5.num else []) ++ (if tuOf k = true then 32 :: s5.tube else []) ++ if 0 < boOf k then 32 :: decL s5.size else []) ∧ s5.id = s4.id ∧ s5.num = s4.num ∧ s5.tube = s4.tube ∧ (0 < boOf k → 0 ≤ s5.size ∧ s5.size ≤ boOf k) ∧ s5.body = [] := by
    by_cases hc : 0 < boOf k
    · rw [if_pos hc] at e5
      rw [if_pos hc]
      obtain ⟨a, c, d⟩ := got_size (m := boOf k) g4.1 (by rw [← e5]; exact z5)
      have kk := St.keep_size (boOf k) b s4
      rw [← e5] at a c d kk
      rw [kk.1, kk.2.1, kk.2.2.1]
      exact ⟨a, rfl, rfl, rfl, fun _ => ⟨c, d⟩, kk.2.2.2.trans g4.2.2.2.2⟩
    · rw [if_neg hc] at e5
      rw [if_neg hc, List.append_nil, e5]
      exact ⟨g4.1, rfl, rfl, rfl, fun h => absurd h hc, g4.2.2.2.2⟩
  have g6 : Got b s6 (wordOf k ++ (if 0 < idOf k then 32 :: decL s6.id else []) ++ (if 0 < nuOf k then 32 :: decL s6.num else []) ++ (if tuOf k = true then 32 :: s6.tube else []) ++ (if 0 < boOf k then 32 :: decL s6.body.length else []) ++ if 0 < boOf k then 13 :: 10 :: s6.body else []) ∧ s6.id = s5.id ∧ s6.num = s5.num ∧ s6.tube = s5.tube ∧ (s6.body.length : Int) ≤ boOf k := by
    by_cases hc : 0 < boOf k
    · unfold bodyS at e6
      rw [if_pos hc] at e6
      rw [if_pos hc] at g5
      rw [if_pos hc, if_pos hc]
      have zt : (textS [13, 10] b s5).st = 0 := fine_take.was (by rw [← e6]; exact z6)
      have a1 := got_text (w := [13, 10]) g5.1 zt
      obtain ⟨a2, a3⟩ := got_take a1 (by rw [← e6]; exact z6)
      have kt := St.keep_text [13, 10] b s5
      have kk := St.keep_take b (textS [13, 10] b s5)
      rw [← e6] at a2 a3 kk
      rw [kk.1.trans kt.1, kk.2.1.trans kt.2.1, kk.2.2.1.trans kt.2.2.1]
      obtain ⟨q1, q2⟩ := g5.2.2.2.2.1 hc
      rw [kt.2.2.2.1] at a3
      have hs : (s6.body.length : Int) = s5.size := by omega
      rw [hs]
      refine ⟨?_, rfl, rfl, rfl, q2⟩
      have : ∀ (x : List UInt8), x ++ [13, 10] ++ s6.body = x ++ 13 :: 10 :: s6.body := fun x => by simp
      rw [this] at a2
      exact a2
    · unfold bodyS at e6
      rw [if_neg hc] at e6
      rw [if_neg hc] at g5
      rw [if_neg hc, if_neg hc, List.append_nil, e6, g5.2.2.2.2.2]
      exact ⟨g5.1, rfl, rfl, rfl, t3⟩
  have g7 := got_text (w := [13, 10]) g6.1 (by rw [← e7]; exact h)
  have k7 := St.keep_text [13, 10] b s6
  rw [← e7] at g7 k7
  constructor
  · rw [g7.2.2]
    unfold putL fieldsL rpOf
    simp only [Int.toNat_natCast]
    rw [k7.1, k7.2.1, k7.2.2.1, k7.2.2.2.2]
    by_cases hc : 0 < boOf k
    · simp [hc]
    · simp [hc]
  · unfold rightB rpOf
    simp only [Int.toNat_natCast]
    rw [k7.1, k7.2.1, k7.2.2.1, k7.2.2.2.2, g6.2.1, g6.2.2.1, g6.2.2.2.1, g5.2.1, g5.2.2.1, g5.2.2.2.1, g4.2.1, g4.2.2.1, g3.2.1]
    simp only [Bool.and_eq_true, decide_eq_true_eq]
    exact ⟨⟨⟨⟨⟨⟨⟨by omega, by omega⟩, g2.2.1⟩, g2.2.2.1⟩, g3.2.2.1⟩, g3.2.2.2.1⟩, g6.2.2.2.2⟩, g4.2.2.2.1⟩

theorem right_facts {r : Rp} (h : rightB r = true) : 1 ≤ r.kind ∧ r.kind ≤ 23 ∧ min (idOf r.kind.toNat) 1 ≤ r.id ∧ r.id ≤ idOf r.kind.toNat ∧ 0 ≤ r.num ∧ r.num ≤ nuOf r.kind.toNat ∧ (r.body.length : Int) ≤ boOf r.kind.toNat ∧ (if tuOf r.kind.toNat = true then validB r.tube else r.tube.isEmpty) = true := by
  unfold rightB at h
  simp only [Bool.and_eq_true, decide_eq_true_eq] at h
  obtain ⟨⟨⟨⟨⟨⟨⟨a, b⟩, c⟩, d⟩, e⟩, f⟩, g⟩, i⟩ := h
  exact ⟨a, b, c, d, e, f, g, i⟩
theorem dec_short {n : Int} (h1 : n ≤ 4611686018427387903) : (decL n).length ≤ 200 := by
  unfold decL
  have := Lib.itoa_length_le (n.toNat : Int) (by omega) (by omega)
  rw [Lib.itoa_nonneg] at this
  exact Nat.le_trans this (by decide)
theorem num_is {l m : Int} (hl : l ≤ 1) {b : List UInt8} {p : Nat} {n : Int} {c : UInt8} {r : List UInt8} (h : b.drop p = 32 :: (decL n ++ c :: r)) (h0 : 0 ≤ n) (h1 : l ≤ n) (h2 : n ≤ m) (hm : m ≤ 4611686018427387903) (hc : c = 32 ∨ c = 13) :
    wordP b (numFits l m) p = (decL n, p + 1 + (decL n).length, 0) ∧ parseV (decL n) m = n := by
  have hf : numFits l m (decL n) = true := fits_dec.2 ⟨n.toNat, rfl, by omega, by omega⟩
  refine ⟨word_is (num_closed hl) b p (decL n) c r h (dec_ne _) hf (dec_short (by omega)) (num_ends _ c (by rcases hc with rfl | rfl <;> decide)), ?_⟩
  have := dec_value (m := m) (u := n.toNat) (by omega)
  rw [show (n.toNat : Int) = n by omega] at this
  exact this
theorem drop_on {b w r : List UInt8} {p : Nat} (h : b.drop p = w ++ r) : b.drop (p + w.length) = r := by
  rw [← List.drop_drop, h, List.drop_left]
theorem heads {c : Prop} [Decidable c] {w T : List UInt8} (h : ∃ x r, T = x :: r ∧ (x = 32 ∨ x = 13)) : ∃ x r, (if c then 32 :: w else []) ++ T = x :: r ∧ (x = 32 ∨ x = 13) := by
  by_cases hc : c
  · rw [if_pos hc]; exact ⟨32, w ++ T, rfl, .inl rfl⟩
  · rw [if_neg hc]; exact h
/-- What is written is read. -/
theorem kind_read {r : Rp} (h : rightB r = true) (x : List UInt8) : ∃ z, kindS r.kind.toNat (putL r ++ x) = ⟨(putL r).length, 0, r.id, r.num, r.tube, z, r.body⟩ := by
  obtain ⟨h1, h2, h3, h4, h5, h6, h7, h8⟩ := right_facts h
  obtain ⟨k, hk⟩ : ∃ k, k = r.kind.toNat := ⟨_, rfl⟩
  rw [← hk] at h3 h4 h6 h7 h8 ⊢
  obtain ⟨t1, t2, t3, t4, t5, t6⟩ := table k (by omega)
  obtain ⟨B, hB⟩ : ∃ B, B = putL r ++ x := ⟨_, rfl⟩
  obtain ⟨T5, hT5⟩ : ∃ T, T = [13, 10] ++ ((if 0 < boOf k then r.body ++ [13, 10] else []) ++ x) := ⟨_, rfl⟩
  obtain ⟨T4, hT4⟩ : ∃ T, T = (if 0 < boOf k then 32 :: decL r.body.length else []) ++ T5 := ⟨_, rfl⟩
  obtain ⟨T3, hT3⟩ : ∃ T, T = (if tuOf k = true then 32 :: r.tube else []) ++ T4 := ⟨_, rfl⟩
  obtain ⟨T2, hT2⟩ : ∃ T, T = (if 0 < nuOf k then 32 :: decL r.num else []) ++ T3 := ⟨_, rfl⟩
  obtain ⟨T1, hT1⟩ : ∃ T, T = (if 0 < idOf k then 32 :: decL r.id else []) ++ T2 := ⟨_, rfl⟩
  have b0 : B.drop 0 = wordOf k ++ T1 := by
    rw [List.drop_zero, hB, hT1, hT2, hT3, hT4, hT5]
    unfold putL fieldsL
    rw [← hk]
    simp
  rw [← hB]
  have n5 : ∃ y s, T5 = y :: s ∧ (y = 32 ∨ y = 13) := ⟨13, _, hT5, .inr rfl⟩
  have n4 : ∃ y s, T4 = y :: s ∧ (y = 32 ∨ y = 13) := by rw [hT4]; exact heads n5
  have n3 : ∃ y s, T3 = y :: s ∧ (y = 32 ∨ y = 13) := by rw [hT3]; exact heads n4
  have n2 : ∃ y s, T2 = y :: s ∧ (y = 32 ∨ y = 13) := by rw [hT2]; exact heads n3
  -- the word
  obtain ⟨p1, hp1⟩ : ∃ p, p = (wordOf k).length := ⟨_, rfl⟩
  have s1 : textS (wordOf k) B st0 = ⟨p1, 0, 0, 0, [], 0, []⟩ := by
    show (⟨(textP B (wordOf k) 0).1, (textP B (wordOf k) 0).2, 0, 0, [], 0, []⟩ : St) = _
    rw [text_is B (wordOf k) T1 0 b0, hp1]
    simp
  have b1 : B.drop p1 = T1 := by
    have := drop_on b0
    rw [Nat.zero_add] at this
    rw [hp1]; exact this
  -- the id
  obtain ⟨p2, s2, b2⟩ : ∃ p2, (if 0 < idOf k then idS (idOf k) B ⟨p1, 0, 0, 0, [], 0, []⟩ else ⟨p1, 0, 0, 0, [], 0, []⟩) = (⟨p2, 0, r.id, 0, [], 0, []⟩ : St) ∧ B.drop p2 = T2 := by
    by_cases hc : 0 < idOf k
    · rw [if_pos hc] at hT1 ⊢
      obtain ⟨y, s, e, hy⟩ := n2
      obtain ⟨a, c⟩ := num_is (l := 1) (m := idOf k) (by decide) (b := B) (p := p1) (n := r.id) (c := y) (r := s) (by rw [b1, hT1, e]; rfl) (by omega) (by omega) h4 t4 hy
      refine ⟨p1 + 1 + (decL r.id).length, ?_, ?_⟩
      · unfold idS
        rw [if_pos rfl, a, c]
      · rw [hT1] at b1
        have := drop_on b1
        rw [List.length_cons, Nat.add_comm _ 1, ← Nat.add_assoc] at this
        exact this
    · rw [if_neg hc] at hT1 ⊢
      refine ⟨p1, ?_, by rw [b1, hT1]; rfl⟩
      rw [show r.id = 0 by omega]
  obtain ⟨p3, s3, b3⟩ : ∃ p3, (if 0 < nuOf k then numS (nuOf k) B ⟨p2, 0, r.id, 0, [], 0, []⟩ else ⟨p2, 0, r.id, 0, [], 0, []⟩) = (⟨p3, 0, r.id, r.num, [], 0, []⟩ : St) ∧ B.drop p3 = T3 := by
    by_cases hc : 0 < nuOf k
    · rw [if_pos hc] at hT2 ⊢
      obtain ⟨y, s, e, hy⟩ := n3
      obtain ⟨a, c⟩ := num_is (l := 0) (m := nuOf k) (by decide) (b := B) (p := p2) (n := r.num) (c := y) (r := s) (by rw [b2, hT2, e]; rfl) h5 h5 h6 (by omega) hy
      refine ⟨p2 + 1 + (decL r.num).length, ?_, ?_⟩
      · unfold numS
        rw [if_pos rfl, a, c]
      · rw [hT2] at b2
        have := drop_on b2
        rw [List.length_cons, Nat.add_comm _ 1, ← Nat.add_assoc] at this
        exact this
    · rw [if_neg hc] at hT2 ⊢
      refine ⟨p2, ?_, by rw [b2, hT2]; rfl⟩
      rw [show r.num = 0 by omega]
  obtain ⟨p4, s4, b4⟩ : ∃ p4, (if tuOf k = true then tubeS B ⟨p3, 0, r.id, r.num, [], 0, []⟩ else ⟨p3, 0, r.id, r.num, [], 0, []⟩) = (⟨p4, 0, r.id, r.num, r.tube, 0, []⟩ : St) ∧ B.drop p4 = T4 := by
    by_cases hc : tuOf k = true
    · rw [if_pos hc] at hT3 h8 ⊢
      obtain ⟨y, s, e, hy⟩ := n4
      have hv : 1 ≤ r.tube.length ∧ r.tube.length ≤ 200 := by
        unfold validB at h8
        simp only [Bool.and_eq_true, decide_eq_true_eq] at h8
        exact h8.1.1
      have a := word_is valid_closed B p3 r.tube y s (by rw [b3, hT3, e]; rfl) (fun e => by rw [e] at hv; simp at hv) h8 hv.2 (valid_ends _ y (by rcases hy with rfl | rfl <;> decide))
      refine ⟨p3 + 1 + r.tube.length, ?_, ?_⟩
      · unfold tubeS
        rw [if_pos rfl, a]
      · rw [hT3] at b3
        have := drop_on b3
        rw [List.length_cons, Nat.add_comm _ 1, ← Nat.add_assoc] at this
        exact this
    · rw [if_neg hc] at hT3 h8 ⊢
      refine ⟨p3, ?_, by rw [b3, hT3]; rfl⟩
      rw [List.isEmpty_iff.1 h8]
  obtain ⟨p5, z, s5, b5, hz⟩ : ∃ p5 z, (if 0 < boOf k then sizeS (boOf k) B ⟨p4, 0, r.id, r.num, r.tube, 0, []⟩ else ⟨p4, 0, r.id, r.num, r.tube, 0, []⟩) = (⟨p5, 0, r.id, r.num, r.tube, z, []⟩ : St) ∧ B.drop p5 = T5 ∧ (0 < boOf k → z = r.body.length) := by
    by_cases hc : 0 < boOf k
    · rw [if_pos hc] at hT4 ⊢
      obtain ⟨y, s, e, hy⟩ := n5
      obtain ⟨a, c⟩ := num_is (l := 0) (m := boOf k) (by decide) (b := B) (p := p4) (n := r.body.length) (c := y) (r := s) (by rw [b4, hT4, e]; rfl) (by omega) (by omega) h7 (by omega) hy
      refine ⟨p4 + 1 + (decL r.body.length).length, r.body.length, ?_, ?_, fun _ => rfl⟩
      · unfold sizeS
        rw [if_pos rfl, a, c]
      · rw [hT4] at b4
        have := drop_on b4
        rw [List.length_cons, Nat.add_comm _ 1, ← Nat.add_assoc] at this
        exact this
    · rw [if_neg hc] at hT4 ⊢
      exact ⟨p4, 0, rfl, by rw [b4, hT4]; rfl, fun h => absurd h hc⟩
  have hline : lineS k B st0 = ⟨p5, 0, r.id, r.num, r.tube, z, []⟩ := by
    unfold lineS
    simp only
    rw [s1, s2, s3, s4, s5]
  obtain ⟨p6, s6, b6⟩ : ∃ p6, bodyS k B ⟨p5, 0, r.id, r.num, r.tube, z, []⟩ = ⟨p6, 0, r.id, r.num, r.tube, z, r.body⟩ ∧ B.drop p6 = [13, 10] ++ x := by
    unfold bodyS
    by_cases hc : 0 < boOf k
    · rw [if_pos hc]
      rw [if_pos hc] at hT5
      have hz := hz hc
      have st : textS [13, 10] B ⟨p5, 0, r.id, r.num, r.tube, z, []⟩ = ⟨p5 + 2, 0, r.id, r.num, r.tube, z, []⟩ := by
        unfold textS
        rw [if_pos rfl, text_is B [13, 10] _ p5 (by rw [b5, hT5])]
        rfl
      have bt : B.drop (p5 + 2) = r.body ++ ([13, 10] ++ x) := by
        rw [hT5] at b5
        have := drop_on b5
        rw [show p5 + 2 = p5 + ([13, 10] : List UInt8).length from rfl, this]
        simp
      have hlen : p5 + 2 + r.body.length ≤ B.length := by
        have e := congrArg List.length bt
        simp only [List.length_append, List.length_cons, List.length_drop, List.length_nil] at e
        omega
      refine ⟨p5 + 2 + r.body.length, ?_, ?_⟩
      · rw [st]
        unfold takeS
        rw [if_pos rfl]
        dsimp only
        rw [hz, Int.toNat_natCast, if_neg (by omega), bt, List.take_left]
      · exact drop_on bt
    · rw [if_neg hc]
      rw [if_neg hc] at hT5
      refine ⟨p5, ?_, by rw [b5, hT5]; simp⟩
      have : r.body = [] := List.length_eq_zero_iff.1 (by omega)
      rw [this]
  have s7 : kindS k B = ⟨p6 + 2, 0, r.id, r.num, r.tube, z, r.body⟩ := by
    unfold kindS
    rw [hline, s6]
    unfold textS
    rw [if_pos rfl, text_is B [13, 10] x p6 b6]
    rfl
  refine ⟨z, ?_⟩
  rw [s7]
  congr 1
  have e := drop_on b6
  have hl := congrArg List.length e
  rw [hB] at hl
  simp only [List.length_append, List.length_cons, List.length_drop, List.length_nil] at hl
  have e2 := congrArg List.length b6
  rw [hB] at e2
  simp only [List.length_append, List.length_cons, List.length_drop, List.length_nil] at e2
  omega
theorem put_read {r : Rp} (h : rightB r = true) (x : List UInt8) : readP (putL r ++ x) = (r, (putL r).length, 0) := by
  obtain ⟨z, hz⟩ := kind_read h x
  obtain ⟨h1, h2, _⟩ := right_facts h
  have h0 : (kindS r.kind.toNat (putL r ++ x)).st = 0 := by rw [hz]
  have := from_first (putL r ++ x) 23 1 0 r.kind.toNat (by omega) (by omega) (fun i hi hi2 => (kind_other i r.kind.toNat _ (by omega) (by omega) (by omega) h0).1) (by rw [h0]; decide)
  show readFrom (putL r ++ x) 23 1 0 = _
  rw [this, hz]
  unfold rpOf
  rw [show ((r.kind.toNat : Nat) : Int) = r.kind by omega]
theorem read_put {b : List UInt8} (h : (readP b).2.2 = 0) : b.take (readP b).2.1 = putL (readP b).1 ∧ rightB (readP b).1 = true := by
  rcases read_pick b with ⟨j, h1, h2, _, _, e⟩ | ⟨_, h2, _⟩
  · rw [e] at h ⊢
    exact kind_put j ⟨h1, h2⟩ b h
  · omega
end Go.Proofs.YtaaohoombjlhfaaDoor
