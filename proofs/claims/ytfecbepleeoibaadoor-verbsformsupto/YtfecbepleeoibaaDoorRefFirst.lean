/-
  The walks of the document's first and set.
-/
import Derived.Test.YtfecbepleeoibaaDoorRefWordV
import Derived.Test.YtfecbepleeoibaaDoorPlainCmd
import Derived.Test.YtfecbepleeoibaaDoorRefParse
namespace Go.Proofs.YtfecbepleeoibaaDoor
open Go.RowKit Go.Lib

theorem first_at (s : ByteArray) (k : Nat) (hk : k < s.size) (h : s[k].toNat = 32) (ha : ∀ c ∈ s.data.toList.take k, c.toNat ≠ 32) : firstL s.data.toList = (s.extract 0 k).data.toList := by
  have hd : s.data.toList = s.data.toList.take k ++ (32 :: s.data.toList.drop (k + 1)) := by
    have e : s[k] = 32 := UInt8.toNat_inj.1 (by rw [h]; rfl)
    rw [← e]
    have := drop_cons s k hk
    rw [← this, List.take_append_drop]
  rw [extract_list, List.drop_zero]
  conv => lhs; rw [hd]
  exact first_word _ _ ha (.inr ⟨_, rfl⟩)
theorem first_all (s : ByteArray) (k : Nat) (hk : ¬ k < s.size) (ha : ∀ c ∈ s.data.toList.take k, c.toNat ≠ 32) : firstL s.data.toList = s.data.toList := by
  rw [List.take_of_length_le (by simp; omega)] at ha
  have := first_word s.data.toList [] ha (.inl rfl)
  rw [List.append_nil] at this
  exact this
theorem first_go (s : ByteArray) (k : Nat) (hk : k < s.size) (h : s[k].toNat ≠ 32) (ha : ∀ c ∈ s.data.toList.take k, c.toNat ≠ 32) : ∀ c ∈ s.data.toList.take (k + 1), c.toNat ≠ 32 := by
  rw [take_snoc s k hk]
  intro c hc
  rcases List.mem_append.1 hc with hc | hc
  · exact ha c hc
  · simp at hc; subst hc; exact h
set_option maxHeartbeats 1000000 in
set_option maxRecDepth 1000000 in
theorem refFirst_any (s : ByteArray) (w : World) (hs : s.size ≤ maxLen) :
    Calls Tryd.prog 27 #[.string s] w fun e w' => (∃ f : ByteArray, e = .returned (.string f) ∧ f.data.toList = firstL s.data.toList) ∧ w' = w := by
  unfold maxLen at hs
  go_enter Tryd.func27, Tryd.ntmps27
  go_wp2_with fail
  go_loopg [3] s.size (fun gk i wr => ∃ k : Nat, i = .int .i64 k ∧ k ≤ s.size ∧ s.size - k ≤ gk ∧ wr = w ∧ Hid (∀ c ∈ s.data.toList.take k, c.toNat ≠ 32))
  case atStart => exact ⟨0, rfl, by omega, by omega, rfl, fun c hc => by simp at hc⟩
  case round =>
    obtain ⟨k, rfl, hk, hgk, hwr, HA⟩ := hrel
    subst hwr
    by_cases hp : k < s.size
    · have i1 : (0 : Int) ≤ (k : Int) := by omega
      have i2 : (k : Int) < (s.size : Int) := by omega
      have i3 : (k : Int) ≤ (s.size : Int) := by omega
      by_cases hx : s[k].toNat = 32
      · have HX := hide hx
        have hxb : ((s[k].toNat : Int) == 32) = true := by rw [hx]; rfl
        clear hx
        go_wp2_with fail
        go_ret
        exact ⟨⟨_, rfl, (first_at s k hp HX.out HA.out).symm⟩, rfl⟩
      · have HX := hide hx
        have hxb : ((s[k].toNat : Int) == 32) = false := by rw [beq_eq_false_iff_ne]; omega
        clear hx
        go_wp2_with fail
        go_roundg (s.size - (k + 1))
        case measure => omega
        case rel => exact ⟨k + 1, by go_num, by omega, Nat.le_refl _, rfl, first_go s k hp HX.out HA.out⟩
    · go_wp2_with fail
      go_ret
      exact ⟨⟨_, rfl, (first_all s k hp HA.out).symm⟩, rfl⟩

/-- A word read into a field: is it right, and what does the command become? -/
def setB (f : Nat) (x : List UInt8) : Bool := if f = 6 then validB x else parseB x (great f)
def setC (c : Cm) (f : Nat) (x : List UInt8) : Cm := match f with
  | 1 => { c with id := parseV x 4611686018427387903 }
  | 2 => { c with pri := parseV x 4294967295 }
  | 3 => { c with delay := parseV x 4294967295 }
  | 4 => { c with ttr := if parseV x 4294967295 = 0 then 1 else parseV x 4294967295 }
  | 5 => { c with number := parseV x 4294967295 }
  | _ => { c with tube := x }
set_option maxHeartbeats 4000000 in
set_option maxRecDepth 1000000 in
theorem set_any (c : Cm) (f : Nat) (hf : 1 ≤ f ∧ f ≤ 6) (x : ByteArray) (hx : x.size ≤ maxLen) (w : World) :
    Calls Tryd.prog 30 #[cmdV c (.slice none 0 0), .int .u8 (letterOf f).toNat, .string x] w fun e w' => e = .returned (.tuple #[cmdV (setC c f x.data.toList) (.slice none 0 0), .bool (setB f x.data.toList)]) ∧ Below w.heap.size w w' := by
  have HP := hide fun w => refParse_any x 4294967295 w hx (by decide) (by decide)
  have HP2 := hide fun w => refParse_any x 4611686018427387903 w hx (by decide) (by decide)
  have HV := hide fun w => refValid_any x w
  obtain ⟨q0, q1, q2, q3, q4, q5, q6⟩ := c
  unfold cmdV
  match f, hf with
  | 2, _ =>
    rw [show (((letterOf 2).toNat : Nat) : Int) = 112 from rfl]
    show Calls _ _ _ _ fun e w' => e = .returned (.tuple #[.agg #[.int .i64 q0, .int .i64 q1, .int .i64 (parseV x.data.toList 4294967295), .int .i64 q3, .int .i64 q4, .int .i64 q5, .string ⟨q6.toArray⟩, .slice none 0 0], .bool (parseB x.data.toList 4294967295)]) ∧ Below w.heap.size w w'
    obtain ⟨pv, hpv⟩ : ∃ pv, parseV x.data.toList 4294967295 = pv := ⟨_, rfl⟩
    obtain ⟨pb, hpb⟩ : ∃ pb, parseB x.data.toList 4294967295 = pb := ⟨_, rfl⟩
    rw [hpv, hpb] at HP ⊢
    clear hpv hpb hx
    go_enter Tryd.func30, Tryd.ntmps30
    go_wp2_with fail
    refine (HP.out _).mono ?_
    rintro e w1 ⟨rfl, hw1⟩
    subst hw1
    go_wp2_with fail
    refine bodyPost_ret (results_cmd rfl _ _ (w.heap.size + 1) _ rfl rfl (heap_alloc2_new _ _ _)) rfl ⟨rfl, ?_⟩
    exact ((Below.refl _ w).alloc (Nat.le_refl _) _).alloc (by simp) _
  | 3, _ =>
    rw [show (((letterOf 3).toNat : Nat) : Int) = 100 from rfl]
    show Calls _ _ _ _ fun e w' => e = .returned (.tuple #[.agg #[.int .i64 q0, .int .i64 q1, .int .i64 q2, .int .i64 (parseV x.data.toList 4294967295), .int .i64 q4, .int .i64 q5, .string ⟨q6.toArray⟩, .slice none 0 0], .bool (parseB x.data.toList 4294967295)]) ∧ Below w.heap.size w w'
    obtain ⟨pv, hpv⟩ : ∃ pv, parseV x.data.toList 4294967295 = pv := ⟨_, rfl⟩
    obtain ⟨pb, hpb⟩ : ∃ pb, parseB x.data.toList 4294967295 = pb := ⟨_, rfl⟩
    rw [hpv, hpb] at HP ⊢
    clear hpv hpb hx
    go_enter Tryd.func30, Tryd.ntmps30
    go_wp2_with fail
    refine (HP.out _).mono ?_
    rintro e w1 ⟨rfl, hw1⟩
    subst hw1
    go_wp2_with fail
    refine bodyPost_ret (results_cmd rfl _ _ (w.heap.size + 1) _ rfl rfl (heap_alloc2_new _ _ _)) rfl ⟨rfl, ?_⟩
    exact ((Below.refl _ w).alloc (Nat.le_refl _) _).alloc (by simp) _
  | 5, _ =>
    rw [show (((letterOf 5).toNat : Nat) : Int) = 110 from rfl]
    show Calls _ _ _ _ fun e w' => e = .returned (.tuple #[.agg #[.int .i64 q0, .int .i64 q1, .int .i64 q2, .int .i64 q3, .int .i64 q4, .int .i64 (parseV x.data.toList 4294967295), .string ⟨q6.toArray⟩, .slice none 0 0], .bool (parseB x.data.toList 4294967295)]) ∧ Below w.heap.size w w'
    obtain ⟨pv, hpv⟩ : ∃ pv, parseV x.data.toList 4294967295 = pv := ⟨_, rfl⟩
    obtain ⟨pb, hpb⟩ : ∃ pb, parseB x.data.toList 4294967295 = pb := ⟨_, rfl⟩
    rw [hpv, hpb] at HP ⊢
    clear hpv hpb hx
    go_enter Tryd.func30, Tryd.ntmps30
    go_wp2_with fail
    refine (HP.out _).mono ?_
    rintro e w1 ⟨rfl, hw1⟩
    subst hw1
    go_wp2_with fail
    refine bodyPost_ret (results_cmd rfl _ _ (w.heap.size + 1) _ rfl rfl (heap_alloc2_new _ _ _)) rfl ⟨rfl, ?_⟩
    exact ((Below.refl _ w).alloc (Nat.le_refl _) _).alloc (by simp) _
  | 4, _ =>
    rw [show (((letterOf 4).toNat : Nat) : Int) = 114 from rfl]
    show Calls _ _ _ _ fun e w' => e = .returned (.tuple #[.agg #[.int .i64 q0, .int .i64 q1, .int .i64 q2, .int .i64 q3, .int .i64 (if parseV x.data.toList 4294967295 = 0 then 1 else parseV x.data.toList 4294967295), .int .i64 q5, .string ⟨q6.toArray⟩, .slice none 0 0], .bool (parseB x.data.toList 4294967295)]) ∧ Below w.heap.size w w'
    obtain ⟨pv, hpv⟩ : ∃ pv, parseV x.data.toList 4294967295 = pv := ⟨_, rfl⟩
    obtain ⟨pb, hpb⟩ : ∃ pb, parseB x.data.toList 4294967295 = pb := ⟨_, rfl⟩
    rw [hpv, hpb] at HP ⊢
    clear hpv hpb hx
    by_cases hz : pv = 0
    · rw [if_pos hz]
      subst hz
      go_enter Tryd.func30, Tryd.ntmps30
      go_wp2_with fail
      refine (HP.out _).mono ?_
      rintro e w1 ⟨rfl, hw1⟩
      subst hw1
      go_wp2_with fail
      refine bodyPost_ret (results_cmd rfl _ _ (w.heap.size + 1) _ rfl rfl (heap_alloc2_new _ _ _)) rfl ⟨rfl, ?_⟩
      exact ((Below.refl _ w).alloc (Nat.le_refl _) _).alloc (by simp) _
    · rw [if_neg hz]
      have hzb : (pv == 0) = false := by rw [beq_eq_false_iff_ne]; exact hz
      clear hz
      go_enter Tryd.func30, Tryd.ntmps30
      go_wp2_with fail
      refine (HP.out _).mono ?_
      rintro e w1 ⟨rfl, hw1⟩
      subst hw1
      go_wp2_with fail
      refine bodyPost_ret (results_cmd rfl _ _ (w.heap.size + 1) _ rfl rfl (heap_alloc2_new _ _ _)) rfl ⟨rfl, ?_⟩
      exact ((Below.refl _ w).alloc (Nat.le_refl _) _).alloc (by simp) _
  | 1, _ =>
    rw [show (((letterOf 1).toNat : Nat) : Int) = 105 from rfl]
    show Calls _ _ _ _ fun e w' => e = .returned (.tuple #[.agg #[.int .i64 q0, .int .i64 (parseV x.data.toList 4611686018427387903), .int .i64 q2, .int .i64 q3, .int .i64 q4, .int .i64 q5, .string ⟨q6.toArray⟩, .slice none 0 0], .bool (parseB x.data.toList 4611686018427387903)]) ∧ Below w.heap.size w w'
    obtain ⟨pv, hpv⟩ : ∃ pv, parseV x.data.toList 4294967295 = pv := ⟨_, rfl⟩
    obtain ⟨pb, hpb⟩ : ∃ pb, parseB x.data.toList 4294967295 = pb := ⟨_, rfl⟩
    obtain ⟨rv, hrv⟩ : ∃ pv, parseV x.data.toList 4611686018427387903 = pv := ⟨_, rfl⟩
    obtain ⟨rb, hrb⟩ : ∃ pb, parseB x.data.toList 4611686018427387903 = pb := ⟨_, rfl⟩
    rw [hpv, hpb] at HP
    rw [hrv, hrb] at HP2 ⊢
    clear hpv hpb hrv hrb hx
    go_enter Tryd.func30, Tryd.ntmps30
    go_wp2_with fail
    refine (HP.out _).mono ?_
    rintro e w1 ⟨rfl, hw1⟩
    subst hw1
    go_wp2_with fail
    refine (HP2.out _).mono ?_
    rintro e w2 ⟨rfl, hw2⟩
    subst hw2
    go_wp2_with fail
    refine bodyPost_ret (results_cmd rfl _ _ (w.heap.size + 1) _ rfl rfl (heap_alloc2_new _ _ _)) rfl ⟨rfl, ?_⟩
    exact ((Below.refl _ w).alloc (Nat.le_refl _) _).alloc (by simp) _
  | 6, _ =>
    rw [show (((letterOf 6).toNat : Nat) : Int) = 116 from rfl]
    show Calls _ _ _ _ fun e w' => e = .returned (.tuple #[.agg #[.int .i64 q0, .int .i64 q1, .int .i64 q2, .int .i64 q3, .int .i64 q4, .int .i64 q5, .string x, .slice none 0 0], .bool (validB x.data.toList)]) ∧ Below w.heap.size w w'
    obtain ⟨pv, hpv⟩ : ∃ pv, parseV x.data.toList 4294967295 = pv := ⟨_, rfl⟩
    obtain ⟨pb, hpb⟩ : ∃ pb, parseB x.data.toList 4294967295 = pb := ⟨_, rfl⟩
    obtain ⟨rb, hrb⟩ : ∃ pb, validB x.data.toList = pb := ⟨_, rfl⟩
    rw [hpv, hpb] at HP
    rw [hrb] at HV ⊢
    clear hpv hpb hrb hx
    go_enter Tryd.func30, Tryd.ntmps30
    go_wp2_with fail
    refine (HP.out _).mono ?_
    rintro e w1 ⟨rfl, hw1⟩
    subst hw1
    go_wp2_with fail
    refine (HV.out _).mono ?_
    rintro e w2 ⟨rfl, hw2⟩
    subst hw2
    go_wp2_with fail
    refine bodyPost_ret (results_cmd rfl _ _ (w.heap.size + 1) _ rfl rfl (heap_alloc2_new _ _ _)) rfl ⟨rfl, ?_⟩
    exact ((Below.refl _ w).alloc (Nat.le_refl _) _).alloc (by simp) _
  | 0, h => omega
  | k + 7, h => omega
end Go.Proofs.YtfecbepleeoibaaDoor
