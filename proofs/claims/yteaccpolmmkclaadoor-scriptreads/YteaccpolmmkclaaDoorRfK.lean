/-
  RefData, RefKeep.
-/
import Derived.Test.YteaccpolmmkclaaDoorRfA
import Derived.Test.YteaccpolmmkclaaDoorRemA
import Derived.Test.YteaccpolmmkclaaDoorHandS
import Derived.Test.YteaccpolmmkclaaDoorIAp
namespace Go.Proofs.YteaccpolmmkclaaDoor
open Go.RowKit Go.Lib

def dR (l : Tx) : Option (List UInt8) := dataR l.length l
theorem dR_nil : dR [] = some [] := rfl
theorem dR_some {l : Tx} {c : UInt8} {n : Nat} (h : byteP l = some (c, n)) : dR l = (dR (l.drop n)).map (c :: ·) := by
  have hp := byteP_pos h
  unfold dR
  obtain ⟨f, hf⟩ : ∃ f, l.length = f + 1 := ⟨l.length - 1, by omega⟩
  rw [hf, dataR, if_neg (by intro e; rw [e] at hf; simp at hf), h]
  simp only []
  rw [dataR_more f (l.drop n).length (l.drop n) (by simp; omega) (Nat.le_refl _)]
theorem dR_none {l : Tx} (hl : l ≠ []) (h : byteP l = none) : dR l = none := by
  unfold dR
  obtain ⟨f, hf⟩ : ∃ f, l.length = f + 1 := ⟨l.length - 1, by have : l.length ≠ 0 := fun e => hl (List.eq_nil_of_length_eq_zero e); omega⟩
  rw [hf, dataR, if_neg hl, h]
/-- Where data is. -/
def DtAt (s : ByteArray) (i : Nat) (acc : List UInt8) : Prop := dataP s.data.toList = (dR (s.data.toList.drop i)).map (acc ++ ·)
theorem dt_start {s : ByteArray} {r : Tx} (h : s.data.toList = 61 :: r) : DtAt s 1 [] := by
  unfold DtAt
  rw [h]
  show dataR r.length r = _
  cases hd : dataR r.length r <;> simp [dR, hd]
theorem dt_some {s : ByteArray} {i : Nat} {acc : List UInt8} {c : UInt8} {n : Nat} (h : DtAt s i acc) (hb : byteP (s.data.toList.drop i) = some (c, n)) : DtAt s (i + n) (acc ++ [c]) := by
  unfold DtAt at h ⊢
  rw [h, dR_some hb, List.drop_drop, Option.map_map]
  congr 1
  funext x
  simp
theorem dt_none {s : ByteArray} {i : Nat} {acc : List UInt8} (h : DtAt s i acc) (hi : i < s.size) (hb : byteP (s.data.toList.drop i) = none) : dataP s.data.toList = none := by
  unfold DtAt at h
  rw [h, dR_none (by rw [drop_cons s i hi]; simp) hb]
  rfl
theorem dt_end {s : ByteArray} {i : Nat} {acc : List UInt8} (h : DtAt s i acc) (hi : s.size ≤ i) : dataP s.data.toList = some acc := by
  unfold DtAt at h
  rw [h, List.drop_of_length_le (by simp; exact hi), dR_nil]
  simp
theorem byteP_plain {c : UInt8} {r : Tx} (h : c ≠ 92) : byteP (c :: r) = some (c, 1) := by simp [byteP, h]
theorem byteP_bad {d : UInt8} {r : Tx} (h0 : d ≠ 120) (h1 : d ≠ 115) (h2 : d ≠ 114) (h3 : d ≠ 110) (h4 : d ≠ 92) : byteP (92 :: d :: r) = none := by simp [byteP, letterP, h0, h1, h2, h3, h4]
theorem byteP_short {r : Tx} (h : r.length < 2) : byteP (92 :: 120 :: r) = none := by
  match r, h with
  | [], _ => rfl
  | [_], _ => rfl
theorem hex_small {c a : UInt8} (h : hexP c = some a) : a.toNat < 16 := by
  unfold hexP at h
  split at h
  · cases h
    rw [UInt8.toNat_ofNat']
    omega
  · split at h
    · cases h
      rw [UInt8.toNat_ofNat']
      omega
    · cases h
def DataRP (s : Tx) (w : World) (e : Ending) (w' : World) : Prop := Below w.heap.size w w' ∧ ((∃ b a c, dataP s = some b ∧ e = .returned (.tuple #[.slice a b.length c, .bool true]) ∧ Own w' w.heap.size (.slice a b.length c) b) ∨ (dataP s = none ∧ e = .returned (.tuple #[.slice none 0 0, .bool false])))
theorem ne_byte {x y : UInt8} (h : x ≠ y) (n : Int) (hn : (y.toNat : Int) = n) : ((x.toNat : Int) == n) = false := by
  rw [beq_eq_false_iff_ne]
  intro e
  exact h (UInt8.toNat_inj.1 (by omega))
theorem eq_byte {x y : UInt8} (h : x = y) (n : Int) (hn : (y.toNat : Int) = n) : ((x.toNat : Int) == n) = true := by
  rw [h, beq_iff_eq]
  exact hn
theorem bytes_two (s : ByteArray) (i : Nat) (h : i + 1 < s.size) : s.data.toList.drop i = s[i] :: s[i + 1] :: s.data.toList.drop (i + 2) := by
  rw [drop_cons s i (by omega), drop_cons s (i + 1) h]
theorem bytes_four (s : ByteArray) (i : Nat) (h : i + 3 < s.size) : s.data.toList.drop i = s[i] :: s[i + 1] :: s[i + 2] :: s[i + 3] :: s.data.toList.drop (i + 4) := by
  rw [bytes_two s i (by omega), drop_cons s (i + 2) (by omega), drop_cons s (i + 3) h]
theorem own_lit0 (w : World) (B : Nat) (hB : B ≤ w.heap.size) : Own (w.alloc (.cells #[] 5)) B (.slice (some ⟨w.heap.size, 0, none⟩) 0 0) [] := own_made w B [] #[] rfl hB (by simp)
theorem run_append8 (w : World) (B : Nat) (v : Value) (l : List UInt8) (hown : Own w B v l) (ad : Option Addr) (c : Nat) (m : List UInt8) (hm : IsBytes w ad c m) (hb : l.length + m.length ≤ 140737488355328) (hbase : B ≤ w.heap.size) :
    ∃ v' w', (Builtin.append_ #[37, 37] 37 #[v, .slice ad m.length c]).run Tryd.prog w = .ok v' w' ∧ Own w' B v' (l ++ m) ∧ w.grownBy w' v.ownBlock := by
  obtain ⟨i, hi, hz0, hz1, hz2⟩ := info_parts info_u8
  obtain ⟨v', w', hr, h2, h3, h4, h5, h6⟩ := run_append_keeps (P := Tryd.prog) w B 37 37 5 i (.int .u8 0) Tryd.underlying37 hi hz0 hz1 rfl v l.length (u8s l) hown ad m.length c (u8s m) (u8s_length m) hm.src (u8s_one m) (by unfold maxLen; omega) (by rw [hz2]; omega) hbase
  refine ⟨v', w', hr, ?_, h3⟩
  unfold Own
  rw [List.length_append, show u8s (l ++ m) = u8s l ++ u8s m by simp [u8s]]
  exact h2
theorem run_exec_append8 {w w' : World} {o : Oper} {a : Act} {v y v' : Value} (s x : Operand) (ho : o.op = .call { callee := .builtin .append, args := #[s, x], argTypes := #[37, 37] }) (hs : a.eval s = v) (hx : a.eval x = y)
    (hr : (Builtin.append_ #[37, 37] o.type #[v, y]).run Tryd.prog w = .ok v' w') : (execOp a.eval o).run Tryd.prog w = .ok (.value v') w' := by
  unfold execOp
  simp only [ho, resolve, invoke, builtin, Sem.run_bind, Sem.run_pure, Result.andThen_ok, List.map_toArray, List.map_cons, List.map_nil, hs, hx, hr]
set_option maxHeartbeats 8000000 in
set_option maxRecDepth 1000000 in
theorem refData_any (s : ByteArray) (w : World) (hs : s.size ≤ 1048576) : Calls Tryd.prog 37 #[.string s] w (DataRP s.data.toList w) := by
  have H0 := hide (own_lit0 w w.heap.size (Nat.le_refl _))
  have B0 : Hid (Below w.heap.size w (w.alloc (.cells #[] 5))) := (Below.refl _ w).alloc (Nat.le_refl _) _
  by_cases h0 : s.size = 0
  · have HN : Hid (dataP s.data.toList = none) := by
      show _ = _
      rw [List.eq_nil_of_length_eq_zero (by simpa using h0 : s.data.toList.length = 0)]
      rfl
    have h0' : ((s.size : Int) == 0) = true := by rw [beq_iff_eq]; omega
    clear h0
    go_enter Tryd.func37, Tryd.ntmps37
    go_wp2_with fail
    go_ret2
    exact ⟨B0.out, .inr ⟨HN.out, rfl⟩⟩
  have h0' : ((s.size : Int) == 0) = false := by rw [beq_eq_false_iff_ne]; omega
  have hp : 0 < s.size := by omega
  by_cases h61 : s[0] = 61
  rotate_left
  · have HN : Hid (dataP s.data.toList = none) := by
      show _ = _
      have := drop_cons s 0 hp
      rw [List.drop_zero] at this
      rw [this]
      unfold dataP
      split
      · rename_i e
        exact absurd (List.cons.inj e).1 h61
      · rfl
    have hb : ((s[0].toNat : Int) != 61) = true := by
      have := ne_byte h61 61 rfl
      simpa using this
    clear h61 h0
    go_enter Tryd.func37, Tryd.ntmps37
    go_wp2_with fail
    go_ret2
    exact ⟨B0.out, .inr ⟨HN.out, rfl⟩⟩
  have HD0 : Hid (DtAt s 1 []) := by
    have := drop_cons s 0 hp
    rw [List.drop_zero, h61] at this
    exact dt_start this
  have hb : ((s[0].toNat : Int) != 61) = false := by rw [h61]; rfl
  clear h61 h0
  go_enter Tryd.func37, Tryd.ntmps37
  go_wp2_with fail
  go_loopg [4, 5] s.size (fun gk v iv wr => ∃ (i : Nat) (acc : List UInt8), iv = .int .i64 (i : Int) ∧ s.size - i ≤ gk ∧ i ≤ s.size ∧ 1 ≤ i ∧ acc.length ≤ i ∧ Hid (Below w.heap.size w wr) ∧ Hid (Own wr w.heap.size v acc) ∧ Hid (DtAt s i acc))
  case atStart => exact ⟨1, [], rfl, by omega, by omega, by omega, by simp, B0, H0, HD0⟩
  case round =>
    obtain ⟨i, acc, rfl, hgk, hi, hi1, hal, HB, HO, HD⟩ := hrel
    have hz := HB.out.size
    by_cases hlt : i < s.size
    rotate_left
    · have tlt : ¬ (i : Int) < (s.size : Int) := by omega
      have HE := hide (dt_end HD.out (by omega))
      obtain ⟨va, vc, e4, _⟩ := HO.out.shape
      subst e4
      go_wp2_with fail
      go_ret2
      exact ⟨HB.out, .inl ⟨acc, va, vc, HE.out, rfl, HO.out⟩⟩
    have tlt : (i : Int) < (s.size : Int) := by omega
    by_cases h92 : s[i] = 92
    rotate_left
    · have hn : ((s[i].toNat : Int) != 92) = true := by have := ne_byte h92 92 rfl; simpa using this
      obtain ⟨x, hx⟩ : ∃ x, s[i] = x := ⟨_, rfl⟩
      have HX := hide hx
      have HD2 : Hid (DtAt s (i + 1) (acc ++ [x])) := dt_some HD.out (by rw [drop_cons s i hlt, hx]; exact byteP_plain (by rw [← hx]; exact h92))
      clear h92
      have al : Below wr.heap.size wr (wr.alloc (.cells #[.int .u8 (x.toNat : Int)] 5)) := (Below.refl _ wr).alloc (Nat.le_refl _) _
      have O2 := hide (HO.out.below al)
      have B2 := hide (HB.out.trans (al.mono hz))
      have hzB : w.heap.size ≤ (wr.alloc (.cells #[.int .u8 (x.toNat : Int)] 5)).heap.size := by rw [World.size_alloc]; omega
      have hxi : (s[i].toNat : Int) = (x.toNat : Int) := by rw [HX.out]
      clear al hx
      go_wp2_with (at_builtin
                   refine wpList_append8 rfl (.tmp 25) (.tmp 29) rfl w.heap.size u4 acc rfl O2.out (some ⟨wr.heap.size, 0, none⟩) 1 [x] rfl (Own8.one wr x) (by simp only [List.length_cons, List.length_nil]; omega) hzB ?_
                   intro v5 w5 ho5 hg5 _ _ _
                   have O5 := hide ho5
                   have B5 : Hid (Below w.heap.size w w5) := B2.out.grown hg5 hzB (fun g e => (O2.out.lt g e).1)
                   clear ho5 hg5)
      go_roundg (s.size - (i + 1))
      case measure => omega
      case rel => exact ⟨i + 1, _, by go_num, Nat.le_refl _, by omega, by omega, by simp; omega, B5, O5, HD2⟩
    have hn : ((s[i].toNat : Int) != 92) = false := by rw [h92]; rfl
    by_cases hl1 : i + 1 < s.size
    rotate_left
    · have t1 : (s.size : Int) ≤ (i : Int) + 1 := by omega
      have HN : Hid (dataP s.data.toList = none) := dt_none HD.out hlt (by
        rw [drop_cons s i hlt, h92, List.drop_of_length_le (by simp; omega)]
        rfl)
      clear h92
      go_wp2_with fail
      go_ret2
      exact ⟨HB.out, .inr ⟨HN.out, rfl⟩⟩
    have t1 : ¬ (s.size : Int) ≤ (i : Int) + 1 := by omega
    have HT := hide (bytes_two s i hl1)
    rw [h92] at HT
    obtain ⟨d, hd⟩ : ∃ d, s[i + 1] = d := ⟨_, rfl⟩
    rw [hd] at HT
    have e5 : ((s[i + 1].toNat : Int)) = (d.toNat : Int) := by rw [hd]
    clear h92 hd
    by_cases c1 : d = 115
    · subst c1
      have HD2 : Hid (DtAt s (i + 2) (acc ++ [32])) := dt_some HD.out (by rw [HT.out]; rfl)
      have q1 : ((115 : UInt8).toNat : Int) = 115 := rfl
      rw [q1] at e5
      have al : Below wr.heap.size wr (wr.alloc (.cells #[.int .u8 32] 5)) := (Below.refl _ wr).alloc (Nat.le_refl _) _
      have O2 := hide (HO.out.below al)
      have B2 := hide (HB.out.trans (al.mono hz))
      have hzB : w.heap.size ≤ (wr.alloc (.cells #[.int .u8 32] 5)).heap.size := by rw [World.size_alloc]; omega
      clear al
      go_wp2_with (at_builtin
                   refine wpList_append8 rfl (.tmp 42) (.tmp 43) rfl w.heap.size u4 acc rfl O2.out (some ⟨wr.heap.size, 0, none⟩) 1 [32] rfl (one8 wr #[.int .u8 32] [32] rfl (by simp)) (by simp only [List.length_cons, List.length_nil]; omega) hzB ?_
                   intro v5 w5 ho5 hg5 _ _ _
                   have O5 := hide ho5
                   have B5 : Hid (Below w.heap.size w w5) := B2.out.grown hg5 hzB (fun g e => (O2.out.lt g e).1)
                   clear ho5 hg5)
      go_roundg (s.size - (i + 2))
      case measure => omega
      case rel => exact ⟨i + 2, _, by go_num, Nat.le_refl _, by omega, by omega, by simp; omega, B5, O5, HD2⟩
    have n1 := ne_byte c1 115 rfl
    by_cases c2 : d = 114
    · subst c2
      have HD2 : Hid (DtAt s (i + 2) (acc ++ [13])) := dt_some HD.out (by rw [HT.out]; rfl)
      have q1 : ((114 : UInt8).toNat : Int) = 114 := rfl
      rw [q1] at e5
      clear n1
      have al : Below wr.heap.size wr (wr.alloc (.cells #[.int .u8 13] 5)) := (Below.refl _ wr).alloc (Nat.le_refl _) _
      have O2 := hide (HO.out.below al)
      have B2 := hide (HB.out.trans (al.mono hz))
      have hzB : w.heap.size ≤ (wr.alloc (.cells #[.int .u8 13] 5)).heap.size := by rw [World.size_alloc]; omega
      clear al
      go_wp2_with (at_builtin
                   refine wpList_append8 rfl (.tmp 47) (.tmp 48) rfl w.heap.size u4 acc rfl O2.out (some ⟨wr.heap.size, 0, none⟩) 1 [13] rfl (one8 wr #[.int .u8 13] [13] rfl (by simp)) (by simp only [List.length_cons, List.length_nil]; omega) hzB ?_
                   intro v5 w5 ho5 hg5 _ _ _
                   have O5 := hide ho5
                   have B5 : Hid (Below w.heap.size w w5) := B2.out.grown hg5 hzB (fun g e => (O2.out.lt g e).1)
                   clear ho5 hg5)
      go_roundg (s.size - (i + 2))
      case measure => omega
      case rel => exact ⟨i + 2, _, by go_num, Nat.le_refl _, by omega, by omega, by simp; omega, B5, O5, HD2⟩
    have n2 := ne_byte c2 114 rfl
    by_cases c3 : d = 110
    · subst c3
      have HD2 : Hid (DtAt s (i + 2) (acc ++ [10])) := dt_some HD.out (by rw [HT.out]; rfl)
      have q1 : ((110 : UInt8).toNat : Int) = 110 := rfl
      rw [q1] at e5
      clear n1 n2
      have al : Below wr.heap.size wr (wr.alloc (.cells #[.int .u8 10] 5)) := (Below.refl _ wr).alloc (Nat.le_refl _) _
      have O2 := hide (HO.out.below al)
      have B2 := hide (HB.out.trans (al.mono hz))
      have hzB : w.heap.size ≤ (wr.alloc (.cells #[.int .u8 10] 5)).heap.size := by rw [World.size_alloc]; omega
      clear al
      go_wp2_with (at_builtin
                   refine wpList_append8 rfl (.tmp 52) (.tmp 53) rfl w.heap.size u4 acc rfl O2.out (some ⟨wr.heap.size, 0, none⟩) 1 [10] rfl (one8 wr #[.int .u8 10] [10] rfl (by simp)) (by simp only [List.length_cons, List.length_nil]; omega) hzB ?_
                   intro v5 w5 ho5 hg5 _ _ _
                   have O5 := hide ho5
                   have B5 : Hid (Below w.heap.size w w5) := B2.out.grown hg5 hzB (fun g e => (O2.out.lt g e).1)
                   clear ho5 hg5)
      go_roundg (s.size - (i + 2))
      case measure => omega
      case rel => exact ⟨i + 2, _, by go_num, Nat.le_refl _, by omega, by omega, by simp; omega, B5, O5, HD2⟩
    have n3 := ne_byte c3 110 rfl
    by_cases c4 : d = 92
    · subst c4
      have HD2 : Hid (DtAt s (i + 2) (acc ++ [92])) := dt_some HD.out (by rw [HT.out]; rfl)
      have q1 : ((92 : UInt8).toNat : Int) = 92 := rfl
      rw [q1] at e5
      clear n1 n2 n3
      have al : Below wr.heap.size wr (wr.alloc (.cells #[.int .u8 92] 5)) := (Below.refl _ wr).alloc (Nat.le_refl _) _
      have O2 := hide (HO.out.below al)
      have B2 := hide (HB.out.trans (al.mono hz))
      have hzB : w.heap.size ≤ (wr.alloc (.cells #[.int .u8 92] 5)).heap.size := by rw [World.size_alloc]; omega
      clear al
      go_wp2_with (at_builtin
                   refine wpList_append8 rfl (.tmp 57) (.tmp 58) rfl w.heap.size u4 acc rfl O2.out (some ⟨wr.heap.size, 0, none⟩) 1 [92] rfl (one8 wr #[.int .u8 92] [92] rfl (by simp)) (by simp only [List.length_cons, List.length_nil]; omega) hzB ?_
                   intro v5 w5 ho5 hg5 _ _ _
                   have O5 := hide ho5
                   have B5 : Hid (Below w.heap.size w w5) := B2.out.grown hg5 hzB (fun g e => (O2.out.lt g e).1)
                   clear ho5 hg5)
      go_roundg (s.size - (i + 2))
      case measure => omega
      case rel => exact ⟨i + 2, _, by go_num, Nat.le_refl _, by omega, by omega, by simp; omega, B5, O5, HD2⟩
    have n4 := ne_byte c4 92 rfl
    by_cases c5 : d = 120
    rotate_left
    · have n5 := ne_byte c5 120 rfl
      have HN : Hid (dataP s.data.toList = none) := dt_none HD.out hlt (by
        rw [HT.out]
        exact byteP_bad c5 c1 c2 c3 c4)
      clear c1 c2 c3 c4 c5
      go_wp2_with fail
      go_ret2
      exact ⟨HB.out, .inr ⟨HN.out, rfl⟩⟩
    subst c5
    have q1 : ((120 : UInt8).toNat : Int) = 120 := rfl
    rw [q1] at e5
    clear n1 n2 n3 n4 c1 c2 c3 c4
    by_cases hl3 : i + 3 < s.size
    rotate_left
    · have t2 : (s.size : Int) ≤ (i : Int) + 1 + 2 := by omega
      have HN : Hid (dataP s.data.toList = none) := dt_none HD.out hlt (by
        rw [HT.out]
        have hlen : (s.data.toList.drop (i + 2)).length < 2 := by
          rw [List.length_drop, Array.length_toList]
          have hz : s.data.size = s.size := rfl
          omega
        exact byteP_short hlen)
      go_wp2_with fail
      go_ret2
      exact ⟨HB.out, .inr ⟨HN.out, rfl⟩⟩
    have t2 : ¬ (s.size : Int) ≤ (i : Int) + 1 + 2 := by omega
    have HF := hide (bytes_four s i hl3)
    obtain ⟨x, hx⟩ : ∃ x, s[i + 2] = x := ⟨_, rfl⟩
    obtain ⟨y, hy⟩ : ∃ y, s[i + 3] = y := ⟨_, rfl⟩
    have HXY : Hid (s[i + 2] = x ∧ s[i + 3] = y) := ⟨hx, hy⟩
    have HBP : Hid (byteP (s.data.toList.drop i) = (hexP x).bind fun a => (hexP y).map fun b => (UInt8.ofNat (16 * a.toNat + b.toNat), 4)) := by
      have h1 := HT.out
      rw [drop_cons s (i + 2) (by omega), drop_cons s (i + 3) hl3, hx, hy] at h1
      rw [h1]
      rfl
    have cd1 : ((s[i + 2].toNat : Int)) = (x.toNat : Int) := by rw [hx]
    have cd2 : ((s[i + 3].toNat : Int)) = (y.toNat : Int) := by rw [hy]
    have i2 : (i : Int) + 1 + 1 < (s.size : Int) := by omega
    have i3 : (i : Int) + 1 + 2 < (s.size : Int) := by omega
    have CX : Hid (∀ X : World, Calls Tryd.prog 54 #[.int .u8 (x.toNat : Int)] X fun e w' => e = .returned (.int .i64 (digI x)) ∧ w' = X) := fun X => refDigit_any x X
    have CY : Hid (∀ X : World, Calls Tryd.prog 54 #[.int .u8 (y.toNat : Int)] X fun e w' => e = .returned (.int .i64 (digI y)) ∧ w' = X) := fun X => refDigit_any y X
    clear hx hy
    by_cases hhx : hexP x = none
    · have dx : digI x = -1 := by unfold digI; rw [hhx]
      have HN : Hid (dataP s.data.toList = none) := dt_none HD.out hlt (by rw [HBP.out, hhx]; rfl)
      rw [dx] at CX
      clear hhx dx
      go_wp2_with fail
      refine (CX.out _).mono ?_
      rintro e w5 ⟨rfl, hw5⟩
      rw [hw5]
      clear hw5 w5
      go_wp2_with fail
      go_ret2
      exact ⟨HB.out, .inr ⟨HN.out, rfl⟩⟩
    obtain ⟨a, ha⟩ := Option.ne_none_iff_exists'.1 hhx
    have dx : digI x = (a.toNat : Int) := by unfold digI; rw [ha]
    have na : ¬ ((a.toNat : Int) < 0) := by omega
    rw [dx] at CX
    clear hhx dx
    by_cases hhy : hexP y = none
    · have dy : digI y = -1 := by unfold digI; rw [hhy]
      have HN : Hid (dataP s.data.toList = none) := dt_none HD.out hlt (by rw [HBP.out, ha, hhy]; rfl)
      rw [dy] at CY
      clear hhy dy ha
      go_wp2_with fail
      refine (CX.out _).mono ?_
      rintro e w5 ⟨rfl, hw5⟩
      rw [hw5]
      clear hw5 w5
      go_wp2_with fail
      refine (CY.out _).mono ?_
      rintro e w5 ⟨rfl, hw5⟩
      rw [hw5]
      clear hw5 w5
      go_wp2_with fail
      go_ret2
      exact ⟨HB.out, .inr ⟨HN.out, rfl⟩⟩
    obtain ⟨b, hb'⟩ := Option.ne_none_iff_exists'.1 hhy
    have dy : digI y = (b.toNat : Int) := by unfold digI; rw [hb']
    have nb : ¬ ((b.toNat : Int) < 0) := by omega
    rw [dy] at CY
    have la := hex_small ha
    have lb := hex_small hb'
    obtain ⟨z, hz1⟩ : ∃ z : UInt8, z = UInt8.ofNat (16 * a.toNat + b.toNat) := ⟨_, rfl⟩
    have hz2 : (z.toNat : Int) = 16 * (a.toNat : Int) + (b.toNat : Int) := by
      rw [hz1, UInt8.toNat_ofNat']
      omega
    have HD2 : Hid (DtAt s (i + 4) (acc ++ [z])) := dt_some HD.out (by rw [HBP.out, ha, hb', hz1]; rfl)
    clear hhy dy ha hb' hz1
    go_wp2_with fail
    refine (CX.out _).mono ?_
    rintro e w5 ⟨rfl, hw5⟩
    rw [hw5]
    clear hw5 w5
    go_wp2_with fail
    refine (CY.out _).mono ?_
    rintro e w5 ⟨rfl, hw5⟩
    rw [hw5]
    clear hw5 w5
    go_upto_region 25 with fail
    have wa1 : IntKind.wrap .i64 ((i : Int) + 1 + 1) = ((i + 2 : Nat) : Int) := by rw [IntKind.wrap_i64]; omega
    have wa2 : IntKind.wrap .i64 ((i : Int) + 1 + 2) = ((i + 3 : Nat) : Int) := by rw [IntKind.wrap_i64]; omega
    have wa3 : IntKind.wrap .i64 (16 * (a.toNat : Int)) = 16 * (a.toNat : Int) := by rw [IntKind.wrap_i64]; omega
    have wa4 : IntKind.wrap .i64 (16 * (a.toNat : Int) + (b.toNat : Int)) = (z.toNat : Int) := by rw [IntKind.wrap_i64]; omega
    have wa5 : IntKind.wrap .u8 (z.toNat : Int) = (z.toNat : Int) := wrap_u8 (by omega) (by omega)
    have hi2 : ((i + 2 : Nat) : Int) < (s.size : Int) := by omega
    have hi3 : ((i + 3 : Nat) : Int) < (s.size : Int) := by omega
    have hj2 : i + 2 < s.size := by omega
    have al : Hid (Below wr.heap.size wr (wr.drew.alloc (.cells #[.int .u8 (z.toNat : Int)] 5))) := (Below.refl _ wr).drew.alloc (Nat.le_refl _) _
    have O2 := hide (HO.out.below al.out)
    have B2 := hide (HB.out.trans (al.out.mono hz))
    have hzB : w.heap.size ≤ (wr.drew.alloc (.cells #[.int .u8 (z.toNat : Int)] 5)).heap.size := B2.out.size
    obtain ⟨v5, w5, hr5, ho5, hg5⟩ := run_append8 _ w.heap.size u4 acc O2.out (some ⟨wr.heap.size, 0, none⟩) 1 [z] (Own8.one wr.drew z) (by simp only [List.length_cons, List.length_nil]; omega) hzB
    have B5 : Hid (Below w.heap.size w w5) := B2.out.grown hg5 hzB (fun g e => (O2.out.lt g e).1)
    have O5 := hide ho5
    have sq : Below w.heap.size w wr.drew := HB.out.drew
    refine wp_region_held_drew (S := fun X => Below w.heap.size w X) (by kernel_rfl) sq (fun _ => ?_)
    refine H_take (i := 0) (v := u4) (some 83) rfl rfl (by kernel_rfl) (by kernel_rfl) (by kernel_rfl) (fun _ _ _ h => h) rfl (fun X hX => ?_) sq ?_
    · simp [go_sem]
    simp only [Act.put, List.setIfInBounds_toArray, List.set_cons_zero, List.set_cons_succ]
    refine H_take (i := 1) (v := .string s) (some 84) rfl rfl (by kernel_rfl) (by kernel_rfl) (by kernel_rfl) (fun _ _ _ h => h) rfl (fun X hX => ?_) sq ?_
    · simp [go_sem]
    simp only [Act.put, List.setIfInBounds_toArray, List.set_cons_zero, List.set_cons_succ]
    refine H_take (i := 2) (v := .int .i64 ((i : Int) + 1)) (some 85) rfl rfl (by kernel_rfl) (by kernel_rfl) (by kernel_rfl) (fun _ _ _ h => h) rfl (fun X hX => ?_) sq ?_
    · simp [go_sem]
    simp only [Act.put, List.setIfInBounds_toArray, List.set_cons_zero, List.set_cons_succ]
    refine H_take (i := 3) (v := .int .i64 ((i + 2 : Nat) : Int)) (some 86) rfl rfl (by kernel_rfl) (by kernel_rfl) (by kernel_rfl) (fun _ _ _ h => h) rfl (fun X hX => ?_) sq ?_
    · simp [go_sem, wa1]
    simp only [Act.put, List.setIfInBounds_toArray, List.set_cons_zero, List.set_cons_succ]
    refine H_take (i := 4) (v := .int .u8 (x.toNat : Int)) (some 87) rfl rfl (by kernel_rfl) (by kernel_rfl) (by kernel_rfl) (fun _ _ _ h => h) rfl (fun X hX => ?_) sq ?_
    · simp [go_sem]; rw [dif_pos (show 0 ≤ (i : Int) + 2 ∧ (i : Int) + 2 < (s.size : Int) by omega)]; have e : ((i : Int) + 2).toNat = i + 2 := by omega
      simp only [e, cd1, Result.andThen_ok]
    simp only [Act.put, List.setIfInBounds_toArray, List.set_cons_zero, List.set_cons_succ]
    refine H_take (i := 7) (v := .string s) (some 90) rfl rfl (by kernel_rfl) (by kernel_rfl) (by kernel_rfl) (fun _ _ _ h => h) rfl (fun X hX => ?_) sq ?_
    · simp [go_sem]
    simp only [Act.put, List.setIfInBounds_toArray, List.set_cons_zero, List.set_cons_succ]
    refine H_take (i := 8) (v := .int .i64 ((i : Int) + 1)) (some 91) rfl rfl (by kernel_rfl) (by kernel_rfl) (by kernel_rfl) (fun _ _ _ h => h) rfl (fun X hX => ?_) sq ?_
    · simp [go_sem]
    simp only [Act.put, List.setIfInBounds_toArray, List.set_cons_zero, List.set_cons_succ]
    refine H_take (i := 9) (v := .int .i64 ((i + 3 : Nat) : Int)) (some 92) rfl rfl (by kernel_rfl) (by kernel_rfl) (by kernel_rfl) (fun _ _ _ h => h) rfl (fun X hX => ?_) sq ?_
    · simp [go_sem, wa2]
    simp only [Act.put, List.setIfInBounds_toArray, List.set_cons_zero, List.set_cons_succ]
    refine H_take (i := 10) (v := .int .u8 (y.toNat : Int)) (some 93) rfl rfl (by kernel_rfl) (by kernel_rfl) (by kernel_rfl) (fun _ _ _ h => h) rfl (fun X hX => ?_) sq ?_
    · simp [go_sem]; rw [dif_pos (show 0 ≤ (i : Int) + 3 ∧ (i : Int) + 3 < (s.size : Int) by omega)]; have e : ((i : Int) + 3).toNat = i + 3 := by omega
      simp only [e, cd2, Result.andThen_ok]
    simp only [Act.put, List.setIfInBounds_toArray, List.set_cons_zero, List.set_cons_succ]
    refine H_call (i := 5) (f := 54) (args := #[.int .u8 (x.toNat : Int)]) (some 88) rfl rfl (by kernel_rfl) rfl (by simp [go_sem]) ((CX.out wr.drew).mono ?_)
    rintro e w6 ⟨rfl, hw6⟩
    rw [hw6]
    clear hw6 w6
    refine ⟨_, rfl, sq, ?_⟩
    simp only [Act.put, List.setIfInBounds_toArray, List.set_cons_zero, List.set_cons_succ]
    refine H_take (i := 6) (v := .int .i64 (16 * (a.toNat : Int))) (some 89) rfl rfl (by kernel_rfl) (by kernel_rfl) (by kernel_rfl) (fun _ _ _ h => h) rfl (fun X hX => ?_) sq ?_
    · simp [go_sem, wa3]
    simp only [Act.put, List.setIfInBounds_toArray, List.set_cons_zero, List.set_cons_succ]
    refine H_call (i := 11) (f := 54) (args := #[.int .u8 (y.toNat : Int)]) (some 94) rfl rfl (by kernel_rfl) rfl (by simp [go_sem]) ((CY.out wr.drew).mono ?_)
    rintro e w6 ⟨rfl, hw6⟩
    rw [hw6]
    clear hw6 w6
    refine ⟨_, rfl, sq, ?_⟩
    simp only [Act.put, List.setIfInBounds_toArray, List.set_cons_zero, List.set_cons_succ]
    refine H_take (i := 12) (v := .int .i64 (z.toNat : Int)) (some 95) rfl rfl (by kernel_rfl) (by kernel_rfl) (by kernel_rfl) (fun _ _ _ h => h) rfl (fun X hX => ?_) sq ?_
    · simp [go_sem, wa4]
    simp only [Act.put, List.setIfInBounds_toArray, List.set_cons_zero, List.set_cons_succ]
    refine H_take (i := 13) (v := .int .u8 (z.toNat : Int)) (some 96) rfl rfl (by kernel_rfl) (by kernel_rfl) (by kernel_rfl) (fun _ _ _ h => h) rfl (fun X hX => ?_) sq ?_
    · simp [go_sem, wa5]
    simp only [Act.put, List.setIfInBounds_toArray, List.set_cons_zero, List.set_cons_succ]
    refine H_value (i := 14) (v := .slice (some ⟨wr.heap.size, 0, none⟩) 1 1) (w' := wr.drew.alloc (.cells #[.int .u8 (z.toNat : Int)] 5)) (some 97) rfl rfl (by kernel_rfl) rfl (by simp [go_sem]) B2.out ?_
    simp only [Act.put, List.setIfInBounds_toArray, List.set_cons_zero, List.set_cons_succ]
    refine H_value (i := 15) (v := v5) (w' := w5) (some 98) rfl rfl (by kernel_rfl) rfl (run_exec_append8 (.tmp 83) (.tmp 97) rfl rfl rfl hr5) B5.out ?_
    simp only [Act.put, List.setIfInBounds_toArray, List.set_cons_zero, List.set_cons_succ]
    refine H_take (i := 16) (v := v5) (some 4) rfl rfl (by kernel_rfl) (by kernel_rfl) (by kernel_rfl) (fun _ _ _ h => h) rfl (fun X hX => ?_) B5.out ?_
    · simp [go_sem]
    simp only [Act.put, List.setIfInBounds_toArray, List.set_cons_zero, List.set_cons_succ]
    refine wpAnyH_done (by kernel_rfl) ?_ _
    clear sq hr5 ho5 hg5
    go_wp2_with fail
    go_roundg (s.size - (i + 4))
    case measure => omega
    case rel => exact ⟨i + 4, _, by go_num, Nat.le_refl _, by omega, by omega, by simp; omega, B5, O5, HD2⟩
end Go.Proofs.YteaccpolmmkclaaDoor

namespace Go.Proofs.YteaccpolmmkclaaDoor
open Go.RowKit Go.Lib

theorem IsStrs.at {w : World} {a : Option Addr} {c : Nat} {ss : List ByteArray} (h : IsStrs w a c ss) {i : Nat} {x : ByteArray} (hx : ss[i]? = some x) : ∃ b o, a = some ⟨b, o, none⟩ ∧ b < w.heap.size ∧ w.cell? ⟨b, o + i, none⟩ = some (.string x) := by
  obtain ⟨_, _, h3⟩ := h
  rcases h3 with rfl | ⟨b, o, e, hb, hc⟩
  · simp at hx
  · exact ⟨b, o, e, hb, hc i x hx⟩
/-- The words from the k-th on. -/
theorem IsStrs.drop {w : World} {b o c : Nat} {ss : List ByteArray} (h : IsStrs w (some ⟨b, o, none⟩) c ss) (k : Nat) (hk : k ≤ ss.length) : IsStrs w (some ⟨b, o + k, none⟩) (c - k) (ss.drop k) := by
  obtain ⟨h1, h2, h3⟩ := h
  refine ⟨by rw [List.length_drop]; omega, by rw [List.length_drop]; omega, ?_⟩
  rcases h3 with rfl | ⟨b', o', e, hb, hc⟩
  · left; simp
  · cases e
    refine .inr ⟨b, o + k, rfl, hb, fun j x hj => ?_⟩
    rw [List.getElem?_drop] at hj
    rw [Nat.add_assoc]
    exact hc _ x hj
theorem IsStrs.nil {w : World} {a : Option Addr} {c : Nat} : IsStrs w a c [] := ⟨by simp, by simp, .inl rfl⟩
def tls (ss : List ByteArray) : List Tx := ss.map (·.data.toList)
/-- Where keep is. -/
def NmAt (l : List Tx) (i : Nat) (acc : List Int) : Prop := acc.length = i ∧ numsP l = (numsP (l.drop i)).map (acc ++ ·)
theorem nm_start (l : List Tx) : NmAt l 0 [] := by
  refine ⟨rfl, ?_⟩
  rw [List.drop_zero]
  cases numsP l <;> simp
theorem nm_some {l : List Tx} {i : Nat} {acc : List Int} {x : Tx} (h : NmAt l i acc) (hx : l[i]? = some x) (hb : parseB x maxWord = true) : NmAt l (i + 1) (acc ++ [parseV x maxWord]) := by
  obtain ⟨h1, h2⟩ := h
  refine ⟨by simp [h1], ?_⟩
  have hd : l.drop i = x :: l.drop (i + 1) := by
    obtain ⟨hl, e⟩ := List.getElem?_eq_some_iff.1 hx
    rw [List.drop_eq_getElem_cons hl, e]
  rw [h2, hd, numsP, if_pos hb, Option.map_map]
  congr 1
  funext y
  simp
theorem nm_none {l : List Tx} {i : Nat} {acc : List Int} {x : Tx} (h : NmAt l i acc) (hx : l[i]? = some x) (hb : parseB x maxWord = false) : numsP l = none := by
  obtain ⟨h1, h2⟩ := h
  have hd : l.drop i = x :: l.drop (i + 1) := by
    obtain ⟨hl, e⟩ := List.getElem?_eq_some_iff.1 hx
    rw [List.drop_eq_getElem_cons hl, e]
  rw [h2, hd, numsP, if_neg (by rw [hb]; simp)]
  rfl
theorem nm_end {l : List Tx} {i : Nat} {acc : List Int} (h : NmAt l i acc) (hi : l.length ≤ i) : numsP l = some acc := by
  rw [h.2, List.drop_of_length_le hi]
  simp [numsP]
def KeepRP (l : List Tx) (w : World) (e : Ending) (w' : World) : Prop := Below w.heap.size w w' ∧ ((∃ ks a c, keepP l = some ks ∧ e = .returned (.tuple #[.slice a ks.length c, .bool true]) ∧ OwnI w' w.heap.size (.slice a ks.length c) ks) ∨ (keepP l = none ∧ e = .returned (.tuple #[.slice none 0 0, .bool false])))
theorem eq_text {x : ByteArray} {l : List UInt8} : (x.toList == l) = decide (x.data.toList = l) := by
  rw [ByteArray.toList_eq]
  by_cases h : x.data.toList = l
  · rw [h]; simp
  · rw [decide_eq_false h, beq_eq_false_iff_ne]; exact h
set_option maxHeartbeats 4000000 in
set_option maxRecDepth 1000000 in
theorem refKeep_any (a : Option Addr) (c : Nat) (ss : List ByteArray) (w : World) (h : IsStrs w a c ss) (hl : ss.length ≤ 1048577) (hz : ∀ x ∈ ss, x.size ≤ 1048576) :
    Calls Tryd.prog 39 #[.slice a ss.length c] w (KeepRP (tls ss) w) := by
  have H0 := hide (OwnI.lit w w.heap.size (Nat.le_refl _))
  have B0 : Hid (Below w.heap.size w (w.alloc (.cells #[] 3))) := (Below.refl _ w).alloc (Nat.le_refl _) _
  match ss, h, hl, hz with
  | [], h, hl, hz =>
    have HK : Hid (keepP (tls []) = some []) := rfl
    clear h hl hz
    go_enter Tryd.func39, Tryd.ntmps39
    go_wp2_with fail
    go_ret2
    exact ⟨B0.out, .inl ⟨[], _, _, HK.out, rfl, H0.out⟩⟩
  | x :: r, h, hl, hz =>
    have HS := hide h
    have HZ := hide hz
    obtain ⟨b, o, rfl, hb, hc0⟩ := h.at (i := 0) (x := x) rfl
    have c0 : (w.alloc (.cells #[] 3)).cell? ⟨b, o, none⟩ = some (.string x) := (B0.out.cell (p := ⟨b, o, none⟩) hb).trans hc0
    have hrl : (r.length : Int) + 1 ≤ 1048577 := by simp at hl; omega
    have n0 : (((r.length : Int) + 1) == 0) = false := by rw [beq_eq_false_iff_ne]; omega
    have p0 : (0 : Int) < (r.length : Int) + 1 := by omega
    clear h hz hc0
    by_cases hk : x.data.toList = keepW
    rotate_left
    · have HK : Hid (keepP (tls (x :: r)) = none) := by
        show _ = _
        unfold keepP
        have h1 : hasP keepW (tls (x :: r)) = false := by
          show (x.data.toList == keepW) = false
          rw [beq_eq_false_iff_ne]; exact hk
        rw [h1]
        simp [tls]
      have hne : (x.toList == [107, 101, 101, 112]) = false := by rw [eq_text]; exact decide_eq_false hk
      clear hk
      go_enter Tryd.func39, Tryd.ntmps39
      go_wp2_with fail
      go_ret2
      exact ⟨B0.out, .inr ⟨HK.out, rfl⟩⟩
    have heq : (x.toList == [107, 101, 101, 112]) = true := by rw [eq_text]; exact decide_eq_true hk
    have HH : Hid (hasP keepW (tls (x :: r)) = true) := by
      show (x.data.toList == keepW) = true
      rw [hk]; rfl
    clear hk
    by_cases hr : r.length = 0
    · have hr0 : r = [] := List.eq_nil_of_length_eq_zero hr
      have HK : Hid (keepP (tls (x :: r)) = none) := by
        show _ = _
        unfold keepP
        rw [HH.out, if_pos rfl, hr0]
        rfl
      have n1 : (((r.length : Int) + 1) == 1) = true := by rw [beq_iff_eq]; omega
      clear hr0 hr
      go_enter Tryd.func39, Tryd.ntmps39
      go_wp2_with fail
      go_ret2
      exact ⟨B0.out, .inr ⟨HK.out, rfl⟩⟩
    have n1 : (((r.length : Int) + 1) == 1) = false := by rw [beq_eq_false_iff_ne]; omega
    have HKE : Hid (keepP (tls (x :: r)) = match numsP (tls r) with | some (n :: q) => some (n :: q) | _ => none) := by
      show _ = _
      unfold keepP
      rw [HH.out, if_pos rfl]
      rfl
    go_enter Tryd.func39, Tryd.ntmps39
    go_wp2_with fail
    go_loopg [4, 5] r.length (fun gk v iv wr => ∃ (i : Nat) (acc : List Int), iv = .int .i64 ((i : Int) + 1) ∧ r.length - i ≤ gk ∧ i ≤ r.length ∧ Hid (Below w.heap.size w wr) ∧ Hid (OwnI wr w.heap.size v acc) ∧ Hid (NmAt (tls r) i acc))
    case atStart => exact ⟨0, [], rfl, by omega, by omega, B0, H0, nm_start _⟩
    case round =>
      obtain ⟨i, acc, rfl, hgk, hi, HB, HO, HN⟩ := hrel
      have hzz := HB.out.size
      have HAL := hide HN.out.1
      by_cases hlt : i < r.length
      · have tlt : (i : Int) + 1 < (r.length : Int) + 1 := by omega
        obtain ⟨y, hy⟩ : ∃ y, r[i]? = some y := ⟨_, List.getElem?_eq_getElem hlt⟩
        have hys : y.size ≤ 1048576 := HZ.out y (List.mem_cons_of_mem _ (List.mem_of_getElem? hy))
        obtain ⟨b', o', e', _, hcy⟩ := (HS.out.below HB.out).at (i := i + 1) (x := y) (by simpa using hy)
        cases e'
        have hty : (tls r)[i]? = some y.data.toList := by unfold tls; rw [List.getElem?_map, hy]; rfl
        cases hp : parseB y.data.toList maxWord
        · have HK : Hid (keepP (tls (x :: r)) = none) := by show _ = _; rw [HKE.out, nm_none HN.out hty hp]
          have CP := hide (refParse_any y maxWord wr (by unfold maxLen; omega) (by decide) (by decide))
          rw [hp] at CP
          clear hty hp hy
          go_wp2_with fail
          refine CP.out.mono ?_
          rintro e w5 ⟨rfl, hw5⟩
          rw [hw5]
          clear hw5 w5
          go_wp2_with fail
          go_ret2
          exact ⟨HB.out, .inr ⟨HK.out, rfl⟩⟩
        · have HN2 := hide (nm_some HN.out hty hp)
          obtain ⟨n, hn⟩ : ∃ n, parseV y.data.toList maxWord = n := ⟨_, rfl⟩
          have CP := hide (refParse_any y maxWord wr (by unfold maxLen; omega) (by decide) (by decide))
          rw [hp, hn] at CP
          rw [hn] at HN2
          have al : Below wr.heap.size wr (wr.alloc (.cells #[.int .i64 n] 3)) := (Below.refl _ wr).alloc (Nat.le_refl _) _
          have O2 := hide (HO.out.below al)
          have B2 := hide (HB.out.trans (al.mono hzz))
          have hzB : w.heap.size ≤ (wr.alloc (.cells #[.int .i64 n] 3)).heap.size := B2.out.size
          clear hty hp hy al hn
          go_wp2_with fail
          refine CP.out.mono ?_
          rintro e w5 ⟨rfl, hw5⟩
          rw [hw5]
          clear hw5 w5
          go_wp2_with (at_builtin
                       refine wpList_appendS rfl (.tmp 38) (.tmp 40) rfl w.heap.size u4 acc rfl O2.out (some ⟨wr.heap.size, 0, none⟩) 1 [n] rfl (IsInts.ofNew wr n) (by have := HAL.out; simp only [List.length_cons, List.length_nil]; omega) hzB ?_
                       intro v5 w5 ho5 hg5 _ _ _
                       have O5 := hide ho5
                       have B5 : Hid (Below w.heap.size w w5) := B2.out.grown hg5 hzB (fun g e => (O2.out.lt g e).1)
                       clear ho5 hg5)
          go_roundg (r.length - (i + 1))
          case measure => omega
          case rel => exact ⟨i + 1, _, by go_num, Nat.le_refl _, by omega, B5, O5, HN2⟩
      · have tlt : ¬ (i : Int) + 1 < (r.length : Int) + 1 := by omega
        have he := nm_end HN.out (by simp [tls]; omega)
        have HK : Hid (keepP (tls (x :: r)) = some acc) := by
          show _ = _
          rw [HKE.out, he]
          cases acc with
          | nil => have hal := HAL.out; simp at hal; omega
          | cons _ _ => rfl
        obtain ⟨va, vc, e4, _⟩ := HO.out.shape
        subst e4
        clear he
        go_wp2_with fail
        go_ret2
        exact ⟨HB.out, .inl ⟨acc, va, vc, HK.out, rfl, HO.out⟩⟩
end Go.Proofs.YteaccpolmmkclaaDoor
