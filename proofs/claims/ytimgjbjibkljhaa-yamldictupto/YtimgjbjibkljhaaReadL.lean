/-
  The walk of ReadList.
-/
import Derived.Test.YtimgjbjibkljhaaYBytes
import Derived.Test.YtimgjbjibkljhaaListW
import Derived.Laws.IdiomStrings
import Derived.Lib.SmallJoins
import Derived.Laws.Rows
import Derived.Maps.AppendAt
import Derived.Deep.DeepMust
namespace Go.Proofs.Ytimgjbjibkljhaa
open Go.RowKit

theorem conv_is {w : World} {a : Option Addr} {c n : Nat} {l : List UInt8} (h : IsBytes w a c l) (hn : l.length = n) : (convert 31 9 (.slice a n c)).run Try.prog w = .ok (.string ⟨l.toArray⟩) w := by
  subst hn
  cases a with
  | none =>
    obtain rfl : l = [] := by
      rcases h.2.2 with h | ⟨_, _, e, _⟩
      · exact h
      · cases e
    exact run_convert_bytes_nil w 31 5 Try.underlying31 Try.underlying5 0 c 9 Try.underlying9
  | some p =>
    refine run_convert_bytes_back w 31 9 5 p c l Try.underlying31 Try.underlying5 Try.underlying9 (fun j hj => ?_)
    rw [h.at j hj, nums_get l j l[j] (List.getElem?_eq_getElem hj)]

theorem conv_new (W : World) (C : Array Value) (n c : Nat) : (convert 31 31 (.slice (some ⟨W.heap.size, 0, none⟩) n c)).run Try.prog (W.alloc (.cells C 5)) = .ok (.slice (some ⟨W.heap.size, 0, none⟩) n c) (W.alloc (.cells C 5 (C.size, C.size + 1))) :=
  Lib.run_convert_bytes_const (P := Try.prog) W 31 5 C n c Try.underlying31 Try.underlying5
theorem const_is {W : World} {g : Nat} {x : Nat × Nat} (l : List UInt8) (h : W.heap[g]? = some (.cells (u8s l).toArray 5 x)) (hl : l.length ≤ 100) : IsBytes W (some ⟨g, 0, none⟩) l.length l := by
  refine ⟨Nat.le_refl _, by unfold maxLen; omega, .inr ⟨g, 0, rfl, (Array.getElem?_eq_some_iff.1 h).1, fun j x hj => ?_⟩⟩
  rw [Nat.zero_add]
  simp [World.cell?, h, u8s_get, hj]

/-- A list of texts in a row of the call's own. -/
abbrev Strs (w : World) (B : Nat) (v : Value) (ts : List ByteArray) : Prop := w.ownsRow B 9 1 v ts.length (ts.map Value.string)
def readT (b : Txt) (e : Int) (ts : List ByteArray) : Prop := (e = 0 ∧ (∀ t ∈ ts, textB (tx t) = true) ∧ b = listL (ts.map tx)) ∨ (e = 92 ∧ ts = [] ∧ ∀ us : List Txt, (∀ t ∈ us, textB t = true) → b ≠ listL us)
def ReadPost (b : Txt) (w : World) (e : Ending) (w' : World) : Prop := ∃ v er ts, e = .returned (.tuple #[v, .int .i64 er]) ∧ readT b er ts ∧ Strs w' w.heap.size v ts ∧ Below w.heap.size w w'

theorem info_string : (Try.prog.info? 9).map (fun i => (i.zero, i.size, i.bytes)) = some (some (.string ⟨#[]⟩), 1, 16) := by kernel_rfl
/-- 'append' of one text. -/
theorem wpList_push_text {W : World} {ops : Array Oper} {rest : List Oper} {o : Oper} {a : Act} {Q : Exit → Act → World → Prop} (hgd : o.guard = none) (s x : Operand)
    (ho : o.op = .call { callee := .builtin .append, args := #[s, x], argTypes := #[22, 22] })
    (B : Nat) (v : Value) (ts : List ByteArray) (t : ByteArray) (hs : a.eval s = v) (hown : Strs W B v ts) (hx : a.eval x = .slice (some ⟨W.heap.size, 0, none⟩) 1 1) (hR : ts.length ≤ 1073741823) (hB : B ≤ W.heap.size)
    (h : ∀ v' w', Strs w' B v' (ts ++ [t]) → Below B W w' → wpList Try.prog ops Q rest (a.put o.dst v') w') : wpList Try.prog ops Q (o :: rest) a (W.alloc (.cells #[.string t] 9)) := by
  obtain ⟨i9, hi, hz0, hz1, hz2⟩ := info_parts info_string
  have hX := hown.alloc (.cells #[.string t] 9)
  refine wpList_append_own _ hgd s x 22 ho B 9 i9 (.string ⟨#[]⟩) 1 16 Try.underlying22 hi hz0 hz1 hz2 rfl (by decide) v ts.length (ts.map Value.string) hs hX ⟨W.heap.size, 0, none⟩ 1 1 [.string t] hx rfl (cell_one_new _ _ _) (by intro u hu; simp at hu; subst hu; rfl) (by unfold maxLen; omega) (by omega) (by simp; omega) ?_
  intro v' w' h1 h2 _
  refine h v' w' ?_ ?_
  · show World.ownsRow _ _ _ _ _ _ _
    rw [List.length_append, List.map_append]
    exact h1
  · exact ((Below.refl B W).alloc hB _).grown h2 (by simp; omega) (fun j hj => (hX.lt j hj).1)
theorem Strs.below {W W' : World} {B : Nat} {v : Value} {ts : List ByteArray} (h : Strs W B v ts) (hb : Below W.heap.size W W') : Strs W' B v ts := by
  refine ⟨h.1, ?_⟩
  rcases h.2 with h0 | ⟨g, cap, cur, hv, hB, hg, rest⟩
  · exact .inl h0
  · exact .inr ⟨g, cap, cur, hv, hB, (hb.block g (Array.getElem?_eq_some_iff.1 hg).1).trans hg, rest⟩
theorem Strs.mono {W : World} {B B' : Nat} {v : Value} {ts : List ByteArray} (h : Strs W B v ts) (hB : B' ≤ B) : Strs W B' v ts := by
  refine ⟨h.1, ?_⟩
  rcases h.2 with h0 | ⟨g, cap, cur, hv, hb, rest⟩
  · exact .inl h0
  · exact .inr ⟨g, cap, cur, hv, Nat.le_trans hB hb, rest⟩
theorem listL_snoc (a : List Txt) (t : Txt) : listL (a ++ [t]) = listL a ++ lineL t := by simp [listL, linesL]
theorem no_ten_step {rest : List UInt8} {k : Nat} {x : UInt8} (hx : rest[k]? = some x) (hne : x ≠ 10) (h : (10 : UInt8) ∉ rest.take k) : (10 : UInt8) ∉ rest.take (k + 1) := by
  rw [List.take_add_one, hx]
  intro hm
  rcases List.mem_append.1 hm with hm | hm
  · exact h hm
  · simp at hm; exact hne hm.symm
theorem no_ten_all {rest : List UInt8} {k : Nat} (hk : rest.length ≤ k) (h : (10 : UInt8) ∉ rest.take k) : (10 : UInt8) ∉ rest := by rwa [List.take_of_length_le hk] at h
/-- What is left has no line of the form. -/
theorem read_no {b : Txt} {ts : List ByteArray} {rest : Txt} (hts : ∀ t ∈ ts, textB (tx t) = true) (hb : b = listL (ts.map tx) ++ rest) (hne : 0 < rest.length) (hno : ∀ t y, textB t = true → rest ≠ lineL t ++ y) : readT b 92 [] := by
  refine .inr ⟨rfl, rfl, no_list (ts := ts.map tx) ?_ hb (fun e => by simp [e] at hne) hno⟩
  intro t ht
  obtain ⟨s, hs, rfl⟩ := List.mem_map.1 ht
  exact hts s hs
theorem dash_of {l : List UInt8} (h : List.isPrefixOf [45, 32] l = true) : l = [45, 32] ++ l.drop 2 := by
  obtain ⟨r, rfl⟩ := List.isPrefixOf_iff_prefix.1 h
  rfl

theorem ten_ne {x : UInt8} (h : x ≠ 10) : ((x.toNat : Int) != (((⟨#[10]⟩ : ByteArray)[0]'(by decide)).toNat : Int)) = true := by
  rw [bne_iff_ne]
  intro e
  have e : (x.toNat : Int) = 10 := e
  exact h (UInt8.toNat_inj.1 (by rw [show (10 : UInt8).toNat = 10 from rfl]; omega))
set_option maxHeartbeats 2000000 in
set_option maxRecDepth 1000000 in
theorem readList_any (a : Option Addr) (c : Nat) (b : List UInt8) (w : World) (h : IsBytes w a c b) (hb : b.length ≤ 1073741823) :
    Calls Try.prog 15 #[.slice a b.length c] w (ReadPost b w) := by
  obtain ⟨w1, hw1⟩ : ∃ w1, w1 = w.alloc (.cells #[.int .u8 45, .int .u8 45, .int .u8 45, .int .u8 10] 5 (4, 5)) := ⟨_, rfl⟩
  have HW1 : Hid (w1 = w.alloc (.cells #[.int .u8 45, .int .u8 45, .int .u8 45, .int .u8 10] 5 (4, 5))) := hw1
  have B1 : Below w.heap.size w w1 := by rw [hw1]; exact (Below.refl _ w).alloc (Nat.le_refl _) _
  have P1 : w1.heap[w.heap.size]? = some (.cells (u8s headL).toArray 5 (4, 5)) := by rw [hw1]; exact heap_alloc_new _ _
  have HB1 : Hid (Below w.heap.size w w1) := B1
  have HR1 : Hid (IsBytes w1 (some ⟨w.heap.size, 0, none⟩) 4 headL) := const_is headL P1 (by decide)
  have HI1 : Hid (IsBytes w1 a c b) := h.below B1
  clear hw1 B1 P1 h
  have kc := conv_new w #[.int .u8 45, .int .u8 45, .int .u8 45, .int .u8 10] 4 4
  by_cases hp : headL.isPrefixOf b = true
  · go_enter Try.func15, Try.ntmps15
    go_wp2
    go_step3
    go_wp2_with (go_at_call 34; rw [← HW1.out]; refine (cutPrefix_any a (some ⟨w.heap.size, 0, none⟩) c 4 b headL w1 HI1.out HR1.out (by decide)).mono ?_; rintro e w' ⟨⟨a4, n4, c4, rfl, hi4, hn4, ha4⟩, hw'⟩; obtain rfl := hw'.symm; clear hw'; rw [hp]; rw [if_pos hp] at hi4 hn4; obtain ⟨b4, o4, rfl⟩ := ha4 hp; have HI4 : Hid (IsBytes w1 (some ⟨b4, o4, none⟩) c4 (b.drop 4)) := hi4; have HN4 : Hid (n4 = (b.drop 4).length) := hn4; clear hi4 hn4 ha4)
    have HP : Hid (b = headL ++ b.drop 4) := by
      obtain ⟨r, hr⟩ := List.isPrefixOf_iff_prefix.1 hp
      show b = headL ++ b.drop 4
      rw [← hr]; rfl
    clear hp HI1 HR1 HW1 kc
    go_step3
    go_wp2
    go_loopg [4, 6] (b.drop 4).length (fun gk s4 s6 wr => ∃ (rest : List UInt8) (a4 : Option Addr) (c4 : Nat) (ts : List ByteArray), s4 = .slice a4 rest.length c4 ∧ rest.length ≤ gk ∧ rest.length ≤ 1073741823 ∧ ts.length + rest.length ≤ b.length ∧ Hid (IsBytes w1 a4 c4 rest) ∧ Hid (b = listL (ts.map tx) ++ rest) ∧ Hid (∀ t ∈ ts, textB (tx t) = true) ∧ Hid (Strs wr w1.heap.size s6 ts) ∧ Hid (Below w1.heap.size w1 wr))
    case atStart => exact ⟨b.drop 4, _, _, [], by rw [HN4.out], Nat.le_refl _, by simp; omega, by simp, HI4.out, HP.out, (fun t ht => by cases ht), World.ownsRow_nil _ _ _ _, Below.refl _ _⟩
    case round =>
      obtain ⟨rest, a5, c5, ts, rfl, hgk, hrl, hts, HI, HE, HT, HS, HB⟩ := hrel
      clear HI4 HN4 HP
      by_cases hne : 0 < rest.length
      · obtain ⟨b5, o5, rfl⟩ := HI.out.addr hne
        go_wp2_with fail
        go_loopg [7] rest.length (fun gk s7 wq => ∃ k : Nat, s7 = .int .i64 k ∧ k < rest.length ∧ rest.length - k ≤ gk ∧ Hid (Strs wq w1.heap.size u6 ts) ∧ Hid (Below w1.heap.size w1 wq) ∧ Hid ((10 : UInt8) ∉ rest.take k))
        case atStart => exact ⟨0, rfl, hne, Nat.le_refl _, HS.out, HB.out, by show _ ∉ _; simp⟩
        case round =>
          clear HS HB
          obtain ⟨k, rfl, hk, hgi, HS, HB, HN⟩ := hrel
          obtain ⟨x, hx⟩ : ∃ x, rest[k]? = some x := ⟨_, List.getElem?_eq_getElem hk⟩
          have c0 : wr.cell? ⟨b5, o5 + k, none⟩ = some (.int .u8 (x.toNat : Int)) := by
            rcases (HI.out.below HB.out).2.2 with e | ⟨b', o', e, _, hc⟩
            · rw [e] at hne; simp at hne
            · cases e; exact hc k x hx
          have hbr : b5 < wr.heap.size := cell_lt c0
          have HX : Hid (rest[k]? = some x) := hx
          clear hx
          by_cases hx10 : x = 10
          · have hxt : ((x.toNat : Int) != (((⟨#[10]⟩ : ByteArray)[0]'(by decide)).toNat : Int)) = false := by rw [hx10]; rfl
            have HX10 : Hid (rest[k]? = some 10) := by show rest[k]? = _; rw [HX.out, hx10]
            clear hx10
            have hkc : k ≤ c5 := by have := HI.out.1; omega
            have hk1c : k + 1 ≤ c5 := by have := HI.out.1; omega
            obtain ⟨w2, hw2⟩ : ∃ w2, w2 = wr.drew := ⟨_, rfl⟩
            have HW2 : Hid (w2 = wr.drew) := hw2
            have B2 : Below wr.heap.size wr w2 := by rw [hw2]; exact (Below.refl _ wr).drew
            obtain ⟨w3, hw3⟩ : ∃ w3, w3 = w2.alloc (.cells #[.int .u8 45, .int .u8 32] 5 (2, 3)) := ⟨_, rfl⟩
            have HW3 : Hid (w3 = w2.alloc (.cells #[.int .u8 45, .int .u8 32] 5 (2, 3))) := hw3
            have B3 : Below w2.heap.size w2 w3 := by rw [hw3]; exact (Below.refl _ w2).alloc (Nat.le_refl _) _
            have P3 : w3.heap[w2.heap.size]? = some (.cells (u8s [45, 32]).toArray 5 (2, 3)) := by rw [hw3]; exact heap_alloc_new _ _
            have B23 : Below wr.heap.size wr w3 := B2.trans (B3.mono B2.size)
            have HB3 : Hid (Below w1.heap.size w1 w3) := HB.out.trans (B23.mono HB.out.size)
            have HS3 : Hid (Strs w3 w1.heap.size u6 ts) := HS.out.below B23
            have HR3 : Hid (IsBytes w3 (some ⟨w2.heap.size, 0, none⟩) 2 [45, 32]) := const_is [45, 32] P3 (by decide)
            have HI3 : Hid (IsBytes w3 (some ⟨b5, o5, none⟩) c5 rest) := HI.out.below HB3.out
            have HIK : Hid (IsBytes w3 (some ⟨b5, o5, none⟩) c5 (rest.take k)) := HI3.out.take k
            have hkl : (rest.take k).length = k := by simp; omega
            have HC : Hid (Calls Try.prog 34 #[.slice (some ⟨b5, o5, none⟩) k c5, .slice (some ⟨w2.heap.size, 0, none⟩) 2 2] w3 fun e w' => (∃ a' n c', e = .returned (.tuple #[.slice a' n c', .bool (List.isPrefixOf [45, 32] (rest.take k))]) ∧ IsBytes w3 a' c' (if List.isPrefixOf [45, 32] (rest.take k) then (rest.take k).drop 2 else rest.take k) ∧ n = (if List.isPrefixOf [45, 32] (rest.take k) then (rest.take k).drop 2 else rest.take k).length) ∧ w' = w3) := by
              have := cutPrefix_any (some ⟨b5, o5, none⟩) (some ⟨w2.heap.size, 0, none⟩) c5 2 (rest.take k) [45, 32] w3 HIK.out HR3.out (by decide)
              rw [hkl] at this
              refine this.mono ?_
              rintro e w' ⟨⟨a', n, c', h1, h2, h3, _⟩, h4⟩
              exact ⟨⟨a', n, c', h1, h2, h3⟩, h4⟩
            have kc := conv_new w2 #[.int .u8 45, .int .u8 32] 2 2
            clear hw2 B2 hw3 B3 P3 B23 hkl
            obtain ⟨pb, hpb⟩ : ∃ pb, List.isPrefixOf [45, 32] (rest.take k) = pb := ⟨_, rfl⟩
            have HPB : Hid (List.isPrefixOf [45, 32] (rest.take k) = pb) := hpb
            clear hpb
            have hrp : decide ((0 : Int) < (rest.length : Int)) = true := by simp; omega
            cases pb
            · have HNO : Hid (readT b 92 []) := read_no HT.out HE.out hne (fun t y ht he => by
                have := line_at HX10.out HN.out ht he
                have h2 := HPB.out
                rw [this] at h2
                simp [List.isPrefixOf] at h2)
              go_wp2_with fail
              go_region
              rw [← HW2.out]
              go_wp2_with (first
                | (go_at_call 34; rw [← HW3.out]; refine HC.out.mono ?_; rintro e w' ⟨⟨a6, n6, c6, rfl, h61, h62⟩, hw'⟩; obtain rfl := hw'.symm; clear hw'; rw [HPB.out] at h61 h62 ⊢; have kt := conv_is h61 h62.symm; clear h61; have H62 : Hid (n6 = (if false = true then (rest.take k).drop 2 else rest.take k).length) := h62; clear h62))
              rw [Exit.noGoto_ret]
              go_ret2
              exact ⟨_, _, [], rfl, HNO.out, World.ownsRow_nil _ _ _ _, HB1.out.trans (HB3.out.mono HB1.out.size)⟩
            · obtain ⟨T, hT⟩ : ∃ T : ByteArray, T = ⟨((rest.take k).drop 2).toArray⟩ := ⟨_, rfl⟩
              have hTx : tx T = (rest.take k).drop 2 := by rw [hT]
              have HTK : Hid (rest.take k = [45, 32] ++ tx T) := by show rest.take k = _; rw [hTx]; exact dash_of HPB.out
              have HTD : Hid (T = ⟨((rest.take k).drop 2).toArray⟩) := hT
              clear hT hTx
              obtain ⟨tb, htb⟩ : ∃ tb, textB (tx T) = tb := ⟨_, rfl⟩
              have HTB : Hid (textB (tx T) = tb) := htb
              clear htb
              cases tb
              · have HNO : Hid (readT b 92 []) := read_no HT.out HE.out hne (fun t y ht he => by
                  have h1 := line_at HX10.out HN.out ht he
                  rw [HTK.out] at h1
                  have h2 : tx T = t := List.append_cancel_left h1
                  have h3 := HTB.out
                  rw [h2, ht] at h3
                  cases h3)
                go_wp2_with fail
                go_region
                rw [← HW2.out]
                go_wp2_with (first
                  | (go_at_call 34; rw [← HW3.out]; refine HC.out.mono ?_; rintro e w' ⟨⟨a6, n6, c6, rfl, h61, h62⟩, hw'⟩; obtain rfl := hw'.symm; clear hw'; rw [HPB.out, if_pos rfl] at h61 h62; rw [HPB.out]; have kt := conv_is h61 h62.symm; rw [← HTD.out] at kt; clear h61 h62)
                  | (go_at_call 35; refine (isText_any T _).mono ?_; rintro e w' ⟨rfl, hw'⟩; obtain rfl := hw'.symm; rw [HTB.out]))
                rw [Exit.noGoto_ret]
                go_ret2
                exact ⟨_, _, [], rfl, HNO.out, World.ownsRow_nil _ _ _ _, HB1.out.trans (HB3.out.mono HB1.out.size)⟩
              · have hsz : w1.heap.size ≤ w3.heap.size := HB3.out.size
                go_wp2_with fail
                go_region
                rw [← HW2.out]
                go_wp2_with (first
                  | (go_at_call 34; rw [← HW3.out]; refine HC.out.mono ?_; rintro e w' ⟨⟨a6, n6, c6, rfl, h61, h62⟩, hw'⟩; obtain rfl := hw'.symm; clear hw'; rw [HPB.out, if_pos rfl] at h61 h62; rw [HPB.out]; have kt := conv_is h61 h62.symm; rw [← HTD.out] at kt; clear h61 h62)
                  | (go_at_call 35; refine (isText_any T _).mono ?_; rintro e w' ⟨rfl, hw'⟩; obtain rfl := hw'.symm; rw [HTB.out])
                  | (at_builtin; go_must (refine wpList_push_text rfl (.tmp 53) (.tmp 55) rfl w1.heap.size u6 ts T rfl HS3.out rfl (by omega) hsz ?_); intro v8 w8 o8 b8; have HS8 : Hid (Strs w8 w1.heap.size v8 (ts ++ [T])) := o8; have HB8 : Hid (Below w1.heap.size w1 w8) := HB3.out.trans b8; clear o8 b8))
                all_goals (
                  have HE8 : Hid (b = listL ((ts ++ [T]).map tx) ++ rest.drop (k + 1)) := by
                    show b = _
                    rw [List.map_append, List.map_singleton, listL_snoc, List.append_assoc, ← line_take HX10.out HTK.out]
                    exact HE.out
                  have HT8 : Hid (∀ t ∈ ts ++ [T], textB (tx t) = true) := fun t ht => by
                    rcases List.mem_append.1 ht with ht | ht
                    · exact HT.out t ht
                    · simp at ht; subst ht; exact HTB.out
                  have hi8 := HI.out.drop (k + 1) (by omega)
                  have hl8 : (rest.drop (k + 1)).length = rest.length - (k + 1) := by simp
                  go_roundg (rest.length - (k + 1)))
                case measure => omega
                case measure => omega
                case rel =>
                  rw [if_pos h] at hi8
                  exact ⟨rest.drop (k + 1), some ⟨b5, o5, none⟩, c5 - (k + 1), ts ++ [T], by rw [hl8, show c5 - (k + 1) = 0 by omega], by rw [hl8]; exact Nat.le_refl _, by rw [hl8]; omega, by rw [hl8, List.length_append, List.length_singleton]; omega, hi8, HE8.out, HT8.out, HS8.out, HB8.out⟩
                case rel =>
                  rw [if_neg h] at hi8
                  exact ⟨rest.drop (k + 1), some ⟨b5, o5 + (k + 1), none⟩, c5 - (k + 1), ts ++ [T], by rw [hl8], by rw [hl8]; exact Nat.le_refl _, by rw [hl8]; omega, by rw [hl8, List.length_append, List.length_singleton]; omega, hi8, HE8.out, HT8.out, HS8.out, HB8.out⟩
          · have hxt : ((x.toNat : Int) != (((⟨#[10]⟩ : ByteArray)[0]'(by decide)).toNat : Int)) = true := ten_ne hx10
            have HXN : Hid (x ≠ 10) := hx10
            clear hx10
            obtain ⟨w2, hw2⟩ : ∃ w2, w2 = wr.drew := ⟨_, rfl⟩
            have HW2 : Hid (w2 = wr.drew) := hw2
            have B2 : Below wr.heap.size wr w2 := by rw [hw2]; exact (Below.refl _ wr).drew
            have HB2 : Hid (Below w1.heap.size w1 w2) := HB.out.trans (B2.mono HB.out.size)
            have HS2 : Hid (Strs w2 w1.heap.size u6 ts) := HS.out.below B2
            have HN2 : Hid ((10 : UInt8) ∉ rest.take (k + 1)) := no_ten_step HX.out HXN.out HN.out
            clear hw2 B2
            by_cases hk1 : k + 1 = rest.length
            · have hki : (((k : Int) + 1) == (rest.length : Int)) = true := by simp; omega
              have hrp : decide ((0 : Int) < (rest.length : Int)) = true := by simp; omega
              have HNO : Hid (readT b 92 []) := read_no HT.out HE.out hne (fun t y _ he => no_end (no_ten_all (by omega) HN2.out) t y he)
              go_wp2_with fail
              go_region
              rw [← HW2.out]
              go_wp2_with fail
              rw [Exit.noGoto_ret]
              go_ret2
              exact ⟨_, _, [], rfl, HNO.out, World.ownsRow_nil _ _ _ _, HB1.out.trans (HB2.out.mono HB1.out.size)⟩
            · have hki : (((k : Int) + 1) == (rest.length : Int)) = false := by simp; omega
              go_wp2_with fail
              go_region
              rw [← HW2.out]
              go_wp2_with fail
              go_roundg (rest.length - (k + 1))
              case measure => omega
              case rel => exact ⟨k + 1, by go_num, by omega, Nat.le_refl _, HS2.out, HB2.out, HN2.out⟩
      · obtain rfl : rest = [] := List.eq_nil_of_length_eq_zero (by omega)
        go_wp2_with fail
        rw [Exit.noGoto_ret]
        go_ret2
        exact ⟨_, _, ts, rfl, .inl ⟨rfl, HT.out, by simpa using HE.out⟩, HS.out.mono HB1.out.size, HB1.out.trans (HB.out.mono HB1.out.size)⟩
  · have hpf : headL.isPrefixOf b = false := Bool.eq_false_iff.2 hp
    go_enter Try.func15, Try.ntmps15
    go_wp2
    go_step3
    go_wp2_with (go_at_call 34; rw [← HW1.out]; refine (cutPrefix_any a (some ⟨w.heap.size, 0, none⟩) c 4 b headL w1 HI1.out HR1.out (by decide)).mono ?_; rintro e w' ⟨⟨a4, n4, c4, rfl, hi4, hn4, ha4⟩, hw'⟩; obtain rfl := hw'.symm; clear hw'; rw [hpf])
    try rw [Exit.noGoto_ret]
    go_ret2
    exact ⟨_, _, [], rfl, .inr ⟨rfl, rfl, fun us _ => no_head (fun hq => hp (List.isPrefixOf_iff_prefix.2 hq)) us⟩, World.ownsRow_nil _ _ _ _, HB1.out⟩
end Go.Proofs.Ytimgjbjibkljhaa
