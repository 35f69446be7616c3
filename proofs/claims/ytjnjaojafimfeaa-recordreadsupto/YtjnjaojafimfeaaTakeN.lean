/-
  The walk of takeNumbers.
-/
import Derived.Test.YtjnjaojafimfeaaCuts
import Derived.Test.YtjnjaojafimfeaaChecks
namespace Go.Proofs.Ytjnjaojafimfeaa
open Go.RowKit

/-- While numbers are taken: those taken so far, what is left of the bytes. -/
structure Takes (wo w wr : World) (nb fb : Nat) (fs : List Nat) (l : List UInt8) (j : Nat) (n : Nat → Int) (a : Option Addr) (c : Nat) (m : List UInt8) : Prop where
  kept : Kept (fun q => q = nb) w wr
  nums : NumsAt wr nb n
  flds : fs.length = 0 ∨ FieldsAt wr fb fs
  src : IsBytes wo a c m
  way : takeN (fs.drop j) m n = takeN fs l (fun _ => 0)
  zero : ∀ f, f ∈ fs.drop j → n f = 0
  len : m.length ≤ l.length
theorem wrap_64 (n : Int) : IntKind.i64.wrap n = wrap64 n := by unfold wrap64; rw [IntKind.wrap_i64]
theorem wrap64_u8 (x : UInt8) : wrap64 (x.toNat : Int) = (x.toNat : Int) := by
  have := x.toNat_lt
  unfold wrap64
  omega
theorem upd_upd (n : Nat → Int) (f : Nat) (x y : Int) : upd (upd n f x) f y = upd n f y := by
  funext g
  unfold upd
  split <;> rfl
theorem Kept.drew {P : Nat → Prop} {w w' : World} (h : Kept P w w') : Kept P w w'.drew := ⟨h.os, h.tape, h.output, h.size, h.block⟩
theorem drop_cons {l : List Nat} {j f : Nat} (h : l[j]? = some f) : l.drop j = f :: l.drop (j + 1) := by
  have hj := (List.getElem?_eq_some_iff.1 h).1
  have e : l[j] = f := (List.getElem?_eq_some_iff.1 h).2
  rw [List.drop_eq_getElem_cons hj, e]
theorem results_ct_row {P : Program} {fn : Func} {p u : Tmp} {ty : TypeId} (h : fn.results = #[.cell p ty, .tmp u]) (tmps : Array Value) (w : World) (g : Nat) (t : TypeId) (cs : Array Value) (fr : Nat × Nat) (d : TypeDesc)
    (hp : tmps.getD p undef = .pointer (some ⟨g, 0, none⟩)) (hg : w.heap[g]? = some (.cells cs t fr)) (hu : P.underlying ty = some d) (hd : (match d with | .struct _ | .array _ _ => true | _ => false) = true) (hi : (P.info? ty).map (·.size) = some cs.size) :
    (results fn tmps).run P w = .ok (.tuple #[.agg cs, tmps.getD u undef]) w := by
  have hp' : tmps[p]?.getD undef = .pointer (some ⟨g, 0, none⟩) := by simpa using hp
  simp only [results, h]
  simp [Result.andThen, hp', asAddr, run_loadVar_row w g t ty cs fr d hg hu hd hi]
theorem results_ctt_row {P : Program} {fn : Func} {p u v : Tmp} {ty : TypeId} (h : fn.results = #[.cell p ty, .tmp u, .tmp v]) (tmps : Array Value) (w : World) (g : Nat) (t : TypeId) (cs : Array Value) (fr : Nat × Nat) (d : TypeDesc)
    (hp : tmps.getD p undef = .pointer (some ⟨g, 0, none⟩)) (hg : w.heap[g]? = some (.cells cs t fr)) (hu : P.underlying ty = some d) (hd : (match d with | .struct _ | .array _ _ => true | _ => false) = true) (hi : (P.info? ty).map (·.size) = some cs.size) :
    (results fn tmps).run P w = .ok (.tuple #[.agg cs, tmps.getD u undef, tmps.getD v undef]) w := by
  have hp' : tmps[p]?.getD undef = .pointer (some ⟨g, 0, none⟩) := by simpa using hp
  simp only [results, h]
  simp [Result.andThen, hp', asAddr, run_loadVar_row w g t ty cs fr d hg hu hd hi]
def takeV (n : Nat → Int) (v : Value) (b : Bool) : Value := .tuple #[.agg (numsA n), v, .bool b]

set_option maxHeartbeats 1000000 in
set_option maxRecDepth 1000000 in
theorem takeNumbers_any (k : Int) (a : Option Addr) (c : Nat) (l : List UInt8) (w : World) (hb : IsBytes w a c l) :
    Calls Try.prog 39 #[.slice a l.length c, .int .i64 k] w fun e w' => Below w.heap.size w w' ∧
      ((takeN (fieldsL k) l (fun _ => 0) = none ∧ e = .returned (takeV (fun _ => 0) (.slice none 0 0) false)) ∨
       ∃ n rest a2 c2, takeN (fieldsL k) l (fun _ => 0) = some (n, rest) ∧ e = .returned (takeV n (.slice a2 rest.length c2) true) ∧ IsBytes w' a2 c2 rest) := by
  have hlen := fields_len k
  go_enter Try.func39, Try.ntmps39
  go_wp2_with (first
    | (go_at_call 45; refine (fieldsOf_any _ _).mono ?_; rintro e w1 ⟨fa, rfl, B1, hfa⟩))
  obtain ⟨nb, hnb⟩ : ∃ nb, nb = w.heap.size + 1 := ⟨_, rfl⟩
  obtain ⟨fb, hfb⟩ : ∃ fb, fb = ((w.alloc (.cells (numsA fun _ => 0) 53)).alloc (.cells (numsA fun _ => 0) 53)).heap.size := ⟨_, rfl⟩
  have BA : Below w.heap.size w ((w.alloc (.cells (numsA fun _ => 0) 53)).alloc (.cells (numsA fun _ => 0) 53)) := ((Below.refl _ w).alloc (Nat.le_refl _) _).alloc (by simp) _
  have BW : Below w.heap.size w w1 := BA.trans (B1.mono (by simp; omega))
  have N0 : NumsAt w1 nb (fun _ => 0) := by
    rw [hnb]
    exact (B1.block _ (by simp)).trans (heap_alloc2_new _ _ _)
  have R0 : NumsAt w1 w.heap.size (fun _ => 0) := (B1.block _ (by simp; omega)).trans (heap_alloc2_old _ _ _)
  have hfz : fb = w.heap.size + 2 := by rw [hfb]; simp
  have HFA : Hid ((fieldsL k).length = 0 ∨ fa = some ⟨fb, 0, none⟩ ∧ FieldsAt w1 fb (fieldsL k)) := by
    rcases hfa with h0 | ⟨h0, h1, _⟩
    · exact .inl h0
    · right
      rw [hfb]
      exact ⟨h0, h1⟩
  have hne : fb ≠ nb := by omega
  have hnw : ¬ w.heap.size = nb := by omega
  have hnl : w.heap.size < nb := by omega
  have A0 : Hid (Takes w w1 w1 nb fb (fieldsL k) l 0 (fun _ => 0) a c l) := by
    refine ⟨Kept.refl _ _, N0, ?_, hb, rfl, fun _ _ => rfl, Nat.le_refl _⟩
    rcases HFA.out with h0 | ⟨_, h1⟩
    · exact .inl h0
    · exact .inr h1
  have HW : Hid (Below w.heap.size w w1 ∧ NumsAt w1 w.heap.size (fun _ => 0)) := ⟨BW, R0⟩
  have hcm : c ≤ 9223372036854775807 := by have := hb.2.1; unfold maxLen at this; omega
  have hlc : l.length ≤ c := hb.1
  rw [← hnb]
  clear hfa B1 BA BW N0 R0 hfz hfb hnb
  go_loopg [0, 15] (fieldsL k).length (fun gk vb i wr => ∃ (j : Nat) (n : Nat → Int) (aj : Option Addr) (cj : Nat) (m : List UInt8), vb = .slice aj m.length cj ∧ i = .int .i64 j ∧ j ≤ (fieldsL k).length ∧ (fieldsL k).length - j ≤ gk ∧ Hid (Takes w w1 wr nb fb (fieldsL k) l j n aj cj m))
  case atStart => exact ⟨0, _, a, c, l, rfl, rfl, Nat.zero_le _, Nat.le_refl _, A0⟩
  case round =>
    obtain ⟨j, n, aj, cj, m, rfl, rfl, hj, hgk, HK⟩ := hrel
    have hmc : m.length ≤ cj := HK.out.src.1
    have hcj : cj ≤ 9223372036854775807 := by have := HK.out.src.2.1; unfold maxLen at this; omega
    by_cases hlt : j < (fieldsL k).length
    · obtain ⟨f, hf, hfm⟩ := field_at hlt
      have hf16 := fields_lt hfm
      rcases HFA.out with h0 | ⟨rfl, _⟩
      · omega
      have hc1 : wr.cell? ⟨fb, j, none⟩ = some (.int .i64 (f : Int)) := by
        rcases HK.out.flds with h0 | h1
        · omega
        · exact h1 j f hf
      have HX : Hid ((fieldsL k)[j]? = some f) := hf
      have HD : Hid ((fieldsL k).drop j = f :: (fieldsL k).drop (j + 1)) := drop_cons hf
      clear hf
      by_cases h8 : m.length < 8
      · have HR : Hid (NumsAt wr w.heap.size (fun _ => 0)) := (HK.out.kept.block _ HW.out.2.lt hnw).trans HW.out.2
        have HN : Hid (takeN (fieldsL k) l (fun _ => 0) = none) := by
          show takeN (fieldsL k) l (fun _ => 0) = none
          rw [← HK.out.way, HD.out, takeN, if_pos h8]
        go_wp2_with (refine wpList_store_row rfl 53 (.tmp 4) (.tmp 22) rfl w.heap.size (numsA fun _ => 0) rfl rfl 53 (numsA fun _ => 0) HR.out info_nums rfl (nums_one _) ?_)
        refine bodyPost_ret (results_ctt_row rfl _ _ w.heap.size 53 _ (0, 0) _ rfl (setRow_heap wr _ _ _ _ _ HR.out) Try.underlying53 rfl info_nums) rfl ?_
        exact ⟨below_setRow (HW.out.1.trans (HK.out.kept.below HW.out.1.size (fun q hq => by omega))) (Nat.le_refl _) _, .inl ⟨HN.out, rfl⟩⟩
      · obtain ⟨g, o, rfl⟩ := HK.out.src.addr (by omega)
        have hmi : (8 : Int) ≤ (m.length : Int) := by omega
        go_wp2_with fail
        have HI : Hid (Kept (fun q => q = nb) w1 wr ∧ NumsAt wr nb (upd n f (num8 (m.take 0)))) := by
          refine ⟨HK.out.kept, ?_⟩
          rw [num_zero, show upd n f 0 = n from by funext z; unfold upd; split; · rename_i hz; rw [hz, HK.out.zero f (by rw [HD.out]; simp)]
                                                   · rfl]
          exact HK.out.nums
        have HSRC : Hid (IsBytes w (some ⟨g, o, none⟩) cj m) := HK.out.src
        clear hc1
        go_loopg [26] 8 (fun gi i wx => ∃ q : Nat, i = .int .i64 q ∧ q ≤ 8 ∧ 8 - q ≤ gi ∧ Hid (Kept (fun q => q = nb) w1 wx ∧ NumsAt wx nb (upd n f (num8 (m.take q)))))
        case atStart => exact ⟨0, rfl, Nat.zero_le _, Nat.le_refl _, HI⟩
        case round =>
          obtain ⟨q, rfl, hq, hgq, HQ⟩ := hrel
          by_cases hq8 : q < 8
          · obtain ⟨x, hx⟩ : ∃ x, m[q]? = some x := ⟨_, List.getElem?_eq_getElem (by omega)⟩
            have BB : Below w.heap.size w wr := HW.out.1.trans (HQ.out.1.below HW.out.1.size (fun q hq => by omega))
            have hcx := (HSRC.out.below BB).cell q x hx
            have hc2 : wr.cell? ⟨nb, f, none⟩ = some (.int .i64 (num8 (m.take q))) := by
              rw [HQ.out.2.cell f hf16]
              simp [upd]
            have hc3 := HQ.out.2.frozen f
            have hor := num_step m q x hx hq8
            have hx64 : wrap64 (x.toNat : Int) = (x.toNat : Int) := wrap64_u8 x
            rw [wrap_64] at hor
            have i1 : (0 : Int) ≤ (f : Int) := by omega
            have i2 : (f : Int) < 16 := by omega
            obtain ⟨y, hy⟩ : ∃ y, y = num8 (m.take (q + 1)) := ⟨_, rfl⟩
            obtain ⟨z, hz⟩ : ∃ z, z = num8 (m.take q) := ⟨_, rfl⟩
            rw [← hy, ← hz] at hor
            rw [← hz] at hc2
            have HY : Hid (y = num8 (m.take (q + 1))) := hy
            have HZ : Hid (z = num8 (m.take q)) := hz
            clear hy hz hx BB
            go_wp2_with fail
            go_region
            go_wp2_with fail
            go_roundg (8 - (q + 1))
            case measure => omega
            case rel => exact ⟨q + 1, by go_num, by omega, Nat.le_refl _, (HQ.out.1.trans (Kept.setCell _ _ _ _ _ rfl)).drew, by
                have := HQ.out.2.set f y
                rw [upd_upd, HY.out] at this
                rw [HY.out]
                exact this⟩
          · obtain rfl : q = 8 := by omega
            have HT : Hid (Takes w w1 wr nb fb (fieldsL k) l (j + 1) (upd n f (num8 (m.take 8))) (if cj = 8 then some ⟨g, o, none⟩ else some ⟨g, o + 8, none⟩) (cj - 8) (m.drop 8)) := by
              refine ⟨HQ.out.1, HQ.out.2, ?_, HSRC.out.drop 8 (by omega), ?_, fun z hz => ?_, by rw [List.length_drop]; have := HK.out.len; omega⟩
              · rcases HFA.out with h0 | ⟨_, h1⟩
                · exact .inl h0
                · exact .inr (h1.kept HQ.out.1 hne)
              · rw [← HK.out.way, HD.out, takeN, if_neg h8]
              · have hnd : (f :: (fieldsL k).drop (j + 1)).Nodup := by rw [← HD.out]; exact (fields_nodup k).drop
                have hzf : z ≠ f := fun e => (List.nodup_cons.1 hnd).1 (e ▸ hz)
                have := HK.out.zero z (by rw [HD.out]; simp [hz])
                simp [upd, hzf, this]
            have hml : (m.drop 8).length = m.length - 8 := by simp
            go_wp2_with fail
            · have hc8 : cj = 8 := by assumption
              go_roundg ((fieldsL k).length - (j + 1))
              case measure => omega
              case rel => exact ⟨j + 1, _, some ⟨g, o, none⟩, cj - 8, m.drop 8, by rw [hml, hc8], by go_num, by omega, Nat.le_refl _, by have := HT.out; rw [if_pos hc8] at this; exact this⟩
            · have hc8 : ¬ cj = 8 := by assumption
              go_roundg ((fieldsL k).length - (j + 1))
              case measure => omega
              case rel => exact ⟨j + 1, _, some ⟨g, o + 8, none⟩, cj - 8, m.drop 8, by rw [hml], by go_num, by omega, Nat.le_refl _, by have := HT.out; rw [if_neg hc8] at this; exact this⟩
    · have HR : Hid (NumsAt wr w.heap.size (fun _ => 0)) := (HK.out.kept.block _ HW.out.2.lt hnw).trans HW.out.2
      have hwy := HK.out.way
      rw [List.drop_eq_nil_of_le (by omega), takeN] at hwy
      have HN : Hid (some (n, m) = takeN (fieldsL k) l (fun _ => 0)) := hwy
      have HNN : Hid (NumsAt wr nb n) := HK.out.nums
      clear hwy
      go_wp2_with (first
        | (refine wpList_load_row rfl 53 (.tmp 7) rfl nb rfl 53 (numsA n) (0, 0) _ HNN.out Try.underlying53 rfl info_nums ?_)
        | (refine wpList_store_row rfl 53 (.tmp 4) (.tmp 45) rfl w.heap.size (numsA n) rfl rfl 53 (numsA fun _ => 0) HR.out info_nums rfl (nums_one _) ?_))
      refine bodyPost_ret (results_ctt_row rfl _ _ w.heap.size 53 _ (0, 0) _ rfl (setRow_heap wr _ _ _ _ _ HR.out) Try.underlying53 rfl info_nums) rfl ?_
      have BB := HW.out.1.trans (HK.out.kept.below HW.out.1.size (fun q hq => by omega))
      have BS := below_setRow BB (Nat.le_refl _) (numsA n)
      exact ⟨BS, .inr ⟨n, m, aj, cj, HN.out.symm, rfl, HK.out.src.below BS⟩⟩
end Go.Proofs.Ytjnjaojafimfeaa
