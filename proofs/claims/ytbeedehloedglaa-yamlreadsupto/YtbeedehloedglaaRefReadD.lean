/-
  The walk of the document's ReadDict.
-/
import Derived.Test.YtbeedehloedglaaRefRead
import Derived.Test.YtbeedehloedglaaReadD
import Derived.Deep.RegionLaw
namespace Go.Proofs.Ytbeedehloedglaa
open Go.RowKit

theorem mem_join_le {l : Txt} : ∀ {ls : List Txt}, l ∈ ls → l.length ≤ (joinL ls).length
  | m :: ls, h => by
    rw [joinL_cons]
    rcases List.mem_cons.1 h with rfl | h
    · simp
    · have := mem_join_le h
      simp
      omega
def lineP (p : Pr) : Txt := p.1 ++ [58, 32] ++ p.2
theorem dict_lines (us : List Pr) : dictL us = headL ++ joinL (us.map lineP) := by
  unfold dictL pairsL joinL
  rw [List.flatMap_map]
  rfl
theorem okF_all : ∀ (us done : List Pr), okF done us → ∀ p ∈ us, keyB p.1 = true ∧ textB p.2 = true
  | [], _, _, p, hp => by cases hp
  | q :: us, done, h, p, hp => by
    have hc := checkE_ok h.1
    rcases List.mem_cons.1 hp with rfl | hp
    · exact ⟨hc.1, hc.2.2⟩
    · exact okF_all us _ h.2 p hp
theorem dict_no (us : List Pr) (h : okF [] us) : ∀ l ∈ us.map lineP, (10 : UInt8) ∉ l := by
  intro l hl
  obtain ⟨p, hp, rfl⟩ := List.mem_map.1 hl
  have := okF_all us [] h p hp
  exact pair_no this.1 this.2
theorem lsD_of {b : Txt} {ls : List ByteArray} (h1 : b = headL ++ joinL (ls.map tx)) (h2 : ∀ l ∈ ls.map tx, (10 : UInt8) ∉ l) {us : List Pr} (hus : okF [] us) (hb : b = dictL us) : ls.map tx = us.map lineP := by
  rw [dict_lines] at hb
  have := List.append_cancel_left (h1.symm.trans hb)
  exact (joinL_one _ _ [] h2 (dict_no us hus) (by simp) (by rw [List.append_nil]; exact this)).1
/-- Where the first colon stands. -/
def colonAt (s : Txt) (k : Nat) : Prop := k ≤ s.length ∧ (58 : UInt8) ∉ s.take k ∧ (k = s.length ∨ s[k]? = some 58)
theorem colon_one {s : Txt} {k : Nat} (h : colonAt s k) {p r : Txt} (hp : (58 : UInt8) ∉ p) (hs : s = p ++ 58 :: r) : k = p.length := by
  obtain ⟨h1, h2, h3⟩ := h
  rcases Nat.lt_trichotomy k p.length with hlt | he | hgt
  · exfalso
    rcases h3 with h3 | h3
    · rw [hs] at h3; simp at h3; omega
    · rw [hs, List.getElem?_append_left hlt] at h3
      exact hp (List.mem_of_getElem? h3)
  · exact he
  · exfalso
    refine h2 (List.mem_iff_getElem?.2 ⟨p.length, ?_⟩)
    rw [List.getElem?_take_of_lt hgt, hs]
    simp
theorem cut_pair {s : Txt} {k : Nat} (h : colonAt s k) {p : Pr} (h1 : keyB p.1 = true) (hs : s = lineP p) : k + 2 ≤ s.length ∧ s.take k = p.1 ∧ s.drop (k + 2) = p.2 := by
  have hk : k = p.1.length := colon_one h (fun hm => (keyB_all h1 _ hm).2.1 rfl) (r := 32 :: p.2) (by rw [hs]; simp [lineP])
  subst hk
  rw [hs]
  unfold lineP
  refine ⟨by simp, by simp, ?_⟩
  rw [List.append_assoc, List.drop_append]
  simp
theorem ext_tx (s : ByteArray) (a b : Nat) : tx (s.extract a b) = ((tx s).drop a).take (b - a) := by
  unfold tx
  rw [ByteArray.data_extract]
  simp

theorem step_pair {ops : Array Oper} {o : Oper} {a : Act} {K : Act → World → Prop} {Q : Exit → Act → World → Prop} {E : Prop} (hgd : o.guard = none) (s x : Operand)
    (ho : o.op = .call { callee := .builtin .append, args := #[s, x], argTypes := #[37, 37] })
    (B : Nat) (w : World) (v : Value) (ps : List BP) (p : BP) (hown : Prs w B v ps) (hB : B ≤ w.heap.size) (hR : ps.length ≤ 1073741823) (hs : a.eval s = v) (hx : a.eval x = .slice (some ⟨w.heap.size, 0, none⟩) 1 1)
    (h : ∀ g cap w', Prs w' B (.slice (some ⟨g, 0, none⟩) (ps.length + 1) cap) (ps ++ [p]) → Below B w w' → K (a.put o.dst (.slice (some ⟨g, 0, none⟩) (ps.length + 1) cap)) w') :
    if Region.wanted o (yielded ops a.tmps) = true then Oper.wp Try.prog o a ((w.alloc (.cells #[.string p.1, .string p.2] 41)).drew) K Q else E := by
  obtain ⟨i0, hi, hz0, hz1, hz2⟩ := info_parts info_pair
  have hX : World.ownsRow (w.alloc (.cells #[.string p.1, .string p.2] 41)).drew B 41 2 v ps.length (twos ps) := hown.alloc _
  refine step_append_lies ((w.alloc (.cells #[.string p.1, .string p.2] 41)).drew) hgd s x 37 ho B 41 i0 (.agg #[.string ⟨#[]⟩, .string ⟨#[]⟩]) 2 32 Try.underlying37 hi hz0 hz1 hz2 rfl (by decide) v ps.length (twos ps) hs hX ⟨w.heap.size, 0, none⟩ 1 1 (two p) hx rfl ?_ ?_ (by decide) (by unfold maxLen; omega) (by omega) (Nat.le_trans hB (by simp [World.drew])) _ rfl ?_
  · exact World.news_of_block (w := (w.alloc (.cells #[.string p.1, .string p.2] 41)).drew) (cs := #[.string p.1, .string p.2]) (heap_alloc_new w _)
  · intro u hu; simp [two] at hu; rcases hu with rfl | rfl <;> rfl
  · intro g cap w' h1 h2 h3 _
    refine h g cap w' ?_ ?_
    · show World.ownsRow _ _ _ _ _ _ _
      rw [List.length_append, show twos (ps ++ [p]) = twos ps ++ two p by simp [twos]]
      exact h1
    · exact (((Below.refl B w).alloc hB _).drew).grown h2 (by simp [World.drew]; omega) (fun j hj => (hX.lt j hj).1)

set_option maxHeartbeats 4000000 in
set_option maxRecDepth 1000000 in
theorem refReadDict_any (a : Option Addr) (c : Nat) (b : List UInt8) (w : World) (h : IsBytes w a c b) (hb : b.length ≤ 1073741823) :
    Calls Try.prog 24 #[.slice a b.length c] w (ReadDPost b w) := by
  have HI : Hid (IsBytes w a c b) := h
  clear h
  go_enter Try.func24, Try.ntmps24
  go_upto_region 2 with (go_at_call 40; refine (lines_any a c b w HI.out hb).mono ?_; rintro e w1 ⟨ok, a1, c1, ls, rfl, i1, b1, hl1, hy, hn⟩)
  have HI1 : Hid (IsStrs w1 a1 c1 ls) := i1
  have HB1 : Hid (Below w.heap.size w w1) := b1
  have hlc1 : ls.length ≤ c1 := i1.1
  clear i1 b1
  cases ok
  · have HN : Hid (∀ us : List Pr, us.length ≤ 256 → okF [] us → b ≠ dictL us) := fun us _ hus he => hn rfl _ (dict_no us hus) (by rw [← dict_lines]; exact he)
    clear hy hn
    go_wp2_with fail
    go_ret2
    exact ⟨_, _, [], rfl, .inr ⟨rfl, rfl, HN.out⟩, World.ownsRow_nil _ _ _ _, HB1.out⟩
  obtain ⟨hy1, hy2⟩ := hy rfl
  have HY1 : Hid (b = headL ++ joinL (ls.map tx)) := hy1
  have HY2 : Hid (∀ l ∈ ls.map tx, (10 : UInt8) ∉ l) := hy2
  have HLS : Hid (∀ us : List Pr, okF [] us → b = dictL us → ls.map tx = us.map lineP) := fun us hus he => lsD_of hy1 hy2 hus he
  clear hy hn hy1 hy2
  by_cases h256 : 256 < ls.length
  · have h6b : decide ((256 : Int) < (ls.length : Int)) = true := by simp; omega
    have HN : Hid (∀ us : List Pr, us.length ≤ 256 → okF [] us → b ≠ dictL us) := fun us hl hus he => by
      have := congrArg List.length (HLS.out us hus he)
      simp at this
      omega
    go_wp2_with fail
    go_ret2
    exact ⟨_, _, [], rfl, .inr ⟨rfl, rfl, HN.out⟩, World.ownsRow_nil _ _ _ _, HB1.out⟩
  have h6b : decide ((256 : Int) < (ls.length : Int)) = false := by simp; omega
  go_wp2_with fail
  go_loopg [6, 26] ls.length (fun gk v i wr => ∃ (k : Nat) (out : List BP), i = .int .i64 k ∧ k ≤ ls.length ∧ out.length = k ∧ ls.length - k ≤ gk ∧ Hid (Prs wr w1.heap.size v out) ∧ Hid (Below w1.heap.size w1 wr) ∧ Hid ((pairsL (out.map un)).length ≤ (joinL ((ls.take k).map tx)).length) ∧ Hid (∀ us : List Pr, okF [] us → b = dictL us → out.map un = us.take k))
  case atStart => exact ⟨0, [], rfl, Nat.zero_le _, rfl, Nat.le_refl _, World.ownsRow_nil _ _ _ _, Below.refl _ _, by show _ ≤ _; simp [pairsL], fun us _ _ => by simp⟩
  case round =>
    obtain ⟨k, out, rfl, hk, hol, hgk, HS, HB2, HSH, HUS⟩ := hrel
    have HB : Hid (Below w.heap.size w wr) := HB1.out.trans (HB2.out.mono HB1.out.size)
    by_cases hlt : k < ls.length
    · obtain ⟨x, hx⟩ : ∃ x, ls[k]? = some x := ⟨_, List.getElem?_eq_getElem hlt⟩
      obtain ⟨g, o, rfl, hg, c0⟩ := (HI1.out.below HB2.out).at hx
      have HX : Hid (ls[k]? = some x) := hx
      have HXS : Hid (x.size ≤ 1073741823) := by
        have h1 : tx x ∈ ls.map tx := List.mem_map_of_mem (List.mem_of_getElem? hx)
        have h2 := congrArg List.length HY1.out
        rw [List.length_append] at h2
        have h3 := mem_join_le h1
        have h4 : (tx x).length = x.size := by simp [tx]
        show _ ≤ _
        omega
      have hxs := HXS.out
      clear hx
      have hsz : w1.heap.size ≤ wr.heap.size := HB2.out.size
      have HLX : Hid (∀ us : List Pr, okF [] us → b = dictL us → ∃ p, us[k]? = some p ∧ keyB p.1 = true ∧ tx x = lineP p) := fun us hus he => by
        have h3 := HLS.out us hus he
        have h4 : (ls.map tx)[k]? = some (tx x) := by simp [HX.out]
        rw [h3, List.getElem?_map] at h4
        obtain ⟨p, h5, h6⟩ := Option.map_eq_some_iff.1 h4
        exact ⟨p, h5, (okF_all us [] hus p (List.mem_of_getElem? h5)).1, h6.symm⟩
      go_wp2_with fail
      go_loopg [9] x.size (fun gk i wq => ∃ j : Nat, i = .int .i64 j ∧ j ≤ x.size ∧ x.size - j ≤ gk ∧ wq = wr ∧ Hid ((58 : UInt8) ∉ (tx x).take j))
      case atStart => exact ⟨0, rfl, Nat.zero_le _, Nat.le_refl _, rfl, by show _ ∉ _; simp⟩
      case round =>
        obtain ⟨j, rfl, hj, hgj, hwq, HNC⟩ := hrel
        subst hwq
        have hxl : (tx x).length = x.size := by simp [tx]
        by_cases hjx : j < x.size
        · by_cases h58 : x[j] = 58
          · have hjb : ((x[j].toNat : Int) != 58) = false := by rw [h58]; rfl
            have HCO : Hid (colonAt (tx x) j) := ⟨by omega, HNC.out, .inr (by rw [at_list x j hjx, h58])⟩
            clear h58
            by_cases h2 : x.size < j + 2
            · have h2b : decide ((x.size : Int) < (j : Int) + 2) = true := by simp; omega
              have HN : Hid (∀ us : List Pr, us.length ≤ 256 → okF [] us → b ≠ dictL us) := fun us _ hus he => by
                obtain ⟨p, _, hp2, hp3⟩ := HLX.out us hus he
                have := (cut_pair HCO.out hp2 hp3).1
                omega
              go_wp2_with fail
              go_ret2
              exact ⟨_, _, [], rfl, .inr ⟨rfl, rfl, HN.out⟩, World.ownsRow_nil _ _ _ _, HB.out⟩
            · have h2b : decide ((x.size : Int) < (j : Int) + 2) = false := by simp; omega
              have hj2 : j + 2 ≤ x.size := by omega
              have hj2i : (j : Int) + 2 ≤ (x.size : Int) := by omega
              have hR : out.length ≤ 1073741823 := by omega
              have hwj : IntKind.i64.wrap ((j : Int) + 2) = (j : Int) + 2 := by rw [IntKind.wrap_i64]; omega
              have htj : ((j : Int) + 2).toNat = j + 2 := by omega
              have h0j : (0 : Int) ≤ (j : Int) + 2 := by omega
              clear h2
              go_wp2_with fail
              go_region_law (refine step_pair rfl (.tmp 47) (.tmp 56) rfl w1.heap.size wr _ out (x.extract 0 j, x.extract (j + 2) x.size) HS.out hsz hR (by simp [Act.eval]) (by simp [Act.eval]) ?_; intro g8 c8 w8 o8 b8)
              have hunP : un (x.extract 0 j, x.extract (j + 2) x.size) = ((tx x).take j, (tx x).drop (j + 2)) := by
                show (tx _, tx _) = _
                rw [ext_tx, ext_tx, List.drop_zero, Nat.sub_zero, List.take_of_length_le (l := (tx x).drop (j + 2)) (by simp)]
              have HO8 : Hid (Prs w8 w1.heap.size (.slice (some ⟨g8, 0, none⟩) (k + 1) c8) (out ++ [(x.extract 0 j, x.extract (j + 2) x.size)])) := by show Prs _ _ _ _; rw [← hol]; exact o8
              have HSH8 : Hid ((pairsL ((out ++ [(x.extract 0 j, x.extract (j + 2) x.size)]).map un)).length ≤ (joinL ((ls.take (k + 1)).map tx)).length) := by
                have h1 := HSH.out
                show _ ≤ _
                rw [List.take_add_one, HX.out, List.map_append, List.map_append, pairs_append, List.map_singleton, hunP]
                simp only [Option.toList_some, List.map_cons, List.map_nil, joinL_snoc, List.length_append, List.length_cons, List.length_nil]
                simp only [pairsL, List.flatMap_cons, List.flatMap_nil, List.append_nil, pair_len, List.length_take, List.length_drop] at h1 ⊢
                omega
              have HUS8 : Hid (∀ us : List Pr, okF [] us → b = dictL us → (out ++ [(x.extract 0 j, x.extract (j + 2) x.size)]).map un = us.take (k + 1)) := fun us hus he => by
                obtain ⟨p, hp1, hp2, hp3⟩ := HLX.out us hus he
                have h3 := cut_pair HCO.out hp2 hp3
                rw [List.map_append, List.map_singleton, hunP, HUS.out us hus he, List.take_add_one, hp1, h3.2.1, h3.2.2]
                rfl
              have HB8 : Hid (Below w1.heap.size w1 w8) := HB2.out.trans b8
              clear hunP o8 b8
              go_wp2_with fail
              go_roundg (ls.length - (k + 1))
              case measure => omega
              case rel => exact ⟨k + 1, _, by go_num, by omega, by rw [List.length_append, hol]; rfl, Nat.le_refl _, HO8.out, HB8.out, HSH8.out, HUS8.out⟩
          · have hjb : ((x[j].toNat : Int) != 58) = true := by
              rw [bne_iff_ne]
              intro e
              exact h58 (UInt8.toNat_inj.1 (by rw [show (58 : UInt8).toNat = 58 from rfl]; omega))
            have HS2 : Hid ((58 : UInt8) ∉ (tx x).take (j + 1)) := by
              show _ ∉ _
              rw [List.take_add_one, at_list x j hjx]
              intro hm
              rcases List.mem_append.1 hm with hm | hm
              · exact HNC.out hm
              · simp at hm; exact h58 hm.symm
            clear h58
            go_wp2_with fail
            go_roundg (x.size - (j + 1))
            case measure => omega
            case rel => exact ⟨j + 1, by go_num, by omega, Nat.le_refl _, rfl, HS2.out⟩
        · have HN : Hid (∀ us : List Pr, us.length ≤ 256 → okF [] us → b ≠ dictL us) := fun us _ hus he => by
            obtain ⟨p, _, hp2, hp3⟩ := HLX.out us hus he
            have := (cut_pair (k := j) ⟨by omega, HNC.out, .inl (by omega)⟩ hp2 hp3).1
            omega
          have h2b : decide ((x.size : Int) < (j : Int) + 2) = true := by simp; omega
          go_wp2_with fail
          go_ret2
          exact ⟨_, _, [], rfl, .inr ⟨rfl, rfl, HN.out⟩, World.ownsRow_nil _ _ _ _, HB.out⟩
    · have HSHA : Hid ((dictL (out.map un)).length < 140737488355328) := by
        have h1 := HSH.out
        rw [List.take_of_length_le (by omega)] at h1
        have h2 := congrArg List.length HY1.out
        rw [List.length_append] at h2
        show _ < _
        unfold dictL
        rw [List.length_append]
        omega
      have HUA : Hid (∀ us : List Pr, okF [] us → b = dictL us → out.map un = us) := fun us hus he => by
        have h1 := HUS.out us hus he
        have h2 := congrArg List.length (HLS.out us hus he)
        rw [List.take_of_length_le (by simp at h2; omega)] at h1
        exact h1
      have HOL : Hid (out.length ≤ 256) := by show _ ≤ _; omega
      clear hol
      obtain ⟨a6, c6, rfl, i6⟩ := HS.out.is (by have := HOL.out; omega)
      have HI6 : Hid (IsPairs wr a6 c6 out) := i6
      clear i6
      obtain ⟨eb, heb⟩ : ∃ eb, dictE (out.map un) = eb := ⟨_, rfl⟩
      have HEB : Hid (dictE (out.map un) = eb) := heb
      clear heb
      by_cases hz : eb = 0
      · obtain rfl := hz
        have HOK : Hid (okF [] (out.map un)) := by
          have h1 := HEB.out
          unfold dictE at h1
          rw [if_neg (by simpa using HOL.out)] at h1
          exact (goE_ok _ _).1 h1
        obtain ⟨sb, hsb⟩ : ∃ sb, decide (dictL (out.map un) = b) = sb := ⟨_, rfl⟩
        have HSB : Hid (decide (dictL (out.map un) = b) = sb) := hsb
        clear hsb
        have HN : Hid (sb = false → ∀ us : List Pr, us.length ≤ 256 → okF [] us → b ≠ dictL us) := fun hsb us _ hus he => by
          have h1 := HUA.out us hus he
          have h2 := HSB.out
          rw [h1, hsb, decide_eq_false_iff_not] at h2
          exact h2 he.symm
        have HY : Hid (sb = true → b = dictL (out.map un)) := fun hsb => by
          have h2 := HSB.out
          rw [hsb, decide_eq_true_eq] at h2
          exact h2.symm
        go_wp2_with (first
          | (go_at_call 20; refine (refDict_any a6 c6 out wr HI6.out HSHA.out).mono ?_; rintro e w7 ⟨a7, c7, rfl, i7, b7⟩; rw [HEB.out, if_pos rfl]; rw [HEB.out, if_pos rfl] at i7; have HI7 : Hid (IsBytes w7 a7 c7 (dictL (out.map un))) := i7; have HB7 : Hid (Below wr.heap.size wr w7) := b7; clear i7 b7)
          | (go_at_call 41; refine (sameR_any a7 a c7 c (dictL (out.map un)) b w7 HI7.out ((HI.out.below HB.out).below HB7.out)).mono ?_; rintro e w8 ⟨rfl, n8, hw8⟩; have HB8 : Hid (Below wr.heap.size wr w8) := (by rw [hw8]; exact below_drewN HB7.out n8); clear hw8; rw [HSB.out]))
        · go_ret2
          rename_i hq
          exact ⟨_, _, [], rfl, .inr ⟨rfl, rfl, HN.out (by simpa using hq)⟩, World.ownsRow_nil _ _ _ _, HB.out.trans (HB8.out.mono HB.out.size)⟩
        · go_ret2
          rename_i hq
          exact ⟨_, _, out, rfl, .inl ⟨rfl, HOL.out, HOK.out, HY.out (by simpa using hq)⟩, (HS.out.below HB8.out).mono HB1.out.size, HB.out.trans (HB8.out.mono HB.out.size)⟩
      · have hzb : (eb != 0) = true := by simpa using hz
        have HN : Hid (∀ us : List Pr, us.length ≤ 256 → okF [] us → b ≠ dictL us) := fun us hl hus he => by
          have h1 := HUA.out us hus he
          have h2 := HEB.out
          rw [h1] at h2
          unfold dictE at h2
          rw [if_neg (by omega), (goE_ok _ _).2 hus] at h2
          exact hz h2.symm
        have HZ : Hid (¬ eb = 0) := hz
        clear hz
        go_wp2_with (first
          | (go_at_call 20; refine (refDict_any a6 c6 out wr HI6.out HSHA.out).mono ?_; rintro e w7 ⟨a7, c7, rfl, i7, b7⟩; rw [HEB.out, if_neg HZ.out]; have HB7 : Hid (Below wr.heap.size wr w7) := b7; clear i7 b7))
        go_ret2
        exact ⟨_, _, [], rfl, .inr ⟨rfl, rfl, HN.out⟩, World.ownsRow_nil _ _ _ _, HB.out.trans (HB7.out.mono HB.out.size)⟩
end Go.Proofs.Ytbeedehloedglaa
