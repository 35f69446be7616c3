/-
  The walk of VerbsReads.
-/
import Derived.Test.YtfecbepleeoibaaDoorRefParseV
import Derived.Test.YtfecbepleeoibaaDoorSame
namespace Go.Proofs.YtfecbepleeoibaaDoor.verbsReads
open Go.RowKit Go.Lib

set_option maxHeartbeats 4000000 in
set_option maxRecDepth 1000000 in
theorem walk (x0 x1 : ByteArray) (w : World) (_f0 : x0.size ≤ maxLen) (_f1 : x1.size ≤ maxLen) (T : Tabs w) (h0 : x0.size ≤ 1048576) (h1 : x1.size ≤ 1048576) :
    Calls Tryd.prog 4 #[.string x0, .string x1] w fun e w' => e = .returned (.bool true) ∧ Below w.heap.size w w' := by
  have HT := hide T
  have HP0 := hide fun w T => parseV_any x0 w T (by omega)
  have HP1 := hide fun w T => parseV_any x1 w T (by omega)
  have HR0 := hide fun w => refParseV_any x0 w (by omega)
  have HR1 := hide fun w => refParseV_any x1 w (by omega)
  clear T _f0 _f1 h0 h1
  obtain ⟨c, hc⟩ : ∃ c, parseC x0.data.toList = c := ⟨_, rfl⟩
  obtain ⟨d, hd⟩ : ∃ d, parseC x1.data.toList = d := ⟨_, rfl⟩
  obtain ⟨ce, hce⟩ : ∃ ce, parseE x0.data.toList = ce := ⟨_, rfl⟩
  obtain ⟨de, hde⟩ : ∃ de, parseE x1.data.toList = de := ⟨_, rfl⟩
  rw [hc, hce] at HP0 HR0
  rw [hd, hde] at HP1 HR1
  clear hc hd hce hde
  have HSC := hide fun w => same_refl c w
  have HSD := hide fun w => same_refl d w
  obtain ⟨c0, c1, c2, c3, c4, c5, c6⟩ := c
  obtain ⟨d0, d1, d2, d3, d4, d5, d6⟩ := d
  unfold cmdV at *
  go_enter Tryd.func4, Tryd.ntmps4
  go_wp2_with (go_at_call 9; refine (shown_any _ HT.out).mono ?_; rintro e w1 ⟨rfl, B1⟩; have HT1 := hide (HT.out.below B1); have HB1 := hide B1; clear B1)
  refine (HP0.out _ HT1.out).mono ?_
  rintro e w2 ⟨rfl, B2⟩
  have HTa2 := hide (HT1.out.below B2)
  have HBa2 : Hid (Below w.heap.size w w2) := HB1.out.trans (B2.mono HB1.out.size)
  clear B2
  go_wp2_with fail
  obtain ⟨v2, hv2⟩ : ∃ v, v = w2.alloc (.cells #[.int .i64 c0, .int .i64 c1, .int .i64 c2, .int .i64 c3, .int .i64 c4, .int .i64 c5, .string ⟨c6.toArray⟩, .slice none 0 0] 27) := ⟨_, rfl⟩
  rw [← hv2]
  have HVAv2 : Hid (v2.heap[w2.heap.size]? = some (.cells #[.int .i64 c0, .int .i64 c1, .int .i64 c2, .int .i64 c3, .int .i64 c4, .int .i64 c5, .string ⟨c6.toArray⟩, .slice none 0 0] 27 (0, 0))) := by show v2.heap[w2.heap.size]? = _; rw [hv2]; exact heap_alloc_new _ _
  have HT2 : Hid (Tabs v2) := by show Tabs v2; rw [hv2]; exact HTa2.out.alloc _
  have HB2 : Hid (Below w.heap.size w v2) := by show Below _ _ _; rw [hv2]; exact HBa2.out.alloc HBa2.out.size _
  clear hv2
  refine (HP1.out _ HT2.out).mono ?_
  rintro e w3 ⟨rfl, B3⟩
  have HTa3 := hide (HT2.out.below B3)
  have HBa3 : Hid (Below w.heap.size w w3) := HB2.out.trans (B3.mono HB2.out.size)
  have HGA3 := hide ((B3.block _ (Array.getElem?_eq_some_iff.1 HVAv2.out).1).trans HVAv2.out)
  clear B3
  go_wp2_with fail
  obtain ⟨v3, hv3⟩ : ∃ v, v = w3.alloc (.cells #[.int .i64 d0, .int .i64 d1, .int .i64 d2, .int .i64 d3, .int .i64 d4, .int .i64 d5, .string ⟨d6.toArray⟩, .slice none 0 0] 27) := ⟨_, rfl⟩
  rw [← hv3]
  have HVBv3 : Hid (v3.heap[w3.heap.size]? = some (.cells #[.int .i64 d0, .int .i64 d1, .int .i64 d2, .int .i64 d3, .int .i64 d4, .int .i64 d5, .string ⟨d6.toArray⟩, .slice none 0 0] 27 (0, 0))) := by show v3.heap[w3.heap.size]? = _; rw [hv3]; exact heap_alloc_new _ _
  have HT3 : Hid (Tabs v3) := by show Tabs v3; rw [hv3]; exact HTa3.out.alloc _
  have HB3 : Hid (Below w.heap.size w v3) := by show Below _ _ _; rw [hv3]; exact HBa3.out.alloc HBa3.out.size _
  have HVAv3 : Hid (v3.heap[w2.heap.size]? = some (.cells #[.int .i64 c0, .int .i64 c1, .int .i64 c2, .int .i64 c3, .int .i64 c4, .int .i64 c5, .string ⟨c6.toArray⟩, .slice none 0 0] 27 (0, 0))) := by show v3.heap[w2.heap.size]? = _; rw [hv3]; exact alloc_heap HGA3.out
  clear hv3
  refine (HP0.out _ HT3.out).mono ?_
  rintro e w4 ⟨rfl, B4⟩
  have HTa4 := hide (HT3.out.below B4)
  have HBa4 : Hid (Below w.heap.size w w4) := HB3.out.trans (B4.mono HB3.out.size)
  have HGA4 := hide ((B4.block _ (Array.getElem?_eq_some_iff.1 HVAv3.out).1).trans HVAv3.out)
  have HGB4 := hide ((B4.block _ (Array.getElem?_eq_some_iff.1 HVBv3.out).1).trans HVBv3.out)
  clear B4
  go_wp2_with fail
  obtain ⟨v4, hv4⟩ : ∃ v, v = w4.alloc (.cells #[.int .i64 c0, .int .i64 c1, .int .i64 c2, .int .i64 c3, .int .i64 c4, .int .i64 c5, .string ⟨c6.toArray⟩, .slice none 0 0] 27) := ⟨_, rfl⟩
  rw [← hv4]
  have HVCv4 : Hid (v4.heap[w4.heap.size]? = some (.cells #[.int .i64 c0, .int .i64 c1, .int .i64 c2, .int .i64 c3, .int .i64 c4, .int .i64 c5, .string ⟨c6.toArray⟩, .slice none 0 0] 27 (0, 0))) := by show v4.heap[w4.heap.size]? = _; rw [hv4]; exact heap_alloc_new _ _
  have HT4 : Hid (Tabs v4) := by show Tabs v4; rw [hv4]; exact HTa4.out.alloc _
  have HB4 : Hid (Below w.heap.size w v4) := by show Below _ _ _; rw [hv4]; exact HBa4.out.alloc HBa4.out.size _
  have HVAv4 : Hid (v4.heap[w2.heap.size]? = some (.cells #[.int .i64 c0, .int .i64 c1, .int .i64 c2, .int .i64 c3, .int .i64 c4, .int .i64 c5, .string ⟨c6.toArray⟩, .slice none 0 0] 27 (0, 0))) := by show v4.heap[w2.heap.size]? = _; rw [hv4]; exact alloc_heap HGA4.out
  have HVBv4 : Hid (v4.heap[w3.heap.size]? = some (.cells #[.int .i64 d0, .int .i64 d1, .int .i64 d2, .int .i64 d3, .int .i64 d4, .int .i64 d5, .string ⟨d6.toArray⟩, .slice none 0 0] 27 (0, 0))) := by show v4.heap[w3.heap.size]? = _; rw [hv4]; exact alloc_heap HGB4.out
  clear hv4
  refine (HR0.out _).mono ?_
  rintro e w5 ⟨rfl, B5⟩
  have HTa5 := hide (HT4.out.below B5)
  have HBa5 : Hid (Below w.heap.size w w5) := HB4.out.trans (B5.mono HB4.out.size)
  have HGA5 := hide ((B5.block _ (Array.getElem?_eq_some_iff.1 HVAv4.out).1).trans HVAv4.out)
  have HGB5 := hide ((B5.block _ (Array.getElem?_eq_some_iff.1 HVBv4.out).1).trans HVBv4.out)
  have HGC5 := hide ((B5.block _ (Array.getElem?_eq_some_iff.1 HVCv4.out).1).trans HVCv4.out)
  clear B5
  go_wp2_with fail
  obtain ⟨v5, hv5⟩ : ∃ v, v = w5.alloc (.cells #[.int .i64 c0, .int .i64 c1, .int .i64 c2, .int .i64 c3, .int .i64 c4, .int .i64 c5, .string ⟨c6.toArray⟩, .slice none 0 0] 27) := ⟨_, rfl⟩
  rw [← hv5]
  have HVXv5 : Hid (v5.heap[w5.heap.size]? = some (.cells #[.int .i64 c0, .int .i64 c1, .int .i64 c2, .int .i64 c3, .int .i64 c4, .int .i64 c5, .string ⟨c6.toArray⟩, .slice none 0 0] 27 (0, 0))) := by show v5.heap[w5.heap.size]? = _; rw [hv5]; exact heap_alloc_new _ _
  have HT5 : Hid (Tabs v5) := by show Tabs v5; rw [hv5]; exact HTa5.out.alloc _
  have HB5 : Hid (Below w.heap.size w v5) := by show Below _ _ _; rw [hv5]; exact HBa5.out.alloc HBa5.out.size _
  have HVAv5 : Hid (v5.heap[w2.heap.size]? = some (.cells #[.int .i64 c0, .int .i64 c1, .int .i64 c2, .int .i64 c3, .int .i64 c4, .int .i64 c5, .string ⟨c6.toArray⟩, .slice none 0 0] 27 (0, 0))) := by show v5.heap[w2.heap.size]? = _; rw [hv5]; exact alloc_heap HGA5.out
  have HVBv5 : Hid (v5.heap[w3.heap.size]? = some (.cells #[.int .i64 d0, .int .i64 d1, .int .i64 d2, .int .i64 d3, .int .i64 d4, .int .i64 d5, .string ⟨d6.toArray⟩, .slice none 0 0] 27 (0, 0))) := by show v5.heap[w3.heap.size]? = _; rw [hv5]; exact alloc_heap HGB5.out
  have HVCv5 : Hid (v5.heap[w4.heap.size]? = some (.cells #[.int .i64 c0, .int .i64 c1, .int .i64 c2, .int .i64 c3, .int .i64 c4, .int .i64 c5, .string ⟨c6.toArray⟩, .slice none 0 0] 27 (0, 0))) := by show v5.heap[w4.heap.size]? = _; rw [hv5]; exact alloc_heap HGC5.out
  clear hv5
  refine (HR1.out _).mono ?_
  rintro e w6 ⟨rfl, B6⟩
  have HTa6 := hide (HT5.out.below B6)
  have HBa6 : Hid (Below w.heap.size w w6) := HB5.out.trans (B6.mono HB5.out.size)
  have HGA6 := hide ((B6.block _ (Array.getElem?_eq_some_iff.1 HVAv5.out).1).trans HVAv5.out)
  have HGB6 := hide ((B6.block _ (Array.getElem?_eq_some_iff.1 HVBv5.out).1).trans HVBv5.out)
  have HGC6 := hide ((B6.block _ (Array.getElem?_eq_some_iff.1 HVCv5.out).1).trans HVCv5.out)
  have HGX6 := hide ((B6.block _ (Array.getElem?_eq_some_iff.1 HVXv5.out).1).trans HVXv5.out)
  clear B6
  obtain ⟨a0, a1, a2, a3, a4, a5, a6, a7, _⟩ := eight HGA6.out
  obtain ⟨b0, b1, b2, b3, b4, b5, b6, b7, _⟩ := eight HGX6.out
  have la := (Array.getElem?_eq_some_iff.1 HGA6.out).1
  have lb := (Array.getElem?_eq_some_iff.1 HGX6.out).1
  go_wp2_with fail
  obtain ⟨v6, hv6⟩ : ∃ v, v = w6.alloc (.cells #[.int .i64 d0, .int .i64 d1, .int .i64 d2, .int .i64 d3, .int .i64 d4, .int .i64 d5, .string ⟨d6.toArray⟩, .slice none 0 0] 27) := ⟨_, rfl⟩
  rw [← hv6]
  have HVYv6 : Hid (v6.heap[w6.heap.size]? = some (.cells #[.int .i64 d0, .int .i64 d1, .int .i64 d2, .int .i64 d3, .int .i64 d4, .int .i64 d5, .string ⟨d6.toArray⟩, .slice none 0 0] 27 (0, 0))) := by show v6.heap[w6.heap.size]? = _; rw [hv6]; exact heap_alloc_new _ _
  have HT6 : Hid (Tabs v6) := by show Tabs v6; rw [hv6]; exact HTa6.out.alloc _
  have HB6 : Hid (Below w.heap.size w v6) := by show Below _ _ _; rw [hv6]; exact HBa6.out.alloc HBa6.out.size _
  have HVAv6 : Hid (v6.heap[w2.heap.size]? = some (.cells #[.int .i64 c0, .int .i64 c1, .int .i64 c2, .int .i64 c3, .int .i64 c4, .int .i64 c5, .string ⟨c6.toArray⟩, .slice none 0 0] 27 (0, 0))) := by show v6.heap[w2.heap.size]? = _; rw [hv6]; exact alloc_heap HGA6.out
  have HVBv6 : Hid (v6.heap[w3.heap.size]? = some (.cells #[.int .i64 d0, .int .i64 d1, .int .i64 d2, .int .i64 d3, .int .i64 d4, .int .i64 d5, .string ⟨d6.toArray⟩, .slice none 0 0] 27 (0, 0))) := by show v6.heap[w3.heap.size]? = _; rw [hv6]; exact alloc_heap HGB6.out
  have HVCv6 : Hid (v6.heap[w4.heap.size]? = some (.cells #[.int .i64 c0, .int .i64 c1, .int .i64 c2, .int .i64 c3, .int .i64 c4, .int .i64 c5, .string ⟨c6.toArray⟩, .slice none 0 0] 27 (0, 0))) := by show v6.heap[w4.heap.size]? = _; rw [hv6]; exact alloc_heap HGC6.out
  have HVXv6 : Hid (v6.heap[w5.heap.size]? = some (.cells #[.int .i64 c0, .int .i64 c1, .int .i64 c2, .int .i64 c3, .int .i64 c4, .int .i64 c5, .string ⟨c6.toArray⟩, .slice none 0 0] 27 (0, 0))) := by show v6.heap[w5.heap.size]? = _; rw [hv6]; exact alloc_heap HGX6.out
  clear hv6 a0 a1 a2 a3 a4 a5 a6 a7 b0 b1 b2 b3 b4 b5 b6 b7 la lb
  refine (HSC.out _).mono ?_
  rintro e w7 ⟨rfl, B7⟩
  have HB7 : Hid (Below w.heap.size w w7) := HB6.out.trans (B7.mono HB6.out.size)
  have HGB7 := hide ((B7.block _ (Array.getElem?_eq_some_iff.1 HVBv6.out).1).trans HVBv6.out)
  have HGY7 := hide ((B7.block _ (Array.getElem?_eq_some_iff.1 HVYv6.out).1).trans HVYv6.out)
  have HGC7 := hide ((B7.block _ (Array.getElem?_eq_some_iff.1 HVCv6.out).1).trans HVCv6.out)
  have HGX7 := hide ((B7.block _ (Array.getElem?_eq_some_iff.1 HVXv6.out).1).trans HVXv6.out)
  clear B7
  obtain ⟨a0, a1, a2, a3, a4, a5, a6, a7, _⟩ := eight HGB7.out
  obtain ⟨b0, b1, b2, b3, b4, b5, b6, b7, _⟩ := eight HGY7.out
  go_wp2_with fail
  clear a0 a1 a2 a3 a4 a5 a6 a7 b0 b1 b2 b3 b4 b5 b6 b7
  refine (HSD.out _).mono ?_
  rintro e w8 ⟨rfl, B8⟩
  have HB8 : Hid (Below w.heap.size w w8) := HB7.out.trans (B8.mono HB7.out.size)
  have HGC8 := hide ((B8.block _ (Array.getElem?_eq_some_iff.1 HGC7.out).1).trans HGC7.out)
  have HGX8 := hide ((B8.block _ (Array.getElem?_eq_some_iff.1 HGX7.out).1).trans HGX7.out)
  clear B8
  obtain ⟨a0, a1, a2, a3, a4, a5, a6, a7, _⟩ := eight HGC8.out
  obtain ⟨b0, b1, b2, b3, b4, b5, b6, b7, _⟩ := eight HGX8.out
  go_wp2_with fail
  refine (HSC.out _).mono ?_
  rintro e w9 ⟨rfl, B9⟩
  have HB9 : Hid (Below w.heap.size w w9) := HB8.out.trans (B9.mono HB8.out.size)
  clear B9
  go_wp2_with fail
  all_goals go_ret
  all_goals exact ⟨by simp, HB9.out⟩
end Go.Proofs.YtfecbepleeoibaaDoor.verbsReads
