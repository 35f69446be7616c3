/-
  The walk of FiguresReads.
-/
import Derived.Test.YthapbnlcodkalaaDoorFReadKit
import Derived.Test.YthapbnlcodkalaaDoorShown
import Derived.Test.YthapbnlcodkalaaDoorWalkShops
import Derived.BigQuiet
import Derived.Deep.QuietTactic
import Derived.Deep.Cut
namespace Go.Proofs.YthapbnlcodkalaaDoor.figuresReads
open Go.RowKit Go.Sort

theorem keys_no (f : Nat → Int) (dr : Bool) : ∀ p ∈ shopP f dr, p.1 ≠ (⟨#[99, 109, 100, 45, 113, 117, 105, 116]⟩ : ByteArray) := by
  intro p hp e
  have hc : ∀ i, i < 24 → cmdK (i + 1) ≠ ⟨#[99, 109, 100, 45, 113, 117, 105, 116]⟩ := by decide
  simp only [shopP, headP, List.mem_append] at hp
  rcases hp with ((hp | hp) | hp) | hp
  · simp only [sumsP, List.mem_cons, List.not_mem_nil, or_false] at hp
    rcases hp with rfl | rfl | rfl | rfl | rfl <;> (dsimp only at e; revert e; decide)
  · simp only [cmdsP, List.mem_map, List.mem_range] at hp
    obtain ⟨i, hi, rfl⟩ := hp
    exact hc i hi e
  · simp only [tailP, List.mem_cons, List.not_mem_nil, or_false] at hp
    rcases hp with rfl | rfl | rfl | rfl | rfl | rfl | rfl | rfl | rfl | rfl | rfl | rfl | rfl | rfl | rfl <;> (dsimp only at e; revert e; decide)
  · obtain rfl : p = (sDr, trS dr) := by simpa using hp
    dsimp only at e
    revert e
    decide
theorem shop_at (f : Nat → Int) (dr : Bool) : (shopP f dr)[5]? = some (⟨#[99, 109, 100, 45, 112, 117, 116]⟩, prS (f 8)) ∧ (shopP f dr)[28]? = some (⟨#[99, 109, 100, 45, 112, 97, 117, 115, 101, 45, 116, 117, 98, 101]⟩, prS (f 31)) ∧ (shopP f dr)[43]? = some (sMx, prS (f 47)) ∧ (shopP f dr)[37]? = some (sTc, prS (f 35)) ∧ (shopP f dr).length = 45 := by
  have h1 : cmdK 1 = ⟨#[99, 109, 100, 45, 112, 117, 116]⟩ := by decide
  have h24 : cmdK 24 = ⟨#[99, 109, 100, 45, 112, 97, 117, 115, 101, 45, 116, 117, 98, 101]⟩ := by decide
  rw [← h1, ← h24]
  exact ⟨rfl, rfl, rfl, rfl, rfl⟩

set_option maxHeartbeats 8000000 in
set_option maxRecDepth 1000000 in
theorem walk (j : Jb) (a0 : Option Addr) (q0 : Nat) (body : List UInt8) (t : Tb) (s : Sp) (now : Int) (w : World) (h0 : IsBytes w a0 q0 body ∧ j.ok) (h1 : t.ok) (h2 : s.ok) (hn : -9223372036854775808 ≤ now ∧ now ≤ 9223372036854775807) (htabs : PowAt w ∧ VTab w) (hs0 : j.nm.size + body.length ≤ 1048576) (hs1 : t.nm.size ≤ 1048576) :
    Calls Tryd.prog 6 #[.agg (j.cells (.slice a0 body.length q0)), .agg t.cells, .agg s.cells, .int .i64 now] w fun e w' => e = .returned (.bool true) ∧ Below w.heap.size w w' := by
  obtain ⟨htab, hvt⟩ := htabs
  obtain ⟨C0, hC0⟩ : ∃ C, C = j.cells (.slice a0 body.length q0) := ⟨_, rfl⟩
  obtain ⟨C1, hC1⟩ : ∃ C, C = t.cells := ⟨_, rfl⟩
  obtain ⟨C2, hC2⟩ : ∃ C, C = s.cells := ⟨_, rfl⟩
  obtain ⟨D0, hD0⟩ : ∃ D, D = j.dict 3 now := ⟨_, rfl⟩
  obtain ⟨D1, hD1⟩ : ∃ D, D = t.dict now := ⟨_, rfl⟩
  obtain ⟨D2, hD2⟩ : ∃ D, D = s.dict := ⟨_, rfl⟩
  obtain ⟨n0, hn0⟩ : ∃ n, n = D0.length := ⟨_, rfl⟩
  obtain ⟨n1, hn1⟩ : ∃ n, n = D1.length := ⟨_, rfl⟩
  obtain ⟨n2, hn2⟩ : ∃ n, n = D2.length := ⟨_, rfl⟩
  have i3 : I64 3 := by unfold I64; decide
  have CJ : Hid (∀ W, Below w.heap.size w W → Calls Tryd.prog 10 #[.agg C0, .int .i64 3, .int .i64 now] W fun e w' => ∃ a c, e = .returned (.slice a n0 c) ∧ IsBytes w' a c D0 ∧ Below W.heap.size W w') := fun W hb => by
    rw [hC0, hn0, hD0]
    exact (jobW j _ 3 now W (tab_below hb htab) h0.2 i3 hn (by omega)).mono fun e w' ⟨a, c, he, ho, hbw⟩ => ⟨a, c, he, by obtain ⟨a2, c2, e2, i2⟩ := ho.shape; simp only [Value.slice.injEq] at e2; obtain ⟨rfl, _, rfl⟩ := e2; exact i2, hbw⟩
  have CT : Hid (∀ W, Below w.heap.size w W → Calls Tryd.prog 13 #[.agg C1, .int .i64 now] W fun e w' => ∃ a c, e = .returned (.slice a n1 c) ∧ IsBytes w' a c D1 ∧ Below W.heap.size W w') := fun W hb => by
    rw [hC1, hn1, hD1]
    exact (tubeW t now W (tab_below hb htab) h1 hs1).mono fun e w' ⟨a, c, he, ho, hbw⟩ => ⟨a, c, he, by obtain ⟨a2, c2, e2, i2⟩ := ho.shape; simp only [Value.slice.injEq] at e2; obtain ⟨rfl, _, rfl⟩ := e2; exact i2, hbw⟩
  have CH : Hid (∀ W, Below w.heap.size w W → Calls Tryd.prog 15 #[.agg C2] W fun e w' => ∃ a c, e = .returned (.slice a n2 c) ∧ IsBytes w' a c D2 ∧ Below W.heap.size W w') := fun W hb => by
    rw [hC2, hn2, hD2]
    exact (shopW s W (tab_below hb htab) (hvt.below (Nat.le_refl _) hb) h2).mono fun e w' ⟨a, c, he, ho, hbw⟩ => ⟨a, c, he, by obtain ⟨a2, c2, e2, i2⟩ := ho.shape; simp only [Value.slice.injEq] at e2; obtain ⟨rfl, _, rfl⟩ := e2; exact i2, hbw⟩
  have CS : Hid (∀ W, Below w.heap.size w W → Calls Tryd.prog 7 #[] W fun e w' => e = .returned (.bool true) ∧ Below W.heap.size W w') := fun W hb => shown_any W (tab_below hb htab)
  have HLE : Hid (D0.length ≤ 1073741823 ∧ D1.length ≤ 1073741823 ∧ D2.length ≤ 1073741823) := by rw [hD0, hD1, hD2]; exact ⟨Nat.le_trans (j.dict_le 3 now h0.2 i3 (by omega)) (by decide), Nat.le_trans (t.dict_le now h1 hs1) (by decide), Nat.le_trans (s.dict_le h2) (by decide)⟩
  have HNN := hide (And.intro hn0 (And.intro hn1 hn2))
  obtain ⟨pj, hpj⟩ : ∃ ps, ps = j.pairs 3 now := ⟨_, rfl⟩
  obtain ⟨pt, hpt⟩ : ∃ ps, ps = t.pairs now := ⟨_, rfl⟩
  obtain ⟨pq, hpq⟩ : ∃ ps, ps = s.pairs := ⟨_, rfl⟩
  have HDJ : Hid (D0 = if dictE (pj.map un) = 0 then dictL (pj.map un) else []) := by rw [hD0, hpj]; rfl
  have HDT : Hid (D1 = if dictE (pt.map un) = 0 then dictL (pt.map un) else []) := by rw [hD1, hpt]; rfl
  have HDS : Hid (D2 = if dictE (pq.map un) = 0 then dictL (pq.map un) else []) := by rw [hD2, hpq]; rfl
  obtain ⟨id, hid⟩ : ∃ n : Int, n = j.id := ⟨_, rfl⟩
  obtain ⟨pr, hpr⟩ : ∃ n : Int, n = j.pr := ⟨_, rfl⟩
  obtain ⟨ag, hag⟩ : ∃ n : Int, n = (lessI now j.bo) := ⟨_, rfl⟩
  obtain ⟨tr, htr⟩ : ∃ n : Int, n = j.tr := ⟨_, rfl⟩
  obtain ⟨lf, hlf⟩ : ∃ n : Int, n = (tlI j.st j.du now) := ⟨_, rfl⟩
  obtain ⟨c4, hc4⟩ : ∃ n : Int, n = j.c4 := ⟨_, rfl⟩
  obtain ⟨tt, htt⟩ : ∃ n : Int, n = t.tt := ⟨_, rfl⟩
  obtain ⟨u, hu⟩ : ∃ n : Int, n = t.u := ⟨_, rfl⟩
  obtain ⟨wt, hwt⟩ : ∃ n : Int, n = t.wt := ⟨_, rfl⟩
  obtain ⟨pz, hpz⟩ : ∃ n : Int, n = t.pz := ⟨_, rfl⟩
  obtain ⟨f8, hf8⟩ : ∃ n : Int, n = s.f 8 := ⟨_, rfl⟩
  obtain ⟨f31, hf31⟩ : ∃ n : Int, n = s.f 31 := ⟨_, rfl⟩
  obtain ⟨f47, hf47⟩ : ∃ n : Int, n = s.f 47 := ⟨_, rfl⟩
  obtain ⟨f35, hf35⟩ : ∃ n : Int, n = s.f 35 := ⟨_, rfl⟩
  obtain ⟨nmj, hnmj⟩ : ∃ x : ByteArray, x = j.nm := ⟨_, rfl⟩
  obtain ⟨nmt, hnmt⟩ : ∃ x : ByteArray, x = t.nm := ⟨_, rfl⟩
  obtain ⟨du, hdu⟩ : ∃ n : Int, n = j.du := ⟨_, rfl⟩
  obtain ⟨bo, hbo⟩ : ∃ n : Int, n = j.bo := ⟨_, rfl⟩
  have HLF : Hid (0 < lf → lf = wrap64 (du - now)) := by
    show _ → _
    rw [hlf, hdu]
    unfold tlI lessI
    intro h
    split at h
    · split at h
      · omega
      · rw [if_pos (by assumption), if_neg (by assumption)]
    · omega
  have HAG : Hid (0 < ag → ag = wrap64 (now - bo)) := by
    show _ → _
    rw [hag, hbo]
    unfold lessI
    intro h
    split at h
    · omega
    · rw [if_neg (by assumption)]
  have Jid : Hid (okF [] (pj.map un) ∧ pj.length ≤ 256 → ∀ (a : Option Addr) (c B : Nat) (W : World), Prs W B (.slice a 14 c) pj → Calls Tryd.prog 17 #[.slice a 14 c, .string ⟨#[105, 100]⟩, .int .i64 id] W fun e w' => e = .returned (.bool true) ∧ w' = W) := fun ok a c B W hp => by
    have hq : pj[0]? = some (⟨#[105, 100]⟩, prS id) := by rw [hpj, hid]; rfl
    have hl : pj.length = 14 := by rw [hpj]; rfl
    rw [← hl] at hp ⊢
    exact isW ok 0 _ _ (by rw [hid]; exact h0.2.1) hq a c B W hp
  have Jpr : Hid (okF [] (pj.map un) ∧ pj.length ≤ 256 → ∀ (a : Option Addr) (c B : Nat) (W : World), Prs W B (.slice a 14 c) pj → Calls Tryd.prog 17 #[.slice a 14 c, .string ⟨#[112, 114, 105]⟩, .int .i64 pr] W fun e w' => e = .returned (.bool true) ∧ w' = W) := fun ok a c B W hp => by
    have hq : pj[3]? = some (⟨#[112, 114, 105]⟩, prS pr) := by rw [hpj, hpr]; rfl
    have hl : pj.length = 14 := by rw [hpj]; rfl
    rw [← hl] at hp ⊢
    exact isW ok 3 _ _ (by rw [hpr]; exact h0.2.2.1) hq a c B W hp
  have Jag : Hid (okF [] (pj.map un) ∧ pj.length ≤ 256 → ∀ (a : Option Addr) (c B : Nat) (W : World), Prs W B (.slice a 14 c) pj → Calls Tryd.prog 18 #[.slice a 14 c, .string ⟨#[97, 103, 101]⟩] W fun e w' => e = .returned (.tuple #[.int .i64 ag, .bool true]) ∧ w' = W) := fun ok a c B W hp => by
    have hq : pj[4]? = some (⟨#[97, 103, 101]⟩, prS ag) := by rw [hpj, hag]; rfl
    have hl : pj.length = 14 := by rw [hpj]; rfl
    rw [← hl] at hp ⊢
    exact valueW ok 4 _ _ (by rw [hag]; exact lessI_64 _ _) hq a c B W hp
  have Jtr : Hid (okF [] (pj.map un) ∧ pj.length ≤ 256 → ∀ (a : Option Addr) (c B : Nat) (W : World), Prs W B (.slice a 14 c) pj → Calls Tryd.prog 17 #[.slice a 14 c, .string ⟨#[116, 116, 114]⟩, .int .i64 tr] W fun e w' => e = .returned (.bool true) ∧ w' = W) := fun ok a c B W hp => by
    have hq : pj[6]? = some (⟨#[116, 116, 114]⟩, prS tr) := by rw [hpj, htr]; rfl
    have hl : pj.length = 14 := by rw [hpj]; rfl
    rw [← hl] at hp ⊢
    exact isW ok 6 _ _ (by rw [htr]; exact h0.2.2.2.2.1) hq a c B W hp
  have Jlf : Hid (okF [] (pj.map un) ∧ pj.length ≤ 256 → ∀ (a : Option Addr) (c B : Nat) (W : World), Prs W B (.slice a 14 c) pj → Calls Tryd.prog 18 #[.slice a 14 c, .string ⟨#[116, 105, 109, 101, 45, 108, 101, 102, 116]⟩] W fun e w' => e = .returned (.tuple #[.int .i64 lf, .bool true]) ∧ w' = W) := fun ok a c B W hp => by
    have hq : pj[7]? = some (⟨#[116, 105, 109, 101, 45, 108, 101, 102, 116]⟩, prS lf) := by rw [hpj, hlf]; rfl
    have hl : pj.length = 14 := by rw [hpj]; rfl
    rw [← hl] at hp ⊢
    exact valueW ok 7 _ _ (by rw [hlf]; exact tl_64 _ _ _) hq a c B W hp
  have Jfi : Hid (okF [] (pj.map un) ∧ pj.length ≤ 256 → ∀ (a : Option Addr) (c B : Nat) (W : World), Prs W B (.slice a 14 c) pj → Calls Tryd.prog 17 #[.slice a 14 c, .string ⟨#[102, 105, 108, 101]⟩, .int .i64 3] W fun e w' => e = .returned (.bool true) ∧ w' = W) := fun ok a c B W hp => by
    have hq : pj[8]? = some (⟨#[102, 105, 108, 101]⟩, prS 3) := by rw [hpj]; rfl
    have hl : pj.length = 14 := by rw [hpj]; rfl
    rw [← hl] at hp ⊢
    exact isW ok 8 _ _ i3 hq a c B W hp
  have Jc4 : Hid (okF [] (pj.map un) ∧ pj.length ≤ 256 → ∀ (a : Option Addr) (c B : Nat) (W : World), Prs W B (.slice a 14 c) pj → Calls Tryd.prog 17 #[.slice a 14 c, .string ⟨#[107, 105, 99, 107, 115]⟩, .int .i64 c4] W fun e w' => e = .returned (.bool true) ∧ w' = W) := fun ok a c B W hp => by
    have hq : pj[13]? = some (⟨#[107, 105, 99, 107, 115]⟩, prS c4) := by rw [hpj, hc4]; rfl
    have hl : pj.length = 14 := by rw [hpj]; rfl
    rw [← hl] at hp ⊢
    exact isW ok 13 _ _ (by rw [hc4]; exact h0.2.2.2.2.2.2.2.2.2.2.2.2.2.2) hq a c B W hp
  have Ttt : Hid (okF [] (pt.map un) ∧ pt.length ≤ 256 → ∀ (a : Option Addr) (c B : Nat) (W : World), Prs W B (.slice a 14 c) pt → Calls Tryd.prog 17 #[.slice a 14 c, .string ⟨#[116, 111, 116, 97, 108, 45, 106, 111, 98, 115]⟩, .int .i64 tt] W fun e w' => e = .returned (.bool true) ∧ w' = W) := fun ok a c B W hp => by
    have hq : pt[6]? = some (⟨#[116, 111, 116, 97, 108, 45, 106, 111, 98, 115]⟩, prS tt) := by rw [hpt, htt]; rfl
    have hl : pt.length = 14 := by rw [hpt]; rfl
    rw [← hl] at hp ⊢
    exact isW ok 6 _ _ (by rw [htt]; exact h1.2.2.2.2.2.2.2.2.1) hq a c B W hp
  have Tu : Hid (okF [] (pt.map un) ∧ pt.length ≤ 256 → ∀ (a : Option Addr) (c B : Nat) (W : World), Prs W B (.slice a 14 c) pt → Calls Tryd.prog 17 #[.slice a 14 c, .string ⟨#[99, 117, 114, 114, 101, 110, 116, 45, 106, 111, 98, 115, 45, 117, 114, 103, 101, 110, 116]⟩, .int .i64 u] W fun e w' => e = .returned (.bool true) ∧ w' = W) := fun ok a c B W hp => by
    have hq : pt[1]? = some (⟨#[99, 117, 114, 114, 101, 110, 116, 45, 106, 111, 98, 115, 45, 117, 114, 103, 101, 110, 116]⟩, prS u) := by rw [hpt, hu]; rfl
    have hl : pt.length = 14 := by rw [hpt]; rfl
    rw [← hl] at hp ⊢
    exact isW ok 1 _ _ (by rw [hu]; exact h1.2.2.2.2.1) hq a c B W hp
  have Twt : Hid (okF [] (pt.map un) ∧ pt.length ≤ 256 → ∀ (a : Option Addr) (c B : Nat) (W : World), Prs W B (.slice a 14 c) pt → Calls Tryd.prog 17 #[.slice a 14 c, .string ⟨#[99, 117, 114, 114, 101, 110, 116, 45, 119, 97, 105, 116, 105, 110, 103]⟩, .int .i64 wt] W fun e w' => e = .returned (.bool true) ∧ w' = W) := fun ok a c B W hp => by
    have hq : pt[8]? = some (⟨#[99, 117, 114, 114, 101, 110, 116, 45, 119, 97, 105, 116, 105, 110, 103]⟩, prS wt) := by rw [hpt, hwt]; rfl
    have hl : pt.length = 14 := by rw [hpt]; rfl
    rw [← hl] at hp ⊢
    exact isW ok 8 _ _ (by rw [hwt]; exact h1.2.2.2.2.2.2.2.1) hq a c B W hp
  have Tpz : Hid (okF [] (pt.map un) ∧ pt.length ≤ 256 → ∀ (a : Option Addr) (c B : Nat) (W : World), Prs W B (.slice a 14 c) pt → Calls Tryd.prog 17 #[.slice a 14 c, .string ⟨#[112, 97, 117, 115, 101]⟩, .int .i64 pz] W fun e w' => e = .returned (.bool true) ∧ w' = W) := fun ok a c B W hp => by
    have hq : pt[10]? = some (⟨#[112, 97, 117, 115, 101]⟩, prS pz) := by rw [hpt, hpz]; rfl
    have hl : pt.length = 14 := by rw [hpt]; rfl
    rw [← hl] at hp ⊢
    exact isW ok 10 _ _ (by rw [hpz]; exact h1.2.2.2.2.2.2.2.2.2.2.2.1) hq a c B W hp
  have Sf8 : Hid (okF [] (pq.map un) ∧ pq.length ≤ 256 → ∀ (a : Option Addr) (c B : Nat) (W : World), Prs W B (.slice a 45 c) pq → Calls Tryd.prog 17 #[.slice a 45 c, .string ⟨#[99, 109, 100, 45, 112, 117, 116]⟩, .int .i64 f8] W fun e w' => e = .returned (.bool true) ∧ w' = W) := fun ok a c B W hp => by
    have hq : pq[5]? = some (⟨#[99, 109, 100, 45, 112, 117, 116]⟩, prS f8) := by rw [hpq, hf8]; exact (shop_at s.f s.dr).1
    have hl : pq.length = 45 := by rw [hpq]; exact (shop_at s.f s.dr).2.2.2.2
    rw [← hl] at hp ⊢
    exact isW ok 5 _ _ (by rw [hf8]; exact h2 8 (by decide)) hq a c B W hp
  have Sf31 : Hid (okF [] (pq.map un) ∧ pq.length ≤ 256 → ∀ (a : Option Addr) (c B : Nat) (W : World), Prs W B (.slice a 45 c) pq → Calls Tryd.prog 17 #[.slice a 45 c, .string ⟨#[99, 109, 100, 45, 112, 97, 117, 115, 101, 45, 116, 117, 98, 101]⟩, .int .i64 f31] W fun e w' => e = .returned (.bool true) ∧ w' = W) := fun ok a c B W hp => by
    have hq : pq[28]? = some (⟨#[99, 109, 100, 45, 112, 97, 117, 115, 101, 45, 116, 117, 98, 101]⟩, prS f31) := by rw [hpq, hf31]; exact (shop_at s.f s.dr).2.1
    have hl : pq.length = 45 := by rw [hpq]; exact (shop_at s.f s.dr).2.2.2.2
    rw [← hl] at hp ⊢
    exact isW ok 28 _ _ (by rw [hf31]; exact h2 31 (by decide)) hq a c B W hp
  have Sf47 : Hid (okF [] (pq.map un) ∧ pq.length ≤ 256 → ∀ (a : Option Addr) (c B : Nat) (W : World), Prs W B (.slice a 45 c) pq → Calls Tryd.prog 17 #[.slice a 45 c, .string ⟨#[98, 105, 110, 108, 111, 103, 45, 109, 97, 120, 45, 115, 105, 122, 101]⟩, .int .i64 f47] W fun e w' => e = .returned (.bool true) ∧ w' = W) := fun ok a c B W hp => by
    have hq : pq[43]? = some (⟨#[98, 105, 110, 108, 111, 103, 45, 109, 97, 120, 45, 115, 105, 122, 101]⟩, prS f47) := by rw [hpq, hf47]; exact (shop_at s.f s.dr).2.2.1
    have hl : pq.length = 45 := by rw [hpq]; exact (shop_at s.f s.dr).2.2.2.2
    rw [← hl] at hp ⊢
    exact isW ok 43 _ _ (by rw [hf47]; exact h2 47 (by decide)) hq a c B W hp
  have Sf35 : Hid (okF [] (pq.map un) ∧ pq.length ≤ 256 → ∀ (a : Option Addr) (c B : Nat) (W : World), Prs W B (.slice a 45 c) pq → Calls Tryd.prog 17 #[.slice a 45 c, .string ⟨#[116, 111, 116, 97, 108, 45, 99, 111, 110, 110, 101, 99, 116, 105, 111, 110, 115]⟩, .int .i64 f35] W fun e w' => e = .returned (.bool true) ∧ w' = W) := fun ok a c B W hp => by
    have hq : pq[37]? = some (⟨#[116, 111, 116, 97, 108, 45, 99, 111, 110, 110, 101, 99, 116, 105, 111, 110, 115]⟩, prS f35) := by rw [hpq, hf35]; exact (shop_at s.f s.dr).2.2.2.1
    have hl : pq.length = 45 := by rw [hpq]; exact (shop_at s.f s.dr).2.2.2.2
    rw [← hl] at hp ⊢
    exact isW ok 37 _ _ (by rw [hf35]; exact h2 35 (by decide)) hq a c B W hp
  have SQ : Hid (okF [] (pq.map un) ∧ pq.length ≤ 256 → ∀ (a : Option Addr) (c B : Nat) (W : World), Prs W B (.slice a 45 c) pq → Calls Tryd.prog 18 #[.slice a 45 c, .string ⟨#[99, 109, 100, 45, 113, 117, 105, 116]⟩] W fun e w' => e = .returned (.tuple #[.int .i64 0, .bool false]) ∧ w' = W) := fun ok a c B W hp => by
    have hl : pq.length = 45 := by rw [hpq]; exact (shop_at s.f s.dr).2.2.2.2
    rw [← hl] at hp ⊢
    exact noneW ok _ (by omega) (by rw [hpq]; exact keys_no s.f s.dr) a c B W hp
  have HPJ : Hid (pj.length = 14 ∧ pj[0]? = some (⟨#[105, 100]⟩, prS id) ∧ pj[1]? = some (⟨#[116, 117, 98, 101]⟩, nmj)) := by rw [hpj, hid, hnmj]; exact ⟨rfl, rfl, rfl⟩
  have HPT : Hid (pt.length = 14 ∧ pt[0]? = some (⟨#[110, 97, 109, 101]⟩, nmt)) := by rw [hpt, hnmt]; exact ⟨rfl, rfl⟩
  have HPS : Hid (pq.length = 45) := by show _ = _; rw [hpq]; exact (shop_at s.f s.dr).2.2.2.2
  have HC0 : Hid (C0[0]? = some (.int .i64 id) ∧ C0[1]? = some (.int .i64 pr) ∧ C0[3]? = some (.int .i64 tr) ∧ C0[4]? = some (.int .i64 bo) ∧ C0[6]? = some (.int .i64 du) ∧ C0[13]? = some (.int .i64 c4) ∧ C0[14]? = some (.string nmj)) := by rw [hC0, hid, hpr, htr, hbo, hdu, hc4, hnmj]; exact ⟨rfl, rfl, rfl, rfl, rfl, rfl, rfl⟩
  have HC1 : Hid (C1[0]? = some (.string nmt) ∧ C1[5]? = some (.int .i64 u) ∧ C1[8]? = some (.int .i64 wt) ∧ C1[9]? = some (.int .i64 tt) ∧ C1[12]? = some (.int .i64 pz)) := by rw [hC1, hnmt, hu, hwt, htt, hpz]; exact ⟨rfl, rfl, rfl, rfl, rfl⟩
  have HC2 : Hid (C2[8]? = some (.int .i64 f8) ∧ C2[31]? = some (.int .i64 f31) ∧ C2[47]? = some (.int .i64 f47) ∧ C2[35]? = some (.int .i64 f35)) := by rw [hC2, hf8, hf31, hf47, hf35]; exact ⟨s.at 8 (by decide), s.at 31 (by decide), s.at 47 (by decide), s.at 35 (by decide)⟩
  have iC : Hid ((Tryd.prog.info? 26).map (·.size) = some C0.size ∧ (Tryd.prog.info? 38).map (·.size) = some C1.size ∧ (Tryd.prog.info? 43).map (·.size) = some C2.size) := by rw [hC0, hC1, hC2]; exact ⟨info_job, info_tube, by rw [s.size]; exact info_shop⟩
  obtain ⟨wA, hwA⟩ : ∃ wA, wA = ((w.alloc (.cells C0 26)).alloc (.cells C1 38)).alloc (.cells C2 43) := ⟨_, rfl⟩
  obtain ⟨b0, hb0⟩ : ∃ b0, b0 = w.heap.size := ⟨_, rfl⟩
  obtain ⟨b1, hb1⟩ : ∃ b1, b1 = w.heap.size + 1 := ⟨_, rfl⟩
  obtain ⟨b2, hb2⟩ : ∃ b2, b2 = w.heap.size + 1 + 1 := ⟨_, rfl⟩
  have A1 : Hid (Below w.heap.size w wA ∧ wA.heap[b0]? = some (.cells C0 26 (0, 0)) ∧ wA.heap[b1]? = some (.cells C1 38 (0, 0)) ∧ wA.heap[b2]? = some (.cells C2 43 (0, 0))) := by
    refine ⟨by rw [hwA]; exact (((Below.refl _ w).alloc (Nat.le_refl _) _).alloc (by simp) _).alloc (by simp; omega) _, ?_, ?_, ?_⟩
    · rw [hwA, hb0, heap_alloc_old _ _ (by simp; omega), heap_alloc_old _ _ (by simp)]
      exact heap_alloc_new _ _
    · have := heap_alloc_new (w.alloc (.cells C0 26)) (.cells C1 38)
      rw [World.size_alloc] at this
      rw [hwA, hb1, heap_alloc_old _ _ (by simp)]
      exact this
    · have := heap_alloc_new ((w.alloc (.cells C0 26)).alloc (.cells C1 38)) (.cells C2 43)
      rw [World.size_alloc, World.size_alloc, ← hwA] at this
      rw [hb2]
      exact this
  have HWA := hide (And.intro hwA (And.intro hb0 (And.intro hb1 hb2)))
  rw [← hC0, ← hC1, ← hC2]
  clear hC0 hC1 hC2 hD0 hD1 hD2 hn0 hn1 hn2 hwA hb0 hb1 hb2 h0 h1 h2 hs0 hs1 htab hvt hn hpj hpt hpq hid hpr htr hc4 hag hlf htt hu hwt hpz hf8 hf31 hf47 hf35 hnmj hnmt hdu hbo i3
  go_enter Tryd.func6, Tryd.ntmps6
  go_upto_region 1 with fail
  rw [← HWA.out.2.2.2, ← HWA.out.2.2.1, ← HWA.out.2.1, ← HWA.out.1]
  clear HWA
  go_upto_region 2 with (go_at_call 7; refine (CS.out _ A1.out.1).mono ?_; rintro e w1 ⟨rfl, k1⟩; have B1 : Hid (Below wA.heap.size wA w1) := k1; clear k1)
  have L1 := hide (A1.out.1.trans (B1.out.mono A1.out.1.size))
  go_upto_region 3 with (first
    | (refine wpList_load_row rfl 26 (.tmp 4) rfl b0 rfl 26 C0 (0, 0) _ ((B1.out.block b0 (blk_lt A1.out.2.1)).trans A1.out.2.1) Tryd.underlying26 rfl iC.out.1 ?_)
    | (go_at_call 10; refine (CJ.out _ L1.out).mono ?_; rintro e w2 ⟨a10, c10, rfl, y2, k2⟩; have I2 := hide (And.intro y2 k2); clear y2 k2))
  have B2 := hide (B1.out.trans (I2.out.2.mono B1.out.size))
  have L2 := hide (L1.out.trans (I2.out.2.mono L1.out.size))
  go_upto_region 4 with (first
    | (refine wpList_load_row rfl 38 (.tmp 5) rfl b1 rfl 38 C1 (0, 0) _ ((B2.out.block b1 (blk_lt A1.out.2.2.1)).trans A1.out.2.2.1) Tryd.underlying38 rfl iC.out.2.1 ?_)
    | (go_at_call 13; refine (CT.out _ L2.out).mono ?_; rintro e w3 ⟨a11, c11, rfl, y3, k3⟩; have I3 := hide (And.intro y3 k3); clear y3 k3))
  have B3 := hide (B2.out.trans (I3.out.2.mono B2.out.size))
  have L3 := hide (L2.out.trans (I3.out.2.mono L2.out.size))
  go_upto_region 5 with (first
    | (refine wpList_load_row rfl 43 (.tmp 6) rfl b2 rfl 43 C2 (0, 0) _ ((B3.out.block b2 (blk_lt A1.out.2.2.2)).trans A1.out.2.2.2) Tryd.underlying43 rfl iC.out.2.2 ?_)
    | (go_at_call 15; refine (CH.out _ L3.out).mono ?_; rintro e w4 ⟨a12, c12, rfl, y4, k4⟩; have I4 := hide (And.intro y4 k4); clear y4 k4))
  have B4 : Hid (Below wA.heap.size wA w4) := B3.out.trans (I4.out.2.mono B3.out.size)
  have L4 : Hid (Below w.heap.size w w4) := L3.out.trans (I4.out.2.mono L3.out.size)
  have IB : Hid (IsBytes w4 a10 c10 D0 ∧ IsBytes w4 a11 c11 D1 ∧ IsBytes w4 a12 c12 D2) := ⟨(I2.out.1.below I3.out.2).below I4.out.2, I3.out.1.below I4.out.2, I4.out.1⟩
  clear B1 B2 B3 L1 L2 L3 I2 I3 I4 CJ CT CH CS
  go_upto_if 41 with fail
  go_cut [] from 13 (fun wx => Hid (Below w4.heap.size w4 wx))
  case first =>
    as_aux_lemma =>
      by_cases hz : n0 = 0
      · subst hz
        go_wp2_with fail
        go_meet
        case rel => exact Below.refl _ _
      · have OKX : Hid (okF [] (pj.map un) ∧ pj.length ≤ 256) := ok_dict HDJ.out (by rw [← HNN.out.1]; exact hz)
        have RD : Hid (Calls Tryd.prog 16 #[.slice a10 n0 c10] w4 fun e w' => ∃ a2 c2, e = .returned (.tuple #[.slice a2 14 c2, .int .i64 0]) ∧ Prs w' w4.heap.size (.slice a2 14 c2) pj ∧ Below w4.heap.size w4 w') := by
          have := readDictW pj a10 c10 n0 D0 w4 IB.out.1 HNN.out.1 HDJ.out hz HLE.out.1
          rw [HPJ.out.1] at this
          exact this
        have hz1 : (0 : Int) < (n0 : Int) := by omega
        go_upto_region 9 with (go_at_call 16; refine RD.out.mono ?_; rintro e w5 ⟨a2, c2, rfl, p5, k5⟩; have P5 := hide (And.intro p5 k5); clear p5 k5)
        have B5 : Below wA.heap.size wA w5 := B4.out.trans (P5.out.2.mono B4.out.size)
        have G5 : w5.heap[b0]? = some (.cells C0 26 (0, 0)) := (B5.block b0 (blk_lt A1.out.2.1)).trans A1.out.2.1
        obtain ⟨g, hg2, hg, hcell⟩ := P5.out.1.pair (by rw [HPJ.out.1]; decide) (by rw [HPJ.out.1]; decide)
        subst hg2
        have e0 : w5.cell? ⟨g, 0, none⟩ = some (.string ⟨#[105, 100]⟩) := (hcell 0 _ HPJ.out.2.1).1
        have e2 : w5.cell? ⟨g, 2, none⟩ = some (.string ⟨#[116, 117, 98, 101]⟩) := (hcell 1 _ HPJ.out.2.2).1
        have e3 : w5.cell? ⟨g, 3, none⟩ = some (.string nmj) := (hcell 1 _ HPJ.out.2.2).2
        have x0 : w5.cell? ⟨b0, 0, none⟩ = some (.int .i64 id) := (cell_of_row w5 b0 0 C0 _ (0, 0) G5).trans HC0.out.1
        have x1 : w5.cell? ⟨b0, 1, none⟩ = some (.int .i64 pr) := (cell_of_row w5 b0 1 C0 _ (0, 0) G5).trans HC0.out.2.1
        have x3 : w5.cell? ⟨b0, 3, none⟩ = some (.int .i64 tr) := (cell_of_row w5 b0 3 C0 _ (0, 0) G5).trans HC0.out.2.2.1
        have x4 : w5.cell? ⟨b0, 4, none⟩ = some (.int .i64 bo) := (cell_of_row w5 b0 4 C0 _ (0, 0) G5).trans HC0.out.2.2.2.1
        have x6 : w5.cell? ⟨b0, 6, none⟩ = some (.int .i64 du) := (cell_of_row w5 b0 6 C0 _ (0, 0) G5).trans HC0.out.2.2.2.2.1
        have x13 : w5.cell? ⟨b0, 13, none⟩ = some (.int .i64 c4) := (cell_of_row w5 b0 13 C0 _ (0, 0) G5).trans HC0.out.2.2.2.2.2.1
        have x14 : w5.cell? ⟨b0, 14, none⟩ = some (.string nmj) := (cell_of_row w5 b0 14 C0 _ (0, 0) G5).trans HC0.out.2.2.2.2.2.2
        clear hcell hg hz G5 B5 RD
        go_upto_region 10 with (first
          | (go_at_call_of 17 id; refine (Jid.out OKX.out _ _ _ _ P5.out.1).mono ?_; rintro e w6 ⟨rfl, hw6⟩; obtain rfl := hw6.symm)
          | (go_at_call_of 17 pr; refine (Jpr.out OKX.out _ _ _ _ P5.out.1).mono ?_; rintro e w6 ⟨rfl, hw6⟩; obtain rfl := hw6.symm)
          | (go_at_call_of 17 tr; refine (Jtr.out OKX.out _ _ _ _ P5.out.1).mono ?_; rintro e w6 ⟨rfl, hw6⟩; obtain rfl := hw6.symm)
          | (go_at_call_of 17 c4; refine (Jc4.out OKX.out _ _ _ _ P5.out.1).mono ?_; rintro e w6 ⟨rfl, hw6⟩; obtain rfl := hw6.symm)
          | (go_at_call 17; refine (Jfi.out OKX.out _ _ _ _ P5.out.1).mono ?_; rintro e w6 ⟨rfl, hw6⟩; obtain rfl := hw6.symm))
        go_quiet (fail)
        obtain ⟨w7, hw7⟩ : ∃ w7, w7 = w5.drewN nq := ⟨_, rfl⟩
        rw [← hw7]
        have k7 : Below w5.heap.size w5 w7 := by rw [hw7]; exact below_drewM _ w5 nq
        have P7 := hide (And.intro (P5.out.1.below k7) (P5.out.2.trans (k7.mono P5.out.2.size)))
        have z4 := below_cell k7 x4
        have z6 := below_cell k7 x6
        clear hw7 k7 P5 e0 e2 e3 x0 x1 x3 x4 x6 x13 x14
        go_upto_region 13 with (go_at_call 18; refine (Jlf.out OKX.out _ _ _ _ P7.out.1).mono ?_; rintro e w8 ⟨rfl, hw8⟩; obtain rfl := hw8.symm)
        go_upto_region 14 with (go_at_call 18; refine (Jag.out OKX.out _ _ _ _ P7.out.1).mono ?_; rintro e w8 ⟨rfl, hw8⟩; obtain rfl := hw8.symm)
        by_cases hl : 0 < lf
        · have q1 : (lf != wrap64 (du - now)) = false := bne_eq_false_iff_eq.2 (HLF.out hl)
          by_cases ha : 0 < ag
          · have q2 : (ag != wrap64 (now - bo)) = false := bne_eq_false_iff_eq.2 (HAG.out ha)
            go_wp2_with fail
            go_meet
            case rel => exact P7.out.2
          · have ha2 : ag ≤ 0 := by omega
            go_wp2_with fail
            go_meet
            case rel => exact P7.out.2
        · have hl2 : lf ≤ 0 := by omega
          by_cases ha : 0 < ag
          · have q2 : (ag != wrap64 (now - bo)) = false := bne_eq_false_iff_eq.2 (HAG.out ha)
            go_wp2_with fail
            go_meet
            case rel => exact P7.out.2
          · have ha2 : ag ≤ 0 := by omega
            go_wp2_with fail
            go_meet
            case rel => exact P7.out.2
  case rest =>
    have hc1 := hcut.out
    clear hcut HDJ Jid Jpr Jag Jtr Jlf Jfi Jc4 HLF HAG HC0 HPJ
    go_upto_if 150 with fail
    go_cut [] from 20 (fun wx => Hid (Below w4.heap.size w4 wx))
    case first =>
      as_aux_lemma =>
        by_cases hz : n1 = 0
        · subst hz
          go_wp2_with fail
          go_meet
          case rel => exact hc1
        · have OKX : Hid (okF [] (pt.map un) ∧ pt.length ≤ 256) := ok_dict HDT.out (by rw [← HNN.out.2.1]; exact hz)
          have RD : Hid (Calls Tryd.prog 16 #[.slice a11 n1 c11] wc fun e w' => ∃ a2 c2, e = .returned (.tuple #[.slice a2 14 c2, .int .i64 0]) ∧ Prs w' wc.heap.size (.slice a2 14 c2) pt ∧ Below wc.heap.size wc w') := by
            have := readDictW pt a11 c11 n1 D1 wc (IB.out.2.1.below hc1) HNN.out.2.1 HDT.out hz HLE.out.2.1
            rw [HPT.out.1] at this
            exact this
          have hz1 : (0 : Int) < (n1 : Int) := by omega
          go_upto_region 18 with (go_at_call 16; refine RD.out.mono ?_; rintro e w5 ⟨a2, c2, rfl, p5, k5⟩; have P5 := hide (And.intro p5 k5); clear p5 k5)
          have R5 := hide (hc1.trans (P5.out.2.mono hc1.size))
          have B5 : Below wA.heap.size wA w5 := B4.out.trans (R5.out.mono B4.out.size)
          have G5 : w5.heap[b1]? = some (.cells C1 38 (0, 0)) := (B5.block b1 (blk_lt A1.out.2.2.1)).trans A1.out.2.2.1
          obtain ⟨g, hg2, hg, hcell⟩ := P5.out.1.pair (by rw [HPT.out.1]; decide) (by rw [HPT.out.1]; decide)
          subst hg2
          have e0 : w5.cell? ⟨g, 0, none⟩ = some (.string ⟨#[110, 97, 109, 101]⟩) := (hcell 0 _ HPT.out.2).1
          have e1 : w5.cell? ⟨g, 1, none⟩ = some (.string nmt) := (hcell 0 _ HPT.out.2).2
          clear hcell hg
          have x0 : w5.cell? ⟨b1, 0, none⟩ = some (.string nmt) := (cell_of_row w5 b1 0 C1 _ (0, 0) G5).trans HC1.out.1
          have x5 : w5.cell? ⟨b1, 5, none⟩ = some (.int .i64 u) := (cell_of_row w5 b1 5 C1 _ (0, 0) G5).trans HC1.out.2.1
          have x8 : w5.cell? ⟨b1, 8, none⟩ = some (.int .i64 wt) := (cell_of_row w5 b1 8 C1 _ (0, 0) G5).trans HC1.out.2.2.1
          have x9 : w5.cell? ⟨b1, 9, none⟩ = some (.int .i64 tt) := (cell_of_row w5 b1 9 C1 _ (0, 0) G5).trans HC1.out.2.2.2.1
          have x12 : w5.cell? ⟨b1, 12, none⟩ = some (.int .i64 pz) := (cell_of_row w5 b1 12 C1 _ (0, 0) G5).trans HC1.out.2.2.2.2
          clear hz G5 B5 RD
          go_upto_region 19 with (first
            | (go_at_call_of 17 tt; refine (Ttt.out OKX.out _ _ _ _ P5.out.1).mono ?_; rintro e w6 ⟨rfl, hw6⟩; obtain rfl := hw6.symm)
            | (go_at_call_of 17 u; refine (Tu.out OKX.out _ _ _ _ P5.out.1).mono ?_; rintro e w6 ⟨rfl, hw6⟩; obtain rfl := hw6.symm)
            | (go_at_call_of 17 wt; refine (Twt.out OKX.out _ _ _ _ P5.out.1).mono ?_; rintro e w6 ⟨rfl, hw6⟩; obtain rfl := hw6.symm)
            | (go_at_call_of 17 pz; refine (Tpz.out OKX.out _ _ _ _ P5.out.1).mono ?_; rintro e w6 ⟨rfl, hw6⟩; obtain rfl := hw6.symm))
          go_quiet (fail)
          obtain ⟨w7, hw7⟩ : ∃ w7, w7 = w5.drewN nq := ⟨_, rfl⟩
          rw [← hw7]
          have k7 : Below w5.heap.size w5 w7 := by rw [hw7]; exact below_drewM _ w5 nq
          have R7 := hide (R5.out.trans (k7.mono R5.out.size))
          clear hw7 k7 P5 e0 e1 x0 x5 x8 x9 x12
          go_wp2_with fail
          go_meet
          case rel => exact R7.out
    case rest =>
      have hc1 := hcut.out
      clear hcut HDT Ttt Tu Twt Tpz HC1 HPT
      go_upto_if 208 with fail
      go_cut [] from 23 (fun wx => Hid (Below w4.heap.size w4 wx))
      case first =>
        as_aux_lemma =>
          by_cases hz : n2 = 0
          · subst hz
            go_wp2_with fail
            go_meet
            case rel => exact hc1
          · have OKX : Hid (okF [] (pq.map un) ∧ pq.length ≤ 256) := ok_dict HDS.out (by rw [← HNN.out.2.2]; exact hz)
            have RD : Hid (Calls Tryd.prog 16 #[.slice a12 n2 c12] wc fun e w' => ∃ a2 c2, e = .returned (.tuple #[.slice a2 45 c2, .int .i64 0]) ∧ Prs w' wc.heap.size (.slice a2 45 c2) pq ∧ Below wc.heap.size wc w') := by
              have := readDictW pq a12 c12 n2 D2 wc (IB.out.2.2.below hc1) HNN.out.2.2 HDS.out hz HLE.out.2.2
              rw [HPS.out] at this
              exact this
            have hz1 : (0 : Int) < (n2 : Int) := by omega
            go_upto_region 23 with (go_at_call 16; refine RD.out.mono ?_; rintro e w5 ⟨a2, c2, rfl, p5, k5⟩; have P5 := hide (And.intro p5 k5); clear p5 k5)
            have R5 := hide (hc1.trans (P5.out.2.mono hc1.size))
            have B5 : Below wA.heap.size wA w5 := B4.out.trans (R5.out.mono B4.out.size)
            have G5 : w5.heap[b2]? = some (.cells C2 43 (0, 0)) := (B5.block b2 (blk_lt A1.out.2.2.2)).trans A1.out.2.2.2
            have x8 : w5.cell? ⟨b2, 8, none⟩ = some (.int .i64 f8) := (cell_of_row w5 b2 8 C2 _ (0, 0) G5).trans HC2.out.1
            have x31 : w5.cell? ⟨b2, 31, none⟩ = some (.int .i64 f31) := (cell_of_row w5 b2 31 C2 _ (0, 0) G5).trans HC2.out.2.1
            have x47 : w5.cell? ⟨b2, 47, none⟩ = some (.int .i64 f47) := (cell_of_row w5 b2 47 C2 _ (0, 0) G5).trans HC2.out.2.2.1
            have x35 : w5.cell? ⟨b2, 35, none⟩ = some (.int .i64 f35) := (cell_of_row w5 b2 35 C2 _ (0, 0) G5).trans HC2.out.2.2.2
            clear hz G5 B5 RD
            go_upto_region 24 with (first
              | (go_at_call_of 17 f8; refine (Sf8.out OKX.out _ _ _ _ P5.out.1).mono ?_; rintro e w6 ⟨rfl, hw6⟩; obtain rfl := hw6.symm)
              | (go_at_call_of 17 f31; refine (Sf31.out OKX.out _ _ _ _ P5.out.1).mono ?_; rintro e w6 ⟨rfl, hw6⟩; obtain rfl := hw6.symm)
              | (go_at_call_of 17 f47; refine (Sf47.out OKX.out _ _ _ _ P5.out.1).mono ?_; rintro e w6 ⟨rfl, hw6⟩; obtain rfl := hw6.symm)
              | (go_at_call_of 17 f35; refine (Sf35.out OKX.out _ _ _ _ P5.out.1).mono ?_; rintro e w6 ⟨rfl, hw6⟩; obtain rfl := hw6.symm))
            go_upto_region 25 with (go_at_call 18; refine (SQ.out OKX.out _ _ _ _ P5.out.1).mono ?_; rintro e w8 ⟨rfl, hw8⟩; obtain rfl := hw8.symm)
            clear x8 x31 x47 x35
            go_wp2_with fail
            go_meet
            case rel => exact R5.out
      case rest =>
        have hc1 := hcut.out
        go_wp2_with fail
        go_ret
        exact ⟨rfl, L4.out.trans (hc1.mono L4.out.size)⟩
end Go.Proofs.YthapbnlcodkalaaDoor.figuresReads
