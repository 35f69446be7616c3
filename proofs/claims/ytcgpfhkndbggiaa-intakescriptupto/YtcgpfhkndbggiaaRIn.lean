/-
  The document's intake in memory; its Feed.
-/
import Derived.Test.YtcgpfhkndbggiaaRefPure6
import Derived.Test.YtcgpfhkndbggiaaMineK
import Derived.Deep.WholeRow
namespace Go.Proofs.Ytcgpfhkndbggiaa
open Go.RowKit

def RBox (W : World) (rb : Nat) (m : Int) (md : Nat) (v : Value) (n : Int) (cr ed : Bool) : Prop := W.heap[rb]? = some (.cells #[.int .i64 m, .int .i64 (md : Int), v, .int .i64 n, .bool cr, .bool ed] 78 (0, 0))
/-- The document's intake at rb is as s says; what it holds stands in v. -/
def RfAt (W : World) (rb : Nat) (v : Value) (s : In) : Prop := ∃ n cr ed, RBox W rb s.most s.stand v n cr ed ∧ Own W 0 v s.held ∧ RLike s n cr ed ∧ 0 ≤ n ∧ n ≤ 4294967297
def WentR (w : World) (rb : Nat) (v : Value) (s' : In) (w' : World) : Prop := ∃ v', RfAt w' rb v' s' ∧ Kept (Mine rb v) w w' ∧ ∀ k, Mine rb v' k → Mine rb v k ∨ w.heap.size ≤ k

section
variable {W W' : World} {rb : Nat} {m : Int} {md : Nat} {v : Value} {n : Int} {cr ed : Bool} {s : In}
theorem RBox.lt (h : RBox W rb m md v n cr ed) : rb < W.heap.size := (Array.getElem?_eq_some_iff.1 h).1
theorem RBox.cell (h : RBox W rb m md v n cr ed) : W.cell? ⟨rb, 0, none⟩ = some (.int .i64 m) ∧ W.cell? ⟨rb, 1, none⟩ = some (.int .i64 (md : Int)) ∧ W.cell? ⟨rb, 2, none⟩ = some v ∧ W.cell? ⟨rb, 3, none⟩ = some (.int .i64 n) ∧ W.cell? ⟨rb, 4, none⟩ = some (.bool cr) ∧ W.cell? ⟨rb, 5, none⟩ = some (.bool ed) := by
  unfold RBox at h
  simp [World.cell?, h]
theorem RBox.free (h : RBox W rb m md v n cr ed) (i : Nat) : W.frozen? ⟨rb, i, none⟩ = false := by
  unfold RBox at h
  simp [World.frozen?, h]
theorem RBox.setMode (h : RBox W rb m md v n cr ed) (k : Nat) : RBox (W.setCell ⟨rb, 1, none⟩ (.int .i64 (k : Int))) rb m k v n cr ed := (set_cells h 1 (.int .i64 (k : Int))).1
theorem RBox.setHeld (h : RBox W rb m md v n cr ed) (u : Value) : RBox (W.setCell ⟨rb, 2, none⟩ u) rb m md u n cr ed := (set_cells h 2 u).1
theorem RBox.setN (h : RBox W rb m md v n cr ed) (k : Int) : RBox (W.setCell ⟨rb, 3, none⟩ (.int .i64 k)) rb m md v k cr ed := (set_cells h 3 (.int .i64 k)).1
theorem RBox.setCr (h : RBox W rb m md v n cr ed) (b : Bool) : RBox (W.setCell ⟨rb, 4, none⟩ (.bool b)) rb m md v n b ed := (set_cells h 4 (.bool b)).1
theorem RBox.setEd (h : RBox W rb m md v n cr ed) (b : Bool) : RBox (W.setCell ⟨rb, 5, none⟩ (.bool b)) rb m md v n cr b := (set_cells h 5 (.bool b)).1
theorem RBox.kept {P : Nat → Prop} (h : RBox W rb m md v n cr ed) (hk : Kept P W W') (hP : ¬ P rb) : RBox W' rb m md v n cr ed := (hk.block rb h.lt hP).trans h
/-- Bytes of its own are not the struct. -/
theorem RBox.apart (h : RBox W rb m md v n cr ed) {u : Value} {l : List UInt8} (ho : Own W 0 u l) : u.ownBlock ≠ some rb := by
  intro e
  rcases ho.2 with ⟨rfl, _⟩ | ⟨g, cap, cur, rfl, _, hg, _⟩
  · cases e
  · simp only [Value.ownBlock, Option.some.injEq] at e
    subst e
    unfold RBox at h
    rw [h] at hg
    simp at hg
theorem RfAt.lt (h : RfAt W rb v s) : ∀ k, Mine rb v k → k < W.heap.size := by
  obtain ⟨n, cr, ed, hb, ho, _⟩ := h
  rintro k (rfl | hk)
  · exact hb.lt
  · exact (ho.lt k hk).2
theorem RfAt.kept {P : Nat → Prop} (h : RfAt W rb v s) (hk : Kept P W W') (hP : ∀ k, Mine rb v k → ¬ P k) : RfAt W' rb v s := by
  obtain ⟨n, cr, ed, hb, ho, rest⟩ := h
  exact ⟨n, cr, ed, hb.kept hk (hP rb (.inl rfl)), hk.own ho (fun k hk => hP k (.inr hk)), rest⟩
theorem RfAt.below (h : RfAt W rb v s) (hb : Below W.heap.size W W') : RfAt W' rb v s := h.kept (Kept.ofBelow (P := fun _ => False) hb) (fun _ _ h => h)
end
theorem WentR.trans {w w1 w2 : World} {rb : Nat} {v v1 : Value} {s2 : In} (hk : Kept (Mine rb v) w w1) (hn : ∀ k, Mine rb v1 k → Mine rb v k ∨ w.heap.size ≤ k) (h : WentR w1 rb v1 s2 w2) : WentR w rb v s2 w2 := by
  obtain ⟨v2, h2, k2, n2⟩ := h
  refine ⟨v2, h2, hk.step k2 (fun j hj h => (hn j h).elim id (fun h => by omega)), fun k h => ?_⟩
  rcases n2 k h with h | h
  · exact hn k h
  · exact .inr (Nat.le_trans hk.size h)
theorem beq_byte (x : UInt8) (k : Nat) (hk : k < 256) : ((x.toNat : Int) == (k : Int)) = (x == UInt8.ofNat k) := by
  rw [Bool.eq_iff_iff, beq_iff_eq, beq_iff_eq]
  constructor
  · intro h
    apply UInt8.toNat_inj.1
    rw [UInt8.toNat_ofNat']
    omega
  · intro h
    rw [h, UInt8.toNat_ofNat']
    omega

/-- A byte in the newest block. -/
theorem one_byte (w : World) (x : UInt8) : IsBytes (w.alloc (.cells #[.int .u8 (x.toNat : Int)] 5)) (some ⟨w.heap.size, 0, none⟩) 1 [x] := by
  refine ⟨by simp, by unfold maxLen; decide, .inr ⟨_, 0, rfl, by simp, fun j y hj => ?_⟩⟩
  have hj0 : j = 0 := by have := (List.getElem?_eq_some_iff.1 hj).1; simp at this; omega
  subst hj0
  simp only [List.getElem?_cons_zero, Option.some.injEq] at hj
  subst hj
  unfold World.cell?
  rw [heap_alloc_last]
  rfl
/-- The struct behind an append onto what it holds. -/
theorem RBox.grown {wr w2 : World} {rb : Nat} {m : Int} {md : Nat} {v1 : Value} {n : Int} {cr ed : Bool} {l : List UInt8} {o : Obj} (h : RBox wr rb m md v1 n cr ed) (ho : Own wr 0 v1 l) (hg : (wr.alloc o).grownBy w2 v1.ownBlock) : RBox w2 rb m md v1 n cr ed := by
  have h1 : (wr.alloc o).heap[rb]? = wr.heap[rb]? := ((Below.refl _ wr).alloc (Nat.le_refl _) o).block rb h.lt
  have h2 := hg.block rb (by have := h.lt; simp; omega) (fun e => h.apart ho e.symm)
  exact h2.trans (h1.trans h)
theorem fed_held {w wr w2 : World} {rb : Nat} {v v1 v2 : Value} {t t' : In} {x : UInt8} {n : Int} {cr ed : Bool} {o : Obj} (hb : RBox wr rb t.most t.stand v1 n cr ed) (ho : Own wr 0 v1 t.held) (hk : Kept (Mine rb v) w wr) (hm : ∀ q, Mine rb v1 q → Mine rb v q ∨ w.heap.size ≤ q)
    (o2 : Own w2 0 v2 (t.held ++ [x])) (hg : (wr.alloc o).grownBy w2 v1.ownBlock) (hv : v2.ownBlock = v1.ownBlock ∨ v2.ownBlock = some (wr.alloc o).heap.size)
    (g : t'.stand = t.stand ∧ t'.held = t.held ++ [x] ∧ t'.most = t.most ∧ RLike t' n cr ed) (hn0 : 0 ≤ n) (hn1 : n ≤ 4294967297) :
    RfAt (w2.setCell ⟨rb, 2, none⟩ v2) rb v2 t' ∧ Kept (Mine rb v) w (w2.setCell ⟨rb, 2, none⟩ v2) ∧ ∀ q, Mine rb v2 q → Mine rb v q ∨ w.heap.size ≤ q := by
  have b2 := hb.grown ho hg
  have k1 : Kept (fun _ => False) wr (wr.alloc o) := Kept.ofBelow ((Below.refl _ wr).alloc (Nat.le_refl _) _)
  have k2 : Kept (fun q => some q = v1.ownBlock) (wr.alloc o) w2 := Kept.ofGrown hg (fun g hg => hg.symm)
  have k3 : Kept (fun q => q = rb) w2 (w2.setCell ⟨rb, 2, none⟩ v2) := Kept.setCell _ _ _ _ _ rfl
  have hs : (wr.alloc o).heap.size = wr.heap.size + 1 := by simp
  refine ⟨⟨n, cr, ed, ?_, ?_, g.2.2.2, hn0, hn1⟩, ?_, ?_⟩
  · rw [g.1, g.2.2.1]
    exact b2.setHeld v2
  · rw [g.2.1]
    exact k3.own o2 (fun g hg e => b2.apart o2 (by rw [hg, e]))
  · refine ((hk.step k1 (fun q _ h => h.elim)).step k2 (fun q hq e => ?_)).step k3 (fun q _ e => .inl e)
    rcases hm q (.inr e.symm) with h | h
    · exact h
    · omega
  · rintro q (rfl | hq)
    · exact .inl (.inl rfl)
    · rcases hv with hv | hv
      · exact hm q (.inr (hv.symm.trans hq))
      · rw [hv] at hq
        simp only [Option.some.injEq] at hq
        have := hk.size
        exact .inr (by omega)

set_option maxHeartbeats 4000000 in
set_option maxRecDepth 1000000 in
theorem refFeed_any (w : World) (rb : Nat) (v : Value) (s : In) (a : Option Addr) (c : Nat) (b : List UInt8) (h : RfAt w rb v s) (hb : IsBytes w a c b) (hap : ∀ g o, a = some ⟨g, o, none⟩ → b ≠ [] → ¬ Mine rb v g) (hl : s.held.length + b.length ≤ 8589934592) :
    Calls Try.prog 44 #[.pointer (some ⟨rb, 0, none⟩), .slice a b.length c] w fun e w' => e = .returned (.tuple #[]) ∧ WentR w rb v (s.feed b) w' := by
  have HH := hide h
  have HB := hide hb
  have HAP : Hid (∀ g o, a = some ⟨g, o, none⟩ → b ≠ [] → ¬ Mine rb v g) := hap
  have hbc := hb.1
  have hcm := hb.2.1
  unfold maxLen at hcm
  have F0 : Hid (s.feed (b.take 0) = s) := by rw [List.take_zero]; exact feed_nil s
  have FA : Hid (s.feed (b.take b.length) = s.feed b) := by rw [List.take_length]; rfl
  have FT : Hid (∀ k x, b[k]? = some x → s.feed (b.take (k + 1)) = (s.feed (b.take k)).feed [x]) := fun k x hx => feed_take s b k x hx
  have FL : Hid (∀ k, (s.feed (b.take k)).held.length ≤ s.held.length + b.length) := by
    intro k
    unfold In.feed
    simp only [List.length_append, List.length_drop, List.length_take]
    omega
  clear h hb hap
  go_enter Try.func44, Try.ntmps44
  go_wp2_with fail
  go_loopw [8] (fun i wr => ∃ (k : Nat) (v1 : Value), k ≤ b.length ∧ i = .int .i64 k ∧ Hid (RfAt wr rb v1 (s.feed (b.take k)) ∧ Kept (Mine rb v) w wr ∧ ∀ q, Mine rb v1 q → Mine rb v q ∨ w.heap.size ≤ q)) (fun i _ => b.length - (intOf i).toNat)
  case atStart => exact ⟨0, v, Nat.zero_le _, rfl, by rw [F0.out]; exact ⟨HH.out, Kept.refl _ _, fun q hq => .inl hq⟩⟩
  case round =>
    obtain ⟨k, v1, hk, rfl, HR⟩ := hrel
    by_cases hlt : k < b.length
    · obtain ⟨x, hx⟩ : ∃ x, b[k]? = some x := ⟨_, List.getElem?_eq_getElem hlt⟩
      rcases HB.out.2.2 with h0 | ⟨g, o, rfl, hg, hc⟩
      · rw [h0] at hlt; simp at hlt
      have cx : wr.cell? ⟨g, o + k, none⟩ = some (.int .u8 (x.toNat : Int)) := (World.cell?_of_block (HR.out.2.1.block g hg (HAP.out g o rfl (fun e => by rw [e] at hlt; simp at hlt)))).trans (hc k x hx)
      have FX := hide (FT.out k x hx)
      have hfl := FL.out k
      obtain ⟨t, ht⟩ : ∃ t, t = s.feed (b.take k) := ⟨_, rfl⟩
      rw [← ht] at HR FX hfl
      obtain ⟨n, cr, ed, hbx, how, hlk, hn0, hn1⟩ := HR.out.1
      have HBX := hide hbx
      have HOW := hide how
      have HLK := hide hlk
      obtain ⟨c0, c1, c2, c3, c4, c5⟩ := hbx.cell
      have f2 := hbx.free 2
      have f3 := hbx.free 3
      have f4 := hbx.free 4
      have f5 := hbx.free 5
      have hltb := hbx.lt
      have hltg := cell_lt cx
      have hkb : (k : Int) < (b.length : Int) := by omega
      clear hx hc ht hbx how hlk HH F0 FT FL
      by_cases hA : t.stand = 1 ∧ ed = false
      · obtain ⟨hA1, rfl⟩ := hA
        obtain ⟨g1, g2, g3, g4⟩ := feed_long (c := x) HLK.out hA1
        rw [← FX.out] at g1 g2 g3 g4
        rw [hA1] at c1 HBX
        cases cr with
        | true =>
          obtain ⟨y, hy⟩ : ∃ y, y = (x == 10) := ⟨_, rfl⟩
          obtain ⟨z, hz⟩ : ∃ z, z = (x == 13) := ⟨_, rfl⟩
          have e10 : ((x.toNat : Int) == 10) = y := by rw [hy]; exact beq_byte x 10 (by decide)
          have e13 : ((x.toNat : Int) == 13) = z := by rw [hz]; exact beq_byte x 13 (by decide)
          have G := hide (And.intro g1 (And.intro g2 (And.intro g3 (show RLike (s.feed (b.take (k + 1))) n z (true && y) by rw [hy, hz]; exact g4))))
          clear hy hz g1 g2 g3 g4 hA1
          go_wp2_with fail
          go_roundw
          case rel =>
            have kk := (Kept.setCell (fun q => q = rb) wr rb 5 (.bool y) rfl).trans (Kept.setCell _ _ rb 4 (.bool z) rfl)
            have ow := kk.own HOW.out (fun g hg e => HBX.out.apart HOW.out (by rw [hg, e]))
            refine ⟨k + 1, v1, by omega, by go_num, ⟨n, z, true && y, ?_, ?_, G.out.2.2.2, hn0, hn1⟩, HR.out.2.1.step kk (fun q _ e => .inl e), HR.out.2.2⟩
            · rw [G.out.1, G.out.2.2.1]
              exact (HBX.out.setEd y).setCr z
            · rw [G.out.2.1]
              exact ow
          case measure => simp [intOf]; omega
        | false =>
          obtain ⟨z, hz⟩ : ∃ z, z = (x == 13) := ⟨_, rfl⟩
          have e13 : ((x.toNat : Int) == 13) = z := by rw [hz]; exact beq_byte x 13 (by decide)
          have G := hide (And.intro g1 (And.intro g2 (And.intro g3 (show RLike (s.feed (b.take (k + 1))) n z false by rw [hz]; exact g4))))
          clear hz g1 g2 g3 g4 hA1
          go_wp2_with fail
          go_roundw
          case rel =>
            have kk := (Kept.setCell (fun q => q = rb) wr rb 5 (.bool false) rfl).trans (Kept.setCell _ _ rb 4 (.bool z) rfl)
            have ow := kk.own HOW.out (fun g hg e => HBX.out.apart HOW.out (by rw [hg, e]))
            refine ⟨k + 1, v1, by omega, by go_num, ⟨n, z, false, ?_, ?_, G.out.2.2.2, hn0, hn1⟩, HR.out.2.1.step kk (fun q _ e => .inl e), HR.out.2.2⟩
            · rw [G.out.1, G.out.2.2.1]
              exact (HBX.out.setEd false).setCr z
            · rw [G.out.2.1]
              exact ow
          case measure => simp [intOf]; omega
      · by_cases hB : t.stand = 3 ∧ 0 < n
        · obtain ⟨hB1, hB2⟩ := hB
          obtain ⟨g1, g2, g3, g4⟩ := feed_big (c := x) HLK.out hB1 hB2
          rw [← FX.out] at g1 g2 g3 g4
          rw [hB1] at c1 HBX
          have G := hide (And.intro g1 (And.intro g2 (And.intro g3 g4)))
          clear g1 g2 g3 g4 hB1 hA
          go_wp2_with fail
          go_roundw
          case rel =>
            have kk := Kept.setCell (fun q => q = rb) wr rb 3 (.int .i64 (n - 1)) rfl
            have ow := kk.own HOW.out (fun g hg e => HBX.out.apart HOW.out (by rw [hg, e]))
            refine ⟨k + 1, v1, by omega, by go_num, ⟨n - 1, cr, ed, ?_, ?_, G.out.2.2.2, by omega, by omega⟩, HR.out.2.1.step kk (fun q _ e => .inl e), HR.out.2.2⟩
            · rw [G.out.1, G.out.2.2.1]
              exact HBX.out.setN (n - 1)
            · rw [G.out.2.1]
              exact ow
          case measure => simp [intOf]; omega
        · obtain ⟨g1, g2, g3, g4⟩ := feed_held (c := x) HLK.out hA hB
          rw [← FX.out] at g1 g2 g3 g4
          have G := hide (And.intro g1 (And.intro g2 (And.intro g3 g4)))
          have OA : Hid (Own (wr.alloc (.cells #[.int .u8 (x.toNat : Int)] 5)) 0 v1 t.held) := HOW.out.below ((Below.refl _ wr).alloc (Nat.le_refl _) _)
          clear g1 g2 g3 g4
          by_cases s1 : t.stand = 1
          · have hed : ed = true := by cases ed with | true => rfl | false => exact absurd ⟨s1, rfl⟩ hA
            subst hed
            rw [s1] at c1
            clear hA hB s1
            go_wp2_with (refine wpList_append8 rfl (.tmp 63) (.tmp 65) rfl 0 v1 t.held rfl OA.out (some ⟨wr.heap.size, 0, none⟩) 1 [x] rfl (one_byte wr x) (by simp only [List.length_singleton]; omega) (Nat.zero_le _) ?_; intro v2 w2 own2 gr2 _ hv2 _; obtain ⟨a2, cc2, hs2, _⟩ := own2.shape; obtain ⟨ln, hln⟩ : ∃ ln, ln = (t.held ++ [x]).length := ⟨_, rfl⟩; rw [← hln] at hs2; subst hs2; clear hln; have GG := hide (And.intro own2 (And.intro gr2 hv2)); have bx2 := HBX.out.grown HOW.out gr2; obtain ⟨_, _, d2, _, _, _⟩ := bx2.cell; have e2 := bx2.free 2; have hlt2 := bx2.lt; clear own2 gr2 hv2 bx2)
            go_roundw
            case rel => exact ⟨k + 1, _, by omega, by go_num, fed_held HBX.out HOW.out HR.out.2.1 HR.out.2.2 GG.out.1 GG.out.2.1 GG.out.2.2 G.out hn0 hn1⟩
            case measure => simp [intOf]; omega
          · by_cases s3 : t.stand = 3
            · have hn : decide (n > 0) = false := decide_eq_false (fun h => hB ⟨s3, h⟩)
              have hn2 : decide (0 < n) = false := hn
              rw [s3] at c1
              clear hA hB s1 s3
              go_wp2_with (refine wpList_append8 rfl (.tmp 63) (.tmp 65) rfl 0 v1 t.held rfl OA.out (some ⟨wr.heap.size, 0, none⟩) 1 [x] rfl (one_byte wr x) (by simp only [List.length_singleton]; omega) (Nat.zero_le _) ?_; intro v2 w2 own2 gr2 _ hv2 _; obtain ⟨a2, cc2, hs2, _⟩ := own2.shape; obtain ⟨ln, hln⟩ : ∃ ln, ln = (t.held ++ [x]).length := ⟨_, rfl⟩; rw [← hln] at hs2; subst hs2; clear hln; have GG := hide (And.intro own2 (And.intro gr2 hv2)); have bx2 := HBX.out.grown HOW.out gr2; obtain ⟨_, _, d2, _, _, _⟩ := bx2.cell; have e2 := bx2.free 2; have hlt2 := bx2.lt; clear own2 gr2 hv2 bx2)
              go_roundw
              case rel => exact ⟨k + 1, _, by omega, by go_num, fed_held HBX.out HOW.out HR.out.2.1 HR.out.2.2 GG.out.1 GG.out.2.1 GG.out.2.2 G.out hn0 hn1⟩
              case measure => simp [intOf]; omega
            · have q1 : ((t.stand : Int) == 1) = false := beq_eq_false_iff_ne.2 (by omega)
              have q3 : ((t.stand : Int) == 3) = false := beq_eq_false_iff_ne.2 (by omega)
              clear hA hB s1 s3
              go_wp2_with (refine wpList_append8 rfl (.tmp 63) (.tmp 65) rfl 0 v1 t.held rfl OA.out (some ⟨wr.heap.size, 0, none⟩) 1 [x] rfl (one_byte wr x) (by simp only [List.length_singleton]; omega) (Nat.zero_le _) ?_; intro v2 w2 own2 gr2 _ hv2 _; obtain ⟨a2, cc2, hs2, _⟩ := own2.shape; obtain ⟨ln, hln⟩ : ∃ ln, ln = (t.held ++ [x]).length := ⟨_, rfl⟩; rw [← hln] at hs2; subst hs2; clear hln; have GG := hide (And.intro own2 (And.intro gr2 hv2)); have bx2 := HBX.out.grown HOW.out gr2; obtain ⟨_, _, d2, _, _, _⟩ := bx2.cell; have e2 := bx2.free 2; have hlt2 := bx2.lt; clear own2 gr2 hv2 bx2)
              go_roundw
              case rel => exact ⟨k + 1, _, by omega, by go_num, fed_held HBX.out HOW.out HR.out.2.1 HR.out.2.2 GG.out.1 GG.out.2.1 GG.out.2.2 G.out hn0 hn1⟩
              case measure => simp [intOf]; omega
    · obtain rfl : k = b.length := by omega
      rw [FA.out] at HR
      go_wp2_with fail
      go_end0
      exact ⟨rfl, v1, HR.out⟩
end Go.Proofs.Ytcgpfhkndbggiaa
