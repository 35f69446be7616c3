/-
  The walk of QueueShares.
-/
import Derived.Test.YtpnbmokgjinnbaaCloneL
import Derived.Test.YtpnbmokgjinnbaaShown
import Derived.Test.YtpnbmokgjinnbaaAppend
import Derived.Test.YtpnbmokgjinnbaaBase
import Derived.Test.YtpnbmokgjinnbaaRound
namespace Go.Proofs.Ytpnbmokgjinnbaa.queueShares
open Go.RowKit

theorem info_int : (Try.prog.info? 3).map (fun i => (i.zero, i.size, i.bytes)) = some (some (.int .i64 0), 1, 8) := by kernel_rfl
theorem ints_src {w : World} {b : Option Addr} {c : Nat} {zs : List Int} (h : IsInts w b c zs) : (b = none ∧ zs.length = 0) ∨ ∃ p, b = some p ∧ ∀ j u, (zs.map (Value.int .i64))[j]? = some u → w.cell? (p.add j) = some u := by
  obtain ⟨_, _, _, h3⟩ := h
  rcases h3 with rfl | ⟨b', o, rfl, _, hc⟩
  · cases b with
    | none => exact .inl ⟨rfl, rfl⟩
    | some p => exact .inr ⟨p, rfl, fun j u hj => by simp at hj⟩
  · refine .inr ⟨_, rfl, fun j u hj => ?_⟩
    rw [List.getElem?_map] at hj
    obtain ⟨x, hx, rfl⟩ := Option.map_eq_some_iff.1 hj
    have := hc j x hx
    cases j with
    | zero => simpa [Addr.add] using this
    | succ j => simpa [Addr.add] using this
theorem ints_below {w w' : World} {b : Option Addr} {c : Nat} {zs : List Int} (h : IsInts w b c zs) (hB : Below w.heap.size w w') : IsInts w' b c zs := by
  refine ⟨h.1, h.2.1, h.2.2.1, ?_⟩
  rcases h.2.2.2 with h | ⟨b', o, h1, h2, h3⟩
  · exact .inl h
  · exact .inr ⟨b', o, h1, Nat.lt_of_lt_of_le h2 hB.size, fun j x hj => (hB.cell (p := ⟨b', o + j, none⟩) h2).trans (h3 j x hj)⟩
theorem lit_row (w : World) (B : Nat) (hB : B ≤ w.heap.size) (x : Int) : (w.alloc (.cells #[.int .i64 x] 3)).ownsRow B 3 1 (.slice (some ⟨w.heap.size, 0, none⟩) 1 1) 1 [.int .i64 x] :=
  ⟨rfl, .inr ⟨w.heap.size, 1, _, rfl, hB, heap_alloc_new w _, Nat.le_refl _, by simp [maxLen], rfl, rfl⟩⟩

/-- What lies about the queues. -/
structure Lying (w W : World) (to : Int) (ab bo m cap : Nat) (x : Value) : Prop where
  b3 : W.heap[w.heap.size]? = some (.cells #[.int .i64 to] 3 (0, 0))
  b4 : W.heap[w.heap.size + 1]? = some (.cells #[.bool false] 4 (0, 0))
  b7 : W.heap[bo]? = some (.cells #[.slice (some ⟨ab, 0, none⟩) m cap] 32 (0, 0))
  row : ∃ cur : Array Value, W.heap[ab]? = some (.cells cur 3 (0, 0)) ∧ cur[0]? = some x
  lt : w.heap.size + 2 ≤ ab
theorem Lying.kept {w W W' : World} {to : Int} {ab bo m cap : Nat} {x : Value} (h : Lying w W to ab bo m cap x) {P : Nat → Prop} (hk : Kept P W W') (hP : ∀ (k : Nat) (c : Array Value) (t : TypeId), W.heap[k]? = some (.cells c t (0, 0)) → t = 3 ∨ t = 4 ∨ t = 32 → ¬ P k) : Lying w W' to ab bo m cap x := by
  have go : ∀ (k : Nat) (c : Array Value) (t : TypeId), W.heap[k]? = some (.cells c t (0, 0)) → t = 3 ∨ t = 4 ∨ t = 32 → W'.heap[k]? = some (.cells c t (0, 0)) := fun k c t hc ht => (hk.block k (Array.getElem?_eq_some_iff.1 hc).1 (hP k c t hc ht)).trans hc
  obtain ⟨cur, h1, h2⟩ := h.row
  exact ⟨go _ _ _ h.b3 (.inl rfl), go _ _ _ h.b4 (.inr (.inl rfl)), go _ _ _ h.b7 (.inr (.inr rfl)), ⟨cur, go _ _ _ h1 (.inl rfl), h2⟩, h.lt⟩
theorem Lying.below {w W W' : World} {to : Int} {ab bo m cap : Nat} {x : Value} (h : Lying w W to ab bo m cap x) (hb : Below W.heap.size W W') : Lying w W' to ab bo m cap x := h.kept (P := fun _ => False) (Kept.ofBelow hb) (fun _ _ _ _ _ h => h)
theorem Lying.queue {w W W' : World} {to : Int} {ab bo m cap : Nat} {x : Value} (h : Lying w W to ab bo m cap x) {qb mb : Nat} {g : Int} {R : List Stand} (q : QueueAtL W qb mb g R) (hk : Kept (Mine qb mb R) W W') : Lying w W' to ab bo m cap x :=
  h.kept hk (fun k c t hc ht => by rcases ht with rfl | rfl | rfl <;> exact q.not hc (by decide) (by decide))
theorem Lying.other {w W W' : World} {to : Int} {ab bo m cap bm : Nat} {x : Value} (h : Lying w W to ab bo m cap x) (hk : Kept (fun k => k = bm) W W') (hm : ∃ c, W.heap[bm]? = some (.cells c 3 (0, 0))) (hl : ab < bm) : Lying w W' to ab bo m cap x := by
  obtain ⟨cur, h1, h2⟩ := h.row
  obtain ⟨c, hc⟩ := hm
  have hlt := h.lt
  have go : ∀ k (o : Obj), W.heap[k]? = some o → k ≠ bm → W'.heap[k]? = some o := fun k o ho hne => (hk.block k (Array.getElem?_eq_some_iff.1 ho).1 hne).trans ho
  refine ⟨go _ _ h.b3 (by omega), go _ _ h.b4 (by omega), go _ _ h.b7 (fun e => ?_), ⟨cur, go _ _ h1 (by omega), h2⟩, h.lt⟩
  have := h.b7
  rw [e, hc] at this
  simp at this
theorem view_one {C : List Stand} {t : Int} {v : Value} (h : view C = [(t, v)]) : ∃ b, C = [⟨b, t, v⟩] := by
  cases C with
  | nil => simp [view] at h
  | cons r C =>
    cases C with
    | cons s C => simp [view] at h
    | nil =>
      obtain ⟨b, t', v'⟩ := r
      simp only [view, List.map_cons, List.map_nil, List.cons.injEq, Prod.mk.injEq, and_true] at h
      obtain ⟨rfl, rfl⟩ := h
      exact ⟨b, rfl⟩

attribute [local go_sem] Oper.semAt_some wide_fn
set_option maxHeartbeats 8000000 in
set_option maxRecDepth 1000000 in
theorem walk (b : Option Addr) (capb : Nat) (zs : List Int) (to : Int) (w : World) (hz : IsInts w b capb zs ∧ (b = none → capb = 0)) (_ : -9223372036854775808 ≤ to ∧ to ≤ 9223372036854775807) (hm : zs.length ≤ 1048576) :
    Calls Try.prog 6 #[.slice b zs.length capb, .int .i64 to] w fun e w' => e = .returned (.bool true) ∧ Below w.heap.size w w' := by
  have hnn := fun w p => q_not_nilL w p
  have HZ : Hid (IsInts w b capb zs) := hz.1
  clear hz
  obtain ⟨i0, hi, hz0, hz1, hz2⟩ := info_parts info_int
  refine (callsIn_wide (n := 3)).1 ?_
  refine callsIn_of_wp_marks Try.func6 rfl trivial ?_ rfl
  simp only [Try.ntmps6, List.size_toArray, List.length_cons, List.length_nil, Nat.reduceAdd, Nat.reduceSub, Array.replicate_succ, Array.replicate_zero, List.push_toArray, List.append_toArray, List.nil_append, List.cons_append]
  refine wpIn_wide.2 ?_
  obtain ⟨W1, hW1⟩ : ∃ W1, W1 = (w.alloc (.cells #[.int .i64 to] 3)).alloc (.cells #[.bool false] 4) := ⟨_, rfl⟩
  have HW1 : Hid (W1 = (w.alloc (.cells #[.int .i64 to] 3)).alloc (.cells #[.bool false] 4)) := hW1
  have hz1s : W1.heap.size = w.heap.size + 2 := by rw [hW1]; simp
  have h3 : W1.heap[w.heap.size]? = some (.cells #[.int .i64 to] 3 (0, 0)) := by
    rw [hW1]; exact (heap_alloc_old (w.alloc (.cells #[.int .i64 to] 3)) _ (by simp)).trans (heap_alloc_new w _)
  have h4 : W1.heap[w.heap.size + 1]? = some (.cells #[.bool false] 4 (0, 0)) := by
    rw [hW1]; have := heap_alloc_new (w.alloc (.cells #[.int .i64 to] 3)) (.cells #[.bool false] 4); rwa [World.size_alloc] at this
  have B1 : Below w.heap.size w W1 := by rw [hW1]; exact ((Below.refl _ w).alloc (Nat.le_refl _) _).alloc (by simp) _
  have HA1 : Hid (W1.heap[w.heap.size]? = some (.cells #[.int .i64 to] 3 (0, 0)) ∧ W1.heap[w.heap.size + 1]? = some (.cells #[.bool false] 4 (0, 0)) ∧ Below w.heap.size w W1 ∧ W1.heap.size = w.heap.size + 2) := ⟨h3, h4, B1, hz1s⟩
  clear hW1 hz1s h3 h4 B1
  go_wp2_with fail
  rw [← HW1.out]
  refine (shown_any _).mono ?_
  rintro e W2 ⟨rfl, B2⟩
  have HB2 : Hid (Below W1.heap.size W1 W2) := B2
  clear B2 HW1
  go_wp2_with fail
  refine (newFL W1 W2 HB2.out).mono ?_
  rintro e W3 ⟨rfl, h3, _⟩
  obtain ⟨qb, hqb⟩ : ∃ qb, qb = W2.heap.size + 1 := ⟨_, rfl⟩
  obtain ⟨mb, hmb⟩ : ∃ mb, mb = W2.heap.size := ⟨_, rfl⟩
  rw [← hqb]
  rw [← hqb, ← hmb] at h3
  have HQ3 : Hid (FromL W1 W3 qb mb 0 []) := h3
  have HS : Hid ((b = none ∧ zs.length = 0) ∨ ∃ p, b = some p ∧ ∀ j u, (zs.map (Value.int .i64))[j]? = some u → W3.cell? (p.add j) = some u) := ints_src (ints_below HZ.out (HA1.out.2.2.1.trans (h3.bel.mono HA1.out.2.2.1.size)))
  clear h3 hqb hmb HB2
  have HO1 : Hid (∀ u ∈ zs.map (Value.int .i64), u.oneCell' = true) := fun u hu => by simp at hu; obtain ⟨x, _, rfl⟩ := hu; rfl
  have hb1 : 1 + zs.length ≤ maxLen := by unfold maxLen; omega
  have hb2 : (1 + zs.length) * i0.bytes ≤ 140737488355328 := by rw [hz2]; omega
  have HS' : Hid ((b = none ∧ zs.length = 0) ∨ ∃ p, b = some p ∧ ∀ j u, (zs.map (Value.int .i64))[j]? = some u → (W3.alloc (.cells #[.int .i64 1] 3)).cell? (p.add j) = some u) := by
    rcases HS.out with h | ⟨p, h1, h2⟩
    · exact .inl h
    · refine .inr ⟨p, h1, fun j u hj => ?_⟩
      have := h2 j u hj
      exact (((Below.refl _ W3).alloc (Nat.le_refl _) _).cell (p := p.add j) (cell_lt this)).trans this
  clear HS
  go_wp2_with (at_builtin; go_must (refine wpList_append_keeps rfl _ _ 32 rfl W3.heap.size 3 i0 (.int .i64 0) Try.underlying32 hi hz0 hz1 rfl _ 1 [.int .i64 1] rfl (lit_row W3 _ (Nat.le_refl _) 1) b zs.length capb (zs.map (Value.int .i64)) rfl (by simp) HS'.out HO1.out hb1 hb2 (by simp) ?_; intro v1 wa hown hgr _ _ _; obtain ⟨ab, cap, cur, hv, hab, hga, hnc, _, hsz, _⟩ := hown.2.resolve_left (fun h => by have := h.2; omega); subst hv; have HROW : Hid (wa.heap[ab]? = some (.cells cur 3 (0, 0)) ∧ 0 < cur.size ∧ W3.heap.size ≤ ab ∧ 1 + zs.length ≤ cap) := ⟨hga, by omega, hab, hnc⟩; have HBA : Hid (Below W3.heap.size W3 wa) := ((Below.refl _ W3).alloc (Nat.le_refl _) _).grown hgr (by simp) (fun g e => by have h9 : some W3.heap.size = some g := e; have := Option.some.inj h9; omega); clear hown hgr hab hga hnc hsz))
  obtain ⟨m, hmm⟩ : ∃ m, m = 1 + zs.length := ⟨_, rfl⟩
  have hcm := HROW.out.2.2.2
  rw [← hmm] at hcm ⊢
  obtain ⟨bo, hbo⟩ : ∃ bo, bo = wa.heap.size := ⟨_, rfl⟩
  obtain ⟨W4, hW4⟩ : ∃ W4, W4 = wa.alloc (.cells #[.slice (some ⟨ab, 0, none⟩) m cap] 32) := ⟨_, rfl⟩
  rw [← hW4, ← hbo]
  have BW4 : Below wa.heap.size wa W4 := by rw [hW4]; exact (Below.refl _ wa).alloc (Nat.le_refl _) _
  have BW34 : Below W3.heap.size W3 W4 := HBA.out.trans (BW4.mono HBA.out.size)
  have hF4 : FromL W1 W4 qb mb 0 [] := HQ3.out.below BW34
  obtain ⟨x0, hx0⟩ : ∃ x0, cur[0]? = some x0 := ⟨_, Array.getElem?_eq_getElem HROW.out.2.1⟩
  have hL4 : Lying w W4 to ab bo m cap x0 := by
    obtain ⟨a3, a4, aB, az⟩ := HA1.out
    obtain ⟨r1, r2, r3, _⟩ := HROW.out
    have hsz := HQ3.out.bel.size
    exact ⟨(hF4.bel.block _ (by omega)).trans a3, (hF4.bel.block _ (by omega)).trans a4, by rw [hW4, hbo]; exact heap_alloc_new wa _, ⟨cur, (BW4.block ab (Array.getElem?_eq_some_iff.1 r1).1).trans r1, hx0⟩, by omega⟩
  have HF4 : Hid (FromL W1 W4 qb mb 0 []) := hF4
  have HL4 : Hid (Lying w W4 to ab bo m cap x0) := hL4
  have hm0 : (0 : Int) < (m : Int) := by omega
  clear hF4 hL4 BW4 BW34 hW4 hbo hx0 HQ3 HROW HBA HO1 HS' hb1 hb2 hmm
  refine (joinFL HF4.out (.slice (some ⟨ab, 0, none⟩) m cap) (by decide) (by simp [maxLen]) ⟨_, _, _, rfl⟩).mono ?_
  rintro e W5 ⟨rfl, h5, k5⟩
  obtain ⟨rb, hrb⟩ : ∃ rb, rb = W4.heap.size := ⟨_, rfl⟩
  rw [← hrb] at h5
  have HF5 : Hid (FromL W1 W5 qb mb 1 [⟨rb, 1, .slice (some ⟨ab, 0, none⟩) m cap⟩]) := h5
  have HL5 : Hid (Lying w W5 to ab bo m cap x0) := HL4.out.queue HF4.out.q k5
  clear h5 k5 hrb HF4 HL4
  go_wp2_with fail
  refine (cloneL W5 qb mb 1 [⟨rb, 1, .slice (some ⟨ab, 0, none⟩) m cap⟩] HF5.out.q (by simp) (by decide) HF5.out.vals).mono ?_
  rintro e W6 ⟨qc, mc, C, rfl, h6, hv6, B6, hb6⟩
  obtain ⟨cb, rfl⟩ := view_one hv6
  have HC6 : Hid (QueueAtL W6 qc mc 1 [⟨cb, 1, .slice (some ⟨ab, 0, none⟩) m cap⟩] ∧ ∀ k, Mine qc mc [⟨cb, 1, .slice (some ⟨ab, 0, none⟩) m cap⟩] k → W5.heap.size ≤ k) := ⟨h6, hb6⟩
  have HF6 : Hid (FromL W1 W6 qb mb 1 [⟨rb, 1, .slice (some ⟨ab, 0, none⟩) m cap⟩]) := HF5.out.below B6
  have hL6 := HL5.out.below B6
  obtain ⟨cu6, hr6, hx6⟩ := hL6.row
  have c3 : W6.cell? ⟨w.heap.size, 0, none⟩ = some (.int .i64 to) := by simp [World.cell?, hL6.b3]
  have c7 : W6.cell? ⟨bo, 0, none⟩ = some (.slice (some ⟨ab, 0, none⟩) m cap) := by simp [World.cell?, hL6.b7]
  have ca : W6.cell? ⟨ab, 0, none⟩ = some x0 := by simp [World.cell?, hr6, hx6]
  have fa : W6.frozen? ⟨ab, 0, none⟩ = false := by simp [World.frozen?, hr6]
  obtain ⟨W7, hW7⟩ : ∃ W7, W7 = W6.setCell ⟨ab, 0, none⟩ (.int .i64 to) := ⟨_, rfl⟩
  have k7 : Kept (fun k => k = ab) W6 W7 := by rw [hW7]; exact Kept.setCell _ _ _ _ _ rfl
  have hdisj : ∀ k, Mine qb mb [⟨rb, 1, .slice (some ⟨ab, 0, none⟩) m cap⟩] k → ¬ k = ab := fun k hk e => HF6.out.q.not hr6 (by decide) (by decide) (e ▸ hk)
  have hdisc : ∀ k, Mine qc mc [⟨cb, 1, .slice (some ⟨ab, 0, none⟩) m cap⟩] k → ¬ k = ab := fun k hk e => HC6.out.1.not hr6 (by decide) (by decide) (e ▸ hk)
  have HF7 : Hid (FromL W1 W7 qb mb 1 [⟨rb, 1, .slice (some ⟨ab, 0, none⟩) m cap⟩]) := HF6.out.kept k7 hdisj (fun k hk e => by have := hL6.lt; have := HA1.out.2.2.2; omega)
  have HC7 : Hid (QueueAtL W7 qc mc 1 [⟨cb, 1, .slice (some ⟨ab, 0, none⟩) m cap⟩]) := HC6.out.1.kept k7 hdisc
  have HL7 : Hid (Lying w W7 to ab bo m cap (.int .i64 to)) := by
    have hne3 : w.heap.size ≠ ab := by have := hL6.lt; omega
    have hne4 : w.heap.size + 1 ≠ ab := by have := hL6.lt; omega
    have hne7 : bo ≠ ab := fun e => by have := hL6.b7; rw [e, hr6] at this; simp at this
    refine ⟨by rw [hW7, set_other _ _ _ _ _ hne3]; exact hL6.b3, by rw [hW7, set_other _ _ _ _ _ hne4]; exact hL6.b4, by rw [hW7, set_other _ _ _ _ _ hne7]; exact hL6.b7, ⟨_, by rw [hW7]; exact (set_cells hr6 0 _).1, ?_⟩, hL6.lt⟩
    have : 0 < cu6.size := (Array.getElem?_eq_some_iff.1 hx6).1
    simp [this]
  have HW7 : Hid (W7 = W6.setCell ⟨ab, 0, none⟩ (.int .i64 to)) := hW7
  have HBC : Hid (∀ k, Mine qc mc [⟨cb, 1, .slice (some ⟨ab, 0, none⟩) m cap⟩] k → w.heap.size + 2 ≤ k) := fun k hk => by have := HC6.out.2 k hk; have := HF5.out.bel.size; have := HA1.out.2.2.2; omega
  have HDIS : Hid (∀ k, Mine qb mb [⟨rb, 1, .slice (some ⟨ab, 0, none⟩) m cap⟩] k → ¬ Mine qc mc [⟨cb, 1, .slice (some ⟨ab, 0, none⟩) m cap⟩] k) := fun k hk hM => by have := HF5.out.q.lt hk; have := HC6.out.2 k hM; omega
  clear h6 hv6 B6 hb6 hL6 hr6 hx6 k7 hdisj hdisc hW7 HF5 HL5 HF6 HC6
  go_wp2_with fail
  rw [← HW7.out]
  clear HW7 c3 c7 ca fa
  have HG := getL W7 qb mb 1 1 _ HF7.out.q (by decide) HF7.out.vals
  rw [show getOfL [⟨rb, 1, .slice (some ⟨ab, 0, none⟩) m cap⟩] 1 = .tuple #[.slice (some ⟨ab, 0, none⟩) m cap, .bool true] from rfl] at HG
  refine HG.mono ?_
  rintro e w' ⟨rfl, hW⟩
  have hW := hW.symm
  subst hW
  clear HG
  go_wp2_with fail
  have hvc : ∀ r ∈ [(⟨cb, 1, .slice (some ⟨ab, 0, none⟩) m cap⟩ : Stand)], ∃ a n c, r.v = .slice a n c := fun r hr => by simp at hr; subst hr; exact ⟨_, _, _, rfl⟩
  have HG := firstL W7 qc mc 1 _ HC7.out hvc
  rw [show firstOfL [⟨cb, 1, .slice (some ⟨ab, 0, none⟩) m cap⟩] = .tuple #[.int .i64 1, .slice (some ⟨ab, 0, none⟩) m cap, .bool true] from rfl] at HG
  refine HG.mono ?_
  rintro e W8 ⟨rfl, B8⟩
  have HF8 : Hid (FromL W1 W8 qb mb 1 [⟨rb, 1, .slice (some ⟨ab, 0, none⟩) m cap⟩]) := HF7.out.below B8
  have HC8 : Hid (QueueAtL W8 qc mc 1 [⟨cb, 1, .slice (some ⟨ab, 0, none⟩) m cap⟩]) := HC7.out.below B8
  have HL8 : Hid (Lying w W8 to ab bo m cap (.int .i64 to)) := HL7.out.below B8
  clear HG HF7 HC7 HL7 B8
  go_wp2_with fail
  have HG := leaveL W8 qc mc 1 1 _ HC8.out (by decide) hvc
  rw [show getOfL [⟨cb, 1, .slice (some ⟨ab, 0, none⟩) m cap⟩] 1 = .tuple #[.slice (some ⟨ab, 0, none⟩) m cap, .bool true] from rfl, show [(⟨cb, 1, .slice (some ⟨ab, 0, none⟩) m cap⟩ : Stand)].filter (fun r => r.tk != 1) = [] from rfl] at HG
  refine HG.mono ?_
  rintro e W9 ⟨rfl, hc9, k9⟩
  have k9' : Kept (Mine qc mc [⟨cb, 1, .slice (some ⟨ab, 0, none⟩) m cap⟩]) W8 W9 := k9.mono (fun k _ hM => by
    rcases hM with h | h | ⟨r, hr, _⟩
    · exact .inl h
    · exact .inr (.inl h)
    · cases hr)
  have HF9 : Hid (FromL W1 W9 qb mb 1 [⟨rb, 1, .slice (some ⟨ab, 0, none⟩) m cap⟩]) := HF8.out.kept k9' HDIS.out (fun k hk hM => by have := HBC.out k hM; have := HA1.out.2.2.2; omega)
  have HC9 : Hid (QueueAtL W9 qc mc 1 []) := hc9
  have HL9 : Hid (Lying w W9 to ab bo m cap (.int .i64 to)) := HL8.out.queue HC8.out k9'
  clear HG hc9 k9 k9' HF8 HC8 HL8 hvc
  have hl9 := HL9.out
  obtain ⟨cu9, hr9, hx9⟩ := hl9.row
  have c3 : W9.cell? ⟨w.heap.size, 0, none⟩ = some (.int .i64 to) := by simp [World.cell?, hl9.b3]
  have c7 : W9.cell? ⟨bo, 0, none⟩ = some (.slice (some ⟨ab, 0, none⟩) m cap) := by simp [World.cell?, hl9.b7]
  have ca : W9.cell? ⟨ab, 0, none⟩ = some (.int .i64 to) := by simp [World.cell?, hr9, hx9]
  clear hl9 hr9 hx9
  go_wp2_with fail
  go_quiet (fail)
  generalize hWd : W9.drewN _ = Wd
  have BD : Below W9.heap.size W9 Wd := by rw [← hWd]; exact ⟨rfl, rfl, rfl, Nat.le_refl _, fun _ _ => rfl⟩
  obtain ⟨WX, hWX⟩ : ∃ WX, WX = Wd.alloc (.cells #[.int .i64 0] 3) := ⟨_, rfl⟩
  obtain ⟨bm, hbm⟩ : ∃ bm, bm = Wd.heap.size := ⟨_, rfl⟩
  have BX : Below W9.heap.size W9 WX := by rw [hWX]; exact BD.alloc BD.size _
  have HFX : Hid (FromL W1 WX qb mb 1 [⟨rb, 1, .slice (some ⟨ab, 0, none⟩) m cap⟩]) := HF9.out.below BX
  have HCX : Hid (QueueAtL WX qc mc 1 []) := HC9.out.below BX
  have HLX : Hid (Lying w WX to ab bo m cap (.int .i64 to)) := HL9.out.below BX
  have HMX : Hid (WX.heap[bm]? = some (.cells #[.int .i64 0] 3 (0, 0)) ∧ ab < bm ∧ bm < WX.heap.size) := ⟨by rw [hWX, hbm]; exact heap_alloc_new Wd _, by
    obtain ⟨cu, h1, _⟩ := (HL9.out.below BD).row
    rw [hbm]; exact (Array.getElem?_eq_some_iff.1 h1).1, by rw [hWX, hbm]; simp⟩
  have HWX : Hid (WX = Wd.alloc (.cells #[.int .i64 0] 3)) := hWX
  have HBM : Hid (bm = Wd.heap.size) := hbm
  clear hWd BD BX hWX hbm HF9 HC9 HL9 c3 c7 ca
  go_wp2_with fail
  rw [← HWX.out, ← HBM.out]
  refine (allL WX qb).mono ?_
  rintro e WY ⟨rfl, hWY⟩
  obtain ⟨cx, hcx⟩ : ∃ cx, cx = WX.heap.size := ⟨_, rfl⟩
  rw [← hcx]
  have BY : Below WX.heap.size WX WY := by rw [hWY]; exact (Below.refl _ WX).alloc (Nat.le_refl _) _
  have HFY : Hid (FromL W1 WY qb mb 1 [⟨rb, 1, .slice (some ⟨ab, 0, none⟩) m cap⟩]) := HFX.out.below BY
  have HCY : Hid (QueueAtL WY qc mc 1 []) := HCX.out.below BY
  have HLY : Hid (Lying w WY to ab bo m cap (.int .i64 to)) := HLX.out.below BY
  have HMY : Hid (WY.heap[bm]? = some (.cells #[.int .i64 0] 3 (0, 0)) ∧ ab < bm) := ⟨(BY.block bm HMX.out.2.2).trans HMX.out.1, HMX.out.2.1⟩
  have HBX : Hid (boxedL WY cx qb) := by unfold boxedL; rw [hWY, hcx]; exact heap_alloc_new WX _
  have hmb : mb < WY.heap.size := HFY.out.q.tab.lt
  have hmc : mc < WY.heap.size := HCY.out.tab.lt
  have hw1 : w.heap.size + 2 = W1.heap.size := HA1.out.2.2.2.symm
  have hwy : W1.heap.size ≤ WY.heap.size := HFY.out.bel.size
  clear BY hWY hcx HFX HCX HLX HMX HWX HBM
  go_wp2_with fail
  refine (wpIn_wide (n := 3)).1 ?_
  refine wpIn_told rfl (by omega) (gf := 50) (lb := #[.pointer (some ⟨cx, 0, none⟩)]) rfl trivial (enters_of Try.func50 (by kernel_rfl) rfl)
    (all1_toldL 2 cx qb mb 1 _ WY HFY.out.q HBX.out (by simp) HFY.out.vals) (fun h k => h.trans k) (fun W l o o' _ hl ho _ => KpL.put W l o o' hl ho) (Below.refl _ _) (fun _ => rfl)
    (fun pre W => FromL W1 W qb mb 1 [⟨rb, 1, .slice (some ⟨ab, 0, none⟩) m cap⟩] ∧ QueueAtL W qc mc 1 [] ∧ Lying w W to ab bo m cap (.int .i64 to) ∧ W.heap[bm]? = some (.cells #[.int .i64 (pre.length : Int)] 3 (0, 0)))
    (fun _ _ _ => False)
    (fun pre W W' row hs hgr hr => by
      obtain ⟨i1, i2, i3, i4⟩ := hs
      refine ⟨⟨i1.q.own hmb hgr hr, i1.base, i1.vals, i1.bel.grown hgr i1.bel.size (fun k e => by have := (hr k e).1; omega)⟩, i2.own hmc hgr hr, i3.kept (kept_row hgr) (fun k c t hc _ e => ?_), cells_own i4 hgr hr⟩
      obtain ⟨_, o, h2, h3⟩ := hr k e
      rw [hc] at h2
      obtain rfl := Option.some.inj h2
      cases h3)
    (fun _ _ _ _ _ h _ _ => h.elim)
    (fun pre x A _ _ _ _ h _ _ => h)
    ⟨HFY.out, HCY.out, HLY.out, HMY.out.1⟩
    ?a1 ?assign ?body ?done ?stop
  case assign =>
    intro l x W K hK
    gi_wp2
    exact hK
  case body =>
    rintro id pre x A W hid _ _ _ _ ⟨i1, i2, i3, i4⟩ hx hlt
    have hpre : pre = [] := by
      cases pre with
      | nil => rfl
      | cons a b => simp at hlt
    subst hpre
    simp only [List.length_nil, List.getElem?_cons_zero, Option.some.injEq] at hx
    subst hx
    obtain ⟨cu, hr, hx⟩ := i3.row
    have c3 : W.cell? ⟨w.heap.size, 0, none⟩ = some (.int .i64 to) := by simp [World.cell?, i3.b3]
    have c7 : W.cell? ⟨bo, 0, none⟩ = some (.slice (some ⟨ab, 0, none⟩) m cap) := by simp [World.cell?, i3.b7]
    have ca : W.cell? ⟨ab, 0, none⟩ = some (.int .i64 to) := by simp [World.cell?, hr, hx]
    have cm : W.cell? ⟨bm, 0, none⟩ = some (.int .i64 0) := by simp [World.cell?, i4]
    have fm : W.frozen? ⟨bm, 0, none⟩ = false := by simp [World.frozen?, i4]
    have HI : Hid (FromL W1 W qb mb 1 [⟨rb, 1, .slice (some ⟨ab, 0, none⟩) m cap⟩] ∧ QueueAtL W qc mc 1 [] ∧ Lying w W to ab bo m cap (.int .i64 to) ∧ W.heap[bm]? = some (.cells #[.int .i64 0] 3 (0, 0))) := ⟨i1, i2, i3, by simpa using i4⟩
    clear i1 i2 i3 i4 hr hx hlt hid
    gi_wp2
    refine wpIn_quiet_round (F := Fence.wide) rfl (by kernel_rfl) (by kernel_rfl) (by kernel_rfl) ?_
    repeat (gi_big_quiet_step (fail))
    refine wpQuietIn_nil ?_
    rintro _ ⟨nq, rfl⟩
    gi_wp2
    obtain ⟨i1, i2, i3, i4⟩ := HI.out
    have hk : Kept (fun k => k = bm) W ((W.drewN nq).setCell ⟨bm, 0, none⟩ (.int .i64 1)) := ⟨rfl, rfl, rfl, by simp, fun k _ hk => set_other (W.drewN nq) _ _ _ _ hk⟩
    refine ⟨⟨by simp, fun k o _ ho hc => (hk.block k (Array.getElem?_eq_some_iff.1 ho).1 (fun e => ?_)).trans ho⟩, KpL.ofKept hk (fun k c t hc ht e => ?_), i1.kept hk (fun k hM e => i1.q.not i4 (by decide) (by decide) (e ▸ hM)) (fun k hlt e => ?_), i2.kept hk (fun k hM e => i2.not i4 (by decide) (by decide) (e ▸ hM)), i3.other hk ⟨_, i4⟩ HMY.out.2, ?_⟩
    · rw [e, i4] at ho
      obtain rfl := Option.some.inj ho
      cases hc
    · rw [e, i4] at hc
      simp at hc
      rcases ht with h | h <;> rw [h] at hc <;> simp at hc
    · have := HMY.out.2
      have := i3.lt
      omega
    · have : (W.drewN nq).heap[bm]? = some (.cells #[.int .i64 0] 3 (0, 0)) := i4
      rw [(set_cells this 0 _).1]
      simp
  case done =>
    rintro D xs W hD hS ⟨i1, i2, i3, i4⟩ hK
    subst hS
    have cm : W.cell? ⟨bm, 0, none⟩ = some (.int .i64 1) := by simp [World.cell?, i4]
    have c4 : W.cell? ⟨w.heap.size + 1, 0, none⟩ = some (.bool false) := by simp [World.cell?, i3.b4]
    have f4 : W.frozen? ⟨w.heap.size + 1, 0, none⟩ = false := by simp [World.frozen?, i3.b4]
    have HQ : Hid (QueueAtL W qb mb 1 [⟨rb, 1, .slice (some ⟨ab, 0, none⟩) m cap⟩] ∧ QueueAtL W qc mc 1 []) := ⟨i1.q, i2⟩
    have HBW : Hid (Below w.heap.size w W) := HA1.out.2.2.1.trans (i1.bel.mono HA1.out.2.2.1.size)
    have HK : Hid (W.heap[D]? = some (.deferred (some []))) := hK
    have H4 : Hid (W.heap[w.heap.size + 1]? = some (.cells #[.bool false] 4 (0, 0))) := i3.b4
    clear i1 i2 i3 i4 hK
    go_wp2_with fail
    refine (lenL _ _ _ _ _ HQ.out.1).mono ?_
    rintro e w' ⟨rfl, hW⟩
    have hW := hW.symm
    subst hW
    go_wp2_with fail
    refine (lenL _ _ _ _ _ HQ.out.2).mono ?_
    rintro e w' ⟨rfl, hW⟩
    have hW := hW.symm
    subst hW
    go_wp2_with fail
    have hset := set_cells H4.out 0 (.bool true)
    have hDne : D ≠ w.heap.size + 1 := fun e => by have := HK.out; rw [e, H4.out] at this; simp at this
    have hK' : (W.setCell ⟨w.heap.size + 1, 0, none⟩ (.bool true)).heap[D]? = some (.deferred (some [])) := (set_other _ _ _ _ _ hDne).trans HK.out
    refine ⟨by simp, .inl ⟨_, _, rfl, run_takeDeferred hK', ?_⟩⟩
    have hc5 : ((W.setCell ⟨w.heap.size + 1, 0, none⟩ (.bool true)).putObj D (.deferred none)).cell? ⟨w.heap.size + 1, 0, none⟩ = some (.bool true) := by
      have h9 : ((W.setCell ⟨w.heap.size + 1, 0, none⟩ (.bool true)).putObj D (.deferred none)).heap[w.heap.size + 1]? = (W.setCell ⟨w.heap.size + 1, 0, none⟩ (.bool true)).heap[w.heap.size + 1]? := World.putObj_heap_other (fun e => hDne e.symm)
      simp [World.cell?, h9, hset.1]
    have hBs := HBW.out.grown hset.2 HBW.out.size (fun k e => by have := Option.some.inj e; omega)
    exact ⟨.bool true, by simp [results, Try.f6, go_sem, hc5], rfl, hBs.grown (grownBy_putObj' _ D (.deferred none)) hBs.size (fun k e => by cases e; omega)⟩
  case stop =>
    rintro D c pre W hD _ h
    exact h.elim
end Go.Proofs.Ytpnbmokgjinnbaa.queueShares
