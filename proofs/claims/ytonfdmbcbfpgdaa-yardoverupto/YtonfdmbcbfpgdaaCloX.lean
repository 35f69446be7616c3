/-
  YShown0, CloneM, YClone0, YClone, YShown.
-/
import Derived.Test.YtonfdmbcbfpgdaaJoX
import Derived.Test.YtonfdmbcbfpgdaaYAdd
import Derived.Lib.LazyBuf
import Derived.Lib.SmallJoins
import Derived.Test.YtonfdmbcbfpgdaaPushM
import Derived.Test.YtonfdmbcbfpgdaaMapClone
import Derived.Lib.SliceRun
import Derived.Deep.DeepMust
import Derived.Deep.RegionHeld
namespace Go.Proofs.Ytonfdmbcbfpgdaa
open Go.RowKit
theorem conv_is {w : World} {a : Option Addr} {c n : Nat} {l : List UInt8} (h : IsBytes w a c l) (hn : l.length = n) : (convert 39 9 (.slice a n c)).run Try.prog w = .ok (.string ⟨l.toArray⟩) w := by
  subst hn
  cases a with
  | none =>
    obtain rfl : l = [] := by
      rcases h.2.2 with h | ⟨_, _, e, _⟩
      · exact h
      · cases e
    exact run_convert_bytes_nil w 39 5 Try.underlying39 Try.underlying5 0 c 9 Try.underlying9
  | some p =>
    refine run_convert_bytes_back w 39 9 5 p c l Try.underlying39 Try.underlying5 Try.underlying9 (fun j hj => ?_)
    rw [h.at j hj, nums_get l j l[j] (List.getElem?_eq_getElem hj)]

theorem conv_new (W : World) (C : Array Value) (n c : Nat) : (convert 39 39 (.slice (some ⟨W.heap.size, 0, none⟩) n c)).run Try.prog (W.alloc (.cells C 5)) = .ok (.slice (some ⟨W.heap.size, 0, none⟩) n c) (W.alloc (.cells C 5 (C.size, C.size + 1))) :=
  Lib.run_convert_bytes_const (P := Try.prog) W 39 5 C n c Try.underlying39 Try.underlying5
def jS : Jb := ⟨7, 3, 0, 1, 0, 1, 0, 0, -1, 0, 0, 0, 0, 0, ⟨#[97]⟩⟩
theorem jS_ok : jS.ok := by
  refine ⟨?_, ?_, ?_, ?_, ?_, ?_, ?_, ?_, ?_, ?_, ?_, ?_, ?_, ?_, ?_⟩ <;> decide
theorem addS (jm : Nat) (d r : HM) : addE (yd0 jm d r).L jS 1 = 0 := rfl
theorem few0 (jm : Nat) (d r : HM) (hd : d.R = []) (hr : r.R = []) (hdl : d.last = 0) (hrl : r.last = 0) : Few (yd0 jm d r) 0 := by
  refine ⟨fun K h hK => ?_, Nat.le_refl _, Nat.le_refl _, Nat.le_refl _, sm0_small, fun _ => sm0_small⟩
  simp only [yd0] at hK
  split at hK
  · cases hK
    rw [hd, hdl]
    exact ⟨Int.le_refl _, Int.le_refl _, Nat.le_refl _, fun r hr => by cases hr⟩
  · split at hK
    · cases hK
      rw [hr, hrl]
      exact ⟨Int.le_refl _, Int.le_refl _, Nat.le_refl _, fun r hr => by cases hr⟩
    · cases hK
theorem fst_of {Y : Yd} {k : Nat} {t : ByteArray} {h : HM} (hx : Y.hp (hkT k t) = some h) : fstOf Y k t = (h.R.head?.map (fun r => r.2.id)).getD 0 := by
  unfold fstOf
  rw [hx]
theorem tube_zero (Y : Yd) (t : ByteArray) (b hb0 mb0 hb1 mb1 hb2 mb2 : Nat) : (Y.withTube t b hb0 mb0 hb1 mb1 hb2 mb2).hp (hkT 0 t) = some (hm0 hb0 mb0) := if_pos rfl
/-- What one job makes of an empty yard. -/
theorem laid_one {jm : Nat} {d r : HM} {w : World} {lab : Nat → HK} {yb : Nat} {bv : Value} {w' : World} (h : Laid w lab yb (yd0 jm d r) jS bv [120] w') :
    ∃ lab' Y, YAt w' lab' yb Y ∧ (∃ t0 t1, Y.L = [⟨jS, bv, [120], t0, t1⟩]) ∧ Y.sm = ⟨1, 0, 0, 0, 1⟩ ∧ fstOf Y 0 ⟨#[97]⟩ = 7 ∧ (∃ b, Y.tb ⟨#[97]⟩ = some b) := by
  obtain ⟨lab', Y1, Y2, S, h1, h2, h3, h4, h5, _, _⟩ := h
  have hks : ksOf jS = [hkT 0 ⟨#[97]⟩] := rfl
  rw [hks] at h4
  obtain ⟨b, hb0, mb0, hb1, mb1, hb2, mb2, rfl⟩ : ∃ b hb0 mb0 hb1 mb1 hb2 mb2, Y1 = (yd0 jm d r).withTube jS.nm b hb0 mb0 hb1 mb1 hb2 mb2 := by
    rcases h1 with ⟨b, hb, _⟩ | ⟨_, h⟩
    · cases hb
    · exact h
  obtain rfl : Y2 = (yd0 jm d r).withTube jS.nm b hb0 mb0 hb1 mb1 hb2 mb2 := by
    rcases h2 with ⟨_, h⟩ | ⟨h, _⟩
    · exact h
    · exact absurd h (by decide)
  cases S with
  | nil => simp at h4
  | cons p S =>
    obtain rfl : S = [] := by
      have := congrArg List.length h4
      simp at this
      exact this
    obtain ⟨_, hp, _, _, _, hR⟩ := h3
    have hk : p.1 = hkT 0 ⟨#[97]⟩ := by simpa using h4
    have hp2 : ((yd0 jm d r).withTube jS.nm b hb0 mb0 hb1 mb1 hb2 mb2).hp (hkT 0 ⟨#[97]⟩) = some p.2.1 := by rw [← hk]; exact hp
    have e1 : p.2.1 = hm0 hb0 mb0 := by
      have : some (hm0 hb0 mb0) = some p.2.1 := (show ((yd0 jm d r).withTube jS.nm b hb0 mb0 hb1 mb1 hb2 mb2).hp (hkT 0 ⟨#[97]⟩) = some (hm0 hb0 mb0) from tube_zero _ _ _ _ _ _ _ _ _).symm.trans hp2
      exact (Option.some.inj this).symm
    refine ⟨lab', _, h5, ⟨_, _, rfl⟩, rfl, ?_, b, rfl⟩
    have hx : (PuY ((yd0 jm d r).withTube jS.nm b hb0 mb0 hb1 mb1 hb2 mb2) [p]).hp (hkT 0 ⟨#[97]⟩) = some p.2.2 := by
      show updH _ p.1 (some p.2.2) (hkT 0 ⟨#[97]⟩) = some p.2.2
      rw [hk]
      exact updH_at _ _ _
    refine (fst_of (h := p.2.2) hx).trans ?_
    rw [hR, hk, e1]
    rfl
end Go.Proofs.Ytonfdmbcbfpgdaa

namespace Go.Proofs.Ytonfdmbcbfpgdaa
open Go.RowKit Go.Lib

set_option maxHeartbeats 2000000 in
set_option maxRecDepth 1000000 in
theorem rowsCloneM (w : World) (v : Value) (R : List (Int × Mk)) (h : w.ownsRow 0 105 5 v R.length (flatM R)) (hR : R.length ≤ 1073741823) :
    Calls Try.prog 52 #[v] w fun e w' => ∃ v', e = .returned v' ∧ w'.ownsRow w.heap.size 105 5 v' R.length (flatM R) ∧ Below w.heap.size w w' := by
  obtain ⟨i0, hi, hz0, hz1, hz2⟩ := info_parts info_rowM
  have q22 : ∀ (w : World) (a : Option Addr) (n c n' c' : Nat), (binOp .eql 99 (.slice a n c) (.slice none n' c')).run Try.prog w = .ok (.bool a.isNone) w := fun w a n c n' c' => Lib.run_eql_slice_nil w _ _ a n c n' c' Try.underlying99
  rcases h.2 with ⟨rfl, h0⟩ | ⟨rb, cap, cur, rfl, _, hg, h1, h2, h3, h4⟩
  · have hRn : R = [] := List.eq_nil_of_length_eq_zero h0
    subst hRn
    clear h
    go_enter Try.func52, Try.ntmps52
    go_wp2_with fail
    go_ret
    exact ⟨_, rfl, World.ownsRow_nil _ _ _ _, Below.refl _ _⟩
  · have HC : Hid (∀ j u, (flatM R)[j]? = some u → (w.alloc (.cells #[] 105)).cell? ((⟨rb, 0, none⟩ : Addr).add j) = some u) := fun j u hu => (h.alloc _).cells (g := rb) rfl j u hu
    have HO : Hid (∀ u ∈ flatM R, u.oneCell' = true) := fun u hu => by
      unfold flatM at hu
      obtain ⟨r, _, hr⟩ := List.mem_flatMap.1 hu
      simp [cellsM] at hr
      rcases hr with rfl | rfl | rfl | rfl | rfl <;> rfl
    have HL : Hid ((flatM R).length = R.length * 5) := flatM_length R
    have HM : Hid ((w.alloc (.cells #[] 105)).ownsRow w.heap.size 105 5 (.slice (some ⟨w.heap.size, 0, none⟩) 0 0) 0 []) := World.ownsRow_made w #[] 0 (Nat.le_refl _) (by unfold maxLen; omega) (by simp)
    have hb1 : 0 + R.length ≤ maxLen := by unfold maxLen; omega
    have hb2 : (0 + R.length) * 40 ≤ 140737488355328 := by omega
    clear h hg h1 h2 h3 h4
    go_enter Try.func52, Try.ntmps52
    go_wp2_with (at_builtin; go_must (refine wpList_append_own _ rfl (.tmp 5) (.tmp 6) 99 rfl w.heap.size 105 i0 (.agg #[.int .i64 0, .int .i64 0, .int .i64 0, .int .i64 0, .int .i64 0]) 5 40 Try.underlying99 hi hz0 hz1 hz2 rfl (by decide) (.slice (some ⟨w.heap.size, 0, none⟩) 0 0) 0 [] rfl HM.out ⟨rb, 0, none⟩ R.length cap (flatM R) rfl HL.out HC.out HO.out hb1 hb2 (by simp) ?_; intro v1 w1 hown1 hgr1 _))
    go_ret
    refine ⟨v1, rfl, by simpa using hown1, ((Below.refl _ w).alloc (Nat.le_refl _) _).grown hgr1 (by simp) (fun k hk => by simp [Value.ownBlock] at hk; omega)⟩

theorem row_sliceM {w : World} {B e s n : Nat} {v : Value} {xs : List Value} (h : w.ownsRow B e s v n xs) : ∃ a c, v = .slice a n c := by
  rcases h.2 with ⟨rfl, h0⟩ | ⟨rb, cap, cur, rfl, _⟩
  · exact ⟨none, 0, by rw [h0]⟩
  · exact ⟨_, _, rfl⟩

set_option maxHeartbeats 4000000 in
set_option maxRecDepth 1000000 in
theorem cloneM (w : World) (hb mb : Nat) (v : Value) (f : FuncId) (rk : Int) (last : Int) (R : List (Int × Mk)) (h : HeapAtM w hb v mb f rk last R) (hR : R.length ≤ 1073741823) :
    Calls Try.prog 34 #[.pointer (some ⟨hb, 0, none⟩)] w fun e w' => ∃ hb' v' mb', e = .returned (.pointer (some ⟨hb', 0, none⟩)) ∧ HeapAtM w' hb' v' mb' f rk last R ∧ Below w.heap.size w w' ∧ ∀ k, Mine hb' v' mb' k → w.heap.size ≤ k := by
  have k0 : w.cell? ⟨hb, 0, none⟩ = some (.func (.func f) #[.int .i64 rk] #[]) := by simp [World.cell?, h.box]
  have k1 : w.cell? ⟨hb, 1, none⟩ = some v := by simp [World.cell?, h.box]
  have k2 : w.cell? ⟨hb, 2, none⟩ = some (.map (some mb)) := by simp [World.cell?, h.box]
  have k3 : w.cell? ⟨hb, 3, none⟩ = some (.int .i64 last) := by simp [World.cell?, h.box]
  obtain ⟨g, htab, hsits⟩ := h.tab
  obtain ⟨av, cv, rfl⟩ := row_sliceM h.row
  have HH : Hid (HeapAtM w hb (.slice av R.length cv) mb f rk last R) := h
  have HT : Hid (Tab w mb R.length g) := htab
  have hlt := cell_lt k0
  simp only [] at hlt
  clear h htab
  go_enter Try.func34, Try.ntmps34
  go_wp2_with fail
  go_region_held (fun w' => w'.cell? ⟨hb, 0, none⟩ = some (.func (.func f) #[.int .i64 rk] #[]) ∧ w'.cell? ⟨hb, 1, none⟩ = some (.slice av R.length cv) ∧ w'.cell? ⟨hb, 2, none⟩ = some (.map (some mb)) ∧ w'.cell? ⟨hb, 3, none⟩ = some (.int .i64 last)) (first | assumption | exact ⟨k0, k1, k2, k3⟩ | exact ⟨(World.cell?_alloc_past _ _ _ hlt2).trans hS2.1, (World.cell?_alloc_past _ _ _ hlt2).trans hS2.2.1, (World.cell?_alloc_past _ _ _ hlt2).trans hS2.2.2.1, (World.cell?_alloc_past _ _ _ hlt2).trans hS2.2.2.2⟩)
    (first
      | (go_at_call 52
         refine (rowsCloneM w.drew (.slice av R.length cv) R HH.out.row hR).mono ?_
         rintro e w1 ⟨v1, rfl, o1, B1⟩
         obtain ⟨a1, c1, rfl⟩ := row_sliceM o1
         have O1 : Hid (w1.ownsRow w.heap.size 105 5 (.slice a1 R.length c1) R.length (flatM R)) := o1
         have BB1 : Hid (Below w.heap.size w w1) := ⟨B1.os, B1.tape, B1.output, B1.size, B1.block⟩
         have hS1 : w1.cell? ⟨hb, 0, none⟩ = some (.func (.func f) #[.int .i64 rk] #[]) ∧ w1.cell? ⟨hb, 1, none⟩ = some (.slice av R.length cv) ∧ w1.cell? ⟨hb, 2, none⟩ = some (.map (some mb)) ∧ w1.cell? ⟨hb, 3, none⟩ = some (.int .i64 last) := ⟨(BB1.out.cell hlt).trans k0, (BB1.out.cell hlt).trans k1, (BB1.out.cell hlt).trans k2, (BB1.out.cell hlt).trans k3⟩
         have HT1 : Hid (Tab w1 mb R.length g) := HT.out.block (BB1.out.block mb HT.out.lt)
         clear o1 B1)
      | (go_at_call 58
         refine (mapClone w1 mb R.length g HT1.out).mono ?_
         rintro e w2 ⟨rfl, t2, B2, z2⟩
         have T2 : Hid (Tab w2 w1.heap.size R.length g) := t2
         have BB2 : Hid (Below w1.heap.size w1 w2) := B2
         have hlt1 : hb < w1.heap.size := Nat.lt_of_lt_of_le hlt BB1.out.size
         have hlt2 : hb < w2.heap.size := Nat.lt_of_lt_of_le hlt1 BB2.out.size
         have hS2 : w2.cell? ⟨hb, 0, none⟩ = some (.func (.func f) #[.int .i64 rk] #[]) ∧ w2.cell? ⟨hb, 1, none⟩ = some (.slice av R.length cv) ∧ w2.cell? ⟨hb, 2, none⟩ = some (.map (some mb)) ∧ w2.cell? ⟨hb, 3, none⟩ = some (.int .i64 last) := ⟨(BB2.out.cell hlt1).trans hS1.1, (BB2.out.cell hlt1).trans hS1.2.1, (BB2.out.cell hlt1).trans hS1.2.2.1, (BB2.out.cell hlt1).trans hS1.2.2.2⟩
         clear t2 B2))
  go_wp2_with fail
  go_ret
  have z1 := BB1.out.size
  have hB2 : Below w.heap.size w w2 := BB1.out.trans (BB2.out.mono z1)
  have Z2 : w2.heap.size = w1.heap.size + 1 := z2
  refine ⟨w1.heap.size + 1, .slice a1 R.length c1, w1.heap.size, rfl, ⟨?_, ?_, ⟨g, T2.out.block (heap_alloc_old w2 _ (by omega)), hsits⟩, HH.out.fit⟩, hB2.alloc (by omega) _, ?_⟩
  · have := heap_alloc_new w2 (.cells #[.func (.func f) #[.int .i64 rk] #[], .slice a1 R.length c1, .map (some w1.heap.size), .int .i64 last] 102)
    rwa [Z2] at this
  · refine ⟨O1.out.1, ?_⟩
    rcases O1.out.2 with h0 | ⟨rb, cap, cur, hv, hB, hg, rest⟩
    · exact .inl h0
    · have hlt := (Array.getElem?_eq_some_iff.1 hg).1
      exact .inr ⟨rb, cap, cur, hv, Nat.zero_le _, (heap_alloc_old w2 _ (by omega)).trans ((BB2.out.block rb hlt).trans hg), rest⟩
  · intro k hk
    rcases hk with rfl | hk | rfl
    · omega
    · rcases O1.out.2 with ⟨h0, _⟩ | ⟨rb, cap, cur, hv, hB, hg, rest⟩
      · rw [h0] at hk; cases hk
      · rw [hv] at hk
        have : rb = k := Option.some.inj hk
        omega
    · exact z1
end Go.Proofs.Ytonfdmbcbfpgdaa

namespace Go.Proofs.Ytonfdmbcbfpgdaa
open Go.RowKit Go.Maps
theorem emap_not_nil_in (w : World) (d b : Nat) : (Op.equalIn (d + 1) 54 (.map (some b)) (.map none)).run Try.prog w = .ok false w := by
  simp [Op.equalIn, run_underlying Try.underlying54]
theorem emap_not_nil (w : World) (b : Nat) : (binOp .eql 54 (.map (some b)) (.map none)).run Try.prog w = .ok (.bool false) w := by
  simp only [binOp]
  simp [show Op.equal 54 (.map (some b)) (.map none) = Op.equalIn (9999 + 1) 54 (.map (some b)) (.map none) from rfl, emap_not_nil_in w 9999 b]
theorem emap_asserted (w : World) (x : TypeId) (v : Value) : (Instr.typeAssert (.iface 54 v) x 54 false).run Try.prog w = .ok v w := by
  simp [Instr.typeAssert, run_underlying Try.underlying54, go_sem, Result.andThen]
set_option maxHeartbeats 2000000 in
set_option maxRecDepth 1000000 in
theorem emapClone (w : World) (b n : Nat) (g : Int → Option Value) (h : VTabI w b n g) :
    Calls Try.prog 33 #[.map (some b)] w fun e w' => ∃ q, e = .returned (.map (some q)) ∧ Below w.heap.size w w' := by
  obtain ⟨es, clock, hb⟩ := h.map
  have hq := fun w => emap_not_nil w b
  have HB : Hid (w.heap[b]? = some (.map es clock)) := hb
  clear hb h
  go_enter Try.func33, Try.ntmps33
  go_wp2_with fail
  rw [run_callFunc_extern Try.func57 (by kernel_rfl) (by kernel_rfl) (by kernel_rfl) (e := Extern.MapsClone.clone) (by kernel_rfl), map_cloned 54 HB.out]
  simp only [Result.andThen]
  rw [Oper.upon_value]
  go_wp2_with fail
  rw [emap_asserted _ 20]
  simp only [Result.andThen]
  rw [Oper.upon_value]
  go_wp2_with fail
  go_ret
  exact ⟨_, rfl, (Below.refl _ w).alloc (Nat.le_refl _) _⟩
theorem range_none {T K E : TypeId} (hT : Try.prog.underlying T = some (.map K E)) {w : World} {m c : Nat} (h : w.heap[m]? = some (.map #[] c)) : (Instr.range T (.map (some m))).run Try.prog w = .ok (.pointer (some ⟨w.heap.size, 0, none⟩)) (w.alloc (.mapIter (some m) c #[] c)) := by
  simp [Instr.range, run_underlying hT, MapKept.run_getObj_map h, Result.andThen, newObj]
  rfl
theorem next_none {ty : TypeId} {w : World} {r m c c' : Nat} (h : w.heap[m]? = some (.map #[] c)) (hr : w.heap[r]? = some (.mapIter (some m) c' #[] c')) : (Instr.next (.pointer (some ⟨r, 0, none⟩)) false ty).run Try.prog w = .ok (.tuple #[.bool false]) w := by
  have hg : (getObj r).run Try.prog w = .ok (.mapIter (some m) c' #[] c') w := by
    unfold getObj
    simp [Sem.run, hr]
  simp [Instr.next, hg, MapKept.run_getObj_map h, Result.andThen, choose, Sem.run, Question.forced]
theorem vtab_emptyS {w : World} {mb : Nat} {g : ByteArray → Option Value} (h : VTabS w mb 0 g) : ∃ c, w.heap[mb]? = some (.map #[] c) := by
  obtain ⟨D, ⟨es, clock, hb, _, hs, _⟩, _⟩ := h
  have : es = #[] := Array.eq_empty_of_size_eq_zero (by omega)
  exact ⟨clock, by rw [hb, this]⟩
theorem vtab_emptyI {w : World} {mb : Nat} {g : Int → Option Value} (h : VTabI w mb 0 g) : ∃ c, w.heap[mb]? = some (.map #[] c) := by
  obtain ⟨D, ⟨es, clock, hb, _, hs, _⟩, _⟩ := h
  have : es = #[] := Array.eq_empty_of_size_eq_zero (by omega)
  exact ⟨clock, by rw [hb, this]⟩
theorem run_len0 {o : Oper} {a : Act} {w : World} {x : Operand} {T K E : TypeId} {m c : Nat} (hT : Try.prog.underlying T = some (.map K E)) (ho : o.op = .call { callee := .builtin .len, args := #[x], argTypes := #[T] }) (hx : a.eval x = .map (some m)) (h : w.heap[m]? = some (.map #[] c)) : (execOp a.eval o).run Try.prog w = .ok (.value (.int .i64 0)) w := by
  simp [execOp, ho, resolve, invoke, builtin, hx, Builtin.len_, run_underlying hT, MapKept.run_getObj_map h, Result.andThen]
  rfl
theorem makeMap_hint {w : World} {T K E : TypeId} (hT : Try.prog.underlying T = some (.map K E)) : (Instr.makeMap T (some (.int .i64 0))).run Try.prog w = .ok (.map (some w.heap.size)) (w.alloc (.map #[] 0)) := by
  simp [Instr.makeMap, Result.andThen, run_underlying hT, go_sem]
theorem run_map0 {o : Oper} {a : Act} {w : World} {x : Operand} {T K E : TypeId} (hT : Try.prog.underlying T = some (.map K E)) (ho : o.op = .makeMap T (some x)) (hx : a.eval x = .int .i64 0) : ∃ q w', (execOp a.eval o).run Try.prog w = .ok (.value (.map (some q))) w' ∧ Below w.heap.size w w' := by
  refine ⟨w.heap.size, w.alloc (.map #[] 0), ?_, (Below.refl _ w).alloc (Nat.le_refl _) _⟩
  unfold execOp
  simp only [ho, hx, Option.map_some, makeMap_hint hT, Sem.run_bind, Sem.run_pure, Result.andThen_ok]
theorem D_map {ops : Array Oper} {Q : Exit → Act → World → Prop} {i : Nat} {o : Oper} {a : Act} {w : World} {F : Act → World → Prop} {x : Operand} {T K E : TypeId} (d : Option Tmp) (hi : ops[i]? = some o) (hd : o.dst = d) (hg : Region.wanted o (yielded ops a.tmps) = true) (hT : Try.prog.underlying T = some (.map K E)) (ho : o.op = .makeMap T (some x)) (hx : a.eval x = .int .i64 0)
    (h : ∀ q w', Below w.heap.size w w' → F (a.put d (.map (some q))) w') : wpOp Try.prog ops Q i F a w := by
  obtain ⟨q, w', hr, hb⟩ := run_map0 (w := w) hT ho hx
  exact D_value d hi hd hg hr (h q w' hb)
end Go.Proofs.Ytonfdmbcbfpgdaa

namespace Go.Proofs.Ytonfdmbcbfpgdaa
open Go.RowKit Go.Maps
set_option maxHeartbeats 16000000 in
set_option maxRecDepth 1000000 in
theorem clone_empty (w : World) (lab : Nat → HK) (yb jm : Nat) (d r : HM) (h : YAt w lab yb (yd0 jm d r)) (hdR : d.R = []) (hrR : r.R = []) :
    Calls Try.prog 17 #[ptrV yb] w fun x w' => (∃ b, x = .returned (ptrV b)) ∧ Below w.heap.size w w' := by
  have hd : (yd0 jm d r).hp hkD = some d := rfl
  have hr : (yd0 jm d r).hp hkR = some r := rfl
  obtain ⟨y0, y1, y2, y3, y4⟩ := h.cells hd hr
  obtain ⟨d', r', hd', hr', hbox⟩ := h.box
  have c5 := fun k u hu => sums_cells (pre := [.map (some jm), .map (some (jm + 1)), .map (some (jm + 2)), ptrV d'.hb, ptrV r'.hb]) hbox k u hu
  have ylt := h.yb_lt
  have hTD := (h.heap _ _ hd).2.at_
  have hTR := (h.heap _ _ hr).2.at_
  rw [hdR] at hTD
  rw [hrR] at hTR
  obtain ⟨ct, het⟩ := vtab_emptyS (show VTabS w (jm + 1) 0 _ from h.tubs)
  obtain ⟨ch, heh⟩ := vtab_emptyI (show VTabI w (jm + 2) 0 _ from h.hels)
  have tlt := (Array.getElem?_eq_some_iff.1 het).1
  have hlt := (Array.getElem?_eq_some_iff.1 heh).1
  have BX : Hid (∀ X, Below w.heap.size w X → X.cell? ⟨yb, 0, none⟩ = some (.map (some jm)) ∧ X.cell? ⟨yb, 1, none⟩ = some (.map (some (jm + 1))) ∧ X.cell? ⟨yb, 2, none⟩ = some (.map (some (jm + 2))) ∧ X.cell? ⟨yb, 3, none⟩ = some (ptrV d.hb) ∧ X.cell? ⟨yb, 4, none⟩ = some (ptrV r.hb) ∧ X.heap[jm + 1]? = some (.map #[] ct) ∧ X.heap[jm + 2]? = some (.map #[] ch) ∧ X.rangeAt yb 5 sm0.cells) := fun X hX =>
    ⟨(hX.cell (p := ⟨yb, 0, none⟩) ylt).trans y0, (hX.cell (p := ⟨yb, 1, none⟩) ylt).trans y1, (hX.cell (p := ⟨yb, 2, none⟩) ylt).trans y2, (hX.cell (p := ⟨yb, 3, none⟩) ylt).trans y3, (hX.cell (p := ⟨yb, 4, none⟩) ylt).trans y4, (hX.block _ tlt).trans het, (hX.block _ hlt).trans heh, fun k u hu => (hX.cell (p := ⟨yb, 5 + k, none⟩) ylt).trans (c5 k u hu)⟩
  have C1 : Hid (∀ X, Below w.heap.size w X → Calls Try.prog 33 #[.map (some jm)] X fun e w' => ∃ q, e = .returned (.map (some q)) ∧ Below X.heap.size X w') := fun X hX => emapClone X jm _ _ (show VTabI X jm 0 _ from h.jobs.later hX)
  have C2 : Hid (∀ X, Below w.heap.size w X → Calls Try.prog 34 #[ptrV d.hb] X fun e w' => ∃ q, e = .returned (ptrV q) ∧ Below X.heap.size X w') := fun X hX => (cloneM X d.hb d.mb d.v _ _ d.last [] (hTD.later hX) (by simp)).mono (fun e w' hh => by obtain ⟨hb', v', mb', rfl, _, b, _⟩ := hh; exact ⟨hb', rfl, b⟩)
  have C3 : Hid (∀ X, Below w.heap.size w X → Calls Try.prog 34 #[ptrV r.hb] X fun e w' => ∃ q, e = .returned (ptrV q) ∧ Below X.heap.size X w') := fun X hX => (cloneM X r.hb r.mb r.v _ _ r.last [] (hTR.later hX) (by simp)).mono (fun e w' hh => by obtain ⟨hb', v', mb', rfl, _, b, _⟩ := hh; exact ⟨hb', rfl, b⟩)
  clear y0 y1 y2 y3 y4 hd hr hd' hr' hbox c5 hTD hTR het heh hdR hrR h
  go_enter Try.func17, Try.ntmps17
  go_upto_region 1 with fail
  go_cut [3] from 8 to 40 (fun s wx => ∃ b, s = .pointer (some ⟨b, 0, none⟩) ∧ Hid (Below w.heap.size w wx))
  case first =>
    have sq : Below w.heap.size w w.drew := (Below.refl _ w).drew
    refine wp_region_held_drew (S := fun X => Below w.heap.size w X) (by kernel_rfl) sq (fun _ => ?_)
    refine H_take (i := 0) (v := ptrV yb) (some 8) rfl rfl (by kernel_rfl) (by kernel_rfl) (by kernel_rfl) (fun _ _ _ h => h) rfl (fun X hX => ?_) sq ?_
    · simp [go_sem]
    simp only [Act.put, List.setIfInBounds_toArray, List.set_cons_zero, List.set_cons_succ]
    refine H_take (i := 1) (v := ptrV yb) (some 9) rfl rfl (by kernel_rfl) (by kernel_rfl) (by kernel_rfl) (fun _ _ _ h => h) rfl (fun X hX => ?_) sq ?_
    · simp [go_sem]
    simp only [Act.put, List.setIfInBounds_toArray, List.set_cons_zero, List.set_cons_succ]
    refine H_take (i := 2) (v := .pointer (some ⟨yb, 0, none⟩)) (some 10) rfl rfl (by kernel_rfl) (by kernel_rfl) (by kernel_rfl) (fun _ _ _ h => h) rfl (fun X hX => ?_) sq ?_
    · simp [go_sem]
    simp only [Act.put, List.setIfInBounds_toArray, List.set_cons_zero, List.set_cons_succ]
    refine H_take (i := 3) (v := .map (some jm)) (some 11) rfl rfl (by kernel_rfl) (by kernel_rfl) (by kernel_rfl) (fun _ _ _ h => h) rfl (fun X hX => ?_) sq ?_
    · exact run_load1 rfl rfl Try.isAgg54 (BX.out X hX).1
    simp only [Act.put, List.setIfInBounds_toArray, List.set_cons_zero, List.set_cons_succ]
    refine H_take (i := 5) (v := ptrV yb) (some 13) rfl rfl (by kernel_rfl) (by kernel_rfl) (by kernel_rfl) (fun _ _ _ h => h) rfl (fun X hX => ?_) sq ?_
    · simp [go_sem]
    simp only [Act.put, List.setIfInBounds_toArray, List.set_cons_zero, List.set_cons_succ]
    refine H_take (i := 6) (v := ptrV yb) (some 14) rfl rfl (by kernel_rfl) (by kernel_rfl) (by kernel_rfl) (fun _ _ _ h => h) rfl (fun X hX => ?_) sq ?_
    · simp [go_sem]
    simp only [Act.put, List.setIfInBounds_toArray, List.set_cons_zero, List.set_cons_succ]
    refine H_take (i := 7) (v := .pointer (some ⟨yb, 1, none⟩)) (some 15) rfl rfl (by kernel_rfl) (by kernel_rfl) (by kernel_rfl) (fun _ _ _ h => h) rfl (fun X hX => ?_) sq ?_
    · simp [go_sem]
    simp only [Act.put, List.setIfInBounds_toArray, List.set_cons_zero, List.set_cons_succ]
    refine H_take (i := 8) (v := .map (some (jm + 1))) (some 16) rfl rfl (by kernel_rfl) (by kernel_rfl) (by kernel_rfl) (fun _ _ _ h => h) rfl (fun X hX => ?_) sq ?_
    · exact run_load1 rfl rfl Try.isAgg55 (BX.out X hX).2.1
    simp only [Act.put, List.setIfInBounds_toArray, List.set_cons_zero, List.set_cons_succ]
    refine H_take (i := 11) (v := ptrV yb) (some 19) rfl rfl (by kernel_rfl) (by kernel_rfl) (by kernel_rfl) (fun _ _ _ h => h) rfl (fun X hX => ?_) sq ?_
    · simp [go_sem]
    simp only [Act.put, List.setIfInBounds_toArray, List.set_cons_zero, List.set_cons_succ]
    refine H_take (i := 12) (v := ptrV yb) (some 20) rfl rfl (by kernel_rfl) (by kernel_rfl) (by kernel_rfl) (fun _ _ _ h => h) rfl (fun X hX => ?_) sq ?_
    · simp [go_sem]
    simp only [Act.put, List.setIfInBounds_toArray, List.set_cons_zero, List.set_cons_succ]
    refine H_take (i := 13) (v := .pointer (some ⟨yb, 2, none⟩)) (some 21) rfl rfl (by kernel_rfl) (by kernel_rfl) (by kernel_rfl) (fun _ _ _ h => h) rfl (fun X hX => ?_) sq ?_
    · simp [go_sem]
    simp only [Act.put, List.setIfInBounds_toArray, List.set_cons_zero, List.set_cons_succ]
    refine H_take (i := 14) (v := .map (some (jm + 2))) (some 22) rfl rfl (by kernel_rfl) (by kernel_rfl) (by kernel_rfl) (fun _ _ _ h => h) rfl (fun X hX => ?_) sq ?_
    · exact run_load1 rfl rfl Try.isAgg56 (BX.out X hX).2.2.1
    simp only [Act.put, List.setIfInBounds_toArray, List.set_cons_zero, List.set_cons_succ]
    refine H_take (i := 17) (v := ptrV yb) (some 25) rfl rfl (by kernel_rfl) (by kernel_rfl) (by kernel_rfl) (fun _ _ _ h => h) rfl (fun X hX => ?_) sq ?_
    · simp [go_sem]
    simp only [Act.put, List.setIfInBounds_toArray, List.set_cons_zero, List.set_cons_succ]
    refine H_take (i := 18) (v := ptrV yb) (some 26) rfl rfl (by kernel_rfl) (by kernel_rfl) (by kernel_rfl) (fun _ _ _ h => h) rfl (fun X hX => ?_) sq ?_
    · simp [go_sem]
    simp only [Act.put, List.setIfInBounds_toArray, List.set_cons_zero, List.set_cons_succ]
    refine H_take (i := 19) (v := .pointer (some ⟨yb, 3, none⟩)) (some 27) rfl rfl (by kernel_rfl) (by kernel_rfl) (by kernel_rfl) (fun _ _ _ h => h) rfl (fun X hX => ?_) sq ?_
    · simp [go_sem]
    simp only [Act.put, List.setIfInBounds_toArray, List.set_cons_zero, List.set_cons_succ]
    refine H_take (i := 20) (v := ptrV d.hb) (some 28) rfl rfl (by kernel_rfl) (by kernel_rfl) (by kernel_rfl) (fun _ _ _ h => h) rfl (fun X hX => ?_) sq ?_
    · exact run_load1 rfl rfl Try.isAgg57 (BX.out X hX).2.2.2.1
    simp only [Act.put, List.setIfInBounds_toArray, List.set_cons_zero, List.set_cons_succ]
    refine H_take (i := 22) (v := ptrV yb) (some 30) rfl rfl (by kernel_rfl) (by kernel_rfl) (by kernel_rfl) (fun _ _ _ h => h) rfl (fun X hX => ?_) sq ?_
    · simp [go_sem]
    simp only [Act.put, List.setIfInBounds_toArray, List.set_cons_zero, List.set_cons_succ]
    refine H_take (i := 23) (v := ptrV yb) (some 31) rfl rfl (by kernel_rfl) (by kernel_rfl) (by kernel_rfl) (fun _ _ _ h => h) rfl (fun X hX => ?_) sq ?_
    · simp [go_sem]
    simp only [Act.put, List.setIfInBounds_toArray, List.set_cons_zero, List.set_cons_succ]
    refine H_take (i := 24) (v := .pointer (some ⟨yb, 4, none⟩)) (some 32) rfl rfl (by kernel_rfl) (by kernel_rfl) (by kernel_rfl) (fun _ _ _ h => h) rfl (fun X hX => ?_) sq ?_
    · simp [go_sem]
    simp only [Act.put, List.setIfInBounds_toArray, List.set_cons_zero, List.set_cons_succ]
    refine H_take (i := 25) (v := ptrV r.hb) (some 33) rfl rfl (by kernel_rfl) (by kernel_rfl) (by kernel_rfl) (fun _ _ _ h => h) rfl (fun X hX => ?_) sq ?_
    · exact run_load1 rfl rfl Try.isAgg57 (BX.out X hX).2.2.2.2.1
    simp only [Act.put, List.setIfInBounds_toArray, List.set_cons_zero, List.set_cons_succ]
    refine H_take (i := 27) (v := ptrV yb) (some 35) rfl rfl (by kernel_rfl) (by kernel_rfl) (by kernel_rfl) (fun _ _ _ h => h) rfl (fun X hX => ?_) sq ?_
    · simp [go_sem]
    simp only [Act.put, List.setIfInBounds_toArray, List.set_cons_zero, List.set_cons_succ]
    refine H_take (i := 28) (v := ptrV yb) (some 36) rfl rfl (by kernel_rfl) (by kernel_rfl) (by kernel_rfl) (fun _ _ _ h => h) rfl (fun X hX => ?_) sq ?_
    · simp [go_sem]
    simp only [Act.put, List.setIfInBounds_toArray, List.set_cons_zero, List.set_cons_succ]
    refine H_take (i := 29) (v := .pointer (some ⟨yb, 5, none⟩)) (some 37) rfl rfl (by kernel_rfl) (by kernel_rfl) (by kernel_rfl) (fun _ _ _ h => h) rfl (fun X hX => ?_) sq ?_
    · simp [go_sem]
    simp only [Act.put, List.setIfInBounds_toArray, List.set_cons_zero, List.set_cons_succ]
    refine H_take (i := 30) (v := .agg #[.int .i64 0, .int .i64 0, .int .i64 0, .int .i64 0, .int .i64 0]) (some 38) rfl rfl (by kernel_rfl) (by kernel_rfl) (by kernel_rfl) (fun _ _ _ h => h) rfl (fun X hX => ?_) sq ?_
    · have := run_loadAt_mid (P := Try.prog) X yb 5 27 sm0.cells _ (BX.out X hX).2.2.2.2.2.2.2 Try.underlying27 rfl (by kernel_rfl)
      simp [execOp, Act.eval, this, Result.andThen]
      rfl
    simp only [Act.put, List.setIfInBounds_toArray, List.set_cons_zero, List.set_cons_succ]
    obtain ⟨W0, hW0⟩ : ∃ W0, W0 = w.drew := ⟨_, rfl⟩
    have s0 : Below w.heap.size w W0 := by rw [hW0]; exact sq
    rw [← hW0]
    clear hW0 sq
    refine wpAnyH_all (rs := [4]) (by kernel_rfl) (by decide) (fun i hi => ?_)
    obtain rfl : i = 4 := by simpa using hi
    refine D_call (f := 33) (args := #[.map (some jm)]) (some 12) rfl rfl rfl (by simp [go_sem]) ((C1.out _ s0).mono ?_)
    rintro e W1 ⟨x4, rfl, bb⟩
    have s1 := s0.trans (bb.mono s0.size)
    refine ⟨_, rfl, s1, ?_⟩
    simp only [Act.put, List.setIfInBounds_toArray, List.set_cons_zero, List.set_cons_succ]
    refine H_take (i := 9) (v := .int .i64 0) (some 17) rfl rfl (by kernel_rfl) (by kernel_rfl) (by kernel_rfl) (fun _ _ _ h => h) rfl (fun X hX => ?_) s1 ?_
    · exact run_len0 Try.underlying55 rfl rfl (BX.out X hX).2.2.2.2.2.1
    simp only [Act.put, List.setIfInBounds_toArray, List.set_cons_zero, List.set_cons_succ]
    refine H_take (i := 15) (v := .int .i64 0) (some 23) rfl rfl (by kernel_rfl) (by kernel_rfl) (by kernel_rfl) (fun _ _ _ h => h) rfl (fun X hX => ?_) s1 ?_
    · exact run_len0 Try.underlying56 rfl rfl (BX.out X hX).2.2.2.2.2.2.1
    simp only [Act.put, List.setIfInBounds_toArray, List.set_cons_zero, List.set_cons_succ]
    refine wpAnyH_all (rs := [10, 16, 21]) (by kernel_rfl) (by decide) (fun i hi => ?_)
    have hi2 : i = 10 ∨ i = 16 ∨ i = 21 := by simpa using hi
    rcases hi2 with rfl | rfl | rfl
    · refine D_map (x := .tmp 17) (some 18) rfl rfl rfl Try.underlying55 rfl rfl (fun x10 W2 bb => ?_)
      have s2 := s1.trans (bb.mono s1.size)
      refine ⟨s2, ?_⟩
      simp only [Act.put, List.setIfInBounds_toArray, List.set_cons_zero, List.set_cons_succ]
      refine wpAnyH_all (rs := [16, 21]) (by kernel_rfl) (by decide) (fun i hi => ?_)
      have hi2 : i = 16 ∨ i = 21 := by simpa using hi
      rcases hi2 with rfl | rfl
      · refine D_map (x := .tmp 23) (some 24) rfl rfl rfl Try.underlying56 rfl rfl (fun x16 W3 bb => ?_)
        have s3 := s2.trans (bb.mono s2.size)
        refine ⟨s3, ?_⟩
        simp only [Act.put, List.setIfInBounds_toArray, List.set_cons_zero, List.set_cons_succ]
        refine wpAnyH_all (rs := [21]) (by kernel_rfl) (by decide) (fun i hi => ?_)
        obtain rfl : i = 21 := by simpa using hi
        refine D_call (f := 34) (args := #[ptrV d.hb]) (some 29) rfl rfl rfl (by simp [go_sem]) ((C2.out _ s3).mono ?_)
        rintro e W4 ⟨x21, rfl, bb⟩
        have s4 := s3.trans (bb.mono s3.size)
        refine ⟨_, rfl, s4, ?_⟩
        simp only [Act.put, List.setIfInBounds_toArray, List.set_cons_zero, List.set_cons_succ]
        refine wpAnyH_all (rs := [26]) (by kernel_rfl) (by decide) (fun i hi => ?_)
        obtain rfl : i = 26 := by simpa using hi
        refine D_call (f := 34) (args := #[ptrV r.hb]) (some 34) rfl rfl rfl (by simp [go_sem]) ((C3.out _ s4).mono ?_)
        rintro e W5 ⟨x26, rfl, bb⟩
        have s5 := s4.trans (bb.mono s4.size)
        refine ⟨_, rfl, s5, ?_⟩
        simp only [Act.put, List.setIfInBounds_toArray, List.set_cons_zero, List.set_cons_succ]
        refine H_take (i := 31) (v := .agg #[.map (some x4), .map (some x10), .map (some x16), ptrV x21, ptrV x26, .int .i64 0, .int .i64 0, .int .i64 0, .int .i64 0, .int .i64 0]) (some 39) rfl rfl (by kernel_rfl) (by kernel_rfl) (by kernel_rfl) (fun _ _ _ h => h) rfl (fun X hX => ?_) s5 ?_
        · simp [go_sem]
        simp only [Act.put, List.setIfInBounds_toArray, List.set_cons_zero, List.set_cons_succ]
        have sz := s5.trans (Below.mono ((Below.refl _ W5).alloc (Nat.le_refl _) (.cells #[.map (some x4), .map (some x10), .map (some x16), ptrV x21, ptrV x26, .int .i64 0, .int .i64 0, .int .i64 0, .int .i64 0, .int .i64 0] 59)) s5.size)
        refine H_value (i := 32) (v := .pointer (some ⟨W5.heap.size, 0, none⟩)) (some 40) rfl rfl (by kernel_rfl) rfl (by simp [go_sem]) sz ?_
        simp only [Act.put, List.setIfInBounds_toArray, List.set_cons_zero, List.set_cons_succ]
        refine H_take (i := 33) (v := .pointer (some ⟨W5.heap.size, 0, none⟩)) (some 3) rfl rfl (by kernel_rfl) (by kernel_rfl) (by kernel_rfl) (fun _ _ _ h => h) rfl (fun X hX => ?_) sz ?_
        · simp [go_sem]
        simp only [Act.put, List.setIfInBounds_toArray, List.set_cons_zero, List.set_cons_succ]
        refine wpAnyH_done (by kernel_rfl) ?_ _
        go_wp2_with fail
        go_meet
        exact ⟨_, rfl, sz⟩
      · refine D_call (f := 34) (args := #[ptrV d.hb]) (some 29) rfl rfl rfl (by simp [go_sem]) ((C2.out _ s2).mono ?_)
        rintro e W3 ⟨x21, rfl, bb⟩
        have s3 := s2.trans (bb.mono s2.size)
        refine ⟨_, rfl, s3, ?_⟩
        simp only [Act.put, List.setIfInBounds_toArray, List.set_cons_zero, List.set_cons_succ]
        refine wpAnyH_all (rs := [16, 26]) (by kernel_rfl) (by decide) (fun i hi => ?_)
        have hi2 : i = 16 ∨ i = 26 := by simpa using hi
        rcases hi2 with rfl | rfl
        · refine D_map (x := .tmp 23) (some 24) rfl rfl rfl Try.underlying56 rfl rfl (fun x16 W4 bb => ?_)
          have s4 := s3.trans (bb.mono s3.size)
          refine ⟨s4, ?_⟩
          simp only [Act.put, List.setIfInBounds_toArray, List.set_cons_zero, List.set_cons_succ]
          refine wpAnyH_all (rs := [26]) (by kernel_rfl) (by decide) (fun i hi => ?_)
          obtain rfl : i = 26 := by simpa using hi
          refine D_call (f := 34) (args := #[ptrV r.hb]) (some 34) rfl rfl rfl (by simp [go_sem]) ((C3.out _ s4).mono ?_)
          rintro e W5 ⟨x26, rfl, bb⟩
          have s5 := s4.trans (bb.mono s4.size)
          refine ⟨_, rfl, s5, ?_⟩
          simp only [Act.put, List.setIfInBounds_toArray, List.set_cons_zero, List.set_cons_succ]
          refine H_take (i := 31) (v := .agg #[.map (some x4), .map (some x10), .map (some x16), ptrV x21, ptrV x26, .int .i64 0, .int .i64 0, .int .i64 0, .int .i64 0, .int .i64 0]) (some 39) rfl rfl (by kernel_rfl) (by kernel_rfl) (by kernel_rfl) (fun _ _ _ h => h) rfl (fun X hX => ?_) s5 ?_
          · simp [go_sem]
          simp only [Act.put, List.setIfInBounds_toArray, List.set_cons_zero, List.set_cons_succ]
          have sz := s5.trans (Below.mono ((Below.refl _ W5).alloc (Nat.le_refl _) (.cells #[.map (some x4), .map (some x10), .map (some x16), ptrV x21, ptrV x26, .int .i64 0, .int .i64 0, .int .i64 0, .int .i64 0, .int .i64 0] 59)) s5.size)
          refine H_value (i := 32) (v := .pointer (some ⟨W5.heap.size, 0, none⟩)) (some 40) rfl rfl (by kernel_rfl) rfl (by simp [go_sem]) sz ?_
          simp only [Act.put, List.setIfInBounds_toArray, List.set_cons_zero, List.set_cons_succ]
          refine H_take (i := 33) (v := .pointer (some ⟨W5.heap.size, 0, none⟩)) (some 3) rfl rfl (by kernel_rfl) (by kernel_rfl) (by kernel_rfl) (fun _ _ _ h => h) rfl (fun X hX => ?_) sz ?_
          · simp [go_sem]
          simp only [Act.put, List.setIfInBounds_toArray, List.set_cons_zero, List.set_cons_succ]
          refine wpAnyH_done (by kernel_rfl) ?_ _
          go_wp2_with fail
          go_meet
          exact ⟨_, rfl, sz⟩
        · refine D_call (f := 34) (args := #[ptrV r.hb]) (some 34) rfl rfl rfl (by simp [go_sem]) ((C3.out _ s3).mono ?_)
          rintro e W4 ⟨x26, rfl, bb⟩
          have s4 := s3.trans (bb.mono s3.size)
          refine ⟨_, rfl, s4, ?_⟩
          simp only [Act.put, List.setIfInBounds_toArray, List.set_cons_zero, List.set_cons_succ]
          refine wpAnyH_all (rs := [16]) (by kernel_rfl) (by decide) (fun i hi => ?_)
          obtain rfl : i = 16 := by simpa using hi
          refine D_map (x := .tmp 23) (some 24) rfl rfl rfl Try.underlying56 rfl rfl (fun x16 W5 bb => ?_)
          have s5 := s4.trans (bb.mono s4.size)
          refine ⟨s5, ?_⟩
          simp only [Act.put, List.setIfInBounds_toArray, List.set_cons_zero, List.set_cons_succ]
          refine H_take (i := 31) (v := .agg #[.map (some x4), .map (some x10), .map (some x16), ptrV x21, ptrV x26, .int .i64 0, .int .i64 0, .int .i64 0, .int .i64 0, .int .i64 0]) (some 39) rfl rfl (by kernel_rfl) (by kernel_rfl) (by kernel_rfl) (fun _ _ _ h => h) rfl (fun X hX => ?_) s5 ?_
          · simp [go_sem]
          simp only [Act.put, List.setIfInBounds_toArray, List.set_cons_zero, List.set_cons_succ]
          have sz := s5.trans (Below.mono ((Below.refl _ W5).alloc (Nat.le_refl _) (.cells #[.map (some x4), .map (some x10), .map (some x16), ptrV x21, ptrV x26, .int .i64 0, .int .i64 0, .int .i64 0, .int .i64 0, .int .i64 0] 59)) s5.size)
          refine H_value (i := 32) (v := .pointer (some ⟨W5.heap.size, 0, none⟩)) (some 40) rfl rfl (by kernel_rfl) rfl (by simp [go_sem]) sz ?_
          simp only [Act.put, List.setIfInBounds_toArray, List.set_cons_zero, List.set_cons_succ]
          refine H_take (i := 33) (v := .pointer (some ⟨W5.heap.size, 0, none⟩)) (some 3) rfl rfl (by kernel_rfl) (by kernel_rfl) (by kernel_rfl) (fun _ _ _ h => h) rfl (fun X hX => ?_) sz ?_
          · simp [go_sem]
          simp only [Act.put, List.setIfInBounds_toArray, List.set_cons_zero, List.set_cons_succ]
          refine wpAnyH_done (by kernel_rfl) ?_ _
          go_wp2_with fail
          go_meet
          exact ⟨_, rfl, sz⟩
    · refine D_map (x := .tmp 23) (some 24) rfl rfl rfl Try.underlying56 rfl rfl (fun x16 W2 bb => ?_)
      have s2 := s1.trans (bb.mono s1.size)
      refine ⟨s2, ?_⟩
      simp only [Act.put, List.setIfInBounds_toArray, List.set_cons_zero, List.set_cons_succ]
      refine wpAnyH_all (rs := [10, 21]) (by kernel_rfl) (by decide) (fun i hi => ?_)
      have hi2 : i = 10 ∨ i = 21 := by simpa using hi
      rcases hi2 with rfl | rfl
      · refine D_map (x := .tmp 17) (some 18) rfl rfl rfl Try.underlying55 rfl rfl (fun x10 W3 bb => ?_)
        have s3 := s2.trans (bb.mono s2.size)
        refine ⟨s3, ?_⟩
        simp only [Act.put, List.setIfInBounds_toArray, List.set_cons_zero, List.set_cons_succ]
        refine wpAnyH_all (rs := [21]) (by kernel_rfl) (by decide) (fun i hi => ?_)
        obtain rfl : i = 21 := by simpa using hi
        refine D_call (f := 34) (args := #[ptrV d.hb]) (some 29) rfl rfl rfl (by simp [go_sem]) ((C2.out _ s3).mono ?_)
        rintro e W4 ⟨x21, rfl, bb⟩
        have s4 := s3.trans (bb.mono s3.size)
        refine ⟨_, rfl, s4, ?_⟩
        simp only [Act.put, List.setIfInBounds_toArray, List.set_cons_zero, List.set_cons_succ]
        refine wpAnyH_all (rs := [26]) (by kernel_rfl) (by decide) (fun i hi => ?_)
        obtain rfl : i = 26 := by simpa using hi
        refine D_call (f := 34) (args := #[ptrV r.hb]) (some 34) rfl rfl rfl (by simp [go_sem]) ((C3.out _ s4).mono ?_)
        rintro e W5 ⟨x26, rfl, bb⟩
        have s5 := s4.trans (bb.mono s4.size)
        refine ⟨_, rfl, s5, ?_⟩
        simp only [Act.put, List.setIfInBounds_toArray, List.set_cons_zero, List.set_cons_succ]
        refine H_take (i := 31) (v := .agg #[.map (some x4), .map (some x10), .map (some x16), ptrV x21, ptrV x26, .int .i64 0, .int .i64 0, .int .i64 0, .int .i64 0, .int .i64 0]) (some 39) rfl rfl (by kernel_rfl) (by kernel_rfl) (by kernel_rfl) (fun _ _ _ h => h) rfl (fun X hX => ?_) s5 ?_
        · simp [go_sem]
        simp only [Act.put, List.setIfInBounds_toArray, List.set_cons_zero, List.set_cons_succ]
        have sz := s5.trans (Below.mono ((Below.refl _ W5).alloc (Nat.le_refl _) (.cells #[.map (some x4), .map (some x10), .map (some x16), ptrV x21, ptrV x26, .int .i64 0, .int .i64 0, .int .i64 0, .int .i64 0, .int .i64 0] 59)) s5.size)
        refine H_value (i := 32) (v := .pointer (some ⟨W5.heap.size, 0, none⟩)) (some 40) rfl rfl (by kernel_rfl) rfl (by simp [go_sem]) sz ?_
        simp only [Act.put, List.setIfInBounds_toArray, List.set_cons_zero, List.set_cons_succ]
        refine H_take (i := 33) (v := .pointer (some ⟨W5.heap.size, 0, none⟩)) (some 3) rfl rfl (by kernel_rfl) (by kernel_rfl) (by kernel_rfl) (fun _ _ _ h => h) rfl (fun X hX => ?_) sz ?_
        · simp [go_sem]
        simp only [Act.put, List.setIfInBounds_toArray, List.set_cons_zero, List.set_cons_succ]
        refine wpAnyH_done (by kernel_rfl) ?_ _
        go_wp2_with fail
        go_meet
        exact ⟨_, rfl, sz⟩
      · refine D_call (f := 34) (args := #[ptrV d.hb]) (some 29) rfl rfl rfl (by simp [go_sem]) ((C2.out _ s2).mono ?_)
        rintro e W3 ⟨x21, rfl, bb⟩
        have s3 := s2.trans (bb.mono s2.size)
        refine ⟨_, rfl, s3, ?_⟩
        simp only [Act.put, List.setIfInBounds_toArray, List.set_cons_zero, List.set_cons_succ]
        refine wpAnyH_all (rs := [10, 26]) (by kernel_rfl) (by decide) (fun i hi => ?_)
        have hi2 : i = 10 ∨ i = 26 := by simpa using hi
        rcases hi2 with rfl | rfl
        · refine D_map (x := .tmp 17) (some 18) rfl rfl rfl Try.underlying55 rfl rfl (fun x10 W4 bb => ?_)
          have s4 := s3.trans (bb.mono s3.size)
          refine ⟨s4, ?_⟩
          simp only [Act.put, List.setIfInBounds_toArray, List.set_cons_zero, List.set_cons_succ]
          refine wpAnyH_all (rs := [26]) (by kernel_rfl) (by decide) (fun i hi => ?_)
          obtain rfl : i = 26 := by simpa using hi
          refine D_call (f := 34) (args := #[ptrV r.hb]) (some 34) rfl rfl rfl (by simp [go_sem]) ((C3.out _ s4).mono ?_)
          rintro e W5 ⟨x26, rfl, bb⟩
          have s5 := s4.trans (bb.mono s4.size)
          refine ⟨_, rfl, s5, ?_⟩
          simp only [Act.put, List.setIfInBounds_toArray, List.set_cons_zero, List.set_cons_succ]
          refine H_take (i := 31) (v := .agg #[.map (some x4), .map (some x10), .map (some x16), ptrV x21, ptrV x26, .int .i64 0, .int .i64 0, .int .i64 0, .int .i64 0, .int .i64 0]) (some 39) rfl rfl (by kernel_rfl) (by kernel_rfl) (by kernel_rfl) (fun _ _ _ h => h) rfl (fun X hX => ?_) s5 ?_
          · simp [go_sem]
          simp only [Act.put, List.setIfInBounds_toArray, List.set_cons_zero, List.set_cons_succ]
          have sz := s5.trans (Below.mono ((Below.refl _ W5).alloc (Nat.le_refl _) (.cells #[.map (some x4), .map (some x10), .map (some x16), ptrV x21, ptrV x26, .int .i64 0, .int .i64 0, .int .i64 0, .int .i64 0, .int .i64 0] 59)) s5.size)
          refine H_value (i := 32) (v := .pointer (some ⟨W5.heap.size, 0, none⟩)) (some 40) rfl rfl (by kernel_rfl) rfl (by simp [go_sem]) sz ?_
          simp only [Act.put, List.setIfInBounds_toArray, List.set_cons_zero, List.set_cons_succ]
          refine H_take (i := 33) (v := .pointer (some ⟨W5.heap.size, 0, none⟩)) (some 3) rfl rfl (by kernel_rfl) (by kernel_rfl) (by kernel_rfl) (fun _ _ _ h => h) rfl (fun X hX => ?_) sz ?_
          · simp [go_sem]
          simp only [Act.put, List.setIfInBounds_toArray, List.set_cons_zero, List.set_cons_succ]
          refine wpAnyH_done (by kernel_rfl) ?_ _
          go_wp2_with fail
          go_meet
          exact ⟨_, rfl, sz⟩
        · refine D_call (f := 34) (args := #[ptrV r.hb]) (some 34) rfl rfl rfl (by simp [go_sem]) ((C3.out _ s3).mono ?_)
          rintro e W4 ⟨x26, rfl, bb⟩
          have s4 := s3.trans (bb.mono s3.size)
          refine ⟨_, rfl, s4, ?_⟩
          simp only [Act.put, List.setIfInBounds_toArray, List.set_cons_zero, List.set_cons_succ]
          refine wpAnyH_all (rs := [10]) (by kernel_rfl) (by decide) (fun i hi => ?_)
          obtain rfl : i = 10 := by simpa using hi
          refine D_map (x := .tmp 17) (some 18) rfl rfl rfl Try.underlying55 rfl rfl (fun x10 W5 bb => ?_)
          have s5 := s4.trans (bb.mono s4.size)
          refine ⟨s5, ?_⟩
          simp only [Act.put, List.setIfInBounds_toArray, List.set_cons_zero, List.set_cons_succ]
          refine H_take (i := 31) (v := .agg #[.map (some x4), .map (some x10), .map (some x16), ptrV x21, ptrV x26, .int .i64 0, .int .i64 0, .int .i64 0, .int .i64 0, .int .i64 0]) (some 39) rfl rfl (by kernel_rfl) (by kernel_rfl) (by kernel_rfl) (fun _ _ _ h => h) rfl (fun X hX => ?_) s5 ?_
          · simp [go_sem]
          simp only [Act.put, List.setIfInBounds_toArray, List.set_cons_zero, List.set_cons_succ]
          have sz := s5.trans (Below.mono ((Below.refl _ W5).alloc (Nat.le_refl _) (.cells #[.map (some x4), .map (some x10), .map (some x16), ptrV x21, ptrV x26, .int .i64 0, .int .i64 0, .int .i64 0, .int .i64 0, .int .i64 0] 59)) s5.size)
          refine H_value (i := 32) (v := .pointer (some ⟨W5.heap.size, 0, none⟩)) (some 40) rfl rfl (by kernel_rfl) rfl (by simp [go_sem]) sz ?_
          simp only [Act.put, List.setIfInBounds_toArray, List.set_cons_zero, List.set_cons_succ]
          refine H_take (i := 33) (v := .pointer (some ⟨W5.heap.size, 0, none⟩)) (some 3) rfl rfl (by kernel_rfl) (by kernel_rfl) (by kernel_rfl) (fun _ _ _ h => h) rfl (fun X hX => ?_) sz ?_
          · simp [go_sem]
          simp only [Act.put, List.setIfInBounds_toArray, List.set_cons_zero, List.set_cons_succ]
          refine wpAnyH_done (by kernel_rfl) ?_ _
          go_wp2_with fail
          go_meet
          exact ⟨_, rfl, sz⟩
    · refine D_call (f := 34) (args := #[ptrV d.hb]) (some 29) rfl rfl rfl (by simp [go_sem]) ((C2.out _ s1).mono ?_)
      rintro e W2 ⟨x21, rfl, bb⟩
      have s2 := s1.trans (bb.mono s1.size)
      refine ⟨_, rfl, s2, ?_⟩
      simp only [Act.put, List.setIfInBounds_toArray, List.set_cons_zero, List.set_cons_succ]
      refine wpAnyH_all (rs := [10, 16, 26]) (by kernel_rfl) (by decide) (fun i hi => ?_)
      have hi2 : i = 10 ∨ i = 16 ∨ i = 26 := by simpa using hi
      rcases hi2 with rfl | rfl | rfl
      · refine D_map (x := .tmp 17) (some 18) rfl rfl rfl Try.underlying55 rfl rfl (fun x10 W3 bb => ?_)
        have s3 := s2.trans (bb.mono s2.size)
        refine ⟨s3, ?_⟩
        simp only [Act.put, List.setIfInBounds_toArray, List.set_cons_zero, List.set_cons_succ]
        refine wpAnyH_all (rs := [16, 26]) (by kernel_rfl) (by decide) (fun i hi => ?_)
        have hi2 : i = 16 ∨ i = 26 := by simpa using hi
        rcases hi2 with rfl | rfl
        · refine D_map (x := .tmp 23) (some 24) rfl rfl rfl Try.underlying56 rfl rfl (fun x16 W4 bb => ?_)
          have s4 := s3.trans (bb.mono s3.size)
          refine ⟨s4, ?_⟩
          simp only [Act.put, List.setIfInBounds_toArray, List.set_cons_zero, List.set_cons_succ]
          refine wpAnyH_all (rs := [26]) (by kernel_rfl) (by decide) (fun i hi => ?_)
          obtain rfl : i = 26 := by simpa using hi
          refine D_call (f := 34) (args := #[ptrV r.hb]) (some 34) rfl rfl rfl (by simp [go_sem]) ((C3.out _ s4).mono ?_)
          rintro e W5 ⟨x26, rfl, bb⟩
          have s5 := s4.trans (bb.mono s4.size)
          refine ⟨_, rfl, s5, ?_⟩
          simp only [Act.put, List.setIfInBounds_toArray, List.set_cons_zero, List.set_cons_succ]
          refine H_take (i := 31) (v := .agg #[.map (some x4), .map (some x10), .map (some x16), ptrV x21, ptrV x26, .int .i64 0, .int .i64 0, .int .i64 0, .int .i64 0, .int .i64 0]) (some 39) rfl rfl (by kernel_rfl) (by kernel_rfl) (by kernel_rfl) (fun _ _ _ h => h) rfl (fun X hX => ?_) s5 ?_
          · simp [go_sem]
          simp only [Act.put, List.setIfInBounds_toArray, List.set_cons_zero, List.set_cons_succ]
          have sz := s5.trans (Below.mono ((Below.refl _ W5).alloc (Nat.le_refl _) (.cells #[.map (some x4), .map (some x10), .map (some x16), ptrV x21, ptrV x26, .int .i64 0, .int .i64 0, .int .i64 0, .int .i64 0, .int .i64 0] 59)) s5.size)
          refine H_value (i := 32) (v := .pointer (some ⟨W5.heap.size, 0, none⟩)) (some 40) rfl rfl (by kernel_rfl) rfl (by simp [go_sem]) sz ?_
          simp only [Act.put, List.setIfInBounds_toArray, List.set_cons_zero, List.set_cons_succ]
          refine H_take (i := 33) (v := .pointer (some ⟨W5.heap.size, 0, none⟩)) (some 3) rfl rfl (by kernel_rfl) (by kernel_rfl) (by kernel_rfl) (fun _ _ _ h => h) rfl (fun X hX => ?_) sz ?_
          · simp [go_sem]
          simp only [Act.put, List.setIfInBounds_toArray, List.set_cons_zero, List.set_cons_succ]
          refine wpAnyH_done (by kernel_rfl) ?_ _
          go_wp2_with fail
          go_meet
          exact ⟨_, rfl, sz⟩
        · refine D_call (f := 34) (args := #[ptrV r.hb]) (some 34) rfl rfl rfl (by simp [go_sem]) ((C3.out _ s3).mono ?_)
          rintro e W4 ⟨x26, rfl, bb⟩
          have s4 := s3.trans (bb.mono s3.size)
          refine ⟨_, rfl, s4, ?_⟩
          simp only [Act.put, List.setIfInBounds_toArray, List.set_cons_zero, List.set_cons_succ]
          refine wpAnyH_all (rs := [16]) (by kernel_rfl) (by decide) (fun i hi => ?_)
          obtain rfl : i = 16 := by simpa using hi
          refine D_map (x := .tmp 23) (some 24) rfl rfl rfl Try.underlying56 rfl rfl (fun x16 W5 bb => ?_)
          have s5 := s4.trans (bb.mono s4.size)
          refine ⟨s5, ?_⟩
          simp only [Act.put, List.setIfInBounds_toArray, List.set_cons_zero, List.set_cons_succ]
          refine H_take (i := 31) (v := .agg #[.map (some x4), .map (some x10), .map (some x16), ptrV x21, ptrV x26, .int .i64 0, .int .i64 0, .int .i64 0, .int .i64 0, .int .i64 0]) (some 39) rfl rfl (by kernel_rfl) (by kernel_rfl) (by kernel_rfl) (fun _ _ _ h => h) rfl (fun X hX => ?_) s5 ?_
          · simp [go_sem]
          simp only [Act.put, List.setIfInBounds_toArray, List.set_cons_zero, List.set_cons_succ]
          have sz := s5.trans (Below.mono ((Below.refl _ W5).alloc (Nat.le_refl _) (.cells #[.map (some x4), .map (some x10), .map (some x16), ptrV x21, ptrV x26, .int .i64 0, .int .i64 0, .int .i64 0, .int .i64 0, .int .i64 0] 59)) s5.size)
          refine H_value (i := 32) (v := .pointer (some ⟨W5.heap.size, 0, none⟩)) (some 40) rfl rfl (by kernel_rfl) rfl (by simp [go_sem]) sz ?_
          simp only [Act.put, List.setIfInBounds_toArray, List.set_cons_zero, List.set_cons_succ]
          refine H_take (i := 33) (v := .pointer (some ⟨W5.heap.size, 0, none⟩)) (some 3) rfl rfl (by kernel_rfl) (by kernel_rfl) (by kernel_rfl) (fun _ _ _ h => h) rfl (fun X hX => ?_) sz ?_
          · simp [go_sem]
          simp only [Act.put, List.setIfInBounds_toArray, List.set_cons_zero, List.set_cons_succ]
          refine wpAnyH_done (by kernel_rfl) ?_ _
          go_wp2_with fail
          go_meet
          exact ⟨_, rfl, sz⟩
      · refine D_map (x := .tmp 23) (some 24) rfl rfl rfl Try.underlying56 rfl rfl (fun x16 W3 bb => ?_)
        have s3 := s2.trans (bb.mono s2.size)
        refine ⟨s3, ?_⟩
        simp only [Act.put, List.setIfInBounds_toArray, List.set_cons_zero, List.set_cons_succ]
        refine wpAnyH_all (rs := [10, 26]) (by kernel_rfl) (by decide) (fun i hi => ?_)
        have hi2 : i = 10 ∨ i = 26 := by simpa using hi
        rcases hi2 with rfl | rfl
        · refine D_map (x := .tmp 17) (some 18) rfl rfl rfl Try.underlying55 rfl rfl (fun x10 W4 bb => ?_)
          have s4 := s3.trans (bb.mono s3.size)
          refine ⟨s4, ?_⟩
          simp only [Act.put, List.setIfInBounds_toArray, List.set_cons_zero, List.set_cons_succ]
          refine wpAnyH_all (rs := [26]) (by kernel_rfl) (by decide) (fun i hi => ?_)
          obtain rfl : i = 26 := by simpa using hi
          refine D_call (f := 34) (args := #[ptrV r.hb]) (some 34) rfl rfl rfl (by simp [go_sem]) ((C3.out _ s4).mono ?_)
          rintro e W5 ⟨x26, rfl, bb⟩
          have s5 := s4.trans (bb.mono s4.size)
          refine ⟨_, rfl, s5, ?_⟩
          simp only [Act.put, List.setIfInBounds_toArray, List.set_cons_zero, List.set_cons_succ]
          refine H_take (i := 31) (v := .agg #[.map (some x4), .map (some x10), .map (some x16), ptrV x21, ptrV x26, .int .i64 0, .int .i64 0, .int .i64 0, .int .i64 0, .int .i64 0]) (some 39) rfl rfl (by kernel_rfl) (by kernel_rfl) (by kernel_rfl) (fun _ _ _ h => h) rfl (fun X hX => ?_) s5 ?_
          · simp [go_sem]
          simp only [Act.put, List.setIfInBounds_toArray, List.set_cons_zero, List.set_cons_succ]
          have sz := s5.trans (Below.mono ((Below.refl _ W5).alloc (Nat.le_refl _) (.cells #[.map (some x4), .map (some x10), .map (some x16), ptrV x21, ptrV x26, .int .i64 0, .int .i64 0, .int .i64 0, .int .i64 0, .int .i64 0] 59)) s5.size)
          refine H_value (i := 32) (v := .pointer (some ⟨W5.heap.size, 0, none⟩)) (some 40) rfl rfl (by kernel_rfl) rfl (by simp [go_sem]) sz ?_
          simp only [Act.put, List.setIfInBounds_toArray, List.set_cons_zero, List.set_cons_succ]
          refine H_take (i := 33) (v := .pointer (some ⟨W5.heap.size, 0, none⟩)) (some 3) rfl rfl (by kernel_rfl) (by kernel_rfl) (by kernel_rfl) (fun _ _ _ h => h) rfl (fun X hX => ?_) sz ?_
          · simp [go_sem]
          simp only [Act.put, List.setIfInBounds_toArray, List.set_cons_zero, List.set_cons_succ]
          refine wpAnyH_done (by kernel_rfl) ?_ _
          go_wp2_with fail
          go_meet
          exact ⟨_, rfl, sz⟩
        · refine D_call (f := 34) (args := #[ptrV r.hb]) (some 34) rfl rfl rfl (by simp [go_sem]) ((C3.out _ s3).mono ?_)
          rintro e W4 ⟨x26, rfl, bb⟩
          have s4 := s3.trans (bb.mono s3.size)
          refine ⟨_, rfl, s4, ?_⟩
          simp only [Act.put, List.setIfInBounds_toArray, List.set_cons_zero, List.set_cons_succ]
          refine wpAnyH_all (rs := [10]) (by kernel_rfl) (by decide) (fun i hi => ?_)
          obtain rfl : i = 10 := by simpa using hi
          refine D_map (x := .tmp 17) (some 18) rfl rfl rfl Try.underlying55 rfl rfl (fun x10 W5 bb => ?_)
          have s5 := s4.trans (bb.mono s4.size)
          refine ⟨s5, ?_⟩
          simp only [Act.put, List.setIfInBounds_toArray, List.set_cons_zero, List.set_cons_succ]
          refine H_take (i := 31) (v := .agg #[.map (some x4), .map (some x10), .map (some x16), ptrV x21, ptrV x26, .int .i64 0, .int .i64 0, .int .i64 0, .int .i64 0, .int .i64 0]) (some 39) rfl rfl (by kernel_rfl) (by kernel_rfl) (by kernel_rfl) (fun _ _ _ h => h) rfl (fun X hX => ?_) s5 ?_
          · simp [go_sem]
          simp only [Act.put, List.setIfInBounds_toArray, List.set_cons_zero, List.set_cons_succ]
          have sz := s5.trans (Below.mono ((Below.refl _ W5).alloc (Nat.le_refl _) (.cells #[.map (some x4), .map (some x10), .map (some x16), ptrV x21, ptrV x26, .int .i64 0, .int .i64 0, .int .i64 0, .int .i64 0, .int .i64 0] 59)) s5.size)
          refine H_value (i := 32) (v := .pointer (some ⟨W5.heap.size, 0, none⟩)) (some 40) rfl rfl (by kernel_rfl) rfl (by simp [go_sem]) sz ?_
          simp only [Act.put, List.setIfInBounds_toArray, List.set_cons_zero, List.set_cons_succ]
          refine H_take (i := 33) (v := .pointer (some ⟨W5.heap.size, 0, none⟩)) (some 3) rfl rfl (by kernel_rfl) (by kernel_rfl) (by kernel_rfl) (fun _ _ _ h => h) rfl (fun X hX => ?_) sz ?_
          · simp [go_sem]
          simp only [Act.put, List.setIfInBounds_toArray, List.set_cons_zero, List.set_cons_succ]
          refine wpAnyH_done (by kernel_rfl) ?_ _
          go_wp2_with fail
          go_meet
          exact ⟨_, rfl, sz⟩
      · refine D_call (f := 34) (args := #[ptrV r.hb]) (some 34) rfl rfl rfl (by simp [go_sem]) ((C3.out _ s2).mono ?_)
        rintro e W3 ⟨x26, rfl, bb⟩
        have s3 := s2.trans (bb.mono s2.size)
        refine ⟨_, rfl, s3, ?_⟩
        simp only [Act.put, List.setIfInBounds_toArray, List.set_cons_zero, List.set_cons_succ]
        refine wpAnyH_all (rs := [10, 16]) (by kernel_rfl) (by decide) (fun i hi => ?_)
        have hi2 : i = 10 ∨ i = 16 := by simpa using hi
        rcases hi2 with rfl | rfl
        · refine D_map (x := .tmp 17) (some 18) rfl rfl rfl Try.underlying55 rfl rfl (fun x10 W4 bb => ?_)
          have s4 := s3.trans (bb.mono s3.size)
          refine ⟨s4, ?_⟩
          simp only [Act.put, List.setIfInBounds_toArray, List.set_cons_zero, List.set_cons_succ]
          refine wpAnyH_all (rs := [16]) (by kernel_rfl) (by decide) (fun i hi => ?_)
          obtain rfl : i = 16 := by simpa using hi
          refine D_map (x := .tmp 23) (some 24) rfl rfl rfl Try.underlying56 rfl rfl (fun x16 W5 bb => ?_)
          have s5 := s4.trans (bb.mono s4.size)
          refine ⟨s5, ?_⟩
          simp only [Act.put, List.setIfInBounds_toArray, List.set_cons_zero, List.set_cons_succ]
          refine H_take (i := 31) (v := .agg #[.map (some x4), .map (some x10), .map (some x16), ptrV x21, ptrV x26, .int .i64 0, .int .i64 0, .int .i64 0, .int .i64 0, .int .i64 0]) (some 39) rfl rfl (by kernel_rfl) (by kernel_rfl) (by kernel_rfl) (fun _ _ _ h => h) rfl (fun X hX => ?_) s5 ?_
          · simp [go_sem]
          simp only [Act.put, List.setIfInBounds_toArray, List.set_cons_zero, List.set_cons_succ]
          have sz := s5.trans (Below.mono ((Below.refl _ W5).alloc (Nat.le_refl _) (.cells #[.map (some x4), .map (some x10), .map (some x16), ptrV x21, ptrV x26, .int .i64 0, .int .i64 0, .int .i64 0, .int .i64 0, .int .i64 0] 59)) s5.size)
          refine H_value (i := 32) (v := .pointer (some ⟨W5.heap.size, 0, none⟩)) (some 40) rfl rfl (by kernel_rfl) rfl (by simp [go_sem]) sz ?_
          simp only [Act.put, List.setIfInBounds_toArray, List.set_cons_zero, List.set_cons_succ]
          refine H_take (i := 33) (v := .pointer (some ⟨W5.heap.size, 0, none⟩)) (some 3) rfl rfl (by kernel_rfl) (by kernel_rfl) (by kernel_rfl) (fun _ _ _ h => h) rfl (fun X hX => ?_) sz ?_
          · simp [go_sem]
          simp only [Act.put, List.setIfInBounds_toArray, List.set_cons_zero, List.set_cons_succ]
          refine wpAnyH_done (by kernel_rfl) ?_ _
          go_wp2_with fail
          go_meet
          exact ⟨_, rfl, sz⟩
        · refine D_map (x := .tmp 23) (some 24) rfl rfl rfl Try.underlying56 rfl rfl (fun x16 W4 bb => ?_)
          have s4 := s3.trans (bb.mono s3.size)
          refine ⟨s4, ?_⟩
          simp only [Act.put, List.setIfInBounds_toArray, List.set_cons_zero, List.set_cons_succ]
          refine wpAnyH_all (rs := [10]) (by kernel_rfl) (by decide) (fun i hi => ?_)
          obtain rfl : i = 10 := by simpa using hi
          refine D_map (x := .tmp 17) (some 18) rfl rfl rfl Try.underlying55 rfl rfl (fun x10 W5 bb => ?_)
          have s5 := s4.trans (bb.mono s4.size)
          refine ⟨s5, ?_⟩
          simp only [Act.put, List.setIfInBounds_toArray, List.set_cons_zero, List.set_cons_succ]
          refine H_take (i := 31) (v := .agg #[.map (some x4), .map (some x10), .map (some x16), ptrV x21, ptrV x26, .int .i64 0, .int .i64 0, .int .i64 0, .int .i64 0, .int .i64 0]) (some 39) rfl rfl (by kernel_rfl) (by kernel_rfl) (by kernel_rfl) (fun _ _ _ h => h) rfl (fun X hX => ?_) s5 ?_
          · simp [go_sem]
          simp only [Act.put, List.setIfInBounds_toArray, List.set_cons_zero, List.set_cons_succ]
          have sz := s5.trans (Below.mono ((Below.refl _ W5).alloc (Nat.le_refl _) (.cells #[.map (some x4), .map (some x10), .map (some x16), ptrV x21, ptrV x26, .int .i64 0, .int .i64 0, .int .i64 0, .int .i64 0, .int .i64 0] 59)) s5.size)
          refine H_value (i := 32) (v := .pointer (some ⟨W5.heap.size, 0, none⟩)) (some 40) rfl rfl (by kernel_rfl) rfl (by simp [go_sem]) sz ?_
          simp only [Act.put, List.setIfInBounds_toArray, List.set_cons_zero, List.set_cons_succ]
          refine H_take (i := 33) (v := .pointer (some ⟨W5.heap.size, 0, none⟩)) (some 3) rfl rfl (by kernel_rfl) (by kernel_rfl) (by kernel_rfl) (fun _ _ _ h => h) rfl (fun X hX => ?_) sz ?_
          · simp [go_sem]
          simp only [Act.put, List.setIfInBounds_toArray, List.set_cons_zero, List.set_cons_succ]
          refine wpAnyH_done (by kernel_rfl) ?_ _
          go_wp2_with fail
          go_meet
          exact ⟨_, rfl, sz⟩
  case rest =>
    obtain ⟨b, rfl, HB⟩ := hcut
    have B0 := HB.out
    have q1 := (BX.out _ B0).2.1
    have ylt1 := Nat.lt_of_lt_of_le ylt B0.size
    have hr1 : (Instr.range 55 (.map (some (jm + 1)))).run Try.prog wc = .ok (.pointer (some ⟨wc.heap.size, 0, none⟩)) (wc.alloc (.mapIter (some (jm + 1)) ct #[] ct)) := range_none Try.underlying55 (BX.out _ B0).2.2.2.2.2.1
    obtain ⟨w1, hw1⟩ : ∃ w1, w1 = wc.alloc (.mapIter (some (jm + 1)) ct #[] ct) := ⟨_, rfl⟩
    obtain ⟨r1, hr1'⟩ : ∃ r1, r1 = wc.heap.size := ⟨_, rfl⟩
    rw [← hw1, ← hr1'] at hr1
    have b1 : Below w.heap.size w w1 := by rw [hw1]; exact B0.trans (Below.mono ((Below.refl _ wc).alloc (Nat.le_refl _) _) B0.size)
    have hn1 : ∀ ty, (Instr.next (.pointer (some ⟨r1, 0, none⟩)) false ty).run Try.prog w1 = .ok (.tuple #[.bool false]) w1 := fun ty => next_none (BX.out _ b1).2.2.2.2.2.1 (by rw [hw1, hr1']; exact heap_alloc_new wc _)
    have HB1 : Hid (Below w.heap.size w w1) := b1
    clear hw1 hr1' b1 B0
    go_wp2_with fail
    go_loop [4] (fun s => s = undef) (fun _ => 0)
    case atStart => rfl
    case round =>
      subst hrel
      have B1 := HB1.out
      have q2 := (BX.out _ B1).2.2.1
      have ylt2 := Nat.lt_of_lt_of_le ylt B1.size
      have hr2 : (Instr.range 56 (.map (some (jm + 2)))).run Try.prog w1 = .ok (.pointer (some ⟨w1.heap.size, 0, none⟩)) (w1.alloc (.mapIter (some (jm + 2)) ch #[] ch)) := range_none Try.underlying56 (BX.out _ B1).2.2.2.2.2.2.1
      obtain ⟨w2, hw2⟩ : ∃ w2, w2 = w1.alloc (.mapIter (some (jm + 2)) ch #[] ch) := ⟨_, rfl⟩
      obtain ⟨r2, hr2'⟩ : ∃ r2, r2 = w1.heap.size := ⟨_, rfl⟩
      rw [← hw2, ← hr2'] at hr2
      have b2 : Below w.heap.size w w2 := by rw [hw2]; exact B1.trans (Below.mono ((Below.refl _ w1).alloc (Nat.le_refl _) _) B1.size)
      have hn2 : ∀ ty, (Instr.next (.pointer (some ⟨r2, 0, none⟩)) false ty).run Try.prog w2 = .ok (.tuple #[.bool false]) w2 := fun ty => next_none (BX.out _ b2).2.2.2.2.2.2.1 (by rw [hw2, hr2']; exact heap_alloc_new w1 _)
      have HB2 : Hid (Below w.heap.size w w2) := b2
      clear hw2 hr2' b2 B1
      go_wp2_with fail
      go_loop [6] (fun s => s = undef) (fun _ => 0)
      case atStart => rfl
      case round =>
        subst hrel
        go_wp2_with fail
        go_ret
        exact ⟨⟨b, rfl⟩, HB2.out⟩
end Go.Proofs.Ytonfdmbcbfpgdaa

namespace Go.Proofs.Ytonfdmbcbfpgdaa
open Go.RowKit
theorem field_sums (W : World) : (Instr.field 27 (.agg #[.int .i64 1, .int .i64 0, .int .i64 0, .int .i64 0, .int .i64 1]) 0).run Try.prog W = .ok (.int .i64 1) W := by kernel_rfl
set_option maxHeartbeats 8000000 in
set_option maxRecDepth 1000000 in
theorem shown_any (w : World) : Calls Try.prog 5 #[] w fun e w' => e = .returned (.bool true) ∧ Below w.heap.size w w' := by
  have CN : Hid (Calls Try.prog 16 #[] w fun e w' => ∃ yb lab' d r, e = .returned (ptrV yb) ∧ YAt w' lab' yb (yd0 w.heap.size d r) ∧ d.R = [] ∧ r.R = [] ∧ d.last = 0 ∧ r.last = 0 ∧ (∀ k, k < w.heap.size → lab' k = uT) ∧ Below w.heap.size w w') := new_any w (fun _ => uT)
  obtain ⟨n0, hn0⟩ : ∃ n0, n0 = w.heap.size := ⟨_, rfl⟩
  rw [← hn0] at CN ⊢
  have HN0 : Hid (n0 = w.heap.size) := hn0
  clear hn0
  go_enter Try.func5, Try.ntmps5
  go_upto_region 2 with (first
    | (go_at_call 16; refine CN.out.mono ?_; rintro e w1 ⟨yb, lab1, d, r, rfl, a1, hd, hr, hdl, hrl, hl1, b1⟩; have H1 : Hid (YAt w1 lab1 yb (yd0 n0 d r) ∧ d.R = [] ∧ r.R = [] ∧ d.last = 0 ∧ r.last = 0 ∧ (∀ k, k < n0 → lab1 k = uT) ∧ Below n0 w w1) := ⟨a1, hd, hr, hdl, hrl, hl1, b1⟩; clear a1 hd hr hdl hrl hl1 b1))
  clear CN
  have CC : Hid (Calls Try.prog 17 #[ptrV yb] w1 fun x w' => (∃ b, x = .returned (ptrV b)) ∧ Below w1.heap.size w1 w') := clone_empty w1 lab1 yb n0 d r H1.out.1 H1.out.2.1 H1.out.2.2.1
  go_upto_region 4 with (first
    | (go_at_call 17; refine CC.out.mono ?_; rintro e w2 ⟨⟨b2, rfl⟩, bb2⟩; have B2 : Hid (Below w1.heap.size w1 w2) := bb2; clear bb2))
  clear CC
  obtain ⟨lab2, hlab2⟩ : ∃ lab2 : Nat → HK, lab2 = fun k => if k < w1.heap.size then lab1 k else uT := ⟨_, rfl⟩
  obtain ⟨xb, hxb⟩ : ∃ xb, xb = w2.heap.size := ⟨_, rfl⟩
  obtain ⟨w3, hw3⟩ : ∃ w3, w3 = w2.alloc (.cells #[.int .u8 120] 5 (1, 2)) := ⟨_, rfl⟩
  have B3 : Hid (Below w2.heap.size w2 w3) := by rw [hw3]; exact (Below.refl _ w2).alloc (Nat.le_refl _) _
  have A3 : Hid (YAt w3 (fun k => if k < w1.heap.size then lab1 k else uT) yb (yd0 n0 d r)) := H1.out.1.below (B2.out.trans (B3.out.mono B2.out.size)) (fun _ hk => if_pos hk)
  have I3 : Hid (IsBytes w3 (some ⟨xb, 0, none⟩) 1 [120]) := by
    rw [hw3, hxb]
    refine ⟨by decide, by decide, .inr ⟨w2.heap.size, 0, rfl, by simp, fun j x hj => ?_⟩⟩
    match j, hj with
    | 0, hj =>
      obtain rfl : (120 : UInt8) = x := by simpa using hj
      rw [Nat.zero_add]
      unfold World.cell?
      rw [heap_alloc_new]
      rfl
  rw [← hlab2] at A3
  have CA : Hid (Calls Try.prog 18 #[ptrV yb, .agg #[.int .i64 7, .int .i64 3, .int .i64 0, .int .i64 1, .int .i64 0, .int .i64 1, .int .i64 0, .int .i64 0, .int .i64 (-1), .int .i64 0, .int .i64 0, .int .i64 0, .int .i64 0, .int .i64 0, .string ⟨#[97]⟩, .slice (some ⟨xb, 0, none⟩) 1 1]] w3 fun e w' => e = .returned (.int .i64 0) ∧ ∃ bv lab' Y, YAt w' lab' yb Y ∧ (∃ t0 t1, Y.L = [⟨jS, bv, [120], t0, t1⟩]) ∧ Y.sm = ⟨1, 0, 0, 0, 1⟩ ∧ fstOf Y 0 ⟨#[97]⟩ = 7 ∧ (∃ b, Y.tb ⟨#[97]⟩ = some b) ∧ Below n0 w3 w') := by
    refine (add_any jS (some ⟨xb, 0, none⟩) 1 [120] w3 lab2 yb (yd0 n0 d r) 0 A3.out jS_ok I3.out (by decide) (by decide) (few0 n0 d r H1.out.2.1 H1.out.2.2.1 H1.out.2.2.2.1 H1.out.2.2.2.2.1) (by decide)).mono ?_
    rintro e w' ⟨rfl, h0, _⟩
    obtain ⟨bv, w5, lab5, a5, bd5, l5, k5, ld⟩ := h0 rfl
    obtain ⟨lab', Y, p1, p2, p3, p4, p5⟩ := laid_one ld
    refine ⟨rfl, bv, lab', Y, p1, p2, p3, p4, p5, ?_⟩
    obtain ⟨_, _, _, _, _, _, _, _, _, l6, k6⟩ := ld
    have s1 := H1.out.2.2.2.2.2.2.size
    have s2 := B2.out.size
    have s3 := B3.out.size
    have hn := HN0.out
    refine (k5.below (B := n0) (by omega) (fun _ _ h => h)).trans (k6.below (B := n0) (by have := k5.size; omega) (fun k hk h => ?_))
    have h : (lab5 k).1 ≤ 7 := h
    rw [l5 k (by omega), hlab2] at h
    simp only [] at h
    rw [if_pos (by omega), H1.out.2.2.2.2.2.1 k hk] at h
    exact absurd h (by decide)
  have HW3 : Hid (w2.alloc (.cells #[.int .u8 120] 5 (1, 2)) = w3 ∧ w2.heap.size = xb) := ⟨hw3.symm, hxb.symm⟩
  have BA : Hid (Below n0 w w3) := by
    have s1 := H1.out.2.2.2.2.2.2.size
    have s2 := B2.out.size
    have hn := HN0.out
    exact (H1.out.2.2.2.2.2.2.trans (B2.out.mono (by omega))).trans (B3.out.mono (by omega))
  clear hw3 hxb hlab2 A3 I3 B3 B2 H1
  have hcn : (convert 39 39 (.slice (some ⟨w2.heap.size, 0, none⟩) 1 1)).run Try.prog (w2.alloc (.cells #[.int .u8 120] 5)) = .ok (.slice (some ⟨w2.heap.size, 0, none⟩) 1 1) (w2.alloc (.cells #[.int .u8 120] 5 (1, 2))) := conv_new w2 _ 1 1
  go_upto_region 5 with (first
    | (go_at_call 18; rw [HW3.out.1, HW3.out.2]; refine CA.out.mono ?_; rintro e w4 ⟨rfl, bv4, lab4, Y, a4, hL, hsm, hfs, htb, b4⟩; have H4 : Hid (YAt w4 lab4 yb Y ∧ (∃ t0 t1, Y.L = [⟨jS, bv4, [120], t0, t1⟩]) ∧ Y.sm = ⟨1, 0, 0, 0, 1⟩ ∧ fstOf Y 0 ⟨#[97]⟩ = 7 ∧ (∃ b, Y.tb ⟨#[97]⟩ = some b) ∧ Below n0 w3 w4) := ⟨a4, hL, hsm, hfs, htb, b4⟩; clear a4 hL hsm hfs htb b4))
  have AB : Hid (∀ W, Below w4.heap.size w4 W → YAt W lab4 yb Y) := fun W hW => H4.out.1.below hW (fun _ _ => rfl)
  have CG : Hid (Calls Try.prog 15 #[ptrV yb, .int .i64 7] w4 fun x w' => ∃ a v c, v = .slice a 1 c ∧ x = .returned (.tuple #[.agg (jS.cells v), .bool true]) ∧ IsBytes w' a c [120] ∧ Below w4.heap.size w4 w') := by
    obtain ⟨t0, t1, hL⟩ := H4.out.2.1
    have := get_any 7 w4 lab4 yb Y H4.out.1 (by decide) (by rw [hL]; show (1 : Nat) ≤ 140737488355328; omega)
    rw [hL] at this
    refine this.mono ?_
    rintro x w' ⟨v, rfl, ho, hb⟩
    obtain ⟨a, c, e, hI⟩ := Own.shape (l := [120]) ho
    exact ⟨a, v, c, e, rfl, hI, hb⟩
  go_upto_region 6 with (first
    | (go_at_call 15; refine CG.out.mono ?_; rintro x w5 ⟨a5, v5, c5, e5, rfl, i5, b5⟩; have H5 : Hid (v5 = .slice a5 1 c5 ∧ IsBytes w5 a5 c5 [120] ∧ Below w4.heap.size w4 w5) := ⟨e5, i5, b5⟩; have JO : Hid ((jS.cells v5).all (·.oneCell') = true) := (by rw [e5]; exact job_one _ _ _ _); clear e5 i5 b5)
    | (refine wpList_store_new rfl 41 (.tmp 3) (.tmp 21) rfl (jS.cells v5) rfl rfl 41 _ (job_size jS v5) rfl JO.out ?_))
  obtain ⟨jb, hjb⟩ : ∃ jb, jb = w5.heap.size := ⟨_, rfl⟩
  obtain ⟨w6, hw6⟩ : ∃ w6, w6 = w5.alloc (.cells (jS.cells v5) 41) := ⟨_, rfl⟩
  have B6 : Hid (Below w4.heap.size w4 w6) := by rw [hw6]; exact H5.out.2.2.trans (Below.mono ((Below.refl _ w5).alloc (Nat.le_refl _) _) H5.out.2.2.size)
  have J6 : JobBox w6 jb jS v5 := by rw [hw6, hjb]; exact JobBox.new w5 jS v5
  have q15 := J6.at.2.2.2.2
  have jlt := J6.lt
  have hcv : (convert 39 9 v5).run Try.prog w6 = .ok (.string ⟨#[120]⟩) w6 := by
    rw [H5.out.1]
    exact conv_is (l := [120]) (H5.out.2.1.below (by rw [hw6]; exact (Below.refl _ w5).alloc (Nat.le_refl _) _)) rfl
  rw [← hw6, ← hjb]
  clear hw6 hjb J6
  have CR : Hid (Calls Try.prog 19 #[ptrV yb, .string ⟨#[97]⟩] w6 fun x w' => x = .returned (.int .i64 7) ∧ Below w6.heap.size w6 w') := by
    have := ready_any ⟨#[97]⟩ w6 lab4 yb Y (AB.out _ B6.out) (by decide) (fun h => by obtain ⟨b, hb⟩ := H4.out.2.2.2.2.1; rw [hb] at h; cases h)
    rw [H4.out.2.2.2.1] at this
    exact this
  have CL : Hid (∀ W, Below w4.heap.size w4 W → Calls Try.prog 20 #[ptrV yb] W fun x w' => x = .returned (.agg #[.int .i64 1, .int .i64 0, .int .i64 0, .int .i64 0, .int .i64 1]) ∧ Below W.heap.size W w') := fun W hW => by
    have := all_any W lab4 yb Y (AB.out _ hW)
    rw [H4.out.2.2.1] at this
    exact this
  have CJ : Hid (∀ W, Below w4.heap.size w4 W → Calls Try.prog 12 #[ptrV yb] W fun x w' => (∃ a c, x = .returned (.slice a 1 c)) ∧ Below W.heap.size W w') := fun W hW => by
    obtain ⟨t0, t1, hL⟩ := H4.out.2.1
    refine (jobs_any W lab4 yb Y (AB.out _ hW) (by rw [hL]; simp) (fun e he => by rw [hL] at he; obtain rfl := List.mem_singleton.1 he; exact ⟨show I64 7 by decide, show (1 : Nat) ≤ 140737488355328 by omega⟩) (by rw [hL]; show (1 : Nat) ≤ 100000000; omega)).mono ?_
    rintro x w' ⟨v, rfl, P, ho, hP, hb, _⟩
    have hl : P.length = 1 := by have := congrArg List.length hP; rw [hL] at this; simpa using this
    rcases ho.2 with ⟨_, h0⟩ | ⟨g, cap, cur, rfl, _⟩
    · omega
    · exact ⟨⟨_, cap, by rw [hl]⟩, hb⟩
  have hfd := field_sums
  go_wp2_with (first
    | (go_at_call 19; refine CR.out.mono ?_; rintro x w7 ⟨rfl, b7⟩; have B7 : Hid (Below w4.heap.size w4 w7) := B6.out.trans (b7.mono B6.out.size); clear b7)
    | (go_at_call 20; refine (CL.out _ B7.out).mono ?_; rintro x w8 ⟨rfl, b8⟩; have B8 : Hid (Below w4.heap.size w4 w8) := B7.out.trans (b8.mono B7.out.size); clear b8)
    | (go_at_call 12; refine (CJ.out _ B8.out).mono ?_; rintro x w9 ⟨⟨a9, c9, rfl⟩, b9⟩; have B9 : Hid (Below w4.heap.size w4 w9) := B8.out.trans (b9.mono B8.out.size); clear b9))
  go_ret
  refine ⟨rfl, (BA.out.trans H4.out.2.2.2.2.2).trans (B9.out.mono ?_)⟩
  have := BA.out.size
  have := H4.out.2.2.2.2.2.size
  have := HN0.out
  omega
end Go.Proofs.Ytonfdmbcbfpgdaa
