/-
  A disk in memory.
-/
import Derived.Test.YtkmolklcbemfbaaFTab
namespace Go.Proofs.Ytkmolklcbemfbaa
open Go.RowKit Go.Maps

theorem rising_le : ∀ (L : List Fl) (a N : Int), Rising L → (∀ f ∈ L, a < f.num ∧ f.num ≤ N) → a ≤ N → (L.length : Int) ≤ N - a
  | [], a, N, _, _, h => by simp; omega
  | x :: r, a, N, hr, hb, h => by
    have hx := hb x List.mem_cons_self
    have := rising_le r x.num N hr.tail (fun f hf => ⟨hr.head f hf, (hb f (List.mem_cons_of_mem _ hf)).2⟩) hx.2
    simp only [List.length_cons]
    omega
theorem Right.few {q : Int} {L : List Fl} (h : Right q L) : L.length ≤ 1099511627776 := by
  have := rising_le L 0 1099511627776 h.rise (fun f hf => ⟨by have := (h.ok f hf).2.1; omega, (h.ok f hf).2.2⟩) (by omega)
  omega
theorem Right.few2 {q : Int} {L : List Fl} (h : Right q L) : L.length < maxLen := by have := h.few; unfold maxLen; omega

/-- What the map has at a number. -/
def slot (L : List Fl) (vs : Int → Value) (t : Int) : Option FV := (look L t).map fun f => (vs t, (f.safe : Int))
/-- Block db is a disk, its map lies in block mb, its quota is q, its files are L; the bytes of the file t are the slice vs t. -/
structure DiskAt (w : World) (db mb : Nat) (q : Int) (L : List Fl) (vs : Int → Value) : Prop where
  cells : w.heap[db]? = some (.cells #[.int .i64 q, .int .i64 (total L : Int), .map (some mb)] 89 (0, 0))
  tab : FTab w mb L.length (slot L vs)
  own : ∀ f ∈ L, Own w 0 (vs f.num) f.data
  apart : ∀ f ∈ L, ∀ f' ∈ L, ∀ k, (vs f.num).ownBlock = some k → (vs f'.num).ownBlock = some k → f.num = f'.num
  right : Right q L

/-- The blocks of a disk. -/
def Mine (db mb : Nat) (L : List Fl) (vs : Int → Value) (k : Nat) : Prop := k = db ∨ k = mb ∨ ∃ f ∈ L, (vs f.num).ownBlock = some k

theorem Own.row {w : World} {B : Nat} {v : Value} {l : List UInt8} (h : Own w B v l) {k : Nat} (hk : v.ownBlock = some k) : ∃ cur, w.heap[k]? = some (.cells cur 5 (0, 0)) := by
  rcases h.2 with ⟨rfl, _⟩ | ⟨g, cap, cur, rfl, _, hg, _⟩
  · cases hk
  · simp only [Value.ownBlock, Option.some.injEq] at hk
    subst hk
    exact ⟨cur, hg⟩
theorem Own.sl {w : World} {B : Nat} {v : Value} {l : List UInt8} (h : Own w B v l) : isSl v = true := by
  rcases h.2 with ⟨rfl, _⟩ | ⟨g, cap, cur, rfl, _⟩ <;> rfl
theorem Own.kept {P : Nat → Prop} {w w' : World} {B : Nat} {v : Value} {l : List UInt8} (h : Own w B v l) (hk : Kept P w w') (hP : ∀ k, v.ownBlock = some k → ¬ P k) : Own w' B v l := hk.own h hP
theorem DiskAt.lt {w : World} {db mb : Nat} {q : Int} {L : List Fl} {vs : Int → Value} (h : DiskAt w db mb q L vs) {k : Nat} (hk : Mine db mb L vs k) : k < w.heap.size := by
  rcases hk with rfl | rfl | ⟨f, hf, hk⟩
  · exact (Array.getElem?_eq_some_iff.1 h.cells).1
  · exact h.tab.lt
  · obtain ⟨cur, hc⟩ := (h.own f hf).row hk
    exact (Array.getElem?_eq_some_iff.1 hc).1
theorem DiskAt.kept {P : Nat → Prop} {w w' : World} {db mb : Nat} {q : Int} {L : List Fl} {vs : Int → Value} (h : DiskAt w db mb q L vs) (hk : Kept P w w') (hP : ∀ k, Mine db mb L vs k → ¬ P k) : DiskAt w' db mb q L vs :=
  ⟨(hk.block db (h.lt (.inl rfl)) (hP _ (.inl rfl))).trans h.cells, h.tab.block (hk.block mb h.tab.lt (hP _ (.inr (.inl rfl)))), fun f hf => (h.own f hf).kept hk (fun k e => hP k (.inr (.inr ⟨f, hf, e⟩))), h.apart, h.right⟩
theorem DiskAt.below {w w' : World} {db mb : Nat} {q : Int} {L : List Fl} {vs : Int → Value} (h : DiskAt w db mb q L vs) (hk : Below w.heap.size w w') : DiskAt w' db mb q L vs :=
  h.kept (P := fun _ => False) (Kept.ofBelow hk) (fun _ _ => id)
theorem DiskAt.ne {w : World} {db mb : Nat} {q : Int} {L : List Fl} {vs : Int → Value} (h : DiskAt w db mb q L vs) : db ≠ mb := by
  rintro rfl
  obtain ⟨es, clock, hb⟩ := h.tab.map
  rw [h.cells] at hb
  cases hb
theorem DiskAt.notRow {w : World} {db mb : Nat} {q : Int} {L : List Fl} {vs : Int → Value} (h : DiskAt w db mb q L vs) {B : Nat} {v : Value} {l : List UInt8} (ho : Own w B v l) {k : Nat} (hk : v.ownBlock = some k) : k ≠ db ∧ k ≠ mb := by
  obtain ⟨cur, hc⟩ := ho.row hk
  refine ⟨?_, ?_⟩
  · rintro rfl
    rw [h.cells] at hc
    simp at hc
  · rintro rfl
    obtain ⟨es, clock, hb⟩ := h.tab.map
    rw [hb] at hc
    cases hc
theorem DiskAt.cell {w : World} {db mb : Nat} {q : Int} {L : List Fl} {vs : Int → Value} (h : DiskAt w db mb q L vs) :
    w.cell? ⟨db, 0, none⟩ = some (.int .i64 q) ∧ w.cell? ⟨db, 1, none⟩ = some (.int .i64 (total L : Int)) ∧ w.cell? ⟨db, 2, none⟩ = some (.map (some mb)) := by
  simp [World.cell?, h.cells]

/-- What a call on a disk may turn, and which blocks it has behind it. -/
structure Turned (w w' : World) (db mb : Nat) (L : List Fl) (vs : Int → Value) (L' : List Fl) (vs' : Int → Value) : Prop where
  kept : Kept (Mine db mb L vs) w w'
  mine : ∀ k, Mine db mb L' vs' k → Mine db mb L vs k ∨ w.heap.size ≤ k
theorem Turned.refl (w : World) (db mb : Nat) (L : List Fl) (vs : Int → Value) : Turned w w db mb L vs L vs := ⟨Kept.refl _ _, fun _ h => .inl h⟩
theorem Turned.trans {w w1 w2 : World} {db mb : Nat} {L L1 L2 : List Fl} {vs vs1 vs2 : Int → Value} (h : Turned w w1 db mb L vs L1 vs1) (k : Turned w1 w2 db mb L1 vs1 L2 vs2) : Turned w w2 db mb L vs L2 vs2 := by
  have hs := h.kept.size
  refine ⟨h.kept.step k.kept (fun j hj e => ?_), fun j e => ?_⟩
  · rcases h.mine j e with e | e
    · exact e
    · omega
  · rcases k.mine j e with e | e
    · exact h.mine j e
    · exact .inr (by omega)
theorem Turned.ofBelow {w w' : World} {db mb : Nat} {L : List Fl} {vs : Int → Value} (h : Below w.heap.size w w') : Turned w w' db mb L vs L vs := ⟨Kept.ofBelow h, fun _ h => .inl h⟩
/-- A value is laid at a number. -/
def upd (vs : Int → Value) (t : Int) (v : Value) : Int → Value := fun x => if x = t then v else vs x

/-- A disk into which a file was laid: what its map has, its bytes, what is apart. -/
theorem DiskAt.laid {w w' : World} {db mb : Nat} {q : Int} {L : List Fl} {vs : Int → Value} (h : DiskAt w db mb q L vs) {f : Fl} {v : Value} (hv : Own w 0 v f.data)
    (hap : ∀ x ∈ L, x.num ≠ f.num → ∀ k, v.ownBlock = some k → (vs x.num).ownBlock ≠ some k) (hR : Right q (ins L f)) (hk : Kept (fun k => k = db ∨ k = mb) w w')
    (hc : w'.heap[db]? = some (.cells #[.int .i64 q, .int .i64 (total (ins L f) : Int), .map (some mb)] 89 (0, 0)))
    (ht : FTab w' mb (if (slot L vs f.num).isSome then L.length else L.length + 1) (putAt (slot L vs) f.num (v, (f.safe : Int)))) : DiskAt w' db mb q (ins L f) (upd vs f.num v) := by
  have hr := h.right.rise
  refine ⟨hc, ht.congr ?_ ?_, ?_, ?_, hR⟩
  · rw [length_ins hr]
    unfold slot
    cases look L f.num <;> rfl
  · intro t
    unfold slot putAt upd
    rw [look_ins hr]
    by_cases e : t = f.num
    · simp [e]
    · simp [e]
  · intro x hx
    rcases mem_ins_other hr hx with rfl | ⟨hx, hn⟩
    · unfold upd
      rw [if_pos rfl]
      exact hv.kept hk (fun k e => by have := h.notRow hv e; omega)
    · unfold upd
      rw [if_neg hn]
      exact (h.own x hx).kept hk (fun k e => by have := h.notRow (h.own x hx) e; omega)
  · intro x hx y hy k e1 e2
    unfold upd at e1 e2
    rcases mem_ins_other hr hx with rfl | ⟨hx2, hn⟩ <;> rcases mem_ins_other hr hy with rfl | ⟨hy2, hm⟩
    · rfl
    · rw [if_pos rfl] at e1
      rw [if_neg hm] at e2
      exact absurd e2 (hap y hy2 hm k e1)
    · rw [if_pos rfl] at e2
      rw [if_neg hn] at e1
      exact absurd e1 (hap x hx2 hn k e2)
    · rw [if_neg hn] at e1
      rw [if_neg hm] at e2
      exact h.apart x hx2 y hy2 k e1 e2
end Go.Proofs.Ytkmolklcbemfbaa
