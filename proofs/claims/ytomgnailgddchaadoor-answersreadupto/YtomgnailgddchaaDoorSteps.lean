/-
  The steps of a trial, in the words of St.
-/
import Derived.Test.YtomgnailgddchaaDoorNumber
import Derived.Test.YtomgnailgddchaaDoorJC
import Derived.Laws.ResultCell
import Derived.Laws.Rows
namespace Go.Proofs.YtomgnailgddchaaDoor
open Go.RowKit Go.Sort

/-- A trial stands in memory as s says. -/
def At (w : World) (tb : Nat) (a : Option Addr) (c : Nat) (b : List UInt8) (s : St) : Prop := TrAt w tb a b.length c s.pos s.st ∧ (s.st = 0 → s.pos ≤ b.length)
theorem fine_after {p : List UInt8 → St → St} (h : Fine p) {b : List UInt8} {s : St} (hs : s.st = 0 → s.pos ≤ b.length) : (p b s).st = 0 → (p b s).pos ≤ b.length := fun h0 => by
  have hz := h.was h0
  exact h.good b s hz (hs hz) h0
theorem textW (w : World) (tb : Nat) (a : Option Addr) (c : Nat) (b : List UInt8) (s : St) (t : ByteArray) (h : At w tb a c b s) (hb : IsBytes w a c b) (ht : t.size ≤ 1000) :
    Calls Tryd.prog 50 #[.pointer (some ⟨tb, 0, none⟩), .string t] w fun x w' => x = .returned (.tuple #[]) ∧ ∃ s', s' = textS t.data.toList b s ∧ At w' tb a c b s' ∧ Kept (fun k => k = tb) w w' := by
  refine (text_any w tb a c s.pos s.st b t h.1 hb h.2 ht).mono ?_
  rintro x w' ⟨rfl, T, K⟩
  refine ⟨rfl, _, rfl, ⟨?_, fine_after (fine_text _) h.2⟩, K⟩
  have : (textS t.data.toList b s).pos = (textR b t.data.toList s.pos s.st).1 ∧ (textS t.data.toList b s).st = (textR b t.data.toList s.pos s.st).2 := by
    unfold textS textR
    split <;> exact ⟨rfl, rfl⟩
  rw [this.1, this.2]
  exact T
theorem parse_nil (m : Int) : parseV [] m = 0 := rfl
theorem idW (w : World) (tb : Nat) (a : Option Addr) (c : Nat) (b : List UInt8) (s : St) (m : Int) (h : At w tb a c b s) (hb : IsBytes w a c b) (hbl : b.length ≤ 4294967296) (h5 : 5 ≤ tb) (hT : Tabs w) (hm0 : 0 ≤ m) (hm1 : m ≤ 4611686018427387903) (hz : s.id = 0) :
    Calls Tryd.prog 51 #[.pointer (some ⟨tb, 0, none⟩), .int .i64 1, .int .i64 m] w fun x w' => ∃ s', s' = idS m b s ∧ x = .returned (.int .i64 s'.id) ∧ At w' tb a c b s' ∧ Kept (fun k => k = tb) w w' := by
  refine (number_any w tb a c s.pos s.st b 1 m h.1 hb h.2 hbl h5 hT (by decide) hm0 hm1).mono ?_
  rintro x w' ⟨rfl, T, K⟩
  have e : (idS m b s).pos = (wordR b (numFits 1 m) s.pos s.st).2.1 ∧ (idS m b s).st = (wordR b (numFits 1 m) s.pos s.st).2.2 ∧ (idS m b s).id = parseV (wordR b (numFits 1 m) s.pos s.st).1 m := by
    unfold idS wordR
    by_cases h0 : s.st = 0
    · rw [if_pos h0, if_pos h0]; exact ⟨rfl, rfl, rfl⟩
    · rw [if_neg h0, if_neg h0]; exact ⟨rfl, rfl, hz⟩
  refine ⟨_, rfl, by rw [e.2.2], ⟨?_, fine_after (fine_id m) h.2⟩, K⟩
  rw [e.1, e.2.1]
  exact T
theorem numW (w : World) (tb : Nat) (a : Option Addr) (c : Nat) (b : List UInt8) (s : St) (m : Int) (h : At w tb a c b s) (hb : IsBytes w a c b) (hbl : b.length ≤ 4294967296) (h5 : 5 ≤ tb) (hT : Tabs w) (hm0 : 0 ≤ m) (hm1 : m ≤ 4611686018427387903) (hz : s.num = 0) :
    Calls Tryd.prog 51 #[.pointer (some ⟨tb, 0, none⟩), .int .i64 0, .int .i64 m] w fun x w' => ∃ s', s' = numS m b s ∧ x = .returned (.int .i64 s'.num) ∧ At w' tb a c b s' ∧ Kept (fun k => k = tb) w w' := by
  refine (number_any w tb a c s.pos s.st b 0 m h.1 hb h.2 hbl h5 hT (by decide) hm0 hm1).mono ?_
  rintro x w' ⟨rfl, T, K⟩
  have e : (numS m b s).pos = (wordR b (numFits 0 m) s.pos s.st).2.1 ∧ (numS m b s).st = (wordR b (numFits 0 m) s.pos s.st).2.2 ∧ (numS m b s).num = parseV (wordR b (numFits 0 m) s.pos s.st).1 m := by
    unfold numS wordR
    by_cases h0 : s.st = 0
    · rw [if_pos h0, if_pos h0]; exact ⟨rfl, rfl, rfl⟩
    · rw [if_neg h0, if_neg h0]; exact ⟨rfl, rfl, hz⟩
  refine ⟨_, rfl, by rw [e.2.2], ⟨?_, fine_after (fine_num m) h.2⟩, K⟩
  rw [e.1, e.2.1]
  exact T
theorem sizeW (w : World) (tb : Nat) (a : Option Addr) (c : Nat) (b : List UInt8) (s : St) (m : Int) (h : At w tb a c b s) (hb : IsBytes w a c b) (hbl : b.length ≤ 4294967296) (h5 : 5 ≤ tb) (hT : Tabs w) (hm0 : 0 ≤ m) (hm1 : m ≤ 4294967295) (hz : s.size = 0) :
    Calls Tryd.prog 51 #[.pointer (some ⟨tb, 0, none⟩), .int .i64 0, .int .i64 m] w fun x w' => ∃ s', s' = sizeS m b s ∧ x = .returned (.int .i64 s'.size) ∧ At w' tb a c b s' ∧ Kept (fun k => k = tb) w w' ∧ 0 ≤ s'.size ∧ s'.size ≤ 4294967295 := by
  refine (number_any w tb a c s.pos s.st b 0 m h.1 hb h.2 hbl h5 hT (by decide) hm0 (by omega)).mono ?_
  rintro x w' ⟨rfl, T, K⟩
  have e : (sizeS m b s).pos = (wordR b (numFits 0 m) s.pos s.st).2.1 ∧ (sizeS m b s).st = (wordR b (numFits 0 m) s.pos s.st).2.2 ∧ (sizeS m b s).size = parseV (wordR b (numFits 0 m) s.pos s.st).1 m := by
    unfold sizeS wordR
    by_cases h0 : s.st = 0
    · rw [if_pos h0, if_pos h0]; exact ⟨rfl, rfl, rfl⟩
    · rw [if_neg h0, if_neg h0]; exact ⟨rfl, rfl, hz⟩
  have h1 := parseV_pos (wordR b (numFits 0 m) s.pos s.st).1 m
  have h2 := parseV_le (wordR b (numFits 0 m) s.pos s.st).1 m hm0
  refine ⟨_, rfl, by rw [e.2.2], ⟨?_, fine_after (fine_size m) h.2⟩, K, by omega, by omega⟩
  rw [e.1, e.2.1]
  exact T
theorem tubeW (w : World) (tb : Nat) (a : Option Addr) (c : Nat) (b : List UInt8) (s : St) (h : At w tb a c b s) (hb : IsBytes w a c b) (hbl : b.length ≤ 4294967296) (hz : s.tube = []) :
    Calls Tryd.prog 52 #[.pointer (some ⟨tb, 0, none⟩), .func (.func 37) #[] #[]] w fun x w' => ∃ s', s' = tubeS b s ∧ x = .returned (.string ⟨s'.tube.toArray⟩) ∧ At w' tb a c b s' ∧ Kept (fun k => k = tb) w w' := by
  refine (word_any8 w tb a c s.pos s.st b 37 #[] validB valid_closed h.1 hb h.2 hbl (fun W _ => fits_valid W) (enters_of Tryd.func37 (by kernel_rfl) rfl)).mono ?_
  rintro x w' ⟨rfl, T, K⟩
  have e : (tubeS b s).pos = (wordR b validB s.pos s.st).2.1 ∧ (tubeS b s).st = (wordR b validB s.pos s.st).2.2 ∧ (tubeS b s).tube = (wordR b validB s.pos s.st).1 := by
    unfold tubeS wordR
    by_cases h0 : s.st = 0
    · rw [if_pos h0, if_pos h0]; exact ⟨rfl, rfl, rfl⟩
    · rw [if_neg h0, if_neg h0]; exact ⟨rfl, rfl, hz⟩
  refine ⟨_, rfl, by rw [e.2.2], ⟨?_, fine_after fine_tube h.2⟩, K⟩
  rw [e.1, e.2.1]
  exact T
theorem takeW (w : World) (tb : Nat) (a : Option Addr) (c : Nat) (b : List UInt8) (s : St) (h : At w tb a c b s) (hb : IsBytes w a c b) (hbl : b.length ≤ 4294967296) (h0 : 0 ≤ s.size) (h1 : s.size ≤ 4294967295) (hz : s.body = []) :
    Calls Tryd.prog 53 #[.pointer (some ⟨tb, 0, none⟩), .int .i64 s.size] w fun x w' => ∃ s' a' c', s' = takeS b s ∧ x = .returned (.slice a' s'.body.length c') ∧ IsBytes w' a' c' s'.body ∧ At w' tb a c b s' ∧ Kept (fun k => k = tb) w w' := by
  obtain ⟨n, hn⟩ : ∃ n : Nat, s.size = n := ⟨s.size.toNat, by omega⟩
  rw [hn]
  refine (take_any w tb a c s.pos s.st n b h.1 hb h.2 (by omega) hbl).mono ?_
  rintro x w' ⟨⟨a', c', rfl, hx⟩, T, K⟩
  have e : (takeS b s).pos = (takeR b s.pos s.st n).1 ∧ (takeS b s).st = (takeR b s.pos s.st n).2 ∧ (takeS b s).body = takeL b s.pos s.st n := by
    unfold takeS takeR takeL
    rw [hn, Int.toNat_natCast]
    by_cases h0 : s.st = 0
    · rw [if_pos h0, if_pos h0, if_pos h0]
      by_cases hl : b.length < s.pos + n
      · rw [if_pos hl, if_pos hl, if_pos hl]; exact ⟨rfl, rfl, hz⟩
      · rw [if_neg hl, if_neg hl, if_neg hl]; exact ⟨rfl, h0, rfl⟩
    · rw [if_neg h0, if_neg h0, if_neg h0]; exact ⟨rfl, rfl, hz⟩
  refine ⟨_, a', c', rfl, by rw [e.2.2], by rw [e.2.2]; exact hx, ⟨?_, fine_after fine_take h.2⟩, K⟩
  rw [e.1, e.2.1]
  exact T

/-- A reply, and a form, in a block of their own. -/
def RepAt (w : World) (rb : Nat) (k id num : Int) (tube : List UInt8) (v : Value) : Prop := w.heap[rb]? = some (.cells #[.int .i64 k, .int .i64 id, .int .i64 num, .string ⟨tube.toArray⟩, v] 45 (0, 0))
def FormAt (w : World) (fb k : Nat) : Prop := w.heap[fb]? = some (.cells #[.string ⟨(wordOf k).toArray⟩, .int .i64 (idOf k), .int .i64 (nuOf k), .int .i64 (boOf k), .bool (tuOf k)] 67 (0, 0))
theorem RepAt.kept {P : Nat → Prop} {w w' : World} {rb : Nat} {k id num : Int} {tube : List UInt8} {v : Value} (h : RepAt w rb k id num tube v) (hk : Kept P w w') (hP : ¬ P rb) : RepAt w' rb k id num tube v := (hk.block rb (Array.getElem?_eq_some_iff.1 h).1 hP).trans h
theorem FormAt.kept {P : Nat → Prop} {w w' : World} {fb k : Nat} (h : FormAt w fb k) (hk : Kept P w w') (hP : ¬ P fb) : FormAt w' fb k := (hk.block fb (Array.getElem?_eq_some_iff.1 h).1 hP).trans h
theorem RepAt.set {w : World} {rb : Nat} {k id num : Int} {tube : List UInt8} {v : Value} (h : RepAt w rb k id num tube v) :
    (∀ x, RepAt (w.setCell ⟨rb, 1, none⟩ (.int .i64 x)) rb k x num tube v) ∧ (∀ x, RepAt (w.setCell ⟨rb, 2, none⟩ (.int .i64 x)) rb k id x tube v) ∧ (∀ x : List UInt8, RepAt (w.setCell ⟨rb, 3, none⟩ (.string ⟨x.toArray⟩)) rb k id num x v) ∧ (∀ x, RepAt (w.setCell ⟨rb, 4, none⟩ x) rb k id num tube x) :=
  ⟨fun x => by unfold RepAt; rw [(set_cells h 1 _).1]; simp, fun x => by unfold RepAt; rw [(set_cells h 2 _).1]; simp, fun x => by unfold RepAt; rw [(set_cells h 3 _).1]; simp, fun x => by unfold RepAt; rw [(set_cells h 4 _).1]; simp⟩
/-- All that lies about in readKind. -/
structure Pk (w0 W : World) (a : Option Addr) (c : Nat) (b : List UInt8) (k : Nat) (s : St) : Prop where
  at_ : At W (w0.heap.size + 3) a c b s
  rep : ∃ a' c', RepAt W (w0.heap.size + 4) k s.id s.num s.tube (.slice a' s.body.length c') ∧ IsBytes W a' c' s.body
  form : FormAt W (w0.heap.size + 2) k
  kept : Kept (fun j => w0.heap.size ≤ j) w0 W
  r0 : RepAt W w0.heap.size 0 0 0 [] (.slice none 0 0)
  r1 : TrAt W (w0.heap.size + 1) none 0 0 0 0
theorem IsBytes.low {w0 W : World} {a : Option Addr} {c : Nat} {b : List UInt8} (h : IsBytes w0 a c b) (hk : Kept (fun j => w0.heap.size ≤ j) w0 W) : IsBytes W a c b := by
  refine h.kept hk (fun bb o e hl => ?_)
  obtain ⟨b', o', e', hb, _⟩ := h.get hl
  rw [e] at e'
  cases e'
  show ¬ w0.heap.size ≤ bb
  omega
theorem Tabs.low {w0 W : World} (h : Tabs w0) (h5 : 5 ≤ w0.heap.size) (hk : Kept (fun j => w0.heap.size ≤ j) w0 W) : Tabs W := h.kept hk (fun j hj e => by have e : w0.heap.size ≤ j := e; omega)
theorem RepAt.not {w : World} {rb : Nat} {k id num : Int} {tube : List UInt8} {v : Value} (h : RepAt w rb k id num tube v) (hv : ∃ a n c, v = .slice a n c) {b o : Nat} {x : Int} (hc : w.cell? ⟨b, o, none⟩ = some (.int .u8 x)) : b ≠ rb := by
  rintro rfl
  obtain ⟨a, n, c, rfl⟩ := hv
  unfold RepAt at h
  simp only [World.cell?, h] at hc
  match o, hc with
  | 0, hc => simp at hc
  | 1, hc => simp at hc
  | 2, hc => simp at hc
  | 3, hc => simp at hc
  | 4, hc => simp at hc
  | o + 5, hc => simp at hc
theorem IsBytes.notRep {w : World} {rb : Nat} {k id num : Int} {tube : List UInt8} {v : Value} {a' : Option Addr} {c' : Nat} {l : List UInt8} (h : IsBytes w a' c' l) (ht : RepAt w rb k id num tube v) (hv : ∃ a n c, v = .slice a n c) : ∀ b o, a' = some ⟨b, o, none⟩ → l ≠ [] → b ≠ rb := by
  intro b o e hl
  obtain ⟨b', o', e', _, hc⟩ := h.get hl
  rw [e] at e'
  cases e'
  obtain ⟨x, r, rfl⟩ : ∃ x r, l = x :: r := by cases l with | nil => exact absurd rfl hl | cons x r => exact ⟨x, r, rfl⟩
  exact ht.not hv (hc 0 x rfl)
/-- A step that has turned the trial alone. -/
theorem Pk.call {w0 W W' : World} {a : Option Addr} {c : Nat} {b : List UInt8} {k : Nat} {s s' : St} (h : Pk w0 W a c b k s) (ha : At W' (w0.heap.size + 3) a c b s') (hk : Kept (fun j => j = w0.heap.size + 3) W W') (e : s'.id = s.id ∧ s'.num = s.num ∧ s'.tube = s.tube ∧ s'.body = s.body) : Pk w0 W' a c b k s' where
  at_ := ha
  rep := by
    obtain ⟨a', c', h1, h2⟩ := h.rep
    rw [e.1, e.2.1, e.2.2.1, e.2.2.2]
    exact ⟨a', c', h1.kept hk (fun e => by have e : w0.heap.size + 4 = w0.heap.size + 3 := e; omega), h2.kept hk (h2.not h.at_.1)⟩
  form := h.form.kept hk (fun e => by have e : w0.heap.size + 2 = w0.heap.size + 3 := e; omega)
  kept := h.kept.step hk (fun j hj e => by have e : j = w0.heap.size + 3 := e; omega)
  r0 := h.r0.kept hk (fun e => by have e : w0.heap.size = w0.heap.size + 3 := e; omega)
  r1 := h.r1.kept hk (fun e => by have e : w0.heap.size + 1 = w0.heap.size + 3 := e; omega)
/-- And what it has got is laid into the reply. -/
theorem Pk.lay {w0 W W' : World} {a : Option Addr} {c : Nat} {b : List UInt8} {k : Nat} {s s' : St} (h : Pk w0 W a c b k s) (ha : At W' (w0.heap.size + 3) a c b s') (hk : Kept (fun j => j = w0.heap.size + 3) W W') (i : Nat) (x : Value)
    (hx : ∀ a' c', RepAt W' (w0.heap.size + 4) k s.id s.num s.tube (.slice a' s.body.length c') → IsBytes W' a' c' s.body → ∃ a2 c2, RepAt (W'.setCell ⟨w0.heap.size + 4, i, none⟩ x) (w0.heap.size + 4) k s'.id s'.num s'.tube (.slice a2 s'.body.length c2) ∧ IsBytes W' a2 c2 s'.body) : Pk w0 (W'.setCell ⟨w0.heap.size + 4, i, none⟩ x) a c b k s' := by
  have K : Kept (fun j => j = w0.heap.size + 4) W' (W'.setCell ⟨w0.heap.size + 4, i, none⟩ x) := Kept.setCell _ W' (w0.heap.size + 4) i x rfl
  obtain ⟨a', c', h1, h2⟩ := h.rep
  have h1' := h1.kept hk (fun e => by have e : w0.heap.size + 4 = w0.heap.size + 3 := e; omega)
  have h2' := h2.kept hk (h2.not h.at_.1)
  obtain ⟨a2, c2, q1, q2⟩ := hx a' c' h1' h2'
  exact ⟨⟨ha.1.kept K (fun e => by have e : w0.heap.size + 3 = w0.heap.size + 4 := e; omega), ha.2⟩, ⟨a2, c2, q1, q2.kept K (q2.notRep h1' ⟨_, _, _, rfl⟩)⟩,
    (h.form.kept hk (fun e => by have e : w0.heap.size + 2 = w0.heap.size + 3 := e; omega)).kept K (fun e => by have e : w0.heap.size + 2 = w0.heap.size + 4 := e; omega),
    (h.kept.step hk (fun j hj e => by have e : j = w0.heap.size + 3 := e; omega)).step K (fun j hj e => by have e : j = w0.heap.size + 4 := e; omega),
    (h.r0.kept hk (fun e => by have e : w0.heap.size = w0.heap.size + 3 := e; omega)).kept K (fun e => by have e : w0.heap.size = w0.heap.size + 4 := e; omega),
    (h.r1.kept hk (fun e => by have e : w0.heap.size + 1 = w0.heap.size + 3 := e; omega)).kept K (fun e => by have e : w0.heap.size + 1 = w0.heap.size + 4 := e; omega)⟩
/-- The cells that are read. -/
theorem Pk.cells {w0 W : World} {a : Option Addr} {c : Nat} {b : List UInt8} {k : Nat} {s : St} (h : Pk w0 W a c b k s) :
    W.cell? ⟨w0.heap.size + 1 + 1, 1, none⟩ = some (.int .i64 (idOf k)) ∧ W.cell? ⟨w0.heap.size + 1 + 1, 2, none⟩ = some (.int .i64 (nuOf k)) ∧ W.cell? ⟨w0.heap.size + 1 + 1, 3, none⟩ = some (.int .i64 (boOf k)) ∧ W.cell? ⟨w0.heap.size + 1 + 1, 4, none⟩ = some (.bool (tuOf k)) ∧
    (∃ v, W.cell? ⟨w0.heap.size + 1 + 1 + 1 + 1, 1, none⟩ = some v) ∧ (∃ v, W.cell? ⟨w0.heap.size + 1 + 1 + 1 + 1, 2, none⟩ = some v) ∧ (∃ v, W.cell? ⟨w0.heap.size + 1 + 1 + 1 + 1, 3, none⟩ = some v) ∧ (∃ v, W.cell? ⟨w0.heap.size + 1 + 1 + 1 + 1, 4, none⟩ = some v) ∧
    (∀ i, W.frozen? ⟨w0.heap.size + 1 + 1 + 1 + 1, i, none⟩ = false) ∧ w0.heap.size + 1 + 1 + 1 + 1 < W.heap.size := by
  obtain ⟨a', c', h1, h2⟩ := h.rep
  have hf : W.heap[w0.heap.size + 1 + 1]? = _ := h.form
  have hr : W.heap[w0.heap.size + 1 + 1 + 1 + 1]? = _ := h1
  exact ⟨cells_at hf rfl, cells_at hf rfl, cells_at hf rfl, cells_at hf rfl, ⟨_, cells_at hr rfl⟩, ⟨_, cells_at hr rfl⟩, ⟨_, cells_at hr rfl⟩, ⟨_, cells_at hr rfl⟩, fun i => by simp [World.frozen?, hr], (Array.getElem?_eq_some_iff.1 hr).1⟩
theorem Pk.still {w0 W W' : World} {a : Option Addr} {c : Nat} {b : List UInt8} {k : Nat} {s : St} (h : Pk w0 W a c b k s) (hk : Kept (fun j => j = w0.heap.size + 3) W W') :
    W'.cell? ⟨w0.heap.size + 1 + 1, 1, none⟩ = some (.int .i64 (idOf k)) ∧ W'.cell? ⟨w0.heap.size + 1 + 1, 2, none⟩ = some (.int .i64 (nuOf k)) ∧ W'.cell? ⟨w0.heap.size + 1 + 1, 3, none⟩ = some (.int .i64 (boOf k)) ∧ W'.cell? ⟨w0.heap.size + 1 + 1, 4, none⟩ = some (.bool (tuOf k)) ∧
    (∃ v, W'.cell? ⟨w0.heap.size + 1 + 1 + 1 + 1, 1, none⟩ = some v) ∧ (∃ v, W'.cell? ⟨w0.heap.size + 1 + 1 + 1 + 1, 2, none⟩ = some v) ∧ (∃ v, W'.cell? ⟨w0.heap.size + 1 + 1 + 1 + 1, 3, none⟩ = some v) ∧ (∃ v, W'.cell? ⟨w0.heap.size + 1 + 1 + 1 + 1, 4, none⟩ = some v) ∧
    (∀ i, W'.frozen? ⟨w0.heap.size + 1 + 1 + 1 + 1, i, none⟩ = false) ∧ w0.heap.size + 1 + 1 + 1 + 1 < W'.heap.size := by
  obtain ⟨a', c', h1, h2⟩ := h.rep
  have hf : W'.heap[w0.heap.size + 1 + 1]? = _ := h.form.kept hk (fun e => by have e : w0.heap.size + 2 = w0.heap.size + 3 := e; omega)
  have hr : W'.heap[w0.heap.size + 1 + 1 + 1 + 1]? = _ := h1.kept hk (fun e => by have e : w0.heap.size + 4 = w0.heap.size + 3 := e; omega)
  exact ⟨cells_at hf rfl, cells_at hf rfl, cells_at hf rfl, cells_at hf rfl, ⟨_, cells_at hr rfl⟩, ⟨_, cells_at hr rfl⟩, ⟨_, cells_at hr rfl⟩, ⟨_, cells_at hr rfl⟩, fun i => by simp [World.frozen?, hr], (Array.getElem?_eq_some_iff.1 hr).1⟩
/-- What is read and written at the end. -/
theorem Pk.ends {w0 W : World} {a : Option Addr} {c : Nat} {b : List UInt8} {k : Nat} {s : St} (h : Pk w0 W a c b k s) : ∃ a' c', IsBytes W a' c' s.body ∧
    (W.cell? ⟨w0.heap.size + 1 + 1 + 1 + 1, 0, none⟩ = some (.int .i64 (k : Int)) ∧ W.cell? ⟨w0.heap.size + 1 + 1 + 1 + 1, 1, none⟩ = some (.int .i64 s.id) ∧ W.cell? ⟨w0.heap.size + 1 + 1 + 1 + 1, 2, none⟩ = some (.int .i64 s.num) ∧ W.cell? ⟨w0.heap.size + 1 + 1 + 1 + 1, 3, none⟩ = some (.string ⟨s.tube.toArray⟩) ∧ W.cell? ⟨w0.heap.size + 1 + 1 + 1 + 1, 4, none⟩ = some (.slice a' s.body.length c')) ∧
    (W.cell? ⟨w0.heap.size + 1 + 1 + 1, 0, none⟩ = some (.slice a b.length c) ∧ W.cell? ⟨w0.heap.size + 1 + 1 + 1, 1, none⟩ = some (.int .i64 (s.pos : Int)) ∧ W.cell? ⟨w0.heap.size + 1 + 1 + 1, 2, none⟩ = some (.int .i64 (s.st : Int))) ∧
    (W.cell? ⟨w0.heap.size, 0, none⟩ = some (.int .i64 0) ∧ W.cell? ⟨w0.heap.size, 1, none⟩ = some (.int .i64 0) ∧ W.cell? ⟨w0.heap.size, 2, none⟩ = some (.int .i64 0) ∧ W.cell? ⟨w0.heap.size, 3, none⟩ = some (.string ⟨#[]⟩) ∧ W.cell? ⟨w0.heap.size, 4, none⟩ = some (.slice none 0 0)) ∧
    (W.cell? ⟨w0.heap.size + 1, 0, none⟩ = some (.slice none 0 0) ∧ W.cell? ⟨w0.heap.size + 1, 1, none⟩ = some (.int .i64 0) ∧ W.cell? ⟨w0.heap.size + 1, 2, none⟩ = some (.int .i64 0)) ∧
    (∀ i, W.frozen? ⟨w0.heap.size, i, none⟩ = false) ∧ (∀ i, W.frozen? ⟨w0.heap.size + 1, i, none⟩ = false) ∧ w0.heap.size < W.heap.size ∧ w0.heap.size + 1 < W.heap.size := by
  obtain ⟨a', c', h1, h2⟩ := h.rep
  have hr : W.heap[w0.heap.size + 1 + 1 + 1 + 1]? = _ := h1
  have ht : W.heap[w0.heap.size + 1 + 1 + 1]? = _ := h.at_.1
  have hx : W.heap[w0.heap.size]? = _ := h.r0
  have hy : W.heap[w0.heap.size + 1]? = _ := h.r1
  exact ⟨a', c', h2, ⟨cells_at hr rfl, cells_at hr rfl, cells_at hr rfl, cells_at hr rfl, cells_at hr rfl⟩, ⟨cells_at ht rfl, cells_at ht rfl, cells_at ht rfl⟩, ⟨cells_at hx rfl, cells_at hx rfl, cells_at hx rfl, cells_at hx rfl, cells_at hx rfl⟩, ⟨cells_at hy rfl, cells_at hy rfl, cells_at hy rfl⟩, fun i => by simp [World.frozen?, hx], fun i => by simp [World.frozen?, hy], (Array.getElem?_eq_some_iff.1 hx).1, (Array.getElem?_eq_some_iff.1 hy).1⟩
theorem set5 {w : World} {b : Nat} {x0 x1 x2 x3 x4 : Value} {t : TypeId} (h : w.heap[b]? = some (.cells #[x0, x1, x2, x3, x4] t (0, 0))) (v0 v1 v2 v3 v4 : Value) :
    (((((w.setCell ⟨b, 0, none⟩ v0).setCell ⟨b, 1, none⟩ v1).setCell ⟨b, 2, none⟩ v2).setCell ⟨b, 3, none⟩ v3).setCell ⟨b, 4, none⟩ v4).heap[b]? = some (.cells #[v0, v1, v2, v3, v4] t (0, 0)) ∧ w.grownBy (((((w.setCell ⟨b, 0, none⟩ v0).setCell ⟨b, 1, none⟩ v1).setCell ⟨b, 2, none⟩ v2).setCell ⟨b, 3, none⟩ v3).setCell ⟨b, 4, none⟩ v4) (some b) := by
  have a0 := set_cells h 0 v0
  have a1 := set_cells a0.1 1 v1
  have a2 := set_cells a1.1 2 v2
  have a3 := set_cells a2.1 3 v3
  have a4 := set_cells a3.1 4 v4
  refine ⟨a4.1.trans (congrArg (fun cs => some (Obj.cells cs t (0, 0))) ?_), (grown_trans (grown_trans (grown_trans (grown_trans a0.2 a1.2) a2.2) a3.2) a4.2)⟩
  simp [Array.setIfInBounds]
theorem set3 {w : World} {b : Nat} {x0 x1 x2 : Value} {t : TypeId} (h : w.heap[b]? = some (.cells #[x0, x1, x2] t (0, 0))) (v0 v1 v2 : Value) :
    (((w.setCell ⟨b, 0, none⟩ v0).setCell ⟨b, 1, none⟩ v1).setCell ⟨b, 2, none⟩ v2).heap[b]? = some (.cells #[v0, v1, v2] t (0, 0)) ∧ w.grownBy (((w.setCell ⟨b, 0, none⟩ v0).setCell ⟨b, 1, none⟩ v1).setCell ⟨b, 2, none⟩ v2) (some b) := by
  have a0 := set_cells h 0 v0
  have a1 := set_cells a0.1 1 v1
  have a2 := set_cells a1.1 2 v2
  refine ⟨a2.1.trans (congrArg (fun cs => some (Obj.cells cs t (0, 0))) ?_), grown_trans (grown_trans a0.2 a1.2) a2.2⟩
  simp [Array.setIfInBounds]
theorem results_two {fn : Func} {p u : Tmp} (h : fn.results = #[.cell p 45, .cell u 70]) (tmps : Array Value) (w : World) (g1 g2 : Nat) (c1 c2 : Array Value) (hs1 : c1.size = 5) (hs2 : c2.size = 3)
    (hp : tmps.getD p undef = .pointer (some ⟨g1, 0, none⟩)) (hu : tmps.getD u undef = .pointer (some ⟨g2, 0, none⟩)) (h1 : w.heap[g1]? = some (.cells c1 45 (0, 0))) (h2 : w.heap[g2]? = some (.cells c2 70 (0, 0))) :
    (results fn tmps).run Tryd.prog w = .ok (.tuple #[.agg c1, .agg c2]) w := by
  have l1 := run_loadVar_row (P := Tryd.prog) w g1 45 45 c1 (0, 0) _ h1 Tryd.underlying45 rfl (by rw [hs1]; kernel_rfl)
  have l2 := run_loadVar_row (P := Tryd.prog) w g2 70 70 c2 (0, 0) _ h2 Tryd.underlying70 rfl (by rw [hs2]; kernel_rfl)
  simp only [results, h]
  simp [Sem.run_bind, Result.andThen]
  have hp' : tmps[p]?.getD undef = .pointer (some ⟨g1, 0, none⟩) := by simpa using hp
  have hu' : tmps[u]?.getD undef = .pointer (some ⟨g2, 0, none⟩) := by simpa using hu
  simp [hp', hu', asAddr, l1, l2]
end Go.Proofs.YtomgnailgddchaaDoor
