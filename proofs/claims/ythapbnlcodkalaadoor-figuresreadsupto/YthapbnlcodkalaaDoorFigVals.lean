/-
  Layer 13: a tube and a job as one thing each.
-/
import Derived.Test.YthapbnlcodkalaaDoorRefTube
import Derived.Test.YthapbnlcodkalaaDoorRefJob
namespace Go.Proofs.YthapbnlcodkalaaDoor
open Go.RowKit Go.Sort

theorem prS_len (n : Int) (h : I64 n) : (prS n).size ≤ 21 := by
  show (printL n).toArray.size ≤ 21
  rw [List.size_toArray]
  unfold printL
  split
  · simp
  · exact Lib.itoa_length_le n h.1 h.2
theorem dict_len (K : Nat) : ∀ ps : List BP, (∀ p ∈ ps, p.1.size + p.2.size ≤ K) → (pairsL (ps.map un)).length ≤ ps.length * (K + 3)
  | [], _ => by simp [pairsL]
  | p :: r, h => by
    have h1 := dict_len K r (fun q hq => h q (List.mem_cons_of_mem _ hq))
    have h2 := h p (by simp)
    have e1 : p.1.data.toList.length = p.1.size := by simp
    have e2 : p.2.data.toList.length = p.2.size := by simp
    have e3 : (pairsL ((p :: r).map un)).length = p.1.size + p.2.size + 3 + (pairsL (r.map un)).length := by
      simp only [List.map_cons, pairsL, List.flatMap_cons, List.length_append, pairL, un, List.length_cons, List.length_nil, e1, e2]
      omega
    rw [e3, List.length_cons, Nat.succ_mul]
    omega
structure Tb where
  nm : ByteArray
  r : Int
  d : Int
  rs : Int
  b : Int
  u : Int
  us : Int
  wa : Int
  wt : Int
  tt : Int
  de : Int
  pa : Int
  pz : Int
  ul : Int
def Tb.cells (t : Tb) : Array Value := #[.string t.nm, .int .i64 t.r, .int .i64 t.d, .int .i64 t.rs, .int .i64 t.b, .int .i64 t.u, .int .i64 t.us, .int .i64 t.wa, .int .i64 t.wt, .int .i64 t.tt, .int .i64 t.de, .int .i64 t.pa, .int .i64 t.pz, .int .i64 t.ul]
def Tb.ok (t : Tb) : Prop := I64 t.r ∧ I64 t.d ∧ I64 t.rs ∧ I64 t.b ∧ I64 t.u ∧ I64 t.us ∧ I64 t.wa ∧ I64 t.wt ∧ I64 t.tt ∧ I64 t.de ∧ I64 t.pa ∧ I64 t.pz ∧ I64 t.ul
def Tb.pairs (t : Tb) (now : Int) : List BP := tubeP t.nm t.r t.d t.rs t.b t.u t.us t.wa t.wt t.tt t.de t.pa t.pz t.ul now
def Tb.dict (t : Tb) (now : Int) : List UInt8 := if dictE ((t.pairs now).map un) = 0 then dictL ((t.pairs now).map un) else []
structure Jb where
  id : Int
  pr : Int
  dl : Int
  tr : Int
  bo : Int
  st : Int
  du : Int
  od : Int
  ho : Int
  c0 : Int
  c1 : Int
  c2 : Int
  c3 : Int
  c4 : Int
  nm : ByteArray
def Jb.cells (j : Jb) (bv : Value) : Array Value := #[.int .i64 j.id, .int .i64 j.pr, .int .i64 j.dl, .int .i64 j.tr, .int .i64 j.bo, .int .i64 j.st, .int .i64 j.du, .int .i64 j.od, .int .i64 j.ho, .int .i64 j.c0, .int .i64 j.c1, .int .i64 j.c2, .int .i64 j.c3, .int .i64 j.c4, .string j.nm, bv]
def Jb.ok (j : Jb) : Prop := I64 j.id ∧ I64 j.pr ∧ I64 j.dl ∧ I64 j.tr ∧ I64 j.bo ∧ I64 j.st ∧ I64 j.du ∧ I64 j.od ∧ I64 j.ho ∧ I64 j.c0 ∧ I64 j.c1 ∧ I64 j.c2 ∧ I64 j.c3 ∧ I64 j.c4
def Jb.pairs (j : Jb) (file now : Int) : List BP := jobP j.nm j.id j.pr j.dl j.tr j.bo j.st j.du j.od j.ho j.c0 j.c1 j.c2 j.c3 j.c4 file now
def Jb.dict (j : Jb) (file now : Int) : List UInt8 := if dictE ((j.pairs file now).map un) = 0 then dictL ((j.pairs file now).map un) else []
theorem Tb.small (t : Tb) (now : Int) (h : t.ok) (hs : t.nm.size ≤ 1048576) : (dictL ((t.pairs now).map un)).length ≤ 20000000 := by
  have hp := dict_len 1048700 (t.pairs now) (fun p hp => ?_)
  · have hl : (t.pairs now).length = 14 := rfl
    rw [hl] at hp
    show (headL ++ pairsL ((t.pairs now).map un)).length ≤ 20000000
    rw [List.length_append]
    have : headL.length = 4 := rfl
    omega
  · obtain ⟨h0, h1, h2, h3, h4, h5, h6, h7, h8, h9, h10, h11, h12⟩ := h
    have g0 := prS_len _ h0
    have g1 := prS_len _ h1
    have g2 := prS_len _ h2
    have g3 := prS_len _ h3
    have g4 := prS_len _ h4
    have g5 := prS_len _ h5
    have g6 := prS_len _ h6
    have g7 := prS_len _ h7
    have g8 := prS_len _ h8
    have g9 := prS_len _ h9
    have g10 := prS_len _ h10
    have g11 := prS_len _ h11
    have g12 := prS_len _ h12
    have gl := prS_len _ (left_64 t.pz t.ul now)
    simp only [Tb.pairs, tubeP, sumsP, List.cons_append, List.nil_append, List.mem_cons, List.not_mem_nil, or_false] at hp
    rcases hp with rfl | rfl | rfl | rfl | rfl | rfl | rfl | rfl | rfl | rfl | rfl | rfl | rfl | rfl
    · have : kName.size = 4 := rfl
      simp only []
      omega
    · have : (kUrgent : ByteArray).size ≤ 30 := by decide
      simp only []
      omega
    · have : (kReady : ByteArray).size ≤ 30 := by decide
      simp only []
      omega
    · have : (kReserved : ByteArray).size ≤ 30 := by decide
      simp only []
      omega
    · have : (kDelayed : ByteArray).size ≤ 30 := by decide
      simp only []
      omega
    · have : (kBuried : ByteArray).size ≤ 30 := by decide
      simp only []
      omega
    · have : (kTotal : ByteArray).size ≤ 30 := by decide
      simp only []
      omega
    · have : (kUsing : ByteArray).size ≤ 30 := by decide
      simp only []
      omega
    · have : (kWaiting : ByteArray).size ≤ 30 := by decide
      simp only []
      omega
    · have : (kWatching : ByteArray).size ≤ 30 := by decide
      simp only []
      omega
    · have : (kPause : ByteArray).size ≤ 30 := by decide
      simp only []
      omega
    · have : (kDelete : ByteArray).size ≤ 30 := by decide
      simp only []
      omega
    · have : (kPauses : ByteArray).size ≤ 30 := by decide
      simp only []
      omega
    · have : (kLeft : ByteArray).size ≤ 30 := by decide
      simp only []
      omega
theorem Jb.small (j : Jb) (file now : Int) (h : j.ok) (hf : I64 file) (hs : j.nm.size ≤ 1048576) : (dictL ((j.pairs file now).map un)).length ≤ 20000000 := by
  have hp := dict_len 1048700 (j.pairs file now) (fun p hp => ?_)
  · have hl : (j.pairs file now).length = 14 := rfl
    rw [hl] at hp
    show (headL ++ pairsL ((j.pairs file now).map un)).length ≤ 20000000
    rw [List.length_append]
    have : headL.length = 4 := rfl
    omega
  · obtain ⟨h0, h1, h2, h3, h4, h5, h6, h7, h8, h9, h10, h11, h12, h13⟩ := h
    have g0 := prS_len _ h0
    have g1 := prS_len _ h1
    have g2 := prS_len _ h2
    have g3 := prS_len _ h3
    have g9 := prS_len _ h9
    have g10 := prS_len _ h10
    have g11 := prS_len _ h11
    have g12 := prS_len _ h12
    have g13 := prS_len _ h13
    have gl := prS_len _ (tl_64 j.st j.du now)
    have ga := prS_len _ (lessI_64 now j.bo)
    have gf := prS_len _ hf
    have gs : (stS j.st).size ≤ 10 := by
      unfold stS
      repeat' split
      all_goals decide
    simp only [Jb.pairs, jobP, List.mem_cons, List.not_mem_nil, or_false] at hp
    rcases hp with rfl | rfl | rfl | rfl | rfl | rfl | rfl | rfl | rfl | rfl | rfl | rfl | rfl | rfl
    · have : (jId : ByteArray).size ≤ 30 := by decide
      simp only []
      omega
    · have : (jTube : ByteArray).size ≤ 30 := by decide
      simp only []
      omega
    · have : (jState : ByteArray).size ≤ 30 := by decide
      simp only []
      omega
    · have : (jPri : ByteArray).size ≤ 30 := by decide
      simp only []
      omega
    · have : (jAge : ByteArray).size ≤ 30 := by decide
      simp only []
      omega
    · have : (jDelay : ByteArray).size ≤ 30 := by decide
      simp only []
      omega
    · have : (jTtr : ByteArray).size ≤ 30 := by decide
      simp only []
      omega
    · have : (jLeft : ByteArray).size ≤ 30 := by decide
      simp only []
      omega
    · have : (jFile : ByteArray).size ≤ 30 := by decide
      simp only []
      omega
    · have : (jRes : ByteArray).size ≤ 30 := by decide
      simp only []
      omega
    · have : (jTim : ByteArray).size ≤ 30 := by decide
      simp only []
      omega
    · have : (jRel : ByteArray).size ≤ 30 := by decide
      simp only []
      omega
    · have : (jBur : ByteArray).size ≤ 30 := by decide
      simp only []
      omega
    · have : (jKic : ByteArray).size ≤ 30 := by decide
      simp only []
      omega
theorem Tb.dict_le (t : Tb) (now : Int) (h : t.ok) (hs : t.nm.size ≤ 1048576) : (t.dict now).length ≤ 20000000 := by
  unfold Tb.dict
  split
  · exact t.small now h hs
  · simp
theorem Jb.dict_le (j : Jb) (file now : Int) (h : j.ok) (hf : I64 file) (hs : j.nm.size ≤ 1048576) : (j.dict file now).length ≤ 20000000 := by
  unfold Jb.dict
  split
  · exact j.small file now h hf hs
  · simp
theorem tubeW (t : Tb) (now : Int) (W : World) (hp : PowAt W) (h : t.ok) (hs : t.nm.size ≤ 1048576) : Calls Tryd.prog 13 #[.agg t.cells, .int .i64 now] W fun e w' => ∃ a c, e = .returned (.slice a (t.dict now).length c) ∧ Own w' W.heap.size (.slice a (t.dict now).length c) (t.dict now) ∧ Below W.heap.size W w' := by
  refine (tube_any t.nm t.r t.d t.rs t.b t.u t.us t.wa t.wt t.tt t.de t.pa t.pz t.ul now W hp h (by have := t.small now h hs; unfold Tb.pairs at this; omega)).mono ?_
  rintro e w' ⟨v, rfl, o, b⟩
  obtain ⟨a, c, rfl, _⟩ := o.shape
  exact ⟨a, c, rfl, o, b⟩
theorem refTubeW (t : Tb) (now : Int) (W : World) (h : t.ok) (hs : t.nm.size ≤ 1048576) : Calls Tryd.prog 12 #[.agg t.cells, .int .i64 now] W fun e w' => ∃ a c, e = .returned (.slice a (t.dict now).length c) ∧ NewB W w' a c (t.dict now) ∧ Below W.heap.size W w' :=
  refTube_any t.nm t.r t.d t.rs t.b t.u t.us t.wa t.wt t.tt t.de t.pa t.pz t.ul now W h (by have := t.small now h hs; unfold Tb.pairs at this; omega)
theorem jobW (j : Jb) (bv : Value) (file now : Int) (W : World) (hp : PowAt W) (h : j.ok) (hf : I64 file) (hn : I64 now) (hs : j.nm.size ≤ 1048576) : Calls Tryd.prog 10 #[.agg (j.cells bv), .int .i64 file, .int .i64 now] W fun e w' => ∃ a c, e = .returned (.slice a (j.dict file now).length c) ∧ Own w' W.heap.size (.slice a (j.dict file now).length c) (j.dict file now) ∧ Below W.heap.size W w' := by
  obtain ⟨h0, h1, h2, h3, h4, h5, h6, h7, h8, h9, h10, h11, h12, h13⟩ := id h
  refine (job_any j.nm j.id j.pr j.dl j.tr j.bo j.st j.du j.od j.ho j.c0 j.c1 j.c2 j.c3 j.c4 file now bv W hp ⟨h0, h1, h2, h3, h4, h5, h6, h7, h8, h9, h10, h11, h12, h13, hf, hn⟩ (by have := j.small file now h hf hs; unfold Jb.pairs at this; omega)).mono ?_
  rintro e w' ⟨v, rfl, o, b⟩
  obtain ⟨a, c, rfl, _⟩ := o.shape
  exact ⟨a, c, rfl, o, b⟩
theorem refJobW (j : Jb) (bv : Value) (file now : Int) (W : World) (h : j.ok) (hf : I64 file) (hn : I64 now) (hs : j.nm.size ≤ 1048576) : Calls Tryd.prog 8 #[.agg (j.cells bv), .int .i64 file, .int .i64 now] W fun e w' => ∃ a c, e = .returned (.slice a (j.dict file now).length c) ∧ NewB W w' a c (j.dict file now) ∧ Below W.heap.size W w' := by
  obtain ⟨h0, h1, h2, h3, h4, h5, h6, h7, h8, h9, h10, h11, h12, h13⟩ := id h
  exact refJob_any j.nm j.id j.pr j.dl j.tr j.bo j.st j.du j.od j.ho j.c0 j.c1 j.c2 j.c3 j.c4 file now bv W ⟨h0, h1, h2, h3, h4, h5, h6, h7, h8, h9, h10, h11, h12, h13, hf, hn⟩ (by have := j.small file now h hf hs; unfold Jb.pairs at this; omega)
end Go.Proofs.YthapbnlcodkalaaDoor
