/-
  Layer 13: the document's Job.
-/
import Derived.Test.YthapbnlcodkalaaDoorRefJobA
import Derived.Test.YthapbnlcodkalaaDoorRefJobB
import Derived.Test.YthapbnlcodkalaaDoorRefJobC
namespace Go.Proofs.YthapbnlcodkalaaDoor
open Go.RowKit Go.Sort

theorem refJob_any (nm : ByteArray) (id pr dl tr bo st du od ho c0 c1 c2 c3 c4 file now : Int) (bv : Value) (w : World) (hn : I64 id ∧ I64 pr ∧ I64 dl ∧ I64 tr ∧ I64 bo ∧ I64 st ∧ I64 du ∧ I64 od ∧ I64 ho ∧ I64 c0 ∧ I64 c1 ∧ I64 c2 ∧ I64 c3 ∧ I64 c4 ∧ I64 file ∧ I64 now) (hb : (dictL ((jobP nm id pr dl tr bo st du od ho c0 c1 c2 c3 c4 file now).map un)).length < 140737488355328) :
    Calls Tryd.prog 8 #[.agg #[.int .i64 id, .int .i64 pr, .int .i64 dl, .int .i64 tr, .int .i64 bo, .int .i64 st, .int .i64 du, .int .i64 od, .int .i64 ho, .int .i64 c0, .int .i64 c1, .int .i64 c2, .int .i64 c3, .int .i64 c4, .string nm, bv], .int .i64 file, .int .i64 now] w fun e w' => ∃ ax cx, e = .returned (.slice ax (if dictE ((jobP nm id pr dl tr bo st du od ho c0 c1 c2 c3 c4 file now).map un) = 0 then dictL ((jobP nm id pr dl tr bo st du od ho c0 c1 c2 c3 c4 file now).map un) else []).length cx) ∧ NewB w w' ax cx (if dictE ((jobP nm id pr dl tr bo st du od ho c0 c1 c2 c3 c4 file now).map un) = 0 then dictL ((jobP nm id pr dl tr bo st du od ho c0 c1 c2 c3 c4 file now).map un) else []) ∧ Below w.heap.size w w' := by
  by_cases h2 : st = 2
  · exact refJob_A nm id pr dl tr bo st du od ho c0 c1 c2 c3 c4 file now bv w h2 hn hb
  · by_cases h3 : st = 3
    · exact refJob_B nm id pr dl tr bo st du od ho c0 c1 c2 c3 c4 file now bv w h3 hn hb
    · exact refJob_C nm id pr dl tr bo st du od ho c0 c1 c2 c3 c4 file now bv w (by omega) hn hb
end Go.Proofs.YthapbnlcodkalaaDoor
