/-
  Join, of a list of texts that lies in memory.
-/
import Derived.Test.YtipbphflboooeaaDoorRefJoin
import Derived.Test.YtipbphflboooeaaDoorStrs
import Derived.Test.YtipbphflboooeaaDoorBeyond
namespace Go.Proofs.YtipbphflboooeaaDoor
open Go.RowKit

theorem join_strs (a : Option Addr) (c : Nat) (ss : List ByteArray) (w : World) (h : IsStrs w a c ss) (hsz : ss.length + (ss.map ByteArray.size).sum ≤ 2147483647) :
    Calls Tryd.prog 19 #[.slice a ss.length c] w fun e w' => e = .returned (.tuple #[.string ⟨(joinV (ss.map (·.data.toList))).toArray⟩, .bool (joinB (ss.map (·.data.toList)))]) ∧ Below w.heap.size w w' := by
  obtain ⟨h1, h2, h3⟩ := h
  rcases h3 with rfl | ⟨b, o, rfl, hb, hc⟩
  · exact (join_none a c w).mono fun e w' ⟨he, hw⟩ => ⟨he, hw ▸ Below.refl _ _⟩
  · have := lineTo_length ss ss.length
    rw [lineTo_all ss ss.length (Nat.le_refl _)] at this
    exact join_any b o c ss w hc hb (by omega) h1 (by omega)

theorem beyond_not (ss : List ByteArray) : ∀ (n : Int), 0 ≤ n → n + (ss.length : Int) + ((ss.map ByteArray.size).sum : Int) < lim → beyondFrom ss n = false := by
  induction ss with
  | nil => intro n _ _; rfl
  | cons x r ih =>
    intro n h0 h
    simp only [List.length_cons, List.map_cons, List.sum_cons] at h
    rw [beyondFrom, if_neg (by omega)]
    exact ih _ (by omega) (by omega)
end Go.Proofs.YtipbphflboooeaaDoor
