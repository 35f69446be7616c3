/-
  What of a job a heap has to know.
-/
import Derived.Test.YtonfdmbcbfpgdaaKit
namespace Go.Proofs.Ytonfdmbcbfpgdaa
structure Mk where
  id : Int
  pri : Int
  due : Int
  ord : Int
end Go.Proofs.Ytonfdmbcbfpgdaa
