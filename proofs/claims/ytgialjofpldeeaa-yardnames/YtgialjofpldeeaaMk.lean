/-
  What of a job a heap has to know.
-/
import Derived.Test.YtgialjofpldeeaaKit
namespace Go.Proofs.Ytgialjofpldeeaa
structure Mk where
  id : Int
  pri : Int
  due : Int
  ord : Int
end Go.Proofs.Ytgialjofpldeeaa
