/-
  What of a job a heap has to know.
-/
import Derived.Test.YtjkgclogndbplaaKit
namespace Go.Proofs.Ytjkgclogndbplaa
structure Mk where
  id : Int
  pri : Int
  due : Int
  ord : Int
end Go.Proofs.Ytjkgclogndbplaa
