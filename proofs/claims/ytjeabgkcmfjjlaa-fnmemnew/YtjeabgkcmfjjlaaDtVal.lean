/-
  Data of the struct Val: copied into new memory, held against another one that is the same, its size, and how it is read as it came in.
-/
import Derived.Test.YtjeabgkcmfjjlaaDtInt
namespace Go.Proofs.Ytjeabgkcmfjjlaa
open Go.ChangeShapes Go.WideShapes Go.ChangeAt Go.RowKit

def ToRVal (w : World) (x0 : Bool) (x1 : Int) (e : Ending) (w' : World) : Prop :=
  e = .returned (.agg #[.bool x0, .int .i64 x1]) ∧ Below w.heap.size w w'

end Go.Proofs.Ytjeabgkcmfjjlaa
