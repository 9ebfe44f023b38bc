/-
  Data of the struct Obj: copied into new memory, held against another one that is the same, its size, and how it is read as it came in.
-/
import Derived.Test.YtjeabgkcmfjjlaaDtInt
import Derived.Test.YtjeabgkcmfjjlaaDtVal
namespace Go.Proofs.Ytjeabgkcmfjjlaa
open Go.ChangeShapes Go.WideShapes Go.ChangeAt Go.RowKit

def ToRObj (w : World) (x0 : Int) (l1 : Nat) (xs1 : List Vl) (e : Ending) (w' : World) : Prop :=
  ∃ na1 nc1, e = .returned (.agg #[.int .i64 x0, .slice na1 l1 (l1 + nc1)]) ∧ SlAt vaR (fun b => w.heap.size ≤ b) w' na1 l1 xs1 ∧ Below w.heap.size w w'

end Go.Proofs.Ytjeabgkcmfjjlaa
