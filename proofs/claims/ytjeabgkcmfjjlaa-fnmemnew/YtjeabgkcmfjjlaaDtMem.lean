/-
  Data of the struct Mem: copied into new memory, held against another one that is the same, its size, and how it is read as it came in.
-/
import Derived.Test.YtjeabgkcmfjjlaaDtInt
import Derived.Test.YtjeabgkcmfjjlaaDtBool
namespace Go.Proofs.Ytjeabgkcmfjjlaa
open Go.ChangeShapes Go.WideShapes Go.ChangeAt Go.RowKit

abbrev Mm := List Int × Int × Int × Int × List Bool
abbrev memR : Rep Mm := .pair (.list .int) (.pair .int (.pair .int (.pair .int (.list .bool))))

def ToRMem (w : World) (x1 : Int) (x2 : Int) (x3 : Int) (l0 : Nat) (l4 : Nat) (xs0 : List Int) (xs4 : List Bool) (e : Ending) (w' : World) : Prop :=
  ∃ na0 nc0 na4 nc4, e = .returned (.agg #[.slice na0 l0 (l0 + nc0), .int .i64 x1, .int .i64 x2, .int .i64 x3, .slice na4 l4 (l4 + nc4)]) ∧ SlAt intR (fun b => w.heap.size ≤ b) w' na0 l0 xs0 ∧ SlAt boolR (fun b => w.heap.size ≤ b) w' na4 l4 xs4 ∧ Below w.heap.size w w'

end Go.Proofs.Ytjeabgkcmfjjlaa
