/-
  The program's ClassJoin gives what is said of the list of classes, in whatever memory; it writes nothing that was there.
-/
import Derived.Test.YtkggmcbjpmhmcaaDoorImplI
import Derived.Test.YtkggmcbjpmhmcaaDoorInts2
import Derived.Test.YtkggmcbjpmhmcaaDoorClsMath
namespace Go.Proofs.YtkggmcbjpmhmcaaDoor
open Go.ChangeShapes Go.WideShapes Go.ChangeAt Go.RowKit

end Go.Proofs.YtkggmcbjpmhmcaaDoor
