/-
  Whether two slices of classes are the same, and how many classes and fields there are; of every slice of classes in memory.
-/
import Derived.Test.YtjeabgkcmfjjlaaExCls
import Derived.Deep.RegionWith
namespace Go.Proofs.Ytjeabgkcmfjjlaa
open Go.ChangeShapes Go.WideShapes Go.ChangeAt Go.RowKit

theorem below_drawn {w w1 : World} (n : Nat) (h : w1 = w.drewN n) : Below w.heap.size w w1 := by subst h; exact below_drewN (Below.refl _ _) n

theorem cl_ext (L M : List Cl) (hl : L.length = M.length) (h : ∀ j, j < L.length → cl L j = cl M j) : L = M := by
  apply List.ext_getElem hl
  intro i h1 h2
  have := h i h1
  rwa [cl, cl, List.getD_eq_getElem?_getD, List.getD_eq_getElem?_getD, List.getElem?_eq_getElem h1, List.getElem?_eq_getElem h2, Option.getD_some, Option.getD_some] at this

end Go.Proofs.Ytjeabgkcmfjjlaa
