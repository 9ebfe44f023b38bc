/-
  Which words of a thing lead: the specification's list of truths; it writes nothing that was there.
-/
import Derived.Test.YtjeabgkcmfjjlaaMemSc
namespace Go.Proofs.Ytjeabgkcmfjjlaa
open Go.ChangeShapes Go.WideShapes Go.ChangeAt Go.RowKit
set_option linter.unusedVariables false

/-- Whether the word at a place of a thing leads. -/
def refB (t : Th) (j : Nat) : Bool := decide (hdN t.2.1 ≤ j) && (t.2.2.getD (j - hdN t.2.1) 0 != 1)
theorem refB_low {t : Th} {j : Nat} (h : j < hdN t.2.1) : refB t j = false := by unfold refB; rw [decide_eq_false (by omega)]; rfl
theorem refB_at {t : Th} {j : Nat} (h : hdN t.2.1 ≤ j) : refB t j = (t.2.2.getD (j - hdN t.2.1) 0 != 1) := by unfold refB; rw [decide_eq_true h]; rfl

end Go.Proofs.Ytjeabgkcmfjjlaa
