/-
  The specification's walk over words, its lists of truths about words: what they say; they write nothing that was there.
-/
import Derived.Test.YtjeabgkcmfjjlaaMemSa
namespace Go.Proofs.Ytjeabgkcmfjjlaa
open Go.ChangeShapes Go.WideShapes Go.ChangeAt Go.RowKit
set_option linter.unusedVariables false

def plN (ts : List Th) : List Int := ts.map (fun t => t.1 - 1)
def seg (ws : List Int) (i e : Nat) : List Int := (ws.take e).drop i
/-- What is so of a part's list. -/
def PartP (w : World) (L : List Cl) (a : Nat) (ws : List Int) (r : Ending) (w' : World) : Prop :=
  ∃ v out bb, r = .returned (.tuple #[v, .bool bb]) ∧ NewInts w v w' out ∧ out.length ≤ 1000 ∧ (∀ x ∈ out, 0 ≤ x ∧ x ≤ 1000) ∧ bb = (parse L a ws).isSome ∧ ∀ ts, parse L a ws = some ts → out = plN ts

end Go.Proofs.Ytjeabgkcmfjjlaa
