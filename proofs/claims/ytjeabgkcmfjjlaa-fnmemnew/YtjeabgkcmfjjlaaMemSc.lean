/-
  The specification's walk over a memory, and its lists of truths about words: what they say; they write nothing that was there.
-/
import Derived.Test.YtjeabgkcmfjjlaaMemSb
import Derived.Deep.RegionHeld3
namespace Go.Proofs.Ytjeabgkcmfjjlaa
open Go.ChangeShapes Go.WideShapes Go.ChangeAt Go.RowKit
set_option linter.unusedVariables false

/-- What is so of the walk's list. -/
def WalkP (w : World) (L : List Cl) (m : Mm) (r : Ending) (w' : World) : Prop :=
  ∃ v out bb, r = .returned (.tuple #[v, .bool bb]) ∧ NewInts w v w' out ∧ out.length ≤ 2000 ∧ (∀ x ∈ out, 0 ≤ x ∧ x ≤ 1000) ∧ bb = ((yPs L m).isSome && (oPs L m).isSome) ∧ (bb = true → out = plN (thT L m))
theorem plN_app (a b : List Th) : plN (a ++ b) = plN a ++ plN b := by simp [plN]

theorem info_boo2 : (Try.prog.info? 4).map (fun i => (i.zero, i.size, i.bytes)) = some (some (.bool false), 1, 1) := by kernel_rfl
def stB (out : List Int) (j : Nat) : Bool := out.any (fun x => x == (j : Int))
theorem stB_snoc (xs : List Int) (x : Int) (j : Nat) : stB (xs ++ [x]) j = (stB xs j || x == (j : Int)) := by simp [stB]
end Go.Proofs.Ytjeabgkcmfjjlaa
