/-
  Whether the parts of a memory are ok: the specification says so; it writes nothing that was there.
-/
import Derived.Test.YtjeabgkcmfjjlaaMemSd
namespace Go.Proofs.Ytjeabgkcmfjjlaa
open Go.ChangeShapes Go.WideShapes Go.ChangeAt Go.RowKit
set_option linter.unusedVariables false

theorem rng_on {p : Nat → Bool} (k : Nat) : (List.range (k + 1)).all p = ((List.range k).all p && p k) := by
  rw [List.range_succ, List.all_append]; simp
theorem rng_no {p : Nat → Bool} {n k : Nat} (hk : k < n) (h : p k = false) : (List.range n).all p = false := by
  rw [List.all_eq_false]; exact ⟨k, List.mem_range.2 hk, by simp [h]⟩
theorem bnd_if (L : List Cl) (m : Mm) : bndB L m = (clsOk L && (inI m.2.1 0 40 && (inI ((m.1.length : Int) - m.2.1) 14 120 && (inI m.2.2.1 0 m.2.1 && (inI m.2.2.2.1 m.2.1 m.1.length && ((m.2.2.2.2.length : Int) == crd ((m.1.length : Int) - m.2.1))))))) := rfl

end Go.Proofs.Ytjeabgkcmfjjlaa
