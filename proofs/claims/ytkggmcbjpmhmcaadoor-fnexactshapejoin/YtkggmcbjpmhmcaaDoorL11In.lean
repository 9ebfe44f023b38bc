/-
  Whether a shape may stand where another one is told: what is said of it, and that the specification says so, in whatever memory; it writes nothing that was there.
-/
import Derived.Test.YtkggmcbjpmhmcaaDoorSameSpec
namespace Go.Proofs.YtkggmcbjpmhmcaaDoor
open Go.ChangeShapes Go.WideShapes Go.ChangeAt Go.RowKit

/-- Types, one by one. -/
def inL (L : List Cl) (us xs : List Int) : Bool := (List.range us.length).all (fun i => inB L (us.getD i 0) (xs.getD i 0))
def inS (L : List Cl) (s t : Sh) : Bool := decide (s.2.2.length = t.2.2.length) && (inL L s.2.1 t.2.1 && inL L s.2.2 t.2.2)
def TyR (L : List Cl) (us : List Int) : Prop := ∀ x ∈ us, 0 ≤ x ∧ x ≤ 8 + (L.length : Int) - 1
theorem TyR.at {L : List Cl} {us : List Int} (h : TyR L us) (i : Nat) (hi : i < us.length) : 0 ≤ us.getD i 0 ∧ us.getD i 0 ≤ 8 + (L.length : Int) - 1 := by
  rw [List.getD_eq_getElem?_getD, List.getElem?_eq_getElem hi]
  exact h _ (List.getElem_mem hi)
theorem range_no {p : Nat → Bool} {n k : Nat} (hk : k < n) (h : p k = false) : (List.range n).all p = false := by
  rw [List.all_eq_false]
  exact ⟨k, List.mem_range.2 hk, by simp [h]⟩
theorem range_on {p : Nat → Bool} (k : Nat) : (List.range (k + 1)).all p = ((List.range k).all p && p k) := by
  rw [List.range_succ, List.all_append]; simp

end Go.Proofs.YtkggmcbjpmhmcaaDoor
