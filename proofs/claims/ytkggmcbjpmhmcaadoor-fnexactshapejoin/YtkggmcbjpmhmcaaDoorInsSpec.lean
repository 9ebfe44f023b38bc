/-
  Whether an instruction is ok: what is said of it, and that the specification says so, in whatever memory; it writes nothing that was there.
-/
import Derived.Test.YtkggmcbjpmhmcaaDoorShpSpec
import Derived.Test.YtkggmcbjpmhmcaaDoorAppE
namespace Go.Proofs.YtkggmcbjpmhmcaaDoor
open Go.ChangeShapes Go.WideShapes Go.ChangeAt Go.RowKit

def inI (n lo hi : Int) : Bool := decide (lo ≤ n) && decide (n ≤ hi)
theorem inSpec' (n lo hi : Int) (r : Bool) (h : inI n lo hi = r) (w : World) : Calls Tryd.prog 70 #[.int .i64 n, .int .i64 lo, .int .i64 hi] w fun e w' => e = .returned (.bool r) ∧ w = w' := by
  subst h
  exact inSpec n lo hi w
/-- The method at a place; an instruction, in a method of so many locals and instructions, among classes and methods. -/
def me (M : List Me) (i : Nat) : Me := M.getD i (0, 0, [], 0, 0, [], [], [])
def insB (L : List Cl) (M : List Me) (lo : Int) (n : Nat) (x : In) : Bool :=
  if x.1 = 1 then inI x.2.1 (-128) 127 && (x.2.2 == 0) else
  if x.1 = 2 ∨ x.1 = 5 ∨ x.1 = 6 ∨ x.1 = 14 ∨ x.1 = 22 ∨ x.1 = 23 ∨ x.1 = 24 then (x.2.1 == 0) && (x.2.2 == 0) else
  if x.1 = 3 ∨ x.1 = 4 then inI x.2.1 0 (lo - 1) && (x.2.2 == 0) else
  if x.1 = 7 then inI x.2.1 1 4 && (x.2.2 == 0) else
  if x.1 = 8 ∨ x.1 = 9 ∨ x.1 = 10 ∨ x.1 = 11 then inI x.2.1 0 ((n : Int) - 1) && (x.2.2 == 0) else
  if x.1 = 12 ∨ x.1 = 19 then inI x.2.1 0 ((L.length : Int) - 1) && (x.2.2 == 0) else
  if x.1 = 13 ∨ x.1 = 15 ∨ x.1 = 16 then inI x.2.1 0 1 && (x.2.2 == 0) else
  if x.1 = 17 ∨ x.1 = 18 then inI x.2.1 0 ((L.length : Int) - 1) && inI x.2.2 0 (((fld L x.2.1.toNat).length : Int) - 1) else
  if x.1 = 20 then (inI x.2.1 0 ((M.length : Int) - 1) && (x.2.2 == 0)) && ((me M x.2.1.toNat).1 == -1) else
  if x.1 = 21 then inI x.2.1 0 ((L.length : Int) - 1) && inI x.2.2 0 2 else false

end Go.Proofs.YtkggmcbjpmhmcaaDoor
