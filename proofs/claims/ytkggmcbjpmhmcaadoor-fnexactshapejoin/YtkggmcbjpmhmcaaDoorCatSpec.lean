/-
  Whether what is caught is ok, whether what is told ahead of a method's code is, and whether two methods are given, and give back, the same: what is said of it, and that the specification says so, in whatever memory; it writes nothing that was there.
-/
import Derived.Test.YtkggmcbjpmhmcaaDoorInsSpec2
namespace Go.Proofs.YtkggmcbjpmhmcaaDoor
open Go.ChangeShapes Go.WideShapes Go.ChangeAt Go.RowKit

def catB (L : List Cl) (n : Nat) (x : Ca) : Bool :=
  (((inI x.1 0 ((n : Int) - 1) && inI x.2.1 (x.1 + 1) n) && inI x.2.2.1 0 ((n : Int) - 1)) && inI x.2.2.2 0 ((L.length : Int) - 1)) && up L x.2.2.2.toNat 1

/-- What is told ahead of a method's code. -/
def selfN (c : Int) : Int := if 0 ≤ c then 1 else 0
def hdB (n : Nat) (m : Me) : Bool :=
  ((((!(m.1 == 0) && inI m.1 (-1) ((n : Int) - 1)) && decide (m.2.2.1.length ≤ 2)) && fieldB n m.2.2.2.1) && inI m.2.2.2.2.1 (selfN m.1 + (m.2.2.1.length : Int)) 3) && (m.2.2.1.all (fieldB n) && (if 0 ≤ m.1 then inI m.2.1 0 2 else (m.2.1 == 0)))

end Go.Proofs.YtkggmcbjpmhmcaaDoor
