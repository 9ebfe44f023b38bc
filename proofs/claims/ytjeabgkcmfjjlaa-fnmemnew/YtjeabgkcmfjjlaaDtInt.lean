/-
  Slices of ints: copied into new memory, held against another one that is the same, their size; and the words in which the same is said of other data.
-/
import Derived.Test.YtjeabgkcmfjjlaaCopy
import Derived.Test.YtjeabgkcmfjjlaaRdRep
import Derived.Test.YtjeabgkcmfjjlaaEqCls
import Derived.RowKit3
namespace Go.Proofs.Ytjeabgkcmfjjlaa
open Go.ChangeShapes Go.WideShapes Go.ChangeAt Go.RowKit

/-- What a copy of a slice gives. -/
def ToL {α : Type} (R : Rep α) (w : World) (len : Nat) (xs : List α) (e : Ending) (w' : World) : Prop :=
  ∃ a c, e = .returned (.slice a len (len + c)) ∧ SlAt R (fun b => w.heap.size ≤ b) w' a len xs ∧ Below w.heap.size w w'
/-- What is left of so many, behind something. -/
def SzP (w : World) (l : Int) (P : Prop) (e : Ending) (w' : World) : Prop :=
  ∃ r : Int, e = .returned (.int .i64 r) ∧ -1 ≤ r ∧ r ≤ l ∧ (0 ≤ r → P) ∧ Below w.heap.size w w'
theorem SlAt.set {α : Type} {R : Rep α} {D : Nat → Prop} {w : World} {a : Option Addr} {len : Nat} {xs : List α} (h : SlAt R D w a len xs) (p : Addr) (v : Value) (hp : ¬ D p.block) : SlAt R D (w.setCell p v) a len xs :=
  h.keep fun b o hd _ => World.cell?_setCell_other w _ _ _ (by intro e; exact hp (by rw [e]; exact hd))

/-- What may be written may be written. -/
def FZ (w w' : World) : Prop := ∀ a, w'.frozen? a = w.frozen? a
theorem rd_int : Reads 3 .int := reads_int Try.underlying3
theorem rd_bool : Reads 4 .bool := reads_bool Try.underlying4
theorem rdL_Int : Reads 25 (.list .int) := reads_list Try.underlying25 (by kernel_rfl) rd_int

end Go.Proofs.Ytjeabgkcmfjjlaa
