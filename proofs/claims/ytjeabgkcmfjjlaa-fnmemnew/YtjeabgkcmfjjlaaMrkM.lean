/-
  What marking and asking does of a memory of one's own.
-/
import Derived.Test.YtjeabgkcmfjjlaaMrkB
import Derived.Test.YtjeabgkcmfjjlaaMrkU
import Derived.Test.YtjeabgkcmfjjlaaSxB
namespace Go.Proofs.Ytjeabgkcmfjjlaa
open Go.ChangeShapes Go.WideShapes Go.ChangeAt Go.RowKit
set_option linter.unusedVariables false

theorem Wri.lt {w : World} {n : Nat} {a : Option Addr} {f : Nat → Int} (h : Wri w a n f) (x : Addr) (e : a = some x) (hn : 0 < n) : x.block < w.heap.size := by
  subst e
  rcases h.cells with h0 | ⟨g, off, e, hc⟩
  · omega
  · obtain rfl := Option.some.inj e
    exact World.block_lt_of_cell? w _ (hc 0 hn).1
theorem WriB.lt {w : World} {n : Nat} {a : Option Addr} {f : Nat → Bool} (h : WriB w a n f) (x : Addr) (e : a = some x) (hn : 0 < n) : x.block < w.heap.size := by
  subst e
  rcases h.cells with h0 | ⟨g, off, e, hc⟩
  · omega
  · obtain rfl := Option.some.inj e
    exact World.block_lt_of_cell? w _ (hc 0 hn).1
/-- The blocks of a memory's two lists. -/
def MemD (a : Option Addr) (n : Nat) (b : Option Addr) (m : Nat) (i : Nat) : Prop := (∃ x, a = some x ∧ x.block = i ∧ 0 < n) ∨ (∃ x, b = some x ∧ x.block = i ∧ 0 < m)
end Go.Proofs.Ytjeabgkcmfjjlaa
