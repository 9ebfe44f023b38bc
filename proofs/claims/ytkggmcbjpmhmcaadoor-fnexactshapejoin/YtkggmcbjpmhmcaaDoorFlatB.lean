/-
  Blocks of the call's own.
-/
import Derived.Test.YtkggmcbjpmhmcaaDoorAppE
import Derived.RangeFuncBox
namespace Go.Proofs.YtkggmcbjpmhmcaaDoor
open Go.ChangeShapes Go.WideShapes Go.ChangeAt Go.RowKit

/-- A block of the call's own: what its cells hold, and what they hold when one is written. -/
theorem boxG {w : World} {X : Nat} {cur : Array Value} {t : TypeId} (h : w.heap[X]? = some (.cells cur t (0, 0))) (o : Nat) : w.cell? ⟨X, o, none⟩ = cur[o]? ∧ w.frozen? ⟨X, o, none⟩ = false := by
  simp [World.cell?, World.frozen?, h]
theorem boxS {w : World} {X : Nat} {cur : Array Value} {t : TypeId} (h : w.heap[X]? = some (.cells cur t (0, 0))) (o : Nat) (v : Value) : (w.setCell ⟨X, o, none⟩ v).heap[X]? = some (.cells (cur.setIfInBounds o v) t (0, 0)) := by
  have hl : X < w.heap.size := (Array.getElem?_eq_some_iff.1 h).1
  have h' : w.heap[X] = .cells cur t (0, 0) := (Array.getElem?_eq_some_iff.1 h).2
  simp [World.setCell, hl, Array.getElem_modify, h']
theorem boxN (w : World) (cur : Array Value) (t : TypeId) (b : Nat) (h : w.heap.size = b) : (w.alloc (.cells cur t)).heap[b]? = some (.cells cur t (0, 0)) := by subst h; exact World.alloc_heap_new w _

end Go.Proofs.YtkggmcbjpmhmcaaDoor
