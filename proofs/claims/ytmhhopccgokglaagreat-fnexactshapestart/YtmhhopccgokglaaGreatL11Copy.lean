/-
  A shape is copied into new memory by the specification, whatever memory there is; nothing that was there is written.
-/
import Derived.Test.YtmhhopccgokglaaGreatL11In
import Derived.Test.YtmhhopccgokglaaGreatAppI
namespace Go.Proofs.YtmhhopccgokglaaGreat
open Go.ChangeShapes Go.WideShapes Go.ChangeAt Go.RowKit

theorem sz2 {w x : World} {q r : Obj} (h : Below (w.heap.size + 1 + 1) ((w.alloc q).alloc r) x) : w.heap.size + 1 + 1 ≤ x.heap.size := by have := h.size; simpa using this
/-- A shape in memory of the call's own: two lists that are apart. -/
structure ShOwn (base : Nat) (w : World) (lv sv : Value) (us vs : List Int) : Prop where
  loc : w.ownsRow base 3 1 lv us.length (us.map (Value.int .i64))
  st : w.ownsRow base 3 1 sv vs.length (vs.map (Value.int .i64))
  apart : ∀ b, lv.ownBlock = some b → sv.ownBlock = some b → False

end Go.Proofs.YtmhhopccgokglaaGreat
