/-
  Whether two methods are given, and give back, the same, and whether a method is ok: what is said of it, and that the specification says so, in whatever memory; it writes nothing that was there.
-/
import Derived.Test.YtkggmcbjpmhmcaaDoorHeadSpec
namespace Go.Proofs.YtkggmcbjpmhmcaaDoor
open Go.ChangeShapes Go.WideShapes Go.ChangeAt Go.RowKit

theorem later2 {w x : World} {q r : Obj} {b j : Nat} {v : Value} (h : Below (w.heap.size + 1 + 1) ((w.alloc q).alloc r) x) (hv : ((w.alloc q).alloc r).cell? ⟨b, j, none⟩ = some v) : x.cell? ⟨b, j, none⟩ = some v := by
  have hb := World.block_lt_of_cell? _ _ hv
  simp only [World.size_alloc] at hb
  rw [h.cell (p := ⟨b, j, none⟩) hb]
  exact hv
theorem below2 {w x : World} {q r : Obj} (h : Below (w.heap.size + 1 + 1) ((w.alloc q).alloc r) x) : Below w.heap.size w x :=
  (((Below.refl w.heap.size w).alloc (Nat.le_refl _) q).alloc (by simp) r).trans (h.mono (by omega))


def samB (o p : Int) (us vs : List Int) : Bool := decide (o = p) && decide (us = vs)
end Go.Proofs.YtkggmcbjpmhmcaaDoor
