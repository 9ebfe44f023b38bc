/-
  Truths of the call's own are marked, and held against their marks.
-/
import Derived.Test.YtjeabgkcmfjjlaaMrk
import Derived.Test.YtjeabgkcmfjjlaaDtBool
namespace Go.Proofs.Ytjeabgkcmfjjlaa
open Go.ChangeShapes Go.WideShapes Go.ChangeAt Go.RowKit

/-- A list of truths in memory that may be written. -/
structure WriB (w : World) (a : Option Addr) (n : Nat) (f : Nat → Bool) : Prop where
  cells : n = 0 ∨ ∃ b off, a = some ⟨b, off, none⟩ ∧ ∀ j, j < n → w.cell? ⟨b, off + j, none⟩ = some (.bool (f j)) ∧ w.frozen? ⟨b, off + j, none⟩ = false
theorem WriB.keep {w w' : World} {n : Nat} {a : Option Addr} {f : Nat → Bool} {D : Nat → Prop} (h : WriB w a n f) (c : Chg D w w') (hS : ∀ x, a = some x → 0 < n → ¬ D x.block) : WriB w' a n f := by
  rcases h.cells with h0 | ⟨g, off, rfl, hc⟩
  · exact ⟨.inl h0⟩
  · refine ⟨.inr ⟨g, off, rfl, fun j hj => ?_⟩⟩
    have hl := World.block_lt_of_cell? w _ (hc j hj).1
    have hn := hS _ rfl (by omega)
    exact ⟨by rw [c.cell g _ hl hn]; exact (hc j hj).1, by rw [c.frozen g _ hl hn]; exact (hc j hj).2⟩
theorem WriB.later {w w' : World} {n : Nat} {a : Option Addr} {f : Nat → Bool} (h : WriB w a n f) (b : Below w.heap.size w w') : WriB w' a n f := by
  rcases h.cells with h0 | ⟨g, off, ha, hc⟩
  · exact ⟨.inl h0⟩
  · refine ⟨.inr ⟨g, off, ha, fun j hj => ?_⟩⟩
    have hl := World.block_lt_of_cell? w _ (hc j hj).1
    exact ⟨by rw [b.cell hl]; exact (hc j hj).1, by rw [b.frozen hl]; exact (hc j hj).2⟩
theorem WriB.sl {w : World} {n : Nat} {a : Option Addr} {xs : List Bool} (h : WriB w a n (fun j => xs.getD j false)) (hs : xs.length = n) (hn : n ≤ 1048576) : SlAt boolR (fun _ => True) w a n xs :=
  SlAt.ofTru hs (by omega) (by
    rcases h.cells with h0 | ⟨g, off, ha, hc⟩
    · exact .inl h0
    · exact .inr ⟨g, off, ha, trivial, fun j hj => (hc j hj).1⟩)
end Go.Proofs.Ytjeabgkcmfjjlaa
