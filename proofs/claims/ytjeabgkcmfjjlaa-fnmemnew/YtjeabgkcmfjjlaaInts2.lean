/-
  Slices of ints: a copy in new memory, whether two are the same, how many there are; of every slice of ints in memory.
-/
import Derived.Test.YtjeabgkcmfjjlaaCls
import Derived.Handy
import Derived.Deep.OwnRows
import Derived.Deep.QuietTactic
import Derived.BigQuiet
namespace Go.Proofs.Ytjeabgkcmfjjlaa
open Go.ChangeShapes Go.WideShapes Go.ChangeAt Go.RowKit

/-- A row of cells that is the call's own. -/
def RowAt (w : World) (G n : Nat) (f : Nat → Value) : Prop := ∀ j, j < n → w.cell? ⟨G, j, none⟩ = some (f j) ∧ w.frozen? ⟨G, j, none⟩ = false
theorem RowAt.set {w : World} {G n : Nat} {f : Nat → Value} (h : RowAt w G n f) (k : Nat) (v : Value) : RowAt (w.setCell ⟨G, k, none⟩ v) G n (fun j => if j = k then v else f j) := by
  intro j hj
  refine ⟨?_, by rw [World.frozen?_setCell]; exact (h j hj).2⟩
  by_cases e : j = k
  · subst e
    rw [World.cell?_setCell_same w _ _ (h j hj).1]; simp
  · rw [World.cell?_setCell_other w _ _ _ (by intro e'; exact e (congrArg Addr.off e').symm), (h j hj).1]; simp [e]
theorem RowAt.later {w w' : World} {G n : Nat} {f : Nat → Value} (h : RowAt w G n f) (b : Below w.heap.size w w') : RowAt w' G n f := by
  intro j hj
  have hl := World.block_lt_of_cell? w _ (h j hj).1
  exact ⟨by rw [b.cell hl]; exact (h j hj).1, by rw [b.frozen hl]; exact (h j hj).2⟩
theorem RowAt.congr {w : World} {G n : Nat} {f g : Nat → Value} (h : RowAt w G n f) (e : ∀ j, j < n → f j = g j) : RowAt w G n g := by
  intro j hj
  rw [← e j hj]; exact h j hj
theorem RowAt.made (w : World) (z : Array Value) (n : Nat) (t : TypeId) : RowAt (w.alloc (.cells (madeCells z n) t)) w.heap.size n (fun j => z[j % z.size]!) := by
  intro j hj
  refine ⟨?_, World.frozen?_alloc_at _ _ _ _ rfl⟩
  rw [World.cell?_alloc_at _ _ _ _ rfl]
  simp [madeCells, hj]

theorem info_int : (Try.prog.info? 3).map (fun i => (i.zero, i.size, i.bytes)) = some (some (.int .i64 0), 1, 8) := by kernel_rfl

theorem RowAt.ints {w : World} {G len : Nat} {xs : List Int} (h : RowAt w G len (fun j => .int .i64 (xs.getD j 0))) (hs : xs.length = len) (hl : len ≤ 1048576) (hf : ∀ j, -9223372036854775808 ≤ xs.getD j 0 ∧ xs.getD j 0 ≤ 9223372036854775807) {D : Nat → Prop} (hd : D G) :
    IntsAt D w (some ⟨G, 0, none⟩) len xs :=
  ⟨hs, by omega, .inr ⟨G, 0, rfl, hd, fun j hj => by rw [Nat.zero_add]; exact (h j hj).1⟩, hf⟩

theorem getD_ext (xs ys : List Int) (hl : xs.length = ys.length) (h : ∀ j, j < xs.length → xs.getD j 0 = ys.getD j 0) : xs = ys := by
  apply List.ext_getElem hl
  intro i h1 h2
  have := h i h1
  rwa [List.getD_eq_getElem?_getD, List.getD_eq_getElem?_getD, List.getElem?_eq_getElem h1, List.getElem?_eq_getElem h2, Option.getD_some, Option.getD_some] at this

/-- What is left of so many. -/
def leftOf (l : Int) (n : Nat) : Int := if l < n then -1 else l - n
end Go.Proofs.Ytjeabgkcmfjjlaa
