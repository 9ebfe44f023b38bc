/-
  What is told ahead of a method's code is ok just where the specification says so, in whatever memory; it writes nothing that was there.
-/
import Derived.Test.YtkggmcbjpmhmcaaDoorCatSpec
import Derived.Deep.RegionHeld3
namespace Go.Proofs.YtkggmcbjpmhmcaaDoor
open Go.ChangeShapes Go.WideShapes Go.ChangeAt Go.RowKit

theorem fieldSame (a : Option Addr) (len cap : Nat) (t : Int) (r : Bool) (w : World) (hr : len ≤ 1000000000000000) (h : fieldB len t = r) :
    Calls Tryd.prog 72 #[.slice a len cap, .int .i64 t] w fun e w' => e = .returned (.bool r) ∧ w' = w := by
  subst h
  refine (fieldSpec a len cap t w hr).mono ?_
  rintro e w' ⟨he, hw⟩
  exact ⟨he, hw.symm⟩

/-- What is in two blocks that were laid, and in elder ones. -/
theorem cell_heap {x y : World} (h : x.heap = y.heap) (b o : Nat) : x.cell? ⟨b, o, none⟩ = y.cell? ⟨b, o, none⟩ := World.cell?_of_block (w := y) (by rw [h])
theorem two_first {w : World} {cs : Array Value} {t : TypeId} {q : Obj} {j : Nat} {v : Value} (hv : cs[j]? = some v) : ((w.alloc (.cells cs t)).alloc q).cell? ⟨w.heap.size, j, none⟩ = some v := by
  rw [World.cell?_alloc_past _ _ _ (by simp), World.cell?_alloc_at _ _ _ _ rfl]
  exact hv
theorem two_second {w : World} {cs : Array Value} {t : TypeId} {q : Obj} {j : Nat} {v : Value} (hv : cs[j]? = some v) : ((w.alloc q).alloc (.cells cs t)).cell? ⟨w.heap.size + 1, j, none⟩ = some v := by
  rw [World.cell?_alloc_at _ _ _ _ (by simp)]
  exact hv
theorem two_elder {w : World} {q r : Obj} {b j : Nat} {v : Value} (hv : w.cell? ⟨b, j, none⟩ = some v) : ((w.alloc q).alloc r).cell? ⟨b, j, none⟩ = some v := by
  have hb := World.block_lt_of_cell? w _ hv
  simp only at hb
  rw [World.cell?_alloc_past _ _ _ (by simp; omega), World.cell?_alloc_past _ _ _ hb]
  exact hv

end Go.Proofs.YtkggmcbjpmhmcaaDoor
