/-
  The specification's functions on classes and types give what is said of the list of classes, in whatever memory; they write nothing that was there.
-/
import Derived.Test.YtjeabgkcmfjjlaaCls
import Derived.Handy
namespace Go.Proofs.Ytjeabgkcmfjjlaa
open Go.ChangeShapes Go.WideShapes Go.ChangeAt Go.RowKit

theorem inSpec (n lo hi : Int) (w : World) : Calls Try.prog 15 #[.int .i64 n, .int .i64 lo, .int .i64 hi] w fun e w' => e = .returned (.bool (decide (lo ≤ n) && decide (n ≤ hi))) ∧ w = w' := by
  by_cases h : lo ≤ n
  · go_enter Try.func15, Try.ntmps15
    go_wp2
    go_ret
    exact ⟨by simp [h], rfl⟩
  · go_enter Try.func15, Try.ntmps15
    go_wp2
    go_ret
    exact ⟨by simp; omega, rfl⟩

theorem all_take (l : List Int) (p : Int → Bool) (k : Nat) (h : k < l.length) : (l.take (k + 1)).all p = ((l.take k).all p && p (l.getD k 0)) := by
  rw [List.take_succ_eq_append_getElem h, List.all_append, List.getD_eq_getElem?_getD, List.getElem?_eq_getElem h]
  simp
theorem all_false (l : List Int) (p : Int → Bool) (k : Nat) (h : k < l.length) (hp : p (l.getD k 0) = false) : l.all p = false := by
  rw [List.getD_eq_getElem?_getD, List.getElem?_eq_getElem h] at hp
  rw [List.all_eq_false]
  exact ⟨l[k], List.getElem_mem h, by simpa using hp⟩
theorem decAnd (p q : Prop) [Decidable p] [Decidable q] : decide (p ∧ q) = (decide p && decide q) := Bool.decide_and p q
theorem beqCast (m y : Nat) : ((m : Int) == (y : Int)) = (m == y) := by
  rw [Bool.eq_iff_iff]
  simp
  omega

theorem range_snoc (p : Nat → Bool) (k : Nat) : (List.range (k + 1)).all p = ((List.range k).all p && p k) := by
  rw [List.range_succ, List.all_append]; simp

end Go.Proofs.Ytjeabgkcmfjjlaa
