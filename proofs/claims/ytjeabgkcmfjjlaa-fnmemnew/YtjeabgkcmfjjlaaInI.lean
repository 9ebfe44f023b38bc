/-
  Small questions on numbers, of the specification and of the program: what they say; they write nothing.
-/
import Derived.Test.YtjeabgkcmfjjlaaClsSpec
import Derived.Test.YtjeabgkcmfjjlaaImplA
namespace Go.Proofs.Ytjeabgkcmfjjlaa
open Go.ChangeShapes Go.WideShapes Go.ChangeAt Go.RowKit

def inI (n lo hi : Int) : Bool := decide (lo ≤ n) && decide (n ≤ hi)
theorem inSpec' (n lo hi : Int) (r : Bool) (h : inI n lo hi = r) (w : World) : Calls Try.prog 15 #[.int .i64 n, .int .i64 lo, .int .i64 hi] w fun e w' => e = .returned (.bool r) ∧ w = w' := by
  subst h
  exact inSpec n lo hi w
theorem wordImpl (n : Int) (w : World) : Calls Try.prog 60 #[.int .i64 n] w fun e w' => e = .returned (.bool (decide (-128 ≤ n) && decide (n ≤ 127))) ∧ w = w' := by
  by_cases h : -128 ≤ n
  · go_enter Try.func60, Try.ntmps60
    go_wp2
    go_ret
    exact ⟨by simp [h], rfl⟩
  · go_enter Try.func60, Try.ntmps60
    go_wp2
    go_ret
    exact ⟨by simp; omega, rfl⟩

def plB (n s : Int) : Bool := decide (0 ≤ n) && decide (n < s)
theorem isAmongImpl (n lo hi : Int) (w : World) : Calls Try.prog 20 #[.int .i64 n, .int .i64 lo, .int .i64 hi] w fun e w' => e = .returned (.bool (inI n lo hi)) ∧ w = w' := by
  have HF : Hid (inI n lo hi = (decide (lo ≤ n) && decide (n ≤ hi))) := rfl
  by_cases h : lo ≤ n
  · go_enter Try.func20, Try.ntmps20
    go_wp2_with fail
    go_ret
    exact ⟨by rw [HF.out, decide_eq_true h]; rfl, rfl⟩
  · go_enter Try.func20, Try.ntmps20
    go_wp2_with fail
    go_ret
    exact ⟨by rw [HF.out, decide_eq_false (show ¬ lo ≤ n by omega)]; rfl, rfl⟩
theorem isArrayImpl (c : Int) (w : World) : Calls Try.prog 50 #[.int .i64 c] w fun e w' => e = .returned (.bool (c == -1 || c == -2)) ∧ w = w' := by
  by_cases h : c = -1
  · have h' : (c == -1) = true := by simp [h]
    go_enter Try.func50, Try.ntmps50
    go_wp2_with fail
    go_ret
    exact ⟨by rw [h']; rfl, rfl⟩
  · have h' : (c == -1) = false := by simp [h]
    go_enter Try.func50, Try.ntmps50
    go_wp2_with fail
    go_ret
    exact ⟨by rw [h']; rfl, rfl⟩
end Go.Proofs.Ytjeabgkcmfjjlaa
