/-
  Small questions on numbers, of the specification and of the program: what they say; they write nothing.
-/
import Derived.Test.YtjbmcdekhhbiaaaGreatClsSpec
import Derived.Test.YtjbmcdekhhbiaaaGreatImplA
namespace Go.Proofs.YtjbmcdekhhbiaaaGreat
open Go.ChangeShapes Go.WideShapes Go.ChangeAt Go.RowKit

def inI (n lo hi : Int) : Bool := decide (lo ≤ n) && decide (n ≤ hi)
theorem inSpec' (n lo hi : Int) (r : Bool) (h : inI n lo hi = r) (w : World) : Calls Tryz.prog 61 #[.int .i64 n, .int .i64 lo, .int .i64 hi] w fun e w' => e = .returned (.bool r) ∧ w = w' := by
  subst h
  exact inSpec n lo hi w
theorem wordSpec (n : Int) (r : Bool) (h : inI n (-128) 127 = r) (w : World) : Calls Tryz.prog 49 #[.int .i64 n] w fun e w' => e = .returned (.bool r) ∧ w = w' := by
  go_enter Tryz.func49, Tryz.ntmps49
  go_wp2_with (go_at_call 61; refine (inSpec' _ _ _ _ h _).mono ?_; rintro e w' ⟨rfl, rfl⟩)
  go_ret
  exact ⟨rfl, rfl⟩

theorem wordImpl (n : Int) (w : World) : Calls Tryz.prog 84 #[.int .i64 n] w fun e w' => e = .returned (.bool (decide (-128 ≤ n) && decide (n ≤ 127))) ∧ w = w' := by
  by_cases h : -128 ≤ n
  · go_enter Tryz.func84, Tryz.ntmps84
    go_wp2
    go_ret
    exact ⟨by simp [h], rfl⟩
  · go_enter Tryz.func84, Tryz.ntmps84
    go_wp2
    go_ret
    exact ⟨by simp; omega, rfl⟩

def plB (n s : Int) : Bool := decide (0 ≤ n) && decide (n < s)
theorem placeImpl (n s : Int) (w : World) : Calls Tryz.prog 83 #[.int .i64 n, .int .i64 s] w fun e w' => e = .returned (.bool (decide (0 ≤ n) && decide (n < s))) ∧ w = w' := by
  by_cases h : 0 ≤ n
  · go_enter Tryz.func83, Tryz.ntmps83
    go_wp2
    go_ret
    exact ⟨by simp [h], rfl⟩
  · go_enter Tryz.func83, Tryz.ntmps83
    go_wp2
    go_ret
    exact ⟨by simp; omega, rfl⟩

theorem placeImpl' (n s : Int) (r : Bool) (h : plB n s = r) (w : World) : Calls Tryz.prog 83 #[.int .i64 n, .int .i64 s] w fun e w' => e = .returned (.bool r) ∧ w = w' := by
  subst h
  exact placeImpl n s w
theorem isAmongImpl (n lo hi : Int) (w : World) : Calls Tryz.prog 71 #[.int .i64 n, .int .i64 lo, .int .i64 hi] w fun e w' => e = .returned (.bool (inI n lo hi)) ∧ w = w' := by
  have HF : Hid (inI n lo hi = (decide (lo ≤ n) && decide (n ≤ hi))) := rfl
  by_cases h : lo ≤ n
  · go_enter Tryz.func71, Tryz.ntmps71
    go_wp2_with fail
    go_ret
    exact ⟨by rw [HF.out, decide_eq_true h]; rfl, rfl⟩
  · go_enter Tryz.func71, Tryz.ntmps71
    go_wp2_with fail
    go_ret
    exact ⟨by rw [HF.out, decide_eq_false (show ¬ lo ≤ n by omega)]; rfl, rfl⟩
theorem isArrayImpl (c : Int) (w : World) : Calls Tryz.prog 70 #[.int .i64 c] w fun e w' => e = .returned (.bool (c == -1 || c == -2)) ∧ w = w' := by
  by_cases h : c = -1
  · have h' : (c == -1) = true := by simp [h]
    go_enter Tryz.func70, Tryz.ntmps70
    go_wp2_with fail
    go_ret
    exact ⟨by rw [h']; rfl, rfl⟩
  · have h' : (c == -1) = false := by simp [h]
    go_enter Tryz.func70, Tryz.ntmps70
    go_wp2_with fail
    go_ret
    exact ⟨by rw [h']; rfl, rfl⟩
end Go.Proofs.YtjbmcdekhhbiaaaGreat
