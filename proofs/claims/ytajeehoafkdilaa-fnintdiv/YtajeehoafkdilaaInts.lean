/-
  IntWrap and IntDo, of the program and of the specification, give at every number the word and the answer that 'wd', 'doV' and 'doB' say: contracts of the functions that the laws on words call.
-/
import Derived.Test.YtajeehoafkdilaaRows
import Derived.WalkKit
import Derived.ProofKit
import Derived.OpenShut
import Derived.Below
import Derived.Handy
namespace Go.Proofs.Ytajeehoafkdilaa
open Go.ChangeShapes Go.WideShapes Go.ChangeAt Go.RowKit

/-- The word that a number is. -/
def wd (n : Int) : Int := (n + 128) % 256 - 128

theorem wd_lo (n : Int) : -128 ≤ wd n := by unfold wd; omega
theorem wd_hi (n : Int) : wd n ≤ 127 := by unfold wd; omega
theorem wd_word (n : Int) (h0 : -128 ≤ n) (h1 : n ≤ 127) : wd n = n := by unfold wd; omega
theorem i8wrap (n : Int) : IntKind.i8.wrap n = wd n := by
  unfold wd
  simp only [IntKind.wrap, IntKind.bits, IntKind.signed, Bool.true_and, decide_eq_true_eq, ge_iff_le]
  split <;> omega
theorem wrap64_small (n : Int) (h0 : -9223372036854775808 ≤ n) (h1 : n ≤ 9223372036854775807) : wrap64 n = n := by unfold wrap64; omega
theorem ret_int {k : IntKind} {a b : Int} (h : a = b) : Ending.returned (.int k a) = .returned (.int k b) := by rw [h]

theorem wrapImpl (n : Int) (w : World) : Calls Try.prog 9 #[.int .i64 n] w fun e w' => e = .returned (.int .i64 (wd n)) ∧ w' = w := by
  go_enter Try.func9, Try.ntmps9
  go_wp2
  go_ret
  exact ⟨ret_int (by rw [i8wrap, wrap64_small _ (by have := wd_lo n; omega) (by have := wd_hi n; omega)]), rfl⟩

theorem tmod_two (n : Int) : (0 ≤ n ∧ n.tmod 256 = n % 256) ∨ (n < 0 ∧ n.tmod 256 = -((-n) % 256)) := by
  by_cases h : 0 ≤ n
  · exact .inl ⟨h, Int.tmod_eq_emod_of_nonneg h⟩
  · refine .inr ⟨by omega, ?_⟩
    have e : n.tmod 256 = -((-n).tmod 256) := by rw [Int.neg_tmod, Int.neg_neg]
    rw [e, Int.tmod_eq_emod_of_nonneg (by omega)]
theorem tmod_lo (n : Int) (h : n.tmod 256 < -128) : wrap64 (n.tmod 256 + 256) = wd n := by
  have := tmod_two n
  rw [wrap64_small _ (by omega) (by omega)]
  unfold wd
  omega
theorem tmod_mid (n : Int) (h : -128 ≤ n.tmod 256) (h' : n.tmod 256 ≤ 127) : n.tmod 256 = wd n := by
  have := tmod_two n
  unfold wd
  omega
theorem tmod_hi (n : Int) (h : 127 < n.tmod 256) : wrap64 (n.tmod 256 - 256) = wd n := by
  have := tmod_two n
  rw [wrap64_small _ (by omega) (by omega)]
  unfold wd
  omega

theorem wrapSpec (n : Int) (w : World) : Calls Try.prog 10 #[.int .i64 n] w fun e w' => e = .returned (.int .i64 (wd n)) ∧ w' = w := by
  go_enter Try.func10, Try.ntmps10
  go_wp2
  all_goals (go_ret; refine ⟨ret_int ?_, rfl⟩)
  · exact tmod_lo n ‹_›
  · exact tmod_hi n ‹_›
  · exact tmod_mid n ‹_› ‹_›

theorem inSpec (n lo hi : Int) (w : World) : Calls Try.prog 23 #[.int .i64 n, .int .i64 lo, .int .i64 hi] w fun e w' => e = .returned (.bool (decide (lo ≤ n ∧ n ≤ hi))) ∧ w' = w := by
  by_cases h : lo ≤ n
  · by_cases h' : n ≤ hi
    · go_enter Try.func23, Try.ntmps23
      go_wp2
      go_ret
      exact ⟨by simp [h, h'], rfl⟩
    · go_enter Try.func23, Try.ntmps23
      go_wp2
      go_ret
      exact ⟨by simp; omega, rfl⟩
  · go_enter Try.func23, Try.ntmps23
    go_wp2
    go_ret
    exact ⟨by simp; omega, rfl⟩

theorem isWordSpec (n : Int) (w : World) : Calls Try.prog 22 #[.int .i64 n] w fun e w' => e = .returned (.bool (decide (-128 ≤ n ∧ n ≤ 127))) ∧ w' = w := by
  go_enter Try.func22, Try.ntmps22
  go_wp2_with (go_at_call 23; refine (inSpec _ _ _ _).mono ?_; rintro e w' ⟨rfl, rfl⟩)
  go_ret
  exact ⟨by simp, rfl⟩

theorem isWordImpl (n : Int) (w : World) : Calls Try.prog 17 #[.int .i64 n] w fun e w' => e = .returned (.bool (decide (-128 ≤ n ∧ n ≤ 127))) ∧ w' = w := by
  by_cases h : -128 ≤ n
  · by_cases h' : n ≤ 127
    · go_enter Try.func17, Try.ntmps17
      go_wp2
      go_ret
      exact ⟨by simp [h, h'], rfl⟩
    · go_enter Try.func17, Try.ntmps17
      go_wp2
      go_ret
      exact ⟨by simp; omega, rfl⟩
  · go_enter Try.func17, Try.ntmps17
    go_wp2
    go_ret
    exact ⟨by simp; omega, rfl⟩

theorem store_fn {P : Program} {w : World} {a : Addr} {m : Mode} (fn : Fn) (first captured : Array Value) : (store a (.func fn first captured) m).run P w = stored P w a (.func fn first captured) m := run_store P w a _ m rfl
attribute [local go_sem] store_fn

/-- Whether a number is a word; what an operation with two numbers gives; whether it can be done. -/
def isW (n : Int) : Bool := decide (-128 ≤ n ∧ n ≤ 127)
def doV (op a b : Int) : Int :=
  if isW a && isW b then (if op = 1 then wd (a + b) else if op = 2 then wd (a - b) else if op = 3 then wd (a * b) else if op = 4 ∧ b ≠ 0 then wd (a.tdiv b) else 0) else 0
def doB (op a b : Int) : Bool := isW a && isW b && (op == 1 || op == 2 || op == 3 || (op == 4 && b != 0))
theorem isW_yes {n : Int} (h0 : -128 ≤ n) (h1 : n ≤ 127) : isW n = true := by simp [isW, h0, h1]
theorem isW_no {n : Int} (h : ¬ (-128 ≤ n ∧ n ≤ 127)) : isW n = false := by unfold isW; exact decide_eq_false h

theorem mul_lo (a b : Int) (ha : -128 ≤ a) (ha' : a ≤ 127) (hb : -128 ≤ b) (hb' : b ≤ 127) : -16384 ≤ a * b ∧ a * b ≤ 16384 := by
  have h := Int.natAbs_mul a b
  have h1 : a.natAbs ≤ 128 := by omega
  have h2 : b.natAbs ≤ 128 := by omega
  have h3 : a.natAbs * b.natAbs ≤ 128 * 128 := Nat.mul_le_mul h1 h2
  omega
theorem tdiv_lo (a b : Int) (ha : -128 ≤ a) (ha' : a ≤ 127) : -128 ≤ a.tdiv b ∧ a.tdiv b ≤ 128 := by
  have h := Int.natAbs_tdiv a b
  have h1 : a.natAbs.div b.natAbs ≤ a.natAbs := Nat.div_le_self _ _
  rw [← h] at h1
  omega

theorem addImpl (a b : Int) (w : World) (ha : -128 ≤ a) (ha' : a ≤ 127) (hb : -128 ≤ b) (hb' : b ≤ 127) :
    Calls Try.prog 18 #[.int .i64 a, .int .i64 b] w fun e w' => e = .returned (.tuple #[.int .i64 (a + b), .bool true]) ∧ w' = w := by
  go_enter Try.func18, Try.ntmps18
  go_wp2
  go_ret2
  exact ⟨rfl, rfl⟩
theorem subImpl (a b : Int) (w : World) (ha : -128 ≤ a) (ha' : a ≤ 127) (hb : -128 ≤ b) (hb' : b ≤ 127) :
    Calls Try.prog 19 #[.int .i64 a, .int .i64 b] w fun e w' => e = .returned (.tuple #[.int .i64 (a - b), .bool true]) ∧ w' = w := by
  go_enter Try.func19, Try.ntmps19
  go_wp2
  go_ret2
  exact ⟨rfl, rfl⟩
theorem mulImpl (a b : Int) (w : World) (ha : -128 ≤ a) (ha' : a ≤ 127) (hb : -128 ≤ b) (hb' : b ≤ 127) :
    Calls Try.prog 20 #[.int .i64 a, .int .i64 b] w fun e w' => e = .returned (.tuple #[.int .i64 (a * b), .bool true]) ∧ w' = w := by
  obtain ⟨m0, m1⟩ := mul_lo a b ha ha' hb hb'
  go_enter Try.func20, Try.ntmps20
  go_wp2
  go_ret2
  exact ⟨rfl, rfl⟩
theorem divImpl0 (a : Int) (w : World) :
    Calls Try.prog 21 #[.int .i64 a, .int .i64 0] w fun e w' => e = .returned (.tuple #[.int .i64 0, .bool false]) ∧ w' = w := by
  go_enter Try.func21, Try.ntmps21
  go_wp2
  go_ret2
  exact ⟨rfl, rfl⟩
theorem divImpl (a b : Int) (w : World) (ha : -128 ≤ a) (ha' : a ≤ 127) (hb0 : (b == 0) = false) (hb1 : ¬ b = 0) :
    Calls Try.prog 21 #[.int .i64 a, .int .i64 b] w fun e w' => e = .returned (.tuple #[.int .i64 (a.tdiv b), .bool true]) ∧ w' = w := by
  obtain ⟨m0, m1⟩ := tdiv_lo a b ha ha'
  go_enter Try.func21, Try.ntmps21
  go_wp2
  go_ret2
  exact ⟨rfl, rfl⟩

theorem doImpl1 (a b : Int) (w : World) (ha : -128 ≤ a) (ha' : a ≤ 127) (hb : -128 ≤ b) (hb' : b ≤ 127) :
    Calls Try.prog 12 #[.int .i64 1, .int .i64 a, .int .i64 b] w fun e w' => e = .returned (.tuple #[.int .i64 (wd (a + b)), .bool true]) ∧ Grown w w' ∧ Below w.heap.size w w' := by
  have ea : decide (-128 ≤ a ∧ a ≤ 127) = true := by simp [ha, ha']
  have eb : decide (-128 ≤ b ∧ b ≤ 127) = true := by simp [hb, hb']
  go_enter Try.func12, Try.ntmps12
  go_wp2_with (first | (go_at_call 17; refine (isWordImpl _ _).mono ?_; rintro e w' ⟨rfl, rfl⟩) | (go_at_call 9; refine (wrapImpl _ _).mono ?_; rintro e w' ⟨rfl, rfl⟩) | (go_at_call 18; refine (addImpl _ _ _ ha ha' hb hb').mono ?_; rintro e w' ⟨rfl, rfl⟩))
  go_ret2
  exact ⟨rfl, by go_grown, by go_grown⟩
theorem doImpl2 (a b : Int) (w : World) (ha : -128 ≤ a) (ha' : a ≤ 127) (hb : -128 ≤ b) (hb' : b ≤ 127) :
    Calls Try.prog 12 #[.int .i64 2, .int .i64 a, .int .i64 b] w fun e w' => e = .returned (.tuple #[.int .i64 (wd (a - b)), .bool true]) ∧ Grown w w' ∧ Below w.heap.size w w' := by
  have ea : decide (-128 ≤ a ∧ a ≤ 127) = true := by simp [ha, ha']
  have eb : decide (-128 ≤ b ∧ b ≤ 127) = true := by simp [hb, hb']
  go_enter Try.func12, Try.ntmps12
  go_wp2_with (first | (go_at_call 17; refine (isWordImpl _ _).mono ?_; rintro e w' ⟨rfl, rfl⟩) | (go_at_call 9; refine (wrapImpl _ _).mono ?_; rintro e w' ⟨rfl, rfl⟩) | (go_at_call 19; refine (subImpl _ _ _ ha ha' hb hb').mono ?_; rintro e w' ⟨rfl, rfl⟩))
  go_ret2
  exact ⟨rfl, by go_grown, by go_grown⟩
theorem doImpl3 (a b : Int) (w : World) (ha : -128 ≤ a) (ha' : a ≤ 127) (hb : -128 ≤ b) (hb' : b ≤ 127) :
    Calls Try.prog 12 #[.int .i64 3, .int .i64 a, .int .i64 b] w fun e w' => e = .returned (.tuple #[.int .i64 (wd (a * b)), .bool true]) ∧ Grown w w' ∧ Below w.heap.size w w' := by
  have ea : decide (-128 ≤ a ∧ a ≤ 127) = true := by simp [ha, ha']
  have eb : decide (-128 ≤ b ∧ b ≤ 127) = true := by simp [hb, hb']
  go_enter Try.func12, Try.ntmps12
  go_wp2_with (first | (go_at_call 17; refine (isWordImpl _ _).mono ?_; rintro e w' ⟨rfl, rfl⟩) | (go_at_call 9; refine (wrapImpl _ _).mono ?_; rintro e w' ⟨rfl, rfl⟩) | (go_at_call 20; refine (mulImpl _ _ _ ha ha' hb hb').mono ?_; rintro e w' ⟨rfl, rfl⟩))
  go_ret2
  exact ⟨rfl, by go_grown, by go_grown⟩
theorem doImpl4 (a b : Int) (w : World) (ha : -128 ≤ a) (ha' : a ≤ 127) (hb : -128 ≤ b) (hb' : b ≤ 127) (hb0 : (b == 0) = false) (hb1 : ¬ b = 0) :
    Calls Try.prog 12 #[.int .i64 4, .int .i64 a, .int .i64 b] w fun e w' => e = .returned (.tuple #[.int .i64 (wd (a.tdiv b)), .bool true]) ∧ Grown w w' ∧ Below w.heap.size w w' := by
  have ea : decide (-128 ≤ a ∧ a ≤ 127) = true := by simp [ha, ha']
  have eb : decide (-128 ≤ b ∧ b ≤ 127) = true := by simp [hb, hb']
  go_enter Try.func12, Try.ntmps12
  go_wp2_with (first | (go_at_call 17; refine (isWordImpl _ _).mono ?_; rintro e w' ⟨rfl, rfl⟩) | (go_at_call 9; refine (wrapImpl _ _).mono ?_; rintro e w' ⟨rfl, rfl⟩) | (go_at_call 21; refine (divImpl _ _ _ ha ha' hb0 hb1).mono ?_; rintro e w' ⟨rfl, rfl⟩))
  go_ret2
  exact ⟨rfl, by go_grown, by go_grown⟩
theorem doImpl0 (a : Int) (w : World) (ha : -128 ≤ a) (ha' : a ≤ 127) :
    Calls Try.prog 12 #[.int .i64 4, .int .i64 a, .int .i64 0] w fun e w' => e = .returned (.tuple #[.int .i64 (wd 0), .bool false]) ∧ Grown w w' ∧ Below w.heap.size w w' := by
  have ea : decide (-128 ≤ a ∧ a ≤ 127) = true := by simp [ha, ha']
  have eb : decide (-128 ≤ (0 : Int) ∧ (0 : Int) ≤ 127) = true := by simp
  go_enter Try.func12, Try.ntmps12
  go_wp2_with (first | (go_at_call 17; refine (isWordImpl _ _).mono ?_; rintro e w' ⟨rfl, rfl⟩) | (go_at_call 9; refine (wrapImpl _ _).mono ?_; rintro e w' ⟨rfl, rfl⟩) | (go_at_call 21; refine (divImpl0 _ _).mono ?_; rintro e w' ⟨rfl, rfl⟩))
  go_ret2
  exact ⟨rfl, by go_grown, by go_grown⟩
theorem doImplLess (op a b : Int) (w : World) (h : op < 1) :
    Calls Try.prog 12 #[.int .i64 op, .int .i64 a, .int .i64 b] w fun e w' => e = .returned (.tuple #[.int .i64 0, .bool false]) ∧ Grown w w' ∧ Below w.heap.size w w' := by
  go_enter Try.func12, Try.ntmps12
  go_wp2_with (first | (go_at_call 17; refine (isWordImpl _ _).mono ?_; rintro e w' ⟨rfl, rfl⟩) | (go_at_call 9; refine (wrapImpl _ _).mono ?_; rintro e w' ⟨rfl, rfl⟩))
  go_ret2
  exact ⟨rfl, by go_grown, by go_grown⟩
theorem doImplMore (op a b : Int) (w : World) (h : 4 < op) :
    Calls Try.prog 12 #[.int .i64 op, .int .i64 a, .int .i64 b] w fun e w' => e = .returned (.tuple #[.int .i64 0, .bool false]) ∧ Grown w w' ∧ Below w.heap.size w w' := by
  go_enter Try.func12, Try.ntmps12
  go_wp2_with (first | (go_at_call 17; refine (isWordImpl _ _).mono ?_; rintro e w' ⟨rfl, rfl⟩) | (go_at_call 9; refine (wrapImpl _ _).mono ?_; rintro e w' ⟨rfl, rfl⟩))
  go_ret2
  exact ⟨rfl, by go_grown, by go_grown⟩
theorem doImplA (op a b : Int) (w : World) (h : 1 ≤ op) (h' : op ≤ 4) (ea : decide (-128 ≤ a ∧ a ≤ 127) = false) :
    Calls Try.prog 12 #[.int .i64 op, .int .i64 a, .int .i64 b] w fun e w' => e = .returned (.tuple #[.int .i64 0, .bool false]) ∧ Grown w w' ∧ Below w.heap.size w w' := by
  go_enter Try.func12, Try.ntmps12
  go_wp2_with (first | (go_at_call 17; refine (isWordImpl _ _).mono ?_; rintro e w' ⟨rfl, rfl⟩) | (go_at_call 9; refine (wrapImpl _ _).mono ?_; rintro e w' ⟨rfl, rfl⟩))
  go_ret2
  exact ⟨rfl, by go_grown, by go_grown⟩
theorem doImplB (op a b : Int) (w : World) (h : 1 ≤ op) (h' : op ≤ 4) (ea : decide (-128 ≤ a ∧ a ≤ 127) = true) (eb : decide (-128 ≤ b ∧ b ≤ 127) = false) :
    Calls Try.prog 12 #[.int .i64 op, .int .i64 a, .int .i64 b] w fun e w' => e = .returned (.tuple #[.int .i64 0, .bool false]) ∧ Grown w w' ∧ Below w.heap.size w w' := by
  go_enter Try.func12, Try.ntmps12
  go_wp2_with (first | (go_at_call 17; refine (isWordImpl _ _).mono ?_; rintro e w' ⟨rfl, rfl⟩) | (go_at_call 9; refine (wrapImpl _ _).mono ?_; rintro e w' ⟨rfl, rfl⟩))
  go_ret2
  exact ⟨rfl, by go_grown, by go_grown⟩
theorem doSpec1 (a b : Int) (w : World) (ha : -128 ≤ a) (ha' : a ≤ 127) (hb : -128 ≤ b) (hb' : b ≤ 127) :
    Calls Try.prog 13 #[.int .i64 1, .int .i64 a, .int .i64 b] w fun e w' => e = .returned (.tuple #[.int .i64 (wd (a + b)), .bool true]) ∧ w' = w := by
  have ea : decide (-128 ≤ a ∧ a ≤ 127) = true := by simp [ha, ha']
  have eb : decide (-128 ≤ b ∧ b ≤ 127) = true := by simp [hb, hb']
  go_enter Try.func13, Try.ntmps13
  go_wp2_with (first | (go_at_call 22; refine (isWordSpec _ _).mono ?_; rintro e w' ⟨rfl, rfl⟩) | (go_at_call 10; refine (wrapSpec _ _).mono ?_; rintro e w' ⟨rfl, rfl⟩))
  go_ret2
  exact ⟨rfl, rfl⟩
theorem doSpec2 (a b : Int) (w : World) (ha : -128 ≤ a) (ha' : a ≤ 127) (hb : -128 ≤ b) (hb' : b ≤ 127) :
    Calls Try.prog 13 #[.int .i64 2, .int .i64 a, .int .i64 b] w fun e w' => e = .returned (.tuple #[.int .i64 (wd (a - b)), .bool true]) ∧ w' = w := by
  have ea : decide (-128 ≤ a ∧ a ≤ 127) = true := by simp [ha, ha']
  have eb : decide (-128 ≤ b ∧ b ≤ 127) = true := by simp [hb, hb']
  go_enter Try.func13, Try.ntmps13
  go_wp2_with (first | (go_at_call 22; refine (isWordSpec _ _).mono ?_; rintro e w' ⟨rfl, rfl⟩) | (go_at_call 10; refine (wrapSpec _ _).mono ?_; rintro e w' ⟨rfl, rfl⟩))
  go_ret2
  exact ⟨rfl, rfl⟩
theorem doSpec3 (a b : Int) (w : World) (ha : -128 ≤ a) (ha' : a ≤ 127) (hb : -128 ≤ b) (hb' : b ≤ 127) :
    Calls Try.prog 13 #[.int .i64 3, .int .i64 a, .int .i64 b] w fun e w' => e = .returned (.tuple #[.int .i64 (wd (a * b)), .bool true]) ∧ w' = w := by
  have ea : decide (-128 ≤ a ∧ a ≤ 127) = true := by simp [ha, ha']
  have eb : decide (-128 ≤ b ∧ b ≤ 127) = true := by simp [hb, hb']
  obtain ⟨m0, m1⟩ := mul_lo a b ha ha' hb hb'
  go_enter Try.func13, Try.ntmps13
  go_wp2_with (first | (go_at_call 22; refine (isWordSpec _ _).mono ?_; rintro e w' ⟨rfl, rfl⟩) | (go_at_call 10; refine (wrapSpec _ _).mono ?_; rintro e w' ⟨rfl, rfl⟩))
  go_ret2
  exact ⟨rfl, rfl⟩
theorem doSpec4 (a b : Int) (w : World) (ha : -128 ≤ a) (ha' : a ≤ 127) (hb : -128 ≤ b) (hb' : b ≤ 127) (hb1 : ¬ b = 0) :
    Calls Try.prog 13 #[.int .i64 4, .int .i64 a, .int .i64 b] w fun e w' => e = .returned (.tuple #[.int .i64 (wd (a.tdiv b)), .bool true]) ∧ w' = w := by
  have ea : decide (-128 ≤ a ∧ a ≤ 127) = true := by simp [ha, ha']
  have eb : decide (-128 ≤ b ∧ b ≤ 127) = true := by simp [hb, hb']
  obtain ⟨m0, m1⟩ := tdiv_lo a b ha ha'
  have hb2 : (b != 0) = true := by simp [hb1]
  go_enter Try.func13, Try.ntmps13
  go_wp2_with (first | (go_at_call 22; refine (isWordSpec _ _).mono ?_; rintro e w' ⟨rfl, rfl⟩) | (go_at_call 10; refine (wrapSpec _ _).mono ?_; rintro e w' ⟨rfl, rfl⟩))
  go_ret2
  exact ⟨rfl, rfl⟩
theorem doSpec0 (a : Int) (w : World) (ha : -128 ≤ a) (ha' : a ≤ 127) :
    Calls Try.prog 13 #[.int .i64 4, .int .i64 a, .int .i64 0] w fun e w' => e = .returned (.tuple #[.int .i64 (0), .bool false]) ∧ w' = w := by
  have ea : decide (-128 ≤ a ∧ a ≤ 127) = true := by simp [ha, ha']
  have eb : decide (-128 ≤ (0 : Int) ∧ (0 : Int) ≤ 127) = true := by simp
  go_enter Try.func13, Try.ntmps13
  go_wp2_with (first | (go_at_call 22; refine (isWordSpec _ _).mono ?_; rintro e w' ⟨rfl, rfl⟩) | (go_at_call 10; refine (wrapSpec _ _).mono ?_; rintro e w' ⟨rfl, rfl⟩))
  go_ret2
  exact ⟨rfl, rfl⟩
theorem doSpecA (op a b : Int) (w : World) (ea : decide (-128 ≤ a ∧ a ≤ 127) = false) :
    Calls Try.prog 13 #[.int .i64 op, .int .i64 a, .int .i64 b] w fun e w' => e = .returned (.tuple #[.int .i64 0, .bool false]) ∧ w' = w := by
  go_enter Try.func13, Try.ntmps13
  go_wp2_with (first | (go_at_call 22; refine (isWordSpec _ _).mono ?_; rintro e w' ⟨rfl, rfl⟩) | (go_at_call 10; refine (wrapSpec _ _).mono ?_; rintro e w' ⟨rfl, rfl⟩))
  go_ret2
  exact ⟨rfl, rfl⟩
theorem doSpecB (op a b : Int) (w : World) (ea : decide (-128 ≤ a ∧ a ≤ 127) = true) (eb : decide (-128 ≤ b ∧ b ≤ 127) = false) :
    Calls Try.prog 13 #[.int .i64 op, .int .i64 a, .int .i64 b] w fun e w' => e = .returned (.tuple #[.int .i64 0, .bool false]) ∧ w' = w := by
  go_enter Try.func13, Try.ntmps13
  go_wp2_with (first | (go_at_call 22; refine (isWordSpec _ _).mono ?_; rintro e w' ⟨rfl, rfl⟩) | (go_at_call 10; refine (wrapSpec _ _).mono ?_; rintro e w' ⟨rfl, rfl⟩))
  go_ret2
  exact ⟨rfl, rfl⟩
theorem doSpecO (op a b : Int) (w : World) (ea : decide (-128 ≤ a ∧ a ≤ 127) = true) (eb : decide (-128 ≤ b ∧ b ≤ 127) = true) (h1 : (op == 1) = false) (h2 : (op == 2) = false) (h3 : (op == 3) = false) (h4 : (op == 4) = false) :
    Calls Try.prog 13 #[.int .i64 op, .int .i64 a, .int .i64 b] w fun e w' => e = .returned (.tuple #[.int .i64 0, .bool false]) ∧ w' = w := by
  go_enter Try.func13, Try.ntmps13
  go_wp2_with (first | (go_at_call 22; refine (isWordSpec _ _).mono ?_; rintro e w' ⟨rfl, rfl⟩) | (go_at_call 10; refine (wrapSpec _ _).mono ?_; rintro e w' ⟨rfl, rfl⟩))
  go_ret2
  exact ⟨rfl, rfl⟩

/-- The two functions, each at every argument. -/
theorem doAny (op a b : Int) :
    (∃ _h : op < 1 ∨ 4 < op, doV op a b = 0 ∧ doB op a b = false) ∨ (1 ≤ op ∧ op ≤ 4) := by
  by_cases h : op < 1 ∨ 4 < op
  · refine .inl ⟨h, ?_, ?_⟩
    · unfold doV
      rw [if_neg (show ¬ op = 1 by omega), if_neg (show ¬ op = 2 by omega), if_neg (show ¬ op = 3 by omega), if_neg (show ¬ (op = 4 ∧ b ≠ 0) by omega)]
      simp
    · unfold doB
      simp [show ¬ op = 1 by omega, show ¬ op = 2 by omega, show ¬ op = 3 by omega, show ¬ op = 4 by omega]
  · exact .inr (by omega)
theorem doV_noA (op a b : Int) (h : ¬ (-128 ≤ a ∧ a ≤ 127)) : doV op a b = 0 ∧ doB op a b = false := by simp [doV, doB, isW_no h]
theorem doV_noB (op a b : Int) (h : ¬ (-128 ≤ b ∧ b ≤ 127)) : doV op a b = 0 ∧ doB op a b = false := by simp [doV, doB, isW_no h]
theorem doV_yes (a b : Int) (ha : -128 ≤ a) (ha' : a ≤ 127) (hb : -128 ≤ b) (hb' : b ≤ 127) :
    (doV 1 a b = wd (a + b) ∧ doB 1 a b = true) ∧ (doV 2 a b = wd (a - b) ∧ doB 2 a b = true) ∧ (doV 3 a b = wd (a * b) ∧ doB 3 a b = true) ∧ (b ≠ 0 → doV 4 a b = wd (a.tdiv b) ∧ doB 4 a b = true) ∧ (b = 0 → doV 4 a b = 0 ∧ doB 4 a b = false) := by
  have ea := isW_yes ha ha'
  have eb := isW_yes hb hb'
  refine ⟨by simp [doV, doB, ea, eb], by simp [doV, doB, ea, eb], by simp [doV, doB, ea, eb], fun h => by simp [doV, doB, ea, eb, h], fun h => by simp [doV, doB, ea, h]⟩

theorem doImpl (op a b : Int) (w : World) :
    Calls Try.prog 12 #[.int .i64 op, .int .i64 a, .int .i64 b] w fun e w' => e = .returned (.tuple #[.int .i64 (doV op a b), .bool (doB op a b)]) ∧ Grown w w' ∧ Below w.heap.size w w' := by
  rcases doAny op a b with ⟨h, h1, h2⟩ | ⟨h, h'⟩
  · rw [h1, h2]
    rcases h with h | h
    · exact doImplLess op a b w h
    · exact doImplMore op a b w h
  · by_cases ha : -128 ≤ a ∧ a ≤ 127
    · by_cases hb : -128 ≤ b ∧ b ≤ 127
      · obtain ⟨y1, y2, y3, y4, y5⟩ := doV_yes a b ha.1 ha.2 hb.1 hb.2
        rcases (show op = 1 ∨ op = 2 ∨ op = 3 ∨ op = 4 by omega) with rfl | rfl | rfl | rfl
        · rw [y1.1, y1.2]; exact doImpl1 a b w ha.1 ha.2 hb.1 hb.2
        · rw [y2.1, y2.2]; exact doImpl2 a b w ha.1 ha.2 hb.1 hb.2
        · rw [y3.1, y3.2]; exact doImpl3 a b w ha.1 ha.2 hb.1 hb.2
        · by_cases h0 : b = 0
          · rw [(y5 h0).1, (y5 h0).2]; subst h0; exact doImpl0 a w ha.1 ha.2
          · rw [(y4 h0).1, (y4 h0).2]; exact doImpl4 a b w ha.1 ha.2 hb.1 hb.2 (by simp [h0]) h0
      · rw [(doV_noB op a b hb).1, (doV_noB op a b hb).2]; exact doImplB op a b w h h' (decide_eq_true ha) (decide_eq_false hb)
    · rw [(doV_noA op a b ha).1, (doV_noA op a b ha).2]; exact doImplA op a b w h h' (decide_eq_false ha)

theorem doSpec (op a b : Int) (w : World) :
    Calls Try.prog 13 #[.int .i64 op, .int .i64 a, .int .i64 b] w fun e w' => e = .returned (.tuple #[.int .i64 (doV op a b), .bool (doB op a b)]) ∧ w' = w := by
  by_cases ha : -128 ≤ a ∧ a ≤ 127
  · by_cases hb : -128 ≤ b ∧ b ≤ 127
    · rcases doAny op a b with ⟨h, h1, h2⟩ | ⟨h, h'⟩
      · rw [h1, h2]
        exact doSpecO op a b w (decide_eq_true ha) (decide_eq_true hb) (by rw [beq_eq_false_iff_ne]; omega) (by rw [beq_eq_false_iff_ne]; omega) (by rw [beq_eq_false_iff_ne]; omega) (by rw [beq_eq_false_iff_ne]; omega)
      · obtain ⟨y1, y2, y3, y4, y5⟩ := doV_yes a b ha.1 ha.2 hb.1 hb.2
        rcases (show op = 1 ∨ op = 2 ∨ op = 3 ∨ op = 4 by omega) with rfl | rfl | rfl | rfl
        · rw [y1.1, y1.2]; exact doSpec1 a b w ha.1 ha.2 hb.1 hb.2
        · rw [y2.1, y2.2]; exact doSpec2 a b w ha.1 ha.2 hb.1 hb.2
        · rw [y3.1, y3.2]; exact doSpec3 a b w ha.1 ha.2 hb.1 hb.2
        · by_cases h0 : b = 0
          · rw [(y5 h0).1, (y5 h0).2]; subst h0; exact doSpec0 a w ha.1 ha.2
          · rw [(y4 h0).1, (y4 h0).2]; exact doSpec4 a b w ha.1 ha.2 hb.1 hb.2 h0
    · rw [(doV_noB op a b hb).1, (doV_noB op a b hb).2]; exact doSpecB op a b w (decide_eq_true ha) (decide_eq_false hb)
  · rw [(doV_noA op a b ha).1, (doV_noA op a b ha).2]; exact doSpecA op a b w (decide_eq_false ha)

end Go.Proofs.Ytajeehoafkdilaa
