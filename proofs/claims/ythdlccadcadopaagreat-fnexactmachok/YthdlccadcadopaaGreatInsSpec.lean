/-
  Whether an instruction is ok: what is said of it, and that the specification says so, in whatever memory; it writes nothing that was there.
-/
import Derived.Test.YthdlccadcadopaaGreatShpSpec
import Derived.Test.YthdlccadcadopaaGreatAppE
namespace Go.Proofs.YthdlccadcadopaaGreat
open Go.ChangeShapes Go.WideShapes Go.ChangeAt Go.RowKit

def inI (n lo hi : Int) : Bool := decide (lo ≤ n) && decide (n ≤ hi)
theorem inSpec' (n lo hi : Int) (r : Bool) (h : inI n lo hi = r) (w : World) : Calls Tryz.prog 44 #[.int .i64 n, .int .i64 lo, .int .i64 hi] w fun e w' => e = .returned (.bool r) ∧ w = w' := by
  subst h
  exact inSpec n lo hi w
theorem wordSpec (n : Int) (r : Bool) (h : inI n (-128) 127 = r) (w : World) : Calls Tryz.prog 48 #[.int .i64 n] w fun e w' => e = .returned (.bool r) ∧ w = w' := by
  go_enter Tryz.func48, Tryz.ntmps48
  go_wp2_with (go_at_call 44; refine (inSpec' _ _ _ _ h _).mono ?_; rintro e w' ⟨rfl, rfl⟩)
  go_ret
  exact ⟨rfl, rfl⟩

/-- The method at a place; an instruction, in a method of so many locals and instructions, among classes and methods. -/
def me (M : List Me) (i : Nat) : Me := M.getD i (0, 0, [], 0, 0, [], [], [])
def insB (L : List Cl) (M : List Me) (lo : Int) (n : Nat) (x : In) : Bool :=
  if x.1 = 1 then inI x.2.1 (-128) 127 && (x.2.2 == 0) else
  if x.1 = 2 ∨ x.1 = 5 ∨ x.1 = 6 ∨ x.1 = 14 ∨ x.1 = 22 ∨ x.1 = 23 ∨ x.1 = 24 then (x.2.1 == 0) && (x.2.2 == 0) else
  if x.1 = 3 ∨ x.1 = 4 then inI x.2.1 0 (lo - 1) && (x.2.2 == 0) else
  if x.1 = 7 then inI x.2.1 1 4 && (x.2.2 == 0) else
  if x.1 = 8 ∨ x.1 = 9 ∨ x.1 = 10 ∨ x.1 = 11 then inI x.2.1 0 ((n : Int) - 1) && (x.2.2 == 0) else
  if x.1 = 12 ∨ x.1 = 19 then inI x.2.1 0 ((L.length : Int) - 1) && (x.2.2 == 0) else
  if x.1 = 13 ∨ x.1 = 15 ∨ x.1 = 16 then inI x.2.1 0 1 && (x.2.2 == 0) else
  if x.1 = 17 ∨ x.1 = 18 then inI x.2.1 0 ((L.length : Int) - 1) && inI x.2.2 0 (((fld L x.2.1.toNat).length : Int) - 1) else
  if x.1 = 20 then (inI x.2.1 0 ((M.length : Int) - 1) && (x.2.2 == 0)) && ((me M x.2.1.toNat).1 == -1) else
  if x.1 = 21 then inI x.2.1 0 ((L.length : Int) - 1) && inI x.2.2 0 2 else false

set_option maxHeartbeats 8000000 in
theorem insSpecA (ca : Option Addr) (cn cc : Nat) (ma : Option Addr) (mn mc : Nat) (c s o lo : Int) (aa : Option Addr) (al ac : Nat) (da : Option Addr) (dl dc : Nat) (sa : Option Addr) (sl sc : Nat) (ha : Option Addr) (hl hc : Nat) (k a b : Int)
    (L : List Cl) (M : List Me) (w : World) {D E G : Nat → Prop} (h : ClsAt D E w ca cn L) (ok : clsOk L = true) (hM : SlAt meR G w ma mn M) (lo0 : 0 ≤ lo) (lo3 : lo ≤ 3) (dl0 : dl ≤ 1000000000000) (hkk : k = 1 ∨ k = 2 ∨ k = 5 ∨ k = 6 ∨ k = 14 ∨ k = 22 ∨ k = 23 ∨ k = 24 ∨ k = 3 ∨ k = 4 ∨ k = 7 ∨ k = 8 ∨ k = 9 ∨ k = 10 ∨ k = 11 ∨ k = 12 ∨ k = 19 ∨ k = 13 ∨ k = 15 ∨ k = 16) :
    Calls Tryz.prog 106 #[.agg #[.slice ca cn cc, .slice ma mn mc], .agg #[.int .i64 c, .int .i64 s, .slice aa al ac, .int .i64 o, .int .i64 lo, .slice da dl dc, .slice sa sl sc, .slice ha hl hc], .agg #[.int .i64 k, .int .i64 a, .int .i64 b]] w
      fun e w' => e = .returned (.bool (insB L M lo dl (k, a, b))) ∧ Below w.heap.size w w' := by
  have H : Hid (ClsAt D E w ca cn L) := h
  have OK : Hid (clsOk L = true) := ok
  have HS : Hid (L.length = cn) := h.size
  have hl5 := (ok_len ok).2
  rw [h.size] at hl5
  have HMS : Hid (M.length = mn) := hM.size
  have hmr := hM.room
  have HM : Hid (SlAt meR G w ma mn M) := hM
  clear h ok hM

  by_cases hk1 : k = 1
  · subst hk1
    have HF : Hid (insB L M lo dl (1, a, b) = ((inI a (-128) 127) && (b == 0))) := by show _ = _; simp only [insB, HS.out]; rfl
    cases hA : inI a (-128) 127
    all_goals
      go_enter Tryz.func106, Tryz.ntmps106
      go_wp2_with fail
      refine (inSpec' _ _ _ _ rfl _).mono ?_
      rintro e w' ⟨rfl, rfl⟩
      go_wp2_with fail
      refine (wordSpec _ _ hA _).mono ?_
      rintro e w' ⟨rfl, rfl⟩
      go_wp2_with fail
      go_ret
      exact ⟨by rw [HF.out, hA]; rfl, by go_grown⟩
  by_cases hk2 : k = 2
  · subst hk2
    have HF : Hid (insB L M lo dl (2, a, b) = ((a == 0) && (b == 0))) := by show _ = _; simp only [insB, HS.out]; rfl
    cases hA : (a == 0)
    all_goals
      go_enter Tryz.func106, Tryz.ntmps106
      go_wp2_with fail
      refine (inSpec' _ _ _ _ rfl _).mono ?_
      rintro e w' ⟨rfl, rfl⟩
      go_wp2_with fail
      go_ret
      exact ⟨by rw [HF.out, hA]; rfl, by go_grown⟩
  by_cases hk5 : k = 5
  · subst hk5
    have HF : Hid (insB L M lo dl (5, a, b) = ((a == 0) && (b == 0))) := by show _ = _; simp only [insB, HS.out]; rfl
    cases hA : (a == 0)
    all_goals
      go_enter Tryz.func106, Tryz.ntmps106
      go_wp2_with fail
      refine (inSpec' _ _ _ _ rfl _).mono ?_
      rintro e w' ⟨rfl, rfl⟩
      go_wp2_with fail
      go_ret
      exact ⟨by rw [HF.out, hA]; rfl, by go_grown⟩
  by_cases hk6 : k = 6
  · subst hk6
    have HF : Hid (insB L M lo dl (6, a, b) = ((a == 0) && (b == 0))) := by show _ = _; simp only [insB, HS.out]; rfl
    cases hA : (a == 0)
    all_goals
      go_enter Tryz.func106, Tryz.ntmps106
      go_wp2_with fail
      refine (inSpec' _ _ _ _ rfl _).mono ?_
      rintro e w' ⟨rfl, rfl⟩
      go_wp2_with fail
      go_ret
      exact ⟨by rw [HF.out, hA]; rfl, by go_grown⟩
  by_cases hk14 : k = 14
  · subst hk14
    have HF : Hid (insB L M lo dl (14, a, b) = ((a == 0) && (b == 0))) := by show _ = _; simp only [insB, HS.out]; rfl
    cases hA : (a == 0)
    all_goals
      go_enter Tryz.func106, Tryz.ntmps106
      go_wp2_with fail
      refine (inSpec' _ _ _ _ rfl _).mono ?_
      rintro e w' ⟨rfl, rfl⟩
      go_wp2_with fail
      go_ret
      exact ⟨by rw [HF.out, hA]; rfl, by go_grown⟩
  by_cases hk22 : k = 22
  · subst hk22
    have HF : Hid (insB L M lo dl (22, a, b) = ((a == 0) && (b == 0))) := by show _ = _; simp only [insB, HS.out]; rfl
    cases hA : (a == 0)
    all_goals
      go_enter Tryz.func106, Tryz.ntmps106
      go_wp2_with fail
      refine (inSpec' _ _ _ _ rfl _).mono ?_
      rintro e w' ⟨rfl, rfl⟩
      go_wp2_with fail
      go_ret
      exact ⟨by rw [HF.out, hA]; rfl, by go_grown⟩
  by_cases hk23 : k = 23
  · subst hk23
    have HF : Hid (insB L M lo dl (23, a, b) = ((a == 0) && (b == 0))) := by show _ = _; simp only [insB, HS.out]; rfl
    cases hA : (a == 0)
    all_goals
      go_enter Tryz.func106, Tryz.ntmps106
      go_wp2_with fail
      refine (inSpec' _ _ _ _ rfl _).mono ?_
      rintro e w' ⟨rfl, rfl⟩
      go_wp2_with fail
      go_ret
      exact ⟨by rw [HF.out, hA]; rfl, by go_grown⟩
  by_cases hk24 : k = 24
  · subst hk24
    have HF : Hid (insB L M lo dl (24, a, b) = ((a == 0) && (b == 0))) := by show _ = _; simp only [insB, HS.out]; rfl
    cases hA : (a == 0)
    all_goals
      go_enter Tryz.func106, Tryz.ntmps106
      go_wp2_with fail
      refine (inSpec' _ _ _ _ rfl _).mono ?_
      rintro e w' ⟨rfl, rfl⟩
      go_wp2_with fail
      go_ret
      exact ⟨by rw [HF.out, hA]; rfl, by go_grown⟩
  by_cases hk3 : k = 3
  · subst hk3
    have HF : Hid (insB L M lo dl (3, a, b) = ((inI a 0 (lo - 1)) && (b == 0))) := by show _ = _; simp only [insB, HS.out]; rfl
    cases hA : inI a 0 (lo - 1)
    all_goals
      go_enter Tryz.func106, Tryz.ntmps106
      go_wp2_with fail
      refine (inSpec' _ _ _ _ rfl _).mono ?_
      rintro e w' ⟨rfl, rfl⟩
      go_wp2_with fail
      refine (inSpec' _ _ _ _ hA _).mono ?_
      rintro e w' ⟨rfl, rfl⟩
      go_wp2_with fail
      go_ret
      exact ⟨by rw [HF.out, hA]; rfl, by go_grown⟩
  by_cases hk4 : k = 4
  · subst hk4
    have HF : Hid (insB L M lo dl (4, a, b) = ((inI a 0 (lo - 1)) && (b == 0))) := by show _ = _; simp only [insB, HS.out]; rfl
    cases hA : inI a 0 (lo - 1)
    all_goals
      go_enter Tryz.func106, Tryz.ntmps106
      go_wp2_with fail
      refine (inSpec' _ _ _ _ rfl _).mono ?_
      rintro e w' ⟨rfl, rfl⟩
      go_wp2_with fail
      refine (inSpec' _ _ _ _ hA _).mono ?_
      rintro e w' ⟨rfl, rfl⟩
      go_wp2_with fail
      go_ret
      exact ⟨by rw [HF.out, hA]; rfl, by go_grown⟩
  by_cases hk7 : k = 7
  · subst hk7
    have HF : Hid (insB L M lo dl (7, a, b) = ((inI a 1 4) && (b == 0))) := by show _ = _; simp only [insB, HS.out]; rfl
    cases hA : inI a 1 4
    all_goals
      go_enter Tryz.func106, Tryz.ntmps106
      go_wp2_with fail
      refine (inSpec' _ _ _ _ rfl _).mono ?_
      rintro e w' ⟨rfl, rfl⟩
      go_wp2_with fail
      refine (inSpec' _ _ _ _ hA _).mono ?_
      rintro e w' ⟨rfl, rfl⟩
      go_wp2_with fail
      go_ret
      exact ⟨by rw [HF.out, hA]; rfl, by go_grown⟩
  by_cases hk8 : k = 8
  · subst hk8
    have HF : Hid (insB L M lo dl (8, a, b) = ((inI a 0 ((dl : Int) - 1)) && (b == 0))) := by show _ = _; simp only [insB, HS.out]; rfl
    cases hA : inI a 0 ((dl : Int) - 1)
    all_goals
      go_enter Tryz.func106, Tryz.ntmps106
      go_wp2_with fail
      refine (inSpec' _ _ _ _ rfl _).mono ?_
      rintro e w' ⟨rfl, rfl⟩
      go_wp2_with fail
      refine (inSpec' _ _ _ _ hA _).mono ?_
      rintro e w' ⟨rfl, rfl⟩
      go_wp2_with fail
      go_ret
      exact ⟨by rw [HF.out, hA]; rfl, by go_grown⟩
  by_cases hk9 : k = 9
  · subst hk9
    have HF : Hid (insB L M lo dl (9, a, b) = ((inI a 0 ((dl : Int) - 1)) && (b == 0))) := by show _ = _; simp only [insB, HS.out]; rfl
    cases hA : inI a 0 ((dl : Int) - 1)
    all_goals
      go_enter Tryz.func106, Tryz.ntmps106
      go_wp2_with fail
      refine (inSpec' _ _ _ _ rfl _).mono ?_
      rintro e w' ⟨rfl, rfl⟩
      go_wp2_with fail
      refine (inSpec' _ _ _ _ hA _).mono ?_
      rintro e w' ⟨rfl, rfl⟩
      go_wp2_with fail
      go_ret
      exact ⟨by rw [HF.out, hA]; rfl, by go_grown⟩
  by_cases hk10 : k = 10
  · subst hk10
    have HF : Hid (insB L M lo dl (10, a, b) = ((inI a 0 ((dl : Int) - 1)) && (b == 0))) := by show _ = _; simp only [insB, HS.out]; rfl
    cases hA : inI a 0 ((dl : Int) - 1)
    all_goals
      go_enter Tryz.func106, Tryz.ntmps106
      go_wp2_with fail
      refine (inSpec' _ _ _ _ rfl _).mono ?_
      rintro e w' ⟨rfl, rfl⟩
      go_wp2_with fail
      refine (inSpec' _ _ _ _ hA _).mono ?_
      rintro e w' ⟨rfl, rfl⟩
      go_wp2_with fail
      go_ret
      exact ⟨by rw [HF.out, hA]; rfl, by go_grown⟩
  by_cases hk11 : k = 11
  · subst hk11
    have HF : Hid (insB L M lo dl (11, a, b) = ((inI a 0 ((dl : Int) - 1)) && (b == 0))) := by show _ = _; simp only [insB, HS.out]; rfl
    cases hA : inI a 0 ((dl : Int) - 1)
    all_goals
      go_enter Tryz.func106, Tryz.ntmps106
      go_wp2_with fail
      refine (inSpec' _ _ _ _ rfl _).mono ?_
      rintro e w' ⟨rfl, rfl⟩
      go_wp2_with fail
      refine (inSpec' _ _ _ _ hA _).mono ?_
      rintro e w' ⟨rfl, rfl⟩
      go_wp2_with fail
      go_ret
      exact ⟨by rw [HF.out, hA]; rfl, by go_grown⟩
  by_cases hk12 : k = 12
  · subst hk12
    have HF : Hid (insB L M lo dl (12, a, b) = ((inI a 0 ((cn : Int) - 1)) && (b == 0))) := by show _ = _; simp only [insB, HS.out]; rfl
    cases hC : inI a 0 ((cn : Int) - 1)
    all_goals
      go_enter Tryz.func106, Tryz.ntmps106
      go_wp2_with fail
      refine (inSpec' _ _ _ _ hC _).mono ?_
      rintro e w' ⟨rfl, rfl⟩
      go_wp2_with fail
      go_ret
      exact ⟨by rw [HF.out, hC]; rfl, by go_grown⟩
  by_cases hk19 : k = 19
  · subst hk19
    have HF : Hid (insB L M lo dl (19, a, b) = ((inI a 0 ((cn : Int) - 1)) && (b == 0))) := by show _ = _; simp only [insB, HS.out]; rfl
    cases hC : inI a 0 ((cn : Int) - 1)
    all_goals
      go_enter Tryz.func106, Tryz.ntmps106
      go_wp2_with fail
      refine (inSpec' _ _ _ _ hC _).mono ?_
      rintro e w' ⟨rfl, rfl⟩
      go_wp2_with fail
      go_ret
      exact ⟨by rw [HF.out, hC]; rfl, by go_grown⟩
  by_cases hk13 : k = 13
  · subst hk13
    have HF : Hid (insB L M lo dl (13, a, b) = ((inI a 0 1) && (b == 0))) := by show _ = _; simp only [insB, HS.out]; rfl
    cases hA : inI a 0 1
    all_goals
      go_enter Tryz.func106, Tryz.ntmps106
      go_wp2_with fail
      refine (inSpec' _ _ _ _ rfl _).mono ?_
      rintro e w' ⟨rfl, rfl⟩
      go_wp2_with fail
      refine (inSpec' _ _ _ _ hA _).mono ?_
      rintro e w' ⟨rfl, rfl⟩
      go_wp2_with fail
      go_ret
      exact ⟨by rw [HF.out, hA]; rfl, by go_grown⟩
  by_cases hk15 : k = 15
  · subst hk15
    have HF : Hid (insB L M lo dl (15, a, b) = ((inI a 0 1) && (b == 0))) := by show _ = _; simp only [insB, HS.out]; rfl
    cases hA : inI a 0 1
    all_goals
      go_enter Tryz.func106, Tryz.ntmps106
      go_wp2_with fail
      refine (inSpec' _ _ _ _ rfl _).mono ?_
      rintro e w' ⟨rfl, rfl⟩
      go_wp2_with fail
      refine (inSpec' _ _ _ _ hA _).mono ?_
      rintro e w' ⟨rfl, rfl⟩
      go_wp2_with fail
      go_ret
      exact ⟨by rw [HF.out, hA]; rfl, by go_grown⟩
  by_cases hk16 : k = 16
  · subst hk16
    have HF : Hid (insB L M lo dl (16, a, b) = ((inI a 0 1) && (b == 0))) := by show _ = _; simp only [insB, HS.out]; rfl
    cases hA : inI a 0 1
    all_goals
      go_enter Tryz.func106, Tryz.ntmps106
      go_wp2_with fail
      refine (inSpec' _ _ _ _ rfl _).mono ?_
      rintro e w' ⟨rfl, rfl⟩
      go_wp2_with fail
      refine (inSpec' _ _ _ _ hA _).mono ?_
      rintro e w' ⟨rfl, rfl⟩
      go_wp2_with fail
      go_ret
      exact ⟨by rw [HF.out, hA]; rfl, by go_grown⟩
  exact absurd hkk (by omega)

end Go.Proofs.YthdlccadcadopaaGreat
