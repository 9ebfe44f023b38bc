/-
  The program's questions on a method are the specification's.
-/
import Derived.Test.YthdlccadcadopaaGreatUniF
namespace Go.Proofs.YthdlccadcadopaaGreat
open Go.ChangeShapes Go.WideShapes Go.ChangeAt Go.RowKit

theorem cod1 (L : List Cl) (M : List Me) (lo : Int) (n : Nat) (x y : Int) : codK L M lo n (1, x, y) = insB L M lo n (1, x, y) := by
  have e0 : wantOk 1 = true := by decide
  have e1 : wantA 1 = 1 := by decide
  have e2 : wantB 1 = 0 := by decide
  rw [Bool.eq_iff_iff]
  simp [codK, insB, opdB, inI, e0, e1, e2] <;> omega
theorem cod2 (L : List Cl) (M : List Me) (lo : Int) (n : Nat) (x y : Int) : codK L M lo n (2, x, y) = insB L M lo n (2, x, y) := by
  have e0 : wantOk 2 = true := by decide
  have e1 : wantA 2 = 0 := by decide
  have e2 : wantB 2 = 0 := by decide
  rw [Bool.eq_iff_iff]
  simp [codK, insB, opdB, e0, e1, e2] <;> omega
theorem cod3 (L : List Cl) (M : List Me) (lo : Int) (n : Nat) (x y : Int) : codK L M lo n (3, x, y) = insB L M lo n (3, x, y) := by
  have e0 : wantOk 3 = true := by decide
  have e1 : wantA 3 = 2 := by decide
  have e2 : wantB 3 = 0 := by decide
  rw [Bool.eq_iff_iff]
  simp [codK, insB, opdB, plB, inI, e0, e1, e2] <;> omega
theorem cod4 (L : List Cl) (M : List Me) (lo : Int) (n : Nat) (x y : Int) : codK L M lo n (4, x, y) = insB L M lo n (4, x, y) := by
  have e0 : wantOk 4 = true := by decide
  have e1 : wantA 4 = 2 := by decide
  have e2 : wantB 4 = 0 := by decide
  rw [Bool.eq_iff_iff]
  simp [codK, insB, opdB, plB, inI, e0, e1, e2] <;> omega
theorem cod5 (L : List Cl) (M : List Me) (lo : Int) (n : Nat) (x y : Int) : codK L M lo n (5, x, y) = insB L M lo n (5, x, y) := by
  have e0 : wantOk 5 = true := by decide
  have e1 : wantA 5 = 0 := by decide
  have e2 : wantB 5 = 0 := by decide
  rw [Bool.eq_iff_iff]
  simp [codK, insB, opdB, e0, e1, e2] <;> omega
theorem cod6 (L : List Cl) (M : List Me) (lo : Int) (n : Nat) (x y : Int) : codK L M lo n (6, x, y) = insB L M lo n (6, x, y) := by
  have e0 : wantOk 6 = true := by decide
  have e1 : wantA 6 = 0 := by decide
  have e2 : wantB 6 = 0 := by decide
  rw [Bool.eq_iff_iff]
  simp [codK, insB, opdB, e0, e1, e2] <;> omega
theorem cod7 (L : List Cl) (M : List Me) (lo : Int) (n : Nat) (x y : Int) : codK L M lo n (7, x, y) = insB L M lo n (7, x, y) := by
  have e0 : wantOk 7 = true := by decide
  have e1 : wantA 7 = 3 := by decide
  have e2 : wantB 7 = 0 := by decide
  rw [Bool.eq_iff_iff]
  simp [codK, insB, opdB, inI, e0, e1, e2] <;> omega
theorem cod8 (L : List Cl) (M : List Me) (lo : Int) (n : Nat) (x y : Int) : codK L M lo n (8, x, y) = insB L M lo n (8, x, y) := by
  have e0 : wantOk 8 = true := by decide
  have e1 : wantA 8 = 4 := by decide
  have e2 : wantB 8 = 0 := by decide
  rw [Bool.eq_iff_iff]
  simp [codK, insB, opdB, plB, inI, e0, e1, e2] <;> omega
theorem cod9 (L : List Cl) (M : List Me) (lo : Int) (n : Nat) (x y : Int) : codK L M lo n (9, x, y) = insB L M lo n (9, x, y) := by
  have e0 : wantOk 9 = true := by decide
  have e1 : wantA 9 = 4 := by decide
  have e2 : wantB 9 = 0 := by decide
  rw [Bool.eq_iff_iff]
  simp [codK, insB, opdB, plB, inI, e0, e1, e2] <;> omega
theorem cod10 (L : List Cl) (M : List Me) (lo : Int) (n : Nat) (x y : Int) : codK L M lo n (10, x, y) = insB L M lo n (10, x, y) := by
  have e0 : wantOk 10 = true := by decide
  have e1 : wantA 10 = 4 := by decide
  have e2 : wantB 10 = 0 := by decide
  rw [Bool.eq_iff_iff]
  simp [codK, insB, opdB, plB, inI, e0, e1, e2] <;> omega
theorem cod11 (L : List Cl) (M : List Me) (lo : Int) (n : Nat) (x y : Int) : codK L M lo n (11, x, y) = insB L M lo n (11, x, y) := by
  have e0 : wantOk 11 = true := by decide
  have e1 : wantA 11 = 4 := by decide
  have e2 : wantB 11 = 0 := by decide
  rw [Bool.eq_iff_iff]
  simp [codK, insB, opdB, plB, inI, e0, e1, e2] <;> omega
theorem cod12 (L : List Cl) (M : List Me) (lo : Int) (n : Nat) (x y : Int) : codK L M lo n (12, x, y) = insB L M lo n (12, x, y) := by
  have e0 : wantOk 12 = true := by decide
  have e1 : wantA 12 = 5 := by decide
  have e2 : wantB 12 = 0 := by decide
  rw [Bool.eq_iff_iff]
  simp [codK, insB, opdB, plB, inI, e0, e1, e2] <;> omega
theorem cod13 (L : List Cl) (M : List Me) (lo : Int) (n : Nat) (x y : Int) : codK L M lo n (13, x, y) = insB L M lo n (13, x, y) := by
  have e0 : wantOk 13 = true := by decide
  have e1 : wantA 13 = 6 := by decide
  have e2 : wantB 13 = 0 := by decide
  rw [Bool.eq_iff_iff]
  simp [codK, insB, opdB, inI, e0, e1, e2] <;> omega
theorem cod14 (L : List Cl) (M : List Me) (lo : Int) (n : Nat) (x y : Int) : codK L M lo n (14, x, y) = insB L M lo n (14, x, y) := by
  have e0 : wantOk 14 = true := by decide
  have e1 : wantA 14 = 0 := by decide
  have e2 : wantB 14 = 0 := by decide
  rw [Bool.eq_iff_iff]
  simp [codK, insB, opdB, e0, e1, e2] <;> omega
theorem cod15 (L : List Cl) (M : List Me) (lo : Int) (n : Nat) (x y : Int) : codK L M lo n (15, x, y) = insB L M lo n (15, x, y) := by
  have e0 : wantOk 15 = true := by decide
  have e1 : wantA 15 = 6 := by decide
  have e2 : wantB 15 = 0 := by decide
  rw [Bool.eq_iff_iff]
  simp [codK, insB, opdB, inI, e0, e1, e2] <;> omega
theorem cod16 (L : List Cl) (M : List Me) (lo : Int) (n : Nat) (x y : Int) : codK L M lo n (16, x, y) = insB L M lo n (16, x, y) := by
  have e0 : wantOk 16 = true := by decide
  have e1 : wantA 16 = 6 := by decide
  have e2 : wantB 16 = 0 := by decide
  rw [Bool.eq_iff_iff]
  simp [codK, insB, opdB, inI, e0, e1, e2] <;> omega
theorem cod17 (L : List Cl) (M : List Me) (lo : Int) (n : Nat) (x y : Int) : codK L M lo n (17, x, y) = insB L M lo n (17, x, y) := by
  have e0 : wantOk 17 = true := by decide
  have e1 : wantA 17 = 5 := by decide
  have e2 : wantB 17 = 7 := by decide
  rw [Bool.eq_iff_iff]
  simp [codK, insB, opdB, plB, inI, e0, e1, e2] <;> omega
theorem cod18 (L : List Cl) (M : List Me) (lo : Int) (n : Nat) (x y : Int) : codK L M lo n (18, x, y) = insB L M lo n (18, x, y) := by
  have e0 : wantOk 18 = true := by decide
  have e1 : wantA 18 = 5 := by decide
  have e2 : wantB 18 = 7 := by decide
  rw [Bool.eq_iff_iff]
  simp [codK, insB, opdB, plB, inI, e0, e1, e2] <;> omega
theorem cod19 (L : List Cl) (M : List Me) (lo : Int) (n : Nat) (x y : Int) : codK L M lo n (19, x, y) = insB L M lo n (19, x, y) := by
  have e0 : wantOk 19 = true := by decide
  have e1 : wantA 19 = 5 := by decide
  have e2 : wantB 19 = 0 := by decide
  rw [Bool.eq_iff_iff]
  simp [codK, insB, opdB, plB, inI, e0, e1, e2] <;> omega
theorem cod20 (L : List Cl) (M : List Me) (lo : Int) (n : Nat) (x y : Int) : codK L M lo n (20, x, y) = insB L M lo n (20, x, y) := by
  have e0 : wantOk 20 = true := by decide
  have e1 : wantA 20 = 8 := by decide
  have e2 : wantB 20 = 0 := by decide
  rw [Bool.eq_iff_iff]
  simp [codK, insB, opdB, plB, inI, e0, e1, e2] <;> omega
theorem cod21 (L : List Cl) (M : List Me) (lo : Int) (n : Nat) (x y : Int) : codK L M lo n (21, x, y) = insB L M lo n (21, x, y) := by
  have e0 : wantOk 21 = true := by decide
  have e1 : wantA 21 = 5 := by decide
  have e2 : wantB 21 = 9 := by decide
  rw [Bool.eq_iff_iff]
  simp [codK, insB, opdB, plB, inI, e0, e1, e2] <;> omega
theorem cod22 (L : List Cl) (M : List Me) (lo : Int) (n : Nat) (x y : Int) : codK L M lo n (22, x, y) = insB L M lo n (22, x, y) := by
  have e0 : wantOk 22 = true := by decide
  have e1 : wantA 22 = 0 := by decide
  have e2 : wantB 22 = 0 := by decide
  rw [Bool.eq_iff_iff]
  simp [codK, insB, opdB, e0, e1, e2] <;> omega
theorem cod23 (L : List Cl) (M : List Me) (lo : Int) (n : Nat) (x y : Int) : codK L M lo n (23, x, y) = insB L M lo n (23, x, y) := by
  have e0 : wantOk 23 = true := by decide
  have e1 : wantA 23 = 0 := by decide
  have e2 : wantB 23 = 0 := by decide
  rw [Bool.eq_iff_iff]
  simp [codK, insB, opdB, e0, e1, e2] <;> omega
theorem cod24 (L : List Cl) (M : List Me) (lo : Int) (n : Nat) (x y : Int) : codK L M lo n (24, x, y) = insB L M lo n (24, x, y) := by
  have e0 : wantOk 24 = true := by decide
  have e1 : wantA 24 = 0 := by decide
  have e2 : wantB 24 = 0 := by decide
  rw [Bool.eq_iff_iff]
  simp [codK, insB, opdB, e0, e1, e2] <;> omega
theorem cod_no (L : List Cl) (M : List Me) (lo : Int) (n : Nat) (k x y : Int) (h : ¬ (1 ≤ k ∧ k ≤ 24)) : codK L M lo n (k, x, y) = insB L M lo n (k, x, y) := by
  have e0 : wantOk k = false := by unfold wantOk; simp; omega
  have e1 : insB L M lo n (k, x, y) = false := by
    unfold insB
    simp only
    rw [if_neg (by omega), if_neg (by omega), if_neg (by omega), if_neg (by omega), if_neg (by omega), if_neg (by omega), if_neg (by omega), if_neg (by omega), if_neg (by omega), if_neg (by omega)]
  rw [e1, codK, e0]; rfl
theorem cod_ins (L : List Cl) (M : List Me) (lo : Int) (n : Nat) (x : In) : codK L M lo n x = insB L M lo n x := by
  obtain ⟨k, a, b⟩ := x
  by_cases h : 1 ≤ k ∧ k ≤ 24
  · have hk : k = 1 ∨ k = 2 ∨ k = 3 ∨ k = 4 ∨ k = 5 ∨ k = 6 ∨ k = 7 ∨ k = 8 ∨ k = 9 ∨ k = 10 ∨ k = 11 ∨ k = 12 ∨ k = 13 ∨ k = 14 ∨ k = 15 ∨ k = 16 ∨ k = 17 ∨ k = 18 ∨ k = 19 ∨ k = 20 ∨ k = 21 ∨ k = 22 ∨ k = 23 ∨ k = 24 := by omega
    rcases hk with rfl | rfl | rfl | rfl | rfl | rfl | rfl | rfl | rfl | rfl | rfl | rfl | rfl | rfl | rfl | rfl | rfl | rfl | rfl | rfl | rfl | rfl | rfl | rfl
    · exact cod1 L M lo n a b
    · exact cod2 L M lo n a b
    · exact cod3 L M lo n a b
    · exact cod4 L M lo n a b
    · exact cod5 L M lo n a b
    · exact cod6 L M lo n a b
    · exact cod7 L M lo n a b
    · exact cod8 L M lo n a b
    · exact cod9 L M lo n a b
    · exact cod10 L M lo n a b
    · exact cod11 L M lo n a b
    · exact cod12 L M lo n a b
    · exact cod13 L M lo n a b
    · exact cod14 L M lo n a b
    · exact cod15 L M lo n a b
    · exact cod16 L M lo n a b
    · exact cod17 L M lo n a b
    · exact cod18 L M lo n a b
    · exact cod19 L M lo n a b
    · exact cod20 L M lo n a b
    · exact cod21 L M lo n a b
    · exact cod22 L M lo n a b
    · exact cod23 L M lo n a b
    · exact cod24 L M lo n a b
  · exact cod_no L M lo n k a b h
theorem cat_K {L : List Cl} (dl : Nat) (x : Ca) : catK' L dl x = catB L dl x := by
  obtain ⟨f, t, a, k⟩ := x
  unfold catK' catK catB
  simp only
  rw [← Bool.and_assoc]
  congr 1
  rw [Bool.eq_iff_iff]
  simp [inI]
  omega

theorem head_K (n : Nat) (c s o lo : Int) (args : List Int) (X : List In) (Y : List Sh) (Z : List Ca) : ((owB n c s && tysB n args o) && locK c lo args.length) = hdB n (c, s, args, o, lo, X, Y, Z) := by
  unfold owB tysB locK hdB
  simp only
  cases args.all (fieldB n) <;> cases fieldB n o <;> simp only [Bool.and_false, Bool.false_and, Bool.and_true, Bool.true_and]
  by_cases h : c = -1
  · subst h
    rw [Bool.eq_iff_iff]
    simp [givN, selfN, inI]
    omega
  · rw [if_neg h, Bool.eq_iff_iff]
    unfold givN selfN inI
    rw [if_neg h]
    by_cases h0 : 0 ≤ c
    · rw [if_pos h0, if_pos h0]
      simp
      omega
    · rw [if_neg h0, if_neg h0]
      simp
      omega
theorem all_both (p q : Nat → Bool) (n : Nat) : (List.range n).all (fun i => p i && q i) = ((List.range n).all p && (List.range n).all q) := by
  induction n with
  | zero => rfl
  | succ n ih =>
    rw [range_more, range_more, range_more, ih]
    cases (List.range n).all p <;> cases (List.range n).all q <;> cases p n <;> cases q n <;> rfl
theorem meth_K {L : List Cl} (ok : clsOk L = true) (M : List Me) (m : Me) : methK L M m = methB L M m := by
  obtain ⟨c, s, args, o, lo, X, Y, Z⟩ := m
  unfold methK methB
  simp only
  rw [head_K _ c s o lo args X Y Z]
  have e1 : (fun i => codK L M lo X.length (ins X i)) = fun i => insB L M lo X.length (ins X i) := funext fun i => cod_ins ..
  have e2 : (fun i => catK' L X.length (cat Z i)) = fun i => catB L X.length (cat Z i) := funext fun i => cat_K ..
  have e3 : (fun i => shK L.length lo (shp Y i)) = fun i => shB L lo (shp Y i) := funext fun i => by rw [shB_K, ok]; rfl
  have e4 : (List.range X.length).all (codB L M lo X Y X.length) = ((List.range X.length).all (fun i => insB L M lo X.length (ins X i)) && (List.range X.length).all (fun i => shB L lo (shp Y i))) :=
    all_both (fun i => insB L M lo X.length (ins X i)) (fun i => shB L lo (shp Y i)) X.length
  have e5 : inI (X.length : Int) 1 12 = (decide (1 ≤ X.length) && decide (X.length ≤ 12)) := by
    unfold inI
    congr 1 <;> rw [decide_eq_decide] <;> omega
  rw [e1, e2, e3, e4, e5]
  by_cases h : Y.length = X.length
  · rw [h, decide_eq_true (rfl : X.length = X.length)]
    simp only [Bool.true_and, Bool.and_true]
    cases hdB L.length (c, s, args, o, lo, X, Y, Z) <;> cases (decide (1 ≤ X.length) && decide (X.length ≤ 12)) <;> cases (List.range X.length).all (fun i => insB L M lo X.length (ins X i)) <;> cases (List.range X.length).all (fun i => shB L lo (shp Y i)) <;> cases decide (Z.length ≤ 2) <;> cases (List.range Z.length).all (fun i => catB L X.length (cat Z i)) <;> rfl
  · rw [decide_eq_false h, decide_eq_false (fun e => h e.symm : ¬ X.length = Y.length)]
    simp

end Go.Proofs.YthdlccadcadopaaGreat
