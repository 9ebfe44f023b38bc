/-
  At every unit MachNew of the program answers as MachNew of the specification, changes no argument, and gives memory of its own, and the law FnExactMachNew returns true; no condition.
-/
import Derived.Test.YthdlccadcadopaaGreatMacQ
import Derived.Test.YthdlccadcadopaaGreatDtUnit
import Derived.Test.YthdlccadcadopaaGreatRdCls
import Derived.Deep.RegionHeld3
namespace Go.Proofs.YthdlccadcadopaaGreat.fnExactMachNew
open Go.ChangeShapes Go.WideShapes Go.ChangeAt Go.RowKit
set_option linter.unusedVariables false

theorem frozen_past (w : World) (b o : Nat) (h : w.heap.size ≤ b) : w.frozen? ⟨b, o, none⟩ = false := by
  simp [World.frozen?, Array.getElem?_eq_none h]
set_option maxRecDepth 100000 in
set_option maxHeartbeats 16000000 in
theorem walk (a0 : Option Addr) (l0 c0 : Nat) (a1 : Option Addr) (l1 c1 : Nat) (L : List Cl) (M : List Me) (w : World) {D : Nat → Prop} (h : SlAt clR D w a0 l0 L) (hM : SlAt meR D w a1 l1 M) :
    Calls Tryz.prog 3 #[.agg #[.slice a0 l0 c0, .slice a1 l1 c1]] w fun e w' => e = .returned (.bool true) ∧ Below w.heap.size w w' := by
  have H : Hid (SlAt clR D w a0 l0 L) := h
  have HM : Hid (SlAt meR D w a1 l1 M) := hM
  have B0 : Hid (Below w.heap.size w (w.alloc (.cells #[.slice a0 l0 c0, .slice a1 l1 c1] 25))) := (Below.refl _ _).alloc (Nat.le_refl _) _
  clear h hM
  go_enter Tryz.func3, Tryz.ntmps3
  go_wp2_with fail
  refine (szRUnit _ _ _ _ _ _ L M _ _ (H.out.later B0.out) (HM.out.later B0.out) (by omega) (by omega)).mono ?_
  rintro e w1 ⟨r, rfl, r0, r1, hsz, hb⟩
  have M0 : Hid (0 ≤ r → Rep.small unR (L, M)) := hsz
  have lA : w.heap.size < w1.heap.size := Nat.lt_of_lt_of_le (by simp) (Below.size hb)
  have XA : Hid (∀ y, Below w1.heap.size w1 y → y.heap[w.heap.size]? = some (.cells #[.slice a0 l0 c0, .slice a1 l1 c1] 25 (0, 0))) := fun y hy => (hy.block _ lA).trans ((Below.block hb _ (by simp)).trans (boxN _ _ _ _ rfl))
  have B : Hid (∀ y, Below w1.heap.size w1 y → Below w.heap.size w y) := fun y hy => (B0.out.trans (hb.mono B0.out.size)).trans (hy.mono (Nat.le_of_lt lA))
  clear hsz hb
  have kA0 : w1.cell? ⟨w.heap.size, 0, none⟩ = some (.slice a0 l0 c0) := (boxG (XA.out w1 (Below.refl _ _)) 0).1
  have kA1 : w1.cell? ⟨w.heap.size, 1, none⟩ = some (.slice a1 l1 c1) := (boxG (XA.out w1 (Below.refl _ _)) 1).1
  by_cases hr : r < 0
  · go_wp2_with fail
    go_ret
    exact ⟨rfl, B.out _ (Below.refl _ _)⟩
  have SL : Hid ((Rep.list clR).small L) := (M0.out (by omega)).1
  have SM : Hid ((Rep.list meR).small M) := (M0.out (by omega)).2
  go_wp2_with fail
  refine (toRUnit _ _ _ _ _ _ L M _ (H.out.later (B.out _ (Below.refl _ _))) SL.out (HM.out.later (B.out _ (Below.refl _ _))) SM.out).mono ?_
  rintro e w2 ⟨na0, nc0, na1, nc1, rfl, hU, hV, hb⟩
  replace XA : Hid (∀ y, Below w2.heap.size w2 y → y.heap[w.heap.size]? = some (.cells #[.slice a0 l0 c0, .slice a1 l1 c1] 25 (0, 0))) := fun y hy => XA.out y (hb.trans (hy.mono hb.size))
  replace B : Hid (∀ y, Below w2.heap.size w2 y → Below w.heap.size w y) := fun y hy => B.out y (hb.trans (hy.mono hb.size))
  replace lA : w.heap.size < w2.heap.size := Nat.lt_of_lt_of_le lA hb.size
  have U : Hid (SlAt clR _ w2 na0 l0 L) := hU
  have V : Hid (SlAt meR _ w2 na1 l1 M) := hV
  clear hU hV hb kA0 kA1 B0
  have kA0 : w2.cell? ⟨w.heap.size, 0, none⟩ = some (.slice a0 l0 c0) := (boxG (XA.out w2 (Below.refl _ _)) 0).1
  have kA1 : w2.cell? ⟨w.heap.size, 1, none⟩ = some (.slice a1 l1 c1) := (boxG (XA.out w2 (Below.refl _ _)) 1).1
  go_wp2_with fail
  clear kA0 kA1
  cases ok : unitB L M
  · have OK : Hid (unitB L M = false) := ok
    clear ok
    refine (machNewSpec _ _ _ _ _ _ L M _ U.out.cls V.out).mono ?_
    rintro e w3 hP
    obtain ⟨rfl, hb⟩ := (hP.resolve_right (fun h => by rw [OK.out] at h; cases h.1)).2
    have BP : Hid (Below w2.heap.size w2 w2) := Below.refl _ _
    have hq : Below w2.heap.size w2 w3 := BP.out.trans (Below.mono hb BP.out.size)
    replace B : Hid (∀ y, Below w3.heap.size w3 y → Below w.heap.size w y) := fun y hy => B.out y (hq.trans (hy.mono hq.size))
    replace XA : Hid (∀ y, Below w3.heap.size w3 y → y.heap[w.heap.size]? = some (.cells #[.slice a0 l0 c0, .slice a1 l1 c1] 25 (0, 0))) := fun y hy => XA.out y (hq.trans (hy.mono hq.size))
    replace lA : w.heap.size < w3.heap.size := Nat.lt_of_lt_of_le lA hq.size
    have zw3 : w2.heap.size ≤ w3.heap.size := hq.size
    clear hq BP
    have yA : w.heap.size < w3.heap.size := lA
    clear hb hP U V
    have kA0 : w3.cell? ⟨w.heap.size, 0, none⟩ = some (.slice a0 l0 c0) := (boxG (XA.out w3 (Below.refl _ _)) 0).1
    have kA1 : w3.cell? ⟨w.heap.size, 1, none⟩ = some (.slice a1 l1 c1) := (boxG (XA.out w3 (Below.refl _ _)) 1).1
    have BP : Hid (Below w3.heap.size w3 (w3.alloc (.cells #[.slice none 0 0, .slice none 0 0, .slice none 0 0, .int .i64 0, .int .i64 0, .bool false, .int .i64 0] 33))) := (Below.refl _ _).alloc (Nat.le_refl _) _
    go_wp2_with fail
    refine (toRUnitF _ _ _ _ _ _ L M _ (H.out.later (B.out _ BP.out)) SL.out (HM.out.later (B.out _ BP.out)) SM.out).mono ?_
    rintro e w4 ⟨⟨ka0, kc0, ka1, kc1, rfl, hU, hV, hb⟩, hfz⟩
    have hq : Below w3.heap.size w3 w4 := BP.out.trans (Below.mono hb BP.out.size)
    replace B : Hid (∀ y, Below w4.heap.size w4 y → Below w.heap.size w y) := fun y hy => B.out y (hq.trans (hy.mono hq.size))
    replace XA : Hid (∀ y, Below w4.heap.size w4 y → y.heap[w.heap.size]? = some (.cells #[.slice a0 l0 c0, .slice a1 l1 c1] 25 (0, 0))) := fun y hy => XA.out y (hq.trans (hy.mono hq.size))
    replace lA : w.heap.size < w4.heap.size := Nat.lt_of_lt_of_le lA hq.size
    have lW : w3.heap.size < w4.heap.size := Nat.lt_of_lt_of_le (by simp) (Below.size hb)
    have XW : Hid (∀ y, Below w4.heap.size w4 y → y.heap[w3.heap.size]? = some (.cells #[.slice none 0 0, .slice none 0 0, .slice none 0 0, .int .i64 0, .int .i64 0, .bool false, .int .i64 0] 33 (0, 0))) := fun y hy => (hy.block _ lW).trans ((Below.block hb _ (by simp)).trans (boxN _ _ _ _ rfl))
    have zw4 : w3.heap.size + 1 ≤ w4.heap.size := Nat.le_trans (Nat.le_of_eq (by simp)) (Below.size hb)
    clear hq BP
    clear kA0 kA1
    have T : Hid (∀ y, Below w4.heap.size w4 y → SlAt clR (fun b => w3.heap.size + 1 ≤ b ∧ b < w4.heap.size) y ka0 l0 L) := fun y hy => (hU.mono (fun b h1 h2 => ⟨by simpa using h1, h2⟩)).later hy
    have N : Hid (∀ y, Below w4.heap.size w4 y → SlAt meR (fun b => w3.heap.size + 1 ≤ b ∧ b < w4.heap.size) y ka1 l1 M) := fun y hy => (hV.mono (fun b h1 h2 => ⟨by simpa using h1, h2⟩)).later hy
    have FT : Hid (∀ y, Below w4.heap.size w4 y → Thw (fun b => w3.heap.size + 1 ≤ b ∧ b < w4.heap.size) y) := fun y hy b o hd => (hy.frozen (p := ⟨b, o, none⟩) hd.2).trans ((hfz _).trans (frozen_past _ _ _ (by simpa using hd.1)))
    clear hU hV hb hfz
    have kA0 : w4.cell? ⟨w.heap.size, 0, none⟩ = some (.slice a0 l0 c0) := (boxG (XA.out w4 (Below.refl _ _)) 0).1
    have kA1 : w4.cell? ⟨w.heap.size, 1, none⟩ = some (.slice a1 l1 c1) := (boxG (XA.out w4 (Below.refl _ _)) 1).1
    have kW0 : w4.cell? ⟨w3.heap.size, 0, none⟩ = some (.slice none 0 0) := (boxG (XW.out w4 (Below.refl _ _)) 0).1
    have kW1 : w4.cell? ⟨w3.heap.size, 1, none⟩ = some (.slice none 0 0) := (boxG (XW.out w4 (Below.refl _ _)) 1).1
    have kW2 : w4.cell? ⟨w3.heap.size, 2, none⟩ = some (.slice none 0 0) := (boxG (XW.out w4 (Below.refl _ _)) 2).1
    have kW3 : w4.cell? ⟨w3.heap.size, 3, none⟩ = some (.int .i64 0) := (boxG (XW.out w4 (Below.refl _ _)) 3).1
    have kW4 : w4.cell? ⟨w3.heap.size, 4, none⟩ = some (.int .i64 0) := (boxG (XW.out w4 (Below.refl _ _)) 4).1
    have kW5 : w4.cell? ⟨w3.heap.size, 5, none⟩ = some (.bool false) := (boxG (XW.out w4 (Below.refl _ _)) 5).1
    have kW6 : w4.cell? ⟨w3.heap.size, 6, none⟩ = some (.int .i64 0) := (boxG (XW.out w4 (Below.refl _ _)) 6).1
    have BP : Hid (Below w4.heap.size w4 (w4.alloc (.cells #[.slice ka0 l0 (l0 + kc0), .slice ka1 l1 (l1 + kc1)] 38))) := (Below.refl _ _).alloc (Nat.le_refl _) _
    go_wp2_with fail
    refine (machNewImpl _ _ _ _ _ _ L M _ (T.out _ BP.out).cls (N.out _ BP.out) (by omega)).mono ?_
    rintro e w5 hP
    obtain ⟨rfl, hb⟩ := (hP.resolve_right (fun h => by rw [OK.out] at h; cases h.1)).2
    have hq : Below w4.heap.size w4 w5 := BP.out.trans (Below.mono hb BP.out.size)
    replace B : Hid (∀ y, Below w5.heap.size w5 y → Below w.heap.size w y) := fun y hy => B.out y (hq.trans (hy.mono hq.size))
    replace T : Hid (∀ y, Below w5.heap.size w5 y → SlAt clR (fun b => w3.heap.size + 1 ≤ b ∧ b < w4.heap.size) y ka0 l0 L) := fun y hy => T.out y (hq.trans (hy.mono hq.size))
    replace N : Hid (∀ y, Below w5.heap.size w5 y → SlAt meR (fun b => w3.heap.size + 1 ≤ b ∧ b < w4.heap.size) y ka1 l1 M) := fun y hy => N.out y (hq.trans (hy.mono hq.size))
    replace FT : Hid (∀ y, Below w5.heap.size w5 y → Thw (fun b => w3.heap.size + 1 ≤ b ∧ b < w4.heap.size) y) := fun y hy => FT.out y (hq.trans (hy.mono hq.size))
    replace XA : Hid (∀ y, Below w5.heap.size w5 y → y.heap[w.heap.size]? = some (.cells #[.slice a0 l0 c0, .slice a1 l1 c1] 25 (0, 0))) := fun y hy => XA.out y (hq.trans (hy.mono hq.size))
    replace lA : w.heap.size < w5.heap.size := Nat.lt_of_lt_of_le lA hq.size
    replace XW : Hid (∀ y, Below w5.heap.size w5 y → y.heap[w3.heap.size]? = some (.cells #[.slice none 0 0, .slice none 0 0, .slice none 0 0, .int .i64 0, .int .i64 0, .bool false, .int .i64 0] 33 (0, 0))) := fun y hy => XW.out y (hq.trans (hy.mono hq.size))
    replace lW : w3.heap.size < w5.heap.size := Nat.lt_of_lt_of_le lW hq.size
    have lU : w4.heap.size < w5.heap.size := Nat.lt_of_lt_of_le (by simp) (Below.size hb)
    have XU : Hid (∀ y, Below w5.heap.size w5 y → y.heap[w4.heap.size]? = some (.cells #[.slice ka0 l0 (l0 + kc0), .slice ka1 l1 (l1 + kc1)] 38 (0, 0))) := fun y hy => (hy.block _ lU).trans ((Below.block hb _ (by simp)).trans (boxN _ _ _ _ rfl))
    have zw5 : w4.heap.size + 1 ≤ w5.heap.size := Nat.le_trans (Nat.le_of_eq (by simp)) (Below.size hb)
    clear hq BP
    clear kA0 kA1 kW0 kW1 kW2 kW3 kW4 kW5 kW6
    clear hb hP
    have kA0 : w5.cell? ⟨w.heap.size, 0, none⟩ = some (.slice a0 l0 c0) := (boxG (XA.out w5 (Below.refl _ _)) 0).1
    have kA1 : w5.cell? ⟨w.heap.size, 1, none⟩ = some (.slice a1 l1 c1) := (boxG (XA.out w5 (Below.refl _ _)) 1).1
    have kW0 : w5.cell? ⟨w3.heap.size, 0, none⟩ = some (.slice none 0 0) := (boxG (XW.out w5 (Below.refl _ _)) 0).1
    have kW1 : w5.cell? ⟨w3.heap.size, 1, none⟩ = some (.slice none 0 0) := (boxG (XW.out w5 (Below.refl _ _)) 1).1
    have kW2 : w5.cell? ⟨w3.heap.size, 2, none⟩ = some (.slice none 0 0) := (boxG (XW.out w5 (Below.refl _ _)) 2).1
    have kW3 : w5.cell? ⟨w3.heap.size, 3, none⟩ = some (.int .i64 0) := (boxG (XW.out w5 (Below.refl _ _)) 3).1
    have kW4 : w5.cell? ⟨w3.heap.size, 4, none⟩ = some (.int .i64 0) := (boxG (XW.out w5 (Below.refl _ _)) 4).1
    have kW5 : w5.cell? ⟨w3.heap.size, 5, none⟩ = some (.bool false) := (boxG (XW.out w5 (Below.refl _ _)) 5).1
    have kW6 : w5.cell? ⟨w3.heap.size, 6, none⟩ = some (.int .i64 0) := (boxG (XW.out w5 (Below.refl _ _)) 6).1
    have kU0 : w5.cell? ⟨w4.heap.size, 0, none⟩ = some (.slice ka0 l0 (l0 + kc0)) := (boxG (XU.out w5 (Below.refl _ _)) 0).1
    have kU1 : w5.cell? ⟨w4.heap.size, 1, none⟩ = some (.slice ka1 l1 (l1 + kc1)) := (boxG (XU.out w5 (Below.refl _ _)) 1).1
    have BP : Hid (Below w5.heap.size w5 (w5.alloc (.cells #[.slice none 0 0, .slice none 0 0, .slice none 0 0, .int .i64 0, .int .i64 0, .bool false, .int .i64 0] 33))) := (Below.refl _ _).alloc (Nat.le_refl _) _
    go_wp2_with fail
    refine (eqRMach _ _ _ _ _ _ _ _ _ _ _ _ _ _ _ _ _ _ _ _ _ _ [] [] [] _ (D := fun _ => True) (E := fun _ => True) (sl_zero _ _) (sl_zero _ _) (sl_zero _ _) (sl_zero _ _) (sl_zero _ _) (sl_zero _ _)).mono ?_
    rintro e w6 ⟨rfl, hb⟩
    have hq : Below w5.heap.size w5 w6 := BP.out.trans (Below.mono hb BP.out.size)
    replace B : Hid (∀ y, Below w6.heap.size w6 y → Below w.heap.size w y) := fun y hy => B.out y (hq.trans (hy.mono hq.size))
    replace T : Hid (∀ y, Below w6.heap.size w6 y → SlAt clR (fun b => w3.heap.size + 1 ≤ b ∧ b < w4.heap.size) y ka0 l0 L) := fun y hy => T.out y (hq.trans (hy.mono hq.size))
    replace N : Hid (∀ y, Below w6.heap.size w6 y → SlAt meR (fun b => w3.heap.size + 1 ≤ b ∧ b < w4.heap.size) y ka1 l1 M) := fun y hy => N.out y (hq.trans (hy.mono hq.size))
    replace FT : Hid (∀ y, Below w6.heap.size w6 y → Thw (fun b => w3.heap.size + 1 ≤ b ∧ b < w4.heap.size) y) := fun y hy => FT.out y (hq.trans (hy.mono hq.size))
    replace XA : Hid (∀ y, Below w6.heap.size w6 y → y.heap[w.heap.size]? = some (.cells #[.slice a0 l0 c0, .slice a1 l1 c1] 25 (0, 0))) := fun y hy => XA.out y (hq.trans (hy.mono hq.size))
    replace lA : w.heap.size < w6.heap.size := Nat.lt_of_lt_of_le lA hq.size
    replace XW : Hid (∀ y, Below w6.heap.size w6 y → y.heap[w3.heap.size]? = some (.cells #[.slice none 0 0, .slice none 0 0, .slice none 0 0, .int .i64 0, .int .i64 0, .bool false, .int .i64 0] 33 (0, 0))) := fun y hy => XW.out y (hq.trans (hy.mono hq.size))
    replace lW : w3.heap.size < w6.heap.size := Nat.lt_of_lt_of_le lW hq.size
    replace XU : Hid (∀ y, Below w6.heap.size w6 y → y.heap[w4.heap.size]? = some (.cells #[.slice ka0 l0 (l0 + kc0), .slice ka1 l1 (l1 + kc1)] 38 (0, 0))) := fun y hy => XU.out y (hq.trans (hy.mono hq.size))
    replace lU : w4.heap.size < w6.heap.size := Nat.lt_of_lt_of_le lU hq.size
    have lG : w5.heap.size < w6.heap.size := Nat.lt_of_lt_of_le (by simp) (Below.size hb)
    have XG : Hid (∀ y, Below w6.heap.size w6 y → y.heap[w5.heap.size]? = some (.cells #[.slice none 0 0, .slice none 0 0, .slice none 0 0, .int .i64 0, .int .i64 0, .bool false, .int .i64 0] 33 (0, 0))) := fun y hy => (hy.block _ lG).trans ((Below.block hb _ (by simp)).trans (boxN _ _ _ _ rfl))
    have zw6 : w5.heap.size + 1 ≤ w6.heap.size := Nat.le_trans (Nat.le_of_eq (by simp)) (Below.size hb)
    clear hq BP
    clear kA0 kA1 kW0 kW1 kW2 kW3 kW4 kW5 kW6 kU0 kU1
    clear hb
    have kA0 : w6.cell? ⟨w.heap.size, 0, none⟩ = some (.slice a0 l0 c0) := (boxG (XA.out w6 (Below.refl _ _)) 0).1
    have kA1 : w6.cell? ⟨w.heap.size, 1, none⟩ = some (.slice a1 l1 c1) := (boxG (XA.out w6 (Below.refl _ _)) 1).1
    have kU0 : w6.cell? ⟨w4.heap.size, 0, none⟩ = some (.slice ka0 l0 (l0 + kc0)) := (boxG (XU.out w6 (Below.refl _ _)) 0).1
    have kU1 : w6.cell? ⟨w4.heap.size, 1, none⟩ = some (.slice ka1 l1 (l1 + kc1)) := (boxG (XU.out w6 (Below.refl _ _)) 1).1
    go_wp2_with fail
    have KS : Hid (∀ x, Below w6.heap.size w6 x → x.cell? ⟨w.heap.size, 0, none⟩ = some (.slice a0 l0 c0) ∧ x.cell? ⟨w.heap.size, 1, none⟩ = some (.slice a1 l1 c1) ∧ x.cell? ⟨w4.heap.size, 0, none⟩ = some (.slice ka0 l0 (l0 + kc0)) ∧ x.cell? ⟨w4.heap.size, 1, none⟩ = some (.slice ka1 l1 (l1 + kc1))) := fun x hx => ⟨(boxG (XA.out x hx) 0).1, (boxG (XA.out x hx) 1).1, (boxG (XU.out x hx) 0).1, (boxG (XU.out x hx) 1).1⟩
    refine wp_region_held_drew (S := fun x => x.cell? ⟨w.heap.size, 0, none⟩ = some (.slice a0 l0 c0) ∧ x.cell? ⟨w.heap.size, 1, none⟩ = some (.slice a1 l1 c1) ∧ x.cell? ⟨w4.heap.size, 0, none⟩ = some (.slice ka0 l0 (l0 + kc0)) ∧ x.cell? ⟨w4.heap.size, 1, none⟩ = some (.slice ka1 l1 (l1 + kc1))) (by kernel_rfl) ?_ (fun hHeld => ?_)
    · exact KS.out _ (below_drewN (Below.refl _ _) 1)
    refine wpAnyH_take (i := 0) (v := .agg #[.slice ka0 l0 (l0 + kc0), .slice ka1 l1 (l1 + kc1)]) rfl (by kernel_rfl) (by kernel_rfl) (by kernel_rfl) (fun _ _ _ h => h) (Or.inl ⟨by kernel_rfl, by (intro x hSx; (try dsimp only at hSx); go_simp)⟩) (by assumption) ?_
    try simp only [Act.put, List.getElem_toArray, List.getElem_cons_zero, List.setIfInBounds_toArray, List.set_cons_zero, List.set_cons_succ]
    refine wpAnyH_take (i := 1) (v := .agg #[.slice a0 l0 c0, .slice a1 l1 c1]) rfl (by kernel_rfl) (by kernel_rfl) (by kernel_rfl) (fun _ _ _ h => h) (Or.inl ⟨by kernel_rfl, by (intro x hSx; (try dsimp only at hSx); go_simp)⟩) (by assumption) ?_
    try simp only [Act.put, List.getElem_toArray, List.getElem_cons_zero, List.getElem_cons_succ, List.setIfInBounds_toArray, List.set_cons_zero, List.set_cons_succ]
    refine wpAnyH_ready (rs := [2]) (by kernel_rfl) (by simp) ?_
    refine AllReadyH.cons rfl (fun K hK => ?_) AllReadyH.nil
    go_simp
    go_at_call 7
    refine (toRUnit _ _ _ _ _ _ L M _ (H.out.later (B.out _ (below_drewN (Below.refl _ _) 1))) SL.out (HM.out.later (B.out _ (below_drewN (Below.refl _ _) 1))) SM.out).mono ?_
    rintro e w7 ⟨ja0, jc0, ja1, jc1, rfl, hU, hV, hb7⟩
    have hb : Below w6.heap.size w6 w7 := (below_drewN (Below.refl _ _) 1).trans (hb7.mono (Nat.le_refl _))
    have BP : Hid (Below w6.heap.size w6 w6) := Below.refl _ _
    have hq : Below w6.heap.size w6 w7 := BP.out.trans (Below.mono hb BP.out.size)
    replace B : Hid (∀ y, Below w7.heap.size w7 y → Below w.heap.size w y) := fun y hy => B.out y (hq.trans (hy.mono hq.size))
    replace T : Hid (∀ y, Below w7.heap.size w7 y → SlAt clR (fun b => w3.heap.size + 1 ≤ b ∧ b < w4.heap.size) y ka0 l0 L) := fun y hy => T.out y (hq.trans (hy.mono hq.size))
    replace N : Hid (∀ y, Below w7.heap.size w7 y → SlAt meR (fun b => w3.heap.size + 1 ≤ b ∧ b < w4.heap.size) y ka1 l1 M) := fun y hy => N.out y (hq.trans (hy.mono hq.size))
    replace FT : Hid (∀ y, Below w7.heap.size w7 y → Thw (fun b => w3.heap.size + 1 ≤ b ∧ b < w4.heap.size) y) := fun y hy => FT.out y (hq.trans (hy.mono hq.size))
    replace XA : Hid (∀ y, Below w7.heap.size w7 y → y.heap[w.heap.size]? = some (.cells #[.slice a0 l0 c0, .slice a1 l1 c1] 25 (0, 0))) := fun y hy => XA.out y (hq.trans (hy.mono hq.size))
    replace lA : w.heap.size < w7.heap.size := Nat.lt_of_lt_of_le lA hq.size
    replace XW : Hid (∀ y, Below w7.heap.size w7 y → y.heap[w3.heap.size]? = some (.cells #[.slice none 0 0, .slice none 0 0, .slice none 0 0, .int .i64 0, .int .i64 0, .bool false, .int .i64 0] 33 (0, 0))) := fun y hy => XW.out y (hq.trans (hy.mono hq.size))
    replace lW : w3.heap.size < w7.heap.size := Nat.lt_of_lt_of_le lW hq.size
    replace XU : Hid (∀ y, Below w7.heap.size w7 y → y.heap[w4.heap.size]? = some (.cells #[.slice ka0 l0 (l0 + kc0), .slice ka1 l1 (l1 + kc1)] 38 (0, 0))) := fun y hy => XU.out y (hq.trans (hy.mono hq.size))
    replace lU : w4.heap.size < w7.heap.size := Nat.lt_of_lt_of_le lU hq.size
    replace XG : Hid (∀ y, Below w7.heap.size w7 y → y.heap[w5.heap.size]? = some (.cells #[.slice none 0 0, .slice none 0 0, .slice none 0 0, .int .i64 0, .int .i64 0, .bool false, .int .i64 0] 33 (0, 0))) := fun y hy => XG.out y (hq.trans (hy.mono hq.size))
    replace lG : w5.heap.size < w7.heap.size := Nat.lt_of_lt_of_le lG hq.size
    have zw7 : w6.heap.size ≤ w7.heap.size := hq.size
    clear hq BP
    replace KS : Hid (∀ x, Below w7.heap.size w7 x → x.cell? ⟨w.heap.size, 0, none⟩ = some (.slice a0 l0 c0) ∧ x.cell? ⟨w.heap.size, 1, none⟩ = some (.slice a1 l1 c1) ∧ x.cell? ⟨w4.heap.size, 0, none⟩ = some (.slice ka0 l0 (l0 + kc0)) ∧ x.cell? ⟨w4.heap.size, 1, none⟩ = some (.slice ka1 l1 (l1 + kc1))) := fun x hx => ⟨(boxG (XA.out x hx) 0).1, (boxG (XA.out x hx) 1).1, (boxG (XU.out x hx) 0).1, (boxG (XU.out x hx) 1).1⟩
    have Y0 : Hid (SlAt clR _ w7 ja0 l0 L) := hU
    have Y1 : Hid (SlAt meR _ w7 ja1 l1 M) := hV
    clear hU hV hb hb7
    go_wp2_with fail
    refine hK.out _ _ (KS.out _ (Below.refl _ _)) (fun hHeld2 => ?_)
    clear hK K
    try simp only [Act.put, List.getElem_toArray, List.getElem_cons_zero, List.getElem_cons_succ, List.setIfInBounds_toArray, List.set_cons_zero, List.set_cons_succ]
    refine wpAnyH_ready (rs := [3]) (by kernel_rfl) (by simp) ?_
    refine AllReadyH.cons rfl (fun K hK => ?_) AllReadyH.nil
    go_simp
    go_at_call 10
    refine (eqRUnit _ _ _ _ _ _ _ _ _ _ _ _ L M _ (T.out _ (Below.refl _ _)) Y0.out (N.out _ (Below.refl _ _)) Y1.out).mono ?_
    rintro e w8 ⟨rfl, hb⟩
    have BP : Hid (Below w7.heap.size w7 w7) := Below.refl _ _
    have hq : Below w7.heap.size w7 w8 := BP.out.trans (Below.mono hb BP.out.size)
    replace B : Hid (∀ y, Below w8.heap.size w8 y → Below w.heap.size w y) := fun y hy => B.out y (hq.trans (hy.mono hq.size))
    replace T : Hid (∀ y, Below w8.heap.size w8 y → SlAt clR (fun b => w3.heap.size + 1 ≤ b ∧ b < w4.heap.size) y ka0 l0 L) := fun y hy => T.out y (hq.trans (hy.mono hq.size))
    replace N : Hid (∀ y, Below w8.heap.size w8 y → SlAt meR (fun b => w3.heap.size + 1 ≤ b ∧ b < w4.heap.size) y ka1 l1 M) := fun y hy => N.out y (hq.trans (hy.mono hq.size))
    replace FT : Hid (∀ y, Below w8.heap.size w8 y → Thw (fun b => w3.heap.size + 1 ≤ b ∧ b < w4.heap.size) y) := fun y hy => FT.out y (hq.trans (hy.mono hq.size))
    replace XA : Hid (∀ y, Below w8.heap.size w8 y → y.heap[w.heap.size]? = some (.cells #[.slice a0 l0 c0, .slice a1 l1 c1] 25 (0, 0))) := fun y hy => XA.out y (hq.trans (hy.mono hq.size))
    replace lA : w.heap.size < w8.heap.size := Nat.lt_of_lt_of_le lA hq.size
    replace XW : Hid (∀ y, Below w8.heap.size w8 y → y.heap[w3.heap.size]? = some (.cells #[.slice none 0 0, .slice none 0 0, .slice none 0 0, .int .i64 0, .int .i64 0, .bool false, .int .i64 0] 33 (0, 0))) := fun y hy => XW.out y (hq.trans (hy.mono hq.size))
    replace lW : w3.heap.size < w8.heap.size := Nat.lt_of_lt_of_le lW hq.size
    replace XU : Hid (∀ y, Below w8.heap.size w8 y → y.heap[w4.heap.size]? = some (.cells #[.slice ka0 l0 (l0 + kc0), .slice ka1 l1 (l1 + kc1)] 38 (0, 0))) := fun y hy => XU.out y (hq.trans (hy.mono hq.size))
    replace lU : w4.heap.size < w8.heap.size := Nat.lt_of_lt_of_le lU hq.size
    replace XG : Hid (∀ y, Below w8.heap.size w8 y → y.heap[w5.heap.size]? = some (.cells #[.slice none 0 0, .slice none 0 0, .slice none 0 0, .int .i64 0, .int .i64 0, .bool false, .int .i64 0] 33 (0, 0))) := fun y hy => XG.out y (hq.trans (hy.mono hq.size))
    replace lG : w5.heap.size < w8.heap.size := Nat.lt_of_lt_of_le lG hq.size
    have zw8 : w7.heap.size ≤ w8.heap.size := hq.size
    clear hq BP
    replace KS : Hid (∀ x, Below w8.heap.size w8 x → x.cell? ⟨w.heap.size, 0, none⟩ = some (.slice a0 l0 c0) ∧ x.cell? ⟨w.heap.size, 1, none⟩ = some (.slice a1 l1 c1) ∧ x.cell? ⟨w4.heap.size, 0, none⟩ = some (.slice ka0 l0 (l0 + kc0)) ∧ x.cell? ⟨w4.heap.size, 1, none⟩ = some (.slice ka1 l1 (l1 + kc1))) := fun x hx => ⟨(boxG (XA.out x hx) 0).1, (boxG (XA.out x hx) 1).1, (boxG (XU.out x hx) 0).1, (boxG (XU.out x hx) 1).1⟩
    clear Y0 Y1 hb
    go_wp2_with fail
    refine hK.out _ _ (KS.out _ (Below.refl _ _)) (fun hHeld3 => ?_)
    clear hK K
    try simp only [Act.put, List.getElem_toArray, List.getElem_cons_zero, List.getElem_cons_succ, List.setIfInBounds_toArray, List.set_cons_zero, List.set_cons_succ]
    refine wpAnyH_take (i := 4) (v := .bool false) rfl (by kernel_rfl) (by kernel_rfl) (by kernel_rfl) (fun _ _ _ h => h) (Or.inl ⟨by kernel_rfl, by (intro x hSx; (try dsimp only at hSx); go_simp)⟩) (by assumption) ?_
    try simp only [Act.put, List.getElem_toArray, List.getElem_cons_zero, List.getElem_cons_succ, List.setIfInBounds_toArray, List.set_cons_zero, List.set_cons_succ]
    refine wpAnyH_done (by kernel_rfl) ?_ _
    clear hHeld hHeld2 hHeld3
    clear kA0 kA1 kU0 kU1
    clear KS
    have kA0 : w8.cell? ⟨w.heap.size, 0, none⟩ = some (.slice a0 l0 c0) := (boxG (XA.out w8 (Below.refl _ _)) 0).1
    have kA1 : w8.cell? ⟨w.heap.size, 1, none⟩ = some (.slice a1 l1 c1) := (boxG (XA.out w8 (Below.refl _ _)) 1).1
    have kW0 : w8.cell? ⟨w3.heap.size, 0, none⟩ = some (.slice none 0 0) := (boxG (XW.out w8 (Below.refl _ _)) 0).1
    have kW1 : w8.cell? ⟨w3.heap.size, 1, none⟩ = some (.slice none 0 0) := (boxG (XW.out w8 (Below.refl _ _)) 1).1
    have kW2 : w8.cell? ⟨w3.heap.size, 2, none⟩ = some (.slice none 0 0) := (boxG (XW.out w8 (Below.refl _ _)) 2).1
    have kW3 : w8.cell? ⟨w3.heap.size, 3, none⟩ = some (.int .i64 0) := (boxG (XW.out w8 (Below.refl _ _)) 3).1
    have kW4 : w8.cell? ⟨w3.heap.size, 4, none⟩ = some (.int .i64 0) := (boxG (XW.out w8 (Below.refl _ _)) 4).1
    have kW5 : w8.cell? ⟨w3.heap.size, 5, none⟩ = some (.bool false) := (boxG (XW.out w8 (Below.refl _ _)) 5).1
    have kW6 : w8.cell? ⟨w3.heap.size, 6, none⟩ = some (.int .i64 0) := (boxG (XW.out w8 (Below.refl _ _)) 6).1
    have kU0 : w8.cell? ⟨w4.heap.size, 0, none⟩ = some (.slice ka0 l0 (l0 + kc0)) := (boxG (XU.out w8 (Below.refl _ _)) 0).1
    have kU1 : w8.cell? ⟨w4.heap.size, 1, none⟩ = some (.slice ka1 l1 (l1 + kc1)) := (boxG (XU.out w8 (Below.refl _ _)) 1).1
    have kG0 : w8.cell? ⟨w5.heap.size, 0, none⟩ = some (.slice none 0 0) := (boxG (XG.out w8 (Below.refl _ _)) 0).1
    have kG1 : w8.cell? ⟨w5.heap.size, 1, none⟩ = some (.slice none 0 0) := (boxG (XG.out w8 (Below.refl _ _)) 1).1
    have kG2 : w8.cell? ⟨w5.heap.size, 2, none⟩ = some (.slice none 0 0) := (boxG (XG.out w8 (Below.refl _ _)) 2).1
    have kG3 : w8.cell? ⟨w5.heap.size, 3, none⟩ = some (.int .i64 0) := (boxG (XG.out w8 (Below.refl _ _)) 3).1
    have kG4 : w8.cell? ⟨w5.heap.size, 4, none⟩ = some (.int .i64 0) := (boxG (XG.out w8 (Below.refl _ _)) 4).1
    have kG5 : w8.cell? ⟨w5.heap.size, 5, none⟩ = some (.bool false) := (boxG (XG.out w8 (Below.refl _ _)) 5).1
    have kG6 : w8.cell? ⟨w5.heap.size, 6, none⟩ = some (.int .i64 0) := (boxG (XG.out w8 (Below.refl _ _)) 6).1
    go_wp2_with fail
    refine (markRUnit _ _ _ _ _ _ _ (D := fun b => w3.heap.size + 1 ≤ b ∧ b < w4.heap.size) (SlP.of (T.out _ (Below.refl _ _)) SL.out) (SlP.of (N.out _ (Below.refl _ _)) SM.out) (FT.out _ (Below.refl _ _))).mono ?_
    rintro e w9 ⟨k, rfl, hk, hc⟩
    clear kA0 kA1 kW0 kW1 kW2 kW3 kW4 kW5 kW6 kU0 kU1 kG0 kG1 kG2 kG3 kG4 kG5 kG6
    replace XA : Hid (∀ y, Below w9.heap.size w9 y → y.heap[w.heap.size]? = some (.cells #[.slice a0 l0 c0, .slice a1 l1 c1] 25 (0, 0))) := fun y hy => (hy.block _ (Nat.lt_of_lt_of_le lA (Chg.size hc))).trans ((Chg.block hc _ lA (fun hd => by have h1 := hd.1; have h2 := hd.2; omega)).trans (XA.out w8 (Below.refl _ _)))
    replace lA : w.heap.size < w9.heap.size := Nat.lt_of_lt_of_le lA (Chg.size hc)
    replace XW : Hid (∀ y, Below w9.heap.size w9 y → y.heap[w3.heap.size]? = some (.cells #[.slice none 0 0, .slice none 0 0, .slice none 0 0, .int .i64 0, .int .i64 0, .bool false, .int .i64 0] 33 (0, 0))) := fun y hy => (hy.block _ (Nat.lt_of_lt_of_le lW (Chg.size hc))).trans ((Chg.block hc _ lW (fun hd => by have h1 := hd.1; have h2 := hd.2; omega)).trans (XW.out w8 (Below.refl _ _)))
    replace lW : w3.heap.size < w9.heap.size := Nat.lt_of_lt_of_le lW (Chg.size hc)
    replace XU : Hid (∀ y, Below w9.heap.size w9 y → y.heap[w4.heap.size]? = some (.cells #[.slice ka0 l0 (l0 + kc0), .slice ka1 l1 (l1 + kc1)] 38 (0, 0))) := fun y hy => (hy.block _ (Nat.lt_of_lt_of_le lU (Chg.size hc))).trans ((Chg.block hc _ lU (fun hd => by have h1 := hd.1; have h2 := hd.2; omega)).trans (XU.out w8 (Below.refl _ _)))
    replace lU : w4.heap.size < w9.heap.size := Nat.lt_of_lt_of_le lU (Chg.size hc)
    replace XG : Hid (∀ y, Below w9.heap.size w9 y → y.heap[w5.heap.size]? = some (.cells #[.slice none 0 0, .slice none 0 0, .slice none 0 0, .int .i64 0, .int .i64 0, .bool false, .int .i64 0] 33 (0, 0))) := fun y hy => (hy.block _ (Nat.lt_of_lt_of_le lG (Chg.size hc))).trans ((Chg.block hc _ lG (fun hd => by have h1 := hd.1; have h2 := hd.2; omega)).trans (XG.out w8 (Below.refl _ _)))
    replace lG : w5.heap.size < w9.heap.size := Nat.lt_of_lt_of_le lG (Chg.size hc)
    have zw9 : w8.heap.size ≤ w9.heap.size := Chg.size hc
    replace B : Hid (∀ y, Below w9.heap.size w9 y → Below w.heap.size w y) := fun y hy => ((B.out _ (Below.refl _ _)).trans (hc.below (Below.size (B.out _ (Below.refl _ _))) (fun i hi hd => by have := hd.1; omega))).trans (hy.mono (by omega))
    clear T
    clear N
    clear FT
    have hk' : ¬ k < 0 := by omega
    clear hc
    have kA0 : w9.cell? ⟨w.heap.size, 0, none⟩ = some (.slice a0 l0 c0) := (boxG (XA.out w9 (Below.refl _ _)) 0).1
    have kA1 : w9.cell? ⟨w.heap.size, 1, none⟩ = some (.slice a1 l1 c1) := (boxG (XA.out w9 (Below.refl _ _)) 1).1
    have kW0 : w9.cell? ⟨w3.heap.size, 0, none⟩ = some (.slice none 0 0) := (boxG (XW.out w9 (Below.refl _ _)) 0).1
    have kW1 : w9.cell? ⟨w3.heap.size, 1, none⟩ = some (.slice none 0 0) := (boxG (XW.out w9 (Below.refl _ _)) 1).1
    have kW2 : w9.cell? ⟨w3.heap.size, 2, none⟩ = some (.slice none 0 0) := (boxG (XW.out w9 (Below.refl _ _)) 2).1
    have kW3 : w9.cell? ⟨w3.heap.size, 3, none⟩ = some (.int .i64 0) := (boxG (XW.out w9 (Below.refl _ _)) 3).1
    have kW4 : w9.cell? ⟨w3.heap.size, 4, none⟩ = some (.int .i64 0) := (boxG (XW.out w9 (Below.refl _ _)) 4).1
    have kW5 : w9.cell? ⟨w3.heap.size, 5, none⟩ = some (.bool false) := (boxG (XW.out w9 (Below.refl _ _)) 5).1
    have kW6 : w9.cell? ⟨w3.heap.size, 6, none⟩ = some (.int .i64 0) := (boxG (XW.out w9 (Below.refl _ _)) 6).1
    have kU0 : w9.cell? ⟨w4.heap.size, 0, none⟩ = some (.slice ka0 l0 (l0 + kc0)) := (boxG (XU.out w9 (Below.refl _ _)) 0).1
    have kU1 : w9.cell? ⟨w4.heap.size, 1, none⟩ = some (.slice ka1 l1 (l1 + kc1)) := (boxG (XU.out w9 (Below.refl _ _)) 1).1
    have kG0 : w9.cell? ⟨w5.heap.size, 0, none⟩ = some (.slice none 0 0) := (boxG (XG.out w9 (Below.refl _ _)) 0).1
    have kG1 : w9.cell? ⟨w5.heap.size, 1, none⟩ = some (.slice none 0 0) := (boxG (XG.out w9 (Below.refl _ _)) 1).1
    have kG2 : w9.cell? ⟨w5.heap.size, 2, none⟩ = some (.slice none 0 0) := (boxG (XG.out w9 (Below.refl _ _)) 2).1
    have kG3 : w9.cell? ⟨w5.heap.size, 3, none⟩ = some (.int .i64 0) := (boxG (XG.out w9 (Below.refl _ _)) 3).1
    have kG4 : w9.cell? ⟨w5.heap.size, 4, none⟩ = some (.int .i64 0) := (boxG (XG.out w9 (Below.refl _ _)) 4).1
    have kG5 : w9.cell? ⟨w5.heap.size, 5, none⟩ = some (.bool false) := (boxG (XG.out w9 (Below.refl _ _)) 5).1
    have kG6 : w9.cell? ⟨w5.heap.size, 6, none⟩ = some (.int .i64 0) := (boxG (XG.out w9 (Below.refl _ _)) 6).1
    have BP : Hid (Below w9.heap.size w9 w9) := Below.refl _ _
    go_wp2_with fail
    refine (eqRMach _ _ _ _ _ _ _ _ _ _ _ _ _ _ _ _ _ _ _ _ _ _ [] [] [] _ (D := fun _ => True) (E := fun _ => True) (sl_zero _ _) (sl_zero _ _) (sl_zero _ _) (sl_zero _ _) (sl_zero _ _) (sl_zero _ _)).mono ?_
    rintro e w10 ⟨rfl, hb⟩
    have hq : Below w9.heap.size w9 w10 := BP.out.trans (Below.mono hb BP.out.size)
    replace B : Hid (∀ y, Below w10.heap.size w10 y → Below w.heap.size w y) := fun y hy => B.out y (hq.trans (hy.mono hq.size))
    replace XA : Hid (∀ y, Below w10.heap.size w10 y → y.heap[w.heap.size]? = some (.cells #[.slice a0 l0 c0, .slice a1 l1 c1] 25 (0, 0))) := fun y hy => XA.out y (hq.trans (hy.mono hq.size))
    replace lA : w.heap.size < w10.heap.size := Nat.lt_of_lt_of_le lA hq.size
    replace XW : Hid (∀ y, Below w10.heap.size w10 y → y.heap[w3.heap.size]? = some (.cells #[.slice none 0 0, .slice none 0 0, .slice none 0 0, .int .i64 0, .int .i64 0, .bool false, .int .i64 0] 33 (0, 0))) := fun y hy => XW.out y (hq.trans (hy.mono hq.size))
    replace lW : w3.heap.size < w10.heap.size := Nat.lt_of_lt_of_le lW hq.size
    replace XU : Hid (∀ y, Below w10.heap.size w10 y → y.heap[w4.heap.size]? = some (.cells #[.slice ka0 l0 (l0 + kc0), .slice ka1 l1 (l1 + kc1)] 38 (0, 0))) := fun y hy => XU.out y (hq.trans (hy.mono hq.size))
    replace lU : w4.heap.size < w10.heap.size := Nat.lt_of_lt_of_le lU hq.size
    replace XG : Hid (∀ y, Below w10.heap.size w10 y → y.heap[w5.heap.size]? = some (.cells #[.slice none 0 0, .slice none 0 0, .slice none 0 0, .int .i64 0, .int .i64 0, .bool false, .int .i64 0] 33 (0, 0))) := fun y hy => XG.out y (hq.trans (hy.mono hq.size))
    replace lG : w5.heap.size < w10.heap.size := Nat.lt_of_lt_of_le lG hq.size
    have zw10 : w9.heap.size ≤ w10.heap.size := hq.size
    clear hq BP
    clear kA0 kA1 kW0 kW1 kW2 kW3 kW4 kW5 kW6 kU0 kU1 kG0 kG1 kG2 kG3 kG4 kG5 kG6
    clear hb
    have kA0 : w10.cell? ⟨w.heap.size, 0, none⟩ = some (.slice a0 l0 c0) := (boxG (XA.out w10 (Below.refl _ _)) 0).1
    have kA1 : w10.cell? ⟨w.heap.size, 1, none⟩ = some (.slice a1 l1 c1) := (boxG (XA.out w10 (Below.refl _ _)) 1).1
    have kW0 : w10.cell? ⟨w3.heap.size, 0, none⟩ = some (.slice none 0 0) := (boxG (XW.out w10 (Below.refl _ _)) 0).1
    have kW1 : w10.cell? ⟨w3.heap.size, 1, none⟩ = some (.slice none 0 0) := (boxG (XW.out w10 (Below.refl _ _)) 1).1
    have kW2 : w10.cell? ⟨w3.heap.size, 2, none⟩ = some (.slice none 0 0) := (boxG (XW.out w10 (Below.refl _ _)) 2).1
    have kW3 : w10.cell? ⟨w3.heap.size, 3, none⟩ = some (.int .i64 0) := (boxG (XW.out w10 (Below.refl _ _)) 3).1
    have kW4 : w10.cell? ⟨w3.heap.size, 4, none⟩ = some (.int .i64 0) := (boxG (XW.out w10 (Below.refl _ _)) 4).1
    have kW5 : w10.cell? ⟨w3.heap.size, 5, none⟩ = some (.bool false) := (boxG (XW.out w10 (Below.refl _ _)) 5).1
    have kW6 : w10.cell? ⟨w3.heap.size, 6, none⟩ = some (.int .i64 0) := (boxG (XW.out w10 (Below.refl _ _)) 6).1
    have kU0 : w10.cell? ⟨w4.heap.size, 0, none⟩ = some (.slice ka0 l0 (l0 + kc0)) := (boxG (XU.out w10 (Below.refl _ _)) 0).1
    have kU1 : w10.cell? ⟨w4.heap.size, 1, none⟩ = some (.slice ka1 l1 (l1 + kc1)) := (boxG (XU.out w10 (Below.refl _ _)) 1).1
    have kG0 : w10.cell? ⟨w5.heap.size, 0, none⟩ = some (.slice none 0 0) := (boxG (XG.out w10 (Below.refl _ _)) 0).1
    have kG1 : w10.cell? ⟨w5.heap.size, 1, none⟩ = some (.slice none 0 0) := (boxG (XG.out w10 (Below.refl _ _)) 1).1
    have kG2 : w10.cell? ⟨w5.heap.size, 2, none⟩ = some (.slice none 0 0) := (boxG (XG.out w10 (Below.refl _ _)) 2).1
    have kG3 : w10.cell? ⟨w5.heap.size, 3, none⟩ = some (.int .i64 0) := (boxG (XG.out w10 (Below.refl _ _)) 3).1
    have kG4 : w10.cell? ⟨w5.heap.size, 4, none⟩ = some (.int .i64 0) := (boxG (XG.out w10 (Below.refl _ _)) 4).1
    have kG5 : w10.cell? ⟨w5.heap.size, 5, none⟩ = some (.bool false) := (boxG (XG.out w10 (Below.refl _ _)) 5).1
    have kG6 : w10.cell? ⟨w5.heap.size, 6, none⟩ = some (.int .i64 0) := (boxG (XG.out w10 (Below.refl _ _)) 6).1
    have BP : Hid (Below w10.heap.size w10 w10) := Below.refl _ _
    go_wp2_with fail
    refine (markNone _).mono ?_
    rintro e w11 ⟨rfl, hb⟩
    have hq : Below w10.heap.size w10 w11 := BP.out.trans (Below.mono hb BP.out.size)
    replace B : Hid (∀ y, Below w11.heap.size w11 y → Below w.heap.size w y) := fun y hy => B.out y (hq.trans (hy.mono hq.size))
    replace XA : Hid (∀ y, Below w11.heap.size w11 y → y.heap[w.heap.size]? = some (.cells #[.slice a0 l0 c0, .slice a1 l1 c1] 25 (0, 0))) := fun y hy => XA.out y (hq.trans (hy.mono hq.size))
    replace lA : w.heap.size < w11.heap.size := Nat.lt_of_lt_of_le lA hq.size
    replace XW : Hid (∀ y, Below w11.heap.size w11 y → y.heap[w3.heap.size]? = some (.cells #[.slice none 0 0, .slice none 0 0, .slice none 0 0, .int .i64 0, .int .i64 0, .bool false, .int .i64 0] 33 (0, 0))) := fun y hy => XW.out y (hq.trans (hy.mono hq.size))
    replace lW : w3.heap.size < w11.heap.size := Nat.lt_of_lt_of_le lW hq.size
    replace XU : Hid (∀ y, Below w11.heap.size w11 y → y.heap[w4.heap.size]? = some (.cells #[.slice ka0 l0 (l0 + kc0), .slice ka1 l1 (l1 + kc1)] 38 (0, 0))) := fun y hy => XU.out y (hq.trans (hy.mono hq.size))
    replace lU : w4.heap.size < w11.heap.size := Nat.lt_of_lt_of_le lU hq.size
    replace XG : Hid (∀ y, Below w11.heap.size w11 y → y.heap[w5.heap.size]? = some (.cells #[.slice none 0 0, .slice none 0 0, .slice none 0 0, .int .i64 0, .int .i64 0, .bool false, .int .i64 0] 33 (0, 0))) := fun y hy => XG.out y (hq.trans (hy.mono hq.size))
    replace lG : w5.heap.size < w11.heap.size := Nat.lt_of_lt_of_le lG hq.size
    have zw11 : w10.heap.size ≤ w11.heap.size := hq.size
    clear hq BP
    clear kA0 kA1 kW0 kW1 kW2 kW3 kW4 kW5 kW6 kU0 kU1 kG0 kG1 kG2 kG3 kG4 kG5 kG6
    clear hb
    have kA0 : w11.cell? ⟨w.heap.size, 0, none⟩ = some (.slice a0 l0 c0) := (boxG (XA.out w11 (Below.refl _ _)) 0).1
    have kA1 : w11.cell? ⟨w.heap.size, 1, none⟩ = some (.slice a1 l1 c1) := (boxG (XA.out w11 (Below.refl _ _)) 1).1
    have kW0 : w11.cell? ⟨w3.heap.size, 0, none⟩ = some (.slice none 0 0) := (boxG (XW.out w11 (Below.refl _ _)) 0).1
    have kW1 : w11.cell? ⟨w3.heap.size, 1, none⟩ = some (.slice none 0 0) := (boxG (XW.out w11 (Below.refl _ _)) 1).1
    have kW2 : w11.cell? ⟨w3.heap.size, 2, none⟩ = some (.slice none 0 0) := (boxG (XW.out w11 (Below.refl _ _)) 2).1
    have kW3 : w11.cell? ⟨w3.heap.size, 3, none⟩ = some (.int .i64 0) := (boxG (XW.out w11 (Below.refl _ _)) 3).1
    have kW4 : w11.cell? ⟨w3.heap.size, 4, none⟩ = some (.int .i64 0) := (boxG (XW.out w11 (Below.refl _ _)) 4).1
    have kW5 : w11.cell? ⟨w3.heap.size, 5, none⟩ = some (.bool false) := (boxG (XW.out w11 (Below.refl _ _)) 5).1
    have kW6 : w11.cell? ⟨w3.heap.size, 6, none⟩ = some (.int .i64 0) := (boxG (XW.out w11 (Below.refl _ _)) 6).1
    have kU0 : w11.cell? ⟨w4.heap.size, 0, none⟩ = some (.slice ka0 l0 (l0 + kc0)) := (boxG (XU.out w11 (Below.refl _ _)) 0).1
    have kU1 : w11.cell? ⟨w4.heap.size, 1, none⟩ = some (.slice ka1 l1 (l1 + kc1)) := (boxG (XU.out w11 (Below.refl _ _)) 1).1
    have kG0 : w11.cell? ⟨w5.heap.size, 0, none⟩ = some (.slice none 0 0) := (boxG (XG.out w11 (Below.refl _ _)) 0).1
    have kG1 : w11.cell? ⟨w5.heap.size, 1, none⟩ = some (.slice none 0 0) := (boxG (XG.out w11 (Below.refl _ _)) 1).1
    have kG2 : w11.cell? ⟨w5.heap.size, 2, none⟩ = some (.slice none 0 0) := (boxG (XG.out w11 (Below.refl _ _)) 2).1
    have kG3 : w11.cell? ⟨w5.heap.size, 3, none⟩ = some (.int .i64 0) := (boxG (XG.out w11 (Below.refl _ _)) 3).1
    have kG4 : w11.cell? ⟨w5.heap.size, 4, none⟩ = some (.int .i64 0) := (boxG (XG.out w11 (Below.refl _ _)) 4).1
    have kG5 : w11.cell? ⟨w5.heap.size, 5, none⟩ = some (.bool false) := (boxG (XG.out w11 (Below.refl _ _)) 5).1
    have kG6 : w11.cell? ⟨w5.heap.size, 6, none⟩ = some (.int .i64 0) := (boxG (XG.out w11 (Below.refl _ _)) 6).1
    have BP : Hid (Below w11.heap.size w11 w11) := Below.refl _ _
    go_wp2_with fail
    refine (heldNone _).mono ?_
    rintro e w12 ⟨rfl, hb⟩
    have hq : Below w11.heap.size w11 w12 := BP.out.trans (Below.mono hb BP.out.size)
    replace B : Hid (∀ y, Below w12.heap.size w12 y → Below w.heap.size w y) := fun y hy => B.out y (hq.trans (hy.mono hq.size))
    replace XA : Hid (∀ y, Below w12.heap.size w12 y → y.heap[w.heap.size]? = some (.cells #[.slice a0 l0 c0, .slice a1 l1 c1] 25 (0, 0))) := fun y hy => XA.out y (hq.trans (hy.mono hq.size))
    replace lA : w.heap.size < w12.heap.size := Nat.lt_of_lt_of_le lA hq.size
    replace XW : Hid (∀ y, Below w12.heap.size w12 y → y.heap[w3.heap.size]? = some (.cells #[.slice none 0 0, .slice none 0 0, .slice none 0 0, .int .i64 0, .int .i64 0, .bool false, .int .i64 0] 33 (0, 0))) := fun y hy => XW.out y (hq.trans (hy.mono hq.size))
    replace lW : w3.heap.size < w12.heap.size := Nat.lt_of_lt_of_le lW hq.size
    replace XU : Hid (∀ y, Below w12.heap.size w12 y → y.heap[w4.heap.size]? = some (.cells #[.slice ka0 l0 (l0 + kc0), .slice ka1 l1 (l1 + kc1)] 38 (0, 0))) := fun y hy => XU.out y (hq.trans (hy.mono hq.size))
    replace lU : w4.heap.size < w12.heap.size := Nat.lt_of_lt_of_le lU hq.size
    replace XG : Hid (∀ y, Below w12.heap.size w12 y → y.heap[w5.heap.size]? = some (.cells #[.slice none 0 0, .slice none 0 0, .slice none 0 0, .int .i64 0, .int .i64 0, .bool false, .int .i64 0] 33 (0, 0))) := fun y hy => XG.out y (hq.trans (hy.mono hq.size))
    replace lG : w5.heap.size < w12.heap.size := Nat.lt_of_lt_of_le lG hq.size
    have zw12 : w11.heap.size ≤ w12.heap.size := hq.size
    clear hq BP
    clear kA0 kA1 kW0 kW1 kW2 kW3 kW4 kW5 kW6 kU0 kU1 kG0 kG1 kG2 kG3 kG4 kG5 kG6
    clear hb
    have kA0 : w12.cell? ⟨w.heap.size, 0, none⟩ = some (.slice a0 l0 c0) := (boxG (XA.out w12 (Below.refl _ _)) 0).1
    have kA1 : w12.cell? ⟨w.heap.size, 1, none⟩ = some (.slice a1 l1 c1) := (boxG (XA.out w12 (Below.refl _ _)) 1).1
    have kW0 : w12.cell? ⟨w3.heap.size, 0, none⟩ = some (.slice none 0 0) := (boxG (XW.out w12 (Below.refl _ _)) 0).1
    have kW1 : w12.cell? ⟨w3.heap.size, 1, none⟩ = some (.slice none 0 0) := (boxG (XW.out w12 (Below.refl _ _)) 1).1
    have kW2 : w12.cell? ⟨w3.heap.size, 2, none⟩ = some (.slice none 0 0) := (boxG (XW.out w12 (Below.refl _ _)) 2).1
    have kW3 : w12.cell? ⟨w3.heap.size, 3, none⟩ = some (.int .i64 0) := (boxG (XW.out w12 (Below.refl _ _)) 3).1
    have kW4 : w12.cell? ⟨w3.heap.size, 4, none⟩ = some (.int .i64 0) := (boxG (XW.out w12 (Below.refl _ _)) 4).1
    have kW5 : w12.cell? ⟨w3.heap.size, 5, none⟩ = some (.bool false) := (boxG (XW.out w12 (Below.refl _ _)) 5).1
    have kW6 : w12.cell? ⟨w3.heap.size, 6, none⟩ = some (.int .i64 0) := (boxG (XW.out w12 (Below.refl _ _)) 6).1
    have kU0 : w12.cell? ⟨w4.heap.size, 0, none⟩ = some (.slice ka0 l0 (l0 + kc0)) := (boxG (XU.out w12 (Below.refl _ _)) 0).1
    have kU1 : w12.cell? ⟨w4.heap.size, 1, none⟩ = some (.slice ka1 l1 (l1 + kc1)) := (boxG (XU.out w12 (Below.refl _ _)) 1).1
    have kG0 : w12.cell? ⟨w5.heap.size, 0, none⟩ = some (.slice none 0 0) := (boxG (XG.out w12 (Below.refl _ _)) 0).1
    have kG1 : w12.cell? ⟨w5.heap.size, 1, none⟩ = some (.slice none 0 0) := (boxG (XG.out w12 (Below.refl _ _)) 1).1
    have kG2 : w12.cell? ⟨w5.heap.size, 2, none⟩ = some (.slice none 0 0) := (boxG (XG.out w12 (Below.refl _ _)) 2).1
    have kG3 : w12.cell? ⟨w5.heap.size, 3, none⟩ = some (.int .i64 0) := (boxG (XG.out w12 (Below.refl _ _)) 3).1
    have kG4 : w12.cell? ⟨w5.heap.size, 4, none⟩ = some (.int .i64 0) := (boxG (XG.out w12 (Below.refl _ _)) 4).1
    have kG5 : w12.cell? ⟨w5.heap.size, 5, none⟩ = some (.bool false) := (boxG (XG.out w12 (Below.refl _ _)) 5).1
    have kG6 : w12.cell? ⟨w5.heap.size, 6, none⟩ = some (.int .i64 0) := (boxG (XG.out w12 (Below.refl _ _)) 6).1
    have BP : Hid (Below w12.heap.size w12 w12) := Below.refl _ _
    go_wp2_with fail
    refine (toRUnit _ _ _ _ _ _ L M _ (H.out.later (B.out _ BP.out)) SL.out (HM.out.later (B.out _ BP.out)) SM.out).mono ?_
    rintro e w13 ⟨ia0, ic0, ia1, ic1, rfl, hU, hV, hb⟩
    have hq : Below w12.heap.size w12 w13 := BP.out.trans (Below.mono hb BP.out.size)
    replace B : Hid (∀ y, Below w13.heap.size w13 y → Below w.heap.size w y) := fun y hy => B.out y (hq.trans (hy.mono hq.size))
    replace XA : Hid (∀ y, Below w13.heap.size w13 y → y.heap[w.heap.size]? = some (.cells #[.slice a0 l0 c0, .slice a1 l1 c1] 25 (0, 0))) := fun y hy => XA.out y (hq.trans (hy.mono hq.size))
    replace lA : w.heap.size < w13.heap.size := Nat.lt_of_lt_of_le lA hq.size
    replace XW : Hid (∀ y, Below w13.heap.size w13 y → y.heap[w3.heap.size]? = some (.cells #[.slice none 0 0, .slice none 0 0, .slice none 0 0, .int .i64 0, .int .i64 0, .bool false, .int .i64 0] 33 (0, 0))) := fun y hy => XW.out y (hq.trans (hy.mono hq.size))
    replace lW : w3.heap.size < w13.heap.size := Nat.lt_of_lt_of_le lW hq.size
    replace XU : Hid (∀ y, Below w13.heap.size w13 y → y.heap[w4.heap.size]? = some (.cells #[.slice ka0 l0 (l0 + kc0), .slice ka1 l1 (l1 + kc1)] 38 (0, 0))) := fun y hy => XU.out y (hq.trans (hy.mono hq.size))
    replace lU : w4.heap.size < w13.heap.size := Nat.lt_of_lt_of_le lU hq.size
    replace XG : Hid (∀ y, Below w13.heap.size w13 y → y.heap[w5.heap.size]? = some (.cells #[.slice none 0 0, .slice none 0 0, .slice none 0 0, .int .i64 0, .int .i64 0, .bool false, .int .i64 0] 33 (0, 0))) := fun y hy => XG.out y (hq.trans (hy.mono hq.size))
    replace lG : w5.heap.size < w13.heap.size := Nat.lt_of_lt_of_le lG hq.size
    have zw13 : w12.heap.size ≤ w13.heap.size := hq.size
    clear hq BP
    clear kA0 kA1 kW0 kW1 kW2 kW3 kW4 kW5 kW6 kU0 kU1 kG0 kG1 kG2 kG3 kG4 kG5 kG6
    have U : Hid (SlAt clR _ w13 ia0 l0 L) := hU
    have V : Hid (SlAt meR _ w13 ia1 l1 M) := hV
    clear hU hV hb
    have kA0 : w13.cell? ⟨w.heap.size, 0, none⟩ = some (.slice a0 l0 c0) := (boxG (XA.out w13 (Below.refl _ _)) 0).1
    have kA1 : w13.cell? ⟨w.heap.size, 1, none⟩ = some (.slice a1 l1 c1) := (boxG (XA.out w13 (Below.refl _ _)) 1).1
    have kW0 : w13.cell? ⟨w3.heap.size, 0, none⟩ = some (.slice none 0 0) := (boxG (XW.out w13 (Below.refl _ _)) 0).1
    have kW1 : w13.cell? ⟨w3.heap.size, 1, none⟩ = some (.slice none 0 0) := (boxG (XW.out w13 (Below.refl _ _)) 1).1
    have kW2 : w13.cell? ⟨w3.heap.size, 2, none⟩ = some (.slice none 0 0) := (boxG (XW.out w13 (Below.refl _ _)) 2).1
    have kW3 : w13.cell? ⟨w3.heap.size, 3, none⟩ = some (.int .i64 0) := (boxG (XW.out w13 (Below.refl _ _)) 3).1
    have kW4 : w13.cell? ⟨w3.heap.size, 4, none⟩ = some (.int .i64 0) := (boxG (XW.out w13 (Below.refl _ _)) 4).1
    have kW5 : w13.cell? ⟨w3.heap.size, 5, none⟩ = some (.bool false) := (boxG (XW.out w13 (Below.refl _ _)) 5).1
    have kW6 : w13.cell? ⟨w3.heap.size, 6, none⟩ = some (.int .i64 0) := (boxG (XW.out w13 (Below.refl _ _)) 6).1
    have kU0 : w13.cell? ⟨w4.heap.size, 0, none⟩ = some (.slice ka0 l0 (l0 + kc0)) := (boxG (XU.out w13 (Below.refl _ _)) 0).1
    have kU1 : w13.cell? ⟨w4.heap.size, 1, none⟩ = some (.slice ka1 l1 (l1 + kc1)) := (boxG (XU.out w13 (Below.refl _ _)) 1).1
    have kG0 : w13.cell? ⟨w5.heap.size, 0, none⟩ = some (.slice none 0 0) := (boxG (XG.out w13 (Below.refl _ _)) 0).1
    have kG1 : w13.cell? ⟨w5.heap.size, 1, none⟩ = some (.slice none 0 0) := (boxG (XG.out w13 (Below.refl _ _)) 1).1
    have kG2 : w13.cell? ⟨w5.heap.size, 2, none⟩ = some (.slice none 0 0) := (boxG (XG.out w13 (Below.refl _ _)) 2).1
    have kG3 : w13.cell? ⟨w5.heap.size, 3, none⟩ = some (.int .i64 0) := (boxG (XG.out w13 (Below.refl _ _)) 3).1
    have kG4 : w13.cell? ⟨w5.heap.size, 4, none⟩ = some (.int .i64 0) := (boxG (XG.out w13 (Below.refl _ _)) 4).1
    have kG5 : w13.cell? ⟨w5.heap.size, 5, none⟩ = some (.bool false) := (boxG (XG.out w13 (Below.refl _ _)) 5).1
    have kG6 : w13.cell? ⟨w5.heap.size, 6, none⟩ = some (.int .i64 0) := (boxG (XG.out w13 (Below.refl _ _)) 6).1
    have BP : Hid (Below w13.heap.size w13 w13) := Below.refl _ _
    go_wp2_with fail
    refine (machNewImpl _ _ _ _ _ _ L M _ U.out.cls V.out (by omega)).mono ?_
    rintro e w14 hP
    obtain ⟨rfl, hb⟩ := (hP.resolve_right (fun h => by rw [OK.out] at h; cases h.1)).2
    have hq : Below w13.heap.size w13 w14 := BP.out.trans (Below.mono hb BP.out.size)
    replace B : Hid (∀ y, Below w14.heap.size w14 y → Below w.heap.size w y) := fun y hy => B.out y (hq.trans (hy.mono hq.size))
    replace XA : Hid (∀ y, Below w14.heap.size w14 y → y.heap[w.heap.size]? = some (.cells #[.slice a0 l0 c0, .slice a1 l1 c1] 25 (0, 0))) := fun y hy => XA.out y (hq.trans (hy.mono hq.size))
    replace lA : w.heap.size < w14.heap.size := Nat.lt_of_lt_of_le lA hq.size
    replace XW : Hid (∀ y, Below w14.heap.size w14 y → y.heap[w3.heap.size]? = some (.cells #[.slice none 0 0, .slice none 0 0, .slice none 0 0, .int .i64 0, .int .i64 0, .bool false, .int .i64 0] 33 (0, 0))) := fun y hy => XW.out y (hq.trans (hy.mono hq.size))
    replace lW : w3.heap.size < w14.heap.size := Nat.lt_of_lt_of_le lW hq.size
    replace XU : Hid (∀ y, Below w14.heap.size w14 y → y.heap[w4.heap.size]? = some (.cells #[.slice ka0 l0 (l0 + kc0), .slice ka1 l1 (l1 + kc1)] 38 (0, 0))) := fun y hy => XU.out y (hq.trans (hy.mono hq.size))
    replace lU : w4.heap.size < w14.heap.size := Nat.lt_of_lt_of_le lU hq.size
    replace XG : Hid (∀ y, Below w14.heap.size w14 y → y.heap[w5.heap.size]? = some (.cells #[.slice none 0 0, .slice none 0 0, .slice none 0 0, .int .i64 0, .int .i64 0, .bool false, .int .i64 0] 33 (0, 0))) := fun y hy => XG.out y (hq.trans (hy.mono hq.size))
    replace lG : w5.heap.size < w14.heap.size := Nat.lt_of_lt_of_le lG hq.size
    have zw14 : w13.heap.size ≤ w14.heap.size := hq.size
    clear hq BP
    clear kA0 kA1 kW0 kW1 kW2 kW3 kW4 kW5 kW6 kU0 kU1 kG0 kG1 kG2 kG3 kG4 kG5 kG6
    clear hb hP U V
    have kA0 : w14.cell? ⟨w.heap.size, 0, none⟩ = some (.slice a0 l0 c0) := (boxG (XA.out w14 (Below.refl _ _)) 0).1
    have kA1 : w14.cell? ⟨w.heap.size, 1, none⟩ = some (.slice a1 l1 c1) := (boxG (XA.out w14 (Below.refl _ _)) 1).1
    have kW0 : w14.cell? ⟨w3.heap.size, 0, none⟩ = some (.slice none 0 0) := (boxG (XW.out w14 (Below.refl _ _)) 0).1
    have kW1 : w14.cell? ⟨w3.heap.size, 1, none⟩ = some (.slice none 0 0) := (boxG (XW.out w14 (Below.refl _ _)) 1).1
    have kW2 : w14.cell? ⟨w3.heap.size, 2, none⟩ = some (.slice none 0 0) := (boxG (XW.out w14 (Below.refl _ _)) 2).1
    have kW3 : w14.cell? ⟨w3.heap.size, 3, none⟩ = some (.int .i64 0) := (boxG (XW.out w14 (Below.refl _ _)) 3).1
    have kW4 : w14.cell? ⟨w3.heap.size, 4, none⟩ = some (.int .i64 0) := (boxG (XW.out w14 (Below.refl _ _)) 4).1
    have kW5 : w14.cell? ⟨w3.heap.size, 5, none⟩ = some (.bool false) := (boxG (XW.out w14 (Below.refl _ _)) 5).1
    have kW6 : w14.cell? ⟨w3.heap.size, 6, none⟩ = some (.int .i64 0) := (boxG (XW.out w14 (Below.refl _ _)) 6).1
    have kU0 : w14.cell? ⟨w4.heap.size, 0, none⟩ = some (.slice ka0 l0 (l0 + kc0)) := (boxG (XU.out w14 (Below.refl _ _)) 0).1
    have kU1 : w14.cell? ⟨w4.heap.size, 1, none⟩ = some (.slice ka1 l1 (l1 + kc1)) := (boxG (XU.out w14 (Below.refl _ _)) 1).1
    have kG0 : w14.cell? ⟨w5.heap.size, 0, none⟩ = some (.slice none 0 0) := (boxG (XG.out w14 (Below.refl _ _)) 0).1
    have kG1 : w14.cell? ⟨w5.heap.size, 1, none⟩ = some (.slice none 0 0) := (boxG (XG.out w14 (Below.refl _ _)) 1).1
    have kG2 : w14.cell? ⟨w5.heap.size, 2, none⟩ = some (.slice none 0 0) := (boxG (XG.out w14 (Below.refl _ _)) 2).1
    have kG3 : w14.cell? ⟨w5.heap.size, 3, none⟩ = some (.int .i64 0) := (boxG (XG.out w14 (Below.refl _ _)) 3).1
    have kG4 : w14.cell? ⟨w5.heap.size, 4, none⟩ = some (.int .i64 0) := (boxG (XG.out w14 (Below.refl _ _)) 4).1
    have kG5 : w14.cell? ⟨w5.heap.size, 5, none⟩ = some (.bool false) := (boxG (XG.out w14 (Below.refl _ _)) 5).1
    have kG6 : w14.cell? ⟨w5.heap.size, 6, none⟩ = some (.int .i64 0) := (boxG (XG.out w14 (Below.refl _ _)) 6).1
    have BP : Hid (Below w14.heap.size w14 (w14.alloc (.cells #[.slice none 0 0, .slice none 0 0, .slice none 0 0, .int .i64 0, .int .i64 0, .bool false, .int .i64 0] 33))) := (Below.refl _ _).alloc (Nat.le_refl _) _
    go_wp2_with fail
    refine (eqRMach _ _ _ _ _ _ _ _ _ _ _ _ _ _ _ _ _ _ _ _ _ _ [] [] [] _ (D := fun _ => True) (E := fun _ => True) (sl_zero _ _) (sl_zero _ _) (sl_zero _ _) (sl_zero _ _) (sl_zero _ _) (sl_zero _ _)).mono ?_
    rintro e w15 ⟨rfl, hb⟩
    have hq : Below w14.heap.size w14 w15 := BP.out.trans (Below.mono hb BP.out.size)
    replace B : Hid (∀ y, Below w15.heap.size w15 y → Below w.heap.size w y) := fun y hy => B.out y (hq.trans (hy.mono hq.size))
    replace XA : Hid (∀ y, Below w15.heap.size w15 y → y.heap[w.heap.size]? = some (.cells #[.slice a0 l0 c0, .slice a1 l1 c1] 25 (0, 0))) := fun y hy => XA.out y (hq.trans (hy.mono hq.size))
    replace lA : w.heap.size < w15.heap.size := Nat.lt_of_lt_of_le lA hq.size
    replace XW : Hid (∀ y, Below w15.heap.size w15 y → y.heap[w3.heap.size]? = some (.cells #[.slice none 0 0, .slice none 0 0, .slice none 0 0, .int .i64 0, .int .i64 0, .bool false, .int .i64 0] 33 (0, 0))) := fun y hy => XW.out y (hq.trans (hy.mono hq.size))
    replace lW : w3.heap.size < w15.heap.size := Nat.lt_of_lt_of_le lW hq.size
    replace XU : Hid (∀ y, Below w15.heap.size w15 y → y.heap[w4.heap.size]? = some (.cells #[.slice ka0 l0 (l0 + kc0), .slice ka1 l1 (l1 + kc1)] 38 (0, 0))) := fun y hy => XU.out y (hq.trans (hy.mono hq.size))
    replace lU : w4.heap.size < w15.heap.size := Nat.lt_of_lt_of_le lU hq.size
    replace XG : Hid (∀ y, Below w15.heap.size w15 y → y.heap[w5.heap.size]? = some (.cells #[.slice none 0 0, .slice none 0 0, .slice none 0 0, .int .i64 0, .int .i64 0, .bool false, .int .i64 0] 33 (0, 0))) := fun y hy => XG.out y (hq.trans (hy.mono hq.size))
    replace lG : w5.heap.size < w15.heap.size := Nat.lt_of_lt_of_le lG hq.size
    have lH : w14.heap.size < w15.heap.size := Nat.lt_of_lt_of_le (by simp) (Below.size hb)
    have XH : Hid (∀ y, Below w15.heap.size w15 y → y.heap[w14.heap.size]? = some (.cells #[.slice none 0 0, .slice none 0 0, .slice none 0 0, .int .i64 0, .int .i64 0, .bool false, .int .i64 0] 33 (0, 0))) := fun y hy => (hy.block _ lH).trans ((Below.block hb _ (by simp)).trans (boxN _ _ _ _ rfl))
    have zw15 : w14.heap.size + 1 ≤ w15.heap.size := Nat.le_trans (Nat.le_of_eq (by simp)) (Below.size hb)
    clear hq BP
    clear kA0 kA1 kW0 kW1 kW2 kW3 kW4 kW5 kW6 kU0 kU1 kG0 kG1 kG2 kG3 kG4 kG5 kG6
    clear hb
    have kA0 : w15.cell? ⟨w.heap.size, 0, none⟩ = some (.slice a0 l0 c0) := (boxG (XA.out w15 (Below.refl _ _)) 0).1
    have kA1 : w15.cell? ⟨w.heap.size, 1, none⟩ = some (.slice a1 l1 c1) := (boxG (XA.out w15 (Below.refl _ _)) 1).1
    have kW0 : w15.cell? ⟨w3.heap.size, 0, none⟩ = some (.slice none 0 0) := (boxG (XW.out w15 (Below.refl _ _)) 0).1
    have kW1 : w15.cell? ⟨w3.heap.size, 1, none⟩ = some (.slice none 0 0) := (boxG (XW.out w15 (Below.refl _ _)) 1).1
    have kW2 : w15.cell? ⟨w3.heap.size, 2, none⟩ = some (.slice none 0 0) := (boxG (XW.out w15 (Below.refl _ _)) 2).1
    have kW3 : w15.cell? ⟨w3.heap.size, 3, none⟩ = some (.int .i64 0) := (boxG (XW.out w15 (Below.refl _ _)) 3).1
    have kW4 : w15.cell? ⟨w3.heap.size, 4, none⟩ = some (.int .i64 0) := (boxG (XW.out w15 (Below.refl _ _)) 4).1
    have kW5 : w15.cell? ⟨w3.heap.size, 5, none⟩ = some (.bool false) := (boxG (XW.out w15 (Below.refl _ _)) 5).1
    have kW6 : w15.cell? ⟨w3.heap.size, 6, none⟩ = some (.int .i64 0) := (boxG (XW.out w15 (Below.refl _ _)) 6).1
    have kU0 : w15.cell? ⟨w4.heap.size, 0, none⟩ = some (.slice ka0 l0 (l0 + kc0)) := (boxG (XU.out w15 (Below.refl _ _)) 0).1
    have kU1 : w15.cell? ⟨w4.heap.size, 1, none⟩ = some (.slice ka1 l1 (l1 + kc1)) := (boxG (XU.out w15 (Below.refl _ _)) 1).1
    have kG0 : w15.cell? ⟨w5.heap.size, 0, none⟩ = some (.slice none 0 0) := (boxG (XG.out w15 (Below.refl _ _)) 0).1
    have kG1 : w15.cell? ⟨w5.heap.size, 1, none⟩ = some (.slice none 0 0) := (boxG (XG.out w15 (Below.refl _ _)) 1).1
    have kG2 : w15.cell? ⟨w5.heap.size, 2, none⟩ = some (.slice none 0 0) := (boxG (XG.out w15 (Below.refl _ _)) 2).1
    have kG3 : w15.cell? ⟨w5.heap.size, 3, none⟩ = some (.int .i64 0) := (boxG (XG.out w15 (Below.refl _ _)) 3).1
    have kG4 : w15.cell? ⟨w5.heap.size, 4, none⟩ = some (.int .i64 0) := (boxG (XG.out w15 (Below.refl _ _)) 4).1
    have kG5 : w15.cell? ⟨w5.heap.size, 5, none⟩ = some (.bool false) := (boxG (XG.out w15 (Below.refl _ _)) 5).1
    have kG6 : w15.cell? ⟨w5.heap.size, 6, none⟩ = some (.int .i64 0) := (boxG (XG.out w15 (Below.refl _ _)) 6).1
    have kH0 : w15.cell? ⟨w14.heap.size, 0, none⟩ = some (.slice none 0 0) := (boxG (XH.out w15 (Below.refl _ _)) 0).1
    have kH1 : w15.cell? ⟨w14.heap.size, 1, none⟩ = some (.slice none 0 0) := (boxG (XH.out w15 (Below.refl _ _)) 1).1
    have kH2 : w15.cell? ⟨w14.heap.size, 2, none⟩ = some (.slice none 0 0) := (boxG (XH.out w15 (Below.refl _ _)) 2).1
    have kH3 : w15.cell? ⟨w14.heap.size, 3, none⟩ = some (.int .i64 0) := (boxG (XH.out w15 (Below.refl _ _)) 3).1
    have kH4 : w15.cell? ⟨w14.heap.size, 4, none⟩ = some (.int .i64 0) := (boxG (XH.out w15 (Below.refl _ _)) 4).1
    have kH5 : w15.cell? ⟨w14.heap.size, 5, none⟩ = some (.bool false) := (boxG (XH.out w15 (Below.refl _ _)) 5).1
    have kH6 : w15.cell? ⟨w14.heap.size, 6, none⟩ = some (.int .i64 0) := (boxG (XH.out w15 (Below.refl _ _)) 6).1
    have BP : Hid (Below w15.heap.size w15 w15) := Below.refl _ _
    go_wp2_with fail
    refine (heldNone _).mono ?_
    rintro e w16 ⟨rfl, hb⟩
    have hq : Below w15.heap.size w15 w16 := BP.out.trans (Below.mono hb BP.out.size)
    replace B : Hid (∀ y, Below w16.heap.size w16 y → Below w.heap.size w y) := fun y hy => B.out y (hq.trans (hy.mono hq.size))
    replace XA : Hid (∀ y, Below w16.heap.size w16 y → y.heap[w.heap.size]? = some (.cells #[.slice a0 l0 c0, .slice a1 l1 c1] 25 (0, 0))) := fun y hy => XA.out y (hq.trans (hy.mono hq.size))
    replace lA : w.heap.size < w16.heap.size := Nat.lt_of_lt_of_le lA hq.size
    replace XW : Hid (∀ y, Below w16.heap.size w16 y → y.heap[w3.heap.size]? = some (.cells #[.slice none 0 0, .slice none 0 0, .slice none 0 0, .int .i64 0, .int .i64 0, .bool false, .int .i64 0] 33 (0, 0))) := fun y hy => XW.out y (hq.trans (hy.mono hq.size))
    replace lW : w3.heap.size < w16.heap.size := Nat.lt_of_lt_of_le lW hq.size
    replace XU : Hid (∀ y, Below w16.heap.size w16 y → y.heap[w4.heap.size]? = some (.cells #[.slice ka0 l0 (l0 + kc0), .slice ka1 l1 (l1 + kc1)] 38 (0, 0))) := fun y hy => XU.out y (hq.trans (hy.mono hq.size))
    replace lU : w4.heap.size < w16.heap.size := Nat.lt_of_lt_of_le lU hq.size
    replace XG : Hid (∀ y, Below w16.heap.size w16 y → y.heap[w5.heap.size]? = some (.cells #[.slice none 0 0, .slice none 0 0, .slice none 0 0, .int .i64 0, .int .i64 0, .bool false, .int .i64 0] 33 (0, 0))) := fun y hy => XG.out y (hq.trans (hy.mono hq.size))
    replace lG : w5.heap.size < w16.heap.size := Nat.lt_of_lt_of_le lG hq.size
    replace XH : Hid (∀ y, Below w16.heap.size w16 y → y.heap[w14.heap.size]? = some (.cells #[.slice none 0 0, .slice none 0 0, .slice none 0 0, .int .i64 0, .int .i64 0, .bool false, .int .i64 0] 33 (0, 0))) := fun y hy => XH.out y (hq.trans (hy.mono hq.size))
    replace lH : w14.heap.size < w16.heap.size := Nat.lt_of_lt_of_le lH hq.size
    have zw16 : w15.heap.size ≤ w16.heap.size := hq.size
    clear hq BP
    clear kA0 kA1 kW0 kW1 kW2 kW3 kW4 kW5 kW6 kU0 kU1 kG0 kG1 kG2 kG3 kG4 kG5 kG6 kH0 kH1 kH2 kH3 kH4 kH5 kH6
    clear hb
    have kA0 : w16.cell? ⟨w.heap.size, 0, none⟩ = some (.slice a0 l0 c0) := (boxG (XA.out w16 (Below.refl _ _)) 0).1
    have kA1 : w16.cell? ⟨w.heap.size, 1, none⟩ = some (.slice a1 l1 c1) := (boxG (XA.out w16 (Below.refl _ _)) 1).1
    have kW0 : w16.cell? ⟨w3.heap.size, 0, none⟩ = some (.slice none 0 0) := (boxG (XW.out w16 (Below.refl _ _)) 0).1
    have kW1 : w16.cell? ⟨w3.heap.size, 1, none⟩ = some (.slice none 0 0) := (boxG (XW.out w16 (Below.refl _ _)) 1).1
    have kW2 : w16.cell? ⟨w3.heap.size, 2, none⟩ = some (.slice none 0 0) := (boxG (XW.out w16 (Below.refl _ _)) 2).1
    have kW3 : w16.cell? ⟨w3.heap.size, 3, none⟩ = some (.int .i64 0) := (boxG (XW.out w16 (Below.refl _ _)) 3).1
    have kW4 : w16.cell? ⟨w3.heap.size, 4, none⟩ = some (.int .i64 0) := (boxG (XW.out w16 (Below.refl _ _)) 4).1
    have kW5 : w16.cell? ⟨w3.heap.size, 5, none⟩ = some (.bool false) := (boxG (XW.out w16 (Below.refl _ _)) 5).1
    have kW6 : w16.cell? ⟨w3.heap.size, 6, none⟩ = some (.int .i64 0) := (boxG (XW.out w16 (Below.refl _ _)) 6).1
    have kU0 : w16.cell? ⟨w4.heap.size, 0, none⟩ = some (.slice ka0 l0 (l0 + kc0)) := (boxG (XU.out w16 (Below.refl _ _)) 0).1
    have kU1 : w16.cell? ⟨w4.heap.size, 1, none⟩ = some (.slice ka1 l1 (l1 + kc1)) := (boxG (XU.out w16 (Below.refl _ _)) 1).1
    have kG0 : w16.cell? ⟨w5.heap.size, 0, none⟩ = some (.slice none 0 0) := (boxG (XG.out w16 (Below.refl _ _)) 0).1
    have kG1 : w16.cell? ⟨w5.heap.size, 1, none⟩ = some (.slice none 0 0) := (boxG (XG.out w16 (Below.refl _ _)) 1).1
    have kG2 : w16.cell? ⟨w5.heap.size, 2, none⟩ = some (.slice none 0 0) := (boxG (XG.out w16 (Below.refl _ _)) 2).1
    have kG3 : w16.cell? ⟨w5.heap.size, 3, none⟩ = some (.int .i64 0) := (boxG (XG.out w16 (Below.refl _ _)) 3).1
    have kG4 : w16.cell? ⟨w5.heap.size, 4, none⟩ = some (.int .i64 0) := (boxG (XG.out w16 (Below.refl _ _)) 4).1
    have kG5 : w16.cell? ⟨w5.heap.size, 5, none⟩ = some (.bool false) := (boxG (XG.out w16 (Below.refl _ _)) 5).1
    have kG6 : w16.cell? ⟨w5.heap.size, 6, none⟩ = some (.int .i64 0) := (boxG (XG.out w16 (Below.refl _ _)) 6).1
    have kH0 : w16.cell? ⟨w14.heap.size, 0, none⟩ = some (.slice none 0 0) := (boxG (XH.out w16 (Below.refl _ _)) 0).1
    have kH1 : w16.cell? ⟨w14.heap.size, 1, none⟩ = some (.slice none 0 0) := (boxG (XH.out w16 (Below.refl _ _)) 1).1
    have kH2 : w16.cell? ⟨w14.heap.size, 2, none⟩ = some (.slice none 0 0) := (boxG (XH.out w16 (Below.refl _ _)) 2).1
    have kH3 : w16.cell? ⟨w14.heap.size, 3, none⟩ = some (.int .i64 0) := (boxG (XH.out w16 (Below.refl _ _)) 3).1
    have kH4 : w16.cell? ⟨w14.heap.size, 4, none⟩ = some (.int .i64 0) := (boxG (XH.out w16 (Below.refl _ _)) 4).1
    have kH5 : w16.cell? ⟨w14.heap.size, 5, none⟩ = some (.bool false) := (boxG (XH.out w16 (Below.refl _ _)) 5).1
    have kH6 : w16.cell? ⟨w14.heap.size, 6, none⟩ = some (.int .i64 0) := (boxG (XH.out w16 (Below.refl _ _)) 6).1
    go_wp2_with fail
    go_ret
    exact ⟨rfl, B.out _ (Below.refl _ _)⟩
  · have OK : Hid (unitB L M = true) := ok
    obtain ⟨_, _, hn3⟩ := loc_ok ok
    obtain ⟨n, en⟩ : ∃ n, loc0 M = n := ⟨_, rfl⟩
    rw [en] at hn3
    have EN : Hid (loc0 M = n) := en
    clear ok en
    refine (machNewSpec _ _ _ _ _ _ L M _ U.out.cls V.out).mono ?_
    rintro e w3 hP
    obtain ⟨oa, oc, fa, fc, sa, sc, rfl, hS0, hS1, hb⟩ := hP.resolve_left (fun h => by rw [OK.out] at h; cases h.1) |>.2
    have BP : Hid (Below w2.heap.size w2 w2) := Below.refl _ _
    have hq : Below w2.heap.size w2 w3 := BP.out.trans (Below.mono hb BP.out.size)
    replace B : Hid (∀ y, Below w3.heap.size w3 y → Below w.heap.size w y) := fun y hy => B.out y (hq.trans (hy.mono hq.size))
    replace XA : Hid (∀ y, Below w3.heap.size w3 y → y.heap[w.heap.size]? = some (.cells #[.slice a0 l0 c0, .slice a1 l1 c1] 25 (0, 0))) := fun y hy => XA.out y (hq.trans (hy.mono hq.size))
    replace lA : w.heap.size < w3.heap.size := Nat.lt_of_lt_of_le lA hq.size
    have zw3 : w2.heap.size ≤ w3.heap.size := hq.size
    clear hq BP
    have S0 : Hid (∀ y, Below w3.heap.size w3 y → SlAt obR (fun b => b < w3.heap.size) y oa 7 faults) := fun y hy => (hS0.mono (fun b _ hb => hb)).later hy
    have S1 : Hid (∀ y, Below w3.heap.size w3 y → SlAt frR (fun b => b < w3.heap.size) y fa 1 [(0, 0, List.replicate n (false, 0), [])]) := fun y hy => by have := (hS1.mono (fun b _ hb => hb)).later hy; rwa [EN.out] at this
    clear hS0 hS1
    have yA : w.heap.size < w3.heap.size := lA
    clear hb hP U V
    have kA0 : w3.cell? ⟨w.heap.size, 0, none⟩ = some (.slice a0 l0 c0) := (boxG (XA.out w3 (Below.refl _ _)) 0).1
    have kA1 : w3.cell? ⟨w.heap.size, 1, none⟩ = some (.slice a1 l1 c1) := (boxG (XA.out w3 (Below.refl _ _)) 1).1
    have BP : Hid (Below w3.heap.size w3 (w3.alloc (.cells #[.slice oa 7 oc, .slice fa 1 fc, .slice sa 0 sc, .int .i64 0, .int .i64 0, .bool false, .int .i64 0] 33))) := (Below.refl _ _).alloc (Nat.le_refl _) _
    go_wp2_with fail
    refine (toRUnitF _ _ _ _ _ _ L M _ (H.out.later (B.out _ BP.out)) SL.out (HM.out.later (B.out _ BP.out)) SM.out).mono ?_
    rintro e w4 ⟨⟨ka0, kc0, ka1, kc1, rfl, hU, hV, hb⟩, hfz⟩
    have hq : Below w3.heap.size w3 w4 := BP.out.trans (Below.mono hb BP.out.size)
    replace B : Hid (∀ y, Below w4.heap.size w4 y → Below w.heap.size w y) := fun y hy => B.out y (hq.trans (hy.mono hq.size))
    replace S0 : Hid (∀ y, Below w4.heap.size w4 y → SlAt obR (fun b => b < w3.heap.size) y oa 7 faults) := fun y hy => S0.out y (hq.trans (hy.mono hq.size))
    replace S1 : Hid (∀ y, Below w4.heap.size w4 y → SlAt frR (fun b => b < w3.heap.size) y fa 1 [(0, 0, List.replicate n (false, 0), [])]) := fun y hy => S1.out y (hq.trans (hy.mono hq.size))
    replace XA : Hid (∀ y, Below w4.heap.size w4 y → y.heap[w.heap.size]? = some (.cells #[.slice a0 l0 c0, .slice a1 l1 c1] 25 (0, 0))) := fun y hy => XA.out y (hq.trans (hy.mono hq.size))
    replace lA : w.heap.size < w4.heap.size := Nat.lt_of_lt_of_le lA hq.size
    have lW : w3.heap.size < w4.heap.size := Nat.lt_of_lt_of_le (by simp) (Below.size hb)
    have XW : Hid (∀ y, Below w4.heap.size w4 y → y.heap[w3.heap.size]? = some (.cells #[.slice oa 7 oc, .slice fa 1 fc, .slice sa 0 sc, .int .i64 0, .int .i64 0, .bool false, .int .i64 0] 33 (0, 0))) := fun y hy => (hy.block _ lW).trans ((Below.block hb _ (by simp)).trans (boxN _ _ _ _ rfl))
    have zw4 : w3.heap.size + 1 ≤ w4.heap.size := Nat.le_trans (Nat.le_of_eq (by simp)) (Below.size hb)
    clear hq BP
    clear kA0 kA1
    have T : Hid (∀ y, Below w4.heap.size w4 y → SlAt clR (fun b => w3.heap.size + 1 ≤ b ∧ b < w4.heap.size) y ka0 l0 L) := fun y hy => (hU.mono (fun b h1 h2 => ⟨by simpa using h1, h2⟩)).later hy
    have N : Hid (∀ y, Below w4.heap.size w4 y → SlAt meR (fun b => w3.heap.size + 1 ≤ b ∧ b < w4.heap.size) y ka1 l1 M) := fun y hy => (hV.mono (fun b h1 h2 => ⟨by simpa using h1, h2⟩)).later hy
    have FT : Hid (∀ y, Below w4.heap.size w4 y → Thw (fun b => w3.heap.size + 1 ≤ b ∧ b < w4.heap.size) y) := fun y hy b o hd => (hy.frozen (p := ⟨b, o, none⟩) hd.2).trans ((hfz _).trans (frozen_past _ _ _ (by simpa using hd.1)))
    clear hU hV hb hfz
    have kA0 : w4.cell? ⟨w.heap.size, 0, none⟩ = some (.slice a0 l0 c0) := (boxG (XA.out w4 (Below.refl _ _)) 0).1
    have kA1 : w4.cell? ⟨w.heap.size, 1, none⟩ = some (.slice a1 l1 c1) := (boxG (XA.out w4 (Below.refl _ _)) 1).1
    have kW0 : w4.cell? ⟨w3.heap.size, 0, none⟩ = some (.slice oa 7 oc) := (boxG (XW.out w4 (Below.refl _ _)) 0).1
    have kW1 : w4.cell? ⟨w3.heap.size, 1, none⟩ = some (.slice fa 1 fc) := (boxG (XW.out w4 (Below.refl _ _)) 1).1
    have kW2 : w4.cell? ⟨w3.heap.size, 2, none⟩ = some (.slice sa 0 sc) := (boxG (XW.out w4 (Below.refl _ _)) 2).1
    have kW3 : w4.cell? ⟨w3.heap.size, 3, none⟩ = some (.int .i64 0) := (boxG (XW.out w4 (Below.refl _ _)) 3).1
    have kW4 : w4.cell? ⟨w3.heap.size, 4, none⟩ = some (.int .i64 0) := (boxG (XW.out w4 (Below.refl _ _)) 4).1
    have kW5 : w4.cell? ⟨w3.heap.size, 5, none⟩ = some (.bool false) := (boxG (XW.out w4 (Below.refl _ _)) 5).1
    have kW6 : w4.cell? ⟨w3.heap.size, 6, none⟩ = some (.int .i64 0) := (boxG (XW.out w4 (Below.refl _ _)) 6).1
    have BP : Hid (Below w4.heap.size w4 (w4.alloc (.cells #[.slice ka0 l0 (l0 + kc0), .slice ka1 l1 (l1 + kc1)] 38))) := (Below.refl _ _).alloc (Nat.le_refl _) _
    go_wp2_with fail
    refine (machNewImpl _ _ _ _ _ _ L M _ (T.out _ BP.out).cls (N.out _ BP.out) (by omega)).mono ?_
    rintro e w5 hP
    obtain ⟨G, FB, LB, bs, rfl, hN, hb⟩ := hP.resolve_left (fun h => by rw [OK.out] at h; cases h.1) |>.2
    have hq : Below w4.heap.size w4 w5 := BP.out.trans (Below.mono hb BP.out.size)
    replace B : Hid (∀ y, Below w5.heap.size w5 y → Below w.heap.size w y) := fun y hy => B.out y (hq.trans (hy.mono hq.size))
    replace S0 : Hid (∀ y, Below w5.heap.size w5 y → SlAt obR (fun b => b < w3.heap.size) y oa 7 faults) := fun y hy => S0.out y (hq.trans (hy.mono hq.size))
    replace S1 : Hid (∀ y, Below w5.heap.size w5 y → SlAt frR (fun b => b < w3.heap.size) y fa 1 [(0, 0, List.replicate n (false, 0), [])]) := fun y hy => S1.out y (hq.trans (hy.mono hq.size))
    replace T : Hid (∀ y, Below w5.heap.size w5 y → SlAt clR (fun b => w3.heap.size + 1 ≤ b ∧ b < w4.heap.size) y ka0 l0 L) := fun y hy => T.out y (hq.trans (hy.mono hq.size))
    replace N : Hid (∀ y, Below w5.heap.size w5 y → SlAt meR (fun b => w3.heap.size + 1 ≤ b ∧ b < w4.heap.size) y ka1 l1 M) := fun y hy => N.out y (hq.trans (hy.mono hq.size))
    replace FT : Hid (∀ y, Below w5.heap.size w5 y → Thw (fun b => w3.heap.size + 1 ≤ b ∧ b < w4.heap.size) y) := fun y hy => FT.out y (hq.trans (hy.mono hq.size))
    replace XA : Hid (∀ y, Below w5.heap.size w5 y → y.heap[w.heap.size]? = some (.cells #[.slice a0 l0 c0, .slice a1 l1 c1] 25 (0, 0))) := fun y hy => XA.out y (hq.trans (hy.mono hq.size))
    replace lA : w.heap.size < w5.heap.size := Nat.lt_of_lt_of_le lA hq.size
    replace XW : Hid (∀ y, Below w5.heap.size w5 y → y.heap[w3.heap.size]? = some (.cells #[.slice oa 7 oc, .slice fa 1 fc, .slice sa 0 sc, .int .i64 0, .int .i64 0, .bool false, .int .i64 0] 33 (0, 0))) := fun y hy => XW.out y (hq.trans (hy.mono hq.size))
    replace lW : w3.heap.size < w5.heap.size := Nat.lt_of_lt_of_le lW hq.size
    have lU : w4.heap.size < w5.heap.size := Nat.lt_of_lt_of_le (by simp) (Below.size hb)
    have XU : Hid (∀ y, Below w5.heap.size w5 y → y.heap[w4.heap.size]? = some (.cells #[.slice ka0 l0 (l0 + kc0), .slice ka1 l1 (l1 + kc1)] 38 (0, 0))) := fun y hy => (hy.block _ lU).trans ((Below.block hb _ (by simp)).trans (boxN _ _ _ _ rfl))
    have zw5 : w4.heap.size + 1 ≤ w5.heap.size := Nat.le_trans (Nat.le_of_eq (by simp)) (Below.size hb)
    clear hq BP
    clear kA0 kA1 kW0 kW1 kW2 kW3 kW4 kW5 kW6
    rw [EN.out] at hN
    have GN : Hid (∀ y, Below w5.heap.size w5 y → NewM (w4.alloc (.cells #[.slice ka0 l0 (l0 + kc0), .slice ka1 l1 (l1 + kc1)] 38)) y n G FB LB bs) := fun y hy => hN.later hy
    have ND : Hid (∀ b, MB G FB LB bs b → w4.heap.size + 1 ≤ b ∧ b < w5.heap.size) := fun b hb => by have := hN.nd hb; simpa using this
    clear hN
    clear hb hP
    have kA0 : w5.cell? ⟨w.heap.size, 0, none⟩ = some (.slice a0 l0 c0) := (boxG (XA.out w5 (Below.refl _ _)) 0).1
    have kA1 : w5.cell? ⟨w.heap.size, 1, none⟩ = some (.slice a1 l1 c1) := (boxG (XA.out w5 (Below.refl _ _)) 1).1
    have kW0 : w5.cell? ⟨w3.heap.size, 0, none⟩ = some (.slice oa 7 oc) := (boxG (XW.out w5 (Below.refl _ _)) 0).1
    have kW1 : w5.cell? ⟨w3.heap.size, 1, none⟩ = some (.slice fa 1 fc) := (boxG (XW.out w5 (Below.refl _ _)) 1).1
    have kW2 : w5.cell? ⟨w3.heap.size, 2, none⟩ = some (.slice sa 0 sc) := (boxG (XW.out w5 (Below.refl _ _)) 2).1
    have kW3 : w5.cell? ⟨w3.heap.size, 3, none⟩ = some (.int .i64 0) := (boxG (XW.out w5 (Below.refl _ _)) 3).1
    have kW4 : w5.cell? ⟨w3.heap.size, 4, none⟩ = some (.int .i64 0) := (boxG (XW.out w5 (Below.refl _ _)) 4).1
    have kW5 : w5.cell? ⟨w3.heap.size, 5, none⟩ = some (.bool false) := (boxG (XW.out w5 (Below.refl _ _)) 5).1
    have kW6 : w5.cell? ⟨w3.heap.size, 6, none⟩ = some (.int .i64 0) := (boxG (XW.out w5 (Below.refl _ _)) 6).1
    have kU0 : w5.cell? ⟨w4.heap.size, 0, none⟩ = some (.slice ka0 l0 (l0 + kc0)) := (boxG (XU.out w5 (Below.refl _ _)) 0).1
    have kU1 : w5.cell? ⟨w4.heap.size, 1, none⟩ = some (.slice ka1 l1 (l1 + kc1)) := (boxG (XU.out w5 (Below.refl _ _)) 1).1
    have BP : Hid (Below w5.heap.size w5 (w5.alloc (.cells #[.slice (some ⟨G, 0, none⟩) 7 7, .slice (some ⟨FB, 0, none⟩) 1 1, .slice none 0 0, .int .i64 0, .int .i64 0, .bool false, .int .i64 0] 33))) := (Below.refl _ _).alloc (Nat.le_refl _) _
    go_wp2_with fail
    refine (eqRMach _ _ _ _ _ _ _ _ _ _ _ _ _ _ _ _ _ _ _ _ _ _ faults [(0, 0, List.replicate n (false, 0), [])] [] _ (((GN.out _ BP.out).sls hn3)).1 (S0.out _ BP.out) (((GN.out _ BP.out).sls hn3)).2 (S1.out _ BP.out) (sl_zero _ _) (sl_zero _ _)).mono ?_
    rintro e w6 ⟨rfl, hb⟩
    have hq : Below w5.heap.size w5 w6 := BP.out.trans (Below.mono hb BP.out.size)
    replace B : Hid (∀ y, Below w6.heap.size w6 y → Below w.heap.size w y) := fun y hy => B.out y (hq.trans (hy.mono hq.size))
    replace S0 : Hid (∀ y, Below w6.heap.size w6 y → SlAt obR (fun b => b < w3.heap.size) y oa 7 faults) := fun y hy => S0.out y (hq.trans (hy.mono hq.size))
    replace S1 : Hid (∀ y, Below w6.heap.size w6 y → SlAt frR (fun b => b < w3.heap.size) y fa 1 [(0, 0, List.replicate n (false, 0), [])]) := fun y hy => S1.out y (hq.trans (hy.mono hq.size))
    replace T : Hid (∀ y, Below w6.heap.size w6 y → SlAt clR (fun b => w3.heap.size + 1 ≤ b ∧ b < w4.heap.size) y ka0 l0 L) := fun y hy => T.out y (hq.trans (hy.mono hq.size))
    replace N : Hid (∀ y, Below w6.heap.size w6 y → SlAt meR (fun b => w3.heap.size + 1 ≤ b ∧ b < w4.heap.size) y ka1 l1 M) := fun y hy => N.out y (hq.trans (hy.mono hq.size))
    replace FT : Hid (∀ y, Below w6.heap.size w6 y → Thw (fun b => w3.heap.size + 1 ≤ b ∧ b < w4.heap.size) y) := fun y hy => FT.out y (hq.trans (hy.mono hq.size))
    replace GN : Hid (∀ y, Below w6.heap.size w6 y → NewM (w4.alloc (.cells #[.slice ka0 l0 (l0 + kc0), .slice ka1 l1 (l1 + kc1)] 38)) y n G FB LB bs) := fun y hy => GN.out y (hq.trans (hy.mono hq.size))
    replace XA : Hid (∀ y, Below w6.heap.size w6 y → y.heap[w.heap.size]? = some (.cells #[.slice a0 l0 c0, .slice a1 l1 c1] 25 (0, 0))) := fun y hy => XA.out y (hq.trans (hy.mono hq.size))
    replace lA : w.heap.size < w6.heap.size := Nat.lt_of_lt_of_le lA hq.size
    replace XW : Hid (∀ y, Below w6.heap.size w6 y → y.heap[w3.heap.size]? = some (.cells #[.slice oa 7 oc, .slice fa 1 fc, .slice sa 0 sc, .int .i64 0, .int .i64 0, .bool false, .int .i64 0] 33 (0, 0))) := fun y hy => XW.out y (hq.trans (hy.mono hq.size))
    replace lW : w3.heap.size < w6.heap.size := Nat.lt_of_lt_of_le lW hq.size
    replace XU : Hid (∀ y, Below w6.heap.size w6 y → y.heap[w4.heap.size]? = some (.cells #[.slice ka0 l0 (l0 + kc0), .slice ka1 l1 (l1 + kc1)] 38 (0, 0))) := fun y hy => XU.out y (hq.trans (hy.mono hq.size))
    replace lU : w4.heap.size < w6.heap.size := Nat.lt_of_lt_of_le lU hq.size
    have lG : w5.heap.size < w6.heap.size := Nat.lt_of_lt_of_le (by simp) (Below.size hb)
    have XG : Hid (∀ y, Below w6.heap.size w6 y → y.heap[w5.heap.size]? = some (.cells #[.slice (some ⟨G, 0, none⟩) 7 7, .slice (some ⟨FB, 0, none⟩) 1 1, .slice none 0 0, .int .i64 0, .int .i64 0, .bool false, .int .i64 0] 33 (0, 0))) := fun y hy => (hy.block _ lG).trans ((Below.block hb _ (by simp)).trans (boxN _ _ _ _ rfl))
    have zw6 : w5.heap.size + 1 ≤ w6.heap.size := Nat.le_trans (Nat.le_of_eq (by simp)) (Below.size hb)
    clear hq BP
    clear kA0 kA1 kW0 kW1 kW2 kW3 kW4 kW5 kW6 kU0 kU1
    clear hb
    have kA0 : w6.cell? ⟨w.heap.size, 0, none⟩ = some (.slice a0 l0 c0) := (boxG (XA.out w6 (Below.refl _ _)) 0).1
    have kA1 : w6.cell? ⟨w.heap.size, 1, none⟩ = some (.slice a1 l1 c1) := (boxG (XA.out w6 (Below.refl _ _)) 1).1
    have kU0 : w6.cell? ⟨w4.heap.size, 0, none⟩ = some (.slice ka0 l0 (l0 + kc0)) := (boxG (XU.out w6 (Below.refl _ _)) 0).1
    have kU1 : w6.cell? ⟨w4.heap.size, 1, none⟩ = some (.slice ka1 l1 (l1 + kc1)) := (boxG (XU.out w6 (Below.refl _ _)) 1).1
    go_wp2_with fail
    have KS : Hid (∀ x, Below w6.heap.size w6 x → x.cell? ⟨w.heap.size, 0, none⟩ = some (.slice a0 l0 c0) ∧ x.cell? ⟨w.heap.size, 1, none⟩ = some (.slice a1 l1 c1) ∧ x.cell? ⟨w4.heap.size, 0, none⟩ = some (.slice ka0 l0 (l0 + kc0)) ∧ x.cell? ⟨w4.heap.size, 1, none⟩ = some (.slice ka1 l1 (l1 + kc1))) := fun x hx => ⟨(boxG (XA.out x hx) 0).1, (boxG (XA.out x hx) 1).1, (boxG (XU.out x hx) 0).1, (boxG (XU.out x hx) 1).1⟩
    refine wp_region_held_drew (S := fun x => x.cell? ⟨w.heap.size, 0, none⟩ = some (.slice a0 l0 c0) ∧ x.cell? ⟨w.heap.size, 1, none⟩ = some (.slice a1 l1 c1) ∧ x.cell? ⟨w4.heap.size, 0, none⟩ = some (.slice ka0 l0 (l0 + kc0)) ∧ x.cell? ⟨w4.heap.size, 1, none⟩ = some (.slice ka1 l1 (l1 + kc1))) (by kernel_rfl) ?_ (fun hHeld => ?_)
    · exact KS.out _ (below_drewN (Below.refl _ _) 1)
    refine wpAnyH_take (i := 0) (v := .agg #[.slice ka0 l0 (l0 + kc0), .slice ka1 l1 (l1 + kc1)]) rfl (by kernel_rfl) (by kernel_rfl) (by kernel_rfl) (fun _ _ _ h => h) (Or.inl ⟨by kernel_rfl, by (intro x hSx; (try dsimp only at hSx); go_simp)⟩) (by assumption) ?_
    try simp only [Act.put, List.getElem_toArray, List.getElem_cons_zero, List.setIfInBounds_toArray, List.set_cons_zero, List.set_cons_succ]
    refine wpAnyH_take (i := 1) (v := .agg #[.slice a0 l0 c0, .slice a1 l1 c1]) rfl (by kernel_rfl) (by kernel_rfl) (by kernel_rfl) (fun _ _ _ h => h) (Or.inl ⟨by kernel_rfl, by (intro x hSx; (try dsimp only at hSx); go_simp)⟩) (by assumption) ?_
    try simp only [Act.put, List.getElem_toArray, List.getElem_cons_zero, List.getElem_cons_succ, List.setIfInBounds_toArray, List.set_cons_zero, List.set_cons_succ]
    refine wpAnyH_ready (rs := [2]) (by kernel_rfl) (by simp) ?_
    refine AllReadyH.cons rfl (fun K hK => ?_) AllReadyH.nil
    go_simp
    go_at_call 7
    refine (toRUnit _ _ _ _ _ _ L M _ (H.out.later (B.out _ (below_drewN (Below.refl _ _) 1))) SL.out (HM.out.later (B.out _ (below_drewN (Below.refl _ _) 1))) SM.out).mono ?_
    rintro e w7 ⟨ja0, jc0, ja1, jc1, rfl, hU, hV, hb7⟩
    have hb : Below w6.heap.size w6 w7 := (below_drewN (Below.refl _ _) 1).trans (hb7.mono (Nat.le_refl _))
    have BP : Hid (Below w6.heap.size w6 w6) := Below.refl _ _
    have hq : Below w6.heap.size w6 w7 := BP.out.trans (Below.mono hb BP.out.size)
    replace B : Hid (∀ y, Below w7.heap.size w7 y → Below w.heap.size w y) := fun y hy => B.out y (hq.trans (hy.mono hq.size))
    replace S0 : Hid (∀ y, Below w7.heap.size w7 y → SlAt obR (fun b => b < w3.heap.size) y oa 7 faults) := fun y hy => S0.out y (hq.trans (hy.mono hq.size))
    replace S1 : Hid (∀ y, Below w7.heap.size w7 y → SlAt frR (fun b => b < w3.heap.size) y fa 1 [(0, 0, List.replicate n (false, 0), [])]) := fun y hy => S1.out y (hq.trans (hy.mono hq.size))
    replace T : Hid (∀ y, Below w7.heap.size w7 y → SlAt clR (fun b => w3.heap.size + 1 ≤ b ∧ b < w4.heap.size) y ka0 l0 L) := fun y hy => T.out y (hq.trans (hy.mono hq.size))
    replace N : Hid (∀ y, Below w7.heap.size w7 y → SlAt meR (fun b => w3.heap.size + 1 ≤ b ∧ b < w4.heap.size) y ka1 l1 M) := fun y hy => N.out y (hq.trans (hy.mono hq.size))
    replace FT : Hid (∀ y, Below w7.heap.size w7 y → Thw (fun b => w3.heap.size + 1 ≤ b ∧ b < w4.heap.size) y) := fun y hy => FT.out y (hq.trans (hy.mono hq.size))
    replace GN : Hid (∀ y, Below w7.heap.size w7 y → NewM (w4.alloc (.cells #[.slice ka0 l0 (l0 + kc0), .slice ka1 l1 (l1 + kc1)] 38)) y n G FB LB bs) := fun y hy => GN.out y (hq.trans (hy.mono hq.size))
    replace XA : Hid (∀ y, Below w7.heap.size w7 y → y.heap[w.heap.size]? = some (.cells #[.slice a0 l0 c0, .slice a1 l1 c1] 25 (0, 0))) := fun y hy => XA.out y (hq.trans (hy.mono hq.size))
    replace lA : w.heap.size < w7.heap.size := Nat.lt_of_lt_of_le lA hq.size
    replace XW : Hid (∀ y, Below w7.heap.size w7 y → y.heap[w3.heap.size]? = some (.cells #[.slice oa 7 oc, .slice fa 1 fc, .slice sa 0 sc, .int .i64 0, .int .i64 0, .bool false, .int .i64 0] 33 (0, 0))) := fun y hy => XW.out y (hq.trans (hy.mono hq.size))
    replace lW : w3.heap.size < w7.heap.size := Nat.lt_of_lt_of_le lW hq.size
    replace XU : Hid (∀ y, Below w7.heap.size w7 y → y.heap[w4.heap.size]? = some (.cells #[.slice ka0 l0 (l0 + kc0), .slice ka1 l1 (l1 + kc1)] 38 (0, 0))) := fun y hy => XU.out y (hq.trans (hy.mono hq.size))
    replace lU : w4.heap.size < w7.heap.size := Nat.lt_of_lt_of_le lU hq.size
    replace XG : Hid (∀ y, Below w7.heap.size w7 y → y.heap[w5.heap.size]? = some (.cells #[.slice (some ⟨G, 0, none⟩) 7 7, .slice (some ⟨FB, 0, none⟩) 1 1, .slice none 0 0, .int .i64 0, .int .i64 0, .bool false, .int .i64 0] 33 (0, 0))) := fun y hy => XG.out y (hq.trans (hy.mono hq.size))
    replace lG : w5.heap.size < w7.heap.size := Nat.lt_of_lt_of_le lG hq.size
    have zw7 : w6.heap.size ≤ w7.heap.size := hq.size
    clear hq BP
    replace KS : Hid (∀ x, Below w7.heap.size w7 x → x.cell? ⟨w.heap.size, 0, none⟩ = some (.slice a0 l0 c0) ∧ x.cell? ⟨w.heap.size, 1, none⟩ = some (.slice a1 l1 c1) ∧ x.cell? ⟨w4.heap.size, 0, none⟩ = some (.slice ka0 l0 (l0 + kc0)) ∧ x.cell? ⟨w4.heap.size, 1, none⟩ = some (.slice ka1 l1 (l1 + kc1))) := fun x hx => ⟨(boxG (XA.out x hx) 0).1, (boxG (XA.out x hx) 1).1, (boxG (XU.out x hx) 0).1, (boxG (XU.out x hx) 1).1⟩
    have Y0 : Hid (SlAt clR _ w7 ja0 l0 L) := hU
    have Y1 : Hid (SlAt meR _ w7 ja1 l1 M) := hV
    clear hU hV hb hb7
    go_wp2_with fail
    refine hK.out _ _ (KS.out _ (Below.refl _ _)) (fun hHeld2 => ?_)
    clear hK K
    try simp only [Act.put, List.getElem_toArray, List.getElem_cons_zero, List.getElem_cons_succ, List.setIfInBounds_toArray, List.set_cons_zero, List.set_cons_succ]
    refine wpAnyH_ready (rs := [3]) (by kernel_rfl) (by simp) ?_
    refine AllReadyH.cons rfl (fun K hK => ?_) AllReadyH.nil
    go_simp
    go_at_call 10
    refine (eqRUnit _ _ _ _ _ _ _ _ _ _ _ _ L M _ (T.out _ (Below.refl _ _)) Y0.out (N.out _ (Below.refl _ _)) Y1.out).mono ?_
    rintro e w8 ⟨rfl, hb⟩
    have BP : Hid (Below w7.heap.size w7 w7) := Below.refl _ _
    have hq : Below w7.heap.size w7 w8 := BP.out.trans (Below.mono hb BP.out.size)
    replace B : Hid (∀ y, Below w8.heap.size w8 y → Below w.heap.size w y) := fun y hy => B.out y (hq.trans (hy.mono hq.size))
    replace S0 : Hid (∀ y, Below w8.heap.size w8 y → SlAt obR (fun b => b < w3.heap.size) y oa 7 faults) := fun y hy => S0.out y (hq.trans (hy.mono hq.size))
    replace S1 : Hid (∀ y, Below w8.heap.size w8 y → SlAt frR (fun b => b < w3.heap.size) y fa 1 [(0, 0, List.replicate n (false, 0), [])]) := fun y hy => S1.out y (hq.trans (hy.mono hq.size))
    replace T : Hid (∀ y, Below w8.heap.size w8 y → SlAt clR (fun b => w3.heap.size + 1 ≤ b ∧ b < w4.heap.size) y ka0 l0 L) := fun y hy => T.out y (hq.trans (hy.mono hq.size))
    replace N : Hid (∀ y, Below w8.heap.size w8 y → SlAt meR (fun b => w3.heap.size + 1 ≤ b ∧ b < w4.heap.size) y ka1 l1 M) := fun y hy => N.out y (hq.trans (hy.mono hq.size))
    replace FT : Hid (∀ y, Below w8.heap.size w8 y → Thw (fun b => w3.heap.size + 1 ≤ b ∧ b < w4.heap.size) y) := fun y hy => FT.out y (hq.trans (hy.mono hq.size))
    replace GN : Hid (∀ y, Below w8.heap.size w8 y → NewM (w4.alloc (.cells #[.slice ka0 l0 (l0 + kc0), .slice ka1 l1 (l1 + kc1)] 38)) y n G FB LB bs) := fun y hy => GN.out y (hq.trans (hy.mono hq.size))
    replace XA : Hid (∀ y, Below w8.heap.size w8 y → y.heap[w.heap.size]? = some (.cells #[.slice a0 l0 c0, .slice a1 l1 c1] 25 (0, 0))) := fun y hy => XA.out y (hq.trans (hy.mono hq.size))
    replace lA : w.heap.size < w8.heap.size := Nat.lt_of_lt_of_le lA hq.size
    replace XW : Hid (∀ y, Below w8.heap.size w8 y → y.heap[w3.heap.size]? = some (.cells #[.slice oa 7 oc, .slice fa 1 fc, .slice sa 0 sc, .int .i64 0, .int .i64 0, .bool false, .int .i64 0] 33 (0, 0))) := fun y hy => XW.out y (hq.trans (hy.mono hq.size))
    replace lW : w3.heap.size < w8.heap.size := Nat.lt_of_lt_of_le lW hq.size
    replace XU : Hid (∀ y, Below w8.heap.size w8 y → y.heap[w4.heap.size]? = some (.cells #[.slice ka0 l0 (l0 + kc0), .slice ka1 l1 (l1 + kc1)] 38 (0, 0))) := fun y hy => XU.out y (hq.trans (hy.mono hq.size))
    replace lU : w4.heap.size < w8.heap.size := Nat.lt_of_lt_of_le lU hq.size
    replace XG : Hid (∀ y, Below w8.heap.size w8 y → y.heap[w5.heap.size]? = some (.cells #[.slice (some ⟨G, 0, none⟩) 7 7, .slice (some ⟨FB, 0, none⟩) 1 1, .slice none 0 0, .int .i64 0, .int .i64 0, .bool false, .int .i64 0] 33 (0, 0))) := fun y hy => XG.out y (hq.trans (hy.mono hq.size))
    replace lG : w5.heap.size < w8.heap.size := Nat.lt_of_lt_of_le lG hq.size
    have zw8 : w7.heap.size ≤ w8.heap.size := hq.size
    clear hq BP
    replace KS : Hid (∀ x, Below w8.heap.size w8 x → x.cell? ⟨w.heap.size, 0, none⟩ = some (.slice a0 l0 c0) ∧ x.cell? ⟨w.heap.size, 1, none⟩ = some (.slice a1 l1 c1) ∧ x.cell? ⟨w4.heap.size, 0, none⟩ = some (.slice ka0 l0 (l0 + kc0)) ∧ x.cell? ⟨w4.heap.size, 1, none⟩ = some (.slice ka1 l1 (l1 + kc1))) := fun x hx => ⟨(boxG (XA.out x hx) 0).1, (boxG (XA.out x hx) 1).1, (boxG (XU.out x hx) 0).1, (boxG (XU.out x hx) 1).1⟩
    clear Y0 Y1 hb
    go_wp2_with fail
    refine hK.out _ _ (KS.out _ (Below.refl _ _)) (fun hHeld3 => ?_)
    clear hK K
    try simp only [Act.put, List.getElem_toArray, List.getElem_cons_zero, List.getElem_cons_succ, List.setIfInBounds_toArray, List.set_cons_zero, List.set_cons_succ]
    refine wpAnyH_take (i := 4) (v := .bool false) rfl (by kernel_rfl) (by kernel_rfl) (by kernel_rfl) (fun _ _ _ h => h) (Or.inl ⟨by kernel_rfl, by (intro x hSx; (try dsimp only at hSx); go_simp)⟩) (by assumption) ?_
    try simp only [Act.put, List.getElem_toArray, List.getElem_cons_zero, List.getElem_cons_succ, List.setIfInBounds_toArray, List.set_cons_zero, List.set_cons_succ]
    refine wpAnyH_done (by kernel_rfl) ?_ _
    clear hHeld hHeld2 hHeld3
    clear kA0 kA1 kU0 kU1
    clear KS
    have kA0 : w8.cell? ⟨w.heap.size, 0, none⟩ = some (.slice a0 l0 c0) := (boxG (XA.out w8 (Below.refl _ _)) 0).1
    have kA1 : w8.cell? ⟨w.heap.size, 1, none⟩ = some (.slice a1 l1 c1) := (boxG (XA.out w8 (Below.refl _ _)) 1).1
    have kW0 : w8.cell? ⟨w3.heap.size, 0, none⟩ = some (.slice oa 7 oc) := (boxG (XW.out w8 (Below.refl _ _)) 0).1
    have kW1 : w8.cell? ⟨w3.heap.size, 1, none⟩ = some (.slice fa 1 fc) := (boxG (XW.out w8 (Below.refl _ _)) 1).1
    have kW2 : w8.cell? ⟨w3.heap.size, 2, none⟩ = some (.slice sa 0 sc) := (boxG (XW.out w8 (Below.refl _ _)) 2).1
    have kW3 : w8.cell? ⟨w3.heap.size, 3, none⟩ = some (.int .i64 0) := (boxG (XW.out w8 (Below.refl _ _)) 3).1
    have kW4 : w8.cell? ⟨w3.heap.size, 4, none⟩ = some (.int .i64 0) := (boxG (XW.out w8 (Below.refl _ _)) 4).1
    have kW5 : w8.cell? ⟨w3.heap.size, 5, none⟩ = some (.bool false) := (boxG (XW.out w8 (Below.refl _ _)) 5).1
    have kW6 : w8.cell? ⟨w3.heap.size, 6, none⟩ = some (.int .i64 0) := (boxG (XW.out w8 (Below.refl _ _)) 6).1
    have kU0 : w8.cell? ⟨w4.heap.size, 0, none⟩ = some (.slice ka0 l0 (l0 + kc0)) := (boxG (XU.out w8 (Below.refl _ _)) 0).1
    have kU1 : w8.cell? ⟨w4.heap.size, 1, none⟩ = some (.slice ka1 l1 (l1 + kc1)) := (boxG (XU.out w8 (Below.refl _ _)) 1).1
    have kG0 : w8.cell? ⟨w5.heap.size, 0, none⟩ = some (.slice (some ⟨G, 0, none⟩) 7 7) := (boxG (XG.out w8 (Below.refl _ _)) 0).1
    have kG1 : w8.cell? ⟨w5.heap.size, 1, none⟩ = some (.slice (some ⟨FB, 0, none⟩) 1 1) := (boxG (XG.out w8 (Below.refl _ _)) 1).1
    have kG2 : w8.cell? ⟨w5.heap.size, 2, none⟩ = some (.slice none 0 0) := (boxG (XG.out w8 (Below.refl _ _)) 2).1
    have kG3 : w8.cell? ⟨w5.heap.size, 3, none⟩ = some (.int .i64 0) := (boxG (XG.out w8 (Below.refl _ _)) 3).1
    have kG4 : w8.cell? ⟨w5.heap.size, 4, none⟩ = some (.int .i64 0) := (boxG (XG.out w8 (Below.refl _ _)) 4).1
    have kG5 : w8.cell? ⟨w5.heap.size, 5, none⟩ = some (.bool false) := (boxG (XG.out w8 (Below.refl _ _)) 5).1
    have kG6 : w8.cell? ⟨w5.heap.size, 6, none⟩ = some (.int .i64 0) := (boxG (XG.out w8 (Below.refl _ _)) 6).1
    go_wp2_with fail
    refine (markRUnit _ _ _ _ _ _ _ (D := fun b => w3.heap.size + 1 ≤ b ∧ b < w4.heap.size) (SlP.of (T.out _ (Below.refl _ _)) SL.out) (SlP.of (N.out _ (Below.refl _ _)) SM.out) (FT.out _ (Below.refl _ _))).mono ?_
    rintro e w9 ⟨k, rfl, hk, hc⟩
    clear kA0 kA1 kW0 kW1 kW2 kW3 kW4 kW5 kW6 kU0 kU1 kG0 kG1 kG2 kG3 kG4 kG5 kG6
    replace XA : Hid (∀ y, Below w9.heap.size w9 y → y.heap[w.heap.size]? = some (.cells #[.slice a0 l0 c0, .slice a1 l1 c1] 25 (0, 0))) := fun y hy => (hy.block _ (Nat.lt_of_lt_of_le lA (Chg.size hc))).trans ((Chg.block hc _ lA (fun hd => by have h1 := hd.1; have h2 := hd.2; omega)).trans (XA.out w8 (Below.refl _ _)))
    replace lA : w.heap.size < w9.heap.size := Nat.lt_of_lt_of_le lA (Chg.size hc)
    replace XW : Hid (∀ y, Below w9.heap.size w9 y → y.heap[w3.heap.size]? = some (.cells #[.slice oa 7 oc, .slice fa 1 fc, .slice sa 0 sc, .int .i64 0, .int .i64 0, .bool false, .int .i64 0] 33 (0, 0))) := fun y hy => (hy.block _ (Nat.lt_of_lt_of_le lW (Chg.size hc))).trans ((Chg.block hc _ lW (fun hd => by have h1 := hd.1; have h2 := hd.2; omega)).trans (XW.out w8 (Below.refl _ _)))
    replace lW : w3.heap.size < w9.heap.size := Nat.lt_of_lt_of_le lW (Chg.size hc)
    replace XU : Hid (∀ y, Below w9.heap.size w9 y → y.heap[w4.heap.size]? = some (.cells #[.slice ka0 l0 (l0 + kc0), .slice ka1 l1 (l1 + kc1)] 38 (0, 0))) := fun y hy => (hy.block _ (Nat.lt_of_lt_of_le lU (Chg.size hc))).trans ((Chg.block hc _ lU (fun hd => by have h1 := hd.1; have h2 := hd.2; omega)).trans (XU.out w8 (Below.refl _ _)))
    replace lU : w4.heap.size < w9.heap.size := Nat.lt_of_lt_of_le lU (Chg.size hc)
    replace XG : Hid (∀ y, Below w9.heap.size w9 y → y.heap[w5.heap.size]? = some (.cells #[.slice (some ⟨G, 0, none⟩) 7 7, .slice (some ⟨FB, 0, none⟩) 1 1, .slice none 0 0, .int .i64 0, .int .i64 0, .bool false, .int .i64 0] 33 (0, 0))) := fun y hy => (hy.block _ (Nat.lt_of_lt_of_le lG (Chg.size hc))).trans ((Chg.block hc _ lG (fun hd => by have h1 := hd.1; have h2 := hd.2; omega)).trans (XG.out w8 (Below.refl _ _)))
    replace lG : w5.heap.size < w9.heap.size := Nat.lt_of_lt_of_le lG (Chg.size hc)
    have zw9 : w8.heap.size ≤ w9.heap.size := Chg.size hc
    replace B : Hid (∀ y, Below w9.heap.size w9 y → Below w.heap.size w y) := fun y hy => ((B.out _ (Below.refl _ _)).trans (hc.below (Below.size (B.out _ (Below.refl _ _))) (fun i hi hd => by have := hd.1; omega))).trans (hy.mono (by omega))
    replace S0 : Hid (∀ y, Below w9.heap.size w9 y → SlAt obR (fun b => b < w3.heap.size) y oa 7 faults) := fun y hy => ((S0.out _ (Below.refl _ _)).keep (fun b o hd hl => hc.cell b o hl (fun hh => by have := hh.1; omega))).later hy
    replace S1 : Hid (∀ y, Below w9.heap.size w9 y → SlAt frR (fun b => b < w3.heap.size) y fa 1 [(0, 0, List.replicate n (false, 0), [])]) := fun y hy => ((S1.out _ (Below.refl _ _)).keep (fun b o hd hl => hc.cell b o hl (fun hh => by have := hh.1; omega))).later hy
    clear T
    clear N
    clear FT
    replace GN : Hid (∀ y, Below w9.heap.size w9 y → NewM (w4.alloc (.cells #[.slice ka0 l0 (l0 + kc0), .slice ka1 l1 (l1 + kc1)] 38)) y n G FB LB bs) := fun y hy => ((GN.out _ (Below.refl _ _)).keep (fun x hx => hc.block x (by have := ND.out x hx; omega) (fun hd => by have := ND.out x hx; have := hd.2; omega)) hc.size).later hy
    have hk' : ¬ k < 0 := by omega
    clear hc
    have kA0 : w9.cell? ⟨w.heap.size, 0, none⟩ = some (.slice a0 l0 c0) := (boxG (XA.out w9 (Below.refl _ _)) 0).1
    have kA1 : w9.cell? ⟨w.heap.size, 1, none⟩ = some (.slice a1 l1 c1) := (boxG (XA.out w9 (Below.refl _ _)) 1).1
    have kW0 : w9.cell? ⟨w3.heap.size, 0, none⟩ = some (.slice oa 7 oc) := (boxG (XW.out w9 (Below.refl _ _)) 0).1
    have kW1 : w9.cell? ⟨w3.heap.size, 1, none⟩ = some (.slice fa 1 fc) := (boxG (XW.out w9 (Below.refl _ _)) 1).1
    have kW2 : w9.cell? ⟨w3.heap.size, 2, none⟩ = some (.slice sa 0 sc) := (boxG (XW.out w9 (Below.refl _ _)) 2).1
    have kW3 : w9.cell? ⟨w3.heap.size, 3, none⟩ = some (.int .i64 0) := (boxG (XW.out w9 (Below.refl _ _)) 3).1
    have kW4 : w9.cell? ⟨w3.heap.size, 4, none⟩ = some (.int .i64 0) := (boxG (XW.out w9 (Below.refl _ _)) 4).1
    have kW5 : w9.cell? ⟨w3.heap.size, 5, none⟩ = some (.bool false) := (boxG (XW.out w9 (Below.refl _ _)) 5).1
    have kW6 : w9.cell? ⟨w3.heap.size, 6, none⟩ = some (.int .i64 0) := (boxG (XW.out w9 (Below.refl _ _)) 6).1
    have kU0 : w9.cell? ⟨w4.heap.size, 0, none⟩ = some (.slice ka0 l0 (l0 + kc0)) := (boxG (XU.out w9 (Below.refl _ _)) 0).1
    have kU1 : w9.cell? ⟨w4.heap.size, 1, none⟩ = some (.slice ka1 l1 (l1 + kc1)) := (boxG (XU.out w9 (Below.refl _ _)) 1).1
    have kG0 : w9.cell? ⟨w5.heap.size, 0, none⟩ = some (.slice (some ⟨G, 0, none⟩) 7 7) := (boxG (XG.out w9 (Below.refl _ _)) 0).1
    have kG1 : w9.cell? ⟨w5.heap.size, 1, none⟩ = some (.slice (some ⟨FB, 0, none⟩) 1 1) := (boxG (XG.out w9 (Below.refl _ _)) 1).1
    have kG2 : w9.cell? ⟨w5.heap.size, 2, none⟩ = some (.slice none 0 0) := (boxG (XG.out w9 (Below.refl _ _)) 2).1
    have kG3 : w9.cell? ⟨w5.heap.size, 3, none⟩ = some (.int .i64 0) := (boxG (XG.out w9 (Below.refl _ _)) 3).1
    have kG4 : w9.cell? ⟨w5.heap.size, 4, none⟩ = some (.int .i64 0) := (boxG (XG.out w9 (Below.refl _ _)) 4).1
    have kG5 : w9.cell? ⟨w5.heap.size, 5, none⟩ = some (.bool false) := (boxG (XG.out w9 (Below.refl _ _)) 5).1
    have kG6 : w9.cell? ⟨w5.heap.size, 6, none⟩ = some (.int .i64 0) := (boxG (XG.out w9 (Below.refl _ _)) 6).1
    have BP : Hid (Below w9.heap.size w9 w9) := Below.refl _ _
    go_wp2_with fail
    refine (eqRMach _ _ _ _ _ _ _ _ _ _ _ _ _ _ _ _ _ _ _ _ _ _ faults [(0, 0, List.replicate n (false, 0), [])] [] _ (((GN.out _ BP.out).sls hn3)).1 (S0.out _ BP.out) (((GN.out _ BP.out).sls hn3)).2 (S1.out _ BP.out) (sl_zero _ _) (sl_zero _ _)).mono ?_
    rintro e w10 ⟨rfl, hb⟩
    have hq : Below w9.heap.size w9 w10 := BP.out.trans (Below.mono hb BP.out.size)
    replace B : Hid (∀ y, Below w10.heap.size w10 y → Below w.heap.size w y) := fun y hy => B.out y (hq.trans (hy.mono hq.size))
    replace S0 : Hid (∀ y, Below w10.heap.size w10 y → SlAt obR (fun b => b < w3.heap.size) y oa 7 faults) := fun y hy => S0.out y (hq.trans (hy.mono hq.size))
    replace S1 : Hid (∀ y, Below w10.heap.size w10 y → SlAt frR (fun b => b < w3.heap.size) y fa 1 [(0, 0, List.replicate n (false, 0), [])]) := fun y hy => S1.out y (hq.trans (hy.mono hq.size))
    replace GN : Hid (∀ y, Below w10.heap.size w10 y → NewM (w4.alloc (.cells #[.slice ka0 l0 (l0 + kc0), .slice ka1 l1 (l1 + kc1)] 38)) y n G FB LB bs) := fun y hy => GN.out y (hq.trans (hy.mono hq.size))
    replace XA : Hid (∀ y, Below w10.heap.size w10 y → y.heap[w.heap.size]? = some (.cells #[.slice a0 l0 c0, .slice a1 l1 c1] 25 (0, 0))) := fun y hy => XA.out y (hq.trans (hy.mono hq.size))
    replace lA : w.heap.size < w10.heap.size := Nat.lt_of_lt_of_le lA hq.size
    replace XW : Hid (∀ y, Below w10.heap.size w10 y → y.heap[w3.heap.size]? = some (.cells #[.slice oa 7 oc, .slice fa 1 fc, .slice sa 0 sc, .int .i64 0, .int .i64 0, .bool false, .int .i64 0] 33 (0, 0))) := fun y hy => XW.out y (hq.trans (hy.mono hq.size))
    replace lW : w3.heap.size < w10.heap.size := Nat.lt_of_lt_of_le lW hq.size
    replace XU : Hid (∀ y, Below w10.heap.size w10 y → y.heap[w4.heap.size]? = some (.cells #[.slice ka0 l0 (l0 + kc0), .slice ka1 l1 (l1 + kc1)] 38 (0, 0))) := fun y hy => XU.out y (hq.trans (hy.mono hq.size))
    replace lU : w4.heap.size < w10.heap.size := Nat.lt_of_lt_of_le lU hq.size
    replace XG : Hid (∀ y, Below w10.heap.size w10 y → y.heap[w5.heap.size]? = some (.cells #[.slice (some ⟨G, 0, none⟩) 7 7, .slice (some ⟨FB, 0, none⟩) 1 1, .slice none 0 0, .int .i64 0, .int .i64 0, .bool false, .int .i64 0] 33 (0, 0))) := fun y hy => XG.out y (hq.trans (hy.mono hq.size))
    replace lG : w5.heap.size < w10.heap.size := Nat.lt_of_lt_of_le lG hq.size
    have zw10 : w9.heap.size ≤ w10.heap.size := hq.size
    clear hq BP
    clear kA0 kA1 kW0 kW1 kW2 kW3 kW4 kW5 kW6 kU0 kU1 kG0 kG1 kG2 kG3 kG4 kG5 kG6
    clear hb
    have kA0 : w10.cell? ⟨w.heap.size, 0, none⟩ = some (.slice a0 l0 c0) := (boxG (XA.out w10 (Below.refl _ _)) 0).1
    have kA1 : w10.cell? ⟨w.heap.size, 1, none⟩ = some (.slice a1 l1 c1) := (boxG (XA.out w10 (Below.refl _ _)) 1).1
    have kW0 : w10.cell? ⟨w3.heap.size, 0, none⟩ = some (.slice oa 7 oc) := (boxG (XW.out w10 (Below.refl _ _)) 0).1
    have kW1 : w10.cell? ⟨w3.heap.size, 1, none⟩ = some (.slice fa 1 fc) := (boxG (XW.out w10 (Below.refl _ _)) 1).1
    have kW2 : w10.cell? ⟨w3.heap.size, 2, none⟩ = some (.slice sa 0 sc) := (boxG (XW.out w10 (Below.refl _ _)) 2).1
    have kW3 : w10.cell? ⟨w3.heap.size, 3, none⟩ = some (.int .i64 0) := (boxG (XW.out w10 (Below.refl _ _)) 3).1
    have kW4 : w10.cell? ⟨w3.heap.size, 4, none⟩ = some (.int .i64 0) := (boxG (XW.out w10 (Below.refl _ _)) 4).1
    have kW5 : w10.cell? ⟨w3.heap.size, 5, none⟩ = some (.bool false) := (boxG (XW.out w10 (Below.refl _ _)) 5).1
    have kW6 : w10.cell? ⟨w3.heap.size, 6, none⟩ = some (.int .i64 0) := (boxG (XW.out w10 (Below.refl _ _)) 6).1
    have kU0 : w10.cell? ⟨w4.heap.size, 0, none⟩ = some (.slice ka0 l0 (l0 + kc0)) := (boxG (XU.out w10 (Below.refl _ _)) 0).1
    have kU1 : w10.cell? ⟨w4.heap.size, 1, none⟩ = some (.slice ka1 l1 (l1 + kc1)) := (boxG (XU.out w10 (Below.refl _ _)) 1).1
    have kG0 : w10.cell? ⟨w5.heap.size, 0, none⟩ = some (.slice (some ⟨G, 0, none⟩) 7 7) := (boxG (XG.out w10 (Below.refl _ _)) 0).1
    have kG1 : w10.cell? ⟨w5.heap.size, 1, none⟩ = some (.slice (some ⟨FB, 0, none⟩) 1 1) := (boxG (XG.out w10 (Below.refl _ _)) 1).1
    have kG2 : w10.cell? ⟨w5.heap.size, 2, none⟩ = some (.slice none 0 0) := (boxG (XG.out w10 (Below.refl _ _)) 2).1
    have kG3 : w10.cell? ⟨w5.heap.size, 3, none⟩ = some (.int .i64 0) := (boxG (XG.out w10 (Below.refl _ _)) 3).1
    have kG4 : w10.cell? ⟨w5.heap.size, 4, none⟩ = some (.int .i64 0) := (boxG (XG.out w10 (Below.refl _ _)) 4).1
    have kG5 : w10.cell? ⟨w5.heap.size, 5, none⟩ = some (.bool false) := (boxG (XG.out w10 (Below.refl _ _)) 5).1
    have kG6 : w10.cell? ⟨w5.heap.size, 6, none⟩ = some (.int .i64 0) := (boxG (XG.out w10 (Below.refl _ _)) 6).1
    have BP : Hid (Below w10.heap.size w10 w10) := Below.refl _ _
    go_wp2_with fail
    obtain ⟨cls, F0, f0, hm⟩ := (GN.out _ BP.out).mm
    refine (markNew n G FB LB bs cls F0 0 0 f0 _ hm hn3).mono ?_
    rintro e w11 ⟨rfl, hM1, hc⟩
    clear kA0 kA1 kW0 kW1 kW2 kW3 kW4 kW5 kW6 kU0 kU1 kG0 kG1 kG2 kG3 kG4 kG5 kG6
    replace XA : Hid (∀ y, Below w11.heap.size w11 y → y.heap[w.heap.size]? = some (.cells #[.slice a0 l0 c0, .slice a1 l1 c1] 25 (0, 0))) := fun y hy => (hy.block _ (Nat.lt_of_lt_of_le lA (Chg.size hc))).trans ((Chg.block hc _ lA (fun hd => by have h1 := ND.out _ hd; omega)).trans (XA.out w10 (Below.refl _ _)))
    replace lA : w.heap.size < w11.heap.size := Nat.lt_of_lt_of_le lA (Chg.size hc)
    replace XW : Hid (∀ y, Below w11.heap.size w11 y → y.heap[w3.heap.size]? = some (.cells #[.slice oa 7 oc, .slice fa 1 fc, .slice sa 0 sc, .int .i64 0, .int .i64 0, .bool false, .int .i64 0] 33 (0, 0))) := fun y hy => (hy.block _ (Nat.lt_of_lt_of_le lW (Chg.size hc))).trans ((Chg.block hc _ lW (fun hd => by have h1 := ND.out _ hd; omega)).trans (XW.out w10 (Below.refl _ _)))
    replace lW : w3.heap.size < w11.heap.size := Nat.lt_of_lt_of_le lW (Chg.size hc)
    replace XU : Hid (∀ y, Below w11.heap.size w11 y → y.heap[w4.heap.size]? = some (.cells #[.slice ka0 l0 (l0 + kc0), .slice ka1 l1 (l1 + kc1)] 38 (0, 0))) := fun y hy => (hy.block _ (Nat.lt_of_lt_of_le lU (Chg.size hc))).trans ((Chg.block hc _ lU (fun hd => by have h1 := ND.out _ hd; omega)).trans (XU.out w10 (Below.refl _ _)))
    replace lU : w4.heap.size < w11.heap.size := Nat.lt_of_lt_of_le lU (Chg.size hc)
    replace XG : Hid (∀ y, Below w11.heap.size w11 y → y.heap[w5.heap.size]? = some (.cells #[.slice (some ⟨G, 0, none⟩) 7 7, .slice (some ⟨FB, 0, none⟩) 1 1, .slice none 0 0, .int .i64 0, .int .i64 0, .bool false, .int .i64 0] 33 (0, 0))) := fun y hy => (hy.block _ (Nat.lt_of_lt_of_le lG (Chg.size hc))).trans ((Chg.block hc _ lG (fun hd => by have h1 := ND.out _ hd; omega)).trans (XG.out w10 (Below.refl _ _)))
    replace lG : w5.heap.size < w11.heap.size := Nat.lt_of_lt_of_le lG (Chg.size hc)
    have zw11 : w10.heap.size ≤ w11.heap.size := Chg.size hc
    replace B : Hid (∀ y, Below w11.heap.size w11 y → Below w.heap.size w y) := fun y hy => ((B.out _ (Below.refl _ _)).trans (hc.below (Below.size (B.out _ (Below.refl _ _))) (fun i hi hd => by have := (ND.out i hd).1; omega))).trans (hy.mono (by omega))
    replace S0 : Hid (∀ y, Below w11.heap.size w11 y → SlAt obR (fun b => b < w3.heap.size) y oa 7 faults) := fun y hy => ((S0.out _ (Below.refl _ _)).keep (fun b o hd hl => hc.cell b o hl (fun hh => by have := (ND.out b hh).1; omega))).later hy
    replace S1 : Hid (∀ y, Below w11.heap.size w11 y → SlAt frR (fun b => b < w3.heap.size) y fa 1 [(0, 0, List.replicate n (false, 0), [])]) := fun y hy => ((S1.out _ (Below.refl _ _)).keep (fun b o hd hl => hc.cell b o hl (fun hh => by have := (ND.out b hh).1; omega))).later hy
    clear GN
    have MK : Hid (∀ y, Below w11.heap.size w11 y → Mkd7 y n G FB LB bs) := fun y hy => hM1.later hy
    clear hc hM1 hm BP
    have e9 : ((24 + 2 * (n : Int)) != (24 + 2 * (n : Int))) = false := by simp
    have e8 : ¬ ((24 + 2 * (n : Int)) < 0) := by omega
    have kA0 : w11.cell? ⟨w.heap.size, 0, none⟩ = some (.slice a0 l0 c0) := (boxG (XA.out w11 (Below.refl _ _)) 0).1
    have kA1 : w11.cell? ⟨w.heap.size, 1, none⟩ = some (.slice a1 l1 c1) := (boxG (XA.out w11 (Below.refl _ _)) 1).1
    have kW0 : w11.cell? ⟨w3.heap.size, 0, none⟩ = some (.slice oa 7 oc) := (boxG (XW.out w11 (Below.refl _ _)) 0).1
    have kW1 : w11.cell? ⟨w3.heap.size, 1, none⟩ = some (.slice fa 1 fc) := (boxG (XW.out w11 (Below.refl _ _)) 1).1
    have kW2 : w11.cell? ⟨w3.heap.size, 2, none⟩ = some (.slice sa 0 sc) := (boxG (XW.out w11 (Below.refl _ _)) 2).1
    have kW3 : w11.cell? ⟨w3.heap.size, 3, none⟩ = some (.int .i64 0) := (boxG (XW.out w11 (Below.refl _ _)) 3).1
    have kW4 : w11.cell? ⟨w3.heap.size, 4, none⟩ = some (.int .i64 0) := (boxG (XW.out w11 (Below.refl _ _)) 4).1
    have kW5 : w11.cell? ⟨w3.heap.size, 5, none⟩ = some (.bool false) := (boxG (XW.out w11 (Below.refl _ _)) 5).1
    have kW6 : w11.cell? ⟨w3.heap.size, 6, none⟩ = some (.int .i64 0) := (boxG (XW.out w11 (Below.refl _ _)) 6).1
    have kU0 : w11.cell? ⟨w4.heap.size, 0, none⟩ = some (.slice ka0 l0 (l0 + kc0)) := (boxG (XU.out w11 (Below.refl _ _)) 0).1
    have kU1 : w11.cell? ⟨w4.heap.size, 1, none⟩ = some (.slice ka1 l1 (l1 + kc1)) := (boxG (XU.out w11 (Below.refl _ _)) 1).1
    have kG0 : w11.cell? ⟨w5.heap.size, 0, none⟩ = some (.slice (some ⟨G, 0, none⟩) 7 7) := (boxG (XG.out w11 (Below.refl _ _)) 0).1
    have kG1 : w11.cell? ⟨w5.heap.size, 1, none⟩ = some (.slice (some ⟨FB, 0, none⟩) 1 1) := (boxG (XG.out w11 (Below.refl _ _)) 1).1
    have kG2 : w11.cell? ⟨w5.heap.size, 2, none⟩ = some (.slice none 0 0) := (boxG (XG.out w11 (Below.refl _ _)) 2).1
    have kG3 : w11.cell? ⟨w5.heap.size, 3, none⟩ = some (.int .i64 0) := (boxG (XG.out w11 (Below.refl _ _)) 3).1
    have kG4 : w11.cell? ⟨w5.heap.size, 4, none⟩ = some (.int .i64 0) := (boxG (XG.out w11 (Below.refl _ _)) 4).1
    have kG5 : w11.cell? ⟨w5.heap.size, 5, none⟩ = some (.bool false) := (boxG (XG.out w11 (Below.refl _ _)) 5).1
    have kG6 : w11.cell? ⟨w5.heap.size, 6, none⟩ = some (.int .i64 0) := (boxG (XG.out w11 (Below.refl _ _)) 6).1
    have BP : Hid (Below w11.heap.size w11 w11) := Below.refl _ _
    go_wp2_with fail
    refine (heldNew n G FB LB bs _ (MK.out _ BP.out) hn3).mono ?_
    rintro e w12 ⟨rfl, hb⟩
    have hq : Below w11.heap.size w11 w12 := BP.out.trans (Below.mono hb BP.out.size)
    replace B : Hid (∀ y, Below w12.heap.size w12 y → Below w.heap.size w y) := fun y hy => B.out y (hq.trans (hy.mono hq.size))
    replace S0 : Hid (∀ y, Below w12.heap.size w12 y → SlAt obR (fun b => b < w3.heap.size) y oa 7 faults) := fun y hy => S0.out y (hq.trans (hy.mono hq.size))
    replace S1 : Hid (∀ y, Below w12.heap.size w12 y → SlAt frR (fun b => b < w3.heap.size) y fa 1 [(0, 0, List.replicate n (false, 0), [])]) := fun y hy => S1.out y (hq.trans (hy.mono hq.size))
    replace MK : Hid (∀ y, Below w12.heap.size w12 y → Mkd7 y n G FB LB bs) := fun y hy => MK.out y (hq.trans (hy.mono hq.size))
    replace XA : Hid (∀ y, Below w12.heap.size w12 y → y.heap[w.heap.size]? = some (.cells #[.slice a0 l0 c0, .slice a1 l1 c1] 25 (0, 0))) := fun y hy => XA.out y (hq.trans (hy.mono hq.size))
    replace lA : w.heap.size < w12.heap.size := Nat.lt_of_lt_of_le lA hq.size
    replace XW : Hid (∀ y, Below w12.heap.size w12 y → y.heap[w3.heap.size]? = some (.cells #[.slice oa 7 oc, .slice fa 1 fc, .slice sa 0 sc, .int .i64 0, .int .i64 0, .bool false, .int .i64 0] 33 (0, 0))) := fun y hy => XW.out y (hq.trans (hy.mono hq.size))
    replace lW : w3.heap.size < w12.heap.size := Nat.lt_of_lt_of_le lW hq.size
    replace XU : Hid (∀ y, Below w12.heap.size w12 y → y.heap[w4.heap.size]? = some (.cells #[.slice ka0 l0 (l0 + kc0), .slice ka1 l1 (l1 + kc1)] 38 (0, 0))) := fun y hy => XU.out y (hq.trans (hy.mono hq.size))
    replace lU : w4.heap.size < w12.heap.size := Nat.lt_of_lt_of_le lU hq.size
    replace XG : Hid (∀ y, Below w12.heap.size w12 y → y.heap[w5.heap.size]? = some (.cells #[.slice (some ⟨G, 0, none⟩) 7 7, .slice (some ⟨FB, 0, none⟩) 1 1, .slice none 0 0, .int .i64 0, .int .i64 0, .bool false, .int .i64 0] 33 (0, 0))) := fun y hy => XG.out y (hq.trans (hy.mono hq.size))
    replace lG : w5.heap.size < w12.heap.size := Nat.lt_of_lt_of_le lG hq.size
    have zw12 : w11.heap.size ≤ w12.heap.size := hq.size
    clear hq BP
    clear kA0 kA1 kW0 kW1 kW2 kW3 kW4 kW5 kW6 kU0 kU1 kG0 kG1 kG2 kG3 kG4 kG5 kG6
    clear hb
    have kA0 : w12.cell? ⟨w.heap.size, 0, none⟩ = some (.slice a0 l0 c0) := (boxG (XA.out w12 (Below.refl _ _)) 0).1
    have kA1 : w12.cell? ⟨w.heap.size, 1, none⟩ = some (.slice a1 l1 c1) := (boxG (XA.out w12 (Below.refl _ _)) 1).1
    have kW0 : w12.cell? ⟨w3.heap.size, 0, none⟩ = some (.slice oa 7 oc) := (boxG (XW.out w12 (Below.refl _ _)) 0).1
    have kW1 : w12.cell? ⟨w3.heap.size, 1, none⟩ = some (.slice fa 1 fc) := (boxG (XW.out w12 (Below.refl _ _)) 1).1
    have kW2 : w12.cell? ⟨w3.heap.size, 2, none⟩ = some (.slice sa 0 sc) := (boxG (XW.out w12 (Below.refl _ _)) 2).1
    have kW3 : w12.cell? ⟨w3.heap.size, 3, none⟩ = some (.int .i64 0) := (boxG (XW.out w12 (Below.refl _ _)) 3).1
    have kW4 : w12.cell? ⟨w3.heap.size, 4, none⟩ = some (.int .i64 0) := (boxG (XW.out w12 (Below.refl _ _)) 4).1
    have kW5 : w12.cell? ⟨w3.heap.size, 5, none⟩ = some (.bool false) := (boxG (XW.out w12 (Below.refl _ _)) 5).1
    have kW6 : w12.cell? ⟨w3.heap.size, 6, none⟩ = some (.int .i64 0) := (boxG (XW.out w12 (Below.refl _ _)) 6).1
    have kU0 : w12.cell? ⟨w4.heap.size, 0, none⟩ = some (.slice ka0 l0 (l0 + kc0)) := (boxG (XU.out w12 (Below.refl _ _)) 0).1
    have kU1 : w12.cell? ⟨w4.heap.size, 1, none⟩ = some (.slice ka1 l1 (l1 + kc1)) := (boxG (XU.out w12 (Below.refl _ _)) 1).1
    have kG0 : w12.cell? ⟨w5.heap.size, 0, none⟩ = some (.slice (some ⟨G, 0, none⟩) 7 7) := (boxG (XG.out w12 (Below.refl _ _)) 0).1
    have kG1 : w12.cell? ⟨w5.heap.size, 1, none⟩ = some (.slice (some ⟨FB, 0, none⟩) 1 1) := (boxG (XG.out w12 (Below.refl _ _)) 1).1
    have kG2 : w12.cell? ⟨w5.heap.size, 2, none⟩ = some (.slice none 0 0) := (boxG (XG.out w12 (Below.refl _ _)) 2).1
    have kG3 : w12.cell? ⟨w5.heap.size, 3, none⟩ = some (.int .i64 0) := (boxG (XG.out w12 (Below.refl _ _)) 3).1
    have kG4 : w12.cell? ⟨w5.heap.size, 4, none⟩ = some (.int .i64 0) := (boxG (XG.out w12 (Below.refl _ _)) 4).1
    have kG5 : w12.cell? ⟨w5.heap.size, 5, none⟩ = some (.bool false) := (boxG (XG.out w12 (Below.refl _ _)) 5).1
    have kG6 : w12.cell? ⟨w5.heap.size, 6, none⟩ = some (.int .i64 0) := (boxG (XG.out w12 (Below.refl _ _)) 6).1
    have BP : Hid (Below w12.heap.size w12 w12) := Below.refl _ _
    go_wp2_with fail
    refine (toRUnit _ _ _ _ _ _ L M _ (H.out.later (B.out _ BP.out)) SL.out (HM.out.later (B.out _ BP.out)) SM.out).mono ?_
    rintro e w13 ⟨ia0, ic0, ia1, ic1, rfl, hU, hV, hb⟩
    have hq : Below w12.heap.size w12 w13 := BP.out.trans (Below.mono hb BP.out.size)
    replace B : Hid (∀ y, Below w13.heap.size w13 y → Below w.heap.size w y) := fun y hy => B.out y (hq.trans (hy.mono hq.size))
    replace S0 : Hid (∀ y, Below w13.heap.size w13 y → SlAt obR (fun b => b < w3.heap.size) y oa 7 faults) := fun y hy => S0.out y (hq.trans (hy.mono hq.size))
    replace S1 : Hid (∀ y, Below w13.heap.size w13 y → SlAt frR (fun b => b < w3.heap.size) y fa 1 [(0, 0, List.replicate n (false, 0), [])]) := fun y hy => S1.out y (hq.trans (hy.mono hq.size))
    replace MK : Hid (∀ y, Below w13.heap.size w13 y → Mkd7 y n G FB LB bs) := fun y hy => MK.out y (hq.trans (hy.mono hq.size))
    replace XA : Hid (∀ y, Below w13.heap.size w13 y → y.heap[w.heap.size]? = some (.cells #[.slice a0 l0 c0, .slice a1 l1 c1] 25 (0, 0))) := fun y hy => XA.out y (hq.trans (hy.mono hq.size))
    replace lA : w.heap.size < w13.heap.size := Nat.lt_of_lt_of_le lA hq.size
    replace XW : Hid (∀ y, Below w13.heap.size w13 y → y.heap[w3.heap.size]? = some (.cells #[.slice oa 7 oc, .slice fa 1 fc, .slice sa 0 sc, .int .i64 0, .int .i64 0, .bool false, .int .i64 0] 33 (0, 0))) := fun y hy => XW.out y (hq.trans (hy.mono hq.size))
    replace lW : w3.heap.size < w13.heap.size := Nat.lt_of_lt_of_le lW hq.size
    replace XU : Hid (∀ y, Below w13.heap.size w13 y → y.heap[w4.heap.size]? = some (.cells #[.slice ka0 l0 (l0 + kc0), .slice ka1 l1 (l1 + kc1)] 38 (0, 0))) := fun y hy => XU.out y (hq.trans (hy.mono hq.size))
    replace lU : w4.heap.size < w13.heap.size := Nat.lt_of_lt_of_le lU hq.size
    replace XG : Hid (∀ y, Below w13.heap.size w13 y → y.heap[w5.heap.size]? = some (.cells #[.slice (some ⟨G, 0, none⟩) 7 7, .slice (some ⟨FB, 0, none⟩) 1 1, .slice none 0 0, .int .i64 0, .int .i64 0, .bool false, .int .i64 0] 33 (0, 0))) := fun y hy => XG.out y (hq.trans (hy.mono hq.size))
    replace lG : w5.heap.size < w13.heap.size := Nat.lt_of_lt_of_le lG hq.size
    have zw13 : w12.heap.size ≤ w13.heap.size := hq.size
    clear hq BP
    clear kA0 kA1 kW0 kW1 kW2 kW3 kW4 kW5 kW6 kU0 kU1 kG0 kG1 kG2 kG3 kG4 kG5 kG6
    have U : Hid (SlAt clR _ w13 ia0 l0 L) := hU
    have V : Hid (SlAt meR _ w13 ia1 l1 M) := hV
    clear hU hV hb
    have kA0 : w13.cell? ⟨w.heap.size, 0, none⟩ = some (.slice a0 l0 c0) := (boxG (XA.out w13 (Below.refl _ _)) 0).1
    have kA1 : w13.cell? ⟨w.heap.size, 1, none⟩ = some (.slice a1 l1 c1) := (boxG (XA.out w13 (Below.refl _ _)) 1).1
    have kW0 : w13.cell? ⟨w3.heap.size, 0, none⟩ = some (.slice oa 7 oc) := (boxG (XW.out w13 (Below.refl _ _)) 0).1
    have kW1 : w13.cell? ⟨w3.heap.size, 1, none⟩ = some (.slice fa 1 fc) := (boxG (XW.out w13 (Below.refl _ _)) 1).1
    have kW2 : w13.cell? ⟨w3.heap.size, 2, none⟩ = some (.slice sa 0 sc) := (boxG (XW.out w13 (Below.refl _ _)) 2).1
    have kW3 : w13.cell? ⟨w3.heap.size, 3, none⟩ = some (.int .i64 0) := (boxG (XW.out w13 (Below.refl _ _)) 3).1
    have kW4 : w13.cell? ⟨w3.heap.size, 4, none⟩ = some (.int .i64 0) := (boxG (XW.out w13 (Below.refl _ _)) 4).1
    have kW5 : w13.cell? ⟨w3.heap.size, 5, none⟩ = some (.bool false) := (boxG (XW.out w13 (Below.refl _ _)) 5).1
    have kW6 : w13.cell? ⟨w3.heap.size, 6, none⟩ = some (.int .i64 0) := (boxG (XW.out w13 (Below.refl _ _)) 6).1
    have kU0 : w13.cell? ⟨w4.heap.size, 0, none⟩ = some (.slice ka0 l0 (l0 + kc0)) := (boxG (XU.out w13 (Below.refl _ _)) 0).1
    have kU1 : w13.cell? ⟨w4.heap.size, 1, none⟩ = some (.slice ka1 l1 (l1 + kc1)) := (boxG (XU.out w13 (Below.refl _ _)) 1).1
    have kG0 : w13.cell? ⟨w5.heap.size, 0, none⟩ = some (.slice (some ⟨G, 0, none⟩) 7 7) := (boxG (XG.out w13 (Below.refl _ _)) 0).1
    have kG1 : w13.cell? ⟨w5.heap.size, 1, none⟩ = some (.slice (some ⟨FB, 0, none⟩) 1 1) := (boxG (XG.out w13 (Below.refl _ _)) 1).1
    have kG2 : w13.cell? ⟨w5.heap.size, 2, none⟩ = some (.slice none 0 0) := (boxG (XG.out w13 (Below.refl _ _)) 2).1
    have kG3 : w13.cell? ⟨w5.heap.size, 3, none⟩ = some (.int .i64 0) := (boxG (XG.out w13 (Below.refl _ _)) 3).1
    have kG4 : w13.cell? ⟨w5.heap.size, 4, none⟩ = some (.int .i64 0) := (boxG (XG.out w13 (Below.refl _ _)) 4).1
    have kG5 : w13.cell? ⟨w5.heap.size, 5, none⟩ = some (.bool false) := (boxG (XG.out w13 (Below.refl _ _)) 5).1
    have kG6 : w13.cell? ⟨w5.heap.size, 6, none⟩ = some (.int .i64 0) := (boxG (XG.out w13 (Below.refl _ _)) 6).1
    have BP : Hid (Below w13.heap.size w13 w13) := Below.refl _ _
    go_wp2_with fail
    refine (machNewImpl _ _ _ _ _ _ L M _ U.out.cls V.out (by omega)).mono ?_
    rintro e w14 hP
    obtain ⟨G2, FB2, LB2, bs2, rfl, hN, hb⟩ := hP.resolve_left (fun h => by rw [OK.out] at h; cases h.1) |>.2
    have hq : Below w13.heap.size w13 w14 := BP.out.trans (Below.mono hb BP.out.size)
    replace B : Hid (∀ y, Below w14.heap.size w14 y → Below w.heap.size w y) := fun y hy => B.out y (hq.trans (hy.mono hq.size))
    replace S0 : Hid (∀ y, Below w14.heap.size w14 y → SlAt obR (fun b => b < w3.heap.size) y oa 7 faults) := fun y hy => S0.out y (hq.trans (hy.mono hq.size))
    replace S1 : Hid (∀ y, Below w14.heap.size w14 y → SlAt frR (fun b => b < w3.heap.size) y fa 1 [(0, 0, List.replicate n (false, 0), [])]) := fun y hy => S1.out y (hq.trans (hy.mono hq.size))
    replace MK : Hid (∀ y, Below w14.heap.size w14 y → Mkd7 y n G FB LB bs) := fun y hy => MK.out y (hq.trans (hy.mono hq.size))
    replace XA : Hid (∀ y, Below w14.heap.size w14 y → y.heap[w.heap.size]? = some (.cells #[.slice a0 l0 c0, .slice a1 l1 c1] 25 (0, 0))) := fun y hy => XA.out y (hq.trans (hy.mono hq.size))
    replace lA : w.heap.size < w14.heap.size := Nat.lt_of_lt_of_le lA hq.size
    replace XW : Hid (∀ y, Below w14.heap.size w14 y → y.heap[w3.heap.size]? = some (.cells #[.slice oa 7 oc, .slice fa 1 fc, .slice sa 0 sc, .int .i64 0, .int .i64 0, .bool false, .int .i64 0] 33 (0, 0))) := fun y hy => XW.out y (hq.trans (hy.mono hq.size))
    replace lW : w3.heap.size < w14.heap.size := Nat.lt_of_lt_of_le lW hq.size
    replace XU : Hid (∀ y, Below w14.heap.size w14 y → y.heap[w4.heap.size]? = some (.cells #[.slice ka0 l0 (l0 + kc0), .slice ka1 l1 (l1 + kc1)] 38 (0, 0))) := fun y hy => XU.out y (hq.trans (hy.mono hq.size))
    replace lU : w4.heap.size < w14.heap.size := Nat.lt_of_lt_of_le lU hq.size
    replace XG : Hid (∀ y, Below w14.heap.size w14 y → y.heap[w5.heap.size]? = some (.cells #[.slice (some ⟨G, 0, none⟩) 7 7, .slice (some ⟨FB, 0, none⟩) 1 1, .slice none 0 0, .int .i64 0, .int .i64 0, .bool false, .int .i64 0] 33 (0, 0))) := fun y hy => XG.out y (hq.trans (hy.mono hq.size))
    replace lG : w5.heap.size < w14.heap.size := Nat.lt_of_lt_of_le lG hq.size
    have zw14 : w13.heap.size ≤ w14.heap.size := hq.size
    clear hq BP
    clear kA0 kA1 kW0 kW1 kW2 kW3 kW4 kW5 kW6 kU0 kU1 kG0 kG1 kG2 kG3 kG4 kG5 kG6
    rw [EN.out] at hN
    have HN : Hid (∀ y, Below w14.heap.size w14 y → NewM w13 y n G2 FB2 LB2 bs2) := fun y hy => hN.later hy
    clear hN
    clear hb hP U V
    have kA0 : w14.cell? ⟨w.heap.size, 0, none⟩ = some (.slice a0 l0 c0) := (boxG (XA.out w14 (Below.refl _ _)) 0).1
    have kA1 : w14.cell? ⟨w.heap.size, 1, none⟩ = some (.slice a1 l1 c1) := (boxG (XA.out w14 (Below.refl _ _)) 1).1
    have kW0 : w14.cell? ⟨w3.heap.size, 0, none⟩ = some (.slice oa 7 oc) := (boxG (XW.out w14 (Below.refl _ _)) 0).1
    have kW1 : w14.cell? ⟨w3.heap.size, 1, none⟩ = some (.slice fa 1 fc) := (boxG (XW.out w14 (Below.refl _ _)) 1).1
    have kW2 : w14.cell? ⟨w3.heap.size, 2, none⟩ = some (.slice sa 0 sc) := (boxG (XW.out w14 (Below.refl _ _)) 2).1
    have kW3 : w14.cell? ⟨w3.heap.size, 3, none⟩ = some (.int .i64 0) := (boxG (XW.out w14 (Below.refl _ _)) 3).1
    have kW4 : w14.cell? ⟨w3.heap.size, 4, none⟩ = some (.int .i64 0) := (boxG (XW.out w14 (Below.refl _ _)) 4).1
    have kW5 : w14.cell? ⟨w3.heap.size, 5, none⟩ = some (.bool false) := (boxG (XW.out w14 (Below.refl _ _)) 5).1
    have kW6 : w14.cell? ⟨w3.heap.size, 6, none⟩ = some (.int .i64 0) := (boxG (XW.out w14 (Below.refl _ _)) 6).1
    have kU0 : w14.cell? ⟨w4.heap.size, 0, none⟩ = some (.slice ka0 l0 (l0 + kc0)) := (boxG (XU.out w14 (Below.refl _ _)) 0).1
    have kU1 : w14.cell? ⟨w4.heap.size, 1, none⟩ = some (.slice ka1 l1 (l1 + kc1)) := (boxG (XU.out w14 (Below.refl _ _)) 1).1
    have kG0 : w14.cell? ⟨w5.heap.size, 0, none⟩ = some (.slice (some ⟨G, 0, none⟩) 7 7) := (boxG (XG.out w14 (Below.refl _ _)) 0).1
    have kG1 : w14.cell? ⟨w5.heap.size, 1, none⟩ = some (.slice (some ⟨FB, 0, none⟩) 1 1) := (boxG (XG.out w14 (Below.refl _ _)) 1).1
    have kG2 : w14.cell? ⟨w5.heap.size, 2, none⟩ = some (.slice none 0 0) := (boxG (XG.out w14 (Below.refl _ _)) 2).1
    have kG3 : w14.cell? ⟨w5.heap.size, 3, none⟩ = some (.int .i64 0) := (boxG (XG.out w14 (Below.refl _ _)) 3).1
    have kG4 : w14.cell? ⟨w5.heap.size, 4, none⟩ = some (.int .i64 0) := (boxG (XG.out w14 (Below.refl _ _)) 4).1
    have kG5 : w14.cell? ⟨w5.heap.size, 5, none⟩ = some (.bool false) := (boxG (XG.out w14 (Below.refl _ _)) 5).1
    have kG6 : w14.cell? ⟨w5.heap.size, 6, none⟩ = some (.int .i64 0) := (boxG (XG.out w14 (Below.refl _ _)) 6).1
    have BP : Hid (Below w14.heap.size w14 (w14.alloc (.cells #[.slice (some ⟨G2, 0, none⟩) 7 7, .slice (some ⟨FB2, 0, none⟩) 1 1, .slice none 0 0, .int .i64 0, .int .i64 0, .bool false, .int .i64 0] 33))) := (Below.refl _ _).alloc (Nat.le_refl _) _
    go_wp2_with fail
    refine (eqRMach _ _ _ _ _ _ _ _ _ _ _ _ _ _ _ _ _ _ _ _ _ _ faults [(0, 0, List.replicate n (false, 0), [])] [] _ (((HN.out _ BP.out).sls hn3)).1 (S0.out _ BP.out) (((HN.out _ BP.out).sls hn3)).2 (S1.out _ BP.out) (sl_zero _ _) (sl_zero _ _)).mono ?_
    rintro e w15 ⟨rfl, hb⟩
    have hq : Below w14.heap.size w14 w15 := BP.out.trans (Below.mono hb BP.out.size)
    replace B : Hid (∀ y, Below w15.heap.size w15 y → Below w.heap.size w y) := fun y hy => B.out y (hq.trans (hy.mono hq.size))
    replace S0 : Hid (∀ y, Below w15.heap.size w15 y → SlAt obR (fun b => b < w3.heap.size) y oa 7 faults) := fun y hy => S0.out y (hq.trans (hy.mono hq.size))
    replace S1 : Hid (∀ y, Below w15.heap.size w15 y → SlAt frR (fun b => b < w3.heap.size) y fa 1 [(0, 0, List.replicate n (false, 0), [])]) := fun y hy => S1.out y (hq.trans (hy.mono hq.size))
    replace MK : Hid (∀ y, Below w15.heap.size w15 y → Mkd7 y n G FB LB bs) := fun y hy => MK.out y (hq.trans (hy.mono hq.size))
    replace HN : Hid (∀ y, Below w15.heap.size w15 y → NewM w13 y n G2 FB2 LB2 bs2) := fun y hy => HN.out y (hq.trans (hy.mono hq.size))
    replace XA : Hid (∀ y, Below w15.heap.size w15 y → y.heap[w.heap.size]? = some (.cells #[.slice a0 l0 c0, .slice a1 l1 c1] 25 (0, 0))) := fun y hy => XA.out y (hq.trans (hy.mono hq.size))
    replace lA : w.heap.size < w15.heap.size := Nat.lt_of_lt_of_le lA hq.size
    replace XW : Hid (∀ y, Below w15.heap.size w15 y → y.heap[w3.heap.size]? = some (.cells #[.slice oa 7 oc, .slice fa 1 fc, .slice sa 0 sc, .int .i64 0, .int .i64 0, .bool false, .int .i64 0] 33 (0, 0))) := fun y hy => XW.out y (hq.trans (hy.mono hq.size))
    replace lW : w3.heap.size < w15.heap.size := Nat.lt_of_lt_of_le lW hq.size
    replace XU : Hid (∀ y, Below w15.heap.size w15 y → y.heap[w4.heap.size]? = some (.cells #[.slice ka0 l0 (l0 + kc0), .slice ka1 l1 (l1 + kc1)] 38 (0, 0))) := fun y hy => XU.out y (hq.trans (hy.mono hq.size))
    replace lU : w4.heap.size < w15.heap.size := Nat.lt_of_lt_of_le lU hq.size
    replace XG : Hid (∀ y, Below w15.heap.size w15 y → y.heap[w5.heap.size]? = some (.cells #[.slice (some ⟨G, 0, none⟩) 7 7, .slice (some ⟨FB, 0, none⟩) 1 1, .slice none 0 0, .int .i64 0, .int .i64 0, .bool false, .int .i64 0] 33 (0, 0))) := fun y hy => XG.out y (hq.trans (hy.mono hq.size))
    replace lG : w5.heap.size < w15.heap.size := Nat.lt_of_lt_of_le lG hq.size
    have lH : w14.heap.size < w15.heap.size := Nat.lt_of_lt_of_le (by simp) (Below.size hb)
    have XH : Hid (∀ y, Below w15.heap.size w15 y → y.heap[w14.heap.size]? = some (.cells #[.slice (some ⟨G2, 0, none⟩) 7 7, .slice (some ⟨FB2, 0, none⟩) 1 1, .slice none 0 0, .int .i64 0, .int .i64 0, .bool false, .int .i64 0] 33 (0, 0))) := fun y hy => (hy.block _ lH).trans ((Below.block hb _ (by simp)).trans (boxN _ _ _ _ rfl))
    have zw15 : w14.heap.size + 1 ≤ w15.heap.size := Nat.le_trans (Nat.le_of_eq (by simp)) (Below.size hb)
    clear hq BP
    clear kA0 kA1 kW0 kW1 kW2 kW3 kW4 kW5 kW6 kU0 kU1 kG0 kG1 kG2 kG3 kG4 kG5 kG6
    clear hb
    have kA0 : w15.cell? ⟨w.heap.size, 0, none⟩ = some (.slice a0 l0 c0) := (boxG (XA.out w15 (Below.refl _ _)) 0).1
    have kA1 : w15.cell? ⟨w.heap.size, 1, none⟩ = some (.slice a1 l1 c1) := (boxG (XA.out w15 (Below.refl _ _)) 1).1
    have kW0 : w15.cell? ⟨w3.heap.size, 0, none⟩ = some (.slice oa 7 oc) := (boxG (XW.out w15 (Below.refl _ _)) 0).1
    have kW1 : w15.cell? ⟨w3.heap.size, 1, none⟩ = some (.slice fa 1 fc) := (boxG (XW.out w15 (Below.refl _ _)) 1).1
    have kW2 : w15.cell? ⟨w3.heap.size, 2, none⟩ = some (.slice sa 0 sc) := (boxG (XW.out w15 (Below.refl _ _)) 2).1
    have kW3 : w15.cell? ⟨w3.heap.size, 3, none⟩ = some (.int .i64 0) := (boxG (XW.out w15 (Below.refl _ _)) 3).1
    have kW4 : w15.cell? ⟨w3.heap.size, 4, none⟩ = some (.int .i64 0) := (boxG (XW.out w15 (Below.refl _ _)) 4).1
    have kW5 : w15.cell? ⟨w3.heap.size, 5, none⟩ = some (.bool false) := (boxG (XW.out w15 (Below.refl _ _)) 5).1
    have kW6 : w15.cell? ⟨w3.heap.size, 6, none⟩ = some (.int .i64 0) := (boxG (XW.out w15 (Below.refl _ _)) 6).1
    have kU0 : w15.cell? ⟨w4.heap.size, 0, none⟩ = some (.slice ka0 l0 (l0 + kc0)) := (boxG (XU.out w15 (Below.refl _ _)) 0).1
    have kU1 : w15.cell? ⟨w4.heap.size, 1, none⟩ = some (.slice ka1 l1 (l1 + kc1)) := (boxG (XU.out w15 (Below.refl _ _)) 1).1
    have kG0 : w15.cell? ⟨w5.heap.size, 0, none⟩ = some (.slice (some ⟨G, 0, none⟩) 7 7) := (boxG (XG.out w15 (Below.refl _ _)) 0).1
    have kG1 : w15.cell? ⟨w5.heap.size, 1, none⟩ = some (.slice (some ⟨FB, 0, none⟩) 1 1) := (boxG (XG.out w15 (Below.refl _ _)) 1).1
    have kG2 : w15.cell? ⟨w5.heap.size, 2, none⟩ = some (.slice none 0 0) := (boxG (XG.out w15 (Below.refl _ _)) 2).1
    have kG3 : w15.cell? ⟨w5.heap.size, 3, none⟩ = some (.int .i64 0) := (boxG (XG.out w15 (Below.refl _ _)) 3).1
    have kG4 : w15.cell? ⟨w5.heap.size, 4, none⟩ = some (.int .i64 0) := (boxG (XG.out w15 (Below.refl _ _)) 4).1
    have kG5 : w15.cell? ⟨w5.heap.size, 5, none⟩ = some (.bool false) := (boxG (XG.out w15 (Below.refl _ _)) 5).1
    have kG6 : w15.cell? ⟨w5.heap.size, 6, none⟩ = some (.int .i64 0) := (boxG (XG.out w15 (Below.refl _ _)) 6).1
    have kH0 : w15.cell? ⟨w14.heap.size, 0, none⟩ = some (.slice (some ⟨G2, 0, none⟩) 7 7) := (boxG (XH.out w15 (Below.refl _ _)) 0).1
    have kH1 : w15.cell? ⟨w14.heap.size, 1, none⟩ = some (.slice (some ⟨FB2, 0, none⟩) 1 1) := (boxG (XH.out w15 (Below.refl _ _)) 1).1
    have kH2 : w15.cell? ⟨w14.heap.size, 2, none⟩ = some (.slice none 0 0) := (boxG (XH.out w15 (Below.refl _ _)) 2).1
    have kH3 : w15.cell? ⟨w14.heap.size, 3, none⟩ = some (.int .i64 0) := (boxG (XH.out w15 (Below.refl _ _)) 3).1
    have kH4 : w15.cell? ⟨w14.heap.size, 4, none⟩ = some (.int .i64 0) := (boxG (XH.out w15 (Below.refl _ _)) 4).1
    have kH5 : w15.cell? ⟨w14.heap.size, 5, none⟩ = some (.bool false) := (boxG (XH.out w15 (Below.refl _ _)) 5).1
    have kH6 : w15.cell? ⟨w14.heap.size, 6, none⟩ = some (.int .i64 0) := (boxG (XH.out w15 (Below.refl _ _)) 6).1
    have BP : Hid (Below w15.heap.size w15 w15) := Below.refl _ _
    go_wp2_with fail
    refine (heldNew n G FB LB bs _ (MK.out _ BP.out) hn3).mono ?_
    rintro e w16 ⟨rfl, hb⟩
    have hq : Below w15.heap.size w15 w16 := BP.out.trans (Below.mono hb BP.out.size)
    replace B : Hid (∀ y, Below w16.heap.size w16 y → Below w.heap.size w y) := fun y hy => B.out y (hq.trans (hy.mono hq.size))
    replace S0 : Hid (∀ y, Below w16.heap.size w16 y → SlAt obR (fun b => b < w3.heap.size) y oa 7 faults) := fun y hy => S0.out y (hq.trans (hy.mono hq.size))
    replace S1 : Hid (∀ y, Below w16.heap.size w16 y → SlAt frR (fun b => b < w3.heap.size) y fa 1 [(0, 0, List.replicate n (false, 0), [])]) := fun y hy => S1.out y (hq.trans (hy.mono hq.size))
    replace MK : Hid (∀ y, Below w16.heap.size w16 y → Mkd7 y n G FB LB bs) := fun y hy => MK.out y (hq.trans (hy.mono hq.size))
    replace HN : Hid (∀ y, Below w16.heap.size w16 y → NewM w13 y n G2 FB2 LB2 bs2) := fun y hy => HN.out y (hq.trans (hy.mono hq.size))
    replace XA : Hid (∀ y, Below w16.heap.size w16 y → y.heap[w.heap.size]? = some (.cells #[.slice a0 l0 c0, .slice a1 l1 c1] 25 (0, 0))) := fun y hy => XA.out y (hq.trans (hy.mono hq.size))
    replace lA : w.heap.size < w16.heap.size := Nat.lt_of_lt_of_le lA hq.size
    replace XW : Hid (∀ y, Below w16.heap.size w16 y → y.heap[w3.heap.size]? = some (.cells #[.slice oa 7 oc, .slice fa 1 fc, .slice sa 0 sc, .int .i64 0, .int .i64 0, .bool false, .int .i64 0] 33 (0, 0))) := fun y hy => XW.out y (hq.trans (hy.mono hq.size))
    replace lW : w3.heap.size < w16.heap.size := Nat.lt_of_lt_of_le lW hq.size
    replace XU : Hid (∀ y, Below w16.heap.size w16 y → y.heap[w4.heap.size]? = some (.cells #[.slice ka0 l0 (l0 + kc0), .slice ka1 l1 (l1 + kc1)] 38 (0, 0))) := fun y hy => XU.out y (hq.trans (hy.mono hq.size))
    replace lU : w4.heap.size < w16.heap.size := Nat.lt_of_lt_of_le lU hq.size
    replace XG : Hid (∀ y, Below w16.heap.size w16 y → y.heap[w5.heap.size]? = some (.cells #[.slice (some ⟨G, 0, none⟩) 7 7, .slice (some ⟨FB, 0, none⟩) 1 1, .slice none 0 0, .int .i64 0, .int .i64 0, .bool false, .int .i64 0] 33 (0, 0))) := fun y hy => XG.out y (hq.trans (hy.mono hq.size))
    replace lG : w5.heap.size < w16.heap.size := Nat.lt_of_lt_of_le lG hq.size
    replace XH : Hid (∀ y, Below w16.heap.size w16 y → y.heap[w14.heap.size]? = some (.cells #[.slice (some ⟨G2, 0, none⟩) 7 7, .slice (some ⟨FB2, 0, none⟩) 1 1, .slice none 0 0, .int .i64 0, .int .i64 0, .bool false, .int .i64 0] 33 (0, 0))) := fun y hy => XH.out y (hq.trans (hy.mono hq.size))
    replace lH : w14.heap.size < w16.heap.size := Nat.lt_of_lt_of_le lH hq.size
    have zw16 : w15.heap.size ≤ w16.heap.size := hq.size
    clear hq BP
    clear kA0 kA1 kW0 kW1 kW2 kW3 kW4 kW5 kW6 kU0 kU1 kG0 kG1 kG2 kG3 kG4 kG5 kG6 kH0 kH1 kH2 kH3 kH4 kH5 kH6
    clear hb
    have kA0 : w16.cell? ⟨w.heap.size, 0, none⟩ = some (.slice a0 l0 c0) := (boxG (XA.out w16 (Below.refl _ _)) 0).1
    have kA1 : w16.cell? ⟨w.heap.size, 1, none⟩ = some (.slice a1 l1 c1) := (boxG (XA.out w16 (Below.refl _ _)) 1).1
    have kW0 : w16.cell? ⟨w3.heap.size, 0, none⟩ = some (.slice oa 7 oc) := (boxG (XW.out w16 (Below.refl _ _)) 0).1
    have kW1 : w16.cell? ⟨w3.heap.size, 1, none⟩ = some (.slice fa 1 fc) := (boxG (XW.out w16 (Below.refl _ _)) 1).1
    have kW2 : w16.cell? ⟨w3.heap.size, 2, none⟩ = some (.slice sa 0 sc) := (boxG (XW.out w16 (Below.refl _ _)) 2).1
    have kW3 : w16.cell? ⟨w3.heap.size, 3, none⟩ = some (.int .i64 0) := (boxG (XW.out w16 (Below.refl _ _)) 3).1
    have kW4 : w16.cell? ⟨w3.heap.size, 4, none⟩ = some (.int .i64 0) := (boxG (XW.out w16 (Below.refl _ _)) 4).1
    have kW5 : w16.cell? ⟨w3.heap.size, 5, none⟩ = some (.bool false) := (boxG (XW.out w16 (Below.refl _ _)) 5).1
    have kW6 : w16.cell? ⟨w3.heap.size, 6, none⟩ = some (.int .i64 0) := (boxG (XW.out w16 (Below.refl _ _)) 6).1
    have kU0 : w16.cell? ⟨w4.heap.size, 0, none⟩ = some (.slice ka0 l0 (l0 + kc0)) := (boxG (XU.out w16 (Below.refl _ _)) 0).1
    have kU1 : w16.cell? ⟨w4.heap.size, 1, none⟩ = some (.slice ka1 l1 (l1 + kc1)) := (boxG (XU.out w16 (Below.refl _ _)) 1).1
    have kG0 : w16.cell? ⟨w5.heap.size, 0, none⟩ = some (.slice (some ⟨G, 0, none⟩) 7 7) := (boxG (XG.out w16 (Below.refl _ _)) 0).1
    have kG1 : w16.cell? ⟨w5.heap.size, 1, none⟩ = some (.slice (some ⟨FB, 0, none⟩) 1 1) := (boxG (XG.out w16 (Below.refl _ _)) 1).1
    have kG2 : w16.cell? ⟨w5.heap.size, 2, none⟩ = some (.slice none 0 0) := (boxG (XG.out w16 (Below.refl _ _)) 2).1
    have kG3 : w16.cell? ⟨w5.heap.size, 3, none⟩ = some (.int .i64 0) := (boxG (XG.out w16 (Below.refl _ _)) 3).1
    have kG4 : w16.cell? ⟨w5.heap.size, 4, none⟩ = some (.int .i64 0) := (boxG (XG.out w16 (Below.refl _ _)) 4).1
    have kG5 : w16.cell? ⟨w5.heap.size, 5, none⟩ = some (.bool false) := (boxG (XG.out w16 (Below.refl _ _)) 5).1
    have kG6 : w16.cell? ⟨w5.heap.size, 6, none⟩ = some (.int .i64 0) := (boxG (XG.out w16 (Below.refl _ _)) 6).1
    have kH0 : w16.cell? ⟨w14.heap.size, 0, none⟩ = some (.slice (some ⟨G2, 0, none⟩) 7 7) := (boxG (XH.out w16 (Below.refl _ _)) 0).1
    have kH1 : w16.cell? ⟨w14.heap.size, 1, none⟩ = some (.slice (some ⟨FB2, 0, none⟩) 1 1) := (boxG (XH.out w16 (Below.refl _ _)) 1).1
    have kH2 : w16.cell? ⟨w14.heap.size, 2, none⟩ = some (.slice none 0 0) := (boxG (XH.out w16 (Below.refl _ _)) 2).1
    have kH3 : w16.cell? ⟨w14.heap.size, 3, none⟩ = some (.int .i64 0) := (boxG (XH.out w16 (Below.refl _ _)) 3).1
    have kH4 : w16.cell? ⟨w14.heap.size, 4, none⟩ = some (.int .i64 0) := (boxG (XH.out w16 (Below.refl _ _)) 4).1
    have kH5 : w16.cell? ⟨w14.heap.size, 5, none⟩ = some (.bool false) := (boxG (XH.out w16 (Below.refl _ _)) 5).1
    have kH6 : w16.cell? ⟨w14.heap.size, 6, none⟩ = some (.int .i64 0) := (boxG (XH.out w16 (Below.refl _ _)) 6).1
    go_wp2_with fail
    go_ret
    exact ⟨rfl, B.out _ (Below.refl _ _)⟩

/-- What came in, read. -/
theorem unitOf {H : Type} {enc : TypeId × Value → H} {W : World} {cs : Array Value} {d : DataW H} {p : List MemPlace} (h : DataW.Trod enc Tryz.prog W 0 (fun _ => true) true 25 (.agg cs) d p) :
    ∃ a0 l0 c0 a1 l1 c1 L M, cs = #[.slice a0 l0 c0, .slice a1 l1 c1] ∧ SlAt clR (fun _ => True) W a0 l0 L ∧ SlAt meR (fun _ => True) W a1 l1 M := by
  obtain ⟨fuel, hf⟩ := h
  obtain ⟨⟨L, M⟩, _, _, e, ⟨a0, l0, c0, rfl, h1⟩, ⟨a1, l1, c1, rfl, h2⟩⟩ := rd_Unit _ _ _ _ _ _ hf
  refine ⟨a0, l0, c0, a1, l1, c1, L, M, ?_, h1, h2⟩
  obtain ⟨l⟩ := cs
  simpa [Value.cells] using e

set_option maxRecDepth 100000 in
theorem lifted (os : Os) (started : os.Started) (H : Type) (enc : TypeId × Value → H) :
    ReturnsInHanded {} Tryz.checked os 3 .any (Rows.fnExactMachNewSpec.pre6 enc Tryz.prog Tryz.f3 Rows.fnExactMachNewRow.domain false) (Rows.fnExactMachNewSpec.post enc Tryz.prog Tryz.f3 false true false false) := by
  refine returnsInHanded_of_change (C := Tryz.checked) own started (by kernel_rfl) Tryz.func3
    (ChangeSpec.witness6 (enc := enc) (C := Tryz.checked) false ⟨#[], #[.agg #[.slice none 0 0, .slice none 0 0]], []⟩ 8 (by kernel_rfl) (by kernel_rfl) (by kernel_rfl) (by kernel_rfl)) ?_
  intro W base args ds gs before hval0 hW hcnd _
  have hval : ∀ (j : Nat) t v, Tryz.f3.params[j]? = some t → args[j]? = some v → Value.okWide Tryz.prog W .any base t v := hval0
  have hW' := hW
  obtain ⟨p, q, hA0, hV, rfl, hfz, hnd⟩ := hW
  have hA : DataW.TrodAll enc Tryz.prog W 0 (fun _ => true) true Tryz.f3.params.toList args.toList ds p := hA0
  rw [Tryz.params3] at hA hval
  obtain ⟨v0, vs0, d0, ds0, p0, q0, hargs, rfl, rfl, h0, r0⟩ := trodAll_cons hA
  obtain ⟨rfl, rfl, rfl⟩ := trodAll_nil r0
  obtain rfl : args = #[v0] := by cases args; simp_all
  obtain ⟨rfl, rfl⟩ := trodVars_none hV
  have k0 := h0
  have lt0 : ∀ x ∈ p0, x.block < W.heap.size := by obtain ⟨m, hm⟩ := k0; exact DataW.trod_lt m _ _ _ hm
  obtain ⟨cs, rfl, _⟩ := okWide_struct Tryz.underlying25 (hval 0 25 v0 rfl rfl)
  obtain ⟨b0, l0, c0, b1, l1, c1, L, M, rfl, w0, w1⟩ := unitOf h0
  clear hA0 hval0
  refine (walk b0 l0 c0 b1 l1 c1 L M W w0 w1).mono fun e W' ⟨he, bel⟩ => ?_
  subst he
  exact ⟨_, rfl, _, _, _, [], _, [], hW', trodAll_mk1 (shut_bool Tryz.underlying4 _), (trodAll_cons_mk (Below.trod laidOut (by kernel_rfl) (of_decide_eq_true (by kernel_rfl)) k0 bel lt0) trodAll_mk0), rfl, bel.frame _, fun h => by cases h⟩

theorem over : Rows.fnExactMachNewRow.holds Tryz.pinned (OpenSpec.ofChange Rows.fnExactMachNewSpec) :=
  OpenClaim.holds_of_wide 3 Tryz.f3 rfl rfl rfl rfl rfl rfl rfl ⟨rfl, rfl, rfl, rfl, rfl⟩ rfl rfl rfl rfl rfl (by kernel_rfl) Tryz.func3 (by kernel_rfl)
    (of_decide_eq_true (by kernel_rfl)) (by unfold Func.isWrapper; first | (rw [if_pos (by decide +kernel)]; kernel_rfl) | (rw [if_neg (by decide +kernel)]; exact ⟨rfl, rfl⟩))
    (fun os started H enc _ => lifted os started H enc)
theorem proved : Rows.FnExactMachNewSaid := over
end Go.Proofs.YthdlccadcadopaaGreat.fnExactMachNew

namespace Go.Proofs.YthdlccadcadopaaGreat
theorem fnExactMachNew_holds : Rows.FnExactMachNewSaid := fnExactMachNew.proved
#print axioms fnExactMachNew_holds
end Go.Proofs.YthdlccadcadopaaGreat
