/-
  At every unit and every machine MachOk of the program answers as MachOk of the specification and changes no argument, and the law FnExactMachOk returns true; no condition.
-/
import Derived.Test.YthdlccadcadopaaGreatMokQ
import Derived.Test.YthdlccadcadopaaGreatDtUnit
import Derived.Test.YthdlccadcadopaaGreatRdCls
import Derived.Deep.RegionHeld3
namespace Go.Proofs.YthdlccadcadopaaGreat.fnExactMachOk
open Go.ChangeShapes Go.WideShapes Go.ChangeAt Go.RowKit
set_option linter.unusedVariables false

set_option maxRecDepth 100000 in
set_option maxHeartbeats 16000000 in
theorem walk (a0 : Option Addr) (l0 c0 : Nat) (a1 : Option Addr) (l1 c1 : Nat) (b0 : Option Addr) (m0 d0 : Nat) (b1 : Option Addr) (m1 d1 : Nat) (b2 : Option Addr) (m2 d2 : Nat) (st en : Int) (o0 : Bool) (o1 : Int) (L : List Cl) (M : List Me) (X : List Ob) (F : List Fr) (S : List Int) (w : World) {D : Nat → Prop} (h : SlAt clR D w a0 l0 L) (hM : SlAt meR D w a1 l1 M) (hX : SlAt obR D w b0 m0 X) (hF : SlAt frR D w b1 m1 F) (hS : SlAt intR D w b2 m2 S) :
    Calls Tryz.prog 4 #[.agg #[.slice a0 l0 c0, .slice a1 l1 c1], .agg #[.slice b0 m0 d0, .slice b1 m1 d1, .slice b2 m2 d2, .int .i64 st, .int .i64 en, .bool o0, .int .i64 o1]] w fun e w' => e = .returned (.bool true) ∧ Below w.heap.size w w' := by
  have H : Hid (SlAt clR D w a0 l0 L) := h
  have HM : Hid (SlAt meR D w a1 l1 M) := hM
  have HX : Hid (SlAt obR D w b0 m0 X) := hX
  have HF : Hid (SlAt frR D w b1 m1 F) := hF
  have HS : Hid (SlAt intR D w b2 m2 S) := hS
  have B0 : Hid (Below w.heap.size w ((w.alloc (.cells #[.slice a0 l0 c0, .slice a1 l1 c1] 25)).alloc (.cells #[.slice b0 m0 d0, .slice b1 m1 d1, .slice b2 m2 d2, .int .i64 st, .int .i64 en, .bool o0, .int .i64 o1] 49))) := ((Below.refl _ _).alloc (Nat.le_refl _) _).alloc (by simp) _
  clear h hM hX hF hS
  go_enter Tryz.func4, Tryz.ntmps4
  go_wp2_with fail
  refine (szRUnit _ _ _ _ _ _ L M _ _ (H.out.later B0.out) (HM.out.later B0.out) (by omega) (by omega)).mono ?_
  rintro e w1 ⟨r, rfl, r0, r1, hsz, hb⟩
  have M0 : Hid (0 ≤ r → Rep.small unR (L, M)) := hsz
  have hb0 : Below (w.heap.size + 1 + 1) ((w.alloc (.cells #[.slice a0 l0 c0, .slice a1 l1 c1] 25)).alloc (.cells #[.slice b0 m0 d0, .slice b1 m1 d1, .slice b2 m2 d2, .int .i64 st, .int .i64 en, .bool o0, .int .i64 o1] 49)) w1 := by simpa using hb
  have lA : w.heap.size < w1.heap.size := by have := hb0.size; simp at this; omega
  have lC : w.heap.size + 1 < w1.heap.size := by have := hb0.size; simp at this; omega
  have XA : Hid (∀ y, Below w1.heap.size w1 y → y.heap[w.heap.size]? = some (.cells #[.slice a0 l0 c0, .slice a1 l1 c1] 25 (0, 0))) := fun y hy => (hy.block _ lA).trans ((hb0.block _ (by omega)).trans ((Below.heap_alloc _ _ _ (by simp)).trans (boxN _ _ _ _ rfl)))
  have XC : Hid (∀ y, Below w1.heap.size w1 y → y.heap[w.heap.size + 1]? = some (.cells #[.slice b0 m0 d0, .slice b1 m1 d1, .slice b2 m2 d2, .int .i64 st, .int .i64 en, .bool o0, .int .i64 o1] 49 (0, 0))) := fun y hy => (hy.block _ lC).trans ((hb0.block _ (by omega)).trans (boxN _ _ _ _ (by simp)))
  have B : Hid (∀ y, Below w1.heap.size w1 y → Below w.heap.size w y) := fun y hy => (B0.out.trans (hb0.mono (by omega))).trans (hy.mono (by omega))
  clear hsz hb hb0 B0
  have kA0 : w1.cell? ⟨w.heap.size, 0, none⟩ = some (.slice a0 l0 c0) := (boxG (XA.out w1 (Below.refl _ _)) 0).1
  have kA1 : w1.cell? ⟨w.heap.size, 1, none⟩ = some (.slice a1 l1 c1) := (boxG (XA.out w1 (Below.refl _ _)) 1).1
  have kC0 : w1.cell? ⟨w.heap.size + 1, 0, none⟩ = some (.slice b0 m0 d0) := (boxG (XC.out w1 (Below.refl _ _)) 0).1
  have kC1 : w1.cell? ⟨w.heap.size + 1, 1, none⟩ = some (.slice b1 m1 d1) := (boxG (XC.out w1 (Below.refl _ _)) 1).1
  have kC2 : w1.cell? ⟨w.heap.size + 1, 2, none⟩ = some (.slice b2 m2 d2) := (boxG (XC.out w1 (Below.refl _ _)) 2).1
  have kC3 : w1.cell? ⟨w.heap.size + 1, 3, none⟩ = some (.int .i64 st) := (boxG (XC.out w1 (Below.refl _ _)) 3).1
  have kC4 : w1.cell? ⟨w.heap.size + 1, 4, none⟩ = some (.int .i64 en) := (boxG (XC.out w1 (Below.refl _ _)) 4).1
  have kC5 : w1.cell? ⟨w.heap.size + 1, 5, none⟩ = some (.bool o0) := (boxG (XC.out w1 (Below.refl _ _)) 5).1
  have kC6 : w1.cell? ⟨w.heap.size + 1, 6, none⟩ = some (.int .i64 o1) := (boxG (XC.out w1 (Below.refl _ _)) 6).1
  by_cases hr : r < 0
  · go_wp2_with fail
    go_ret
    exact ⟨rfl, B.out _ (Below.refl _ _)⟩
  have SL : Hid ((Rep.list clR).small L) := (M0.out (by omega)).1
  have SM : Hid ((Rep.list meR).small M) := (M0.out (by omega)).2
  clear M0
  have BP : Hid (Below w1.heap.size w1 w1) := Below.refl _ _
  go_wp2_with fail
  refine (szRMach _ _ _ _ _ _ _ _ _ _ _ _ _ X F S _ _ (HX.out.later (B.out _ BP.out)) (HF.out.later (B.out _ BP.out)) (HS.out.later (B.out _ BP.out)) (by omega) (by omega)).mono ?_
  rintro e w2 ⟨r2, rfl, r3, r4, hsz, hb⟩
  have M0 : Hid (0 ≤ r2 → Rep.small mcR (X, F, S, st, en, o0, o1)) := hsz
  clear hsz
  have hq : Below w1.heap.size w1 w2 := BP.out.trans (Below.mono hb BP.out.size)
  replace B : Hid (∀ y, Below w2.heap.size w2 y → Below w.heap.size w y) := fun y hy => B.out y (hq.trans (hy.mono hq.size))
  replace XA : Hid (∀ y, Below w2.heap.size w2 y → y.heap[w.heap.size]? = some (.cells #[.slice a0 l0 c0, .slice a1 l1 c1] 25 (0, 0))) := fun y hy => XA.out y (hq.trans (hy.mono hq.size))
  replace lA : w.heap.size < w2.heap.size := Nat.lt_of_lt_of_le lA hq.size
  replace XC : Hid (∀ y, Below w2.heap.size w2 y → y.heap[w.heap.size + 1]? = some (.cells #[.slice b0 m0 d0, .slice b1 m1 d1, .slice b2 m2 d2, .int .i64 st, .int .i64 en, .bool o0, .int .i64 o1] 49 (0, 0))) := fun y hy => XC.out y (hq.trans (hy.mono hq.size))
  replace lC : w.heap.size + 1 < w2.heap.size := Nat.lt_of_lt_of_le lC hq.size
  have zw2 : w1.heap.size ≤ w2.heap.size := hq.size
  clear hq BP
  clear kA0 kA1 kC0 kC1 kC2 kC3 kC4 kC5 kC6
  clear hb
  have kA0 : w2.cell? ⟨w.heap.size, 0, none⟩ = some (.slice a0 l0 c0) := (boxG (XA.out w2 (Below.refl _ _)) 0).1
  have kA1 : w2.cell? ⟨w.heap.size, 1, none⟩ = some (.slice a1 l1 c1) := (boxG (XA.out w2 (Below.refl _ _)) 1).1
  have kC0 : w2.cell? ⟨w.heap.size + 1, 0, none⟩ = some (.slice b0 m0 d0) := (boxG (XC.out w2 (Below.refl _ _)) 0).1
  have kC1 : w2.cell? ⟨w.heap.size + 1, 1, none⟩ = some (.slice b1 m1 d1) := (boxG (XC.out w2 (Below.refl _ _)) 1).1
  have kC2 : w2.cell? ⟨w.heap.size + 1, 2, none⟩ = some (.slice b2 m2 d2) := (boxG (XC.out w2 (Below.refl _ _)) 2).1
  have kC3 : w2.cell? ⟨w.heap.size + 1, 3, none⟩ = some (.int .i64 st) := (boxG (XC.out w2 (Below.refl _ _)) 3).1
  have kC4 : w2.cell? ⟨w.heap.size + 1, 4, none⟩ = some (.int .i64 en) := (boxG (XC.out w2 (Below.refl _ _)) 4).1
  have kC5 : w2.cell? ⟨w.heap.size + 1, 5, none⟩ = some (.bool o0) := (boxG (XC.out w2 (Below.refl _ _)) 5).1
  have kC6 : w2.cell? ⟨w.heap.size + 1, 6, none⟩ = some (.int .i64 o1) := (boxG (XC.out w2 (Below.refl _ _)) 6).1
  by_cases hr2 : r2 < 0
  · go_wp2_with fail
    go_ret
    exact ⟨rfl, B.out _ (Below.refl _ _)⟩
  have SX : Hid ((Rep.list obR).small X) := (M0.out (by omega)).1
  have SF : Hid ((Rep.list frR).small F) := (M0.out (by omega)).2.1
  have SS : Hid ((Rep.list intR).small S) := (M0.out (by omega)).2.2.1
  clear M0
  go_wp2_with fail
  have KS : Hid (∀ x, Below w2.heap.size w2 x → x.cell? ⟨w.heap.size, 0, none⟩ = some (.slice a0 l0 c0) ∧ x.cell? ⟨w.heap.size, 1, none⟩ = some (.slice a1 l1 c1) ∧ x.cell? ⟨w.heap.size + 1, 0, none⟩ = some (.slice b0 m0 d0) ∧ x.cell? ⟨w.heap.size + 1, 1, none⟩ = some (.slice b1 m1 d1) ∧ x.cell? ⟨w.heap.size + 1, 2, none⟩ = some (.slice b2 m2 d2) ∧ x.cell? ⟨w.heap.size + 1, 3, none⟩ = some (.int .i64 st) ∧ x.cell? ⟨w.heap.size + 1, 4, none⟩ = some (.int .i64 en) ∧ x.cell? ⟨w.heap.size + 1, 5, none⟩ = some (.bool o0) ∧ x.cell? ⟨w.heap.size + 1, 6, none⟩ = some (.int .i64 o1)) := fun x hx => ⟨(boxG (XA.out x hx) 0).1, (boxG (XA.out x hx) 1).1, (boxG (XC.out x hx) 0).1, (boxG (XC.out x hx) 1).1, (boxG (XC.out x hx) 2).1, (boxG (XC.out x hx) 3).1, (boxG (XC.out x hx) 4).1, (boxG (XC.out x hx) 5).1, (boxG (XC.out x hx) 6).1⟩
  refine wp_region_held_drew (S := fun x => x.cell? ⟨w.heap.size, 0, none⟩ = some (.slice a0 l0 c0) ∧ x.cell? ⟨w.heap.size, 1, none⟩ = some (.slice a1 l1 c1) ∧ x.cell? ⟨w.heap.size + 1, 0, none⟩ = some (.slice b0 m0 d0) ∧ x.cell? ⟨w.heap.size + 1, 1, none⟩ = some (.slice b1 m1 d1) ∧ x.cell? ⟨w.heap.size + 1, 2, none⟩ = some (.slice b2 m2 d2) ∧ x.cell? ⟨w.heap.size + 1, 3, none⟩ = some (.int .i64 st) ∧ x.cell? ⟨w.heap.size + 1, 4, none⟩ = some (.int .i64 en) ∧ x.cell? ⟨w.heap.size + 1, 5, none⟩ = some (.bool o0) ∧ x.cell? ⟨w.heap.size + 1, 6, none⟩ = some (.int .i64 o1)) (by kernel_rfl) ?_ (fun hHeld => ?_)
  · exact KS.out _ (below_drewN (Below.refl _ _) 1)
  refine wpAnyH_take (i := 0) (v := .agg #[.slice a0 l0 c0, .slice a1 l1 c1]) rfl (by kernel_rfl) (by kernel_rfl) (by kernel_rfl) (fun _ _ _ h => h) (Or.inl ⟨by kernel_rfl, by (intro x hSx; (try dsimp only at hSx); go_simp)⟩) (by assumption) ?_
  try simp only [Act.put, List.getElem_toArray, List.getElem_cons_zero, List.setIfInBounds_toArray, List.set_cons_zero, List.set_cons_succ]
  refine wpAnyH_take (i := 2) (v := .agg #[.slice b0 m0 d0, .slice b1 m1 d1, .slice b2 m2 d2, .int .i64 st, .int .i64 en, .bool o0, .int .i64 o1]) rfl (by kernel_rfl) (by kernel_rfl) (by kernel_rfl) (fun _ _ _ h => h) (Or.inl ⟨by kernel_rfl, by (intro x hSx; (try dsimp only at hSx); go_simp)⟩) (by assumption) ?_
  try simp only [Act.put, List.getElem_toArray, List.getElem_cons_zero, List.getElem_cons_succ, List.setIfInBounds_toArray, List.set_cons_zero, List.set_cons_succ]
  refine wpAnyH_ready (rs := [1]) (by kernel_rfl) (by simp) ?_
  refine AllReadyH.cons rfl (fun K hK => ?_) AllReadyH.nil
  go_simp
  go_at_call 7
  refine (toRUnit _ _ _ _ _ _ L M _ (H.out.later (B.out _ (below_drewN (Below.refl _ _) 1))) SL.out (HM.out.later (B.out _ (below_drewN (Below.refl _ _) 1))) SM.out).mono ?_
  rintro e w3 ⟨na0, nc0, na1, nc1, rfl, hU, hV, hbx⟩
  have hb : Below w2.heap.size w2 w3 := (below_drewN (Below.refl _ _) 1).trans (hbx.mono (Nat.le_refl _))
  clear hbx
  have BP : Hid (Below w2.heap.size w2 w2) := Below.refl _ _
  have hq : Below w2.heap.size w2 w3 := BP.out.trans (Below.mono hb BP.out.size)
  replace B : Hid (∀ y, Below w3.heap.size w3 y → Below w.heap.size w y) := fun y hy => B.out y (hq.trans (hy.mono hq.size))
  replace XA : Hid (∀ y, Below w3.heap.size w3 y → y.heap[w.heap.size]? = some (.cells #[.slice a0 l0 c0, .slice a1 l1 c1] 25 (0, 0))) := fun y hy => XA.out y (hq.trans (hy.mono hq.size))
  replace lA : w.heap.size < w3.heap.size := Nat.lt_of_lt_of_le lA hq.size
  replace XC : Hid (∀ y, Below w3.heap.size w3 y → y.heap[w.heap.size + 1]? = some (.cells #[.slice b0 m0 d0, .slice b1 m1 d1, .slice b2 m2 d2, .int .i64 st, .int .i64 en, .bool o0, .int .i64 o1] 49 (0, 0))) := fun y hy => XC.out y (hq.trans (hy.mono hq.size))
  replace lC : w.heap.size + 1 < w3.heap.size := Nat.lt_of_lt_of_le lC hq.size
  have zw3 : w2.heap.size ≤ w3.heap.size := hq.size
  clear hq BP
  replace KS : Hid (∀ x, Below w3.heap.size w3 x → x.cell? ⟨w.heap.size, 0, none⟩ = some (.slice a0 l0 c0) ∧ x.cell? ⟨w.heap.size, 1, none⟩ = some (.slice a1 l1 c1) ∧ x.cell? ⟨w.heap.size + 1, 0, none⟩ = some (.slice b0 m0 d0) ∧ x.cell? ⟨w.heap.size + 1, 1, none⟩ = some (.slice b1 m1 d1) ∧ x.cell? ⟨w.heap.size + 1, 2, none⟩ = some (.slice b2 m2 d2) ∧ x.cell? ⟨w.heap.size + 1, 3, none⟩ = some (.int .i64 st) ∧ x.cell? ⟨w.heap.size + 1, 4, none⟩ = some (.int .i64 en) ∧ x.cell? ⟨w.heap.size + 1, 5, none⟩ = some (.bool o0) ∧ x.cell? ⟨w.heap.size + 1, 6, none⟩ = some (.int .i64 o1)) := fun x hx => ⟨(boxG (XA.out x hx) 0).1, (boxG (XA.out x hx) 1).1, (boxG (XC.out x hx) 0).1, (boxG (XC.out x hx) 1).1, (boxG (XC.out x hx) 2).1, (boxG (XC.out x hx) 3).1, (boxG (XC.out x hx) 4).1, (boxG (XC.out x hx) 5).1, (boxG (XC.out x hx) 6).1⟩
  have U : Hid (SlAt clR _ w3 na0 l0 L) := hU
  have V : Hid (SlAt meR _ w3 na1 l1 M) := hV
  clear hU hV
  clear hb
  go_wp2_with fail
  refine hK.out _ _ (KS.out _ (Below.refl _ _)) (fun hHeld2 => ?_)
  clear hK K
  try simp only [Act.put, List.getElem_toArray, List.getElem_cons_zero, List.getElem_cons_succ, List.setIfInBounds_toArray, List.set_cons_zero, List.set_cons_succ]
  refine wpAnyH_ready (rs := [3]) (by kernel_rfl) (by simp) ?_
  refine AllReadyH.cons rfl (fun K hK => ?_) AllReadyH.nil
  go_simp
  go_at_call 16
  refine (toRMach _ _ _ _ _ _ _ _ _ _ _ _ _ X F S _ (HX.out.later (B.out _ (Below.refl _ _))) SX.out (HF.out.later (B.out _ (Below.refl _ _))) SF.out (HS.out.later (B.out _ (Below.refl _ _))) SS.out).mono ?_
  rintro e w4 ⟨nb0, nd0, nb1, nd1, nb2, nd2, rfl, hX, hF, hS, hbx⟩
  have hb : Below w3.heap.size w3 w4 := hbx
  clear hbx
  have BP : Hid (Below w3.heap.size w3 w3) := Below.refl _ _
  have hq : Below w3.heap.size w3 w4 := BP.out.trans (Below.mono hb BP.out.size)
  replace B : Hid (∀ y, Below w4.heap.size w4 y → Below w.heap.size w y) := fun y hy => B.out y (hq.trans (hy.mono hq.size))
  replace XA : Hid (∀ y, Below w4.heap.size w4 y → y.heap[w.heap.size]? = some (.cells #[.slice a0 l0 c0, .slice a1 l1 c1] 25 (0, 0))) := fun y hy => XA.out y (hq.trans (hy.mono hq.size))
  replace lA : w.heap.size < w4.heap.size := Nat.lt_of_lt_of_le lA hq.size
  replace XC : Hid (∀ y, Below w4.heap.size w4 y → y.heap[w.heap.size + 1]? = some (.cells #[.slice b0 m0 d0, .slice b1 m1 d1, .slice b2 m2 d2, .int .i64 st, .int .i64 en, .bool o0, .int .i64 o1] 49 (0, 0))) := fun y hy => XC.out y (hq.trans (hy.mono hq.size))
  replace lC : w.heap.size + 1 < w4.heap.size := Nat.lt_of_lt_of_le lC hq.size
  have zw4 : w3.heap.size ≤ w4.heap.size := hq.size
  clear hq BP
  replace KS : Hid (∀ x, Below w4.heap.size w4 x → x.cell? ⟨w.heap.size, 0, none⟩ = some (.slice a0 l0 c0) ∧ x.cell? ⟨w.heap.size, 1, none⟩ = some (.slice a1 l1 c1) ∧ x.cell? ⟨w.heap.size + 1, 0, none⟩ = some (.slice b0 m0 d0) ∧ x.cell? ⟨w.heap.size + 1, 1, none⟩ = some (.slice b1 m1 d1) ∧ x.cell? ⟨w.heap.size + 1, 2, none⟩ = some (.slice b2 m2 d2) ∧ x.cell? ⟨w.heap.size + 1, 3, none⟩ = some (.int .i64 st) ∧ x.cell? ⟨w.heap.size + 1, 4, none⟩ = some (.int .i64 en) ∧ x.cell? ⟨w.heap.size + 1, 5, none⟩ = some (.bool o0) ∧ x.cell? ⟨w.heap.size + 1, 6, none⟩ = some (.int .i64 o1)) := fun x hx => ⟨(boxG (XA.out x hx) 0).1, (boxG (XA.out x hx) 1).1, (boxG (XC.out x hx) 0).1, (boxG (XC.out x hx) 1).1, (boxG (XC.out x hx) 2).1, (boxG (XC.out x hx) 3).1, (boxG (XC.out x hx) 4).1, (boxG (XC.out x hx) 5).1, (boxG (XC.out x hx) 6).1⟩
  replace U : Hid (SlAt clR _ w4 na0 l0 L) := U.out.later hb
  replace V : Hid (SlAt meR _ w4 na1 l1 M) := V.out.later hb
  have X0 : Hid (SlAt obR _ w4 nb0 m0 X) := hX
  have F0 : Hid (SlAt frR _ w4 nb1 m1 F) := hF
  have S0 : Hid (SlAt intR _ w4 nb2 m2 S) := hS
  clear hX hF hS
  clear hb
  go_wp2_with fail
  refine hK.out _ _ (KS.out _ (Below.refl _ _)) (fun hHeld3 => ?_)
  clear hK K
  try simp only [Act.put, List.getElem_toArray, List.getElem_cons_zero, List.getElem_cons_succ, List.setIfInBounds_toArray, List.set_cons_zero, List.set_cons_succ]
  refine wpAnyH_ready (rs := [4]) (by kernel_rfl) (by simp) ?_
  refine AllReadyH.cons rfl (fun K hK => ?_) AllReadyH.nil
  go_simp
  go_at_call 15
  refine (machOkSpec _ _ _ _ _ _ _ _ _ _ _ _ _ _ _ _ _ _ _ L M X F S _ U.out.cls V.out X0.out F0.out S0.out).mono ?_
  rintro e w5 ⟨rfl, hbx⟩
  have hb : Below w4.heap.size w4 w5 := hbx
  clear hbx
  have BP : Hid (Below w4.heap.size w4 w4) := Below.refl _ _
  have hq : Below w4.heap.size w4 w5 := BP.out.trans (Below.mono hb BP.out.size)
  replace B : Hid (∀ y, Below w5.heap.size w5 y → Below w.heap.size w y) := fun y hy => B.out y (hq.trans (hy.mono hq.size))
  replace XA : Hid (∀ y, Below w5.heap.size w5 y → y.heap[w.heap.size]? = some (.cells #[.slice a0 l0 c0, .slice a1 l1 c1] 25 (0, 0))) := fun y hy => XA.out y (hq.trans (hy.mono hq.size))
  replace lA : w.heap.size < w5.heap.size := Nat.lt_of_lt_of_le lA hq.size
  replace XC : Hid (∀ y, Below w5.heap.size w5 y → y.heap[w.heap.size + 1]? = some (.cells #[.slice b0 m0 d0, .slice b1 m1 d1, .slice b2 m2 d2, .int .i64 st, .int .i64 en, .bool o0, .int .i64 o1] 49 (0, 0))) := fun y hy => XC.out y (hq.trans (hy.mono hq.size))
  replace lC : w.heap.size + 1 < w5.heap.size := Nat.lt_of_lt_of_le lC hq.size
  have zw5 : w4.heap.size ≤ w5.heap.size := hq.size
  clear hq BP
  replace KS : Hid (∀ x, Below w5.heap.size w5 x → x.cell? ⟨w.heap.size, 0, none⟩ = some (.slice a0 l0 c0) ∧ x.cell? ⟨w.heap.size, 1, none⟩ = some (.slice a1 l1 c1) ∧ x.cell? ⟨w.heap.size + 1, 0, none⟩ = some (.slice b0 m0 d0) ∧ x.cell? ⟨w.heap.size + 1, 1, none⟩ = some (.slice b1 m1 d1) ∧ x.cell? ⟨w.heap.size + 1, 2, none⟩ = some (.slice b2 m2 d2) ∧ x.cell? ⟨w.heap.size + 1, 3, none⟩ = some (.int .i64 st) ∧ x.cell? ⟨w.heap.size + 1, 4, none⟩ = some (.int .i64 en) ∧ x.cell? ⟨w.heap.size + 1, 5, none⟩ = some (.bool o0) ∧ x.cell? ⟨w.heap.size + 1, 6, none⟩ = some (.int .i64 o1)) := fun x hx => ⟨(boxG (XA.out x hx) 0).1, (boxG (XA.out x hx) 1).1, (boxG (XC.out x hx) 0).1, (boxG (XC.out x hx) 1).1, (boxG (XC.out x hx) 2).1, (boxG (XC.out x hx) 3).1, (boxG (XC.out x hx) 4).1, (boxG (XC.out x hx) 5).1, (boxG (XC.out x hx) 6).1⟩
  clear U V X0 F0 S0
  clear hb
  go_wp2_with fail
  refine hK.out _ _ (KS.out _ (Below.refl _ _)) (fun hHeld4 => ?_)
  clear hK K
  try simp only [Act.put, List.getElem_toArray, List.getElem_cons_zero, List.getElem_cons_succ, List.setIfInBounds_toArray, List.set_cons_zero, List.set_cons_succ]
  refine wpAnyH_take (i := 5) (v := .bool (machM L M X F S st en o0 o1)) rfl (by kernel_rfl) (by kernel_rfl) (by kernel_rfl) (fun _ _ _ h => h) (Or.inl ⟨by kernel_rfl, by (intro x hSx; (try dsimp only at hSx); go_simp)⟩) (by assumption) ?_
  try simp only [Act.put, List.getElem_toArray, List.getElem_cons_zero, List.getElem_cons_succ, List.setIfInBounds_toArray, List.set_cons_zero, List.set_cons_succ]
  refine wpAnyH_done (by kernel_rfl) ?_ _
  clear hHeld hHeld2 hHeld3 hHeld4
  clear kA0 kA1 kC0 kC1 kC2 kC3 kC4 kC5 kC6
  clear KS
  obtain ⟨ans, hans⟩ : ∃ q, machM L M X F S st en o0 o1 = q := ⟨_, rfl⟩
  have HQ : Hid (machM L M X F S st en o0 o1 = ans) := hans
  rw [hans]
  clear hans
  have eq1 : (ans != ans) = false := by cases ans <;> rfl
  have kA0 : w5.cell? ⟨w.heap.size, 0, none⟩ = some (.slice a0 l0 c0) := (boxG (XA.out w5 (Below.refl _ _)) 0).1
  have kA1 : w5.cell? ⟨w.heap.size, 1, none⟩ = some (.slice a1 l1 c1) := (boxG (XA.out w5 (Below.refl _ _)) 1).1
  have kC0 : w5.cell? ⟨w.heap.size + 1, 0, none⟩ = some (.slice b0 m0 d0) := (boxG (XC.out w5 (Below.refl _ _)) 0).1
  have kC1 : w5.cell? ⟨w.heap.size + 1, 1, none⟩ = some (.slice b1 m1 d1) := (boxG (XC.out w5 (Below.refl _ _)) 1).1
  have kC2 : w5.cell? ⟨w.heap.size + 1, 2, none⟩ = some (.slice b2 m2 d2) := (boxG (XC.out w5 (Below.refl _ _)) 2).1
  have kC3 : w5.cell? ⟨w.heap.size + 1, 3, none⟩ = some (.int .i64 st) := (boxG (XC.out w5 (Below.refl _ _)) 3).1
  have kC4 : w5.cell? ⟨w.heap.size + 1, 4, none⟩ = some (.int .i64 en) := (boxG (XC.out w5 (Below.refl _ _)) 4).1
  have kC5 : w5.cell? ⟨w.heap.size + 1, 5, none⟩ = some (.bool o0) := (boxG (XC.out w5 (Below.refl _ _)) 5).1
  have kC6 : w5.cell? ⟨w.heap.size + 1, 6, none⟩ = some (.int .i64 o1) := (boxG (XC.out w5 (Below.refl _ _)) 6).1
  have BP : Hid (Below w5.heap.size w5 w5) := Below.refl _ _
  go_wp2_with fail
  refine (toRUnit _ _ _ _ _ _ L M _ (H.out.later (B.out _ BP.out)) SL.out (HM.out.later (B.out _ BP.out)) SM.out).mono ?_
  rintro e w6 ⟨ka0, kc0, ka1, kc1, rfl, hU, hV, hb⟩
  have hq : Below w5.heap.size w5 w6 := BP.out.trans (Below.mono hb BP.out.size)
  replace B : Hid (∀ y, Below w6.heap.size w6 y → Below w.heap.size w y) := fun y hy => B.out y (hq.trans (hy.mono hq.size))
  replace XA : Hid (∀ y, Below w6.heap.size w6 y → y.heap[w.heap.size]? = some (.cells #[.slice a0 l0 c0, .slice a1 l1 c1] 25 (0, 0))) := fun y hy => XA.out y (hq.trans (hy.mono hq.size))
  replace lA : w.heap.size < w6.heap.size := Nat.lt_of_lt_of_le lA hq.size
  replace XC : Hid (∀ y, Below w6.heap.size w6 y → y.heap[w.heap.size + 1]? = some (.cells #[.slice b0 m0 d0, .slice b1 m1 d1, .slice b2 m2 d2, .int .i64 st, .int .i64 en, .bool o0, .int .i64 o1] 49 (0, 0))) := fun y hy => XC.out y (hq.trans (hy.mono hq.size))
  replace lC : w.heap.size + 1 < w6.heap.size := Nat.lt_of_lt_of_le lC hq.size
  have zw6 : w5.heap.size ≤ w6.heap.size := hq.size
  clear hq BP
  clear kA0 kA1 kC0 kC1 kC2 kC3 kC4 kC5 kC6
  have T : Hid (∀ y, Below w6.heap.size w6 y → SlAt clR (fun _ => True) y ka0 l0 L) := fun y hy => (hU.mono (fun _ _ _ => trivial)).later hy
  have N : Hid (∀ y, Below w6.heap.size w6 y → SlAt meR (fun _ => True) y ka1 l1 M) := fun y hy => (hV.mono (fun _ _ _ => trivial)).later hy
  clear hU hV hb
  have kA0 : w6.cell? ⟨w.heap.size, 0, none⟩ = some (.slice a0 l0 c0) := (boxG (XA.out w6 (Below.refl _ _)) 0).1
  have kA1 : w6.cell? ⟨w.heap.size, 1, none⟩ = some (.slice a1 l1 c1) := (boxG (XA.out w6 (Below.refl _ _)) 1).1
  have kC0 : w6.cell? ⟨w.heap.size + 1, 0, none⟩ = some (.slice b0 m0 d0) := (boxG (XC.out w6 (Below.refl _ _)) 0).1
  have kC1 : w6.cell? ⟨w.heap.size + 1, 1, none⟩ = some (.slice b1 m1 d1) := (boxG (XC.out w6 (Below.refl _ _)) 1).1
  have kC2 : w6.cell? ⟨w.heap.size + 1, 2, none⟩ = some (.slice b2 m2 d2) := (boxG (XC.out w6 (Below.refl _ _)) 2).1
  have kC3 : w6.cell? ⟨w.heap.size + 1, 3, none⟩ = some (.int .i64 st) := (boxG (XC.out w6 (Below.refl _ _)) 3).1
  have kC4 : w6.cell? ⟨w.heap.size + 1, 4, none⟩ = some (.int .i64 en) := (boxG (XC.out w6 (Below.refl _ _)) 4).1
  have kC5 : w6.cell? ⟨w.heap.size + 1, 5, none⟩ = some (.bool o0) := (boxG (XC.out w6 (Below.refl _ _)) 5).1
  have kC6 : w6.cell? ⟨w.heap.size + 1, 6, none⟩ = some (.int .i64 o1) := (boxG (XC.out w6 (Below.refl _ _)) 6).1
  have BP : Hid (Below w6.heap.size w6 (w6.alloc (.cells #[.slice ka0 l0 (l0 + kc0), .slice ka1 l1 (l1 + kc1)] 38))) := (Below.refl _ _).alloc (Nat.le_refl _) _
  go_wp2_with fail
  refine (toRMach _ _ _ _ _ _ _ _ _ _ _ _ _ X F S _ (HX.out.later (B.out _ BP.out)) SX.out (HF.out.later (B.out _ BP.out)) SF.out (HS.out.later (B.out _ BP.out)) SS.out).mono ?_
  rintro e w7 ⟨kb0, kd0, kb1, kd1, kb2, kd2, rfl, hX, hF, hS, hb⟩
  have hq : Below w6.heap.size w6 w7 := BP.out.trans (Below.mono hb BP.out.size)
  replace B : Hid (∀ y, Below w7.heap.size w7 y → Below w.heap.size w y) := fun y hy => B.out y (hq.trans (hy.mono hq.size))
  replace T : Hid (∀ y, Below w7.heap.size w7 y → SlAt clR (fun _ => True) y ka0 l0 L) := fun y hy => T.out y (hq.trans (hy.mono hq.size))
  replace N : Hid (∀ y, Below w7.heap.size w7 y → SlAt meR (fun _ => True) y ka1 l1 M) := fun y hy => N.out y (hq.trans (hy.mono hq.size))
  replace XA : Hid (∀ y, Below w7.heap.size w7 y → y.heap[w.heap.size]? = some (.cells #[.slice a0 l0 c0, .slice a1 l1 c1] 25 (0, 0))) := fun y hy => XA.out y (hq.trans (hy.mono hq.size))
  replace lA : w.heap.size < w7.heap.size := Nat.lt_of_lt_of_le lA hq.size
  replace XC : Hid (∀ y, Below w7.heap.size w7 y → y.heap[w.heap.size + 1]? = some (.cells #[.slice b0 m0 d0, .slice b1 m1 d1, .slice b2 m2 d2, .int .i64 st, .int .i64 en, .bool o0, .int .i64 o1] 49 (0, 0))) := fun y hy => XC.out y (hq.trans (hy.mono hq.size))
  replace lC : w.heap.size + 1 < w7.heap.size := Nat.lt_of_lt_of_le lC hq.size
  have lU : w6.heap.size < w7.heap.size := Nat.lt_of_lt_of_le (by simp) (Below.size hb)
  have XU : Hid (∀ y, Below w7.heap.size w7 y → y.heap[w6.heap.size]? = some (.cells #[.slice ka0 l0 (l0 + kc0), .slice ka1 l1 (l1 + kc1)] 38 (0, 0))) := fun y hy => (hy.block _ lU).trans ((Below.block hb _ (by simp)).trans (boxN _ _ _ _ rfl))
  have zw7 : w6.heap.size + 1 ≤ w7.heap.size := Nat.le_trans (Nat.le_of_eq (by simp)) (Below.size hb)
  clear hq BP
  clear kA0 kA1 kC0 kC1 kC2 kC3 kC4 kC5 kC6
  have X1 : Hid (∀ y, Below w7.heap.size w7 y → SlAt obR (fun _ => True) y kb0 m0 X) := fun y hy => (hX.mono (fun _ _ _ => trivial)).later hy
  have F1 : Hid (∀ y, Below w7.heap.size w7 y → SlAt frR (fun _ => True) y kb1 m1 F) := fun y hy => (hF.mono (fun _ _ _ => trivial)).later hy
  have S1 : Hid (∀ y, Below w7.heap.size w7 y → SlAt intR (fun _ => True) y kb2 m2 S) := fun y hy => (hS.mono (fun _ _ _ => trivial)).later hy
  clear hX hF hS hb
  have kA0 : w7.cell? ⟨w.heap.size, 0, none⟩ = some (.slice a0 l0 c0) := (boxG (XA.out w7 (Below.refl _ _)) 0).1
  have kA1 : w7.cell? ⟨w.heap.size, 1, none⟩ = some (.slice a1 l1 c1) := (boxG (XA.out w7 (Below.refl _ _)) 1).1
  have kC0 : w7.cell? ⟨w.heap.size + 1, 0, none⟩ = some (.slice b0 m0 d0) := (boxG (XC.out w7 (Below.refl _ _)) 0).1
  have kC1 : w7.cell? ⟨w.heap.size + 1, 1, none⟩ = some (.slice b1 m1 d1) := (boxG (XC.out w7 (Below.refl _ _)) 1).1
  have kC2 : w7.cell? ⟨w.heap.size + 1, 2, none⟩ = some (.slice b2 m2 d2) := (boxG (XC.out w7 (Below.refl _ _)) 2).1
  have kC3 : w7.cell? ⟨w.heap.size + 1, 3, none⟩ = some (.int .i64 st) := (boxG (XC.out w7 (Below.refl _ _)) 3).1
  have kC4 : w7.cell? ⟨w.heap.size + 1, 4, none⟩ = some (.int .i64 en) := (boxG (XC.out w7 (Below.refl _ _)) 4).1
  have kC5 : w7.cell? ⟨w.heap.size + 1, 5, none⟩ = some (.bool o0) := (boxG (XC.out w7 (Below.refl _ _)) 5).1
  have kC6 : w7.cell? ⟨w.heap.size + 1, 6, none⟩ = some (.int .i64 o1) := (boxG (XC.out w7 (Below.refl _ _)) 6).1
  have kU0 : w7.cell? ⟨w6.heap.size, 0, none⟩ = some (.slice ka0 l0 (l0 + kc0)) := (boxG (XU.out w7 (Below.refl _ _)) 0).1
  have kU1 : w7.cell? ⟨w6.heap.size, 1, none⟩ = some (.slice ka1 l1 (l1 + kc1)) := (boxG (XU.out w7 (Below.refl _ _)) 1).1
  have BP : Hid (Below w7.heap.size w7 (w7.alloc (.cells #[.slice kb0 m0 (m0 + kd0), .slice kb1 m1 (m1 + kd1), .slice kb2 m2 (m2 + kd2), .int .i64 st, .int .i64 en, .bool o0, .int .i64 o1] 33))) := (Below.refl _ _).alloc (Nat.le_refl _) _
  go_wp2_with fail
  refine (machOkImpl _ _ _ _ _ _ _ _ _ _ _ _ _ _ _ _ _ _ _ L M X F S _ (T.out _ BP.out).cls (N.out _ BP.out) (X1.out _ BP.out) (F1.out _ BP.out) (S1.out _ BP.out) (by omega) (by omega)).mono ?_
  rintro e w8 ⟨rfl, hb⟩
  rw [HQ.out]
  have hq : Below w7.heap.size w7 w8 := BP.out.trans (Below.mono hb BP.out.size)
  replace B : Hid (∀ y, Below w8.heap.size w8 y → Below w.heap.size w y) := fun y hy => B.out y (hq.trans (hy.mono hq.size))
  replace T : Hid (∀ y, Below w8.heap.size w8 y → SlAt clR (fun _ => True) y ka0 l0 L) := fun y hy => T.out y (hq.trans (hy.mono hq.size))
  replace N : Hid (∀ y, Below w8.heap.size w8 y → SlAt meR (fun _ => True) y ka1 l1 M) := fun y hy => N.out y (hq.trans (hy.mono hq.size))
  replace X1 : Hid (∀ y, Below w8.heap.size w8 y → SlAt obR (fun _ => True) y kb0 m0 X) := fun y hy => X1.out y (hq.trans (hy.mono hq.size))
  replace F1 : Hid (∀ y, Below w8.heap.size w8 y → SlAt frR (fun _ => True) y kb1 m1 F) := fun y hy => F1.out y (hq.trans (hy.mono hq.size))
  replace S1 : Hid (∀ y, Below w8.heap.size w8 y → SlAt intR (fun _ => True) y kb2 m2 S) := fun y hy => S1.out y (hq.trans (hy.mono hq.size))
  replace XA : Hid (∀ y, Below w8.heap.size w8 y → y.heap[w.heap.size]? = some (.cells #[.slice a0 l0 c0, .slice a1 l1 c1] 25 (0, 0))) := fun y hy => XA.out y (hq.trans (hy.mono hq.size))
  replace lA : w.heap.size < w8.heap.size := Nat.lt_of_lt_of_le lA hq.size
  replace XC : Hid (∀ y, Below w8.heap.size w8 y → y.heap[w.heap.size + 1]? = some (.cells #[.slice b0 m0 d0, .slice b1 m1 d1, .slice b2 m2 d2, .int .i64 st, .int .i64 en, .bool o0, .int .i64 o1] 49 (0, 0))) := fun y hy => XC.out y (hq.trans (hy.mono hq.size))
  replace lC : w.heap.size + 1 < w8.heap.size := Nat.lt_of_lt_of_le lC hq.size
  replace XU : Hid (∀ y, Below w8.heap.size w8 y → y.heap[w6.heap.size]? = some (.cells #[.slice ka0 l0 (l0 + kc0), .slice ka1 l1 (l1 + kc1)] 38 (0, 0))) := fun y hy => XU.out y (hq.trans (hy.mono hq.size))
  replace lU : w6.heap.size < w8.heap.size := Nat.lt_of_lt_of_le lU hq.size
  have lQ : w7.heap.size < w8.heap.size := Nat.lt_of_lt_of_le (by simp) (Below.size hb)
  have XQ : Hid (∀ y, Below w8.heap.size w8 y → y.heap[w7.heap.size]? = some (.cells #[.slice kb0 m0 (m0 + kd0), .slice kb1 m1 (m1 + kd1), .slice kb2 m2 (m2 + kd2), .int .i64 st, .int .i64 en, .bool o0, .int .i64 o1] 33 (0, 0))) := fun y hy => (hy.block _ lQ).trans ((Below.block hb _ (by simp)).trans (boxN _ _ _ _ rfl))
  have zw8 : w7.heap.size + 1 ≤ w8.heap.size := Nat.le_trans (Nat.le_of_eq (by simp)) (Below.size hb)
  clear hq BP
  clear kA0 kA1 kC0 kC1 kC2 kC3 kC4 kC5 kC6 kU0 kU1
  clear hb
  have kA0 : w8.cell? ⟨w.heap.size, 0, none⟩ = some (.slice a0 l0 c0) := (boxG (XA.out w8 (Below.refl _ _)) 0).1
  have kA1 : w8.cell? ⟨w.heap.size, 1, none⟩ = some (.slice a1 l1 c1) := (boxG (XA.out w8 (Below.refl _ _)) 1).1
  have kC0 : w8.cell? ⟨w.heap.size + 1, 0, none⟩ = some (.slice b0 m0 d0) := (boxG (XC.out w8 (Below.refl _ _)) 0).1
  have kC1 : w8.cell? ⟨w.heap.size + 1, 1, none⟩ = some (.slice b1 m1 d1) := (boxG (XC.out w8 (Below.refl _ _)) 1).1
  have kC2 : w8.cell? ⟨w.heap.size + 1, 2, none⟩ = some (.slice b2 m2 d2) := (boxG (XC.out w8 (Below.refl _ _)) 2).1
  have kC3 : w8.cell? ⟨w.heap.size + 1, 3, none⟩ = some (.int .i64 st) := (boxG (XC.out w8 (Below.refl _ _)) 3).1
  have kC4 : w8.cell? ⟨w.heap.size + 1, 4, none⟩ = some (.int .i64 en) := (boxG (XC.out w8 (Below.refl _ _)) 4).1
  have kC5 : w8.cell? ⟨w.heap.size + 1, 5, none⟩ = some (.bool o0) := (boxG (XC.out w8 (Below.refl _ _)) 5).1
  have kC6 : w8.cell? ⟨w.heap.size + 1, 6, none⟩ = some (.int .i64 o1) := (boxG (XC.out w8 (Below.refl _ _)) 6).1
  have kU0 : w8.cell? ⟨w6.heap.size, 0, none⟩ = some (.slice ka0 l0 (l0 + kc0)) := (boxG (XU.out w8 (Below.refl _ _)) 0).1
  have kU1 : w8.cell? ⟨w6.heap.size, 1, none⟩ = some (.slice ka1 l1 (l1 + kc1)) := (boxG (XU.out w8 (Below.refl _ _)) 1).1
  have kQ0 : w8.cell? ⟨w7.heap.size, 0, none⟩ = some (.slice kb0 m0 (m0 + kd0)) := (boxG (XQ.out w8 (Below.refl _ _)) 0).1
  have kQ1 : w8.cell? ⟨w7.heap.size, 1, none⟩ = some (.slice kb1 m1 (m1 + kd1)) := (boxG (XQ.out w8 (Below.refl _ _)) 1).1
  have kQ2 : w8.cell? ⟨w7.heap.size, 2, none⟩ = some (.slice kb2 m2 (m2 + kd2)) := (boxG (XQ.out w8 (Below.refl _ _)) 2).1
  have kQ3 : w8.cell? ⟨w7.heap.size, 3, none⟩ = some (.int .i64 st) := (boxG (XQ.out w8 (Below.refl _ _)) 3).1
  have kQ4 : w8.cell? ⟨w7.heap.size, 4, none⟩ = some (.int .i64 en) := (boxG (XQ.out w8 (Below.refl _ _)) 4).1
  have kQ5 : w8.cell? ⟨w7.heap.size, 5, none⟩ = some (.bool o0) := (boxG (XQ.out w8 (Below.refl _ _)) 5).1
  have kQ6 : w8.cell? ⟨w7.heap.size, 6, none⟩ = some (.int .i64 o1) := (boxG (XQ.out w8 (Below.refl _ _)) 6).1
  go_wp2_with fail
  have KS : Hid (∀ x, Below w8.heap.size w8 x → x.cell? ⟨w.heap.size, 0, none⟩ = some (.slice a0 l0 c0) ∧ x.cell? ⟨w.heap.size, 1, none⟩ = some (.slice a1 l1 c1) ∧ x.cell? ⟨w6.heap.size, 0, none⟩ = some (.slice ka0 l0 (l0 + kc0)) ∧ x.cell? ⟨w6.heap.size, 1, none⟩ = some (.slice ka1 l1 (l1 + kc1))) := fun x hx => ⟨(boxG (XA.out x hx) 0).1, (boxG (XA.out x hx) 1).1, (boxG (XU.out x hx) 0).1, (boxG (XU.out x hx) 1).1⟩
  refine wp_region_held_drew (S := fun x => x.cell? ⟨w.heap.size, 0, none⟩ = some (.slice a0 l0 c0) ∧ x.cell? ⟨w.heap.size, 1, none⟩ = some (.slice a1 l1 c1) ∧ x.cell? ⟨w6.heap.size, 0, none⟩ = some (.slice ka0 l0 (l0 + kc0)) ∧ x.cell? ⟨w6.heap.size, 1, none⟩ = some (.slice ka1 l1 (l1 + kc1))) (by kernel_rfl) ?_ (fun hHeld => ?_)
  · exact KS.out _ (below_drewN (Below.refl _ _) 1)
  refine wpAnyH_take (i := 0) (v := .agg #[.slice ka0 l0 (l0 + kc0), .slice ka1 l1 (l1 + kc1)]) rfl (by kernel_rfl) (by kernel_rfl) (by kernel_rfl) (fun _ _ _ h => h) (Or.inl ⟨by kernel_rfl, by (intro x hSx; (try dsimp only at hSx); go_simp)⟩) (by assumption) ?_
  try simp only [Act.put, List.getElem_toArray, List.getElem_cons_zero, List.setIfInBounds_toArray, List.set_cons_zero, List.set_cons_succ]
  refine wpAnyH_take (i := 1) (v := .agg #[.slice a0 l0 c0, .slice a1 l1 c1]) rfl (by kernel_rfl) (by kernel_rfl) (by kernel_rfl) (fun _ _ _ h => h) (Or.inl ⟨by kernel_rfl, by (intro x hSx; (try dsimp only at hSx); go_simp)⟩) (by assumption) ?_
  try simp only [Act.put, List.getElem_toArray, List.getElem_cons_zero, List.getElem_cons_succ, List.setIfInBounds_toArray, List.set_cons_zero, List.set_cons_succ]
  refine wpAnyH_ready (rs := [2]) (by kernel_rfl) (by simp) ?_
  refine AllReadyH.cons rfl (fun K hK => ?_) AllReadyH.nil
  go_simp
  go_at_call 7
  refine (toRUnit _ _ _ _ _ _ L M _ (H.out.later (B.out _ (below_drewN (Below.refl _ _) 1))) SL.out (HM.out.later (B.out _ (below_drewN (Below.refl _ _) 1))) SM.out).mono ?_
  rintro e w9 ⟨ja0, jc0, ja1, jc1, rfl, hU, hV, hbx⟩
  have hb : Below w8.heap.size w8 w9 := (below_drewN (Below.refl _ _) 1).trans (hbx.mono (Nat.le_refl _))
  clear hbx
  have BP : Hid (Below w8.heap.size w8 w8) := Below.refl _ _
  have hq : Below w8.heap.size w8 w9 := BP.out.trans (Below.mono hb BP.out.size)
  replace B : Hid (∀ y, Below w9.heap.size w9 y → Below w.heap.size w y) := fun y hy => B.out y (hq.trans (hy.mono hq.size))
  replace T : Hid (∀ y, Below w9.heap.size w9 y → SlAt clR (fun _ => True) y ka0 l0 L) := fun y hy => T.out y (hq.trans (hy.mono hq.size))
  replace N : Hid (∀ y, Below w9.heap.size w9 y → SlAt meR (fun _ => True) y ka1 l1 M) := fun y hy => N.out y (hq.trans (hy.mono hq.size))
  replace X1 : Hid (∀ y, Below w9.heap.size w9 y → SlAt obR (fun _ => True) y kb0 m0 X) := fun y hy => X1.out y (hq.trans (hy.mono hq.size))
  replace F1 : Hid (∀ y, Below w9.heap.size w9 y → SlAt frR (fun _ => True) y kb1 m1 F) := fun y hy => F1.out y (hq.trans (hy.mono hq.size))
  replace S1 : Hid (∀ y, Below w9.heap.size w9 y → SlAt intR (fun _ => True) y kb2 m2 S) := fun y hy => S1.out y (hq.trans (hy.mono hq.size))
  replace XA : Hid (∀ y, Below w9.heap.size w9 y → y.heap[w.heap.size]? = some (.cells #[.slice a0 l0 c0, .slice a1 l1 c1] 25 (0, 0))) := fun y hy => XA.out y (hq.trans (hy.mono hq.size))
  replace lA : w.heap.size < w9.heap.size := Nat.lt_of_lt_of_le lA hq.size
  replace XC : Hid (∀ y, Below w9.heap.size w9 y → y.heap[w.heap.size + 1]? = some (.cells #[.slice b0 m0 d0, .slice b1 m1 d1, .slice b2 m2 d2, .int .i64 st, .int .i64 en, .bool o0, .int .i64 o1] 49 (0, 0))) := fun y hy => XC.out y (hq.trans (hy.mono hq.size))
  replace lC : w.heap.size + 1 < w9.heap.size := Nat.lt_of_lt_of_le lC hq.size
  replace XU : Hid (∀ y, Below w9.heap.size w9 y → y.heap[w6.heap.size]? = some (.cells #[.slice ka0 l0 (l0 + kc0), .slice ka1 l1 (l1 + kc1)] 38 (0, 0))) := fun y hy => XU.out y (hq.trans (hy.mono hq.size))
  replace lU : w6.heap.size < w9.heap.size := Nat.lt_of_lt_of_le lU hq.size
  replace XQ : Hid (∀ y, Below w9.heap.size w9 y → y.heap[w7.heap.size]? = some (.cells #[.slice kb0 m0 (m0 + kd0), .slice kb1 m1 (m1 + kd1), .slice kb2 m2 (m2 + kd2), .int .i64 st, .int .i64 en, .bool o0, .int .i64 o1] 33 (0, 0))) := fun y hy => XQ.out y (hq.trans (hy.mono hq.size))
  replace lQ : w7.heap.size < w9.heap.size := Nat.lt_of_lt_of_le lQ hq.size
  have zw9 : w8.heap.size ≤ w9.heap.size := hq.size
  clear hq BP
  replace KS : Hid (∀ x, Below w9.heap.size w9 x → x.cell? ⟨w.heap.size, 0, none⟩ = some (.slice a0 l0 c0) ∧ x.cell? ⟨w.heap.size, 1, none⟩ = some (.slice a1 l1 c1) ∧ x.cell? ⟨w6.heap.size, 0, none⟩ = some (.slice ka0 l0 (l0 + kc0)) ∧ x.cell? ⟨w6.heap.size, 1, none⟩ = some (.slice ka1 l1 (l1 + kc1))) := fun x hx => ⟨(boxG (XA.out x hx) 0).1, (boxG (XA.out x hx) 1).1, (boxG (XU.out x hx) 0).1, (boxG (XU.out x hx) 1).1⟩
  have U : Hid (SlAt clR _ w9 ja0 l0 L) := hU
  have V : Hid (SlAt meR _ w9 ja1 l1 M) := hV
  clear hU hV
  clear hb
  go_wp2_with fail
  refine hK.out _ _ (KS.out _ (Below.refl _ _)) (fun hHeld2 => ?_)
  clear hK K
  try simp only [Act.put, List.getElem_toArray, List.getElem_cons_zero, List.getElem_cons_succ, List.setIfInBounds_toArray, List.set_cons_zero, List.set_cons_succ]
  refine wpAnyH_ready (rs := [3]) (by kernel_rfl) (by simp) ?_
  refine AllReadyH.cons rfl (fun K hK => ?_) AllReadyH.nil
  go_simp
  go_at_call 10
  refine (eqRUnit _ _ _ _ _ _ _ _ _ _ _ _ L M _ (T.out _ (Below.refl _ _)) U.out (N.out _ (Below.refl _ _)) V.out).mono ?_
  rintro e w10 ⟨rfl, hbx⟩
  have hb : Below w9.heap.size w9 w10 := hbx
  clear hbx
  have BP : Hid (Below w9.heap.size w9 w9) := Below.refl _ _
  have hq : Below w9.heap.size w9 w10 := BP.out.trans (Below.mono hb BP.out.size)
  replace B : Hid (∀ y, Below w10.heap.size w10 y → Below w.heap.size w y) := fun y hy => B.out y (hq.trans (hy.mono hq.size))
  replace T : Hid (∀ y, Below w10.heap.size w10 y → SlAt clR (fun _ => True) y ka0 l0 L) := fun y hy => T.out y (hq.trans (hy.mono hq.size))
  replace N : Hid (∀ y, Below w10.heap.size w10 y → SlAt meR (fun _ => True) y ka1 l1 M) := fun y hy => N.out y (hq.trans (hy.mono hq.size))
  replace X1 : Hid (∀ y, Below w10.heap.size w10 y → SlAt obR (fun _ => True) y kb0 m0 X) := fun y hy => X1.out y (hq.trans (hy.mono hq.size))
  replace F1 : Hid (∀ y, Below w10.heap.size w10 y → SlAt frR (fun _ => True) y kb1 m1 F) := fun y hy => F1.out y (hq.trans (hy.mono hq.size))
  replace S1 : Hid (∀ y, Below w10.heap.size w10 y → SlAt intR (fun _ => True) y kb2 m2 S) := fun y hy => S1.out y (hq.trans (hy.mono hq.size))
  replace XA : Hid (∀ y, Below w10.heap.size w10 y → y.heap[w.heap.size]? = some (.cells #[.slice a0 l0 c0, .slice a1 l1 c1] 25 (0, 0))) := fun y hy => XA.out y (hq.trans (hy.mono hq.size))
  replace lA : w.heap.size < w10.heap.size := Nat.lt_of_lt_of_le lA hq.size
  replace XC : Hid (∀ y, Below w10.heap.size w10 y → y.heap[w.heap.size + 1]? = some (.cells #[.slice b0 m0 d0, .slice b1 m1 d1, .slice b2 m2 d2, .int .i64 st, .int .i64 en, .bool o0, .int .i64 o1] 49 (0, 0))) := fun y hy => XC.out y (hq.trans (hy.mono hq.size))
  replace lC : w.heap.size + 1 < w10.heap.size := Nat.lt_of_lt_of_le lC hq.size
  replace XU : Hid (∀ y, Below w10.heap.size w10 y → y.heap[w6.heap.size]? = some (.cells #[.slice ka0 l0 (l0 + kc0), .slice ka1 l1 (l1 + kc1)] 38 (0, 0))) := fun y hy => XU.out y (hq.trans (hy.mono hq.size))
  replace lU : w6.heap.size < w10.heap.size := Nat.lt_of_lt_of_le lU hq.size
  replace XQ : Hid (∀ y, Below w10.heap.size w10 y → y.heap[w7.heap.size]? = some (.cells #[.slice kb0 m0 (m0 + kd0), .slice kb1 m1 (m1 + kd1), .slice kb2 m2 (m2 + kd2), .int .i64 st, .int .i64 en, .bool o0, .int .i64 o1] 33 (0, 0))) := fun y hy => XQ.out y (hq.trans (hy.mono hq.size))
  replace lQ : w7.heap.size < w10.heap.size := Nat.lt_of_lt_of_le lQ hq.size
  have zw10 : w9.heap.size ≤ w10.heap.size := hq.size
  clear hq BP
  replace KS : Hid (∀ x, Below w10.heap.size w10 x → x.cell? ⟨w.heap.size, 0, none⟩ = some (.slice a0 l0 c0) ∧ x.cell? ⟨w.heap.size, 1, none⟩ = some (.slice a1 l1 c1) ∧ x.cell? ⟨w6.heap.size, 0, none⟩ = some (.slice ka0 l0 (l0 + kc0)) ∧ x.cell? ⟨w6.heap.size, 1, none⟩ = some (.slice ka1 l1 (l1 + kc1))) := fun x hx => ⟨(boxG (XA.out x hx) 0).1, (boxG (XA.out x hx) 1).1, (boxG (XU.out x hx) 0).1, (boxG (XU.out x hx) 1).1⟩
  clear U V
  clear hb
  go_wp2_with fail
  refine hK.out _ _ (KS.out _ (Below.refl _ _)) (fun hHeld3 => ?_)
  clear hK K
  try simp only [Act.put, List.getElem_toArray, List.getElem_cons_zero, List.getElem_cons_succ, List.setIfInBounds_toArray, List.set_cons_zero, List.set_cons_succ]
  refine wpAnyH_take (i := 4) (v := .bool false) rfl (by kernel_rfl) (by kernel_rfl) (by kernel_rfl) (fun _ _ _ h => h) (Or.inl ⟨by kernel_rfl, by (intro x hSx; (try dsimp only at hSx); go_simp)⟩) (by assumption) ?_
  try simp only [Act.put, List.getElem_toArray, List.getElem_cons_zero, List.getElem_cons_succ, List.setIfInBounds_toArray, List.set_cons_zero, List.set_cons_succ]
  refine wpAnyH_done (by kernel_rfl) ?_ _
  clear hHeld hHeld2 hHeld3
  clear kA0 kA1 kC0 kC1 kC2 kC3 kC4 kC5 kC6 kU0 kU1 kQ0 kQ1 kQ2 kQ3 kQ4 kQ5 kQ6
  clear KS
  have kA0 : w10.cell? ⟨w.heap.size, 0, none⟩ = some (.slice a0 l0 c0) := (boxG (XA.out w10 (Below.refl _ _)) 0).1
  have kA1 : w10.cell? ⟨w.heap.size, 1, none⟩ = some (.slice a1 l1 c1) := (boxG (XA.out w10 (Below.refl _ _)) 1).1
  have kC0 : w10.cell? ⟨w.heap.size + 1, 0, none⟩ = some (.slice b0 m0 d0) := (boxG (XC.out w10 (Below.refl _ _)) 0).1
  have kC1 : w10.cell? ⟨w.heap.size + 1, 1, none⟩ = some (.slice b1 m1 d1) := (boxG (XC.out w10 (Below.refl _ _)) 1).1
  have kC2 : w10.cell? ⟨w.heap.size + 1, 2, none⟩ = some (.slice b2 m2 d2) := (boxG (XC.out w10 (Below.refl _ _)) 2).1
  have kC3 : w10.cell? ⟨w.heap.size + 1, 3, none⟩ = some (.int .i64 st) := (boxG (XC.out w10 (Below.refl _ _)) 3).1
  have kC4 : w10.cell? ⟨w.heap.size + 1, 4, none⟩ = some (.int .i64 en) := (boxG (XC.out w10 (Below.refl _ _)) 4).1
  have kC5 : w10.cell? ⟨w.heap.size + 1, 5, none⟩ = some (.bool o0) := (boxG (XC.out w10 (Below.refl _ _)) 5).1
  have kC6 : w10.cell? ⟨w.heap.size + 1, 6, none⟩ = some (.int .i64 o1) := (boxG (XC.out w10 (Below.refl _ _)) 6).1
  have kU0 : w10.cell? ⟨w6.heap.size, 0, none⟩ = some (.slice ka0 l0 (l0 + kc0)) := (boxG (XU.out w10 (Below.refl _ _)) 0).1
  have kU1 : w10.cell? ⟨w6.heap.size, 1, none⟩ = some (.slice ka1 l1 (l1 + kc1)) := (boxG (XU.out w10 (Below.refl _ _)) 1).1
  have kQ0 : w10.cell? ⟨w7.heap.size, 0, none⟩ = some (.slice kb0 m0 (m0 + kd0)) := (boxG (XQ.out w10 (Below.refl _ _)) 0).1
  have kQ1 : w10.cell? ⟨w7.heap.size, 1, none⟩ = some (.slice kb1 m1 (m1 + kd1)) := (boxG (XQ.out w10 (Below.refl _ _)) 1).1
  have kQ2 : w10.cell? ⟨w7.heap.size, 2, none⟩ = some (.slice kb2 m2 (m2 + kd2)) := (boxG (XQ.out w10 (Below.refl _ _)) 2).1
  have kQ3 : w10.cell? ⟨w7.heap.size, 3, none⟩ = some (.int .i64 st) := (boxG (XQ.out w10 (Below.refl _ _)) 3).1
  have kQ4 : w10.cell? ⟨w7.heap.size, 4, none⟩ = some (.int .i64 en) := (boxG (XQ.out w10 (Below.refl _ _)) 4).1
  have kQ5 : w10.cell? ⟨w7.heap.size, 5, none⟩ = some (.bool o0) := (boxG (XQ.out w10 (Below.refl _ _)) 5).1
  have kQ6 : w10.cell? ⟨w7.heap.size, 6, none⟩ = some (.int .i64 o1) := (boxG (XQ.out w10 (Below.refl _ _)) 6).1
  go_wp2_with fail
  have KS : Hid (∀ x, Below w10.heap.size w10 x → x.cell? ⟨w.heap.size + 1, 0, none⟩ = some (.slice b0 m0 d0) ∧ x.cell? ⟨w.heap.size + 1, 1, none⟩ = some (.slice b1 m1 d1) ∧ x.cell? ⟨w.heap.size + 1, 2, none⟩ = some (.slice b2 m2 d2) ∧ x.cell? ⟨w.heap.size + 1, 3, none⟩ = some (.int .i64 st) ∧ x.cell? ⟨w.heap.size + 1, 4, none⟩ = some (.int .i64 en) ∧ x.cell? ⟨w.heap.size + 1, 5, none⟩ = some (.bool o0) ∧ x.cell? ⟨w.heap.size + 1, 6, none⟩ = some (.int .i64 o1) ∧ x.cell? ⟨w7.heap.size, 0, none⟩ = some (.slice kb0 m0 (m0 + kd0)) ∧ x.cell? ⟨w7.heap.size, 1, none⟩ = some (.slice kb1 m1 (m1 + kd1)) ∧ x.cell? ⟨w7.heap.size, 2, none⟩ = some (.slice kb2 m2 (m2 + kd2)) ∧ x.cell? ⟨w7.heap.size, 3, none⟩ = some (.int .i64 st) ∧ x.cell? ⟨w7.heap.size, 4, none⟩ = some (.int .i64 en) ∧ x.cell? ⟨w7.heap.size, 5, none⟩ = some (.bool o0) ∧ x.cell? ⟨w7.heap.size, 6, none⟩ = some (.int .i64 o1)) := fun x hx => ⟨(boxG (XC.out x hx) 0).1, (boxG (XC.out x hx) 1).1, (boxG (XC.out x hx) 2).1, (boxG (XC.out x hx) 3).1, (boxG (XC.out x hx) 4).1, (boxG (XC.out x hx) 5).1, (boxG (XC.out x hx) 6).1, (boxG (XQ.out x hx) 0).1, (boxG (XQ.out x hx) 1).1, (boxG (XQ.out x hx) 2).1, (boxG (XQ.out x hx) 3).1, (boxG (XQ.out x hx) 4).1, (boxG (XQ.out x hx) 5).1, (boxG (XQ.out x hx) 6).1⟩
  refine wp_region_held_drew (S := fun x => x.cell? ⟨w.heap.size + 1, 0, none⟩ = some (.slice b0 m0 d0) ∧ x.cell? ⟨w.heap.size + 1, 1, none⟩ = some (.slice b1 m1 d1) ∧ x.cell? ⟨w.heap.size + 1, 2, none⟩ = some (.slice b2 m2 d2) ∧ x.cell? ⟨w.heap.size + 1, 3, none⟩ = some (.int .i64 st) ∧ x.cell? ⟨w.heap.size + 1, 4, none⟩ = some (.int .i64 en) ∧ x.cell? ⟨w.heap.size + 1, 5, none⟩ = some (.bool o0) ∧ x.cell? ⟨w.heap.size + 1, 6, none⟩ = some (.int .i64 o1) ∧ x.cell? ⟨w7.heap.size, 0, none⟩ = some (.slice kb0 m0 (m0 + kd0)) ∧ x.cell? ⟨w7.heap.size, 1, none⟩ = some (.slice kb1 m1 (m1 + kd1)) ∧ x.cell? ⟨w7.heap.size, 2, none⟩ = some (.slice kb2 m2 (m2 + kd2)) ∧ x.cell? ⟨w7.heap.size, 3, none⟩ = some (.int .i64 st) ∧ x.cell? ⟨w7.heap.size, 4, none⟩ = some (.int .i64 en) ∧ x.cell? ⟨w7.heap.size, 5, none⟩ = some (.bool o0) ∧ x.cell? ⟨w7.heap.size, 6, none⟩ = some (.int .i64 o1)) (by kernel_rfl) ?_ (fun hHeld => ?_)
  · exact KS.out _ (below_drewN (Below.refl _ _) 1)
  refine wpAnyH_take (i := 0) (v := .agg #[.slice kb0 m0 (m0 + kd0), .slice kb1 m1 (m1 + kd1), .slice kb2 m2 (m2 + kd2), .int .i64 st, .int .i64 en, .bool o0, .int .i64 o1]) rfl (by kernel_rfl) (by kernel_rfl) (by kernel_rfl) (fun _ _ _ h => h) (Or.inl ⟨by kernel_rfl, by (intro x hSx; (try dsimp only at hSx); go_simp)⟩) (by assumption) ?_
  try simp only [Act.put, List.getElem_toArray, List.getElem_cons_zero, List.setIfInBounds_toArray, List.set_cons_zero, List.set_cons_succ]
  refine wpAnyH_take (i := 1) (v := .agg #[.slice b0 m0 d0, .slice b1 m1 d1, .slice b2 m2 d2, .int .i64 st, .int .i64 en, .bool o0, .int .i64 o1]) rfl (by kernel_rfl) (by kernel_rfl) (by kernel_rfl) (fun _ _ _ h => h) (Or.inl ⟨by kernel_rfl, by (intro x hSx; (try dsimp only at hSx); go_simp)⟩) (by assumption) ?_
  try simp only [Act.put, List.getElem_toArray, List.getElem_cons_zero, List.getElem_cons_succ, List.setIfInBounds_toArray, List.set_cons_zero, List.set_cons_succ]
  refine wpAnyH_ready (rs := [2]) (by kernel_rfl) (by simp) ?_
  refine AllReadyH.cons rfl (fun K hK => ?_) AllReadyH.nil
  go_simp
  go_at_call 16
  refine (toRMach _ _ _ _ _ _ _ _ _ _ _ _ _ X F S _ (HX.out.later (B.out _ (below_drewN (Below.refl _ _) 1))) SX.out (HF.out.later (B.out _ (below_drewN (Below.refl _ _) 1))) SF.out (HS.out.later (B.out _ (below_drewN (Below.refl _ _) 1))) SS.out).mono ?_
  rintro e w11 ⟨jb0, jd0, jb1, jd1, jb2, jd2, rfl, hX, hF, hS, hbx⟩
  have hb : Below w10.heap.size w10 w11 := (below_drewN (Below.refl _ _) 1).trans (hbx.mono (Nat.le_refl _))
  clear hbx
  have BP : Hid (Below w10.heap.size w10 w10) := Below.refl _ _
  have hq : Below w10.heap.size w10 w11 := BP.out.trans (Below.mono hb BP.out.size)
  replace B : Hid (∀ y, Below w11.heap.size w11 y → Below w.heap.size w y) := fun y hy => B.out y (hq.trans (hy.mono hq.size))
  replace T : Hid (∀ y, Below w11.heap.size w11 y → SlAt clR (fun _ => True) y ka0 l0 L) := fun y hy => T.out y (hq.trans (hy.mono hq.size))
  replace N : Hid (∀ y, Below w11.heap.size w11 y → SlAt meR (fun _ => True) y ka1 l1 M) := fun y hy => N.out y (hq.trans (hy.mono hq.size))
  replace X1 : Hid (∀ y, Below w11.heap.size w11 y → SlAt obR (fun _ => True) y kb0 m0 X) := fun y hy => X1.out y (hq.trans (hy.mono hq.size))
  replace F1 : Hid (∀ y, Below w11.heap.size w11 y → SlAt frR (fun _ => True) y kb1 m1 F) := fun y hy => F1.out y (hq.trans (hy.mono hq.size))
  replace S1 : Hid (∀ y, Below w11.heap.size w11 y → SlAt intR (fun _ => True) y kb2 m2 S) := fun y hy => S1.out y (hq.trans (hy.mono hq.size))
  replace XA : Hid (∀ y, Below w11.heap.size w11 y → y.heap[w.heap.size]? = some (.cells #[.slice a0 l0 c0, .slice a1 l1 c1] 25 (0, 0))) := fun y hy => XA.out y (hq.trans (hy.mono hq.size))
  replace lA : w.heap.size < w11.heap.size := Nat.lt_of_lt_of_le lA hq.size
  replace XC : Hid (∀ y, Below w11.heap.size w11 y → y.heap[w.heap.size + 1]? = some (.cells #[.slice b0 m0 d0, .slice b1 m1 d1, .slice b2 m2 d2, .int .i64 st, .int .i64 en, .bool o0, .int .i64 o1] 49 (0, 0))) := fun y hy => XC.out y (hq.trans (hy.mono hq.size))
  replace lC : w.heap.size + 1 < w11.heap.size := Nat.lt_of_lt_of_le lC hq.size
  replace XU : Hid (∀ y, Below w11.heap.size w11 y → y.heap[w6.heap.size]? = some (.cells #[.slice ka0 l0 (l0 + kc0), .slice ka1 l1 (l1 + kc1)] 38 (0, 0))) := fun y hy => XU.out y (hq.trans (hy.mono hq.size))
  replace lU : w6.heap.size < w11.heap.size := Nat.lt_of_lt_of_le lU hq.size
  replace XQ : Hid (∀ y, Below w11.heap.size w11 y → y.heap[w7.heap.size]? = some (.cells #[.slice kb0 m0 (m0 + kd0), .slice kb1 m1 (m1 + kd1), .slice kb2 m2 (m2 + kd2), .int .i64 st, .int .i64 en, .bool o0, .int .i64 o1] 33 (0, 0))) := fun y hy => XQ.out y (hq.trans (hy.mono hq.size))
  replace lQ : w7.heap.size < w11.heap.size := Nat.lt_of_lt_of_le lQ hq.size
  have zw11 : w10.heap.size ≤ w11.heap.size := hq.size
  clear hq BP
  replace KS : Hid (∀ x, Below w11.heap.size w11 x → x.cell? ⟨w.heap.size + 1, 0, none⟩ = some (.slice b0 m0 d0) ∧ x.cell? ⟨w.heap.size + 1, 1, none⟩ = some (.slice b1 m1 d1) ∧ x.cell? ⟨w.heap.size + 1, 2, none⟩ = some (.slice b2 m2 d2) ∧ x.cell? ⟨w.heap.size + 1, 3, none⟩ = some (.int .i64 st) ∧ x.cell? ⟨w.heap.size + 1, 4, none⟩ = some (.int .i64 en) ∧ x.cell? ⟨w.heap.size + 1, 5, none⟩ = some (.bool o0) ∧ x.cell? ⟨w.heap.size + 1, 6, none⟩ = some (.int .i64 o1) ∧ x.cell? ⟨w7.heap.size, 0, none⟩ = some (.slice kb0 m0 (m0 + kd0)) ∧ x.cell? ⟨w7.heap.size, 1, none⟩ = some (.slice kb1 m1 (m1 + kd1)) ∧ x.cell? ⟨w7.heap.size, 2, none⟩ = some (.slice kb2 m2 (m2 + kd2)) ∧ x.cell? ⟨w7.heap.size, 3, none⟩ = some (.int .i64 st) ∧ x.cell? ⟨w7.heap.size, 4, none⟩ = some (.int .i64 en) ∧ x.cell? ⟨w7.heap.size, 5, none⟩ = some (.bool o0) ∧ x.cell? ⟨w7.heap.size, 6, none⟩ = some (.int .i64 o1)) := fun x hx => ⟨(boxG (XC.out x hx) 0).1, (boxG (XC.out x hx) 1).1, (boxG (XC.out x hx) 2).1, (boxG (XC.out x hx) 3).1, (boxG (XC.out x hx) 4).1, (boxG (XC.out x hx) 5).1, (boxG (XC.out x hx) 6).1, (boxG (XQ.out x hx) 0).1, (boxG (XQ.out x hx) 1).1, (boxG (XQ.out x hx) 2).1, (boxG (XQ.out x hx) 3).1, (boxG (XQ.out x hx) 4).1, (boxG (XQ.out x hx) 5).1, (boxG (XQ.out x hx) 6).1⟩
  have X0 : Hid (SlAt obR _ w11 jb0 m0 X) := hX
  have F0 : Hid (SlAt frR _ w11 jb1 m1 F) := hF
  have S0 : Hid (SlAt intR _ w11 jb2 m2 S) := hS
  clear hX hF hS
  clear hb
  go_wp2_with fail
  refine hK.out _ _ (KS.out _ (Below.refl _ _)) (fun hHeld2 => ?_)
  clear hK K
  try simp only [Act.put, List.getElem_toArray, List.getElem_cons_zero, List.getElem_cons_succ, List.setIfInBounds_toArray, List.set_cons_zero, List.set_cons_succ]
  refine wpAnyH_ready (rs := [3]) (by kernel_rfl) (by simp) ?_
  refine AllReadyH.cons rfl (fun K hK => ?_) AllReadyH.nil
  go_simp
  go_at_call 9
  refine (eqRMach _ _ _ _ _ _ _ _ _ _ _ _ _ _ _ _ _ _ _ _ _ _ X F S _ (X1.out _ (Below.refl _ _)) X0.out (F1.out _ (Below.refl _ _)) F0.out (S1.out _ (Below.refl _ _)) S0.out).mono ?_
  rintro e w12 ⟨rfl, hbx⟩
  have hb : Below w11.heap.size w11 w12 := hbx
  clear hbx
  have BP : Hid (Below w11.heap.size w11 w11) := Below.refl _ _
  have hq : Below w11.heap.size w11 w12 := BP.out.trans (Below.mono hb BP.out.size)
  replace B : Hid (∀ y, Below w12.heap.size w12 y → Below w.heap.size w y) := fun y hy => B.out y (hq.trans (hy.mono hq.size))
  replace T : Hid (∀ y, Below w12.heap.size w12 y → SlAt clR (fun _ => True) y ka0 l0 L) := fun y hy => T.out y (hq.trans (hy.mono hq.size))
  replace N : Hid (∀ y, Below w12.heap.size w12 y → SlAt meR (fun _ => True) y ka1 l1 M) := fun y hy => N.out y (hq.trans (hy.mono hq.size))
  replace X1 : Hid (∀ y, Below w12.heap.size w12 y → SlAt obR (fun _ => True) y kb0 m0 X) := fun y hy => X1.out y (hq.trans (hy.mono hq.size))
  replace F1 : Hid (∀ y, Below w12.heap.size w12 y → SlAt frR (fun _ => True) y kb1 m1 F) := fun y hy => F1.out y (hq.trans (hy.mono hq.size))
  replace S1 : Hid (∀ y, Below w12.heap.size w12 y → SlAt intR (fun _ => True) y kb2 m2 S) := fun y hy => S1.out y (hq.trans (hy.mono hq.size))
  replace XA : Hid (∀ y, Below w12.heap.size w12 y → y.heap[w.heap.size]? = some (.cells #[.slice a0 l0 c0, .slice a1 l1 c1] 25 (0, 0))) := fun y hy => XA.out y (hq.trans (hy.mono hq.size))
  replace lA : w.heap.size < w12.heap.size := Nat.lt_of_lt_of_le lA hq.size
  replace XC : Hid (∀ y, Below w12.heap.size w12 y → y.heap[w.heap.size + 1]? = some (.cells #[.slice b0 m0 d0, .slice b1 m1 d1, .slice b2 m2 d2, .int .i64 st, .int .i64 en, .bool o0, .int .i64 o1] 49 (0, 0))) := fun y hy => XC.out y (hq.trans (hy.mono hq.size))
  replace lC : w.heap.size + 1 < w12.heap.size := Nat.lt_of_lt_of_le lC hq.size
  replace XU : Hid (∀ y, Below w12.heap.size w12 y → y.heap[w6.heap.size]? = some (.cells #[.slice ka0 l0 (l0 + kc0), .slice ka1 l1 (l1 + kc1)] 38 (0, 0))) := fun y hy => XU.out y (hq.trans (hy.mono hq.size))
  replace lU : w6.heap.size < w12.heap.size := Nat.lt_of_lt_of_le lU hq.size
  replace XQ : Hid (∀ y, Below w12.heap.size w12 y → y.heap[w7.heap.size]? = some (.cells #[.slice kb0 m0 (m0 + kd0), .slice kb1 m1 (m1 + kd1), .slice kb2 m2 (m2 + kd2), .int .i64 st, .int .i64 en, .bool o0, .int .i64 o1] 33 (0, 0))) := fun y hy => XQ.out y (hq.trans (hy.mono hq.size))
  replace lQ : w7.heap.size < w12.heap.size := Nat.lt_of_lt_of_le lQ hq.size
  have zw12 : w11.heap.size ≤ w12.heap.size := hq.size
  clear hq BP
  replace KS : Hid (∀ x, Below w12.heap.size w12 x → x.cell? ⟨w.heap.size + 1, 0, none⟩ = some (.slice b0 m0 d0) ∧ x.cell? ⟨w.heap.size + 1, 1, none⟩ = some (.slice b1 m1 d1) ∧ x.cell? ⟨w.heap.size + 1, 2, none⟩ = some (.slice b2 m2 d2) ∧ x.cell? ⟨w.heap.size + 1, 3, none⟩ = some (.int .i64 st) ∧ x.cell? ⟨w.heap.size + 1, 4, none⟩ = some (.int .i64 en) ∧ x.cell? ⟨w.heap.size + 1, 5, none⟩ = some (.bool o0) ∧ x.cell? ⟨w.heap.size + 1, 6, none⟩ = some (.int .i64 o1) ∧ x.cell? ⟨w7.heap.size, 0, none⟩ = some (.slice kb0 m0 (m0 + kd0)) ∧ x.cell? ⟨w7.heap.size, 1, none⟩ = some (.slice kb1 m1 (m1 + kd1)) ∧ x.cell? ⟨w7.heap.size, 2, none⟩ = some (.slice kb2 m2 (m2 + kd2)) ∧ x.cell? ⟨w7.heap.size, 3, none⟩ = some (.int .i64 st) ∧ x.cell? ⟨w7.heap.size, 4, none⟩ = some (.int .i64 en) ∧ x.cell? ⟨w7.heap.size, 5, none⟩ = some (.bool o0) ∧ x.cell? ⟨w7.heap.size, 6, none⟩ = some (.int .i64 o1)) := fun x hx => ⟨(boxG (XC.out x hx) 0).1, (boxG (XC.out x hx) 1).1, (boxG (XC.out x hx) 2).1, (boxG (XC.out x hx) 3).1, (boxG (XC.out x hx) 4).1, (boxG (XC.out x hx) 5).1, (boxG (XC.out x hx) 6).1, (boxG (XQ.out x hx) 0).1, (boxG (XQ.out x hx) 1).1, (boxG (XQ.out x hx) 2).1, (boxG (XQ.out x hx) 3).1, (boxG (XQ.out x hx) 4).1, (boxG (XQ.out x hx) 5).1, (boxG (XQ.out x hx) 6).1⟩
  clear X0 F0 S0
  clear hb
  go_wp2_with fail
  refine hK.out _ _ (KS.out _ (Below.refl _ _)) (fun hHeld3 => ?_)
  clear hK K
  try simp only [Act.put, List.getElem_toArray, List.getElem_cons_zero, List.getElem_cons_succ, List.setIfInBounds_toArray, List.set_cons_zero, List.set_cons_succ]
  refine wpAnyH_take (i := 4) (v := .bool false) rfl (by kernel_rfl) (by kernel_rfl) (by kernel_rfl) (fun _ _ _ h => h) (Or.inl ⟨by kernel_rfl, by (intro x hSx; (try dsimp only at hSx); go_simp)⟩) (by assumption) ?_
  try simp only [Act.put, List.getElem_toArray, List.getElem_cons_zero, List.getElem_cons_succ, List.setIfInBounds_toArray, List.set_cons_zero, List.set_cons_succ]
  refine wpAnyH_done (by kernel_rfl) ?_ _
  clear hHeld hHeld2 hHeld3
  clear kA0 kA1 kC0 kC1 kC2 kC3 kC4 kC5 kC6 kU0 kU1 kQ0 kQ1 kQ2 kQ3 kQ4 kQ5 kQ6
  clear KS
  have kA0 : w12.cell? ⟨w.heap.size, 0, none⟩ = some (.slice a0 l0 c0) := (boxG (XA.out w12 (Below.refl _ _)) 0).1
  have kA1 : w12.cell? ⟨w.heap.size, 1, none⟩ = some (.slice a1 l1 c1) := (boxG (XA.out w12 (Below.refl _ _)) 1).1
  have kC0 : w12.cell? ⟨w.heap.size + 1, 0, none⟩ = some (.slice b0 m0 d0) := (boxG (XC.out w12 (Below.refl _ _)) 0).1
  have kC1 : w12.cell? ⟨w.heap.size + 1, 1, none⟩ = some (.slice b1 m1 d1) := (boxG (XC.out w12 (Below.refl _ _)) 1).1
  have kC2 : w12.cell? ⟨w.heap.size + 1, 2, none⟩ = some (.slice b2 m2 d2) := (boxG (XC.out w12 (Below.refl _ _)) 2).1
  have kC3 : w12.cell? ⟨w.heap.size + 1, 3, none⟩ = some (.int .i64 st) := (boxG (XC.out w12 (Below.refl _ _)) 3).1
  have kC4 : w12.cell? ⟨w.heap.size + 1, 4, none⟩ = some (.int .i64 en) := (boxG (XC.out w12 (Below.refl _ _)) 4).1
  have kC5 : w12.cell? ⟨w.heap.size + 1, 5, none⟩ = some (.bool o0) := (boxG (XC.out w12 (Below.refl _ _)) 5).1
  have kC6 : w12.cell? ⟨w.heap.size + 1, 6, none⟩ = some (.int .i64 o1) := (boxG (XC.out w12 (Below.refl _ _)) 6).1
  have kU0 : w12.cell? ⟨w6.heap.size, 0, none⟩ = some (.slice ka0 l0 (l0 + kc0)) := (boxG (XU.out w12 (Below.refl _ _)) 0).1
  have kU1 : w12.cell? ⟨w6.heap.size, 1, none⟩ = some (.slice ka1 l1 (l1 + kc1)) := (boxG (XU.out w12 (Below.refl _ _)) 1).1
  have kQ0 : w12.cell? ⟨w7.heap.size, 0, none⟩ = some (.slice kb0 m0 (m0 + kd0)) := (boxG (XQ.out w12 (Below.refl _ _)) 0).1
  have kQ1 : w12.cell? ⟨w7.heap.size, 1, none⟩ = some (.slice kb1 m1 (m1 + kd1)) := (boxG (XQ.out w12 (Below.refl _ _)) 1).1
  have kQ2 : w12.cell? ⟨w7.heap.size, 2, none⟩ = some (.slice kb2 m2 (m2 + kd2)) := (boxG (XQ.out w12 (Below.refl _ _)) 2).1
  have kQ3 : w12.cell? ⟨w7.heap.size, 3, none⟩ = some (.int .i64 st) := (boxG (XQ.out w12 (Below.refl _ _)) 3).1
  have kQ4 : w12.cell? ⟨w7.heap.size, 4, none⟩ = some (.int .i64 en) := (boxG (XQ.out w12 (Below.refl _ _)) 4).1
  have kQ5 : w12.cell? ⟨w7.heap.size, 5, none⟩ = some (.bool o0) := (boxG (XQ.out w12 (Below.refl _ _)) 5).1
  have kQ6 : w12.cell? ⟨w7.heap.size, 6, none⟩ = some (.int .i64 o1) := (boxG (XQ.out w12 (Below.refl _ _)) 6).1
  go_wp2_with fail
  go_ret
  exact ⟨rfl, B.out _ (Below.refl _ _)⟩

/-- What came in, read. -/
theorem unitOf {H : Type} {enc : TypeId × Value → H} {W : World} {cs : Array Value} {d : DataW H} {p : List MemPlace} (h : DataW.Trod enc Tryz.prog W 0 (fun _ => true) true 25 (.agg cs) d p) :
    ∃ a0 l0 c0 a1 l1 c1 L M, cs = #[.slice a0 l0 c0, .slice a1 l1 c1] ∧ SlAt clR (fun _ => True) W a0 l0 L ∧ SlAt meR (fun _ => True) W a1 l1 M := by
  obtain ⟨fuel, hf⟩ := h
  obtain ⟨⟨L, M⟩, _, _, e, ⟨a0, l0, c0, rfl, h1⟩, ⟨a1, l1, c1, rfl, h2⟩⟩ := rd_Unit _ _ _ _ _ _ hf
  refine ⟨a0, l0, c0, a1, l1, c1, L, M, ?_, h1, h2⟩
  obtain ⟨l⟩ := cs
  simpa [Value.cells] using e

theorem machOf {H : Type} {enc : TypeId × Value → H} {W : World} {cs : Array Value} {d : DataW H} {p : List MemPlace} (h : DataW.Trod enc Tryz.prog W 0 (fun _ => true) true 49 (.agg cs) d p) :
    ∃ a0 l0 c0 a1 l1 c1 a2 l2 c2 st en o0 o1 X F S, cs = #[.slice a0 l0 c0, .slice a1 l1 c1, .slice a2 l2 c2, .int .i64 st, .int .i64 en, .bool o0, .int .i64 o1] ∧ SlAt obR (fun _ => True) W a0 l0 X ∧ SlAt frR (fun _ => True) W a1 l1 F ∧ SlAt intR (fun _ => True) W a2 l2 S := by
  obtain ⟨fuel, hf⟩ := h
  obtain ⟨⟨X, F, S, st, en, o0, o1⟩, _, _, e, ⟨a0, l0, c0, rfl, h1⟩, _, _, rfl, ⟨a1, l1, c1, rfl, h2⟩, _, _, rfl, ⟨a2, l2, c2, rfl, h3⟩, _, _, rfl, ⟨rfl, _⟩, _, _, rfl, ⟨rfl, _⟩, _, _, rfl, rfl, rfl, _⟩ := rd_Mach _ _ _ _ _ _ hf
  refine ⟨a0, l0, c0, a1, l1, c1, a2, l2, c2, st, en, o0, o1, X, F, S, ?_, h1, h2, h3⟩
  obtain ⟨l⟩ := cs
  simpa [Value.cells] using e

set_option maxRecDepth 100000 in
theorem lifted (os : Os) (started : os.Started) (H : Type) (enc : TypeId × Value → H) :
    ReturnsInHanded {} Tryz.checked os 4 .any (Rows.fnExactMachOkSpec.pre6 enc Tryz.prog Tryz.f4 Rows.fnExactMachOkRow.domain false) (Rows.fnExactMachOkSpec.post enc Tryz.prog Tryz.f4 false true false false) := by
  refine returnsInHanded_of_change (C := Tryz.checked) own started (by kernel_rfl) Tryz.func4
    (ChangeSpec.witness6 (enc := enc) (C := Tryz.checked) false ⟨#[], #[.agg #[.slice none 0 0, .slice none 0 0], .agg #[.slice none 0 0, .slice none 0 0, .slice none 0 0, .int .i64 0, .int .i64 0, .bool false, .int .i64 0]], []⟩ 8 (by kernel_rfl) (by kernel_rfl) (by kernel_rfl) (by kernel_rfl)) ?_
  intro W base args ds gs before hval0 hW hcnd _
  have hval : ∀ (j : Nat) t v, Tryz.f4.params[j]? = some t → args[j]? = some v → Value.okWide Tryz.prog W .any base t v := hval0
  have hW' := hW
  obtain ⟨p, q, hA0, hV, rfl, hfz, hnd⟩ := hW
  have hA : DataW.TrodAll enc Tryz.prog W 0 (fun _ => true) true Tryz.f4.params.toList args.toList ds p := hA0
  rw [Tryz.params4] at hA hval
  obtain ⟨v0, vs0, d0, ds0, p0, q0, hargs, rfl, rfl, h0, r0⟩ := trodAll_cons hA
  obtain ⟨v1, vs1, d1, ds1, p1, q1, rfl, rfl, rfl, h1, r1⟩ := trodAll_cons r0
  obtain ⟨rfl, rfl, rfl⟩ := trodAll_nil r1
  obtain rfl : args = #[v0, v1] := by cases args; simp_all
  obtain ⟨rfl, rfl⟩ := trodVars_none hV
  have k0 := h0
  have lt0 : ∀ x ∈ p0, x.block < W.heap.size := by obtain ⟨m, hm⟩ := k0; exact DataW.trod_lt m _ _ _ hm
  have k1 := h1
  have lt1 : ∀ x ∈ p1, x.block < W.heap.size := by obtain ⟨m, hm⟩ := k1; exact DataW.trod_lt m _ _ _ hm
  obtain ⟨cs, rfl, _⟩ := okWide_struct Tryz.underlying25 (hval 0 25 v0 rfl rfl)
  obtain ⟨b0, l0, c0, b1, l1, c1, L, M, rfl, w0, w1⟩ := unitOf h0
  obtain ⟨cs1, rfl, _⟩ := okWide_struct Tryz.underlying49 (hval 1 49 v1 rfl rfl)
  obtain ⟨g0, m0, e0, g1, m1, e1, g2, m2, e2, st, en, o0, o1, X, F, S, rfl, w2, w3, w4⟩ := machOf h1
  clear hA0 hval0
  refine (walk b0 l0 c0 b1 l1 c1 g0 m0 e0 g1 m1 e1 g2 m2 e2 st en o0 o1 L M X F S W w0 w1 w2 w3 w4).mono fun e W' ⟨he, bel⟩ => ?_
  subst he
  exact ⟨_, rfl, _, _, _, [], _, [], hW', trodAll_mk1 (shut_bool Tryz.underlying4 _), (trodAll_cons_mk (Below.trod laidOut (by kernel_rfl) (of_decide_eq_true (by kernel_rfl)) k0 bel lt0) (trodAll_cons_mk (Below.trod laidOut (by kernel_rfl) (of_decide_eq_true (by kernel_rfl)) k1 bel lt1) trodAll_mk0)), rfl, bel.frame _, fun h => by cases h⟩

theorem over : Rows.fnExactMachOkRow.holds Tryz.pinned (OpenSpec.ofChange Rows.fnExactMachOkSpec) :=
  OpenClaim.holds_of_wide 4 Tryz.f4 rfl rfl rfl rfl rfl rfl rfl ⟨rfl, rfl, rfl, rfl, rfl⟩ rfl rfl rfl rfl rfl (by kernel_rfl) Tryz.func4 (by kernel_rfl)
    (of_decide_eq_true (by kernel_rfl)) (by unfold Func.isWrapper; first | (rw [if_pos (by decide +kernel)]; kernel_rfl) | (rw [if_neg (by decide +kernel)]; exact ⟨rfl, rfl⟩))
    (fun os started H enc _ => lifted os started H enc)
theorem proved : Rows.FnExactMachOkSaid := over
end Go.Proofs.YthdlccadcadopaaGreat.fnExactMachOk

namespace Go.Proofs.YthdlccadcadopaaGreat
theorem fnExactMachOk_holds : Rows.FnExactMachOkSaid := fnExactMachOk.proved
#print axioms fnExactMachOk_holds
end Go.Proofs.YthdlccadcadopaaGreat
