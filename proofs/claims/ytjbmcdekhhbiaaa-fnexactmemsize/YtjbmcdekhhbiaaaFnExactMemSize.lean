/-
  At every argument MemSize of the program answers as MemSize of the specification, and writes into no argument; no condition.
-/
import Derived.Test.YtjbmcdekhhbiaaaMemIl
import Derived.Test.YtjbmcdekhhbiaaaDtMem
import Derived.Test.YtjbmcdekhhbiaaaDtClass
import Derived.Test.YtjbmcdekhhbiaaaRdCls
import Derived.Deep.RegionHeld3
namespace Go.Proofs.Ytjbmcdekhhbiaaa.fnExactMemSize
open Go.ChangeShapes Go.WideShapes Go.ChangeAt Go.RowKit
set_option linter.unusedVariables false

set_option maxRecDepth 100000 in
set_option maxHeartbeats 16000000 in
theorem walk (a0 : Option Addr) (l0 c0 : Nat) (b0 : Option Addr) (m0 d0 : Nat) (yg tp od : Int) (b4 : Option Addr) (m4 d4 : Nat) (v : Int) (L : List Cl) (ws : List Int) (cd : List Bool) (w : World) {D : Nat → Prop} (h : SlAt clR D w a0 l0 L) (hw : SlAt intR D w b0 m0 ws) (hc : SlAt boolR D w b4 m4 cd) (hyg : i64B yg) (htp : i64B tp) (hod : i64B od) (hv : i64B v) :
    Calls Try.prog 6 #[.slice a0 l0 c0, .agg #[.slice b0 m0 d0, .int .i64 yg, .int .i64 tp, .int .i64 od, .slice b4 m4 d4], .int .i64 v] w fun e w' => e = .returned (.bool true) ∧ Below w.heap.size w w' := by
  have H : Hid (SlAt clR D w a0 l0 L) := h
  have HW : Hid (SlAt intR D w b0 m0 ws) := hw
  have HC : Hid (SlAt boolR D w b4 m4 cd) := hc
  have B0 : Hid (Below w.heap.size w (w.alloc (.cells #[.slice b0 m0 d0, .int .i64 yg, .int .i64 tp, .int .i64 od, .slice b4 m4 d4] 31))) := (Below.refl _ _).alloc (Nat.le_refl _) _
  clear h hw hc
  go_enter Try.func6, Try.ntmps6
  go_wp2_with fail
  refine (szLClass _ _ _ L _ _ (H.out.later B0.out) (by omega) (by omega)).mono ?_
  rintro e w1 ⟨r, rfl, r0, r1, hsz, hb⟩
  have M0 : Hid (0 ≤ r → (Rep.list clR).small L) := hsz
  have hb0 : Below (w.heap.size + 1) (w.alloc (.cells #[.slice b0 m0 d0, .int .i64 yg, .int .i64 tp, .int .i64 od, .slice b4 m4 d4] 31)) w1 := by simpa using hb
  have lC : w.heap.size < w1.heap.size := by have := hb0.size; simp at this; omega
  have XC : Hid (∀ y, Below w1.heap.size w1 y → y.heap[w.heap.size]? = some (.cells #[.slice b0 m0 d0, .int .i64 yg, .int .i64 tp, .int .i64 od, .slice b4 m4 d4] 31 (0, 0))) := fun y hy => (hy.block _ lC).trans ((hb0.block _ (by omega)).trans (boxN _ _ _ _ rfl))
  have B : Hid (∀ y, Below w1.heap.size w1 y → Below w.heap.size w y) := fun y hy => (B0.out.trans (hb0.mono (by omega))).trans (hy.mono (by omega))
  clear hsz hb hb0 B0
  have kC0 : w1.cell? ⟨w.heap.size, 0, none⟩ = some (.slice b0 m0 d0) := (boxG (XC.out w1 (Below.refl _ _)) 0).1
  have kC1 : w1.cell? ⟨w.heap.size, 1, none⟩ = some (.int .i64 yg) := (boxG (XC.out w1 (Below.refl _ _)) 1).1
  have kC2 : w1.cell? ⟨w.heap.size, 2, none⟩ = some (.int .i64 tp) := (boxG (XC.out w1 (Below.refl _ _)) 2).1
  have kC3 : w1.cell? ⟨w.heap.size, 3, none⟩ = some (.int .i64 od) := (boxG (XC.out w1 (Below.refl _ _)) 3).1
  have kC4 : w1.cell? ⟨w.heap.size, 4, none⟩ = some (.slice b4 m4 d4) := (boxG (XC.out w1 (Below.refl _ _)) 4).1
  by_cases hr : r < 0
  · go_wp2_with fail
    go_ret
    exact ⟨rfl, B.out _ (Below.refl _ _)⟩
  have SL : Hid ((Rep.list clR).small L) := M0.out (by omega)
  clear M0
  have BP : Hid (Below w1.heap.size w1 w1) := Below.refl _ _
  go_wp2_with fail
  refine (szRMem yg tp od _ _ _ _ _ _ ws cd _ _ (HW.out.later (B.out _ BP.out)) (HC.out.later (B.out _ BP.out)) (by omega) (by omega)).mono ?_
  rintro e w2 ⟨r2, rfl, r3, r4, hsz, hb⟩
  have M0 : Hid (0 ≤ r2 → Rep.small memR (ws, yg, tp, od, cd)) := hsz
  clear hsz
  have hq : Below w1.heap.size w1 w2 := BP.out.trans (Below.mono hb BP.out.size)
  replace B : Hid (∀ y, Below w2.heap.size w2 y → Below w.heap.size w y) := fun y hy => B.out y (hq.trans (hy.mono hq.size))
  replace XC : Hid (∀ y, Below w2.heap.size w2 y → y.heap[w.heap.size]? = some (.cells #[.slice b0 m0 d0, .int .i64 yg, .int .i64 tp, .int .i64 od, .slice b4 m4 d4] 31 (0, 0))) := fun y hy => XC.out y (hq.trans (hy.mono hq.size))
  replace lC : w.heap.size < w2.heap.size := Nat.lt_of_lt_of_le lC hq.size
  have zw2 : w1.heap.size ≤ w2.heap.size := hq.size
  clear hq BP
  clear kC0 kC1 kC2 kC3 kC4
  clear hb
  have kC0 : w2.cell? ⟨w.heap.size, 0, none⟩ = some (.slice b0 m0 d0) := (boxG (XC.out w2 (Below.refl _ _)) 0).1
  have kC1 : w2.cell? ⟨w.heap.size, 1, none⟩ = some (.int .i64 yg) := (boxG (XC.out w2 (Below.refl _ _)) 1).1
  have kC2 : w2.cell? ⟨w.heap.size, 2, none⟩ = some (.int .i64 tp) := (boxG (XC.out w2 (Below.refl _ _)) 2).1
  have kC3 : w2.cell? ⟨w.heap.size, 3, none⟩ = some (.int .i64 od) := (boxG (XC.out w2 (Below.refl _ _)) 3).1
  have kC4 : w2.cell? ⟨w.heap.size, 4, none⟩ = some (.slice b4 m4 d4) := (boxG (XC.out w2 (Below.refl _ _)) 4).1
  by_cases hr2 : r2 < 0
  · go_wp2_with fail
    go_ret
    exact ⟨rfl, B.out _ (Below.refl _ _)⟩
  have SW : Hid ((Rep.list intR).small ws) := (M0.out (by omega)).1
  have SB : Hid ((Rep.list boolR).small cd) := (M0.out (by omega)).2.2.2.2
  clear M0
  have hwl : m0 ≤ 1048576 := by rw [← HW.out.size]; exact SW.out.1
  have hdl : m4 ≤ 1048576 := by rw [← HC.out.size]; exact SB.out.1
  go_wp2_with fail
  have KS : Hid (∀ x, Below w2.heap.size w2 x → x.cell? ⟨w.heap.size, 0, none⟩ = some (.slice b0 m0 d0) ∧ x.cell? ⟨w.heap.size, 1, none⟩ = some (.int .i64 yg) ∧ x.cell? ⟨w.heap.size, 2, none⟩ = some (.int .i64 tp) ∧ x.cell? ⟨w.heap.size, 3, none⟩ = some (.int .i64 od) ∧ x.cell? ⟨w.heap.size, 4, none⟩ = some (.slice b4 m4 d4)) := fun x hx => ⟨(boxG (XC.out x hx) 0).1, (boxG (XC.out x hx) 1).1, (boxG (XC.out x hx) 2).1, (boxG (XC.out x hx) 3).1, (boxG (XC.out x hx) 4).1⟩
  refine wp_region_held_drew (S := fun x => x.cell? ⟨w.heap.size, 0, none⟩ = some (.slice b0 m0 d0) ∧ x.cell? ⟨w.heap.size, 1, none⟩ = some (.int .i64 yg) ∧ x.cell? ⟨w.heap.size, 2, none⟩ = some (.int .i64 tp) ∧ x.cell? ⟨w.heap.size, 3, none⟩ = some (.int .i64 od) ∧ x.cell? ⟨w.heap.size, 4, none⟩ = some (.slice b4 m4 d4)) (by kernel_rfl) ?_ (fun hHeld => ?_)
  · exact KS.out _ (below_drewN (Below.refl _ _) 1)
  refine wpAnyH_take (i := 0) (v := .slice a0 l0 c0) rfl (by kernel_rfl) (by kernel_rfl) (by kernel_rfl) (fun _ _ _ h => h) (Or.inl ⟨by kernel_rfl, by (intro x hSx; (try dsimp only at hSx); go_simp)⟩) (by assumption) ?_
  try simp only [Act.put, List.getElem_toArray, List.getElem_cons_zero, List.setIfInBounds_toArray, List.set_cons_zero, List.set_cons_succ]
  refine wpAnyH_take (i := 2) (v := .agg #[.slice b0 m0 d0, .int .i64 yg, .int .i64 tp, .int .i64 od, .slice b4 m4 d4]) rfl (by kernel_rfl) (by kernel_rfl) (by kernel_rfl) (fun _ _ _ h => h) (Or.inl ⟨by kernel_rfl, by (intro x hSx; (try dsimp only at hSx); go_simp)⟩) (by assumption) ?_
  try simp only [Act.put, List.getElem_toArray, List.getElem_cons_zero, List.getElem_cons_succ, List.setIfInBounds_toArray, List.set_cons_zero, List.set_cons_succ]
  refine wpAnyH_take (i := 4) (v := .int .i64 v) rfl (by kernel_rfl) (by kernel_rfl) (by kernel_rfl) (fun _ _ _ h => h) (Or.inl ⟨by kernel_rfl, by (intro x hSx; (try dsimp only at hSx); go_simp)⟩) (by assumption) ?_
  try simp only [Act.put, List.getElem_toArray, List.getElem_cons_zero, List.getElem_cons_succ, List.setIfInBounds_toArray, List.set_cons_zero, List.set_cons_succ]
  refine wpAnyH_ready (rs := [1]) (by kernel_rfl) (by simp) ?_
  refine AllReadyH.cons rfl (fun K hK => ?_) AllReadyH.nil
  go_simp
  go_at_call 16
  refine (toLClass _ _ _ L _ (H.out.later (B.out _ (below_drewN (Below.refl _ _) 1))) SL.out).mono ?_
  rintro e w3 ⟨na0, nc0, rfl, hU, hbx⟩
  have hb : Below w2.heap.size w2 w3 := (below_drewN (Below.refl _ _) 1).trans (hbx.mono (Nat.le_refl _))
  clear hbx
  have BP : Hid (Below w2.heap.size w2 w2) := Below.refl _ _
  have hq : Below w2.heap.size w2 w3 := BP.out.trans (Below.mono hb BP.out.size)
  replace B : Hid (∀ y, Below w3.heap.size w3 y → Below w.heap.size w y) := fun y hy => B.out y (hq.trans (hy.mono hq.size))
  replace XC : Hid (∀ y, Below w3.heap.size w3 y → y.heap[w.heap.size]? = some (.cells #[.slice b0 m0 d0, .int .i64 yg, .int .i64 tp, .int .i64 od, .slice b4 m4 d4] 31 (0, 0))) := fun y hy => XC.out y (hq.trans (hy.mono hq.size))
  replace lC : w.heap.size < w3.heap.size := Nat.lt_of_lt_of_le lC hq.size
  have zw3 : w2.heap.size ≤ w3.heap.size := hq.size
  clear hq BP
  replace KS : Hid (∀ x, Below w3.heap.size w3 x → x.cell? ⟨w.heap.size, 0, none⟩ = some (.slice b0 m0 d0) ∧ x.cell? ⟨w.heap.size, 1, none⟩ = some (.int .i64 yg) ∧ x.cell? ⟨w.heap.size, 2, none⟩ = some (.int .i64 tp) ∧ x.cell? ⟨w.heap.size, 3, none⟩ = some (.int .i64 od) ∧ x.cell? ⟨w.heap.size, 4, none⟩ = some (.slice b4 m4 d4)) := fun x hx => ⟨(boxG (XC.out x hx) 0).1, (boxG (XC.out x hx) 1).1, (boxG (XC.out x hx) 2).1, (boxG (XC.out x hx) 3).1, (boxG (XC.out x hx) 4).1⟩
  have U : Hid (SlAt clR _ w3 na0 l0 L) := hU
  clear hU
  clear hb
  go_wp2_with fail
  refine hK.out _ _ (KS.out _ (Below.refl _ _)) (fun hHeld2 => ?_)
  clear hK K
  try simp only [Act.put, List.getElem_toArray, List.getElem_cons_zero, List.getElem_cons_succ, List.setIfInBounds_toArray, List.set_cons_zero, List.set_cons_succ]
  refine wpAnyH_ready (rs := [3]) (by kernel_rfl) (by simp) ?_
  refine AllReadyH.cons rfl (fun K hK => ?_) AllReadyH.nil
  go_simp
  go_at_call 17
  refine (toRMem yg tp od _ _ _ _ _ _ ws cd _ (HW.out.later (B.out _ (Below.refl _ _))) SW.out (HC.out.later (B.out _ (Below.refl _ _))) SB.out).mono ?_
  rintro e w4 ⟨nb0, nd0, nb4, nd4, rfl, hX, hF, hbx⟩
  have hb : Below w3.heap.size w3 w4 := hbx
  clear hbx
  have BP : Hid (Below w3.heap.size w3 w3) := Below.refl _ _
  have hq : Below w3.heap.size w3 w4 := BP.out.trans (Below.mono hb BP.out.size)
  replace B : Hid (∀ y, Below w4.heap.size w4 y → Below w.heap.size w y) := fun y hy => B.out y (hq.trans (hy.mono hq.size))
  replace XC : Hid (∀ y, Below w4.heap.size w4 y → y.heap[w.heap.size]? = some (.cells #[.slice b0 m0 d0, .int .i64 yg, .int .i64 tp, .int .i64 od, .slice b4 m4 d4] 31 (0, 0))) := fun y hy => XC.out y (hq.trans (hy.mono hq.size))
  replace lC : w.heap.size < w4.heap.size := Nat.lt_of_lt_of_le lC hq.size
  have zw4 : w3.heap.size ≤ w4.heap.size := hq.size
  clear hq BP
  replace KS : Hid (∀ x, Below w4.heap.size w4 x → x.cell? ⟨w.heap.size, 0, none⟩ = some (.slice b0 m0 d0) ∧ x.cell? ⟨w.heap.size, 1, none⟩ = some (.int .i64 yg) ∧ x.cell? ⟨w.heap.size, 2, none⟩ = some (.int .i64 tp) ∧ x.cell? ⟨w.heap.size, 3, none⟩ = some (.int .i64 od) ∧ x.cell? ⟨w.heap.size, 4, none⟩ = some (.slice b4 m4 d4)) := fun x hx => ⟨(boxG (XC.out x hx) 0).1, (boxG (XC.out x hx) 1).1, (boxG (XC.out x hx) 2).1, (boxG (XC.out x hx) 3).1, (boxG (XC.out x hx) 4).1⟩
  replace U : Hid (SlAt clR _ w4 na0 l0 L) := U.out.later hb
  have X0 : Hid (SlAt intR _ w4 nb0 m0 ws) := hX
  have F0 : Hid (SlAt boolR _ w4 nb4 m4 cd) := hF
  clear hX hF
  clear hb
  go_wp2_with fail
  refine hK.out _ _ (KS.out _ (Below.refl _ _)) (fun hHeld3 => ?_)
  clear hK K
  try simp only [Act.put, List.getElem_toArray, List.getElem_cons_zero, List.getElem_cons_succ, List.setIfInBounds_toArray, List.set_cons_zero, List.set_cons_succ]
  refine wpAnyH_ready (rs := [5]) (by kernel_rfl) (by simp) ?_
  refine AllReadyH.cons rfl (fun K hK => ?_) AllReadyH.nil
  go_simp
  go_at_call 26
  refine (sizeOfSpec _ _ _ _ _ _ yg tp od _ _ _ v ws cd L _ U.out.cls X0.out.ints F0.out hyg htp hod hwl hdl hv).mono ?_
  rintro e w5 ⟨rfl, hbx⟩
  have hb : Below w4.heap.size w4 w5 := hbx
  clear hbx
  have BP : Hid (Below w4.heap.size w4 w4) := Below.refl _ _
  have hq : Below w4.heap.size w4 w5 := BP.out.trans (Below.mono hb BP.out.size)
  replace B : Hid (∀ y, Below w5.heap.size w5 y → Below w.heap.size w y) := fun y hy => B.out y (hq.trans (hy.mono hq.size))
  replace XC : Hid (∀ y, Below w5.heap.size w5 y → y.heap[w.heap.size]? = some (.cells #[.slice b0 m0 d0, .int .i64 yg, .int .i64 tp, .int .i64 od, .slice b4 m4 d4] 31 (0, 0))) := fun y hy => XC.out y (hq.trans (hy.mono hq.size))
  replace lC : w.heap.size < w5.heap.size := Nat.lt_of_lt_of_le lC hq.size
  have zw5 : w4.heap.size ≤ w5.heap.size := hq.size
  clear hq BP
  replace KS : Hid (∀ x, Below w5.heap.size w5 x → x.cell? ⟨w.heap.size, 0, none⟩ = some (.slice b0 m0 d0) ∧ x.cell? ⟨w.heap.size, 1, none⟩ = some (.int .i64 yg) ∧ x.cell? ⟨w.heap.size, 2, none⟩ = some (.int .i64 tp) ∧ x.cell? ⟨w.heap.size, 3, none⟩ = some (.int .i64 od) ∧ x.cell? ⟨w.heap.size, 4, none⟩ = some (.slice b4 m4 d4)) := fun x hx => ⟨(boxG (XC.out x hx) 0).1, (boxG (XC.out x hx) 1).1, (boxG (XC.out x hx) 2).1, (boxG (XC.out x hx) 3).1, (boxG (XC.out x hx) 4).1⟩
  clear U X0 F0
  clear hb
  go_wp2_with fail
  refine hK.out _ _ (KS.out _ (Below.refl _ _)) (fun hHeld4 => ?_)
  clear hK K
  try simp only [Act.put, List.getElem_toArray, List.getElem_cons_zero, List.getElem_cons_succ, List.setIfInBounds_toArray, List.set_cons_zero, List.set_cons_succ]
  refine wpAnyH_take (i := 6) (v := .int .i64 (sizV L (ws, yg, tp, od, cd) v)) rfl (by kernel_rfl) (by kernel_rfl) (by kernel_rfl) (fun _ _ _ h => h) (Or.inl ⟨by kernel_rfl, by (intro x hSx; (try dsimp only at hSx); go_simp)⟩) (by assumption) ?_
  try simp only [Act.put, List.getElem_toArray, List.getElem_cons_zero, List.getElem_cons_succ, List.setIfInBounds_toArray, List.set_cons_zero, List.set_cons_succ]
  refine wpAnyH_done (by kernel_rfl) ?_ _
  clear hHeld hHeld2 hHeld3 hHeld4
  clear kC0 kC1 kC2 kC3 kC4
  clear KS
  obtain ⟨ans, hans⟩ : ∃ q, sizV L (ws, yg, tp, od, cd) v = q := ⟨_, rfl⟩
  have HQ : Hid (sizV L (ws, yg, tp, od, cd) v = ans) := hans
  rw [hans]
  clear hans
  have kC0 : w5.cell? ⟨w.heap.size, 0, none⟩ = some (.slice b0 m0 d0) := (boxG (XC.out w5 (Below.refl _ _)) 0).1
  have kC1 : w5.cell? ⟨w.heap.size, 1, none⟩ = some (.int .i64 yg) := (boxG (XC.out w5 (Below.refl _ _)) 1).1
  have kC2 : w5.cell? ⟨w.heap.size, 2, none⟩ = some (.int .i64 tp) := (boxG (XC.out w5 (Below.refl _ _)) 2).1
  have kC3 : w5.cell? ⟨w.heap.size, 3, none⟩ = some (.int .i64 od) := (boxG (XC.out w5 (Below.refl _ _)) 3).1
  have kC4 : w5.cell? ⟨w.heap.size, 4, none⟩ = some (.slice b4 m4 d4) := (boxG (XC.out w5 (Below.refl _ _)) 4).1
  have BP : Hid (Below w5.heap.size w5 w5) := Below.refl _ _
  go_wp2_with fail
  refine (toLClass _ _ _ L _ (H.out.later (B.out _ BP.out)) SL.out).mono ?_
  rintro e w6 ⟨ka0, kc0, rfl, hU, hb⟩
  have hq : Below w5.heap.size w5 w6 := BP.out.trans (Below.mono hb BP.out.size)
  replace B : Hid (∀ y, Below w6.heap.size w6 y → Below w.heap.size w y) := fun y hy => B.out y (hq.trans (hy.mono hq.size))
  replace XC : Hid (∀ y, Below w6.heap.size w6 y → y.heap[w.heap.size]? = some (.cells #[.slice b0 m0 d0, .int .i64 yg, .int .i64 tp, .int .i64 od, .slice b4 m4 d4] 31 (0, 0))) := fun y hy => XC.out y (hq.trans (hy.mono hq.size))
  replace lC : w.heap.size < w6.heap.size := Nat.lt_of_lt_of_le lC hq.size
  have zw6 : w5.heap.size ≤ w6.heap.size := hq.size
  clear hq BP
  clear kC0 kC1 kC2 kC3 kC4
  have T : Hid (∀ y, Below w6.heap.size w6 y → SlAt clR (fun _ => True) y ka0 l0 L) := fun y hy => (hU.mono (fun _ _ _ => trivial)).later hy
  clear hU hb
  have kC0 : w6.cell? ⟨w.heap.size, 0, none⟩ = some (.slice b0 m0 d0) := (boxG (XC.out w6 (Below.refl _ _)) 0).1
  have kC1 : w6.cell? ⟨w.heap.size, 1, none⟩ = some (.int .i64 yg) := (boxG (XC.out w6 (Below.refl _ _)) 1).1
  have kC2 : w6.cell? ⟨w.heap.size, 2, none⟩ = some (.int .i64 tp) := (boxG (XC.out w6 (Below.refl _ _)) 2).1
  have kC3 : w6.cell? ⟨w.heap.size, 3, none⟩ = some (.int .i64 od) := (boxG (XC.out w6 (Below.refl _ _)) 3).1
  have kC4 : w6.cell? ⟨w.heap.size, 4, none⟩ = some (.slice b4 m4 d4) := (boxG (XC.out w6 (Below.refl _ _)) 4).1
  have BP : Hid (Below w6.heap.size w6 w6) := Below.refl _ _
  go_wp2_with fail
  refine (toRMem yg tp od _ _ _ _ _ _ ws cd _ (HW.out.later (B.out _ BP.out)) SW.out (HC.out.later (B.out _ BP.out)) SB.out).mono ?_
  rintro e w7 ⟨kb0, kd0, kb4, kd4, rfl, hX, hF, hb⟩
  have hq : Below w6.heap.size w6 w7 := BP.out.trans (Below.mono hb BP.out.size)
  replace B : Hid (∀ y, Below w7.heap.size w7 y → Below w.heap.size w y) := fun y hy => B.out y (hq.trans (hy.mono hq.size))
  replace T : Hid (∀ y, Below w7.heap.size w7 y → SlAt clR (fun _ => True) y ka0 l0 L) := fun y hy => T.out y (hq.trans (hy.mono hq.size))
  replace XC : Hid (∀ y, Below w7.heap.size w7 y → y.heap[w.heap.size]? = some (.cells #[.slice b0 m0 d0, .int .i64 yg, .int .i64 tp, .int .i64 od, .slice b4 m4 d4] 31 (0, 0))) := fun y hy => XC.out y (hq.trans (hy.mono hq.size))
  replace lC : w.heap.size < w7.heap.size := Nat.lt_of_lt_of_le lC hq.size
  have zw7 : w6.heap.size ≤ w7.heap.size := hq.size
  clear hq BP
  clear kC0 kC1 kC2 kC3 kC4
  have X1 : Hid (∀ y, Below w7.heap.size w7 y → SlAt intR (fun _ => True) y kb0 m0 ws) := fun y hy => (hX.mono (fun _ _ _ => trivial)).later hy
  have F1 : Hid (∀ y, Below w7.heap.size w7 y → SlAt boolR (fun _ => True) y kb4 m4 cd) := fun y hy => (hF.mono (fun _ _ _ => trivial)).later hy
  clear hX hF hb
  have kC0 : w7.cell? ⟨w.heap.size, 0, none⟩ = some (.slice b0 m0 d0) := (boxG (XC.out w7 (Below.refl _ _)) 0).1
  have kC1 : w7.cell? ⟨w.heap.size, 1, none⟩ = some (.int .i64 yg) := (boxG (XC.out w7 (Below.refl _ _)) 1).1
  have kC2 : w7.cell? ⟨w.heap.size, 2, none⟩ = some (.int .i64 tp) := (boxG (XC.out w7 (Below.refl _ _)) 2).1
  have kC3 : w7.cell? ⟨w.heap.size, 3, none⟩ = some (.int .i64 od) := (boxG (XC.out w7 (Below.refl _ _)) 3).1
  have kC4 : w7.cell? ⟨w.heap.size, 4, none⟩ = some (.slice b4 m4 d4) := (boxG (XC.out w7 (Below.refl _ _)) 4).1
  have BP : Hid (Below w7.heap.size w7 (w7.alloc (.cells #[.slice kb0 m0 (m0 + kd0), .int .i64 yg, .int .i64 tp, .int .i64 od, .slice kb4 m4 (m4 + kd4)] 25))) := (Below.refl _ _).alloc (Nat.le_refl _) _
  go_wp2_with fail
  refine (sizeOfImpl _ _ _ _ _ _ yg tp od _ _ _ v ws cd L _ (T.out _ BP.out).cls (X1.out _ BP.out).ints (F1.out _ BP.out) hyg hwl hdl (by omega) hv).mono ?_
  rintro e w8 ⟨rfl, hb⟩
  rw [HQ.out]
  have hq : Below w7.heap.size w7 w8 := BP.out.trans (Below.mono hb BP.out.size)
  replace B : Hid (∀ y, Below w8.heap.size w8 y → Below w.heap.size w y) := fun y hy => B.out y (hq.trans (hy.mono hq.size))
  replace T : Hid (∀ y, Below w8.heap.size w8 y → SlAt clR (fun _ => True) y ka0 l0 L) := fun y hy => T.out y (hq.trans (hy.mono hq.size))
  replace X1 : Hid (∀ y, Below w8.heap.size w8 y → SlAt intR (fun _ => True) y kb0 m0 ws) := fun y hy => X1.out y (hq.trans (hy.mono hq.size))
  replace F1 : Hid (∀ y, Below w8.heap.size w8 y → SlAt boolR (fun _ => True) y kb4 m4 cd) := fun y hy => F1.out y (hq.trans (hy.mono hq.size))
  replace XC : Hid (∀ y, Below w8.heap.size w8 y → y.heap[w.heap.size]? = some (.cells #[.slice b0 m0 d0, .int .i64 yg, .int .i64 tp, .int .i64 od, .slice b4 m4 d4] 31 (0, 0))) := fun y hy => XC.out y (hq.trans (hy.mono hq.size))
  replace lC : w.heap.size < w8.heap.size := Nat.lt_of_lt_of_le lC hq.size
  have lQ : w7.heap.size < w8.heap.size := Nat.lt_of_lt_of_le (by simp) (Below.size hb)
  have XQ : Hid (∀ y, Below w8.heap.size w8 y → y.heap[w7.heap.size]? = some (.cells #[.slice kb0 m0 (m0 + kd0), .int .i64 yg, .int .i64 tp, .int .i64 od, .slice kb4 m4 (m4 + kd4)] 25 (0, 0))) := fun y hy => (hy.block _ lQ).trans ((Below.block hb _ (by simp)).trans (boxN _ _ _ _ rfl))
  have zw8 : w7.heap.size + 1 ≤ w8.heap.size := Nat.le_trans (Nat.le_of_eq (by simp)) (Below.size hb)
  clear hq BP
  clear kC0 kC1 kC2 kC3 kC4
  clear hb
  have kC0 : w8.cell? ⟨w.heap.size, 0, none⟩ = some (.slice b0 m0 d0) := (boxG (XC.out w8 (Below.refl _ _)) 0).1
  have kC1 : w8.cell? ⟨w.heap.size, 1, none⟩ = some (.int .i64 yg) := (boxG (XC.out w8 (Below.refl _ _)) 1).1
  have kC2 : w8.cell? ⟨w.heap.size, 2, none⟩ = some (.int .i64 tp) := (boxG (XC.out w8 (Below.refl _ _)) 2).1
  have kC3 : w8.cell? ⟨w.heap.size, 3, none⟩ = some (.int .i64 od) := (boxG (XC.out w8 (Below.refl _ _)) 3).1
  have kC4 : w8.cell? ⟨w.heap.size, 4, none⟩ = some (.slice b4 m4 d4) := (boxG (XC.out w8 (Below.refl _ _)) 4).1
  have kQ0 : w8.cell? ⟨w7.heap.size, 0, none⟩ = some (.slice kb0 m0 (m0 + kd0)) := (boxG (XQ.out w8 (Below.refl _ _)) 0).1
  have kQ1 : w8.cell? ⟨w7.heap.size, 1, none⟩ = some (.int .i64 yg) := (boxG (XQ.out w8 (Below.refl _ _)) 1).1
  have kQ2 : w8.cell? ⟨w7.heap.size, 2, none⟩ = some (.int .i64 tp) := (boxG (XQ.out w8 (Below.refl _ _)) 2).1
  have kQ3 : w8.cell? ⟨w7.heap.size, 3, none⟩ = some (.int .i64 od) := (boxG (XQ.out w8 (Below.refl _ _)) 3).1
  have kQ4 : w8.cell? ⟨w7.heap.size, 4, none⟩ = some (.slice kb4 m4 (m4 + kd4)) := (boxG (XQ.out w8 (Below.refl _ _)) 4).1
  have BP : Hid (Below w8.heap.size w8 w8) := Below.refl _ _
  go_wp2_with fail
  refine (toLClass _ _ _ L _ (H.out.later (B.out _ BP.out)) SL.out).mono ?_
  rintro e w9 ⟨ja0, jc0, rfl, hU, hb⟩
  have hq : Below w8.heap.size w8 w9 := BP.out.trans (Below.mono hb BP.out.size)
  replace B : Hid (∀ y, Below w9.heap.size w9 y → Below w.heap.size w y) := fun y hy => B.out y (hq.trans (hy.mono hq.size))
  replace T : Hid (∀ y, Below w9.heap.size w9 y → SlAt clR (fun _ => True) y ka0 l0 L) := fun y hy => T.out y (hq.trans (hy.mono hq.size))
  replace X1 : Hid (∀ y, Below w9.heap.size w9 y → SlAt intR (fun _ => True) y kb0 m0 ws) := fun y hy => X1.out y (hq.trans (hy.mono hq.size))
  replace F1 : Hid (∀ y, Below w9.heap.size w9 y → SlAt boolR (fun _ => True) y kb4 m4 cd) := fun y hy => F1.out y (hq.trans (hy.mono hq.size))
  replace XC : Hid (∀ y, Below w9.heap.size w9 y → y.heap[w.heap.size]? = some (.cells #[.slice b0 m0 d0, .int .i64 yg, .int .i64 tp, .int .i64 od, .slice b4 m4 d4] 31 (0, 0))) := fun y hy => XC.out y (hq.trans (hy.mono hq.size))
  replace lC : w.heap.size < w9.heap.size := Nat.lt_of_lt_of_le lC hq.size
  replace XQ : Hid (∀ y, Below w9.heap.size w9 y → y.heap[w7.heap.size]? = some (.cells #[.slice kb0 m0 (m0 + kd0), .int .i64 yg, .int .i64 tp, .int .i64 od, .slice kb4 m4 (m4 + kd4)] 25 (0, 0))) := fun y hy => XQ.out y (hq.trans (hy.mono hq.size))
  replace lQ : w7.heap.size < w9.heap.size := Nat.lt_of_lt_of_le lQ hq.size
  have zw9 : w8.heap.size ≤ w9.heap.size := hq.size
  clear hq BP
  clear kC0 kC1 kC2 kC3 kC4 kQ0 kQ1 kQ2 kQ3 kQ4
  have U : Hid (SlAt clR _ w9 ja0 l0 L) := hU
  clear hU hb
  have kC0 : w9.cell? ⟨w.heap.size, 0, none⟩ = some (.slice b0 m0 d0) := (boxG (XC.out w9 (Below.refl _ _)) 0).1
  have kC1 : w9.cell? ⟨w.heap.size, 1, none⟩ = some (.int .i64 yg) := (boxG (XC.out w9 (Below.refl _ _)) 1).1
  have kC2 : w9.cell? ⟨w.heap.size, 2, none⟩ = some (.int .i64 tp) := (boxG (XC.out w9 (Below.refl _ _)) 2).1
  have kC3 : w9.cell? ⟨w.heap.size, 3, none⟩ = some (.int .i64 od) := (boxG (XC.out w9 (Below.refl _ _)) 3).1
  have kC4 : w9.cell? ⟨w.heap.size, 4, none⟩ = some (.slice b4 m4 d4) := (boxG (XC.out w9 (Below.refl _ _)) 4).1
  have kQ0 : w9.cell? ⟨w7.heap.size, 0, none⟩ = some (.slice kb0 m0 (m0 + kd0)) := (boxG (XQ.out w9 (Below.refl _ _)) 0).1
  have kQ1 : w9.cell? ⟨w7.heap.size, 1, none⟩ = some (.int .i64 yg) := (boxG (XQ.out w9 (Below.refl _ _)) 1).1
  have kQ2 : w9.cell? ⟨w7.heap.size, 2, none⟩ = some (.int .i64 tp) := (boxG (XQ.out w9 (Below.refl _ _)) 2).1
  have kQ3 : w9.cell? ⟨w7.heap.size, 3, none⟩ = some (.int .i64 od) := (boxG (XQ.out w9 (Below.refl _ _)) 3).1
  have kQ4 : w9.cell? ⟨w7.heap.size, 4, none⟩ = some (.slice kb4 m4 (m4 + kd4)) := (boxG (XQ.out w9 (Below.refl _ _)) 4).1
  have BP : Hid (Below w9.heap.size w9 w9) := Below.refl _ _
  go_wp2_with fail
  refine (eqLClass _ _ _ _ _ _ L _ (T.out _ BP.out) U.out).mono ?_
  rintro e w10 ⟨rfl, hb⟩
  have hq : Below w9.heap.size w9 w10 := BP.out.trans (Below.mono hb BP.out.size)
  replace B : Hid (∀ y, Below w10.heap.size w10 y → Below w.heap.size w y) := fun y hy => B.out y (hq.trans (hy.mono hq.size))
  replace T : Hid (∀ y, Below w10.heap.size w10 y → SlAt clR (fun _ => True) y ka0 l0 L) := fun y hy => T.out y (hq.trans (hy.mono hq.size))
  replace X1 : Hid (∀ y, Below w10.heap.size w10 y → SlAt intR (fun _ => True) y kb0 m0 ws) := fun y hy => X1.out y (hq.trans (hy.mono hq.size))
  replace F1 : Hid (∀ y, Below w10.heap.size w10 y → SlAt boolR (fun _ => True) y kb4 m4 cd) := fun y hy => F1.out y (hq.trans (hy.mono hq.size))
  replace XC : Hid (∀ y, Below w10.heap.size w10 y → y.heap[w.heap.size]? = some (.cells #[.slice b0 m0 d0, .int .i64 yg, .int .i64 tp, .int .i64 od, .slice b4 m4 d4] 31 (0, 0))) := fun y hy => XC.out y (hq.trans (hy.mono hq.size))
  replace lC : w.heap.size < w10.heap.size := Nat.lt_of_lt_of_le lC hq.size
  replace XQ : Hid (∀ y, Below w10.heap.size w10 y → y.heap[w7.heap.size]? = some (.cells #[.slice kb0 m0 (m0 + kd0), .int .i64 yg, .int .i64 tp, .int .i64 od, .slice kb4 m4 (m4 + kd4)] 25 (0, 0))) := fun y hy => XQ.out y (hq.trans (hy.mono hq.size))
  replace lQ : w7.heap.size < w10.heap.size := Nat.lt_of_lt_of_le lQ hq.size
  have zw10 : w9.heap.size ≤ w10.heap.size := hq.size
  clear hq BP
  clear kC0 kC1 kC2 kC3 kC4 kQ0 kQ1 kQ2 kQ3 kQ4
  clear hb U
  have kC0 : w10.cell? ⟨w.heap.size, 0, none⟩ = some (.slice b0 m0 d0) := (boxG (XC.out w10 (Below.refl _ _)) 0).1
  have kC1 : w10.cell? ⟨w.heap.size, 1, none⟩ = some (.int .i64 yg) := (boxG (XC.out w10 (Below.refl _ _)) 1).1
  have kC2 : w10.cell? ⟨w.heap.size, 2, none⟩ = some (.int .i64 tp) := (boxG (XC.out w10 (Below.refl _ _)) 2).1
  have kC3 : w10.cell? ⟨w.heap.size, 3, none⟩ = some (.int .i64 od) := (boxG (XC.out w10 (Below.refl _ _)) 3).1
  have kC4 : w10.cell? ⟨w.heap.size, 4, none⟩ = some (.slice b4 m4 d4) := (boxG (XC.out w10 (Below.refl _ _)) 4).1
  have kQ0 : w10.cell? ⟨w7.heap.size, 0, none⟩ = some (.slice kb0 m0 (m0 + kd0)) := (boxG (XQ.out w10 (Below.refl _ _)) 0).1
  have kQ1 : w10.cell? ⟨w7.heap.size, 1, none⟩ = some (.int .i64 yg) := (boxG (XQ.out w10 (Below.refl _ _)) 1).1
  have kQ2 : w10.cell? ⟨w7.heap.size, 2, none⟩ = some (.int .i64 tp) := (boxG (XQ.out w10 (Below.refl _ _)) 2).1
  have kQ3 : w10.cell? ⟨w7.heap.size, 3, none⟩ = some (.int .i64 od) := (boxG (XQ.out w10 (Below.refl _ _)) 3).1
  have kQ4 : w10.cell? ⟨w7.heap.size, 4, none⟩ = some (.slice kb4 m4 (m4 + kd4)) := (boxG (XQ.out w10 (Below.refl _ _)) 4).1
  go_wp2_with fail
  have KS : Hid (∀ x, Below w10.heap.size w10 x → x.cell? ⟨w.heap.size, 0, none⟩ = some (.slice b0 m0 d0) ∧ x.cell? ⟨w.heap.size, 1, none⟩ = some (.int .i64 yg) ∧ x.cell? ⟨w.heap.size, 2, none⟩ = some (.int .i64 tp) ∧ x.cell? ⟨w.heap.size, 3, none⟩ = some (.int .i64 od) ∧ x.cell? ⟨w.heap.size, 4, none⟩ = some (.slice b4 m4 d4) ∧ x.cell? ⟨w7.heap.size, 0, none⟩ = some (.slice kb0 m0 (m0 + kd0)) ∧ x.cell? ⟨w7.heap.size, 1, none⟩ = some (.int .i64 yg) ∧ x.cell? ⟨w7.heap.size, 2, none⟩ = some (.int .i64 tp) ∧ x.cell? ⟨w7.heap.size, 3, none⟩ = some (.int .i64 od) ∧ x.cell? ⟨w7.heap.size, 4, none⟩ = some (.slice kb4 m4 (m4 + kd4))) := fun x hx => ⟨(boxG (XC.out x hx) 0).1, (boxG (XC.out x hx) 1).1, (boxG (XC.out x hx) 2).1, (boxG (XC.out x hx) 3).1, (boxG (XC.out x hx) 4).1, (boxG (XQ.out x hx) 0).1, (boxG (XQ.out x hx) 1).1, (boxG (XQ.out x hx) 2).1, (boxG (XQ.out x hx) 3).1, (boxG (XQ.out x hx) 4).1⟩
  refine wp_region_held_drew (S := fun x => x.cell? ⟨w.heap.size, 0, none⟩ = some (.slice b0 m0 d0) ∧ x.cell? ⟨w.heap.size, 1, none⟩ = some (.int .i64 yg) ∧ x.cell? ⟨w.heap.size, 2, none⟩ = some (.int .i64 tp) ∧ x.cell? ⟨w.heap.size, 3, none⟩ = some (.int .i64 od) ∧ x.cell? ⟨w.heap.size, 4, none⟩ = some (.slice b4 m4 d4) ∧ x.cell? ⟨w7.heap.size, 0, none⟩ = some (.slice kb0 m0 (m0 + kd0)) ∧ x.cell? ⟨w7.heap.size, 1, none⟩ = some (.int .i64 yg) ∧ x.cell? ⟨w7.heap.size, 2, none⟩ = some (.int .i64 tp) ∧ x.cell? ⟨w7.heap.size, 3, none⟩ = some (.int .i64 od) ∧ x.cell? ⟨w7.heap.size, 4, none⟩ = some (.slice kb4 m4 (m4 + kd4))) (by kernel_rfl) ?_ (fun hHeld => ?_)
  · exact KS.out _ (below_drewN (Below.refl _ _) 1)
  refine wpAnyH_take (i := 0) (v := .agg #[.slice kb0 m0 (m0 + kd0), .int .i64 yg, .int .i64 tp, .int .i64 od, .slice kb4 m4 (m4 + kd4)]) rfl (by kernel_rfl) (by kernel_rfl) (by kernel_rfl) (fun _ _ _ h => h) (Or.inl ⟨by kernel_rfl, by (intro x hSx; (try dsimp only at hSx); go_simp)⟩) (by assumption) ?_
  try simp only [Act.put, List.getElem_toArray, List.getElem_cons_zero, List.setIfInBounds_toArray, List.set_cons_zero, List.set_cons_succ]
  refine wpAnyH_take (i := 1) (v := .agg #[.slice b0 m0 d0, .int .i64 yg, .int .i64 tp, .int .i64 od, .slice b4 m4 d4]) rfl (by kernel_rfl) (by kernel_rfl) (by kernel_rfl) (fun _ _ _ h => h) (Or.inl ⟨by kernel_rfl, by (intro x hSx; (try dsimp only at hSx); go_simp)⟩) (by assumption) ?_
  try simp only [Act.put, List.getElem_toArray, List.getElem_cons_zero, List.getElem_cons_succ, List.setIfInBounds_toArray, List.set_cons_zero, List.set_cons_succ]
  refine wpAnyH_ready (rs := [2]) (by kernel_rfl) (by simp) ?_
  refine AllReadyH.cons rfl (fun K hK => ?_) AllReadyH.nil
  go_simp
  go_at_call 17
  refine (toRMem yg tp od _ _ _ _ _ _ ws cd _ (HW.out.later (B.out _ (below_drewN (Below.refl _ _) 1))) SW.out (HC.out.later (B.out _ (below_drewN (Below.refl _ _) 1))) SB.out).mono ?_
  rintro e w11 ⟨jb0, jd0, jb4, jd4, rfl, hX, hF, hbx⟩
  have hb : Below w10.heap.size w10 w11 := (below_drewN (Below.refl _ _) 1).trans (hbx.mono (Nat.le_refl _))
  clear hbx
  have BP : Hid (Below w10.heap.size w10 w10) := Below.refl _ _
  have hq : Below w10.heap.size w10 w11 := BP.out.trans (Below.mono hb BP.out.size)
  replace B : Hid (∀ y, Below w11.heap.size w11 y → Below w.heap.size w y) := fun y hy => B.out y (hq.trans (hy.mono hq.size))
  replace T : Hid (∀ y, Below w11.heap.size w11 y → SlAt clR (fun _ => True) y ka0 l0 L) := fun y hy => T.out y (hq.trans (hy.mono hq.size))
  replace X1 : Hid (∀ y, Below w11.heap.size w11 y → SlAt intR (fun _ => True) y kb0 m0 ws) := fun y hy => X1.out y (hq.trans (hy.mono hq.size))
  replace F1 : Hid (∀ y, Below w11.heap.size w11 y → SlAt boolR (fun _ => True) y kb4 m4 cd) := fun y hy => F1.out y (hq.trans (hy.mono hq.size))
  replace XC : Hid (∀ y, Below w11.heap.size w11 y → y.heap[w.heap.size]? = some (.cells #[.slice b0 m0 d0, .int .i64 yg, .int .i64 tp, .int .i64 od, .slice b4 m4 d4] 31 (0, 0))) := fun y hy => XC.out y (hq.trans (hy.mono hq.size))
  replace lC : w.heap.size < w11.heap.size := Nat.lt_of_lt_of_le lC hq.size
  replace XQ : Hid (∀ y, Below w11.heap.size w11 y → y.heap[w7.heap.size]? = some (.cells #[.slice kb0 m0 (m0 + kd0), .int .i64 yg, .int .i64 tp, .int .i64 od, .slice kb4 m4 (m4 + kd4)] 25 (0, 0))) := fun y hy => XQ.out y (hq.trans (hy.mono hq.size))
  replace lQ : w7.heap.size < w11.heap.size := Nat.lt_of_lt_of_le lQ hq.size
  have zw11 : w10.heap.size ≤ w11.heap.size := hq.size
  clear hq BP
  replace KS : Hid (∀ x, Below w11.heap.size w11 x → x.cell? ⟨w.heap.size, 0, none⟩ = some (.slice b0 m0 d0) ∧ x.cell? ⟨w.heap.size, 1, none⟩ = some (.int .i64 yg) ∧ x.cell? ⟨w.heap.size, 2, none⟩ = some (.int .i64 tp) ∧ x.cell? ⟨w.heap.size, 3, none⟩ = some (.int .i64 od) ∧ x.cell? ⟨w.heap.size, 4, none⟩ = some (.slice b4 m4 d4) ∧ x.cell? ⟨w7.heap.size, 0, none⟩ = some (.slice kb0 m0 (m0 + kd0)) ∧ x.cell? ⟨w7.heap.size, 1, none⟩ = some (.int .i64 yg) ∧ x.cell? ⟨w7.heap.size, 2, none⟩ = some (.int .i64 tp) ∧ x.cell? ⟨w7.heap.size, 3, none⟩ = some (.int .i64 od) ∧ x.cell? ⟨w7.heap.size, 4, none⟩ = some (.slice kb4 m4 (m4 + kd4))) := fun x hx => ⟨(boxG (XC.out x hx) 0).1, (boxG (XC.out x hx) 1).1, (boxG (XC.out x hx) 2).1, (boxG (XC.out x hx) 3).1, (boxG (XC.out x hx) 4).1, (boxG (XQ.out x hx) 0).1, (boxG (XQ.out x hx) 1).1, (boxG (XQ.out x hx) 2).1, (boxG (XQ.out x hx) 3).1, (boxG (XQ.out x hx) 4).1⟩
  have X0 : Hid (SlAt intR _ w11 jb0 m0 ws) := hX
  have F0 : Hid (SlAt boolR _ w11 jb4 m4 cd) := hF
  clear hX hF
  clear hb
  go_wp2_with fail
  refine hK.out _ _ (KS.out _ (Below.refl _ _)) (fun hHeld2 => ?_)
  clear hK K
  try simp only [Act.put, List.getElem_toArray, List.getElem_cons_zero, List.getElem_cons_succ, List.setIfInBounds_toArray, List.set_cons_zero, List.set_cons_succ]
  refine wpAnyH_ready (rs := [3]) (by kernel_rfl) (by simp) ?_
  refine AllReadyH.cons rfl (fun K hK => ?_) AllReadyH.nil
  go_simp
  go_at_call 10
  refine (eqRMem yg tp od _ _ _ _ _ _ _ _ _ _ _ _ ws cd _ (X1.out _ (Below.refl _ _)) X0.out (F1.out _ (Below.refl _ _)) F0.out).mono ?_
  rintro e w12 ⟨rfl, hbx⟩
  have hb : Below w11.heap.size w11 w12 := hbx
  clear hbx
  have BP : Hid (Below w11.heap.size w11 w11) := Below.refl _ _
  have hq : Below w11.heap.size w11 w12 := BP.out.trans (Below.mono hb BP.out.size)
  replace B : Hid (∀ y, Below w12.heap.size w12 y → Below w.heap.size w y) := fun y hy => B.out y (hq.trans (hy.mono hq.size))
  replace T : Hid (∀ y, Below w12.heap.size w12 y → SlAt clR (fun _ => True) y ka0 l0 L) := fun y hy => T.out y (hq.trans (hy.mono hq.size))
  replace X1 : Hid (∀ y, Below w12.heap.size w12 y → SlAt intR (fun _ => True) y kb0 m0 ws) := fun y hy => X1.out y (hq.trans (hy.mono hq.size))
  replace F1 : Hid (∀ y, Below w12.heap.size w12 y → SlAt boolR (fun _ => True) y kb4 m4 cd) := fun y hy => F1.out y (hq.trans (hy.mono hq.size))
  replace XC : Hid (∀ y, Below w12.heap.size w12 y → y.heap[w.heap.size]? = some (.cells #[.slice b0 m0 d0, .int .i64 yg, .int .i64 tp, .int .i64 od, .slice b4 m4 d4] 31 (0, 0))) := fun y hy => XC.out y (hq.trans (hy.mono hq.size))
  replace lC : w.heap.size < w12.heap.size := Nat.lt_of_lt_of_le lC hq.size
  replace XQ : Hid (∀ y, Below w12.heap.size w12 y → y.heap[w7.heap.size]? = some (.cells #[.slice kb0 m0 (m0 + kd0), .int .i64 yg, .int .i64 tp, .int .i64 od, .slice kb4 m4 (m4 + kd4)] 25 (0, 0))) := fun y hy => XQ.out y (hq.trans (hy.mono hq.size))
  replace lQ : w7.heap.size < w12.heap.size := Nat.lt_of_lt_of_le lQ hq.size
  have zw12 : w11.heap.size ≤ w12.heap.size := hq.size
  clear hq BP
  replace KS : Hid (∀ x, Below w12.heap.size w12 x → x.cell? ⟨w.heap.size, 0, none⟩ = some (.slice b0 m0 d0) ∧ x.cell? ⟨w.heap.size, 1, none⟩ = some (.int .i64 yg) ∧ x.cell? ⟨w.heap.size, 2, none⟩ = some (.int .i64 tp) ∧ x.cell? ⟨w.heap.size, 3, none⟩ = some (.int .i64 od) ∧ x.cell? ⟨w.heap.size, 4, none⟩ = some (.slice b4 m4 d4) ∧ x.cell? ⟨w7.heap.size, 0, none⟩ = some (.slice kb0 m0 (m0 + kd0)) ∧ x.cell? ⟨w7.heap.size, 1, none⟩ = some (.int .i64 yg) ∧ x.cell? ⟨w7.heap.size, 2, none⟩ = some (.int .i64 tp) ∧ x.cell? ⟨w7.heap.size, 3, none⟩ = some (.int .i64 od) ∧ x.cell? ⟨w7.heap.size, 4, none⟩ = some (.slice kb4 m4 (m4 + kd4))) := fun x hx => ⟨(boxG (XC.out x hx) 0).1, (boxG (XC.out x hx) 1).1, (boxG (XC.out x hx) 2).1, (boxG (XC.out x hx) 3).1, (boxG (XC.out x hx) 4).1, (boxG (XQ.out x hx) 0).1, (boxG (XQ.out x hx) 1).1, (boxG (XQ.out x hx) 2).1, (boxG (XQ.out x hx) 3).1, (boxG (XQ.out x hx) 4).1⟩
  clear X0 F0
  clear hb
  go_wp2_with fail
  refine hK.out _ _ (KS.out _ (Below.refl _ _)) (fun hHeld3 => ?_)
  clear hK K
  try simp only [Act.put, List.getElem_toArray, List.getElem_cons_zero, List.getElem_cons_succ, List.setIfInBounds_toArray, List.set_cons_zero, List.set_cons_succ]
  refine wpAnyH_take (i := 4) (v := .bool false) rfl (by kernel_rfl) (by kernel_rfl) (by kernel_rfl) (fun _ _ _ h => h) (Or.inl ⟨by kernel_rfl, by (intro x hSx; (try dsimp only at hSx); go_simp)⟩) (by assumption) ?_
  try simp only [Act.put, List.getElem_toArray, List.getElem_cons_zero, List.getElem_cons_succ, List.setIfInBounds_toArray, List.set_cons_zero, List.set_cons_succ]
  refine wpAnyH_done (by kernel_rfl) ?_ _
  clear hHeld hHeld2 hHeld3
  clear kC0 kC1 kC2 kC3 kC4 kQ0 kQ1 kQ2 kQ3 kQ4
  clear KS
  have kC0 : w12.cell? ⟨w.heap.size, 0, none⟩ = some (.slice b0 m0 d0) := (boxG (XC.out w12 (Below.refl _ _)) 0).1
  have kC1 : w12.cell? ⟨w.heap.size, 1, none⟩ = some (.int .i64 yg) := (boxG (XC.out w12 (Below.refl _ _)) 1).1
  have kC2 : w12.cell? ⟨w.heap.size, 2, none⟩ = some (.int .i64 tp) := (boxG (XC.out w12 (Below.refl _ _)) 2).1
  have kC3 : w12.cell? ⟨w.heap.size, 3, none⟩ = some (.int .i64 od) := (boxG (XC.out w12 (Below.refl _ _)) 3).1
  have kC4 : w12.cell? ⟨w.heap.size, 4, none⟩ = some (.slice b4 m4 d4) := (boxG (XC.out w12 (Below.refl _ _)) 4).1
  have kQ0 : w12.cell? ⟨w7.heap.size, 0, none⟩ = some (.slice kb0 m0 (m0 + kd0)) := (boxG (XQ.out w12 (Below.refl _ _)) 0).1
  have kQ1 : w12.cell? ⟨w7.heap.size, 1, none⟩ = some (.int .i64 yg) := (boxG (XQ.out w12 (Below.refl _ _)) 1).1
  have kQ2 : w12.cell? ⟨w7.heap.size, 2, none⟩ = some (.int .i64 tp) := (boxG (XQ.out w12 (Below.refl _ _)) 2).1
  have kQ3 : w12.cell? ⟨w7.heap.size, 3, none⟩ = some (.int .i64 od) := (boxG (XQ.out w12 (Below.refl _ _)) 3).1
  have kQ4 : w12.cell? ⟨w7.heap.size, 4, none⟩ = some (.slice kb4 m4 (m4 + kd4)) := (boxG (XQ.out w12 (Below.refl _ _)) 4).1
  go_wp2_with fail
  go_ret
  exact ⟨rfl, B.out _ (Below.refl _ _)⟩

/-- What came in, read. -/
theorem slOf {α : Type} {R : Rep α} {t : TypeId} (hr : Reads t (.list R)) {H : Type} {enc : TypeId × Value → H} {W : World} {a : Option Addr} {len cap : Nat} {d : DataW H} {p : List MemPlace} (h : DataW.Trod enc Try.prog W 0 (fun _ => true) true t (.slice a len cap) d p) : ∃ xs, SlAt R (fun _ => True) W a len xs := by
  obtain ⟨fuel, hf⟩ := h
  obtain ⟨xs, a', l', c', e, hS⟩ := hr _ _ _ _ _ _ hf
  simp [Value.cells] at e
  obtain ⟨rfl, rfl, rfl⟩ := e
  exact ⟨xs, hS⟩
theorem memOf {H : Type} {enc : TypeId × Value → H} {W : World} {cs : Array Value} {d : DataW H} {p : List MemPlace} (h : DataW.Trod enc Try.prog W 0 (fun _ => true) true 31 (.agg cs) d p) :
    ∃ a0 l0 c0 yg tp od a4 l4 c4 ws cd, cs = #[.slice a0 l0 c0, .int .i64 yg, .int .i64 tp, .int .i64 od, .slice a4 l4 c4] ∧ SlAt intR (fun _ => True) W a0 l0 ws ∧ SlAt boolR (fun _ => True) W a4 l4 cd ∧ i64B yg ∧ i64B tp ∧ i64B od := by
  obtain ⟨fuel, hf⟩ := h
  obtain ⟨⟨ws, yg, tp, od, cd⟩, _, _, e, ⟨a0, l0, c0, rfl, h1⟩, _, _, rfl, ⟨rfl, f1⟩, _, _, rfl, ⟨rfl, f2⟩, _, _, rfl, ⟨rfl, f3⟩, a4, l4, c4, rfl, h2⟩ := rd_Mem _ _ _ _ _ _ hf
  refine ⟨a0, l0, c0, yg, tp, od, a4, l4, c4, ws, cd, ?_, h1, h2, f1, f2, f3⟩
  obtain ⟨l⟩ := cs
  simpa [Value.cells] using e

set_option maxRecDepth 100000 in
theorem lifted (os : Os) (started : os.Started) (H : Type) (enc : TypeId × Value → H) :
    ReturnsInHanded {} Try.checked os 6 .any (Rows.fnExactMemSizeSpec.pre6 enc Try.prog Try.f6 Rows.fnExactMemSizeRow.domain false) (Rows.fnExactMemSizeSpec.post enc Try.prog Try.f6 false true false false) := by
  refine returnsInHanded_of_change (C := Try.checked) own started (by kernel_rfl) Try.func6
    (ChangeSpec.witness6 (enc := enc) (C := Try.checked) false ⟨#[], #[.slice none 0 0, .agg #[.slice none 0 0, .int .i64 0, .int .i64 0, .int .i64 0, .slice none 0 0], .int .i64 0], []⟩ 8 (by kernel_rfl) (by kernel_rfl) (by kernel_rfl) (by kernel_rfl)) ?_
  intro W base args ds gs before hval0 hW hcnd _
  have hval : ∀ (j : Nat) t v, Try.f6.params[j]? = some t → args[j]? = some v → Value.okWide Try.prog W .any base t v := hval0
  have hW' := hW
  obtain ⟨p, q, hA0, hV, rfl, hfz, hnd⟩ := hW
  have hA : DataW.TrodAll enc Try.prog W 0 (fun _ => true) true Try.f6.params.toList args.toList ds p := hA0
  rw [Try.params6] at hA hval
  obtain ⟨v0, vs0, d0, ds0, p0, q0, hargs, rfl, rfl, h0, r0⟩ := trodAll_cons hA
  obtain ⟨v1, vs1, d1, ds1, p1, q1, rfl, rfl, rfl, h1, r1⟩ := trodAll_cons r0
  obtain ⟨v2, vs2, d2, ds2, p2, q2, rfl, rfl, rfl, h2, r2⟩ := trodAll_cons r1
  obtain ⟨rfl, rfl, rfl⟩ := trodAll_nil r2
  obtain rfl : args = #[v0, v1, v2] := by cases args; simp_all
  obtain ⟨rfl, rfl⟩ := trodVars_none hV
  have k0 := h0
  have lt0 : ∀ x ∈ p0, x.block < W.heap.size := by obtain ⟨m, hm⟩ := k0; exact DataW.trod_lt m _ _ _ hm
  have k1 := h1
  have lt1 : ∀ x ∈ p1, x.block < W.heap.size := by obtain ⟨m, hm⟩ := k1; exact DataW.trod_lt m _ _ _ hm
  obtain ⟨a0, len0, cap0, rfl⟩ := okWide_slice Try.underlying30 (hval 0 30 v0 rfl rfl)
  obtain ⟨L, w0⟩ := slOf rdL_Class h0
  obtain ⟨cs1, rfl, _⟩ := okWide_struct Try.underlying31 (hval 1 31 v1 rfl rfl)
  obtain ⟨b0, m0, e0, yg, tp, od, b4, m4, e4, ws, cd, rfl, g0, g4, f1, f2, f3⟩ := memOf h1
  obtain ⟨v, rfl, rfl, rfl, w2⟩ := open_int Try.underlying3 (hval 2 3 v2 rfl rfl) h2
  clear hA0 hval0
  refine (walk a0 len0 cap0 b0 m0 e0 yg tp od b4 m4 e4 v L ws cd W w0 g0 g4 f1 f2 f3 (bounds_i64 w2)).mono fun e W' ⟨he, bel⟩ => ?_
  subst he
  exact ⟨_, rfl, _, _, _, [], _, [], hW', trodAll_mk1 (shut_bool Try.underlying4 _), (trodAll_cons_mk (Below.trod laidOut (by kernel_rfl) (of_decide_eq_true (by kernel_rfl)) k0 bel lt0) (trodAll_cons_mk (Below.trod laidOut (by kernel_rfl) (of_decide_eq_true (by kernel_rfl)) k1 bel lt1) (trodAll_cons_mk (shut_int Try.underlying3 w2) trodAll_mk0))), rfl, bel.frame _, fun h => by cases h⟩

theorem over : Rows.fnExactMemSizeRow.holds Try.pinned (OpenSpec.ofChange Rows.fnExactMemSizeSpec) :=
  OpenClaim.holds_of_wide 6 Try.f6 rfl rfl rfl rfl rfl rfl rfl ⟨rfl, rfl, rfl, rfl, rfl⟩ rfl rfl rfl rfl rfl (by kernel_rfl) Try.func6 (by kernel_rfl)
    (of_decide_eq_true (by kernel_rfl)) (by unfold Func.isWrapper; first | (rw [if_pos (by decide +kernel)]; kernel_rfl) | (rw [if_neg (by decide +kernel)]; exact ⟨rfl, rfl⟩))
    (fun os started H enc _ => lifted os started H enc)
theorem proved : Rows.FnExactMemSizeSaid := over
end Go.Proofs.Ytjbmcdekhhbiaaa.fnExactMemSize

namespace Go.Proofs.Ytjbmcdekhhbiaaa
theorem fnExactMemSize_holds : Rows.FnExactMemSizeSaid := fnExactMemSize.proved
#print axioms fnExactMemSize_holds
end Go.Proofs.Ytjbmcdekhhbiaaa
