/-
  At every list of classes and every two shapes ShapeIn of the program answers as ShapeIn of the specification and changes no argument, and the law FnExactShapeIn returns true; no condition.
-/
import Derived.Test.YtmhhopccgokglaaShInImpl
import Derived.Test.YtmhhopccgokglaaDtClass
import Derived.Test.YtmhhopccgokglaaDtShape
import Derived.Test.YtmhhopccgokglaaRdCls
import Derived.Deep.RegionHeld3
namespace Go.Proofs.Ytmhhopccgokglaa.fnExactShapeIn
open Go.ChangeShapes Go.WideShapes Go.ChangeAt Go.RowKit
set_option linter.unusedVariables false

theorem box_elder {w wr : World} {o : Obj} {b j : Nat} {v : Value} (h : Below (w.heap.size + 1) (w.alloc o) wr) (hv : w.cell? ⟨b, j, none⟩ = some v) : wr.cell? ⟨b, j, none⟩ = some v := by
  have hb := World.block_lt_of_cell? w _ hv
  simp only at hb
  rw [h.cell (p := ⟨b, j, none⟩) (by simp only; omega), World.cell?_alloc_past _ _ _ hb]
  exact hv
set_option maxRecDepth 100000 in
set_option maxHeartbeats 8000000 in
theorem walk (a : Option Addr) (len cap : Nat) (x0 : Bool) (a1 : Option Addr) (l1 c1 : Nat) (a2 : Option Addr) (l2 c2 : Nat) (y0 : Bool) (b1 : Option Addr) (m1 d1 : Nat) (b2 : Option Addr) (m2 d2 : Nat) (L : List Cl) (us vs xs ys : List Int) (w : World) {D : Nat → Prop}
    (h : SlAt clR D w a len L) (h1 : SlAt intR D w a1 l1 us) (h2 : SlAt intR D w a2 l2 vs) (h3 : SlAt intR D w b1 m1 xs) (h4 : SlAt intR D w b2 m2 ys) :
    Calls Try.prog 3 #[.slice a len cap, .agg #[.bool x0, .slice a1 l1 c1, .slice a2 l2 c2], .agg #[.bool y0, .slice b1 m1 d1, .slice b2 m2 d2]] w fun e w' => e = .returned (.bool true) ∧ Below w.heap.size w w' := by
  have H : Hid (SlAt clR D w a len L) := h
  have H1 : Hid (SlAt intR D w a1 l1 us) := h1
  have H2 : Hid (SlAt intR D w a2 l2 vs) := h2
  have H3 : Hid (SlAt intR D w b1 m1 xs) := h3
  have H4 : Hid (SlAt intR D w b2 m2 ys) := h4
  have KC : Hid (∀ x : World, Below (w.heap.size + 1 + 1) ((w.alloc (.cells #[.bool x0, .slice a1 l1 c1, .slice a2 l2 c2] 25)).alloc (.cells #[.bool y0, .slice b1 m1 d1, .slice b2 m2 d2] 25)) x → x.cell? ⟨w.heap.size, 0, none⟩ = some (.bool x0) ∧ x.cell? ⟨w.heap.size, 1, none⟩ = some (.slice a1 l1 c1) ∧ x.cell? ⟨w.heap.size, 2, none⟩ = some (.slice a2 l2 c2) ∧ x.cell? ⟨w.heap.size + 1, 0, none⟩ = some (.bool y0) ∧ x.cell? ⟨w.heap.size + 1, 1, none⟩ = some (.slice b1 m1 d1) ∧ x.cell? ⟨w.heap.size + 1, 2, none⟩ = some (.slice b2 m2 d2)) :=
    fun x hb => ⟨later2 hb (two_first rfl), later2 hb (two_first rfl), later2 hb (two_first rfl), later2 hb (two_second rfl), later2 hb (two_second rfl), later2 hb (two_second rfl)⟩
  have B0 : Hid (Below w.heap.size w ((w.alloc (.cells #[.bool x0, .slice a1 l1 c1, .slice a2 l2 c2] 25)).alloc (.cells #[.bool y0, .slice b1 m1 d1, .slice b2 m2 d2] 25))) := ((Below.refl _ _).alloc (Nat.le_refl _) _).alloc (by simp) _
  have e1 : (shInB L (x0, us, vs) (y0, xs, ys) != shInB L (x0, us, vs) (y0, xs, ys)) = false := by simp
  clear h h1 h2 h3 h4
  go_enter Try.func3, Try.ntmps3
  go_wp2_with fail
  refine (szLClass _ _ _ L _ _ (H.out.later B0.out) (by omega) (by omega)).mono ?_
  rintro e w1 ⟨r, rfl, r0, r1, hsz, hb⟩
  have M0 : Hid (0 ≤ r → (Rep.list clR).small L) := hsz
  have KX : Hid (∀ x : World, Below w1.heap.size w1 x → x.cell? ⟨w.heap.size, 0, none⟩ = some (.bool x0) ∧ x.cell? ⟨w.heap.size, 1, none⟩ = some (.slice a1 l1 c1) ∧ x.cell? ⟨w.heap.size, 2, none⟩ = some (.slice a2 l2 c2) ∧ x.cell? ⟨w.heap.size + 1, 0, none⟩ = some (.bool y0) ∧ x.cell? ⟨w.heap.size + 1, 1, none⟩ = some (.slice b1 m1 d1) ∧ x.cell? ⟨w.heap.size + 1, 2, none⟩ = some (.slice b2 m2 d2)) := fun x hx => KC.out x (by have h := hb.trans (hx.mono hb.size); simpa using h)
  have B : Hid (Below w.heap.size w w1) := below2 (by simpa using hb)
  have Z : w.heap.size + 1 + 1 ≤ w1.heap.size := by have h := hb.size; simpa using h
  clear hb hsz
  obtain ⟨p0, p1, p2, p3, p4, p5⟩ := KX.out w1 (Below.refl _ _)
  by_cases hr : r < 0
  · go_wp2_with fail
    go_ret
    exact ⟨rfl, B.out⟩
  go_wp2_with fail
  refine (szRShape _ _ _ _ _ _ _ us vs _ _ (H1.out.later B.out) (H2.out.later B.out) (by omega) (by omega)).mono ?_
  rintro e w2 ⟨q, rfl, q0, q1, qm, hb⟩
  have Mq : Hid (0 ≤ q → Rep.small shR (x0, us, vs)) := qm
  replace KX : Hid (∀ x : World, Below w2.heap.size w2 x → x.cell? ⟨w.heap.size, 0, none⟩ = some (.bool x0) ∧ x.cell? ⟨w.heap.size, 1, none⟩ = some (.slice a1 l1 c1) ∧ x.cell? ⟨w.heap.size, 2, none⟩ = some (.slice a2 l2 c2) ∧ x.cell? ⟨w.heap.size + 1, 0, none⟩ = some (.bool y0) ∧ x.cell? ⟨w.heap.size + 1, 1, none⟩ = some (.slice b1 m1 d1) ∧ x.cell? ⟨w.heap.size + 1, 2, none⟩ = some (.slice b2 m2 d2)) := fun x hx => KX.out x (hb.trans (hx.mono hb.size))
  replace B : Hid (Below w.heap.size w w2) := B.out.trans (hb.mono B.out.size)
  replace Z : w.heap.size + 1 + 1 ≤ w2.heap.size := Nat.le_trans Z hb.size
  clear hb qm
  clear p0 p1 p2 p3 p4 p5
  obtain ⟨p0, p1, p2, p3, p4, p5⟩ := KX.out w2 (Below.refl _ _)
  by_cases hq : q < 0
  · go_wp2_with fail
    go_ret
    exact ⟨rfl, B.out⟩
  go_wp2_with fail
  refine (szRShape _ _ _ _ _ _ _ xs ys _ _ (H3.out.later B.out) (H4.out.later B.out) (by omega) (by omega)).mono ?_
  rintro e w3 ⟨t, rfl, t0, t1, tm, hb⟩
  have Mt : Hid (0 ≤ t → Rep.small shR (y0, xs, ys)) := tm
  replace KX : Hid (∀ x : World, Below w3.heap.size w3 x → x.cell? ⟨w.heap.size, 0, none⟩ = some (.bool x0) ∧ x.cell? ⟨w.heap.size, 1, none⟩ = some (.slice a1 l1 c1) ∧ x.cell? ⟨w.heap.size, 2, none⟩ = some (.slice a2 l2 c2) ∧ x.cell? ⟨w.heap.size + 1, 0, none⟩ = some (.bool y0) ∧ x.cell? ⟨w.heap.size + 1, 1, none⟩ = some (.slice b1 m1 d1) ∧ x.cell? ⟨w.heap.size + 1, 2, none⟩ = some (.slice b2 m2 d2)) := fun x hx => KX.out x (hb.trans (hx.mono hb.size))
  replace B : Hid (Below w.heap.size w w3) := B.out.trans (hb.mono B.out.size)
  replace Z : w.heap.size + 1 + 1 ≤ w3.heap.size := Nat.le_trans Z hb.size
  clear hb tm
  clear p0 p1 p2 p3 p4 p5
  obtain ⟨p0, p1, p2, p3, p4, p5⟩ := KX.out w3 (Below.refl _ _)
  by_cases ht : t < 0
  · go_wp2_with fail
    go_ret
    exact ⟨rfl, B.out⟩
  have SL : Hid ((Rep.list clR).small L) := M0.out (by omega)
  have SU : Hid ((Rep.list intR).small us) := (Mq.out (by omega)).2.1
  have SV : Hid ((Rep.list intR).small vs) := (Mq.out (by omega)).2.2
  have SX : Hid ((Rep.list intR).small xs) := (Mt.out (by omega)).2.1
  have SY : Hid ((Rep.list intR).small ys) := (Mt.out (by omega)).2.2
  go_wp2_with fail
  refine wp_region_held_drew (S := fun x => x.cell? ⟨w.heap.size, 0, none⟩ = some (.bool x0) ∧ x.cell? ⟨w.heap.size, 1, none⟩ = some (.slice a1 l1 c1) ∧ x.cell? ⟨w.heap.size, 2, none⟩ = some (.slice a2 l2 c2) ∧ x.cell? ⟨w.heap.size + 1, 0, none⟩ = some (.bool y0) ∧ x.cell? ⟨w.heap.size + 1, 1, none⟩ = some (.slice b1 m1 d1) ∧ x.cell? ⟨w.heap.size + 1, 2, none⟩ = some (.slice b2 m2 d2)) (by kernel_rfl) ?_ (fun hHeld => ?_)
  · exact KX.out _ (below_drewN (Below.refl _ _) 1)
  refine wpAnyH_take (i := 0) (v := .slice a len cap) rfl (by kernel_rfl) (by kernel_rfl) (by kernel_rfl) (fun _ _ _ h => h) (Or.inl ⟨by kernel_rfl, by (intro x hSx; (try dsimp only at hSx); go_simp)⟩) (by assumption) ?_
  try simp only [Act.put, List.getElem_toArray, List.getElem_cons_zero, List.setIfInBounds_toArray, List.set_cons_zero, List.set_cons_succ]
  refine wpAnyH_take (i := 2) (v := .agg #[.bool x0, .slice a1 l1 c1, .slice a2 l2 c2]) rfl (by kernel_rfl) (by kernel_rfl) (by kernel_rfl) (fun _ _ _ h => h) (Or.inl ⟨by kernel_rfl, by (intro x hSx; (try dsimp only at hSx); go_simp)⟩) (by assumption) ?_
  try simp only [Act.put, List.getElem_toArray, List.getElem_cons_zero, List.getElem_cons_succ, List.setIfInBounds_toArray, List.set_cons_zero, List.set_cons_succ]
  refine wpAnyH_take (i := 4) (v := .agg #[.bool y0, .slice b1 m1 d1, .slice b2 m2 d2]) rfl (by kernel_rfl) (by kernel_rfl) (by kernel_rfl) (fun _ _ _ h => h) (Or.inl ⟨by kernel_rfl, by (intro x hSx; (try dsimp only at hSx); go_simp)⟩) (by assumption) ?_
  try simp only [Act.put, List.getElem_toArray, List.getElem_cons_zero, List.getElem_cons_succ, List.setIfInBounds_toArray, List.set_cons_zero, List.set_cons_succ]
  refine wpAnyH_ready (rs := [1]) (by kernel_rfl) (by simp) ?_
  refine AllReadyH.cons rfl (fun K hK => ?_) AllReadyH.nil
  go_simp
  go_at_call 9
  refine (toLClass _ _ _ L _ (H.out.later (below_drewN B.out 1)) SL.out).mono ?_
  rintro e w4 ⟨ta, tc, rfl, hS, hb4⟩
  have hb : Below w3.heap.size w3 w4 := (below_drewN (Below.refl _ _) 1).trans (hb4.mono (by simp))
  have T : Hid (SlAt clR _ w4 ta len L) := hS
  replace KX : Hid (∀ x : World, Below w4.heap.size w4 x → x.cell? ⟨w.heap.size, 0, none⟩ = some (.bool x0) ∧ x.cell? ⟨w.heap.size, 1, none⟩ = some (.slice a1 l1 c1) ∧ x.cell? ⟨w.heap.size, 2, none⟩ = some (.slice a2 l2 c2) ∧ x.cell? ⟨w.heap.size + 1, 0, none⟩ = some (.bool y0) ∧ x.cell? ⟨w.heap.size + 1, 1, none⟩ = some (.slice b1 m1 d1) ∧ x.cell? ⟨w.heap.size + 1, 2, none⟩ = some (.slice b2 m2 d2)) := fun x hx => KX.out x (hb.trans (hx.mono hb.size))
  replace B : Hid (Below w.heap.size w w4) := B.out.trans (hb.mono B.out.size)
  replace Z : w.heap.size + 1 + 1 ≤ w4.heap.size := Nat.le_trans Z hb.size
  clear hS hb hb4
  go_wp2_with fail
  refine hK.out _ _ (KX.out _ (Below.refl _ _)) (fun hHeld2 => ?_)
  clear hK K
  try simp only [Act.put, List.getElem_toArray, List.getElem_cons_zero, List.getElem_cons_succ, List.setIfInBounds_toArray, List.set_cons_zero, List.set_cons_succ]
  refine wpAnyH_ready (rs := [3]) (by kernel_rfl) (by simp) ?_
  refine AllReadyH.cons rfl (fun K hK => ?_) AllReadyH.nil
  go_simp
  go_at_call 10
  refine (toRShape _ _ _ _ _ _ _ us vs _ (H1.out.later B.out) SU.out (H2.out.later B.out) SV.out).mono ?_
  rintro e w5 ⟨na1, nc1, na2, nc2, rfl, hU, hV, hb⟩
  replace KX : Hid (∀ x : World, Below w5.heap.size w5 x → x.cell? ⟨w.heap.size, 0, none⟩ = some (.bool x0) ∧ x.cell? ⟨w.heap.size, 1, none⟩ = some (.slice a1 l1 c1) ∧ x.cell? ⟨w.heap.size, 2, none⟩ = some (.slice a2 l2 c2) ∧ x.cell? ⟨w.heap.size + 1, 0, none⟩ = some (.bool y0) ∧ x.cell? ⟨w.heap.size + 1, 1, none⟩ = some (.slice b1 m1 d1) ∧ x.cell? ⟨w.heap.size + 1, 2, none⟩ = some (.slice b2 m2 d2)) := fun x hx => KX.out x (hb.trans (hx.mono hb.size))
  replace B : Hid (Below w.heap.size w w5) := B.out.trans (hb.mono B.out.size)
  replace Z : w.heap.size + 1 + 1 ≤ w5.heap.size := Nat.le_trans Z hb.size
  replace T : Hid (SlAt clR _ w5 ta len L) := T.out.later hb
  have U : Hid (SlAt intR _ w5 na1 l1 us) := hU
  have V : Hid (SlAt intR _ w5 na2 l2 vs) := hV
  clear hU hV hb
  go_wp2_with fail
  refine hK.out _ _ (KX.out _ (Below.refl _ _)) (fun hHeld3 => ?_)
  clear hK K
  try simp only [Act.put, List.getElem_toArray, List.getElem_cons_zero, List.getElem_cons_succ, List.setIfInBounds_toArray, List.set_cons_zero, List.set_cons_succ]
  refine wpAnyH_ready (rs := [5]) (by kernel_rfl) (by simp) ?_
  refine AllReadyH.cons rfl (fun K hK => ?_) AllReadyH.nil
  go_simp
  go_at_call 10
  refine (toRShape _ _ _ _ _ _ _ xs ys _ (H3.out.later B.out) SX.out (H4.out.later B.out) SY.out).mono ?_
  rintro e w6 ⟨oa1, oc1, oa2, oc2, rfl, hU, hV, hb⟩
  replace KX : Hid (∀ x : World, Below w6.heap.size w6 x → x.cell? ⟨w.heap.size, 0, none⟩ = some (.bool x0) ∧ x.cell? ⟨w.heap.size, 1, none⟩ = some (.slice a1 l1 c1) ∧ x.cell? ⟨w.heap.size, 2, none⟩ = some (.slice a2 l2 c2) ∧ x.cell? ⟨w.heap.size + 1, 0, none⟩ = some (.bool y0) ∧ x.cell? ⟨w.heap.size + 1, 1, none⟩ = some (.slice b1 m1 d1) ∧ x.cell? ⟨w.heap.size + 1, 2, none⟩ = some (.slice b2 m2 d2)) := fun x hx => KX.out x (hb.trans (hx.mono hb.size))
  replace B : Hid (Below w.heap.size w w6) := B.out.trans (hb.mono B.out.size)
  replace Z : w.heap.size + 1 + 1 ≤ w6.heap.size := Nat.le_trans Z hb.size
  replace T : Hid (SlAt clR _ w6 ta len L) := T.out.later hb
  replace U : Hid (SlAt intR _ w6 na1 l1 us) := U.out.later hb
  replace V : Hid (SlAt intR _ w6 na2 l2 vs) := V.out.later hb
  have X : Hid (SlAt intR _ w6 oa1 m1 xs) := hU
  have Y : Hid (SlAt intR _ w6 oa2 m2 ys) := hV
  clear hU hV hb
  go_wp2_with fail
  refine hK.out _ _ (KX.out _ (Below.refl _ _)) (fun hHeld4 => ?_)
  clear hK K
  try simp only [Act.put, List.getElem_toArray, List.getElem_cons_zero, List.getElem_cons_succ, List.setIfInBounds_toArray, List.set_cons_zero, List.set_cons_succ]
  refine wpAnyH_ready (rs := [6]) (by kernel_rfl) (by simp) ?_
  refine AllReadyH.cons rfl (fun K hK => ?_) AllReadyH.nil
  go_simp
  go_at_call 8
  refine (shapeInSpec _ _ _ _ _ _ _ _ _ _ _ _ _ _ _ _ _ us vs xs ys L _ T.out.cls U.out.ints V.out.ints X.out.ints Y.out.ints).mono ?_
  rintro e w7 ⟨rfl, hb⟩
  replace KX : Hid (∀ x : World, Below w7.heap.size w7 x → x.cell? ⟨w.heap.size, 0, none⟩ = some (.bool x0) ∧ x.cell? ⟨w.heap.size, 1, none⟩ = some (.slice a1 l1 c1) ∧ x.cell? ⟨w.heap.size, 2, none⟩ = some (.slice a2 l2 c2) ∧ x.cell? ⟨w.heap.size + 1, 0, none⟩ = some (.bool y0) ∧ x.cell? ⟨w.heap.size + 1, 1, none⟩ = some (.slice b1 m1 d1) ∧ x.cell? ⟨w.heap.size + 1, 2, none⟩ = some (.slice b2 m2 d2)) := fun x hx => KX.out x (hb.trans (hx.mono hb.size))
  replace B : Hid (Below w.heap.size w w7) := B.out.trans (hb.mono B.out.size)
  replace Z : w.heap.size + 1 + 1 ≤ w7.heap.size := Nat.le_trans Z hb.size
  clear hb T U V X Y
  go_wp2_with fail
  refine hK.out _ _ (KX.out _ (Below.refl _ _)) (fun hHeld5 => ?_)
  clear hK K
  try simp only [Act.put, List.getElem_toArray, List.getElem_cons_zero, List.getElem_cons_succ, List.setIfInBounds_toArray, List.set_cons_zero, List.set_cons_succ]
  refine wpAnyH_take (i := 7) (v := .bool (shInB L (x0, us, vs) (y0, xs, ys))) rfl (by kernel_rfl) (by kernel_rfl) (by kernel_rfl) (fun _ _ _ h => h) (Or.inl ⟨by kernel_rfl, by (intro x hSx; (try dsimp only at hSx); go_simp)⟩) (by assumption) ?_
  try simp only [Act.put, List.getElem_toArray, List.getElem_cons_zero, List.getElem_cons_succ, List.setIfInBounds_toArray, List.set_cons_zero, List.set_cons_succ]
  refine wpAnyH_done (by kernel_rfl) ?_ _
  clear hHeld hHeld2 hHeld3 hHeld4 hHeld5
  clear p0 p1 p2 p3 p4 p5
  obtain ⟨p0, p1, p2, p3, p4, p5⟩ := KX.out w7 (Below.refl _ _)
  go_wp2_with fail
  refine (toLClass _ _ _ L _ (H.out.later B.out) SL.out).mono ?_
  rintro e w8 ⟨ga, gc, rfl, hS, hb⟩
  replace KX : Hid (∀ x : World, Below w8.heap.size w8 x → x.cell? ⟨w.heap.size, 0, none⟩ = some (.bool x0) ∧ x.cell? ⟨w.heap.size, 1, none⟩ = some (.slice a1 l1 c1) ∧ x.cell? ⟨w.heap.size, 2, none⟩ = some (.slice a2 l2 c2) ∧ x.cell? ⟨w.heap.size + 1, 0, none⟩ = some (.bool y0) ∧ x.cell? ⟨w.heap.size + 1, 1, none⟩ = some (.slice b1 m1 d1) ∧ x.cell? ⟨w.heap.size + 1, 2, none⟩ = some (.slice b2 m2 d2)) := fun x hx => KX.out x (hb.trans (hx.mono hb.size))
  replace B : Hid (Below w.heap.size w w8) := B.out.trans (hb.mono B.out.size)
  replace Z : w.heap.size + 1 + 1 ≤ w8.heap.size := Nat.le_trans Z hb.size
  have G : Hid (SlAt clR _ w8 ga len L) := hS
  clear hS hb
  clear p0 p1 p2 p3 p4 p5
  obtain ⟨p0, p1, p2, p3, p4, p5⟩ := KX.out w8 (Below.refl _ _)
  go_wp2_with fail
  refine (toRShape _ _ _ _ _ _ _ us vs _ (H1.out.later B.out) SU.out (H2.out.later B.out) SV.out).mono ?_
  rintro e w9 ⟨ka1, kc1, ka2, kc2, rfl, hU, hV, hb⟩
  replace KX : Hid (∀ x : World, Below w9.heap.size w9 x → x.cell? ⟨w.heap.size, 0, none⟩ = some (.bool x0) ∧ x.cell? ⟨w.heap.size, 1, none⟩ = some (.slice a1 l1 c1) ∧ x.cell? ⟨w.heap.size, 2, none⟩ = some (.slice a2 l2 c2) ∧ x.cell? ⟨w.heap.size + 1, 0, none⟩ = some (.bool y0) ∧ x.cell? ⟨w.heap.size + 1, 1, none⟩ = some (.slice b1 m1 d1) ∧ x.cell? ⟨w.heap.size + 1, 2, none⟩ = some (.slice b2 m2 d2)) := fun x hx => KX.out x (hb.trans (hx.mono hb.size))
  replace B : Hid (Below w.heap.size w w9) := B.out.trans (hb.mono B.out.size)
  replace Z : w.heap.size + 1 + 1 ≤ w9.heap.size := Nat.le_trans Z hb.size
  replace G : Hid (SlAt clR _ w9 ga len L) := G.out.later hb
  have U : Hid (SlAt intR _ w9 ka1 l1 us) := hU
  have V : Hid (SlAt intR _ w9 ka2 l2 vs) := hV
  clear hU hV hb
  clear p0 p1 p2 p3 p4 p5
  obtain ⟨p0, p1, p2, p3, p4, p5⟩ := KX.out w9 (Below.refl _ _)
  have KQ : Hid (∀ x : World, Below (w9.heap.size + 1) (w9.alloc (.cells #[.bool x0, .slice ka1 l1 (l1 + kc1), .slice ka2 l2 (l2 + kc2)] 31)) x → x.cell? ⟨w.heap.size, 0, none⟩ = some (.bool x0) ∧ x.cell? ⟨w.heap.size, 1, none⟩ = some (.slice a1 l1 c1) ∧ x.cell? ⟨w.heap.size, 2, none⟩ = some (.slice a2 l2 c2) ∧ x.cell? ⟨w.heap.size + 1, 0, none⟩ = some (.bool y0) ∧ x.cell? ⟨w.heap.size + 1, 1, none⟩ = some (.slice b1 m1 d1) ∧ x.cell? ⟨w.heap.size + 1, 2, none⟩ = some (.slice b2 m2 d2) ∧ x.cell? ⟨w9.heap.size, 0, none⟩ = some (.bool x0) ∧ x.cell? ⟨w9.heap.size, 1, none⟩ = some (.slice ka1 l1 (l1 + kc1)) ∧ x.cell? ⟨w9.heap.size, 2, none⟩ = some (.slice ka2 l2 (l2 + kc2))) := fun x hb => ⟨box_elder hb p0, box_elder hb p1, box_elder hb p2, box_elder hb p3, box_elder hb p4, box_elder hb p5, box_cell hb 0 _ rfl, box_cell hb 1 _ rfl, box_cell hb 2 _ rfl⟩
  have A9 : Hid (Below w9.heap.size w9 (w9.alloc (.cells #[.bool x0, .slice ka1 l1 (l1 + kc1), .slice ka2 l2 (l2 + kc2)] 31))) := (Below.refl _ _).alloc (Nat.le_refl _) _
  have z0 : w.heap.size < w9.heap.size := by omega
  have z1 : w.heap.size + 1 < w9.heap.size := by omega
  go_wp2_with fail
  refine (toRShape _ _ _ _ _ _ _ xs ys _ (H3.out.later (B.out.trans (A9.out.mono B.out.size))) SX.out (H4.out.later (B.out.trans (A9.out.mono B.out.size))) SY.out).mono ?_
  rintro e w10 ⟨ja1, jc1, ja2, jc2, rfl, hU, hV, hb10⟩
  have hq : Below (w9.heap.size + 1) (w9.alloc (.cells #[.bool x0, .slice ka1 l1 (l1 + kc1), .slice ka2 l2 (l2 + kc2)] 31)) w10 := by simpa using hb10
  have hb : Below w9.heap.size w9 w10 := box_below hq
  replace KX : Hid (∀ x : World, Below w10.heap.size w10 x → x.cell? ⟨w.heap.size, 0, none⟩ = some (.bool x0) ∧ x.cell? ⟨w.heap.size, 1, none⟩ = some (.slice a1 l1 c1) ∧ x.cell? ⟨w.heap.size, 2, none⟩ = some (.slice a2 l2 c2) ∧ x.cell? ⟨w.heap.size + 1, 0, none⟩ = some (.bool y0) ∧ x.cell? ⟨w.heap.size + 1, 1, none⟩ = some (.slice b1 m1 d1) ∧ x.cell? ⟨w.heap.size + 1, 2, none⟩ = some (.slice b2 m2 d2) ∧ x.cell? ⟨w9.heap.size, 0, none⟩ = some (.bool x0) ∧ x.cell? ⟨w9.heap.size, 1, none⟩ = some (.slice ka1 l1 (l1 + kc1)) ∧ x.cell? ⟨w9.heap.size, 2, none⟩ = some (.slice ka2 l2 (l2 + kc2))) := fun x hx => KQ.out x (hq.trans (hx.mono (by have := hq.size; simpa using this)))
  replace B : Hid (Below w.heap.size w w10) := B.out.trans (hb.mono B.out.size)
  replace Z : w.heap.size + 1 + 1 ≤ w9.heap.size ∧ w9.heap.size + 1 ≤ w10.heap.size := ⟨Z, by have := hq.size; simpa using this⟩
  replace G : Hid (SlAt clR _ w10 ga len L) := G.out.later hb
  replace U : Hid (SlAt intR _ w10 ka1 l1 us) := U.out.later hb
  replace V : Hid (SlAt intR _ w10 ka2 l2 vs) := V.out.later hb
  have X : Hid (SlAt intR _ w10 ja1 m1 xs) := hU
  have Y : Hid (SlAt intR _ w10 ja2 m2 ys) := hV
  clear hU hV hb hb10 hq KQ A9
  clear p0 p1 p2 p3 p4 p5
  obtain ⟨p0, p1, p2, p3, p4, p5, p6, p7, p8⟩ := KX.out w10 (Below.refl _ _)
  have KQ : Hid (∀ x : World, Below (w10.heap.size + 1) (w10.alloc (.cells #[.bool y0, .slice ja1 m1 (m1 + jc1), .slice ja2 m2 (m2 + jc2)] 31)) x → x.cell? ⟨w.heap.size, 0, none⟩ = some (.bool x0) ∧ x.cell? ⟨w.heap.size, 1, none⟩ = some (.slice a1 l1 c1) ∧ x.cell? ⟨w.heap.size, 2, none⟩ = some (.slice a2 l2 c2) ∧ x.cell? ⟨w.heap.size + 1, 0, none⟩ = some (.bool y0) ∧ x.cell? ⟨w.heap.size + 1, 1, none⟩ = some (.slice b1 m1 d1) ∧ x.cell? ⟨w.heap.size + 1, 2, none⟩ = some (.slice b2 m2 d2) ∧ x.cell? ⟨w9.heap.size, 0, none⟩ = some (.bool x0) ∧ x.cell? ⟨w9.heap.size, 1, none⟩ = some (.slice ka1 l1 (l1 + kc1)) ∧ x.cell? ⟨w9.heap.size, 2, none⟩ = some (.slice ka2 l2 (l2 + kc2)) ∧ x.cell? ⟨w10.heap.size, 0, none⟩ = some (.bool y0) ∧ x.cell? ⟨w10.heap.size, 1, none⟩ = some (.slice ja1 m1 (m1 + jc1)) ∧ x.cell? ⟨w10.heap.size, 2, none⟩ = some (.slice ja2 m2 (m2 + jc2))) := fun x hb => ⟨box_elder hb p0, box_elder hb p1, box_elder hb p2, box_elder hb p3, box_elder hb p4, box_elder hb p5, box_elder hb p6, box_elder hb p7, box_elder hb p8, box_cell hb 0 _ rfl, box_cell hb 1 _ rfl, box_cell hb 2 _ rfl⟩
  have A9 : Hid (Below w10.heap.size w10 (w10.alloc (.cells #[.bool y0, .slice ja1 m1 (m1 + jc1), .slice ja2 m2 (m2 + jc2)] 31))) := (Below.refl _ _).alloc (Nat.le_refl _) _
  obtain ⟨Z1, Z2⟩ := Z
  have z2 : w.heap.size < w10.heap.size := by omega
  have z3 : w.heap.size + 1 < w10.heap.size := by omega
  have z4 : w9.heap.size < w10.heap.size := by omega
  go_wp2_with fail
  refine (shapeInImpl _ _ _ _ _ _ _ _ _ _ _ _ _ _ _ _ _ us vs xs ys L _ (G.out.later A9.out).cls (U.out.later A9.out).ints (V.out.later A9.out).ints (X.out.later A9.out).ints (Y.out.later A9.out).ints).mono ?_
  rintro e w11 ⟨rfl, hb11⟩
  have hq : Below (w10.heap.size + 1) (w10.alloc (.cells #[.bool y0, .slice ja1 m1 (m1 + jc1), .slice ja2 m2 (m2 + jc2)] 31)) w11 := by simpa using hb11
  have hb : Below w10.heap.size w10 w11 := box_below hq
  replace KX : Hid (∀ x : World, Below w11.heap.size w11 x → x.cell? ⟨w.heap.size, 0, none⟩ = some (.bool x0) ∧ x.cell? ⟨w.heap.size, 1, none⟩ = some (.slice a1 l1 c1) ∧ x.cell? ⟨w.heap.size, 2, none⟩ = some (.slice a2 l2 c2) ∧ x.cell? ⟨w.heap.size + 1, 0, none⟩ = some (.bool y0) ∧ x.cell? ⟨w.heap.size + 1, 1, none⟩ = some (.slice b1 m1 d1) ∧ x.cell? ⟨w.heap.size + 1, 2, none⟩ = some (.slice b2 m2 d2) ∧ x.cell? ⟨w9.heap.size, 0, none⟩ = some (.bool x0) ∧ x.cell? ⟨w9.heap.size, 1, none⟩ = some (.slice ka1 l1 (l1 + kc1)) ∧ x.cell? ⟨w9.heap.size, 2, none⟩ = some (.slice ka2 l2 (l2 + kc2)) ∧ x.cell? ⟨w10.heap.size, 0, none⟩ = some (.bool y0) ∧ x.cell? ⟨w10.heap.size, 1, none⟩ = some (.slice ja1 m1 (m1 + jc1)) ∧ x.cell? ⟨w10.heap.size, 2, none⟩ = some (.slice ja2 m2 (m2 + jc2))) := fun x hx => KQ.out x (hq.trans (hx.mono (by have := hq.size; simpa using this)))
  replace B : Hid (Below w.heap.size w w11) := B.out.trans (hb.mono B.out.size)
  replace G : Hid (SlAt clR _ w11 ga len L) := G.out.later hb
  replace U : Hid (SlAt intR _ w11 ka1 l1 us) := U.out.later hb
  replace V : Hid (SlAt intR _ w11 ka2 l2 vs) := V.out.later hb
  replace X : Hid (SlAt intR _ w11 ja1 m1 xs) := X.out.later hb
  replace Y : Hid (SlAt intR _ w11 ja2 m2 ys) := Y.out.later hb
  clear hb hb11 hq KQ A9 p0 p1 p2 p3 p4 p5 p6 p7 p8
  obtain ⟨p0, p1, p2, p3, p4, p5, p6, p7, p8, p9, p10, p11⟩ := KX.out w11 (Below.refl _ _)
  go_wp2_with fail
  refine (toLClass _ _ _ L _ (H.out.later B.out) SL.out).mono ?_
  rintro e w12 ⟨ia, ic, rfl, hS, hb⟩
  replace KX : Hid (∀ x : World, Below w12.heap.size w12 x → x.cell? ⟨w.heap.size, 0, none⟩ = some (.bool x0) ∧ x.cell? ⟨w.heap.size, 1, none⟩ = some (.slice a1 l1 c1) ∧ x.cell? ⟨w.heap.size, 2, none⟩ = some (.slice a2 l2 c2) ∧ x.cell? ⟨w.heap.size + 1, 0, none⟩ = some (.bool y0) ∧ x.cell? ⟨w.heap.size + 1, 1, none⟩ = some (.slice b1 m1 d1) ∧ x.cell? ⟨w.heap.size + 1, 2, none⟩ = some (.slice b2 m2 d2) ∧ x.cell? ⟨w9.heap.size, 0, none⟩ = some (.bool x0) ∧ x.cell? ⟨w9.heap.size, 1, none⟩ = some (.slice ka1 l1 (l1 + kc1)) ∧ x.cell? ⟨w9.heap.size, 2, none⟩ = some (.slice ka2 l2 (l2 + kc2)) ∧ x.cell? ⟨w10.heap.size, 0, none⟩ = some (.bool y0) ∧ x.cell? ⟨w10.heap.size, 1, none⟩ = some (.slice ja1 m1 (m1 + jc1)) ∧ x.cell? ⟨w10.heap.size, 2, none⟩ = some (.slice ja2 m2 (m2 + jc2))) := fun x hx => KX.out x (hb.trans (hx.mono hb.size))
  replace B : Hid (Below w.heap.size w w12) := B.out.trans (hb.mono B.out.size)
  replace G : Hid (SlAt clR _ w12 ga len L) := G.out.later hb
  replace U : Hid (SlAt intR _ w12 ka1 l1 us) := U.out.later hb
  replace V : Hid (SlAt intR _ w12 ka2 l2 vs) := V.out.later hb
  replace X : Hid (SlAt intR _ w12 ja1 m1 xs) := X.out.later hb
  replace Y : Hid (SlAt intR _ w12 ja2 m2 ys) := Y.out.later hb
  have J : Hid (SlAt clR _ w12 ia len L) := hS
  clear hS hb p0 p1 p2 p3 p4 p5 p6 p7 p8 p9 p10 p11
  go_wp2_with fail
  refine (eqLClass _ _ _ _ _ _ L _ G.out J.out).mono ?_
  rintro e w13 ⟨rfl, hb⟩
  replace KX : Hid (∀ x : World, Below w13.heap.size w13 x → x.cell? ⟨w.heap.size, 0, none⟩ = some (.bool x0) ∧ x.cell? ⟨w.heap.size, 1, none⟩ = some (.slice a1 l1 c1) ∧ x.cell? ⟨w.heap.size, 2, none⟩ = some (.slice a2 l2 c2) ∧ x.cell? ⟨w.heap.size + 1, 0, none⟩ = some (.bool y0) ∧ x.cell? ⟨w.heap.size + 1, 1, none⟩ = some (.slice b1 m1 d1) ∧ x.cell? ⟨w.heap.size + 1, 2, none⟩ = some (.slice b2 m2 d2) ∧ x.cell? ⟨w9.heap.size, 0, none⟩ = some (.bool x0) ∧ x.cell? ⟨w9.heap.size, 1, none⟩ = some (.slice ka1 l1 (l1 + kc1)) ∧ x.cell? ⟨w9.heap.size, 2, none⟩ = some (.slice ka2 l2 (l2 + kc2)) ∧ x.cell? ⟨w10.heap.size, 0, none⟩ = some (.bool y0) ∧ x.cell? ⟨w10.heap.size, 1, none⟩ = some (.slice ja1 m1 (m1 + jc1)) ∧ x.cell? ⟨w10.heap.size, 2, none⟩ = some (.slice ja2 m2 (m2 + jc2))) := fun x hx => KX.out x (hb.trans (hx.mono hb.size))
  replace B : Hid (Below w.heap.size w w13) := B.out.trans (hb.mono B.out.size)
  replace U : Hid (SlAt intR _ w13 ka1 l1 us) := U.out.later hb
  replace V : Hid (SlAt intR _ w13 ka2 l2 vs) := V.out.later hb
  replace X : Hid (SlAt intR _ w13 ja1 m1 xs) := X.out.later hb
  replace Y : Hid (SlAt intR _ w13 ja2 m2 ys) := Y.out.later hb
  clear hb J G
  obtain ⟨p0, p1, p2, p3, p4, p5, p6, p7, p8, p9, p10, p11⟩ := KX.out w13 (Below.refl _ _)
  go_wp2_with fail
  refine wp_region_held_drew (S := fun x => x.cell? ⟨w.heap.size, 0, none⟩ = some (.bool x0) ∧ x.cell? ⟨w.heap.size, 1, none⟩ = some (.slice a1 l1 c1) ∧ x.cell? ⟨w.heap.size, 2, none⟩ = some (.slice a2 l2 c2) ∧ x.cell? ⟨w.heap.size + 1, 0, none⟩ = some (.bool y0) ∧ x.cell? ⟨w.heap.size + 1, 1, none⟩ = some (.slice b1 m1 d1) ∧ x.cell? ⟨w.heap.size + 1, 2, none⟩ = some (.slice b2 m2 d2) ∧ x.cell? ⟨w9.heap.size, 0, none⟩ = some (.bool x0) ∧ x.cell? ⟨w9.heap.size, 1, none⟩ = some (.slice ka1 l1 (l1 + kc1)) ∧ x.cell? ⟨w9.heap.size, 2, none⟩ = some (.slice ka2 l2 (l2 + kc2)) ∧ x.cell? ⟨w10.heap.size, 0, none⟩ = some (.bool y0) ∧ x.cell? ⟨w10.heap.size, 1, none⟩ = some (.slice ja1 m1 (m1 + jc1)) ∧ x.cell? ⟨w10.heap.size, 2, none⟩ = some (.slice ja2 m2 (m2 + jc2))) (by kernel_rfl) ?_ (fun hHeld => ?_)
  · exact KX.out _ (below_drewN (Below.refl _ _) 1)
  refine wpAnyH_take (i := 0) (v := .agg #[.bool x0, .slice ka1 l1 (l1 + kc1), .slice ka2 l2 (l2 + kc2)]) rfl (by kernel_rfl) (by kernel_rfl) (by kernel_rfl) (fun _ _ _ h => h) (Or.inl ⟨by kernel_rfl, by (intro x hSx; (try dsimp only at hSx); go_simp)⟩) (by assumption) ?_
  try simp only [Act.put, List.getElem_toArray, List.getElem_cons_zero, List.setIfInBounds_toArray, List.set_cons_zero, List.set_cons_succ]
  refine wpAnyH_take (i := 1) (v := .agg #[.bool x0, .slice a1 l1 c1, .slice a2 l2 c2]) rfl (by kernel_rfl) (by kernel_rfl) (by kernel_rfl) (fun _ _ _ h => h) (Or.inl ⟨by kernel_rfl, by (intro x hSx; (try dsimp only at hSx); go_simp)⟩) (by assumption) ?_
  try simp only [Act.put, List.getElem_toArray, List.getElem_cons_zero, List.getElem_cons_succ, List.setIfInBounds_toArray, List.set_cons_zero, List.set_cons_succ]
  refine wpAnyH_ready (rs := [2]) (by kernel_rfl) (by simp) ?_
  refine AllReadyH.cons rfl (fun K hK => ?_) AllReadyH.nil
  go_simp
  go_at_call 10
  refine (toRShape _ _ _ _ _ _ _ us vs _ (H1.out.later (below_drewN B.out 1)) SU.out (H2.out.later (below_drewN B.out 1)) SV.out).mono ?_
  rintro e w14 ⟨ea1, ea2, ea3, ea4, rfl, hU, hV, hb4⟩
  have hb : Below w13.heap.size w13 w14 := (below_drewN (Below.refl _ _) 1).trans (hb4.mono (by simp))
  replace KX : Hid (∀ x : World, Below w14.heap.size w14 x → x.cell? ⟨w.heap.size, 0, none⟩ = some (.bool x0) ∧ x.cell? ⟨w.heap.size, 1, none⟩ = some (.slice a1 l1 c1) ∧ x.cell? ⟨w.heap.size, 2, none⟩ = some (.slice a2 l2 c2) ∧ x.cell? ⟨w.heap.size + 1, 0, none⟩ = some (.bool y0) ∧ x.cell? ⟨w.heap.size + 1, 1, none⟩ = some (.slice b1 m1 d1) ∧ x.cell? ⟨w.heap.size + 1, 2, none⟩ = some (.slice b2 m2 d2) ∧ x.cell? ⟨w9.heap.size, 0, none⟩ = some (.bool x0) ∧ x.cell? ⟨w9.heap.size, 1, none⟩ = some (.slice ka1 l1 (l1 + kc1)) ∧ x.cell? ⟨w9.heap.size, 2, none⟩ = some (.slice ka2 l2 (l2 + kc2)) ∧ x.cell? ⟨w10.heap.size, 0, none⟩ = some (.bool y0) ∧ x.cell? ⟨w10.heap.size, 1, none⟩ = some (.slice ja1 m1 (m1 + jc1)) ∧ x.cell? ⟨w10.heap.size, 2, none⟩ = some (.slice ja2 m2 (m2 + jc2))) := fun x hx => KX.out x (hb.trans (hx.mono hb.size))
  replace B : Hid (Below w.heap.size w w14) := B.out.trans (hb.mono B.out.size)
  replace U : Hid (SlAt intR _ w14 ka1 l1 us) := U.out.later hb
  replace V : Hid (SlAt intR _ w14 ka2 l2 vs) := V.out.later hb
  replace X : Hid (SlAt intR _ w14 ja1 m1 xs) := X.out.later hb
  replace Y : Hid (SlAt intR _ w14 ja2 m2 ys) := Y.out.later hb
  have E1 : Hid (SlAt intR _ w14 ea1 _ us) := hU
  have E2 : Hid (SlAt intR _ w14 ea3 _ vs) := hV
  clear hU hV hb hb4
  go_wp2_with fail
  refine hK.out _ _ (KX.out _ (Below.refl _ _)) (fun hHeld2 => ?_)
  clear hK K
  try simp only [Act.put, List.getElem_toArray, List.getElem_cons_zero, List.getElem_cons_succ, List.setIfInBounds_toArray, List.set_cons_zero, List.set_cons_succ]
  refine wpAnyH_ready (rs := [3]) (by kernel_rfl) (by simp) ?_
  refine AllReadyH.cons rfl (fun K hK => ?_) AllReadyH.nil
  go_simp
  go_at_call 13
  refine (eqRShape _ _ _ _ _ _ _ _ _ _ _ _ _ us vs _ U.out E1.out V.out E2.out).mono ?_
  rintro e w15 ⟨rfl, hb⟩
  replace KX : Hid (∀ x : World, Below w15.heap.size w15 x → x.cell? ⟨w.heap.size, 0, none⟩ = some (.bool x0) ∧ x.cell? ⟨w.heap.size, 1, none⟩ = some (.slice a1 l1 c1) ∧ x.cell? ⟨w.heap.size, 2, none⟩ = some (.slice a2 l2 c2) ∧ x.cell? ⟨w.heap.size + 1, 0, none⟩ = some (.bool y0) ∧ x.cell? ⟨w.heap.size + 1, 1, none⟩ = some (.slice b1 m1 d1) ∧ x.cell? ⟨w.heap.size + 1, 2, none⟩ = some (.slice b2 m2 d2) ∧ x.cell? ⟨w9.heap.size, 0, none⟩ = some (.bool x0) ∧ x.cell? ⟨w9.heap.size, 1, none⟩ = some (.slice ka1 l1 (l1 + kc1)) ∧ x.cell? ⟨w9.heap.size, 2, none⟩ = some (.slice ka2 l2 (l2 + kc2)) ∧ x.cell? ⟨w10.heap.size, 0, none⟩ = some (.bool y0) ∧ x.cell? ⟨w10.heap.size, 1, none⟩ = some (.slice ja1 m1 (m1 + jc1)) ∧ x.cell? ⟨w10.heap.size, 2, none⟩ = some (.slice ja2 m2 (m2 + jc2))) := fun x hx => KX.out x (hb.trans (hx.mono hb.size))
  replace B : Hid (Below w.heap.size w w15) := B.out.trans (hb.mono B.out.size)
  replace U : Hid (SlAt intR _ w15 ka1 l1 us) := U.out.later hb
  replace V : Hid (SlAt intR _ w15 ka2 l2 vs) := V.out.later hb
  replace X : Hid (SlAt intR _ w15 ja1 m1 xs) := X.out.later hb
  replace Y : Hid (SlAt intR _ w15 ja2 m2 ys) := Y.out.later hb
  clear hb E1 E2
  go_wp2_with fail
  refine hK.out _ _ (KX.out _ (Below.refl _ _)) (fun hHeld3 => ?_)
  clear hK K
  try simp only [Act.put, List.getElem_toArray, List.getElem_cons_zero, List.getElem_cons_succ, List.setIfInBounds_toArray, List.set_cons_zero, List.set_cons_succ]
  refine wpAnyH_take (i := 4) (v := .bool false) rfl (by kernel_rfl) (by kernel_rfl) (by kernel_rfl) (fun _ _ _ h => h) (Or.inl ⟨by kernel_rfl, by (intro x hSx; (try dsimp only at hSx); go_simp)⟩) (by assumption) ?_
  try simp only [Act.put, List.getElem_toArray, List.getElem_cons_zero, List.getElem_cons_succ, List.setIfInBounds_toArray, List.set_cons_zero, List.set_cons_succ]
  refine wpAnyH_done (by kernel_rfl) ?_ _
  clear hHeld hHeld2 hHeld3
  clear p0 p1 p2 p3 p4 p5 p6 p7 p8 p9 p10 p11
  obtain ⟨p0, p1, p2, p3, p4, p5, p6, p7, p8, p9, p10, p11⟩ := KX.out w15 (Below.refl _ _)
  go_wp2_with fail
  refine wp_region_held_drew (S := fun x => x.cell? ⟨w.heap.size, 0, none⟩ = some (.bool x0) ∧ x.cell? ⟨w.heap.size, 1, none⟩ = some (.slice a1 l1 c1) ∧ x.cell? ⟨w.heap.size, 2, none⟩ = some (.slice a2 l2 c2) ∧ x.cell? ⟨w.heap.size + 1, 0, none⟩ = some (.bool y0) ∧ x.cell? ⟨w.heap.size + 1, 1, none⟩ = some (.slice b1 m1 d1) ∧ x.cell? ⟨w.heap.size + 1, 2, none⟩ = some (.slice b2 m2 d2) ∧ x.cell? ⟨w9.heap.size, 0, none⟩ = some (.bool x0) ∧ x.cell? ⟨w9.heap.size, 1, none⟩ = some (.slice ka1 l1 (l1 + kc1)) ∧ x.cell? ⟨w9.heap.size, 2, none⟩ = some (.slice ka2 l2 (l2 + kc2)) ∧ x.cell? ⟨w10.heap.size, 0, none⟩ = some (.bool y0) ∧ x.cell? ⟨w10.heap.size, 1, none⟩ = some (.slice ja1 m1 (m1 + jc1)) ∧ x.cell? ⟨w10.heap.size, 2, none⟩ = some (.slice ja2 m2 (m2 + jc2))) (by kernel_rfl) ?_ (fun hHeld => ?_)
  · exact KX.out _ (below_drewN (Below.refl _ _) 1)
  refine wpAnyH_take (i := 0) (v := .agg #[.bool y0, .slice ja1 m1 (m1 + jc1), .slice ja2 m2 (m2 + jc2)]) rfl (by kernel_rfl) (by kernel_rfl) (by kernel_rfl) (fun _ _ _ h => h) (Or.inl ⟨by kernel_rfl, by (intro x hSx; (try dsimp only at hSx); go_simp)⟩) (by assumption) ?_
  try simp only [Act.put, List.getElem_toArray, List.getElem_cons_zero, List.setIfInBounds_toArray, List.set_cons_zero, List.set_cons_succ]
  refine wpAnyH_take (i := 1) (v := .agg #[.bool y0, .slice b1 m1 d1, .slice b2 m2 d2]) rfl (by kernel_rfl) (by kernel_rfl) (by kernel_rfl) (fun _ _ _ h => h) (Or.inl ⟨by kernel_rfl, by (intro x hSx; (try dsimp only at hSx); go_simp)⟩) (by assumption) ?_
  try simp only [Act.put, List.getElem_toArray, List.getElem_cons_zero, List.getElem_cons_succ, List.setIfInBounds_toArray, List.set_cons_zero, List.set_cons_succ]
  refine wpAnyH_ready (rs := [2]) (by kernel_rfl) (by simp) ?_
  refine AllReadyH.cons rfl (fun K hK => ?_) AllReadyH.nil
  go_simp
  go_at_call 10
  refine (toRShape _ _ _ _ _ _ _ xs ys _ (H3.out.later (below_drewN B.out 1)) SX.out (H4.out.later (below_drewN B.out 1)) SY.out).mono ?_
  rintro e w16 ⟨fa1, fa2, fa3, fa4, rfl, hU, hV, hb4⟩
  have hb : Below w15.heap.size w15 w16 := (below_drewN (Below.refl _ _) 1).trans (hb4.mono (by simp))
  replace KX : Hid (∀ x : World, Below w16.heap.size w16 x → x.cell? ⟨w.heap.size, 0, none⟩ = some (.bool x0) ∧ x.cell? ⟨w.heap.size, 1, none⟩ = some (.slice a1 l1 c1) ∧ x.cell? ⟨w.heap.size, 2, none⟩ = some (.slice a2 l2 c2) ∧ x.cell? ⟨w.heap.size + 1, 0, none⟩ = some (.bool y0) ∧ x.cell? ⟨w.heap.size + 1, 1, none⟩ = some (.slice b1 m1 d1) ∧ x.cell? ⟨w.heap.size + 1, 2, none⟩ = some (.slice b2 m2 d2) ∧ x.cell? ⟨w9.heap.size, 0, none⟩ = some (.bool x0) ∧ x.cell? ⟨w9.heap.size, 1, none⟩ = some (.slice ka1 l1 (l1 + kc1)) ∧ x.cell? ⟨w9.heap.size, 2, none⟩ = some (.slice ka2 l2 (l2 + kc2)) ∧ x.cell? ⟨w10.heap.size, 0, none⟩ = some (.bool y0) ∧ x.cell? ⟨w10.heap.size, 1, none⟩ = some (.slice ja1 m1 (m1 + jc1)) ∧ x.cell? ⟨w10.heap.size, 2, none⟩ = some (.slice ja2 m2 (m2 + jc2))) := fun x hx => KX.out x (hb.trans (hx.mono hb.size))
  replace B : Hid (Below w.heap.size w w16) := B.out.trans (hb.mono B.out.size)
  replace U : Hid (SlAt intR _ w16 ka1 l1 us) := U.out.later hb
  replace V : Hid (SlAt intR _ w16 ka2 l2 vs) := V.out.later hb
  replace X : Hid (SlAt intR _ w16 ja1 m1 xs) := X.out.later hb
  replace Y : Hid (SlAt intR _ w16 ja2 m2 ys) := Y.out.later hb
  have E1 : Hid (SlAt intR _ w16 fa1 _ xs) := hU
  have E2 : Hid (SlAt intR _ w16 fa3 _ ys) := hV
  clear hU hV hb hb4
  go_wp2_with fail
  refine hK.out _ _ (KX.out _ (Below.refl _ _)) (fun hHeld2 => ?_)
  clear hK K
  try simp only [Act.put, List.getElem_toArray, List.getElem_cons_zero, List.getElem_cons_succ, List.setIfInBounds_toArray, List.set_cons_zero, List.set_cons_succ]
  refine wpAnyH_ready (rs := [3]) (by kernel_rfl) (by simp) ?_
  refine AllReadyH.cons rfl (fun K hK => ?_) AllReadyH.nil
  go_simp
  go_at_call 13
  refine (eqRShape _ _ _ _ _ _ _ _ _ _ _ _ _ xs ys _ X.out E1.out Y.out E2.out).mono ?_
  rintro e w17 ⟨rfl, hb⟩
  replace KX : Hid (∀ x : World, Below w17.heap.size w17 x → x.cell? ⟨w.heap.size, 0, none⟩ = some (.bool x0) ∧ x.cell? ⟨w.heap.size, 1, none⟩ = some (.slice a1 l1 c1) ∧ x.cell? ⟨w.heap.size, 2, none⟩ = some (.slice a2 l2 c2) ∧ x.cell? ⟨w.heap.size + 1, 0, none⟩ = some (.bool y0) ∧ x.cell? ⟨w.heap.size + 1, 1, none⟩ = some (.slice b1 m1 d1) ∧ x.cell? ⟨w.heap.size + 1, 2, none⟩ = some (.slice b2 m2 d2) ∧ x.cell? ⟨w9.heap.size, 0, none⟩ = some (.bool x0) ∧ x.cell? ⟨w9.heap.size, 1, none⟩ = some (.slice ka1 l1 (l1 + kc1)) ∧ x.cell? ⟨w9.heap.size, 2, none⟩ = some (.slice ka2 l2 (l2 + kc2)) ∧ x.cell? ⟨w10.heap.size, 0, none⟩ = some (.bool y0) ∧ x.cell? ⟨w10.heap.size, 1, none⟩ = some (.slice ja1 m1 (m1 + jc1)) ∧ x.cell? ⟨w10.heap.size, 2, none⟩ = some (.slice ja2 m2 (m2 + jc2))) := fun x hx => KX.out x (hb.trans (hx.mono hb.size))
  replace B : Hid (Below w.heap.size w w17) := B.out.trans (hb.mono B.out.size)
  replace U : Hid (SlAt intR _ w17 ka1 l1 us) := U.out.later hb
  replace V : Hid (SlAt intR _ w17 ka2 l2 vs) := V.out.later hb
  replace X : Hid (SlAt intR _ w17 ja1 m1 xs) := X.out.later hb
  replace Y : Hid (SlAt intR _ w17 ja2 m2 ys) := Y.out.later hb
  clear hb E1 E2
  go_wp2_with fail
  refine hK.out _ _ (KX.out _ (Below.refl _ _)) (fun hHeld3 => ?_)
  clear hK K
  try simp only [Act.put, List.getElem_toArray, List.getElem_cons_zero, List.getElem_cons_succ, List.setIfInBounds_toArray, List.set_cons_zero, List.set_cons_succ]
  refine wpAnyH_take (i := 4) (v := .bool false) rfl (by kernel_rfl) (by kernel_rfl) (by kernel_rfl) (fun _ _ _ h => h) (Or.inl ⟨by kernel_rfl, by (intro x hSx; (try dsimp only at hSx); go_simp)⟩) (by assumption) ?_
  try simp only [Act.put, List.getElem_toArray, List.getElem_cons_zero, List.getElem_cons_succ, List.setIfInBounds_toArray, List.set_cons_zero, List.set_cons_succ]
  refine wpAnyH_done (by kernel_rfl) ?_ _
  clear hHeld hHeld2 hHeld3
  go_wp2_with fail
  go_ret
  exact ⟨rfl, B.out⟩

/-- What came in, read. -/
theorem slOf {α : Type} {R : Rep α} {t : TypeId} (hr : Reads t (.list R)) {H : Type} {enc : TypeId × Value → H} {W : World} {a : Option Addr} {len cap : Nat} {d : DataW H} {p : List MemPlace} (h : DataW.Trod enc Try.prog W 0 (fun _ => true) true t (.slice a len cap) d p) : ∃ xs, SlAt R (fun _ => True) W a len xs := by
  obtain ⟨fuel, hf⟩ := h
  obtain ⟨xs, a', l', c', e, hS⟩ := hr _ _ _ _ _ _ hf
  simp [Value.cells] at e
  obtain ⟨rfl, rfl, rfl⟩ := e
  exact ⟨xs, hS⟩
theorem shapeOf {H : Type} {enc : TypeId × Value → H} {W : World} {cs : Array Value} {d : DataW H} {p : List MemPlace} (h : DataW.Trod enc Try.prog W 0 (fun _ => true) true 25 (.agg cs) d p) :
    ∃ x0 a1 l1 c1 a2 l2 c2 us vs, cs = #[.bool x0, .slice a1 l1 c1, .slice a2 l2 c2] ∧ SlAt intR (fun _ => True) W a1 l1 us ∧ SlAt intR (fun _ => True) W a2 l2 vs := by
  obtain ⟨fuel, hf⟩ := h
  obtain ⟨⟨x0, us, vs⟩, _, _, e, rfl, _, _, rfl, ⟨a1, l1, c1, rfl, h1⟩, ⟨a2, l2, c2, rfl, h2⟩⟩ := rd_Shape _ _ _ _ _ _ hf
  refine ⟨x0, a1, l1, c1, a2, l2, c2, us, vs, ?_, h1, h2⟩
  obtain ⟨l⟩ := cs
  simpa [Value.cells] using e

set_option maxRecDepth 100000 in
theorem lifted (os : Os) (started : os.Started) (H : Type) (enc : TypeId × Value → H) :
    ReturnsInHanded {} Try.checked os 3 .any (Rows.fnExactShapeInSpec.pre6 enc Try.prog Try.f3 Rows.fnExactShapeInRow.domain false) (Rows.fnExactShapeInSpec.post enc Try.prog Try.f3 false true false false) := by
  refine returnsInHanded_of_change (C := Try.checked) own started (by kernel_rfl) Try.func3
    (ChangeSpec.witness6 (enc := enc) (C := Try.checked) false ⟨#[], #[.slice none 0 0, .agg #[.bool false, .slice none 0 0, .slice none 0 0], .agg #[.bool false, .slice none 0 0, .slice none 0 0]], []⟩ 8 (by kernel_rfl) (by kernel_rfl) (by kernel_rfl) (by kernel_rfl)) ?_
  intro W base args ds gs before hval0 hW hcnd _
  have hval : ∀ (j : Nat) t v, Try.f3.params[j]? = some t → args[j]? = some v → Value.okWide Try.prog W .any base t v := hval0
  have hW' := hW
  obtain ⟨p, q, hA0, hV, rfl, hfz, hnd⟩ := hW
  have hA : DataW.TrodAll enc Try.prog W 0 (fun _ => true) true Try.f3.params.toList args.toList ds p := hA0
  rw [Try.params3] at hA hval
  obtain ⟨v0, vs0, d0, ds0, p0, q0, hargs, rfl, rfl, h0, r0⟩ := trodAll_cons hA
  obtain ⟨v1, vs1, d1, ds1, p1, q1, rfl, rfl, rfl, h1, r1⟩ := trodAll_cons r0
  obtain ⟨v2, vs2, d2, ds2, p2, q2, rfl, rfl, rfl, h2, r2⟩ := trodAll_cons r1
  obtain ⟨rfl, rfl, rfl⟩ := trodAll_nil r2
  obtain rfl : args = #[v0, v1, v2] := by cases args; simp_all
  obtain ⟨rfl, rfl⟩ := trodVars_none hV
  have k0 := h0
  have lt0 : ∀ x ∈ p0, x.block < W.heap.size := by obtain ⟨m, hm⟩ := k0; exact DataW.trod_lt m _ _ _ hm
  have k1 := h1
  have lt1 : ∀ x ∈ p1, x.block < W.heap.size := by obtain ⟨m, hm⟩ := k1; exact DataW.trod_lt m _ _ _ hm
  have k2 := h2
  have lt2 : ∀ x ∈ p2, x.block < W.heap.size := by obtain ⟨m, hm⟩ := k2; exact DataW.trod_lt m _ _ _ hm
  obtain ⟨a0, len0, cap0, rfl⟩ := okWide_slice Try.underlying22 (hval 0 22 v0 rfl rfl)
  obtain ⟨L, w0⟩ := slOf rdL_Class h0
  obtain ⟨ds', rfl, _⟩ := okWide_struct Try.underlying25 (hval 1 25 v1 rfl rfl)
  obtain ⟨x0, b1, l1, c1, b2, l2, c2, us, vs, rfl, w1, w2⟩ := shapeOf h1
  obtain ⟨cs, rfl, _⟩ := okWide_struct Try.underlying25 (hval 2 25 v2 rfl rfl)
  obtain ⟨y0, g1, m1, d1, g2, m2, d2, xs, ys, rfl, w3, w4⟩ := shapeOf h2
  clear hA0 hval0
  refine (walk a0 len0 cap0 x0 b1 l1 c1 b2 l2 c2 y0 g1 m1 d1 g2 m2 d2 L us vs xs ys W w0 w1 w2 w3 w4).mono fun e W' ⟨he, bel⟩ => ?_
  subst he
  exact ⟨_, rfl, _, _, _, [], _, [], hW', trodAll_mk1 (shut_bool Try.underlying4 _), (trodAll_cons_mk (Below.trod laidOut (by kernel_rfl) (of_decide_eq_true (by kernel_rfl)) k0 bel lt0) (trodAll_cons_mk (Below.trod laidOut (by kernel_rfl) (of_decide_eq_true (by kernel_rfl)) k1 bel lt1) (trodAll_cons_mk (Below.trod laidOut (by kernel_rfl) (of_decide_eq_true (by kernel_rfl)) k2 bel lt2) trodAll_mk0))), rfl, bel.frame _, fun h => by cases h⟩

theorem over : Rows.fnExactShapeInRow.holds Try.pinned (OpenSpec.ofChange Rows.fnExactShapeInSpec) :=
  OpenClaim.holds_of_wide 3 Try.f3 rfl rfl rfl rfl rfl rfl rfl ⟨rfl, rfl, rfl, rfl, rfl⟩ rfl rfl rfl rfl rfl (by kernel_rfl) Try.func3 (by kernel_rfl)
    (of_decide_eq_true (by kernel_rfl)) (by unfold Func.isWrapper; first | (rw [if_pos (by decide +kernel)]; kernel_rfl) | (rw [if_neg (by decide +kernel)]; exact ⟨rfl, rfl⟩))
    (fun os started H enc _ => lifted os started H enc)
theorem proved : Rows.FnExactShapeInSaid := over
end Go.Proofs.Ytmhhopccgokglaa.fnExactShapeIn

namespace Go.Proofs.Ytmhhopccgokglaa
theorem fnExactShapeIn_holds : Rows.FnExactShapeInSaid := fnExactShapeIn.proved
#print axioms fnExactShapeIn_holds
end Go.Proofs.Ytmhhopccgokglaa
