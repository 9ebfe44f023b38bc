/-
  At every unit and every number ShapeStart of the program answers as ShapeStart of the specification, changes no argument, and gives memory of its own, and the law FnExactShapeStart returns true; no condition.
-/
import Derived.Test.YtmhhopccgokglaaGreatStartQ
import Derived.Test.YtmhhopccgokglaaGreatMrkQ
import Derived.Test.YtmhhopccgokglaaGreatDtUnit
import Derived.Test.YtmhhopccgokglaaGreatRdCls
import Derived.Deep.RegionHeld3
namespace Go.Proofs.YtmhhopccgokglaaGreat.fnExactShapeStart
open Go.ChangeShapes Go.WideShapes Go.ChangeAt Go.RowKit
set_option linter.unusedVariables false

theorem box_elder {w wr : World} {o : Obj} {b j : Nat} {v : Value} (h : Below (w.heap.size + 1) (w.alloc o) wr) (hv : w.cell? ⟨b, j, none⟩ = some v) : wr.cell? ⟨b, j, none⟩ = some v := by
  have hb := World.block_lt_of_cell? w _ hv
  simp only at hb
  rw [h.cell (p := ⟨b, j, none⟩) (by simp only; omega), World.cell?_alloc_past _ _ _ hb]
  exact hv
theorem frozen_past (w : World) (b o : Nat) (h : w.heap.size ≤ b) : w.frozen? ⟨b, o, none⟩ = false := by
  simp [World.frozen?, Array.getElem?_eq_none h]
theorem sl_nil {w : World} (a : Option Addr) : SlAt intR (fun _ => True) w a 0 [] := ⟨rfl, by omega, .inl rfl⟩
set_option maxRecDepth 100000 in
set_option maxHeartbeats 8000000 in
theorem walk (a0 : Option Addr) (l0 c0 : Nat) (a1 : Option Addr) (l1 c1 : Nat) (m : Int) (L : List Cl) (M : List Me) (w : World) {D : Nat → Prop} (h : SlAt clR D w a0 l0 L) (hM : SlAt meR D w a1 l1 M) :
    Calls Tryz.prog 3 #[.agg #[.slice a0 l0 c0, .slice a1 l1 c1], .int .i64 m] w fun e w' => e = .returned (.bool true) ∧ Below w.heap.size w w' := by
  have H : Hid (SlAt clR D w a0 l0 L) := h
  have HM : Hid (SlAt meR D w a1 l1 M) := hM
  obtain ⟨⟨s0, us, ss⟩, hs⟩ : ∃ s, s = startV L M m := ⟨_, rfl⟩
  have HV : Hid (startV L M m = (s0, us, ss)) := hs.symm
  clear hs
  have KC : Hid (∀ x : World, Below (w.heap.size + 1) (w.alloc (.cells #[.slice a0 l0 c0, .slice a1 l1 c1] 25)) x → x.cell? ⟨w.heap.size, 0, none⟩ = some (.slice a0 l0 c0) ∧ x.cell? ⟨w.heap.size, 1, none⟩ = some (.slice a1 l1 c1)) := fun x hb => ⟨box_cell hb 0 _ rfl, box_cell hb 1 _ rfl⟩
  have B0 : Hid (Below w.heap.size w (w.alloc (.cells #[.slice a0 l0 c0, .slice a1 l1 c1] 25))) := (Below.refl _ _).alloc (Nat.le_refl _) _
  clear h hM
  go_enter Tryz.func3, Tryz.ntmps3
  go_wp2_with fail
  refine (szRUnit _ _ _ _ _ _ L M _ _ (H.out.later B0.out) (HM.out.later B0.out) (by omega) (by omega)).mono ?_
  rintro e w1 ⟨r, rfl, r0, r1, hsz, hb1⟩
  have M0 : Hid (0 ≤ r → Rep.small unR (L, M)) := hsz
  have hq : Below (w.heap.size + 1) (w.alloc (.cells #[.slice a0 l0 c0, .slice a1 l1 c1] 25)) w1 := by simpa using hb1
  have KX : Hid (∀ x : World, Below w1.heap.size w1 x → x.cell? ⟨w.heap.size, 0, none⟩ = some (.slice a0 l0 c0) ∧ x.cell? ⟨w.heap.size, 1, none⟩ = some (.slice a1 l1 c1)) := fun x hx => KC.out x (hq.trans (hx.mono (by have := hq.size; simpa using this)))
  have B : Hid (Below w.heap.size w w1) := box_below hq
  have zw1 : w.heap.size + 1 ≤ w1.heap.size := by have := hq.size; simpa using this
  clear hsz hb1 hq
  obtain ⟨p0, p1⟩ := KX.out w1 (Below.refl _ _)
  by_cases hr : r < 0
  · go_wp2_with fail
    go_ret
    exact ⟨rfl, B.out⟩
  have SL : Hid ((Rep.list clR).small L) := (M0.out (by omega)).1
  have SM : Hid ((Rep.list meR).small M) := (M0.out (by omega)).2
  go_wp2_with fail
  refine (toRUnit _ _ _ _ _ _ L M _ (H.out.later B.out) SL.out (HM.out.later B.out) SM.out).mono ?_
  rintro e w2 ⟨na0, nc0, na1, nc1, rfl, hU, hW, hb⟩
  replace KX : Hid (∀ x : World, Below w2.heap.size w2 x → x.cell? ⟨w.heap.size, 0, none⟩ = some (.slice a0 l0 c0) ∧ x.cell? ⟨w.heap.size, 1, none⟩ = some (.slice a1 l1 c1)) := fun x hx => KX.out x (hb.trans (hx.mono hb.size))
  replace B : Hid (Below w.heap.size w w2) := B.out.trans (hb.mono B.out.size)
  have U : Hid (SlAt clR _ w2 na0 l0 L) := hU
  have W : Hid (SlAt meR _ w2 na1 l1 M) := hW
  have zw2 : w1.heap.size ≤ w2.heap.size := hb.size
  clear hU hW hb
  clear p0 p1
  obtain ⟨p0, p1⟩ := KX.out w2 (Below.refl _ _)
  go_wp2_with fail
  refine (shapeStartSpec _ _ _ _ _ _ m L M _ U.out.cls W.out).mono ?_
  rintro e w3 ⟨sa, n, sc, sk, he, hI, hb⟩
  rw [HV.out] at he hI
  subst he
  replace KX : Hid (∀ x : World, Below w3.heap.size w3 x → x.cell? ⟨w.heap.size, 0, none⟩ = some (.slice a0 l0 c0) ∧ x.cell? ⟨w.heap.size, 1, none⟩ = some (.slice a1 l1 c1)) := fun x hx => KX.out x (hb.trans (hx.mono hb.size))
  replace B : Hid (Below w.heap.size w w3) := B.out.trans (hb.mono B.out.size)
  have I : Hid (IntsAt (fun b => b < w3.heap.size) w3 sa n us) := IntsAt.mono hI (fun b _ hl => hl)
  have zw3 : w2.heap.size ≤ w3.heap.size := hb.size
  have SN : Hid (us.length = n) := hI.size
  clear hI hb U W
  clear p0 p1
  obtain ⟨p0, p1⟩ := KX.out w3 (Below.refl _ _)
  have A3 : Hid (Below w3.heap.size w3 (w3.alloc (.cells #[.bool s0, .slice sa n sc, .slice sk 0 0] 29))) := (Below.refl _ _).alloc (Nat.le_refl _) _
  have y1 : w.heap.size < w3.heap.size := by omega
  go_wp2_with fail
  refine (toRUnitF _ _ _ _ _ _ L M _ (H.out.later (B.out.trans (A3.out.mono B.out.size))) SL.out (HM.out.later (B.out.trans (A3.out.mono B.out.size))) SM.out).mono ?_
  rintro e w4 ⟨⟨ka0, kc0, ka1, kc1, rfl, hU, hW, hb4⟩, hfz⟩
  have hq : Below (w3.heap.size + 1) (w3.alloc (.cells #[.bool s0, .slice sa n sc, .slice sk 0 0] 29)) w4 := by simpa using hb4
  have hb : Below w3.heap.size w3 w4 := box_below hq
  replace KX : Hid (∀ x : World, Below w4.heap.size w4 x → x.cell? ⟨w.heap.size, 0, none⟩ = some (.slice a0 l0 c0) ∧ x.cell? ⟨w.heap.size, 1, none⟩ = some (.slice a1 l1 c1) ∧ x.cell? ⟨w3.heap.size, 0, none⟩ = some (.bool s0) ∧ x.cell? ⟨w3.heap.size, 1, none⟩ = some (.slice sa n sc) ∧ x.cell? ⟨w3.heap.size, 2, none⟩ = some (.slice sk 0 0)) := fun x hx => by
    have hy := hq.trans (hx.mono (by have := hq.size; simpa using this))
    exact ⟨box_elder hy p0, box_elder hy p1, box_cell hy 0 _ rfl, box_cell hy 1 _ rfl, box_cell hy 2 _ rfl⟩
  have zw4 : w3.heap.size + 1 ≤ w4.heap.size := by have := hq.size; simpa using this
  replace B : Hid (Below w.heap.size w w4) := B.out.trans (hb.mono B.out.size)
  replace I : Hid (IntsAt (fun b => b < w3.heap.size) w4 sa n us) := I.out.later hb
  clear hq
  clear p0 p1
  have T : Hid (SlAt clR (fun b => w3.heap.size + 1 ≤ b ∧ b < w4.heap.size) w4 ka0 l0 L) := SlAt.mono hU (fun b h1 h2 => ⟨by simpa using h1, h2⟩)
  have N : Hid (SlAt meR (fun b => w3.heap.size + 1 ≤ b ∧ b < w4.heap.size) w4 ka1 l1 M) := SlAt.mono hW (fun b h1 h2 => ⟨by simpa using h1, h2⟩)
  have FT : Hid (Thw (fun b => w3.heap.size + 1 ≤ b ∧ b < w4.heap.size) w4) := fun b o hd => (hfz _).trans (frozen_past _ _ _ (by simpa using hd.1))
  clear hU hW hb hb4 hfz A3
  obtain ⟨p0, p1, p2, p3, p4⟩ := KX.out w4 (Below.refl _ _)
  have A4 : Hid (Below w4.heap.size w4 (w4.alloc (.cells #[.slice ka0 l0 (l0 + kc0), .slice ka1 l1 (l1 + kc1)] 34))) := (Below.refl _ _).alloc (Nat.le_refl _) _
  have y2 : w.heap.size < w4.heap.size := by omega
  have y3 : w3.heap.size < w4.heap.size := by omega
  go_wp2_with fail
  refine (shapeStartImpl _ _ _ _ _ _ m L M _ (T.out.later A4.out).cls (N.out.later A4.out) (by omega)).mono ?_
  intro e w5 hP
  rw [HV.out] at hP
  obtain ⟨la, n1, lc, rfl, hn, hn1, hfit, hss, hW, hgb, hb5⟩ := hP
  obtain rfl : n = n1 := by have h1 := SN.out; have h2 := hn; simp only at h2; omega
  obtain rfl : ss = [] := hss
  have hq : Below (w4.heap.size + 1) (w4.alloc (.cells #[.slice ka0 l0 (l0 + kc0), .slice ka1 l1 (l1 + kc1)] 34)) w5 := by simpa using hb5
  have hb : Below w4.heap.size w4 w5 := box_below hq
  replace KX : Hid (∀ x : World, Below w5.heap.size w5 x → x.cell? ⟨w.heap.size, 0, none⟩ = some (.slice a0 l0 c0) ∧ x.cell? ⟨w.heap.size, 1, none⟩ = some (.slice a1 l1 c1) ∧ x.cell? ⟨w3.heap.size, 0, none⟩ = some (.bool s0) ∧ x.cell? ⟨w3.heap.size, 1, none⟩ = some (.slice sa n sc) ∧ x.cell? ⟨w3.heap.size, 2, none⟩ = some (.slice sk 0 0) ∧ x.cell? ⟨w4.heap.size, 0, none⟩ = some (.slice ka0 l0 (l0 + kc0)) ∧ x.cell? ⟨w4.heap.size, 1, none⟩ = some (.slice ka1 l1 (l1 + kc1))) := fun x hx => by
    have hy := hq.trans (hx.mono (by have := hq.size; simpa using this))
    exact ⟨box_elder hy p0, box_elder hy p1, box_elder hy p2, box_elder hy p3, box_elder hy p4, box_cell hy 0 _ rfl, box_cell hy 1 _ rfl⟩
  have zw5 : w4.heap.size + 1 ≤ w5.heap.size := by have := hq.size; simpa using this
  replace B : Hid (Below w.heap.size w w5) := B.out.trans (hb.mono B.out.size)
  replace I : Hid (IntsAt (fun b => b < w3.heap.size) w5 sa n us) := I.out.later hb
  replace T : Hid (SlAt clR (fun b => w3.heap.size + 1 ≤ b ∧ b < w4.heap.size) w5 ka0 l0 L) := T.out.later hb
  replace N : Hid (SlAt meR (fun b => w3.heap.size + 1 ≤ b ∧ b < w4.heap.size) w5 ka1 l1 M) := N.out.later hb
  clear hq
  clear p0 p1 p2 p3 p4
  replace FT : Hid (Thw (fun b => w3.heap.size + 1 ≤ b ∧ b < w4.heap.size) w5) := fun b o hd => by rw [hb.frozen (p := ⟨b, o, none⟩) hd.2]; exact FT.out b o hd
  have G : Hid (Wri w5 la n (fun j => us.getD j 0)) := hW
  have GB : Hid (∀ x, la = some x → 0 < n → w4.heap.size + 1 ≤ x.block ∧ x.block < w5.heap.size) := fun x hx hp => ⟨by have := hgb x hx hp; simpa using this, by
    rcases hW.cells with h0 | ⟨b, off, e, hc⟩
    · omega
    · rw [hx] at e; cases e; exact World.block_lt_of_cell? w5 _ (hc 0 hp).1⟩
  have FI : Hid (∀ j, i64B (us.getD j 0)) := hfit
  clear hW hgb hb hb5 A4 hn hfit
  obtain ⟨p0, p1, p2, p3, p4, p5, p6⟩ := KX.out w5 (Below.refl _ _)
  have A5 : Hid (Below w5.heap.size w5 (w5.alloc (.cells #[.bool s0, .slice la n lc, .slice none 0 0] 29))) := (Below.refl _ _).alloc (Nat.le_refl _) _
  have y4 : w.heap.size < w5.heap.size := by omega
  have y5 : w3.heap.size < w5.heap.size := by omega
  have y6 : w4.heap.size < w5.heap.size := by omega
  go_wp2_with fail
  refine (eqRShape _ _ _ _ _ _ _ _ _ _ _ _ _ us [] _ ((G.out.later A5.out).sl SN.out (by omega) FI.out) (IntsAt.mono (E := fun _ => True) (I.out.later A5.out) (fun _ _ _ => trivial)).sl (sl_nil _) (sl_nil _)).mono ?_
  rintro e w6 ⟨rfl, hb6⟩
  have hq : Below (w5.heap.size + 1) (w5.alloc (.cells #[.bool s0, .slice la n lc, .slice none 0 0] 29)) w6 := by simpa using hb6
  have hb : Below w5.heap.size w5 w6 := box_below hq
  replace KX : Hid (∀ x : World, Below w6.heap.size w6 x → x.cell? ⟨w.heap.size, 0, none⟩ = some (.slice a0 l0 c0) ∧ x.cell? ⟨w.heap.size, 1, none⟩ = some (.slice a1 l1 c1) ∧ x.cell? ⟨w3.heap.size, 0, none⟩ = some (.bool s0) ∧ x.cell? ⟨w3.heap.size, 1, none⟩ = some (.slice sa n sc) ∧ x.cell? ⟨w3.heap.size, 2, none⟩ = some (.slice sk 0 0) ∧ x.cell? ⟨w4.heap.size, 0, none⟩ = some (.slice ka0 l0 (l0 + kc0)) ∧ x.cell? ⟨w4.heap.size, 1, none⟩ = some (.slice ka1 l1 (l1 + kc1)) ∧ x.cell? ⟨w5.heap.size, 0, none⟩ = some (.bool s0) ∧ x.cell? ⟨w5.heap.size, 1, none⟩ = some (.slice la n lc) ∧ x.cell? ⟨w5.heap.size, 2, none⟩ = some (.slice none 0 0)) := fun x hx => by
    have hy := hq.trans (hx.mono (by have := hq.size; simpa using this))
    exact ⟨box_elder hy p0, box_elder hy p1, box_elder hy p2, box_elder hy p3, box_elder hy p4, box_elder hy p5, box_elder hy p6, box_cell hy 0 _ rfl, box_cell hy 1 _ rfl, box_cell hy 2 _ rfl⟩
  have zw6 : w5.heap.size + 1 ≤ w6.heap.size := by have := hq.size; simpa using this
  replace B : Hid (Below w.heap.size w w6) := B.out.trans (hb.mono B.out.size)
  replace I : Hid (IntsAt (fun b => b < w3.heap.size) w6 sa n us) := I.out.later hb
  replace T : Hid (SlAt clR (fun b => w3.heap.size + 1 ≤ b ∧ b < w4.heap.size) w6 ka0 l0 L) := T.out.later hb
  replace N : Hid (SlAt meR (fun b => w3.heap.size + 1 ≤ b ∧ b < w4.heap.size) w6 ka1 l1 M) := N.out.later hb
  replace G : Hid (Wri w6 la n (fun j => us.getD j 0)) := G.out.later hb
  clear hq
  clear p0 p1 p2 p3 p4 p5 p6
  replace FT : Hid (Thw (fun b => w3.heap.size + 1 ≤ b ∧ b < w4.heap.size) w6) := fun b o hd => by rw [hb.frozen (p := ⟨b, o, none⟩) (by have := hd.2; simp only; omega)]; exact FT.out b o hd
  clear hb hb6 A5
  obtain ⟨p0, p1, p2, p3, p4, p5, p6, p7, p8, p9⟩ := KX.out w6 (Below.refl _ _)
  go_wp2_with fail
  refine wp_region_held_drew (S := fun x => x.cell? ⟨w.heap.size, 0, none⟩ = some (.slice a0 l0 c0) ∧ x.cell? ⟨w.heap.size, 1, none⟩ = some (.slice a1 l1 c1) ∧ x.cell? ⟨w3.heap.size, 0, none⟩ = some (.bool s0) ∧ x.cell? ⟨w3.heap.size, 1, none⟩ = some (.slice sa n sc) ∧ x.cell? ⟨w3.heap.size, 2, none⟩ = some (.slice sk 0 0) ∧ x.cell? ⟨w4.heap.size, 0, none⟩ = some (.slice ka0 l0 (l0 + kc0)) ∧ x.cell? ⟨w4.heap.size, 1, none⟩ = some (.slice ka1 l1 (l1 + kc1)) ∧ x.cell? ⟨w5.heap.size, 0, none⟩ = some (.bool s0) ∧ x.cell? ⟨w5.heap.size, 1, none⟩ = some (.slice la n lc) ∧ x.cell? ⟨w5.heap.size, 2, none⟩ = some (.slice none 0 0)) (by kernel_rfl) ?_ (fun hHeld => ?_)
  · exact KX.out _ (below_drewN (Below.refl _ _) 1)
  refine wpAnyH_take (i := 0) (v := .agg #[.slice ka0 l0 (l0 + kc0), .slice ka1 l1 (l1 + kc1)]) rfl (by kernel_rfl) (by kernel_rfl) (by kernel_rfl) (fun _ _ _ h => h) (Or.inl ⟨by kernel_rfl, by (intro x hSx; (try dsimp only at hSx); go_simp)⟩) (by assumption) ?_
  try simp only [Act.put, List.getElem_toArray, List.getElem_cons_zero, List.setIfInBounds_toArray, List.set_cons_zero, List.set_cons_succ]
  refine wpAnyH_take (i := 1) (v := .agg #[.slice a0 l0 c0, .slice a1 l1 c1]) rfl (by kernel_rfl) (by kernel_rfl) (by kernel_rfl) (fun _ _ _ h => h) (Or.inl ⟨by kernel_rfl, by (intro x hSx; (try dsimp only at hSx); go_simp)⟩) (by assumption) ?_
  try simp only [Act.put, List.getElem_toArray, List.getElem_cons_zero, List.getElem_cons_succ, List.setIfInBounds_toArray, List.set_cons_zero, List.set_cons_succ]
  refine wpAnyH_ready (rs := [2]) (by kernel_rfl) (by simp) ?_
  refine AllReadyH.cons rfl (fun K hK => ?_) AllReadyH.nil
  go_simp
  go_at_call 6
  refine (toRUnit _ _ _ _ _ _ L M _ (H.out.later (below_drewN B.out 1)) SL.out (HM.out.later (below_drewN B.out 1)) SM.out).mono ?_
  rintro e w7 ⟨ja0, jc0, ja1, jc1, rfl, hU, hW, hb7⟩
  have hb : Below w6.heap.size w6 w7 := (below_drewN (Below.refl _ _) 1).trans (hb7.mono (by simp))
  replace KX : Hid (∀ x : World, Below w7.heap.size w7 x → x.cell? ⟨w.heap.size, 0, none⟩ = some (.slice a0 l0 c0) ∧ x.cell? ⟨w.heap.size, 1, none⟩ = some (.slice a1 l1 c1) ∧ x.cell? ⟨w3.heap.size, 0, none⟩ = some (.bool s0) ∧ x.cell? ⟨w3.heap.size, 1, none⟩ = some (.slice sa n sc) ∧ x.cell? ⟨w3.heap.size, 2, none⟩ = some (.slice sk 0 0) ∧ x.cell? ⟨w4.heap.size, 0, none⟩ = some (.slice ka0 l0 (l0 + kc0)) ∧ x.cell? ⟨w4.heap.size, 1, none⟩ = some (.slice ka1 l1 (l1 + kc1)) ∧ x.cell? ⟨w5.heap.size, 0, none⟩ = some (.bool s0) ∧ x.cell? ⟨w5.heap.size, 1, none⟩ = some (.slice la n lc) ∧ x.cell? ⟨w5.heap.size, 2, none⟩ = some (.slice none 0 0)) := fun x hx => KX.out x (hb.trans (hx.mono hb.size))
  replace B : Hid (Below w.heap.size w w7) := B.out.trans (hb.mono B.out.size)
  replace I : Hid (IntsAt (fun b => b < w3.heap.size) w7 sa n us) := I.out.later hb
  replace T : Hid (SlAt clR (fun b => w3.heap.size + 1 ≤ b ∧ b < w4.heap.size) w7 ka0 l0 L) := T.out.later hb
  replace N : Hid (SlAt meR (fun b => w3.heap.size + 1 ≤ b ∧ b < w4.heap.size) w7 ka1 l1 M) := N.out.later hb
  replace G : Hid (Wri w7 la n (fun j => us.getD j 0)) := G.out.later hb
  have z7 : w6.heap.size ≤ w7.heap.size := hb.size
  replace FT : Hid (Thw (fun b => w3.heap.size + 1 ≤ b ∧ b < w4.heap.size) w7) := fun b o hd => by rw [hb.frozen (p := ⟨b, o, none⟩) (by have := hd.2; simp only; omega)]; exact FT.out b o hd
  have U : Hid (SlAt clR _ w7 ja0 l0 L) := hU
  have W : Hid (SlAt meR _ w7 ja1 l1 M) := hW
  clear hU hW hb hb7
  go_wp2_with fail
  refine hK.out _ _ (KX.out _ (Below.refl _ _)) (fun hHeld2 => ?_)
  clear hK K
  try simp only [Act.put, List.getElem_toArray, List.getElem_cons_zero, List.getElem_cons_succ, List.setIfInBounds_toArray, List.set_cons_zero, List.set_cons_succ]
  refine wpAnyH_ready (rs := [3]) (by kernel_rfl) (by simp) ?_
  refine AllReadyH.cons rfl (fun K hK => ?_) AllReadyH.nil
  go_simp
  go_at_call 9
  refine (eqRUnit _ _ _ _ _ _ _ _ _ _ _ _ L M _ T.out U.out N.out W.out).mono ?_
  rintro e w8 ⟨rfl, hb⟩
  replace KX : Hid (∀ x : World, Below w8.heap.size w8 x → x.cell? ⟨w.heap.size, 0, none⟩ = some (.slice a0 l0 c0) ∧ x.cell? ⟨w.heap.size, 1, none⟩ = some (.slice a1 l1 c1) ∧ x.cell? ⟨w3.heap.size, 0, none⟩ = some (.bool s0) ∧ x.cell? ⟨w3.heap.size, 1, none⟩ = some (.slice sa n sc) ∧ x.cell? ⟨w3.heap.size, 2, none⟩ = some (.slice sk 0 0) ∧ x.cell? ⟨w4.heap.size, 0, none⟩ = some (.slice ka0 l0 (l0 + kc0)) ∧ x.cell? ⟨w4.heap.size, 1, none⟩ = some (.slice ka1 l1 (l1 + kc1)) ∧ x.cell? ⟨w5.heap.size, 0, none⟩ = some (.bool s0) ∧ x.cell? ⟨w5.heap.size, 1, none⟩ = some (.slice la n lc) ∧ x.cell? ⟨w5.heap.size, 2, none⟩ = some (.slice none 0 0)) := fun x hx => KX.out x (hb.trans (hx.mono hb.size))
  replace B : Hid (Below w.heap.size w w8) := B.out.trans (hb.mono B.out.size)
  replace I : Hid (IntsAt (fun b => b < w3.heap.size) w8 sa n us) := I.out.later hb
  replace T : Hid (SlAt clR (fun b => w3.heap.size + 1 ≤ b ∧ b < w4.heap.size) w8 ka0 l0 L) := T.out.later hb
  replace N : Hid (SlAt meR (fun b => w3.heap.size + 1 ≤ b ∧ b < w4.heap.size) w8 ka1 l1 M) := N.out.later hb
  replace G : Hid (Wri w8 la n (fun j => us.getD j 0)) := G.out.later hb
  have z8 : w7.heap.size ≤ w8.heap.size := hb.size
  replace FT : Hid (Thw (fun b => w3.heap.size + 1 ≤ b ∧ b < w4.heap.size) w8) := fun b o hd => by rw [hb.frozen (p := ⟨b, o, none⟩) (by have := hd.2; simp only; omega)]; exact FT.out b o hd
  clear hb U W
  go_wp2_with fail
  refine hK.out _ _ (KX.out _ (Below.refl _ _)) (fun hHeld3 => ?_)
  clear hK K
  try simp only [Act.put, List.getElem_toArray, List.getElem_cons_zero, List.getElem_cons_succ, List.setIfInBounds_toArray, List.set_cons_zero, List.set_cons_succ]
  refine wpAnyH_take (i := 4) (v := .bool false) rfl (by kernel_rfl) (by kernel_rfl) (by kernel_rfl) (fun _ _ _ h => h) (Or.inl ⟨by kernel_rfl, by (intro x hSx; (try dsimp only at hSx); go_simp)⟩) (by assumption) ?_
  try simp only [Act.put, List.getElem_toArray, List.getElem_cons_zero, List.getElem_cons_succ, List.setIfInBounds_toArray, List.set_cons_zero, List.set_cons_succ]
  refine wpAnyH_done (by kernel_rfl) ?_ _
  clear hHeld hHeld2 hHeld3
  clear p0 p1 p2 p3 p4 p5 p6 p7 p8 p9
  obtain ⟨p0, p1, p2, p3, p4, p5, p6, p7, p8, p9⟩ := KX.out w8 (Below.refl _ _)
  go_wp2_with fail
  refine (markRUnit _ _ _ _ _ _ _ (D := fun b => w3.heap.size + 1 ≤ b ∧ b < w4.heap.size) (SlP.of T.out SL.out) (SlP.of N.out SM.out) FT.out).mono ?_
  rintro e w9 ⟨k, rfl, hk, hc⟩
  have hsz9 := hc.size
  have hlt : w.heap.size < w8.heap.size ∧ w3.heap.size < w8.heap.size ∧ w4.heap.size < w8.heap.size ∧ w5.heap.size < w8.heap.size := ⟨by omega, by omega, by omega, by omega⟩
  obtain ⟨hl0, hl1, hl2, hl3⟩ := hlt
  replace KX : Hid (∀ x : World, Below w9.heap.size w9 x → x.cell? ⟨w.heap.size, 0, none⟩ = some (.slice a0 l0 c0) ∧ x.cell? ⟨w.heap.size, 1, none⟩ = some (.slice a1 l1 c1) ∧ x.cell? ⟨w3.heap.size, 0, none⟩ = some (.bool s0) ∧ x.cell? ⟨w3.heap.size, 1, none⟩ = some (.slice sa n sc) ∧ x.cell? ⟨w3.heap.size, 2, none⟩ = some (.slice sk 0 0) ∧ x.cell? ⟨w4.heap.size, 0, none⟩ = some (.slice ka0 l0 (l0 + kc0)) ∧ x.cell? ⟨w4.heap.size, 1, none⟩ = some (.slice ka1 l1 (l1 + kc1)) ∧ x.cell? ⟨w5.heap.size, 0, none⟩ = some (.bool s0) ∧ x.cell? ⟨w5.heap.size, 1, none⟩ = some (.slice la n lc) ∧ x.cell? ⟨w5.heap.size, 2, none⟩ = some (.slice none 0 0)) := fun x hx => ⟨by rw [hx.cell (p := ⟨w.heap.size, 0, none⟩) (Nat.lt_of_lt_of_le hl0 hc.size), hc.cell _ _ hl0 (by intro hd; have h1 := hd.1; have h2 := hd.2; omega)]; exact p0, by rw [hx.cell (p := ⟨w.heap.size, 1, none⟩) (Nat.lt_of_lt_of_le hl0 hc.size), hc.cell _ _ hl0 (by intro hd; have h1 := hd.1; have h2 := hd.2; omega)]; exact p1, by rw [hx.cell (p := ⟨w3.heap.size, 0, none⟩) (Nat.lt_of_lt_of_le hl1 hc.size), hc.cell _ _ hl1 (by intro hd; have h1 := hd.1; have h2 := hd.2; omega)]; exact p2, by rw [hx.cell (p := ⟨w3.heap.size, 1, none⟩) (Nat.lt_of_lt_of_le hl1 hc.size), hc.cell _ _ hl1 (by intro hd; have h1 := hd.1; have h2 := hd.2; omega)]; exact p3, by rw [hx.cell (p := ⟨w3.heap.size, 2, none⟩) (Nat.lt_of_lt_of_le hl1 hc.size), hc.cell _ _ hl1 (by intro hd; have h1 := hd.1; have h2 := hd.2; omega)]; exact p4, by rw [hx.cell (p := ⟨w4.heap.size, 0, none⟩) (Nat.lt_of_lt_of_le hl2 hc.size), hc.cell _ _ hl2 (by intro hd; have h1 := hd.1; have h2 := hd.2; omega)]; exact p5, by rw [hx.cell (p := ⟨w4.heap.size, 1, none⟩) (Nat.lt_of_lt_of_le hl2 hc.size), hc.cell _ _ hl2 (by intro hd; have h1 := hd.1; have h2 := hd.2; omega)]; exact p6, by rw [hx.cell (p := ⟨w5.heap.size, 0, none⟩) (Nat.lt_of_lt_of_le hl3 hc.size), hc.cell _ _ hl3 (by intro hd; have h1 := hd.1; have h2 := hd.2; omega)]; exact p7, by rw [hx.cell (p := ⟨w5.heap.size, 1, none⟩) (Nat.lt_of_lt_of_le hl3 hc.size), hc.cell _ _ hl3 (by intro hd; have h1 := hd.1; have h2 := hd.2; omega)]; exact p8, by rw [hx.cell (p := ⟨w5.heap.size, 2, none⟩) (Nat.lt_of_lt_of_le hl3 hc.size), hc.cell _ _ hl3 (by intro hd; have h1 := hd.1; have h2 := hd.2; omega)]; exact p9⟩
  clear hl0 hl1 hl2 hl3
  replace B : Hid (Below w.heap.size w w9) := B.out.trans (hc.below B.out.size (fun i hi hd => by have h1 := hd.1; omega))
  replace I : Hid (IntsAt (fun b => b < w3.heap.size) w9 sa n us) := I.out.keep (fun b o hd hl => hc.cell b o hl (fun hh => by have h1 := hh.1; omega))
  replace G : Hid (Wri w9 la n (fun j => us.getD j 0)) := G.out.keep hc (fun x hx hp hh => by have h1 := (GB.out x hx hp).1; have h2 := hh.2; omega)
  clear hc T N FT
  clear p0 p1 p2 p3 p4 p5 p6 p7 p8 p9
  obtain ⟨p0, p1, p2, p3, p4, p5, p6, p7, p8, p9⟩ := KX.out w9 (Below.refl _ _)
  go_wp2_with fail
  refine (eqRShape _ _ _ _ _ _ _ _ _ _ _ _ _ us [] _ (G.out.sl SN.out (by omega) FI.out) (IntsAt.mono (E := fun _ => True) I.out (fun _ _ _ => trivial)).sl (sl_nil _) (sl_nil _)).mono ?_
  rintro e w10 ⟨rfl, hb⟩
  replace KX : Hid (∀ x : World, Below w10.heap.size w10 x → x.cell? ⟨w.heap.size, 0, none⟩ = some (.slice a0 l0 c0) ∧ x.cell? ⟨w.heap.size, 1, none⟩ = some (.slice a1 l1 c1) ∧ x.cell? ⟨w3.heap.size, 0, none⟩ = some (.bool s0) ∧ x.cell? ⟨w3.heap.size, 1, none⟩ = some (.slice sa n sc) ∧ x.cell? ⟨w3.heap.size, 2, none⟩ = some (.slice sk 0 0) ∧ x.cell? ⟨w4.heap.size, 0, none⟩ = some (.slice ka0 l0 (l0 + kc0)) ∧ x.cell? ⟨w4.heap.size, 1, none⟩ = some (.slice ka1 l1 (l1 + kc1)) ∧ x.cell? ⟨w5.heap.size, 0, none⟩ = some (.bool s0) ∧ x.cell? ⟨w5.heap.size, 1, none⟩ = some (.slice la n lc) ∧ x.cell? ⟨w5.heap.size, 2, none⟩ = some (.slice none 0 0)) := fun x hx => KX.out x (hb.trans (hx.mono hb.size))
  replace B : Hid (Below w.heap.size w w10) := B.out.trans (hb.mono B.out.size)
  replace I : Hid (IntsAt (fun b => b < w3.heap.size) w10 sa n us) := I.out.later hb
  replace G : Hid (Wri w10 la n (fun j => us.getD j 0)) := G.out.later hb
  have z10 : w9.heap.size ≤ w10.heap.size := hb.size
  clear hb
  clear p0 p1 p2 p3 p4 p5 p6 p7 p8 p9
  obtain ⟨p0, p1, p2, p3, p4, p5, p6, p7, p8, p9⟩ := KX.out w10 (Below.refl _ _)
  go_wp2_with fail
  refine (markRShape _ _ _ _ _ _ _ _ (fun _ => 0) _ G.out ⟨.inl rfl⟩ (fun x y hx hy _ hp => by omega) (by omega) (by omega)).mono ?_
  rintro e w11 ⟨rfl, hG, hG2, hc⟩
  have hsz11 := hc.size
  have ND : Hid (∀ b, (b < w4.heap.size + 1 ∨ w5.heap.size ≤ b) → ¬ ((∃ x, la = some x ∧ x.block = b ∧ 0 < n) ∨ (∃ x : Addr, (none : Option Addr) = some x ∧ x.block = b ∧ 0 < 0))) := fun b hb hd => by
    rcases hd with ⟨x, hx, rfl, hp⟩ | ⟨x, hx, _⟩
    · have := GB.out x hx hp; omega
    · cases hx
  have hlt : w.heap.size < w10.heap.size ∧ w3.heap.size < w10.heap.size ∧ w4.heap.size < w10.heap.size ∧ w5.heap.size < w10.heap.size := ⟨by omega, by omega, by omega, by omega⟩
  obtain ⟨hl0, hl1, hl2, hl3⟩ := hlt
  replace KX : Hid (∀ x : World, Below w11.heap.size w11 x → x.cell? ⟨w.heap.size, 0, none⟩ = some (.slice a0 l0 c0) ∧ x.cell? ⟨w.heap.size, 1, none⟩ = some (.slice a1 l1 c1) ∧ x.cell? ⟨w3.heap.size, 0, none⟩ = some (.bool s0) ∧ x.cell? ⟨w3.heap.size, 1, none⟩ = some (.slice sa n sc) ∧ x.cell? ⟨w3.heap.size, 2, none⟩ = some (.slice sk 0 0) ∧ x.cell? ⟨w4.heap.size, 0, none⟩ = some (.slice ka0 l0 (l0 + kc0)) ∧ x.cell? ⟨w4.heap.size, 1, none⟩ = some (.slice ka1 l1 (l1 + kc1)) ∧ x.cell? ⟨w5.heap.size, 0, none⟩ = some (.bool s0) ∧ x.cell? ⟨w5.heap.size, 1, none⟩ = some (.slice la n lc) ∧ x.cell? ⟨w5.heap.size, 2, none⟩ = some (.slice none 0 0)) := fun x hx => ⟨by rw [hx.cell (p := ⟨w.heap.size, 0, none⟩) (Nat.lt_of_lt_of_le hl0 hc.size), hc.cell _ _ hl0 (ND.out _ (by omega))]; exact p0, by rw [hx.cell (p := ⟨w.heap.size, 1, none⟩) (Nat.lt_of_lt_of_le hl0 hc.size), hc.cell _ _ hl0 (ND.out _ (by omega))]; exact p1, by rw [hx.cell (p := ⟨w3.heap.size, 0, none⟩) (Nat.lt_of_lt_of_le hl1 hc.size), hc.cell _ _ hl1 (ND.out _ (by omega))]; exact p2, by rw [hx.cell (p := ⟨w3.heap.size, 1, none⟩) (Nat.lt_of_lt_of_le hl1 hc.size), hc.cell _ _ hl1 (ND.out _ (by omega))]; exact p3, by rw [hx.cell (p := ⟨w3.heap.size, 2, none⟩) (Nat.lt_of_lt_of_le hl1 hc.size), hc.cell _ _ hl1 (ND.out _ (by omega))]; exact p4, by rw [hx.cell (p := ⟨w4.heap.size, 0, none⟩) (Nat.lt_of_lt_of_le hl2 hc.size), hc.cell _ _ hl2 (ND.out _ (by omega))]; exact p5, by rw [hx.cell (p := ⟨w4.heap.size, 1, none⟩) (Nat.lt_of_lt_of_le hl2 hc.size), hc.cell _ _ hl2 (ND.out _ (by omega))]; exact p6, by rw [hx.cell (p := ⟨w5.heap.size, 0, none⟩) (Nat.lt_of_lt_of_le hl3 hc.size), hc.cell _ _ hl3 (ND.out _ (by omega))]; exact p7, by rw [hx.cell (p := ⟨w5.heap.size, 1, none⟩) (Nat.lt_of_lt_of_le hl3 hc.size), hc.cell _ _ hl3 (ND.out _ (by omega))]; exact p8, by rw [hx.cell (p := ⟨w5.heap.size, 2, none⟩) (Nat.lt_of_lt_of_le hl3 hc.size), hc.cell _ _ hl3 (ND.out _ (by omega))]; exact p9⟩
  clear hl0 hl1 hl2 hl3
  replace B : Hid (Below w.heap.size w w11) := B.out.trans (hc.below B.out.size (fun i hi => ND.out _ (by omega)))
  replace I : Hid (IntsAt (fun b => b < w3.heap.size) w11 sa n us) := I.out.keep (fun b o hd hl => hc.cell b o hl (ND.out _ (by omega)))
  replace G : Hid (Wri w11 la n (fun j => 1 + j)) := hG
  clear hc hG hG2 ND
  clear p0 p1 p2 p3 p4 p5 p6 p7 p8 p9
  obtain ⟨p0, p1, p2, p3, p4, p5, p6, p7, p8, p9⟩ := KX.out w11 (Below.refl _ _)
  have e9 : ((1 + (n : Int) + ((0 : Nat) : Int)) != (1 + (n : Int) + ((0 : Nat) : Int))) = false := by simp
  have e8 : ¬ (1 + (n : Int) + ((0 : Nat) : Int) < 0) := by omega
  have e7 : ((1 + (n : Int)) != (1 + (n : Int))) = false := by simp
  have e6 : ¬ (1 + (n : Int) < 0) := by omega
  go_wp2_with fail
  refine (heldRShape _ _ _ _ _ _ _ _ G.out ⟨.inl rfl⟩ (by omega) (by omega)).mono ?_
  rintro e w12 ⟨rfl, hb⟩
  replace KX : Hid (∀ x : World, Below w12.heap.size w12 x → x.cell? ⟨w.heap.size, 0, none⟩ = some (.slice a0 l0 c0) ∧ x.cell? ⟨w.heap.size, 1, none⟩ = some (.slice a1 l1 c1) ∧ x.cell? ⟨w3.heap.size, 0, none⟩ = some (.bool s0) ∧ x.cell? ⟨w3.heap.size, 1, none⟩ = some (.slice sa n sc) ∧ x.cell? ⟨w3.heap.size, 2, none⟩ = some (.slice sk 0 0) ∧ x.cell? ⟨w4.heap.size, 0, none⟩ = some (.slice ka0 l0 (l0 + kc0)) ∧ x.cell? ⟨w4.heap.size, 1, none⟩ = some (.slice ka1 l1 (l1 + kc1)) ∧ x.cell? ⟨w5.heap.size, 0, none⟩ = some (.bool s0) ∧ x.cell? ⟨w5.heap.size, 1, none⟩ = some (.slice la n lc) ∧ x.cell? ⟨w5.heap.size, 2, none⟩ = some (.slice none 0 0)) := fun x hx => KX.out x (hb.trans (hx.mono hb.size))
  replace B : Hid (Below w.heap.size w w12) := B.out.trans (hb.mono B.out.size)
  replace I : Hid (IntsAt (fun b => b < w3.heap.size) w12 sa n us) := I.out.later hb
  replace G : Hid (Wri w12 la n (fun j => 1 + j)) := G.out.later hb
  have zw12 : w11.heap.size ≤ w12.heap.size := hb.size
  clear hb
  clear p0 p1 p2 p3 p4 p5 p6 p7 p8 p9
  obtain ⟨p0, p1, p2, p3, p4, p5, p6, p7, p8, p9⟩ := KX.out w12 (Below.refl _ _)
  go_wp2_with fail
  refine (toRUnit _ _ _ _ _ _ L M _ (H.out.later B.out) SL.out (HM.out.later B.out) SM.out).mono ?_
  rintro e w13 ⟨ia0, ic0, ia1, ic1, rfl, hU, hW, hb⟩
  replace KX : Hid (∀ x : World, Below w13.heap.size w13 x → x.cell? ⟨w.heap.size, 0, none⟩ = some (.slice a0 l0 c0) ∧ x.cell? ⟨w.heap.size, 1, none⟩ = some (.slice a1 l1 c1) ∧ x.cell? ⟨w3.heap.size, 0, none⟩ = some (.bool s0) ∧ x.cell? ⟨w3.heap.size, 1, none⟩ = some (.slice sa n sc) ∧ x.cell? ⟨w3.heap.size, 2, none⟩ = some (.slice sk 0 0) ∧ x.cell? ⟨w4.heap.size, 0, none⟩ = some (.slice ka0 l0 (l0 + kc0)) ∧ x.cell? ⟨w4.heap.size, 1, none⟩ = some (.slice ka1 l1 (l1 + kc1)) ∧ x.cell? ⟨w5.heap.size, 0, none⟩ = some (.bool s0) ∧ x.cell? ⟨w5.heap.size, 1, none⟩ = some (.slice la n lc) ∧ x.cell? ⟨w5.heap.size, 2, none⟩ = some (.slice none 0 0)) := fun x hx => KX.out x (hb.trans (hx.mono hb.size))
  replace B : Hid (Below w.heap.size w w13) := B.out.trans (hb.mono B.out.size)
  replace I : Hid (IntsAt (fun b => b < w3.heap.size) w13 sa n us) := I.out.later hb
  replace G : Hid (Wri w13 la n (fun j => 1 + j)) := G.out.later hb
  have U : Hid (SlAt clR _ w13 ia0 l0 L) := hU
  have W : Hid (SlAt meR _ w13 ia1 l1 M) := hW
  have zw13 : w12.heap.size ≤ w13.heap.size := hb.size
  clear hU hW hb
  clear p0 p1 p2 p3 p4 p5 p6 p7 p8 p9
  obtain ⟨p0, p1, p2, p3, p4, p5, p6, p7, p8, p9⟩ := KX.out w13 (Below.refl _ _)
  go_wp2_with fail
  refine (shapeStartImpl _ _ _ _ _ _ m L M _ U.out.cls W.out (by omega)).mono ?_
  intro e w14 hP
  rw [HV.out] at hP
  obtain ⟨ha, n2, hc2, rfl, hn, hn1', hfit, _, hW2, _, hb⟩ := hP
  obtain rfl : n = n2 := by have h1 := SN.out; have h2 := hn; simp only at h2; omega
  replace KX : Hid (∀ x : World, Below w14.heap.size w14 x → x.cell? ⟨w.heap.size, 0, none⟩ = some (.slice a0 l0 c0) ∧ x.cell? ⟨w.heap.size, 1, none⟩ = some (.slice a1 l1 c1) ∧ x.cell? ⟨w3.heap.size, 0, none⟩ = some (.bool s0) ∧ x.cell? ⟨w3.heap.size, 1, none⟩ = some (.slice sa n sc) ∧ x.cell? ⟨w3.heap.size, 2, none⟩ = some (.slice sk 0 0) ∧ x.cell? ⟨w4.heap.size, 0, none⟩ = some (.slice ka0 l0 (l0 + kc0)) ∧ x.cell? ⟨w4.heap.size, 1, none⟩ = some (.slice ka1 l1 (l1 + kc1)) ∧ x.cell? ⟨w5.heap.size, 0, none⟩ = some (.bool s0) ∧ x.cell? ⟨w5.heap.size, 1, none⟩ = some (.slice la n lc) ∧ x.cell? ⟨w5.heap.size, 2, none⟩ = some (.slice none 0 0)) := fun x hx => KX.out x (hb.trans (hx.mono hb.size))
  replace B : Hid (Below w.heap.size w w14) := B.out.trans (hb.mono B.out.size)
  replace I : Hid (IntsAt (fun b => b < w3.heap.size) w14 sa n us) := I.out.later hb
  replace G : Hid (Wri w14 la n (fun j => 1 + j)) := G.out.later hb
  have J : Hid (Wri w14 ha n (fun j => us.getD j 0)) := hW2
  have zw14 : w13.heap.size ≤ w14.heap.size := hb.size
  clear hW2 hb U W hn hfit hn1'
  clear p0 p1 p2 p3 p4 p5 p6 p7 p8 p9
  obtain ⟨p0, p1, p2, p3, p4, p5, p6, p7, p8, p9⟩ := KX.out w14 (Below.refl _ _)
  have A14 : Hid (Below w14.heap.size w14 (w14.alloc (.cells #[.bool s0, .slice ha n hc2, .slice none 0 0] 29))) := (Below.refl _ _).alloc (Nat.le_refl _) _
  have x0 : w.heap.size < w14.heap.size := by omega
  have x1 : w3.heap.size < w14.heap.size := by omega
  have x2 : w4.heap.size < w14.heap.size := by omega
  have x3 : w5.heap.size < w14.heap.size := by omega
  go_wp2_with fail
  refine (eqRShape _ _ _ _ _ _ _ _ _ _ _ _ _ us [] _ ((J.out.later A14.out).sl SN.out (by omega) FI.out) (IntsAt.mono (E := fun _ => True) (I.out.later A14.out) (fun _ _ _ => trivial)).sl (sl_nil _) (sl_nil _)).mono ?_
  rintro e w15 ⟨rfl, hb15⟩
  have hq : Below (w14.heap.size + 1) (w14.alloc (.cells #[.bool s0, .slice ha n hc2, .slice none 0 0] 29)) w15 := by simpa using hb15
  have hb : Below w14.heap.size w14 w15 := box_below hq
  replace KX : Hid (∀ x : World, Below w15.heap.size w15 x → x.cell? ⟨w.heap.size, 0, none⟩ = some (.slice a0 l0 c0) ∧ x.cell? ⟨w.heap.size, 1, none⟩ = some (.slice a1 l1 c1) ∧ x.cell? ⟨w3.heap.size, 0, none⟩ = some (.bool s0) ∧ x.cell? ⟨w3.heap.size, 1, none⟩ = some (.slice sa n sc) ∧ x.cell? ⟨w3.heap.size, 2, none⟩ = some (.slice sk 0 0) ∧ x.cell? ⟨w4.heap.size, 0, none⟩ = some (.slice ka0 l0 (l0 + kc0)) ∧ x.cell? ⟨w4.heap.size, 1, none⟩ = some (.slice ka1 l1 (l1 + kc1)) ∧ x.cell? ⟨w5.heap.size, 0, none⟩ = some (.bool s0) ∧ x.cell? ⟨w5.heap.size, 1, none⟩ = some (.slice la n lc) ∧ x.cell? ⟨w5.heap.size, 2, none⟩ = some (.slice none 0 0) ∧ x.cell? ⟨w14.heap.size, 0, none⟩ = some (.bool s0) ∧ x.cell? ⟨w14.heap.size, 1, none⟩ = some (.slice ha n hc2) ∧ x.cell? ⟨w14.heap.size, 2, none⟩ = some (.slice none 0 0)) := fun x hx => by
    have hy := hq.trans (hx.mono (by have := hq.size; simpa using this))
    exact ⟨box_elder hy p0, box_elder hy p1, box_elder hy p2, box_elder hy p3, box_elder hy p4, box_elder hy p5, box_elder hy p6, box_elder hy p7, box_elder hy p8, box_elder hy p9, box_cell hy 0 _ rfl, box_cell hy 1 _ rfl, box_cell hy 2 _ rfl⟩
  have zw15 : w14.heap.size + 1 ≤ w15.heap.size := by have := hq.size; simpa using this
  replace B : Hid (Below w.heap.size w w15) := B.out.trans (hb.mono B.out.size)
  replace I : Hid (IntsAt (fun b => b < w3.heap.size) w15 sa n us) := I.out.later hb
  replace G : Hid (Wri w15 la n (fun j => 1 + j)) := G.out.later hb
  replace J : Hid (Wri w15 ha n (fun j => us.getD j 0)) := J.out.later hb
  clear hq
  clear p0 p1 p2 p3 p4 p5 p6 p7 p8 p9
  clear hb hb15 A14
  obtain ⟨p0, p1, p2, p3, p4, p5, p6, p7, p8, p9, p10, p11, p12⟩ := KX.out w15 (Below.refl _ _)
  go_wp2_with fail
  refine (heldRShape _ _ _ _ _ _ _ _ G.out ⟨.inl rfl⟩ (by omega) (by omega)).mono ?_
  rintro e w16 ⟨rfl, hb⟩
  replace KX : Hid (∀ x : World, Below w16.heap.size w16 x → x.cell? ⟨w.heap.size, 0, none⟩ = some (.slice a0 l0 c0) ∧ x.cell? ⟨w.heap.size, 1, none⟩ = some (.slice a1 l1 c1) ∧ x.cell? ⟨w3.heap.size, 0, none⟩ = some (.bool s0) ∧ x.cell? ⟨w3.heap.size, 1, none⟩ = some (.slice sa n sc) ∧ x.cell? ⟨w3.heap.size, 2, none⟩ = some (.slice sk 0 0) ∧ x.cell? ⟨w4.heap.size, 0, none⟩ = some (.slice ka0 l0 (l0 + kc0)) ∧ x.cell? ⟨w4.heap.size, 1, none⟩ = some (.slice ka1 l1 (l1 + kc1)) ∧ x.cell? ⟨w5.heap.size, 0, none⟩ = some (.bool s0) ∧ x.cell? ⟨w5.heap.size, 1, none⟩ = some (.slice la n lc) ∧ x.cell? ⟨w5.heap.size, 2, none⟩ = some (.slice none 0 0) ∧ x.cell? ⟨w14.heap.size, 0, none⟩ = some (.bool s0) ∧ x.cell? ⟨w14.heap.size, 1, none⟩ = some (.slice ha n hc2) ∧ x.cell? ⟨w14.heap.size, 2, none⟩ = some (.slice none 0 0)) := fun x hx => KX.out x (hb.trans (hx.mono hb.size))
  replace B : Hid (Below w.heap.size w w16) := B.out.trans (hb.mono B.out.size)
  replace I : Hid (IntsAt (fun b => b < w3.heap.size) w16 sa n us) := I.out.later hb
  replace G : Hid (Wri w16 la n (fun j => 1 + j)) := G.out.later hb
  replace J : Hid (Wri w16 ha n (fun j => us.getD j 0)) := J.out.later hb
  have zw16 : w15.heap.size ≤ w16.heap.size := hb.size
  clear hb
  clear p0 p1 p2 p3 p4 p5 p6 p7 p8 p9 p10 p11 p12
  obtain ⟨p0, p1, p2, p3, p4, p5, p6, p7, p8, p9, p10, p11, p12⟩ := KX.out w16 (Below.refl _ _)
  go_wp2_with fail
  go_ret
  exact ⟨rfl, B.out⟩

/-- What came in, read. -/
theorem unitOf {H : Type} {enc : TypeId × Value → H} {W : World} {cs : Array Value} {d : DataW H} {p : List MemPlace} (h : DataW.Trod enc Tryz.prog W 0 (fun _ => true) true 25 (.agg cs) d p) :
    ∃ a0 l0 c0 a1 l1 c1 L M, cs = #[.slice a0 l0 c0, .slice a1 l1 c1] ∧ SlAt clR (fun _ => True) W a0 l0 L ∧ SlAt meR (fun _ => True) W a1 l1 M := by
  obtain ⟨fuel, hf⟩ := h
  obtain ⟨⟨L, M⟩, _, _, e, ⟨a0, l0, c0, rfl, h1⟩, ⟨a1, l1, c1, rfl, h2⟩⟩ := rd_Unit _ _ _ _ _ _ hf
  refine ⟨a0, l0, c0, a1, l1, c1, L, M, ?_, h1, h2⟩
  obtain ⟨l⟩ := cs
  simpa [Value.cells] using e

set_option maxRecDepth 100000 in
theorem lifted (os : Os) (started : os.Started) (H : Type) (enc : TypeId × Value → H) :
    ReturnsInHanded {} Tryz.checked os 3 .any (Rows.fnExactShapeStartSpec.pre6 enc Tryz.prog Tryz.f3 Rows.fnExactShapeStartRow.domain false) (Rows.fnExactShapeStartSpec.post enc Tryz.prog Tryz.f3 false true false false) := by
  refine returnsInHanded_of_change (C := Tryz.checked) own started (by kernel_rfl) Tryz.func3
    (ChangeSpec.witness6 (enc := enc) (C := Tryz.checked) false ⟨#[], #[.agg #[.slice none 0 0, .slice none 0 0], .int .i64 0], []⟩ 8 (by kernel_rfl) (by kernel_rfl) (by kernel_rfl) (by kernel_rfl)) ?_
  intro W base args ds gs before hval0 hW hcnd _
  have hval : ∀ (j : Nat) t v, Tryz.f3.params[j]? = some t → args[j]? = some v → Value.okWide Tryz.prog W .any base t v := hval0
  have hW' := hW
  obtain ⟨p, q, hA0, hV, rfl, hfz, hnd⟩ := hW
  have hA : DataW.TrodAll enc Tryz.prog W 0 (fun _ => true) true Tryz.f3.params.toList args.toList ds p := hA0
  rw [Tryz.params3] at hA hval
  obtain ⟨v0, vs0, d0, ds0, p0, q0, hargs, rfl, rfl, h0, r0⟩ := trodAll_cons hA
  obtain ⟨v1, vs1, d1, ds1, p1, q1, rfl, rfl, rfl, h1, r1⟩ := trodAll_cons r0
  obtain ⟨rfl, rfl, rfl⟩ := trodAll_nil r1
  obtain rfl : args = #[v0, v1] := by cases args; simp_all
  obtain ⟨rfl, rfl⟩ := trodVars_none hV
  have k0 := h0
  have lt0 : ∀ x ∈ p0, x.block < W.heap.size := by obtain ⟨m, hm⟩ := k0; exact DataW.trod_lt m _ _ _ hm
  obtain ⟨cs, rfl, _⟩ := okWide_struct Tryz.underlying25 (hval 0 25 v0 rfl rfl)
  obtain ⟨b0, l0, c0, b1, l1, c1, L, M, rfl, w0, w1⟩ := unitOf h0
  obtain ⟨i1, rfl, rfl, rfl, y1⟩ := open_int Tryz.underlying3 (hval 1 3 v1 rfl rfl) h1
  clear hA0 hval0
  refine (walk b0 l0 c0 b1 l1 c1 i1 L M W w0 w1).mono fun e W' ⟨he, bel⟩ => ?_
  subst he
  exact ⟨_, rfl, _, _, _, [], _, [], hW', trodAll_mk1 (shut_bool Tryz.underlying4 _), (trodAll_cons_mk (Below.trod laidOut (by kernel_rfl) (of_decide_eq_true (by kernel_rfl)) k0 bel lt0) (trodAll_cons_mk (shut_int Tryz.underlying3 y1) trodAll_mk0)), rfl, bel.frame _, fun h => by cases h⟩

theorem over : Rows.fnExactShapeStartRow.holds Tryz.pinned (OpenSpec.ofChange Rows.fnExactShapeStartSpec) :=
  OpenClaim.holds_of_wide 3 Tryz.f3 rfl rfl rfl rfl rfl rfl rfl ⟨rfl, rfl, rfl, rfl, rfl⟩ rfl rfl rfl rfl rfl (by kernel_rfl) Tryz.func3 (by kernel_rfl)
    (of_decide_eq_true (by kernel_rfl)) (by unfold Func.isWrapper; first | (rw [if_pos (by decide +kernel)]; kernel_rfl) | (rw [if_neg (by decide +kernel)]; exact ⟨rfl, rfl⟩))
    (fun os started H enc _ => lifted os started H enc)
theorem proved : Rows.FnExactShapeStartSaid := over
end Go.Proofs.YtmhhopccgokglaaGreat.fnExactShapeStart

namespace Go.Proofs.YtmhhopccgokglaaGreat
theorem fnExactShapeStart_holds : Rows.FnExactShapeStartSaid := fnExactShapeStart.proved
#print axioms fnExactShapeStart_holds
end Go.Proofs.YtmhhopccgokglaaGreat
