/-
  The walk of the law FnExactShapeJoin (under way).
-/
import Derived.Test.YtkggmcbjpmhmcaaDoorJoinV
import Derived.Test.YtkggmcbjpmhmcaaDoorMrkQ
import Derived.Test.YtkggmcbjpmhmcaaDoorFlatB
import Derived.Test.YtkggmcbjpmhmcaaDoorDtClass
import Derived.Test.YtkggmcbjpmhmcaaDoorDtShape
import Derived.Test.YtkggmcbjpmhmcaaDoorRdCls
import Derived.Deep.RegionHeld3
import Derived.Deep.CutRange
namespace Go.Proofs.YtkggmcbjpmhmcaaDoor
open Go.ChangeShapes Go.WideShapes Go.ChangeAt Go.RowKit
set_option linter.unusedVariables false

theorem frozenPast (w : World) (b o : Nat) (h : w.heap.size ≤ b) : w.frozen? ⟨b, o, none⟩ = false := by
  simp [World.frozen?, Array.getElem?_eq_none h]
theorem wriSl {w : World} {n lo : Nat} {a : Option Addr} {xs : List Int} (h : Wri w a n (fun j => xs.getD j 0)) (hs : xs.length = n) (hn : n ≤ 1048576) (hf : ∀ j, i64B (xs.getD j 0)) (hl : ∀ x, a = some x → 0 < n → lo ≤ x.block) : SlAt intR (fun b => lo ≤ b ∧ b < w.heap.size) w a n xs := by
  refine ⟨hs, by omega, ?_⟩
  rcases h.cells with h0 | ⟨b, off, rfl, hc⟩
  · exact .inl h0
  · by_cases h0 : n = 0
    · exact .inl h0
    · refine .inr ⟨b, off, rfl, ⟨hl _ rfl (by omega), World.block_lt_of_cell? w _ (hc 0 (by omega)).1⟩, fun i x hx => ?_⟩
      have hi := (List.getElem?_eq_some_iff.1 hx).1
      have e : xs.getD i 0 = x := by rw [List.getD_eq_getElem?_getD, hx]; rfl
      have hb := hf i
      have hcc := (hc i (by omega)).1
      simp only [e] at hb hcc
      refine ⟨[.int .i64 x], ⟨rfl, hb⟩, fun j v hv => ?_⟩
      match j, hv with
      | 0, hv => simp at hv; subst hv; simpa [Rep.int] using hcc
set_option maxRecDepth 100000 in
theorem markRShapeD (any : Bool) (a0 : Option Addr) (l0 c0 : Nat) (a1 : Option Addr) (l1 c1 : Nat) (k : Int) (w : World) {D : Nat → Prop} (h0 : SlP intR D w a0 l0) (h1 : SlP intR D w a1 l1) (hz : Thw D w) (k0 : 0 ≤ k) (k1 : k ≤ 4000000000000) :
    Calls Tryd.prog 17 #[.agg #[.bool any, .slice a0 l0 c0, .slice a1 l1 c1], .int .i64 k] w fun e w' => ∃ r : Int, e = .returned (.int .i64 r) ∧ k ≤ r ∧ r ≤ k + 2097152 ∧ Chg D w w' := by
  have H0 : Hid (SlP intR D w a0 l0) := h0
  have H1 : Hid (SlP intR D w a1 l1) := h1
  have HZ : Hid (Thw D w) := hz
  have M0 : Hid (Mkd D w (w.alloc (.cells #[.bool any, .slice a0 l0 c0, .slice a1 l1 c1] 26))) := (Mkd.refl _ _).alloc _ _
  have C1 : Hid ((w.alloc (.cells #[.bool any, .slice a0 l0 c0, .slice a1 l1 c1] 26)).cell? ⟨w.heap.size, 2, none⟩ = some (.slice a1 l1 c1)) := by show _ = _; rw [World.cell?_alloc_at _ _ _ _ rfl]; rfl
  clear h0 h1 hz
  go_enter Tryd.func17, Tryd.ntmps17
  go_wp2_with fail
  refine (markLInt _ _ _ _ _ (D := D) (H0.out.sty sts_int M0.out.sty) (HZ.out.mkd M0.out) (by omega) (by omega)).mono ?_
  rintro e w1 ⟨r, rfl, r0, r1, hm⟩
  have M1 : Hid (Mkd D w w1) := M0.out.trans hm
  have d1 := hm.sty.slice C1.out
  clear hm
  go_wp2_with fail
  refine (markLInt _ _ _ _ _ (D := D) (H1.out.sty sts_int M1.out.sty) (HZ.out.mkd M1.out) (by omega) (by omega)).mono ?_
  rintro e w2 ⟨q, rfl, q0, q1, hm⟩
  have M2 : Hid (Mkd D w w2) := M1.out.trans hm
  clear hm
  go_wp2_with fail
  go_ret
  exact ⟨_, rfl, by omega, by omega, M2.out.chg⟩
set_option maxRecDepth 100000 in
set_option maxHeartbeats 16000000 in
theorem shapeJoinWalk (ca : Option Addr) (cn cc : Nat) (x0 : Bool) (la : Option Addr) (ll lc : Nat) (ka : Option Addr) (kl kc : Nat) (y0 : Bool) (ma : Option Addr) (ml mc : Nat) (na : Option Addr) (nl nc : Nat) (L : List Cl) (us vs xs ys : List Int) (ea : Addr) (w : World) {D : Nat → Prop} (h : SlAt clR D w ca cn L) (hu : SlAt intR D w la ll us) (hv : SlAt intR D w ka kl vs) (hx : SlAt intR D w ma ml xs) (hy : SlAt intR D w na nl ys) (hG : w.cell? ⟨0, 0, none⟩ = some (.iface 114 (.pointer (some ea)))) :
    Calls Tryd.prog 4 #[.slice ca cn cc, .agg #[.bool x0, .slice la ll lc, .slice ka kl kc], .agg #[.bool y0, .slice ma ml mc, .slice na nl nc]] w fun e w' => e = .returned (.bool true) ∧ Below w.heap.size w w' := by
  have H : Hid (SlAt clR D w ca cn L) := h
  have HU : Hid (SlAt intR D w la ll us) := hu
  have HV : Hid (SlAt intR D w ka kl vs) := hv
  have HX : Hid (SlAt intR D w ma ml xs) := hx
  have HY : Hid (SlAt intR D w na nl ys) := hy
  obtain ⟨⟨s0, ps, qs⟩, hs⟩ : ∃ s, s = shJoinV L (x0, us, vs) (y0, xs, ys) := ⟨_, rfl⟩
  have HJ : Hid (shJoinV L (x0, us, vs) (y0, xs, ys) = (s0, ps, qs)) := hs.symm
  clear hs
  have B0 : Hid (Below w.heap.size w ((w.alloc (.cells #[.bool x0, .slice la ll lc, .slice ka kl kc] 34)).alloc (.cells #[.bool y0, .slice ma ml mc, .slice na nl nc] 34))) := ((Below.refl _ _).alloc (Nat.le_refl _) _).alloc (by simp) _
  have g0 : 0 < w.heap.size := World.block_lt_of_cell? w _ hG
  clear h hu hv hx hy
  go_enter Tryd.func4, Tryd.ntmps4
  go_wp2_with fail
  refine (szLClass _ _ _ L _ _ (H.out.later B0.out) (by omega) (by omega)).mono ?_
  rintro e w1 ⟨r, rfl, r0, r1, hsz, hb⟩
  have M0 : Hid (0 ≤ r → (Rep.list clR).small L) := hsz
  have hb0 : Below (w.heap.size + 1 + 1) ((w.alloc (.cells #[.bool x0, .slice la ll lc, .slice ka kl kc] 34)).alloc (.cells #[.bool y0, .slice ma ml mc, .slice na nl nc] 34)) w1 := by simpa using hb
  have lA : w.heap.size < w1.heap.size := by have := hb0.size; simp at this; omega
  have lC : w.heap.size + 1 < w1.heap.size := by have := hb0.size; simp at this; omega
  have XA : Hid (∀ y, Below w1.heap.size w1 y → y.heap[w.heap.size]? = some (.cells #[.bool x0, .slice la ll lc, .slice ka kl kc] 34 (0, 0))) := fun y hy => (hy.block _ lA).trans ((hb0.block _ (by omega)).trans ((Below.heap_alloc _ _ _ (by simp)).trans (boxN _ _ _ _ rfl)))
  have XC : Hid (∀ y, Below w1.heap.size w1 y → y.heap[w.heap.size + 1]? = some (.cells #[.bool y0, .slice ma ml mc, .slice na nl nc] 34 (0, 0))) := fun y hy => (hy.block _ lC).trans ((hb0.block _ (by omega)).trans (boxN _ _ _ _ (by simp)))
  have B : Hid (∀ y, Below w1.heap.size w1 y → Below w.heap.size w y) := fun y hy => (B0.out.trans (hb0.mono (by omega))).trans (hy.mono (by omega))
  clear hsz hb hb0 B0
  have HG : Hid (∀ y, Below w.heap.size w y → y.cell? ⟨0, 0, none⟩ = some (.iface 114 (.pointer (some ea)))) := fun y hy => (hy.cell (p := ⟨0, 0, none⟩) g0).trans hG
  clear hG
  have kA0 : w1.cell? ⟨w.heap.size, 0, none⟩ = some (.bool x0) := (boxG (XA.out w1 (Below.refl _ _)) 0).1
  have kA1 : w1.cell? ⟨w.heap.size, 1, none⟩ = some (.slice la ll lc) := (boxG (XA.out w1 (Below.refl _ _)) 1).1
  have kA2 : w1.cell? ⟨w.heap.size, 2, none⟩ = some (.slice ka kl kc) := (boxG (XA.out w1 (Below.refl _ _)) 2).1
  have kC0 : w1.cell? ⟨w.heap.size + 1, 0, none⟩ = some (.bool y0) := (boxG (XC.out w1 (Below.refl _ _)) 0).1
  have kC1 : w1.cell? ⟨w.heap.size + 1, 1, none⟩ = some (.slice ma ml mc) := (boxG (XC.out w1 (Below.refl _ _)) 1).1
  have kC2 : w1.cell? ⟨w.heap.size + 1, 2, none⟩ = some (.slice na nl nc) := (boxG (XC.out w1 (Below.refl _ _)) 2).1
  by_cases hr : r < 0
  · go_wp2_with fail
    go_ret
    exact ⟨rfl, B.out _ (Below.refl _ _)⟩
  have SL : Hid ((Rep.list clR).small L) := M0.out (by omega)
  clear M0
  have BP : Hid (Below w1.heap.size w1 w1) := Below.refl _ _
  go_wp2_with fail
  refine (szRShape _ _ _ _ _ _ _ us vs _ _ (HU.out.later (B.out _ BP.out)) (HV.out.later (B.out _ BP.out)) (by omega) (by omega)).mono ?_
  rintro e w2 ⟨r2, rfl, t2, u2, hsz, hb⟩
  have M0 : Hid (0 ≤ r2 → Rep.small shR (x0, us, vs)) := hsz
  clear hsz
  have hq : Below w1.heap.size w1 w2 := BP.out.trans (Below.mono hb BP.out.size)
  replace B : Hid (∀ y, Below w2.heap.size w2 y → Below w.heap.size w y) := fun y hy => B.out y (hq.trans (hy.mono hq.size))
  replace XA : Hid (∀ y, Below w2.heap.size w2 y → y.heap[w.heap.size]? = some (.cells #[.bool x0, .slice la ll lc, .slice ka kl kc] 34 (0, 0))) := fun y hy => XA.out y (hq.trans (hy.mono hq.size))
  replace lA : w.heap.size < w2.heap.size := Nat.lt_of_lt_of_le lA hq.size
  replace XC : Hid (∀ y, Below w2.heap.size w2 y → y.heap[w.heap.size + 1]? = some (.cells #[.bool y0, .slice ma ml mc, .slice na nl nc] 34 (0, 0))) := fun y hy => XC.out y (hq.trans (hy.mono hq.size))
  replace lC : w.heap.size + 1 < w2.heap.size := Nat.lt_of_lt_of_le lC hq.size
  have zw2 : w1.heap.size ≤ w2.heap.size := hq.size
  clear hq BP
  clear kA0 kA1 kA2 kC0 kC1 kC2
  clear hb
  have kA0 : w2.cell? ⟨w.heap.size, 0, none⟩ = some (.bool x0) := (boxG (XA.out w2 (Below.refl _ _)) 0).1
  have kA1 : w2.cell? ⟨w.heap.size, 1, none⟩ = some (.slice la ll lc) := (boxG (XA.out w2 (Below.refl _ _)) 1).1
  have kA2 : w2.cell? ⟨w.heap.size, 2, none⟩ = some (.slice ka kl kc) := (boxG (XA.out w2 (Below.refl _ _)) 2).1
  have kC0 : w2.cell? ⟨w.heap.size + 1, 0, none⟩ = some (.bool y0) := (boxG (XC.out w2 (Below.refl _ _)) 0).1
  have kC1 : w2.cell? ⟨w.heap.size + 1, 1, none⟩ = some (.slice ma ml mc) := (boxG (XC.out w2 (Below.refl _ _)) 1).1
  have kC2 : w2.cell? ⟨w.heap.size + 1, 2, none⟩ = some (.slice na nl nc) := (boxG (XC.out w2 (Below.refl _ _)) 2).1
  by_cases hr2 : r2 < 0
  · go_wp2_with fail
    go_ret
    exact ⟨rfl, B.out _ (Below.refl _ _)⟩
  have SU : Hid ((Rep.list intR).small us) := (M0.out (by omega)).2.1
  have SV : Hid ((Rep.list intR).small vs) := (M0.out (by omega)).2.2
  clear M0
  have BP : Hid (Below w2.heap.size w2 w2) := Below.refl _ _
  go_wp2_with fail
  refine (szRShape _ _ _ _ _ _ _ xs ys _ _ (HX.out.later (B.out _ BP.out)) (HY.out.later (B.out _ BP.out)) (by omega) (by omega)).mono ?_
  rintro e w3 ⟨r3, rfl, t3, u3, hsz, hb⟩
  have M0 : Hid (0 ≤ r3 → Rep.small shR (y0, xs, ys)) := hsz
  clear hsz
  have hq : Below w2.heap.size w2 w3 := BP.out.trans (Below.mono hb BP.out.size)
  replace B : Hid (∀ y, Below w3.heap.size w3 y → Below w.heap.size w y) := fun y hy => B.out y (hq.trans (hy.mono hq.size))
  replace XA : Hid (∀ y, Below w3.heap.size w3 y → y.heap[w.heap.size]? = some (.cells #[.bool x0, .slice la ll lc, .slice ka kl kc] 34 (0, 0))) := fun y hy => XA.out y (hq.trans (hy.mono hq.size))
  replace lA : w.heap.size < w3.heap.size := Nat.lt_of_lt_of_le lA hq.size
  replace XC : Hid (∀ y, Below w3.heap.size w3 y → y.heap[w.heap.size + 1]? = some (.cells #[.bool y0, .slice ma ml mc, .slice na nl nc] 34 (0, 0))) := fun y hy => XC.out y (hq.trans (hy.mono hq.size))
  replace lC : w.heap.size + 1 < w3.heap.size := Nat.lt_of_lt_of_le lC hq.size
  have zw3 : w2.heap.size ≤ w3.heap.size := hq.size
  clear hq BP
  clear kA0 kA1 kA2 kC0 kC1 kC2
  clear hb
  have kA0 : w3.cell? ⟨w.heap.size, 0, none⟩ = some (.bool x0) := (boxG (XA.out w3 (Below.refl _ _)) 0).1
  have kA1 : w3.cell? ⟨w.heap.size, 1, none⟩ = some (.slice la ll lc) := (boxG (XA.out w3 (Below.refl _ _)) 1).1
  have kA2 : w3.cell? ⟨w.heap.size, 2, none⟩ = some (.slice ka kl kc) := (boxG (XA.out w3 (Below.refl _ _)) 2).1
  have kC0 : w3.cell? ⟨w.heap.size + 1, 0, none⟩ = some (.bool y0) := (boxG (XC.out w3 (Below.refl _ _)) 0).1
  have kC1 : w3.cell? ⟨w.heap.size + 1, 1, none⟩ = some (.slice ma ml mc) := (boxG (XC.out w3 (Below.refl _ _)) 1).1
  have kC2 : w3.cell? ⟨w.heap.size + 1, 2, none⟩ = some (.slice na nl nc) := (boxG (XC.out w3 (Below.refl _ _)) 2).1
  by_cases hr3 : r3 < 0
  · go_wp2_with fail
    go_ret
    exact ⟨rfl, B.out _ (Below.refl _ _)⟩
  have SX : Hid ((Rep.list intR).small xs) := (M0.out (by omega)).2.1
  have SY : Hid ((Rep.list intR).small ys) := (M0.out (by omega)).2.2
  clear M0
  clear kA0 kA1 kA2 kC0 kC1 kC2
  go_upto_region 11 with fail
  go_cut [8] from 32 to 38 (fun s wx => ∃ (X : Nat) (sa : Option Addr) (sc : Nat) (sb : Option Addr) (sd : Nat), s = .pointer (some ⟨X, 0, none⟩) ∧ w3.heap.size ≤ X ∧ X < wx.heap.size ∧ wx.heap[X]? = some (.cells #[.bool s0, .slice sa ps.length sc, .slice sb qs.length sd] 26 (0, 0)) ∧ SlAt intR (fun b => w3.heap.size ≤ b ∧ b ≠ X) wx sa ps.length ps ∧ SlAt intR (fun b => w3.heap.size ≤ b ∧ b ≠ X) wx sb qs.length qs ∧ Below w3.heap.size w3 wx)
  case first =>
    have hll : ll ≤ 1048576 := by rw [← HU.out.size]; exact SU.out.1
    have KS : Hid (∀ x, Below w3.heap.size w3 x → x.cell? ⟨w.heap.size, 0, none⟩ = some (.bool x0) ∧ x.cell? ⟨w.heap.size, 1, none⟩ = some (.slice la ll lc) ∧ x.cell? ⟨w.heap.size, 2, none⟩ = some (.slice ka kl kc) ∧ x.cell? ⟨w.heap.size + 1, 0, none⟩ = some (.bool y0) ∧ x.cell? ⟨w.heap.size + 1, 1, none⟩ = some (.slice ma ml mc) ∧ x.cell? ⟨w.heap.size + 1, 2, none⟩ = some (.slice na nl nc)) := fun x hx => ⟨(boxG (XA.out x hx) 0).1, (boxG (XA.out x hx) 1).1, (boxG (XA.out x hx) 2).1, (boxG (XC.out x hx) 0).1, (boxG (XC.out x hx) 1).1, (boxG (XC.out x hx) 2).1⟩
    have D0 : Hid (Below w3.heap.size w3 (w3.drewN 1)) := below_drewN (Below.refl _ _) 1
    refine wp_region_held_drew (S := fun x => x.cell? ⟨w.heap.size, 0, none⟩ = some (.bool x0) ∧ x.cell? ⟨w.heap.size, 1, none⟩ = some (.slice la ll lc) ∧ x.cell? ⟨w.heap.size, 2, none⟩ = some (.slice ka kl kc) ∧ x.cell? ⟨w.heap.size + 1, 0, none⟩ = some (.bool y0) ∧ x.cell? ⟨w.heap.size + 1, 1, none⟩ = some (.slice ma ml mc) ∧ x.cell? ⟨w.heap.size + 1, 2, none⟩ = some (.slice na nl nc)) (by kernel_rfl) ?_ (fun hHeld => ?_)
    · exact KS.out _ D0.out
    refine wpAnyH_take (i := 0) (v := .slice ca cn cc) rfl (by kernel_rfl) (by kernel_rfl) (by kernel_rfl) (fun _ _ _ h => h) (Or.inl ⟨by kernel_rfl, by (intro x hSx; (try dsimp only at hSx); go_simp)⟩) (by assumption) ?_
    try simp only [Act.put, List.getElem_toArray, List.getElem_cons_zero, List.setIfInBounds_toArray, List.set_cons_zero, List.set_cons_succ]
    refine wpAnyH_take (i := 2) (v := .agg #[.bool x0, .slice la ll lc, .slice ka kl kc]) rfl (by kernel_rfl) (by kernel_rfl) (by kernel_rfl) (fun _ _ _ h => h) (Or.inl ⟨by kernel_rfl, by (intro x hSx; (try dsimp only at hSx); go_simp)⟩) (by assumption) ?_
    try simp only [Act.put, List.getElem_toArray, List.getElem_cons_zero, List.getElem_cons_succ, List.setIfInBounds_toArray, List.set_cons_zero, List.set_cons_succ]
    refine wpAnyH_take (i := 4) (v := .agg #[.bool y0, .slice ma ml mc, .slice na nl nc]) rfl (by kernel_rfl) (by kernel_rfl) (by kernel_rfl) (fun _ _ _ h => h) (Or.inl ⟨by kernel_rfl, by (intro x hSx; (try dsimp only at hSx); go_simp)⟩) (by assumption) ?_
    try simp only [Act.put, List.getElem_toArray, List.getElem_cons_zero, List.getElem_cons_succ, List.setIfInBounds_toArray, List.set_cons_zero, List.set_cons_succ]
    refine wpAnyH_ready (rs := [1, 7]) (by kernel_rfl) (by simp) ?_
    refine AllReadyH.cons rfl (fun K hK => ?_) (AllReadyH.cons rfl (fun K hK => ?_) AllReadyH.nil)
    · go_simp
      go_at_call 12
      refine (toLClass _ _ _ L _ (H.out.later (B.out _ D0.out)) SL.out).mono ?_
      rintro e wa ⟨ga, gc, rfl, h1, hb⟩
      have D1 : Hid (Below w3.heap.size w3 wa) := D0.out.trans (Below.mono (hb) D0.out.size)
      have FL : Hid (∀ y, Below wa.heap.size wa y → SlAt clR (fun _ => True) y ga cn L) := fun y hy => (h1.mono (fun _ _ _ => trivial)).later hy
      have zz1 : w3.heap.size ≤ wa.heap.size := by have := hb.size; simpa using this
      clear hb h1
      go_wp2_with fail
      refine hK.out _ _ (KS.out _ D1.out) (fun hHeld2 => ?_)
      clear hK K
      try simp only [Act.put, List.getElem_toArray, List.getElem_cons_zero, List.getElem_cons_succ, List.setIfInBounds_toArray, List.set_cons_zero, List.set_cons_succ]
      refine wpAnyH_ready (rs := [3, 7]) (by kernel_rfl) (by simp) ?_
      refine AllReadyH.cons rfl (fun K hK => ?_) (AllReadyH.cons rfl (fun K hK => ?_) AllReadyH.nil)
      · go_simp
        go_at_call 13
        refine (toRShape _ _ _ _ _ _ _ us vs _ (HU.out.later (B.out _ D1.out)) SU.out (HV.out.later (B.out _ D1.out)) SV.out).mono ?_
        rintro e wb ⟨pa1, pc1, pa2, pc2, rfl, h1, h2, hb⟩
        replace FL : Hid (∀ y, Below wb.heap.size wb y → SlAt clR (fun _ => True) y ga cn L) := fun y hy => FL.out y (Below.trans (hb) (hy.mono (Below.size (hb))))
        have D2 : Hid (Below w3.heap.size w3 wb) := D1.out.trans (Below.mono (hb) D1.out.size)
        have FU : Hid (∀ y, Below wb.heap.size wb y → SlAt intR (fun _ => True) y pa1 ll us) := fun y hy => (h1.mono (fun _ _ _ => trivial)).later hy
        have FV : Hid (∀ y, Below wb.heap.size wb y → SlAt intR (fun _ => True) y pa2 kl vs) := fun y hy => (h2.mono (fun _ _ _ => trivial)).later hy
        have zz2 : wa.heap.size ≤ wb.heap.size := by have := hb.size; simpa using this
        clear hb h1 h2
        go_wp2_with fail
        refine hK.out _ _ (KS.out _ D2.out) (fun hHeld3 => ?_)
        clear hK K
        try simp only [Act.put, List.getElem_toArray, List.getElem_cons_zero, List.getElem_cons_succ, List.setIfInBounds_toArray, List.set_cons_zero, List.set_cons_succ]
        refine wpAnyH_ready (rs := [5, 7]) (by kernel_rfl) (by simp) ?_
        refine AllReadyH.cons rfl (fun K hK => ?_) (AllReadyH.cons rfl (fun K hK => ?_) AllReadyH.nil)
        · go_simp
          go_at_call 13
          refine (toRShape _ _ _ _ _ _ _ xs ys _ (HX.out.later (B.out _ D2.out)) SX.out (HY.out.later (B.out _ D2.out)) SY.out).mono ?_
          rintro e wd ⟨qa1, qc1, qa2, qc2, rfl, h1, h2, hb⟩
          replace FL : Hid (∀ y, Below wd.heap.size wd y → SlAt clR (fun _ => True) y ga cn L) := fun y hy => FL.out y (Below.trans (hb) (hy.mono (Below.size (hb))))
          replace FU : Hid (∀ y, Below wd.heap.size wd y → SlAt intR (fun _ => True) y pa1 ll us) := fun y hy => FU.out y (Below.trans (hb) (hy.mono (Below.size (hb))))
          replace FV : Hid (∀ y, Below wd.heap.size wd y → SlAt intR (fun _ => True) y pa2 kl vs) := fun y hy => FV.out y (Below.trans (hb) (hy.mono (Below.size (hb))))
          have D3 : Hid (Below w3.heap.size w3 wd) := D2.out.trans (Below.mono (hb) D2.out.size)
          have FX : Hid (∀ y, Below wd.heap.size wd y → SlAt intR (fun _ => True) y qa1 ml xs) := fun y hy => (h1.mono (fun _ _ _ => trivial)).later hy
          have FY : Hid (∀ y, Below wd.heap.size wd y → SlAt intR (fun _ => True) y qa2 nl ys) := fun y hy => (h2.mono (fun _ _ _ => trivial)).later hy
          have zz3 : wb.heap.size ≤ wd.heap.size := by have := hb.size; simpa using this
          clear hb h1 h2
          go_wp2_with fail
          refine hK.out _ _ (KS.out _ D3.out) (fun hHeld4 => ?_)
          clear hK K
          try simp only [Act.put, List.getElem_toArray, List.getElem_cons_zero, List.getElem_cons_succ, List.setIfInBounds_toArray, List.set_cons_zero, List.set_cons_succ]
          refine wpAnyH_ready (rs := [6, 7]) (by kernel_rfl) (by simp) ?_
          refine AllReadyH.cons rfl (fun K hK => ?_) (AllReadyH.cons rfl (fun K hK => ?_) AllReadyH.nil)
          · go_simp
            go_at_call 8
            refine (shapeJoinSpec _ _ _ _ _ _ _ _ _ _ _ _ _ _ _ _ _ us vs xs ys L _ (FL.out _ (Below.refl _ _)).cls (FU.out _ (Below.refl _ _)).ints (FV.out _ (Below.refl _ _)).ints (FX.out _ (Below.refl _ _)).ints (FY.out _ (Below.refl _ _)).ints hll).mono ?_
            intro e ws hP
            rw [HJ.out] at hP
            obtain ⟨sa, n1, sc, sb, n2, sd, rfl, hI1, hI2, hb⟩ := hP
            obtain rfl : ps.length = n1 := hI1.size
            obtain rfl : qs.length = n2 := hI2.size
            replace FL : Hid (∀ y, Below ws.heap.size ws y → SlAt clR (fun _ => True) y ga cn L) := fun y hy => FL.out y (Below.trans (hb) (hy.mono (Below.size (hb))))
            replace FU : Hid (∀ y, Below ws.heap.size ws y → SlAt intR (fun _ => True) y pa1 ll us) := fun y hy => FU.out y (Below.trans (hb) (hy.mono (Below.size (hb))))
            replace FV : Hid (∀ y, Below ws.heap.size ws y → SlAt intR (fun _ => True) y pa2 kl vs) := fun y hy => FV.out y (Below.trans (hb) (hy.mono (Below.size (hb))))
            replace FX : Hid (∀ y, Below ws.heap.size ws y → SlAt intR (fun _ => True) y qa1 ml xs) := fun y hy => FX.out y (Below.trans (hb) (hy.mono (Below.size (hb))))
            replace FY : Hid (∀ y, Below ws.heap.size ws y → SlAt intR (fun _ => True) y qa2 nl ys) := fun y hy => FY.out y (Below.trans (hb) (hy.mono (Below.size (hb))))
            have D4 : Hid (Below w3.heap.size w3 ws) := D3.out.trans (Below.mono (hb) D3.out.size)
            have FJ : Hid (∀ y, Below ws.heap.size ws y → SlAt intR (fun b => wd.heap.size ≤ b ∧ b < ws.heap.size) y sa ps.length ps ∧ SlAt intR (fun b => wd.heap.size ≤ b ∧ b < ws.heap.size) y sb qs.length qs) := fun y hy => ⟨(SlAt.mono hI1.sl (fun b h1 h2 => ⟨by simpa using h1, h2⟩)).later hy, (SlAt.mono hI2.sl (fun b h1 h2 => ⟨by simpa using h1, h2⟩)).later hy⟩
            have zs : wd.heap.size ≤ ws.heap.size := by have := hb.size; simpa using this
            have lS : w3.heap.size ≤ wd.heap.size := by have := D3.out.size; first | exact this | (simp at this; omega)
            clear hb hI1 hI2
            go_wp2_with fail
            refine hK.out _ _ (KS.out _ D4.out) (fun hHeld5 => ?_)
            clear hK K
            try simp only [Act.put, List.getElem_toArray, List.getElem_cons_zero, List.getElem_cons_succ, List.setIfInBounds_toArray, List.set_cons_zero, List.set_cons_succ]
            refine wpAnyH_ready (rs := [7]) (by kernel_rfl) (by simp) ?_
            refine AllReadyH.cons rfl (fun K hK => ?_) AllReadyH.nil
            go_simp
            replace FL : Hid (∀ y, Below (ws.alloc (.cells #[.bool false, .slice none 0 0, .slice none 0 0] 26)).heap.size (ws.alloc (.cells #[.bool false, .slice none 0 0, .slice none 0 0] 26)) y → SlAt clR (fun _ => True) y ga cn L) := fun y hy => FL.out y (Below.trans ((Below.refl ws.heap.size ws).alloc (Nat.le_refl _) _) (hy.mono (Below.size ((Below.refl ws.heap.size ws).alloc (Nat.le_refl _) _))))
            replace FU : Hid (∀ y, Below (ws.alloc (.cells #[.bool false, .slice none 0 0, .slice none 0 0] 26)).heap.size (ws.alloc (.cells #[.bool false, .slice none 0 0, .slice none 0 0] 26)) y → SlAt intR (fun _ => True) y pa1 ll us) := fun y hy => FU.out y (Below.trans ((Below.refl ws.heap.size ws).alloc (Nat.le_refl _) _) (hy.mono (Below.size ((Below.refl ws.heap.size ws).alloc (Nat.le_refl _) _))))
            replace FV : Hid (∀ y, Below (ws.alloc (.cells #[.bool false, .slice none 0 0, .slice none 0 0] 26)).heap.size (ws.alloc (.cells #[.bool false, .slice none 0 0, .slice none 0 0] 26)) y → SlAt intR (fun _ => True) y pa2 kl vs) := fun y hy => FV.out y (Below.trans ((Below.refl ws.heap.size ws).alloc (Nat.le_refl _) _) (hy.mono (Below.size ((Below.refl ws.heap.size ws).alloc (Nat.le_refl _) _))))
            replace FX : Hid (∀ y, Below (ws.alloc (.cells #[.bool false, .slice none 0 0, .slice none 0 0] 26)).heap.size (ws.alloc (.cells #[.bool false, .slice none 0 0, .slice none 0 0] 26)) y → SlAt intR (fun _ => True) y qa1 ml xs) := fun y hy => FX.out y (Below.trans ((Below.refl ws.heap.size ws).alloc (Nat.le_refl _) _) (hy.mono (Below.size ((Below.refl ws.heap.size ws).alloc (Nat.le_refl _) _))))
            replace FY : Hid (∀ y, Below (ws.alloc (.cells #[.bool false, .slice none 0 0, .slice none 0 0] 26)).heap.size (ws.alloc (.cells #[.bool false, .slice none 0 0, .slice none 0 0] 26)) y → SlAt intR (fun _ => True) y qa2 nl ys) := fun y hy => FY.out y (Below.trans ((Below.refl ws.heap.size ws).alloc (Nat.le_refl _) _) (hy.mono (Below.size ((Below.refl ws.heap.size ws).alloc (Nat.le_refl _) _))))
            replace FJ : Hid (∀ y, Below (ws.alloc (.cells #[.bool false, .slice none 0 0, .slice none 0 0] 26)).heap.size (ws.alloc (.cells #[.bool false, .slice none 0 0, .slice none 0 0] 26)) y → SlAt intR (fun b => wd.heap.size ≤ b ∧ b < ws.heap.size) y sa ps.length ps ∧ SlAt intR (fun b => wd.heap.size ≤ b ∧ b < ws.heap.size) y sb qs.length qs) := fun y hy => FJ.out y (Below.trans ((Below.refl ws.heap.size ws).alloc (Nat.le_refl _) _) (hy.mono (Below.size ((Below.refl ws.heap.size ws).alloc (Nat.le_refl _) _))))
            have D5 : Hid (Below w3.heap.size w3 (ws.alloc (.cells #[.bool false, .slice none 0 0, .slice none 0 0] 26))) := D4.out.trans (Below.mono ((Below.refl ws.heap.size ws).alloc (Nat.le_refl _) _) D4.out.size)
            have lX : w3.heap.size ≤ ws.heap.size := by have := D4.out.size; first | exact this | (simp at this; omega)
            have FB : Hid (∀ y, Below (ws.alloc (.cells #[.bool false, .slice none 0 0, .slice none 0 0] 26)).heap.size (ws.alloc (.cells #[.bool false, .slice none 0 0, .slice none 0 0] 26)) y → y.heap[ws.heap.size]? = some (.cells #[.bool false, .slice none 0 0, .slice none 0 0] 26 (0, 0)) ∧ ws.heap.size < y.heap.size) := fun y hy => ⟨(hy.block _ (by simp)).trans (boxN _ _ _ _ (by simp)), Nat.lt_of_lt_of_le (by simp) hy.size⟩
            refine hK.out _ _ (KS.out _ D5.out) (fun hHeld6 => ?_)
            clear hK K
            try simp only [Act.put, List.getElem_toArray, List.getElem_cons_zero, List.getElem_cons_succ, List.setIfInBounds_toArray, List.set_cons_zero, List.set_cons_succ]
            refine wpAnyH_ready (rs := [8]) (by kernel_rfl) (by simp) ?_
            refine AllReadyH.cons rfl (fun K hK => ?_) AllReadyH.nil
            obtain ⟨fb, fbl⟩ := FB.out (ws.alloc (.cells #[.bool false, .slice none 0 0, .slice none 0 0] 26)) (Below.refl _ _)
            have z0 : (ws.alloc (.cells #[.bool false, .slice none 0 0, .slice none 0 0] 26)).cell? ⟨ws.heap.size, 0, none⟩ = some (.bool false) := (boxG fb 0).1
            have z1 : (ws.alloc (.cells #[.bool false, .slice none 0 0, .slice none 0 0] 26)).cell? ⟨ws.heap.size, 1, none⟩ = some (.slice none 0 0) := (boxG fb 1).1
            have z2 : (ws.alloc (.cells #[.bool false, .slice none 0 0, .slice none 0 0] 26)).cell? ⟨ws.heap.size, 2, none⟩ = some (.slice none 0 0) := (boxG fb 2).1
            have f0 : (ws.alloc (.cells #[.bool false, .slice none 0 0, .slice none 0 0] 26)).frozen? ⟨ws.heap.size, 0, none⟩ = false := (boxG fb 0).2
            have f1 : (ws.alloc (.cells #[.bool false, .slice none 0 0, .slice none 0 0] 26)).frozen? ⟨ws.heap.size, 1, none⟩ = false := (boxG fb 1).2
            have f2 : (ws.alloc (.cells #[.bool false, .slice none 0 0, .slice none 0 0] 26)).frozen? ⟨ws.heap.size, 2, none⟩ = false := (boxG fb 2).2
            have FIN0 : w3.heap.size ≤ ws.heap.size ∧ ws.heap.size < ((((ws.alloc (.cells #[.bool false, .slice none 0 0, .slice none 0 0] 26)).setCell ⟨ws.heap.size, 0, none⟩ (.bool s0)).setCell ⟨ws.heap.size, 1, none⟩ (.slice sa ps.length sc)).setCell ⟨ws.heap.size, 2, none⟩ (.slice sb qs.length sd)).heap.size ∧ ((((ws.alloc (.cells #[.bool false, .slice none 0 0, .slice none 0 0] 26)).setCell ⟨ws.heap.size, 0, none⟩ (.bool s0)).setCell ⟨ws.heap.size, 1, none⟩ (.slice sa ps.length sc)).setCell ⟨ws.heap.size, 2, none⟩ (.slice sb qs.length sd)).heap[ws.heap.size]? = some (.cells #[.bool s0, .slice sa ps.length sc, .slice sb qs.length sd] 26 (0, 0)) ∧ SlAt intR (fun b => w3.heap.size ≤ b ∧ b ≠ ws.heap.size) ((((ws.alloc (.cells #[.bool false, .slice none 0 0, .slice none 0 0] 26)).setCell ⟨ws.heap.size, 0, none⟩ (.bool s0)).setCell ⟨ws.heap.size, 1, none⟩ (.slice sa ps.length sc)).setCell ⟨ws.heap.size, 2, none⟩ (.slice sb qs.length sd)) sa ps.length ps ∧ SlAt intR (fun b => w3.heap.size ≤ b ∧ b ≠ ws.heap.size) ((((ws.alloc (.cells #[.bool false, .slice none 0 0, .slice none 0 0] 26)).setCell ⟨ws.heap.size, 0, none⟩ (.bool s0)).setCell ⟨ws.heap.size, 1, none⟩ (.slice sa ps.length sc)).setCell ⟨ws.heap.size, 2, none⟩ (.slice sb qs.length sd)) sb qs.length qs ∧ Below w3.heap.size w3 ((((ws.alloc (.cells #[.bool false, .slice none 0 0, .slice none 0 0] 26)).setCell ⟨ws.heap.size, 0, none⟩ (.bool s0)).setCell ⟨ws.heap.size, 1, none⟩ (.slice sa ps.length sc)).setCell ⟨ws.heap.size, 2, none⟩ (.slice sb qs.length sd)) := by
              refine ⟨lX, by simp only [World.size_setCell]; exact fbl, boxS (boxS (boxS fb 0 _) 1 _) 2 _, ((((SlAt.mono (FJ.out (ws.alloc (.cells #[.bool false, .slice none 0 0, .slice none 0 0] 26)) (Below.refl _ _)).1 (E := fun b => w3.heap.size ≤ b ∧ b ≠ ws.heap.size) (fun b hb _ => ⟨by omega, by omega⟩))).set ⟨ws.heap.size, 0, none⟩ (.bool s0) (by simp)).set ⟨ws.heap.size, 1, none⟩ (.slice sa ps.length sc) (by simp)).set ⟨ws.heap.size, 2, none⟩ (.slice sb qs.length sd) (by simp), ((((SlAt.mono (FJ.out (ws.alloc (.cells #[.bool false, .slice none 0 0, .slice none 0 0] 26)) (Below.refl _ _)).2 (E := fun b => w3.heap.size ≤ b ∧ b ≠ ws.heap.size) (fun b hb _ => ⟨by omega, by omega⟩))).set ⟨ws.heap.size, 0, none⟩ (.bool s0) (by simp)).set ⟨ws.heap.size, 1, none⟩ (.slice sa ps.length sc) (by simp)).set ⟨ws.heap.size, 2, none⟩ (.slice sb qs.length sd) (by simp), ((D5.out.setCell lX _).setCell lX _).setCell lX _⟩
            have efin : ((((ws.alloc (.cells #[.bool false, .slice none 0 0, .slice none 0 0] 26)).setCell ⟨ws.heap.size, 0, none⟩ (.bool s0)).setCell ⟨ws.heap.size, 1, none⟩ (.slice sa ps.length sc)).setCell ⟨ws.heap.size, 2, none⟩ (.slice sb qs.length sd)) = (ws.alloc (.cells #[.bool s0, .slice sa ps.length sc, .slice sb qs.length sd] 26)) := by
              rw [World.setCell_alloc_at _ _ _ _ _ (by simp), World.setCell_alloc_at _ _ _ _ _ (by simp), World.setCell_alloc_at _ _ _ _ _ (by simp)]
              rfl
            rw [efin] at FIN0
            clear efin
            have FIN : Hid (w3.heap.size ≤ ws.heap.size ∧ ws.heap.size < (ws.alloc (.cells #[.bool s0, .slice sa ps.length sc, .slice sb qs.length sd] 26)).heap.size ∧ (ws.alloc (.cells #[.bool s0, .slice sa ps.length sc, .slice sb qs.length sd] 26)).heap[ws.heap.size]? = some (.cells #[.bool s0, .slice sa ps.length sc, .slice sb qs.length sd] 26 (0, 0)) ∧ SlAt intR (fun b => w3.heap.size ≤ b ∧ b ≠ ws.heap.size) (ws.alloc (.cells #[.bool s0, .slice sa ps.length sc, .slice sb qs.length sd] 26)) sa ps.length ps ∧ SlAt intR (fun b => w3.heap.size ≤ b ∧ b ≠ ws.heap.size) (ws.alloc (.cells #[.bool s0, .slice sa ps.length sc, .slice sb qs.length sd] 26)) sb qs.length qs ∧ Below w3.heap.size w3 (ws.alloc (.cells #[.bool s0, .slice sa ps.length sc, .slice sb qs.length sd] 26))) := FIN0
            clear FIN0
            go_simp
            refine hK.out _ _ ?_ (fun hHeld7 => ?_)
            · exact KS.out _ FIN.out.2.2.2.2.2
            clear hK K
            try simp only [Act.put, List.getElem_toArray, List.getElem_cons_zero, List.getElem_cons_succ, List.setIfInBounds_toArray, List.set_cons_zero, List.set_cons_succ]
            refine wpAnyH_done (by kernel_rfl) ?_ _
            clear hHeld hHeld2 hHeld3 hHeld4 hHeld5 hHeld6 hHeld7
            go_wp2_with fail
            go_meet
            exact ⟨_, _, _, _, _, rfl, FIN.out⟩
          · go_simp
            replace FL : Hid (∀ y, Below (wd.alloc (.cells #[.bool false, .slice none 0 0, .slice none 0 0] 26)).heap.size (wd.alloc (.cells #[.bool false, .slice none 0 0, .slice none 0 0] 26)) y → SlAt clR (fun _ => True) y ga cn L) := fun y hy => FL.out y (Below.trans ((Below.refl wd.heap.size wd).alloc (Nat.le_refl _) _) (hy.mono (Below.size ((Below.refl wd.heap.size wd).alloc (Nat.le_refl _) _))))
            replace FU : Hid (∀ y, Below (wd.alloc (.cells #[.bool false, .slice none 0 0, .slice none 0 0] 26)).heap.size (wd.alloc (.cells #[.bool false, .slice none 0 0, .slice none 0 0] 26)) y → SlAt intR (fun _ => True) y pa1 ll us) := fun y hy => FU.out y (Below.trans ((Below.refl wd.heap.size wd).alloc (Nat.le_refl _) _) (hy.mono (Below.size ((Below.refl wd.heap.size wd).alloc (Nat.le_refl _) _))))
            replace FV : Hid (∀ y, Below (wd.alloc (.cells #[.bool false, .slice none 0 0, .slice none 0 0] 26)).heap.size (wd.alloc (.cells #[.bool false, .slice none 0 0, .slice none 0 0] 26)) y → SlAt intR (fun _ => True) y pa2 kl vs) := fun y hy => FV.out y (Below.trans ((Below.refl wd.heap.size wd).alloc (Nat.le_refl _) _) (hy.mono (Below.size ((Below.refl wd.heap.size wd).alloc (Nat.le_refl _) _))))
            replace FX : Hid (∀ y, Below (wd.alloc (.cells #[.bool false, .slice none 0 0, .slice none 0 0] 26)).heap.size (wd.alloc (.cells #[.bool false, .slice none 0 0, .slice none 0 0] 26)) y → SlAt intR (fun _ => True) y qa1 ml xs) := fun y hy => FX.out y (Below.trans ((Below.refl wd.heap.size wd).alloc (Nat.le_refl _) _) (hy.mono (Below.size ((Below.refl wd.heap.size wd).alloc (Nat.le_refl _) _))))
            replace FY : Hid (∀ y, Below (wd.alloc (.cells #[.bool false, .slice none 0 0, .slice none 0 0] 26)).heap.size (wd.alloc (.cells #[.bool false, .slice none 0 0, .slice none 0 0] 26)) y → SlAt intR (fun _ => True) y qa2 nl ys) := fun y hy => FY.out y (Below.trans ((Below.refl wd.heap.size wd).alloc (Nat.le_refl _) _) (hy.mono (Below.size ((Below.refl wd.heap.size wd).alloc (Nat.le_refl _) _))))
            have D4 : Hid (Below w3.heap.size w3 (wd.alloc (.cells #[.bool false, .slice none 0 0, .slice none 0 0] 26))) := D3.out.trans (Below.mono ((Below.refl wd.heap.size wd).alloc (Nat.le_refl _) _) D3.out.size)
            have lX : w3.heap.size ≤ wd.heap.size := by have := D3.out.size; first | exact this | (simp at this; omega)
            have FB : Hid (∀ y, Below (wd.alloc (.cells #[.bool false, .slice none 0 0, .slice none 0 0] 26)).heap.size (wd.alloc (.cells #[.bool false, .slice none 0 0, .slice none 0 0] 26)) y → y.heap[wd.heap.size]? = some (.cells #[.bool false, .slice none 0 0, .slice none 0 0] 26 (0, 0)) ∧ wd.heap.size < y.heap.size) := fun y hy => ⟨(hy.block _ (by simp)).trans (boxN _ _ _ _ (by simp)), Nat.lt_of_lt_of_le (by simp) hy.size⟩
            refine hK.out _ _ (KS.out _ D4.out) (fun hHeld5 => ?_)
            clear hK K
            try simp only [Act.put, List.getElem_toArray, List.getElem_cons_zero, List.getElem_cons_succ, List.setIfInBounds_toArray, List.set_cons_zero, List.set_cons_succ]
            refine wpAnyH_ready (rs := [6]) (by kernel_rfl) (by simp) ?_
            refine AllReadyH.cons rfl (fun K hK => ?_) AllReadyH.nil
            go_simp
            go_at_call 8
            refine (shapeJoinSpec _ _ _ _ _ _ _ _ _ _ _ _ _ _ _ _ _ us vs xs ys L _ (FL.out _ (Below.refl _ _)).cls (FU.out _ (Below.refl _ _)).ints (FV.out _ (Below.refl _ _)).ints (FX.out _ (Below.refl _ _)).ints (FY.out _ (Below.refl _ _)).ints hll).mono ?_
            intro e ws hP
            rw [HJ.out] at hP
            obtain ⟨sa, n1, sc, sb, n2, sd, rfl, hI1, hI2, hb⟩ := hP
            obtain rfl : ps.length = n1 := hI1.size
            obtain rfl : qs.length = n2 := hI2.size
            replace FL : Hid (∀ y, Below ws.heap.size ws y → SlAt clR (fun _ => True) y ga cn L) := fun y hy => FL.out y (Below.trans (hb) (hy.mono (Below.size (hb))))
            replace FU : Hid (∀ y, Below ws.heap.size ws y → SlAt intR (fun _ => True) y pa1 ll us) := fun y hy => FU.out y (Below.trans (hb) (hy.mono (Below.size (hb))))
            replace FV : Hid (∀ y, Below ws.heap.size ws y → SlAt intR (fun _ => True) y pa2 kl vs) := fun y hy => FV.out y (Below.trans (hb) (hy.mono (Below.size (hb))))
            replace FX : Hid (∀ y, Below ws.heap.size ws y → SlAt intR (fun _ => True) y qa1 ml xs) := fun y hy => FX.out y (Below.trans (hb) (hy.mono (Below.size (hb))))
            replace FY : Hid (∀ y, Below ws.heap.size ws y → SlAt intR (fun _ => True) y qa2 nl ys) := fun y hy => FY.out y (Below.trans (hb) (hy.mono (Below.size (hb))))
            replace FB : Hid (∀ y, Below ws.heap.size ws y → y.heap[wd.heap.size]? = some (.cells #[.bool false, .slice none 0 0, .slice none 0 0] 26 (0, 0)) ∧ wd.heap.size < y.heap.size) := fun y hy => FB.out y (Below.trans (hb) (hy.mono (Below.size (hb))))
            have D5 : Hid (Below w3.heap.size w3 ws) := D4.out.trans (Below.mono (hb) D4.out.size)
            have FJ : Hid (∀ y, Below ws.heap.size ws y → SlAt intR (fun b => wd.heap.size + 1 ≤ b ∧ b < ws.heap.size) y sa ps.length ps ∧ SlAt intR (fun b => wd.heap.size + 1 ≤ b ∧ b < ws.heap.size) y sb qs.length qs) := fun y hy => ⟨(SlAt.mono hI1.sl (fun b h1 h2 => ⟨by simpa using h1, h2⟩)).later hy, (SlAt.mono hI2.sl (fun b h1 h2 => ⟨by simpa using h1, h2⟩)).later hy⟩
            have zs : wd.heap.size + 1 ≤ ws.heap.size := by have := hb.size; simpa using this
            have lS : w3.heap.size ≤ wd.heap.size + 1 := by have := D4.out.size; first | exact this | (simp at this; omega)
            clear hb hI1 hI2
            go_wp2_with fail
            refine hK.out _ _ (KS.out _ D5.out) (fun hHeld6 => ?_)
            clear hK K
            try simp only [Act.put, List.getElem_toArray, List.getElem_cons_zero, List.getElem_cons_succ, List.setIfInBounds_toArray, List.set_cons_zero, List.set_cons_succ]
            refine wpAnyH_ready (rs := [8]) (by kernel_rfl) (by simp) ?_
            refine AllReadyH.cons rfl (fun K hK => ?_) AllReadyH.nil
            obtain ⟨fb, fbl⟩ := FB.out ws (Below.refl _ _)
            have z0 : ws.cell? ⟨wd.heap.size, 0, none⟩ = some (.bool false) := (boxG fb 0).1
            have z1 : ws.cell? ⟨wd.heap.size, 1, none⟩ = some (.slice none 0 0) := (boxG fb 1).1
            have z2 : ws.cell? ⟨wd.heap.size, 2, none⟩ = some (.slice none 0 0) := (boxG fb 2).1
            have f0 : ws.frozen? ⟨wd.heap.size, 0, none⟩ = false := (boxG fb 0).2
            have f1 : ws.frozen? ⟨wd.heap.size, 1, none⟩ = false := (boxG fb 1).2
            have f2 : ws.frozen? ⟨wd.heap.size, 2, none⟩ = false := (boxG fb 2).2
            have FIN0 : w3.heap.size ≤ wd.heap.size ∧ wd.heap.size < (((ws.setCell ⟨wd.heap.size, 0, none⟩ (.bool s0)).setCell ⟨wd.heap.size, 1, none⟩ (.slice sa ps.length sc)).setCell ⟨wd.heap.size, 2, none⟩ (.slice sb qs.length sd)).heap.size ∧ (((ws.setCell ⟨wd.heap.size, 0, none⟩ (.bool s0)).setCell ⟨wd.heap.size, 1, none⟩ (.slice sa ps.length sc)).setCell ⟨wd.heap.size, 2, none⟩ (.slice sb qs.length sd)).heap[wd.heap.size]? = some (.cells #[.bool s0, .slice sa ps.length sc, .slice sb qs.length sd] 26 (0, 0)) ∧ SlAt intR (fun b => w3.heap.size ≤ b ∧ b ≠ wd.heap.size) (((ws.setCell ⟨wd.heap.size, 0, none⟩ (.bool s0)).setCell ⟨wd.heap.size, 1, none⟩ (.slice sa ps.length sc)).setCell ⟨wd.heap.size, 2, none⟩ (.slice sb qs.length sd)) sa ps.length ps ∧ SlAt intR (fun b => w3.heap.size ≤ b ∧ b ≠ wd.heap.size) (((ws.setCell ⟨wd.heap.size, 0, none⟩ (.bool s0)).setCell ⟨wd.heap.size, 1, none⟩ (.slice sa ps.length sc)).setCell ⟨wd.heap.size, 2, none⟩ (.slice sb qs.length sd)) sb qs.length qs ∧ Below w3.heap.size w3 (((ws.setCell ⟨wd.heap.size, 0, none⟩ (.bool s0)).setCell ⟨wd.heap.size, 1, none⟩ (.slice sa ps.length sc)).setCell ⟨wd.heap.size, 2, none⟩ (.slice sb qs.length sd)) := by
              refine ⟨lX, by simp only [World.size_setCell]; exact fbl, boxS (boxS (boxS fb 0 _) 1 _) 2 _, ((((SlAt.mono (FJ.out ws (Below.refl _ _)).1 (E := fun b => w3.heap.size ≤ b ∧ b ≠ wd.heap.size) (fun b hb _ => ⟨by omega, by omega⟩))).set ⟨wd.heap.size, 0, none⟩ (.bool s0) (by simp)).set ⟨wd.heap.size, 1, none⟩ (.slice sa ps.length sc) (by simp)).set ⟨wd.heap.size, 2, none⟩ (.slice sb qs.length sd) (by simp), ((((SlAt.mono (FJ.out ws (Below.refl _ _)).2 (E := fun b => w3.heap.size ≤ b ∧ b ≠ wd.heap.size) (fun b hb _ => ⟨by omega, by omega⟩))).set ⟨wd.heap.size, 0, none⟩ (.bool s0) (by simp)).set ⟨wd.heap.size, 1, none⟩ (.slice sa ps.length sc) (by simp)).set ⟨wd.heap.size, 2, none⟩ (.slice sb qs.length sd) (by simp), ((D5.out.setCell lX _).setCell lX _).setCell lX _⟩
            have FIN : Hid (w3.heap.size ≤ wd.heap.size ∧ wd.heap.size < (((ws.setCell ⟨wd.heap.size, 0, none⟩ (.bool s0)).setCell ⟨wd.heap.size, 1, none⟩ (.slice sa ps.length sc)).setCell ⟨wd.heap.size, 2, none⟩ (.slice sb qs.length sd)).heap.size ∧ (((ws.setCell ⟨wd.heap.size, 0, none⟩ (.bool s0)).setCell ⟨wd.heap.size, 1, none⟩ (.slice sa ps.length sc)).setCell ⟨wd.heap.size, 2, none⟩ (.slice sb qs.length sd)).heap[wd.heap.size]? = some (.cells #[.bool s0, .slice sa ps.length sc, .slice sb qs.length sd] 26 (0, 0)) ∧ SlAt intR (fun b => w3.heap.size ≤ b ∧ b ≠ wd.heap.size) (((ws.setCell ⟨wd.heap.size, 0, none⟩ (.bool s0)).setCell ⟨wd.heap.size, 1, none⟩ (.slice sa ps.length sc)).setCell ⟨wd.heap.size, 2, none⟩ (.slice sb qs.length sd)) sa ps.length ps ∧ SlAt intR (fun b => w3.heap.size ≤ b ∧ b ≠ wd.heap.size) (((ws.setCell ⟨wd.heap.size, 0, none⟩ (.bool s0)).setCell ⟨wd.heap.size, 1, none⟩ (.slice sa ps.length sc)).setCell ⟨wd.heap.size, 2, none⟩ (.slice sb qs.length sd)) sb qs.length qs ∧ Below w3.heap.size w3 (((ws.setCell ⟨wd.heap.size, 0, none⟩ (.bool s0)).setCell ⟨wd.heap.size, 1, none⟩ (.slice sa ps.length sc)).setCell ⟨wd.heap.size, 2, none⟩ (.slice sb qs.length sd))) := FIN0
            clear FIN0
            go_simp
            refine hK.out _ _ ?_ (fun hHeld7 => ?_)
            · exact KS.out _ FIN.out.2.2.2.2.2
            clear hK K
            try simp only [Act.put, List.getElem_toArray, List.getElem_cons_zero, List.getElem_cons_succ, List.setIfInBounds_toArray, List.set_cons_zero, List.set_cons_succ]
            refine wpAnyH_done (by kernel_rfl) ?_ _
            clear hHeld hHeld2 hHeld3 hHeld4 hHeld5 hHeld6 hHeld7
            go_wp2_with fail
            go_meet
            exact ⟨_, _, _, _, _, rfl, FIN.out⟩
        · go_simp
          replace FL : Hid (∀ y, Below (wb.alloc (.cells #[.bool false, .slice none 0 0, .slice none 0 0] 26)).heap.size (wb.alloc (.cells #[.bool false, .slice none 0 0, .slice none 0 0] 26)) y → SlAt clR (fun _ => True) y ga cn L) := fun y hy => FL.out y (Below.trans ((Below.refl wb.heap.size wb).alloc (Nat.le_refl _) _) (hy.mono (Below.size ((Below.refl wb.heap.size wb).alloc (Nat.le_refl _) _))))
          replace FU : Hid (∀ y, Below (wb.alloc (.cells #[.bool false, .slice none 0 0, .slice none 0 0] 26)).heap.size (wb.alloc (.cells #[.bool false, .slice none 0 0, .slice none 0 0] 26)) y → SlAt intR (fun _ => True) y pa1 ll us) := fun y hy => FU.out y (Below.trans ((Below.refl wb.heap.size wb).alloc (Nat.le_refl _) _) (hy.mono (Below.size ((Below.refl wb.heap.size wb).alloc (Nat.le_refl _) _))))
          replace FV : Hid (∀ y, Below (wb.alloc (.cells #[.bool false, .slice none 0 0, .slice none 0 0] 26)).heap.size (wb.alloc (.cells #[.bool false, .slice none 0 0, .slice none 0 0] 26)) y → SlAt intR (fun _ => True) y pa2 kl vs) := fun y hy => FV.out y (Below.trans ((Below.refl wb.heap.size wb).alloc (Nat.le_refl _) _) (hy.mono (Below.size ((Below.refl wb.heap.size wb).alloc (Nat.le_refl _) _))))
          have D3 : Hid (Below w3.heap.size w3 (wb.alloc (.cells #[.bool false, .slice none 0 0, .slice none 0 0] 26))) := D2.out.trans (Below.mono ((Below.refl wb.heap.size wb).alloc (Nat.le_refl _) _) D2.out.size)
          have lX : w3.heap.size ≤ wb.heap.size := by have := D2.out.size; first | exact this | (simp at this; omega)
          have FB : Hid (∀ y, Below (wb.alloc (.cells #[.bool false, .slice none 0 0, .slice none 0 0] 26)).heap.size (wb.alloc (.cells #[.bool false, .slice none 0 0, .slice none 0 0] 26)) y → y.heap[wb.heap.size]? = some (.cells #[.bool false, .slice none 0 0, .slice none 0 0] 26 (0, 0)) ∧ wb.heap.size < y.heap.size) := fun y hy => ⟨(hy.block _ (by simp)).trans (boxN _ _ _ _ (by simp)), Nat.lt_of_lt_of_le (by simp) hy.size⟩
          refine hK.out _ _ (KS.out _ D3.out) (fun hHeld4 => ?_)
          clear hK K
          try simp only [Act.put, List.getElem_toArray, List.getElem_cons_zero, List.getElem_cons_succ, List.setIfInBounds_toArray, List.set_cons_zero, List.set_cons_succ]
          refine wpAnyH_ready (rs := [5]) (by kernel_rfl) (by simp) ?_
          refine AllReadyH.cons rfl (fun K hK => ?_) AllReadyH.nil
          go_simp
          go_at_call 13
          refine (toRShape _ _ _ _ _ _ _ xs ys _ (HX.out.later (B.out _ D3.out)) SX.out (HY.out.later (B.out _ D3.out)) SY.out).mono ?_
          rintro e wd ⟨qa1, qc1, qa2, qc2, rfl, h1, h2, hb⟩
          replace FL : Hid (∀ y, Below wd.heap.size wd y → SlAt clR (fun _ => True) y ga cn L) := fun y hy => FL.out y (Below.trans (hb) (hy.mono (Below.size (hb))))
          replace FU : Hid (∀ y, Below wd.heap.size wd y → SlAt intR (fun _ => True) y pa1 ll us) := fun y hy => FU.out y (Below.trans (hb) (hy.mono (Below.size (hb))))
          replace FV : Hid (∀ y, Below wd.heap.size wd y → SlAt intR (fun _ => True) y pa2 kl vs) := fun y hy => FV.out y (Below.trans (hb) (hy.mono (Below.size (hb))))
          replace FB : Hid (∀ y, Below wd.heap.size wd y → y.heap[wb.heap.size]? = some (.cells #[.bool false, .slice none 0 0, .slice none 0 0] 26 (0, 0)) ∧ wb.heap.size < y.heap.size) := fun y hy => FB.out y (Below.trans (hb) (hy.mono (Below.size (hb))))
          have D4 : Hid (Below w3.heap.size w3 wd) := D3.out.trans (Below.mono (hb) D3.out.size)
          have FX : Hid (∀ y, Below wd.heap.size wd y → SlAt intR (fun _ => True) y qa1 ml xs) := fun y hy => (h1.mono (fun _ _ _ => trivial)).later hy
          have FY : Hid (∀ y, Below wd.heap.size wd y → SlAt intR (fun _ => True) y qa2 nl ys) := fun y hy => (h2.mono (fun _ _ _ => trivial)).later hy
          have zz4 : wb.heap.size + 1 ≤ wd.heap.size := by have := hb.size; simpa using this
          clear hb h1 h2
          go_wp2_with fail
          refine hK.out _ _ (KS.out _ D4.out) (fun hHeld5 => ?_)
          clear hK K
          try simp only [Act.put, List.getElem_toArray, List.getElem_cons_zero, List.getElem_cons_succ, List.setIfInBounds_toArray, List.set_cons_zero, List.set_cons_succ]
          refine wpAnyH_ready (rs := [6]) (by kernel_rfl) (by simp) ?_
          refine AllReadyH.cons rfl (fun K hK => ?_) AllReadyH.nil
          go_simp
          go_at_call 8
          refine (shapeJoinSpec _ _ _ _ _ _ _ _ _ _ _ _ _ _ _ _ _ us vs xs ys L _ (FL.out _ (Below.refl _ _)).cls (FU.out _ (Below.refl _ _)).ints (FV.out _ (Below.refl _ _)).ints (FX.out _ (Below.refl _ _)).ints (FY.out _ (Below.refl _ _)).ints hll).mono ?_
          intro e ws hP
          rw [HJ.out] at hP
          obtain ⟨sa, n1, sc, sb, n2, sd, rfl, hI1, hI2, hb⟩ := hP
          obtain rfl : ps.length = n1 := hI1.size
          obtain rfl : qs.length = n2 := hI2.size
          replace FL : Hid (∀ y, Below ws.heap.size ws y → SlAt clR (fun _ => True) y ga cn L) := fun y hy => FL.out y (Below.trans (hb) (hy.mono (Below.size (hb))))
          replace FU : Hid (∀ y, Below ws.heap.size ws y → SlAt intR (fun _ => True) y pa1 ll us) := fun y hy => FU.out y (Below.trans (hb) (hy.mono (Below.size (hb))))
          replace FV : Hid (∀ y, Below ws.heap.size ws y → SlAt intR (fun _ => True) y pa2 kl vs) := fun y hy => FV.out y (Below.trans (hb) (hy.mono (Below.size (hb))))
          replace FB : Hid (∀ y, Below ws.heap.size ws y → y.heap[wb.heap.size]? = some (.cells #[.bool false, .slice none 0 0, .slice none 0 0] 26 (0, 0)) ∧ wb.heap.size < y.heap.size) := fun y hy => FB.out y (Below.trans (hb) (hy.mono (Below.size (hb))))
          replace FX : Hid (∀ y, Below ws.heap.size ws y → SlAt intR (fun _ => True) y qa1 ml xs) := fun y hy => FX.out y (Below.trans (hb) (hy.mono (Below.size (hb))))
          replace FY : Hid (∀ y, Below ws.heap.size ws y → SlAt intR (fun _ => True) y qa2 nl ys) := fun y hy => FY.out y (Below.trans (hb) (hy.mono (Below.size (hb))))
          have D5 : Hid (Below w3.heap.size w3 ws) := D4.out.trans (Below.mono (hb) D4.out.size)
          have FJ : Hid (∀ y, Below ws.heap.size ws y → SlAt intR (fun b => wd.heap.size ≤ b ∧ b < ws.heap.size) y sa ps.length ps ∧ SlAt intR (fun b => wd.heap.size ≤ b ∧ b < ws.heap.size) y sb qs.length qs) := fun y hy => ⟨(SlAt.mono hI1.sl (fun b h1 h2 => ⟨by simpa using h1, h2⟩)).later hy, (SlAt.mono hI2.sl (fun b h1 h2 => ⟨by simpa using h1, h2⟩)).later hy⟩
          have zs : wd.heap.size ≤ ws.heap.size := by have := hb.size; simpa using this
          have lS : w3.heap.size ≤ wd.heap.size := by have := D4.out.size; first | exact this | (simp at this; omega)
          clear hb hI1 hI2
          go_wp2_with fail
          refine hK.out _ _ (KS.out _ D5.out) (fun hHeld6 => ?_)
          clear hK K
          try simp only [Act.put, List.getElem_toArray, List.getElem_cons_zero, List.getElem_cons_succ, List.setIfInBounds_toArray, List.set_cons_zero, List.set_cons_succ]
          refine wpAnyH_ready (rs := [8]) (by kernel_rfl) (by simp) ?_
          refine AllReadyH.cons rfl (fun K hK => ?_) AllReadyH.nil
          obtain ⟨fb, fbl⟩ := FB.out ws (Below.refl _ _)
          have z0 : ws.cell? ⟨wb.heap.size, 0, none⟩ = some (.bool false) := (boxG fb 0).1
          have z1 : ws.cell? ⟨wb.heap.size, 1, none⟩ = some (.slice none 0 0) := (boxG fb 1).1
          have z2 : ws.cell? ⟨wb.heap.size, 2, none⟩ = some (.slice none 0 0) := (boxG fb 2).1
          have f0 : ws.frozen? ⟨wb.heap.size, 0, none⟩ = false := (boxG fb 0).2
          have f1 : ws.frozen? ⟨wb.heap.size, 1, none⟩ = false := (boxG fb 1).2
          have f2 : ws.frozen? ⟨wb.heap.size, 2, none⟩ = false := (boxG fb 2).2
          have FIN0 : w3.heap.size ≤ wb.heap.size ∧ wb.heap.size < (((ws.setCell ⟨wb.heap.size, 0, none⟩ (.bool s0)).setCell ⟨wb.heap.size, 1, none⟩ (.slice sa ps.length sc)).setCell ⟨wb.heap.size, 2, none⟩ (.slice sb qs.length sd)).heap.size ∧ (((ws.setCell ⟨wb.heap.size, 0, none⟩ (.bool s0)).setCell ⟨wb.heap.size, 1, none⟩ (.slice sa ps.length sc)).setCell ⟨wb.heap.size, 2, none⟩ (.slice sb qs.length sd)).heap[wb.heap.size]? = some (.cells #[.bool s0, .slice sa ps.length sc, .slice sb qs.length sd] 26 (0, 0)) ∧ SlAt intR (fun b => w3.heap.size ≤ b ∧ b ≠ wb.heap.size) (((ws.setCell ⟨wb.heap.size, 0, none⟩ (.bool s0)).setCell ⟨wb.heap.size, 1, none⟩ (.slice sa ps.length sc)).setCell ⟨wb.heap.size, 2, none⟩ (.slice sb qs.length sd)) sa ps.length ps ∧ SlAt intR (fun b => w3.heap.size ≤ b ∧ b ≠ wb.heap.size) (((ws.setCell ⟨wb.heap.size, 0, none⟩ (.bool s0)).setCell ⟨wb.heap.size, 1, none⟩ (.slice sa ps.length sc)).setCell ⟨wb.heap.size, 2, none⟩ (.slice sb qs.length sd)) sb qs.length qs ∧ Below w3.heap.size w3 (((ws.setCell ⟨wb.heap.size, 0, none⟩ (.bool s0)).setCell ⟨wb.heap.size, 1, none⟩ (.slice sa ps.length sc)).setCell ⟨wb.heap.size, 2, none⟩ (.slice sb qs.length sd)) := by
            refine ⟨lX, by simp only [World.size_setCell]; exact fbl, boxS (boxS (boxS fb 0 _) 1 _) 2 _, ((((SlAt.mono (FJ.out ws (Below.refl _ _)).1 (E := fun b => w3.heap.size ≤ b ∧ b ≠ wb.heap.size) (fun b hb _ => ⟨by omega, by omega⟩))).set ⟨wb.heap.size, 0, none⟩ (.bool s0) (by simp)).set ⟨wb.heap.size, 1, none⟩ (.slice sa ps.length sc) (by simp)).set ⟨wb.heap.size, 2, none⟩ (.slice sb qs.length sd) (by simp), ((((SlAt.mono (FJ.out ws (Below.refl _ _)).2 (E := fun b => w3.heap.size ≤ b ∧ b ≠ wb.heap.size) (fun b hb _ => ⟨by omega, by omega⟩))).set ⟨wb.heap.size, 0, none⟩ (.bool s0) (by simp)).set ⟨wb.heap.size, 1, none⟩ (.slice sa ps.length sc) (by simp)).set ⟨wb.heap.size, 2, none⟩ (.slice sb qs.length sd) (by simp), ((D5.out.setCell lX _).setCell lX _).setCell lX _⟩
          have FIN : Hid (w3.heap.size ≤ wb.heap.size ∧ wb.heap.size < (((ws.setCell ⟨wb.heap.size, 0, none⟩ (.bool s0)).setCell ⟨wb.heap.size, 1, none⟩ (.slice sa ps.length sc)).setCell ⟨wb.heap.size, 2, none⟩ (.slice sb qs.length sd)).heap.size ∧ (((ws.setCell ⟨wb.heap.size, 0, none⟩ (.bool s0)).setCell ⟨wb.heap.size, 1, none⟩ (.slice sa ps.length sc)).setCell ⟨wb.heap.size, 2, none⟩ (.slice sb qs.length sd)).heap[wb.heap.size]? = some (.cells #[.bool s0, .slice sa ps.length sc, .slice sb qs.length sd] 26 (0, 0)) ∧ SlAt intR (fun b => w3.heap.size ≤ b ∧ b ≠ wb.heap.size) (((ws.setCell ⟨wb.heap.size, 0, none⟩ (.bool s0)).setCell ⟨wb.heap.size, 1, none⟩ (.slice sa ps.length sc)).setCell ⟨wb.heap.size, 2, none⟩ (.slice sb qs.length sd)) sa ps.length ps ∧ SlAt intR (fun b => w3.heap.size ≤ b ∧ b ≠ wb.heap.size) (((ws.setCell ⟨wb.heap.size, 0, none⟩ (.bool s0)).setCell ⟨wb.heap.size, 1, none⟩ (.slice sa ps.length sc)).setCell ⟨wb.heap.size, 2, none⟩ (.slice sb qs.length sd)) sb qs.length qs ∧ Below w3.heap.size w3 (((ws.setCell ⟨wb.heap.size, 0, none⟩ (.bool s0)).setCell ⟨wb.heap.size, 1, none⟩ (.slice sa ps.length sc)).setCell ⟨wb.heap.size, 2, none⟩ (.slice sb qs.length sd))) := FIN0
          clear FIN0
          go_simp
          refine hK.out _ _ ?_ (fun hHeld7 => ?_)
          · exact KS.out _ FIN.out.2.2.2.2.2
          clear hK K
          try simp only [Act.put, List.getElem_toArray, List.getElem_cons_zero, List.getElem_cons_succ, List.setIfInBounds_toArray, List.set_cons_zero, List.set_cons_succ]
          refine wpAnyH_done (by kernel_rfl) ?_ _
          clear hHeld hHeld2 hHeld3 hHeld4 hHeld5 hHeld6 hHeld7
          go_wp2_with fail
          go_meet
          exact ⟨_, _, _, _, _, rfl, FIN.out⟩
      · go_simp
        replace FL : Hid (∀ y, Below (wa.alloc (.cells #[.bool false, .slice none 0 0, .slice none 0 0] 26)).heap.size (wa.alloc (.cells #[.bool false, .slice none 0 0, .slice none 0 0] 26)) y → SlAt clR (fun _ => True) y ga cn L) := fun y hy => FL.out y (Below.trans ((Below.refl wa.heap.size wa).alloc (Nat.le_refl _) _) (hy.mono (Below.size ((Below.refl wa.heap.size wa).alloc (Nat.le_refl _) _))))
        have D2 : Hid (Below w3.heap.size w3 (wa.alloc (.cells #[.bool false, .slice none 0 0, .slice none 0 0] 26))) := D1.out.trans (Below.mono ((Below.refl wa.heap.size wa).alloc (Nat.le_refl _) _) D1.out.size)
        have lX : w3.heap.size ≤ wa.heap.size := by have := D1.out.size; first | exact this | (simp at this; omega)
        have FB : Hid (∀ y, Below (wa.alloc (.cells #[.bool false, .slice none 0 0, .slice none 0 0] 26)).heap.size (wa.alloc (.cells #[.bool false, .slice none 0 0, .slice none 0 0] 26)) y → y.heap[wa.heap.size]? = some (.cells #[.bool false, .slice none 0 0, .slice none 0 0] 26 (0, 0)) ∧ wa.heap.size < y.heap.size) := fun y hy => ⟨(hy.block _ (by simp)).trans (boxN _ _ _ _ (by simp)), Nat.lt_of_lt_of_le (by simp) hy.size⟩
        refine hK.out _ _ (KS.out _ D2.out) (fun hHeld3 => ?_)
        clear hK K
        try simp only [Act.put, List.getElem_toArray, List.getElem_cons_zero, List.getElem_cons_succ, List.setIfInBounds_toArray, List.set_cons_zero, List.set_cons_succ]
        refine wpAnyH_ready (rs := [3]) (by kernel_rfl) (by simp) ?_
        refine AllReadyH.cons rfl (fun K hK => ?_) AllReadyH.nil
        go_simp
        go_at_call 13
        refine (toRShape _ _ _ _ _ _ _ us vs _ (HU.out.later (B.out _ D2.out)) SU.out (HV.out.later (B.out _ D2.out)) SV.out).mono ?_
        rintro e wb ⟨pa1, pc1, pa2, pc2, rfl, h1, h2, hb⟩
        replace FL : Hid (∀ y, Below wb.heap.size wb y → SlAt clR (fun _ => True) y ga cn L) := fun y hy => FL.out y (Below.trans (hb) (hy.mono (Below.size (hb))))
        replace FB : Hid (∀ y, Below wb.heap.size wb y → y.heap[wa.heap.size]? = some (.cells #[.bool false, .slice none 0 0, .slice none 0 0] 26 (0, 0)) ∧ wa.heap.size < y.heap.size) := fun y hy => FB.out y (Below.trans (hb) (hy.mono (Below.size (hb))))
        have D3 : Hid (Below w3.heap.size w3 wb) := D2.out.trans (Below.mono (hb) D2.out.size)
        have FU : Hid (∀ y, Below wb.heap.size wb y → SlAt intR (fun _ => True) y pa1 ll us) := fun y hy => (h1.mono (fun _ _ _ => trivial)).later hy
        have FV : Hid (∀ y, Below wb.heap.size wb y → SlAt intR (fun _ => True) y pa2 kl vs) := fun y hy => (h2.mono (fun _ _ _ => trivial)).later hy
        have zz3 : wa.heap.size + 1 ≤ wb.heap.size := by have := hb.size; simpa using this
        clear hb h1 h2
        go_wp2_with fail
        refine hK.out _ _ (KS.out _ D3.out) (fun hHeld4 => ?_)
        clear hK K
        try simp only [Act.put, List.getElem_toArray, List.getElem_cons_zero, List.getElem_cons_succ, List.setIfInBounds_toArray, List.set_cons_zero, List.set_cons_succ]
        refine wpAnyH_ready (rs := [5]) (by kernel_rfl) (by simp) ?_
        refine AllReadyH.cons rfl (fun K hK => ?_) AllReadyH.nil
        go_simp
        go_at_call 13
        refine (toRShape _ _ _ _ _ _ _ xs ys _ (HX.out.later (B.out _ D3.out)) SX.out (HY.out.later (B.out _ D3.out)) SY.out).mono ?_
        rintro e wd ⟨qa1, qc1, qa2, qc2, rfl, h1, h2, hb⟩
        replace FL : Hid (∀ y, Below wd.heap.size wd y → SlAt clR (fun _ => True) y ga cn L) := fun y hy => FL.out y (Below.trans (hb) (hy.mono (Below.size (hb))))
        replace FB : Hid (∀ y, Below wd.heap.size wd y → y.heap[wa.heap.size]? = some (.cells #[.bool false, .slice none 0 0, .slice none 0 0] 26 (0, 0)) ∧ wa.heap.size < y.heap.size) := fun y hy => FB.out y (Below.trans (hb) (hy.mono (Below.size (hb))))
        replace FU : Hid (∀ y, Below wd.heap.size wd y → SlAt intR (fun _ => True) y pa1 ll us) := fun y hy => FU.out y (Below.trans (hb) (hy.mono (Below.size (hb))))
        replace FV : Hid (∀ y, Below wd.heap.size wd y → SlAt intR (fun _ => True) y pa2 kl vs) := fun y hy => FV.out y (Below.trans (hb) (hy.mono (Below.size (hb))))
        have D4 : Hid (Below w3.heap.size w3 wd) := D3.out.trans (Below.mono (hb) D3.out.size)
        have FX : Hid (∀ y, Below wd.heap.size wd y → SlAt intR (fun _ => True) y qa1 ml xs) := fun y hy => (h1.mono (fun _ _ _ => trivial)).later hy
        have FY : Hid (∀ y, Below wd.heap.size wd y → SlAt intR (fun _ => True) y qa2 nl ys) := fun y hy => (h2.mono (fun _ _ _ => trivial)).later hy
        have zz4 : wb.heap.size ≤ wd.heap.size := by have := hb.size; simpa using this
        clear hb h1 h2
        go_wp2_with fail
        refine hK.out _ _ (KS.out _ D4.out) (fun hHeld5 => ?_)
        clear hK K
        try simp only [Act.put, List.getElem_toArray, List.getElem_cons_zero, List.getElem_cons_succ, List.setIfInBounds_toArray, List.set_cons_zero, List.set_cons_succ]
        refine wpAnyH_ready (rs := [6]) (by kernel_rfl) (by simp) ?_
        refine AllReadyH.cons rfl (fun K hK => ?_) AllReadyH.nil
        go_simp
        go_at_call 8
        refine (shapeJoinSpec _ _ _ _ _ _ _ _ _ _ _ _ _ _ _ _ _ us vs xs ys L _ (FL.out _ (Below.refl _ _)).cls (FU.out _ (Below.refl _ _)).ints (FV.out _ (Below.refl _ _)).ints (FX.out _ (Below.refl _ _)).ints (FY.out _ (Below.refl _ _)).ints hll).mono ?_
        intro e ws hP
        rw [HJ.out] at hP
        obtain ⟨sa, n1, sc, sb, n2, sd, rfl, hI1, hI2, hb⟩ := hP
        obtain rfl : ps.length = n1 := hI1.size
        obtain rfl : qs.length = n2 := hI2.size
        replace FL : Hid (∀ y, Below ws.heap.size ws y → SlAt clR (fun _ => True) y ga cn L) := fun y hy => FL.out y (Below.trans (hb) (hy.mono (Below.size (hb))))
        replace FB : Hid (∀ y, Below ws.heap.size ws y → y.heap[wa.heap.size]? = some (.cells #[.bool false, .slice none 0 0, .slice none 0 0] 26 (0, 0)) ∧ wa.heap.size < y.heap.size) := fun y hy => FB.out y (Below.trans (hb) (hy.mono (Below.size (hb))))
        replace FU : Hid (∀ y, Below ws.heap.size ws y → SlAt intR (fun _ => True) y pa1 ll us) := fun y hy => FU.out y (Below.trans (hb) (hy.mono (Below.size (hb))))
        replace FV : Hid (∀ y, Below ws.heap.size ws y → SlAt intR (fun _ => True) y pa2 kl vs) := fun y hy => FV.out y (Below.trans (hb) (hy.mono (Below.size (hb))))
        replace FX : Hid (∀ y, Below ws.heap.size ws y → SlAt intR (fun _ => True) y qa1 ml xs) := fun y hy => FX.out y (Below.trans (hb) (hy.mono (Below.size (hb))))
        replace FY : Hid (∀ y, Below ws.heap.size ws y → SlAt intR (fun _ => True) y qa2 nl ys) := fun y hy => FY.out y (Below.trans (hb) (hy.mono (Below.size (hb))))
        have D5 : Hid (Below w3.heap.size w3 ws) := D4.out.trans (Below.mono (hb) D4.out.size)
        have FJ : Hid (∀ y, Below ws.heap.size ws y → SlAt intR (fun b => wd.heap.size ≤ b ∧ b < ws.heap.size) y sa ps.length ps ∧ SlAt intR (fun b => wd.heap.size ≤ b ∧ b < ws.heap.size) y sb qs.length qs) := fun y hy => ⟨(SlAt.mono hI1.sl (fun b h1 h2 => ⟨by simpa using h1, h2⟩)).later hy, (SlAt.mono hI2.sl (fun b h1 h2 => ⟨by simpa using h1, h2⟩)).later hy⟩
        have zs : wd.heap.size ≤ ws.heap.size := by have := hb.size; simpa using this
        have lS : w3.heap.size ≤ wd.heap.size := by have := D4.out.size; first | exact this | (simp at this; omega)
        clear hb hI1 hI2
        go_wp2_with fail
        refine hK.out _ _ (KS.out _ D5.out) (fun hHeld6 => ?_)
        clear hK K
        try simp only [Act.put, List.getElem_toArray, List.getElem_cons_zero, List.getElem_cons_succ, List.setIfInBounds_toArray, List.set_cons_zero, List.set_cons_succ]
        refine wpAnyH_ready (rs := [8]) (by kernel_rfl) (by simp) ?_
        refine AllReadyH.cons rfl (fun K hK => ?_) AllReadyH.nil
        obtain ⟨fb, fbl⟩ := FB.out ws (Below.refl _ _)
        have z0 : ws.cell? ⟨wa.heap.size, 0, none⟩ = some (.bool false) := (boxG fb 0).1
        have z1 : ws.cell? ⟨wa.heap.size, 1, none⟩ = some (.slice none 0 0) := (boxG fb 1).1
        have z2 : ws.cell? ⟨wa.heap.size, 2, none⟩ = some (.slice none 0 0) := (boxG fb 2).1
        have f0 : ws.frozen? ⟨wa.heap.size, 0, none⟩ = false := (boxG fb 0).2
        have f1 : ws.frozen? ⟨wa.heap.size, 1, none⟩ = false := (boxG fb 1).2
        have f2 : ws.frozen? ⟨wa.heap.size, 2, none⟩ = false := (boxG fb 2).2
        have FIN0 : w3.heap.size ≤ wa.heap.size ∧ wa.heap.size < (((ws.setCell ⟨wa.heap.size, 0, none⟩ (.bool s0)).setCell ⟨wa.heap.size, 1, none⟩ (.slice sa ps.length sc)).setCell ⟨wa.heap.size, 2, none⟩ (.slice sb qs.length sd)).heap.size ∧ (((ws.setCell ⟨wa.heap.size, 0, none⟩ (.bool s0)).setCell ⟨wa.heap.size, 1, none⟩ (.slice sa ps.length sc)).setCell ⟨wa.heap.size, 2, none⟩ (.slice sb qs.length sd)).heap[wa.heap.size]? = some (.cells #[.bool s0, .slice sa ps.length sc, .slice sb qs.length sd] 26 (0, 0)) ∧ SlAt intR (fun b => w3.heap.size ≤ b ∧ b ≠ wa.heap.size) (((ws.setCell ⟨wa.heap.size, 0, none⟩ (.bool s0)).setCell ⟨wa.heap.size, 1, none⟩ (.slice sa ps.length sc)).setCell ⟨wa.heap.size, 2, none⟩ (.slice sb qs.length sd)) sa ps.length ps ∧ SlAt intR (fun b => w3.heap.size ≤ b ∧ b ≠ wa.heap.size) (((ws.setCell ⟨wa.heap.size, 0, none⟩ (.bool s0)).setCell ⟨wa.heap.size, 1, none⟩ (.slice sa ps.length sc)).setCell ⟨wa.heap.size, 2, none⟩ (.slice sb qs.length sd)) sb qs.length qs ∧ Below w3.heap.size w3 (((ws.setCell ⟨wa.heap.size, 0, none⟩ (.bool s0)).setCell ⟨wa.heap.size, 1, none⟩ (.slice sa ps.length sc)).setCell ⟨wa.heap.size, 2, none⟩ (.slice sb qs.length sd)) := by
          refine ⟨lX, by simp only [World.size_setCell]; exact fbl, boxS (boxS (boxS fb 0 _) 1 _) 2 _, ((((SlAt.mono (FJ.out ws (Below.refl _ _)).1 (E := fun b => w3.heap.size ≤ b ∧ b ≠ wa.heap.size) (fun b hb _ => ⟨by omega, by omega⟩))).set ⟨wa.heap.size, 0, none⟩ (.bool s0) (by simp)).set ⟨wa.heap.size, 1, none⟩ (.slice sa ps.length sc) (by simp)).set ⟨wa.heap.size, 2, none⟩ (.slice sb qs.length sd) (by simp), ((((SlAt.mono (FJ.out ws (Below.refl _ _)).2 (E := fun b => w3.heap.size ≤ b ∧ b ≠ wa.heap.size) (fun b hb _ => ⟨by omega, by omega⟩))).set ⟨wa.heap.size, 0, none⟩ (.bool s0) (by simp)).set ⟨wa.heap.size, 1, none⟩ (.slice sa ps.length sc) (by simp)).set ⟨wa.heap.size, 2, none⟩ (.slice sb qs.length sd) (by simp), ((D5.out.setCell lX _).setCell lX _).setCell lX _⟩
        have FIN : Hid (w3.heap.size ≤ wa.heap.size ∧ wa.heap.size < (((ws.setCell ⟨wa.heap.size, 0, none⟩ (.bool s0)).setCell ⟨wa.heap.size, 1, none⟩ (.slice sa ps.length sc)).setCell ⟨wa.heap.size, 2, none⟩ (.slice sb qs.length sd)).heap.size ∧ (((ws.setCell ⟨wa.heap.size, 0, none⟩ (.bool s0)).setCell ⟨wa.heap.size, 1, none⟩ (.slice sa ps.length sc)).setCell ⟨wa.heap.size, 2, none⟩ (.slice sb qs.length sd)).heap[wa.heap.size]? = some (.cells #[.bool s0, .slice sa ps.length sc, .slice sb qs.length sd] 26 (0, 0)) ∧ SlAt intR (fun b => w3.heap.size ≤ b ∧ b ≠ wa.heap.size) (((ws.setCell ⟨wa.heap.size, 0, none⟩ (.bool s0)).setCell ⟨wa.heap.size, 1, none⟩ (.slice sa ps.length sc)).setCell ⟨wa.heap.size, 2, none⟩ (.slice sb qs.length sd)) sa ps.length ps ∧ SlAt intR (fun b => w3.heap.size ≤ b ∧ b ≠ wa.heap.size) (((ws.setCell ⟨wa.heap.size, 0, none⟩ (.bool s0)).setCell ⟨wa.heap.size, 1, none⟩ (.slice sa ps.length sc)).setCell ⟨wa.heap.size, 2, none⟩ (.slice sb qs.length sd)) sb qs.length qs ∧ Below w3.heap.size w3 (((ws.setCell ⟨wa.heap.size, 0, none⟩ (.bool s0)).setCell ⟨wa.heap.size, 1, none⟩ (.slice sa ps.length sc)).setCell ⟨wa.heap.size, 2, none⟩ (.slice sb qs.length sd))) := FIN0
        clear FIN0
        go_simp
        refine hK.out _ _ ?_ (fun hHeld7 => ?_)
        · exact KS.out _ FIN.out.2.2.2.2.2
        clear hK K
        try simp only [Act.put, List.getElem_toArray, List.getElem_cons_zero, List.getElem_cons_succ, List.setIfInBounds_toArray, List.set_cons_zero, List.set_cons_succ]
        refine wpAnyH_done (by kernel_rfl) ?_ _
        clear hHeld hHeld2 hHeld3 hHeld4 hHeld5 hHeld6 hHeld7
        go_wp2_with fail
        go_meet
        exact ⟨_, _, _, _, _, rfl, FIN.out⟩
    · go_simp
      have D1 : Hid (Below w3.heap.size w3 ((w3.drewN 1).alloc (.cells #[.bool false, .slice none 0 0, .slice none 0 0] 26))) := D0.out.trans (Below.mono ((Below.refl (w3.drewN 1).heap.size (w3.drewN 1)).alloc (Nat.le_refl _) _) D0.out.size)
      have lX : w3.heap.size ≤ w3.heap.size := by have := D0.out.size; first | exact this | (simp at this; omega)
      have FB : Hid (∀ y, Below ((w3.drewN 1).alloc (.cells #[.bool false, .slice none 0 0, .slice none 0 0] 26)).heap.size ((w3.drewN 1).alloc (.cells #[.bool false, .slice none 0 0, .slice none 0 0] 26)) y → y.heap[w3.heap.size]? = some (.cells #[.bool false, .slice none 0 0, .slice none 0 0] 26 (0, 0)) ∧ w3.heap.size < y.heap.size) := fun y hy => ⟨(hy.block _ (by simp)).trans (boxN _ _ _ _ (by simp)), Nat.lt_of_lt_of_le (by simp) hy.size⟩
      refine hK.out _ _ (KS.out _ D1.out) (fun hHeld2 => ?_)
      clear hK K
      try simp only [Act.put, List.getElem_toArray, List.getElem_cons_zero, List.getElem_cons_succ, List.setIfInBounds_toArray, List.set_cons_zero, List.set_cons_succ]
      refine wpAnyH_ready (rs := [1]) (by kernel_rfl) (by simp) ?_
      refine AllReadyH.cons rfl (fun K hK => ?_) AllReadyH.nil
      go_simp
      go_at_call 12
      refine (toLClass _ _ _ L _ (H.out.later (B.out _ D1.out)) SL.out).mono ?_
      rintro e wa ⟨ga, gc, rfl, h1, hb⟩
      replace FB : Hid (∀ y, Below wa.heap.size wa y → y.heap[w3.heap.size]? = some (.cells #[.bool false, .slice none 0 0, .slice none 0 0] 26 (0, 0)) ∧ w3.heap.size < y.heap.size) := fun y hy => FB.out y (Below.trans (hb) (hy.mono (Below.size (hb))))
      have D2 : Hid (Below w3.heap.size w3 wa) := D1.out.trans (Below.mono (hb) D1.out.size)
      have FL : Hid (∀ y, Below wa.heap.size wa y → SlAt clR (fun _ => True) y ga cn L) := fun y hy => (h1.mono (fun _ _ _ => trivial)).later hy
      have zz2 : w3.heap.size + 1 ≤ wa.heap.size := by have := hb.size; simpa using this
      clear hb h1
      go_wp2_with fail
      refine hK.out _ _ (KS.out _ D2.out) (fun hHeld3 => ?_)
      clear hK K
      try simp only [Act.put, List.getElem_toArray, List.getElem_cons_zero, List.getElem_cons_succ, List.setIfInBounds_toArray, List.set_cons_zero, List.set_cons_succ]
      refine wpAnyH_ready (rs := [3]) (by kernel_rfl) (by simp) ?_
      refine AllReadyH.cons rfl (fun K hK => ?_) AllReadyH.nil
      go_simp
      go_at_call 13
      refine (toRShape _ _ _ _ _ _ _ us vs _ (HU.out.later (B.out _ D2.out)) SU.out (HV.out.later (B.out _ D2.out)) SV.out).mono ?_
      rintro e wb ⟨pa1, pc1, pa2, pc2, rfl, h1, h2, hb⟩
      replace FB : Hid (∀ y, Below wb.heap.size wb y → y.heap[w3.heap.size]? = some (.cells #[.bool false, .slice none 0 0, .slice none 0 0] 26 (0, 0)) ∧ w3.heap.size < y.heap.size) := fun y hy => FB.out y (Below.trans (hb) (hy.mono (Below.size (hb))))
      replace FL : Hid (∀ y, Below wb.heap.size wb y → SlAt clR (fun _ => True) y ga cn L) := fun y hy => FL.out y (Below.trans (hb) (hy.mono (Below.size (hb))))
      have D3 : Hid (Below w3.heap.size w3 wb) := D2.out.trans (Below.mono (hb) D2.out.size)
      have FU : Hid (∀ y, Below wb.heap.size wb y → SlAt intR (fun _ => True) y pa1 ll us) := fun y hy => (h1.mono (fun _ _ _ => trivial)).later hy
      have FV : Hid (∀ y, Below wb.heap.size wb y → SlAt intR (fun _ => True) y pa2 kl vs) := fun y hy => (h2.mono (fun _ _ _ => trivial)).later hy
      have zz3 : wa.heap.size ≤ wb.heap.size := by have := hb.size; simpa using this
      clear hb h1 h2
      go_wp2_with fail
      refine hK.out _ _ (KS.out _ D3.out) (fun hHeld4 => ?_)
      clear hK K
      try simp only [Act.put, List.getElem_toArray, List.getElem_cons_zero, List.getElem_cons_succ, List.setIfInBounds_toArray, List.set_cons_zero, List.set_cons_succ]
      refine wpAnyH_ready (rs := [5]) (by kernel_rfl) (by simp) ?_
      refine AllReadyH.cons rfl (fun K hK => ?_) AllReadyH.nil
      go_simp
      go_at_call 13
      refine (toRShape _ _ _ _ _ _ _ xs ys _ (HX.out.later (B.out _ D3.out)) SX.out (HY.out.later (B.out _ D3.out)) SY.out).mono ?_
      rintro e wd ⟨qa1, qc1, qa2, qc2, rfl, h1, h2, hb⟩
      replace FB : Hid (∀ y, Below wd.heap.size wd y → y.heap[w3.heap.size]? = some (.cells #[.bool false, .slice none 0 0, .slice none 0 0] 26 (0, 0)) ∧ w3.heap.size < y.heap.size) := fun y hy => FB.out y (Below.trans (hb) (hy.mono (Below.size (hb))))
      replace FL : Hid (∀ y, Below wd.heap.size wd y → SlAt clR (fun _ => True) y ga cn L) := fun y hy => FL.out y (Below.trans (hb) (hy.mono (Below.size (hb))))
      replace FU : Hid (∀ y, Below wd.heap.size wd y → SlAt intR (fun _ => True) y pa1 ll us) := fun y hy => FU.out y (Below.trans (hb) (hy.mono (Below.size (hb))))
      replace FV : Hid (∀ y, Below wd.heap.size wd y → SlAt intR (fun _ => True) y pa2 kl vs) := fun y hy => FV.out y (Below.trans (hb) (hy.mono (Below.size (hb))))
      have D4 : Hid (Below w3.heap.size w3 wd) := D3.out.trans (Below.mono (hb) D3.out.size)
      have FX : Hid (∀ y, Below wd.heap.size wd y → SlAt intR (fun _ => True) y qa1 ml xs) := fun y hy => (h1.mono (fun _ _ _ => trivial)).later hy
      have FY : Hid (∀ y, Below wd.heap.size wd y → SlAt intR (fun _ => True) y qa2 nl ys) := fun y hy => (h2.mono (fun _ _ _ => trivial)).later hy
      have zz4 : wb.heap.size ≤ wd.heap.size := by have := hb.size; simpa using this
      clear hb h1 h2
      go_wp2_with fail
      refine hK.out _ _ (KS.out _ D4.out) (fun hHeld5 => ?_)
      clear hK K
      try simp only [Act.put, List.getElem_toArray, List.getElem_cons_zero, List.getElem_cons_succ, List.setIfInBounds_toArray, List.set_cons_zero, List.set_cons_succ]
      refine wpAnyH_ready (rs := [6]) (by kernel_rfl) (by simp) ?_
      refine AllReadyH.cons rfl (fun K hK => ?_) AllReadyH.nil
      go_simp
      go_at_call 8
      refine (shapeJoinSpec _ _ _ _ _ _ _ _ _ _ _ _ _ _ _ _ _ us vs xs ys L _ (FL.out _ (Below.refl _ _)).cls (FU.out _ (Below.refl _ _)).ints (FV.out _ (Below.refl _ _)).ints (FX.out _ (Below.refl _ _)).ints (FY.out _ (Below.refl _ _)).ints hll).mono ?_
      intro e ws hP
      rw [HJ.out] at hP
      obtain ⟨sa, n1, sc, sb, n2, sd, rfl, hI1, hI2, hb⟩ := hP
      obtain rfl : ps.length = n1 := hI1.size
      obtain rfl : qs.length = n2 := hI2.size
      replace FB : Hid (∀ y, Below ws.heap.size ws y → y.heap[w3.heap.size]? = some (.cells #[.bool false, .slice none 0 0, .slice none 0 0] 26 (0, 0)) ∧ w3.heap.size < y.heap.size) := fun y hy => FB.out y (Below.trans (hb) (hy.mono (Below.size (hb))))
      replace FL : Hid (∀ y, Below ws.heap.size ws y → SlAt clR (fun _ => True) y ga cn L) := fun y hy => FL.out y (Below.trans (hb) (hy.mono (Below.size (hb))))
      replace FU : Hid (∀ y, Below ws.heap.size ws y → SlAt intR (fun _ => True) y pa1 ll us) := fun y hy => FU.out y (Below.trans (hb) (hy.mono (Below.size (hb))))
      replace FV : Hid (∀ y, Below ws.heap.size ws y → SlAt intR (fun _ => True) y pa2 kl vs) := fun y hy => FV.out y (Below.trans (hb) (hy.mono (Below.size (hb))))
      replace FX : Hid (∀ y, Below ws.heap.size ws y → SlAt intR (fun _ => True) y qa1 ml xs) := fun y hy => FX.out y (Below.trans (hb) (hy.mono (Below.size (hb))))
      replace FY : Hid (∀ y, Below ws.heap.size ws y → SlAt intR (fun _ => True) y qa2 nl ys) := fun y hy => FY.out y (Below.trans (hb) (hy.mono (Below.size (hb))))
      have D5 : Hid (Below w3.heap.size w3 ws) := D4.out.trans (Below.mono (hb) D4.out.size)
      have FJ : Hid (∀ y, Below ws.heap.size ws y → SlAt intR (fun b => wd.heap.size ≤ b ∧ b < ws.heap.size) y sa ps.length ps ∧ SlAt intR (fun b => wd.heap.size ≤ b ∧ b < ws.heap.size) y sb qs.length qs) := fun y hy => ⟨(SlAt.mono hI1.sl (fun b h1 h2 => ⟨by simpa using h1, h2⟩)).later hy, (SlAt.mono hI2.sl (fun b h1 h2 => ⟨by simpa using h1, h2⟩)).later hy⟩
      have zs : wd.heap.size ≤ ws.heap.size := by have := hb.size; simpa using this
      have lS : w3.heap.size ≤ wd.heap.size := by have := D4.out.size; first | exact this | (simp at this; omega)
      clear hb hI1 hI2
      go_wp2_with fail
      refine hK.out _ _ (KS.out _ D5.out) (fun hHeld6 => ?_)
      clear hK K
      try simp only [Act.put, List.getElem_toArray, List.getElem_cons_zero, List.getElem_cons_succ, List.setIfInBounds_toArray, List.set_cons_zero, List.set_cons_succ]
      refine wpAnyH_ready (rs := [8]) (by kernel_rfl) (by simp) ?_
      refine AllReadyH.cons rfl (fun K hK => ?_) AllReadyH.nil
      obtain ⟨fb, fbl⟩ := FB.out ws (Below.refl _ _)
      have z0 : ws.cell? ⟨w3.heap.size, 0, none⟩ = some (.bool false) := (boxG fb 0).1
      have z1 : ws.cell? ⟨w3.heap.size, 1, none⟩ = some (.slice none 0 0) := (boxG fb 1).1
      have z2 : ws.cell? ⟨w3.heap.size, 2, none⟩ = some (.slice none 0 0) := (boxG fb 2).1
      have f0 : ws.frozen? ⟨w3.heap.size, 0, none⟩ = false := (boxG fb 0).2
      have f1 : ws.frozen? ⟨w3.heap.size, 1, none⟩ = false := (boxG fb 1).2
      have f2 : ws.frozen? ⟨w3.heap.size, 2, none⟩ = false := (boxG fb 2).2
      have FIN0 : w3.heap.size ≤ w3.heap.size ∧ w3.heap.size < (((ws.setCell ⟨w3.heap.size, 0, none⟩ (.bool s0)).setCell ⟨w3.heap.size, 1, none⟩ (.slice sa ps.length sc)).setCell ⟨w3.heap.size, 2, none⟩ (.slice sb qs.length sd)).heap.size ∧ (((ws.setCell ⟨w3.heap.size, 0, none⟩ (.bool s0)).setCell ⟨w3.heap.size, 1, none⟩ (.slice sa ps.length sc)).setCell ⟨w3.heap.size, 2, none⟩ (.slice sb qs.length sd)).heap[w3.heap.size]? = some (.cells #[.bool s0, .slice sa ps.length sc, .slice sb qs.length sd] 26 (0, 0)) ∧ SlAt intR (fun b => w3.heap.size ≤ b ∧ b ≠ w3.heap.size) (((ws.setCell ⟨w3.heap.size, 0, none⟩ (.bool s0)).setCell ⟨w3.heap.size, 1, none⟩ (.slice sa ps.length sc)).setCell ⟨w3.heap.size, 2, none⟩ (.slice sb qs.length sd)) sa ps.length ps ∧ SlAt intR (fun b => w3.heap.size ≤ b ∧ b ≠ w3.heap.size) (((ws.setCell ⟨w3.heap.size, 0, none⟩ (.bool s0)).setCell ⟨w3.heap.size, 1, none⟩ (.slice sa ps.length sc)).setCell ⟨w3.heap.size, 2, none⟩ (.slice sb qs.length sd)) sb qs.length qs ∧ Below w3.heap.size w3 (((ws.setCell ⟨w3.heap.size, 0, none⟩ (.bool s0)).setCell ⟨w3.heap.size, 1, none⟩ (.slice sa ps.length sc)).setCell ⟨w3.heap.size, 2, none⟩ (.slice sb qs.length sd)) := by
        refine ⟨lX, by simp only [World.size_setCell]; exact fbl, boxS (boxS (boxS fb 0 _) 1 _) 2 _, ((((SlAt.mono (FJ.out ws (Below.refl _ _)).1 (E := fun b => w3.heap.size ≤ b ∧ b ≠ w3.heap.size) (fun b hb _ => ⟨by omega, by omega⟩))).set ⟨w3.heap.size, 0, none⟩ (.bool s0) (by simp)).set ⟨w3.heap.size, 1, none⟩ (.slice sa ps.length sc) (by simp)).set ⟨w3.heap.size, 2, none⟩ (.slice sb qs.length sd) (by simp), ((((SlAt.mono (FJ.out ws (Below.refl _ _)).2 (E := fun b => w3.heap.size ≤ b ∧ b ≠ w3.heap.size) (fun b hb _ => ⟨by omega, by omega⟩))).set ⟨w3.heap.size, 0, none⟩ (.bool s0) (by simp)).set ⟨w3.heap.size, 1, none⟩ (.slice sa ps.length sc) (by simp)).set ⟨w3.heap.size, 2, none⟩ (.slice sb qs.length sd) (by simp), ((D5.out.setCell lX _).setCell lX _).setCell lX _⟩
      have FIN : Hid (w3.heap.size ≤ w3.heap.size ∧ w3.heap.size < (((ws.setCell ⟨w3.heap.size, 0, none⟩ (.bool s0)).setCell ⟨w3.heap.size, 1, none⟩ (.slice sa ps.length sc)).setCell ⟨w3.heap.size, 2, none⟩ (.slice sb qs.length sd)).heap.size ∧ (((ws.setCell ⟨w3.heap.size, 0, none⟩ (.bool s0)).setCell ⟨w3.heap.size, 1, none⟩ (.slice sa ps.length sc)).setCell ⟨w3.heap.size, 2, none⟩ (.slice sb qs.length sd)).heap[w3.heap.size]? = some (.cells #[.bool s0, .slice sa ps.length sc, .slice sb qs.length sd] 26 (0, 0)) ∧ SlAt intR (fun b => w3.heap.size ≤ b ∧ b ≠ w3.heap.size) (((ws.setCell ⟨w3.heap.size, 0, none⟩ (.bool s0)).setCell ⟨w3.heap.size, 1, none⟩ (.slice sa ps.length sc)).setCell ⟨w3.heap.size, 2, none⟩ (.slice sb qs.length sd)) sa ps.length ps ∧ SlAt intR (fun b => w3.heap.size ≤ b ∧ b ≠ w3.heap.size) (((ws.setCell ⟨w3.heap.size, 0, none⟩ (.bool s0)).setCell ⟨w3.heap.size, 1, none⟩ (.slice sa ps.length sc)).setCell ⟨w3.heap.size, 2, none⟩ (.slice sb qs.length sd)) sb qs.length qs ∧ Below w3.heap.size w3 (((ws.setCell ⟨w3.heap.size, 0, none⟩ (.bool s0)).setCell ⟨w3.heap.size, 1, none⟩ (.slice sa ps.length sc)).setCell ⟨w3.heap.size, 2, none⟩ (.slice sb qs.length sd))) := FIN0
      clear FIN0
      go_simp
      refine hK.out _ _ ?_ (fun hHeld7 => ?_)
      · exact KS.out _ FIN.out.2.2.2.2.2
      clear hK K
      try simp only [Act.put, List.getElem_toArray, List.getElem_cons_zero, List.getElem_cons_succ, List.setIfInBounds_toArray, List.set_cons_zero, List.set_cons_succ]
      refine wpAnyH_done (by kernel_rfl) ?_ _
      clear hHeld hHeld2 hHeld3 hHeld4 hHeld5 hHeld6 hHeld7
      go_wp2_with fail
      go_meet
      exact ⟨_, _, _, _, _, rfl, FIN.out⟩
  case rest =>
  obtain ⟨X, sa, sc, sb, sd, rfl, hX0, hX1, hbx, hS0, hS1, hb⟩ := hcut
  obtain ⟨w4, rfl⟩ : ∃ x, x = wc := ⟨_, rfl⟩
  have BP : Hid (Below w3.heap.size w3 w3) := Below.refl _ _
  have hq : Below w3.heap.size w3 w4 := BP.out.trans (Below.mono hb BP.out.size)
  replace B : Hid (∀ y, Below w4.heap.size w4 y → Below w.heap.size w y) := fun y hy => B.out y (hq.trans (hy.mono hq.size))
  replace XA : Hid (∀ y, Below w4.heap.size w4 y → y.heap[w.heap.size]? = some (.cells #[.bool x0, .slice la ll lc, .slice ka kl kc] 34 (0, 0))) := fun y hy => XA.out y (hq.trans (hy.mono hq.size))
  replace lA : w.heap.size < w4.heap.size := Nat.lt_of_lt_of_le lA hq.size
  replace XC : Hid (∀ y, Below w4.heap.size w4 y → y.heap[w.heap.size + 1]? = some (.cells #[.bool y0, .slice ma ml mc, .slice na nl nc] 34 (0, 0))) := fun y hy => XC.out y (hq.trans (hy.mono hq.size))
  replace lC : w.heap.size + 1 < w4.heap.size := Nat.lt_of_lt_of_le lC hq.size
  have zw4 : w3.heap.size ≤ w4.heap.size := hq.size
  clear hq BP
  have lW : X < w4.heap.size := hX1
  have XW : Hid (∀ y, Below w4.heap.size w4 y → y.heap[X]? = some (.cells #[.bool s0, .slice sa ps.length sc, .slice sb qs.length sd] 26 (0, 0))) := fun y hy => (hy.block _ hX1).trans hbx
  have S0 : Hid (∀ y, Below w4.heap.size w4 y → SlAt intR (fun b => b < w4.heap.size) y sa ps.length ps) := fun y hy => (hS0.mono (fun b _ h => h)).later hy
  have S1 : Hid (∀ y, Below w4.heap.size w4 y → SlAt intR (fun b => b < w4.heap.size) y sb qs.length qs) := fun y hy => (hS1.mono (fun b _ h => h)).later hy
  have yA : w.heap.size < w4.heap.size := lA
  have yC : w.heap.size + 1 < w4.heap.size := lC
  have yX : X < w4.heap.size := hX1
  clear hb hbx hS0 hS1 hX0 hX1
  have kA0 : w4.cell? ⟨w.heap.size, 0, none⟩ = some (.bool x0) := (boxG (XA.out w4 (Below.refl _ _)) 0).1
  have kA1 : w4.cell? ⟨w.heap.size, 1, none⟩ = some (.slice la ll lc) := (boxG (XA.out w4 (Below.refl _ _)) 1).1
  have kA2 : w4.cell? ⟨w.heap.size, 2, none⟩ = some (.slice ka kl kc) := (boxG (XA.out w4 (Below.refl _ _)) 2).1
  have kC0 : w4.cell? ⟨w.heap.size + 1, 0, none⟩ = some (.bool y0) := (boxG (XC.out w4 (Below.refl _ _)) 0).1
  have kC1 : w4.cell? ⟨w.heap.size + 1, 1, none⟩ = some (.slice ma ml mc) := (boxG (XC.out w4 (Below.refl _ _)) 1).1
  have kC2 : w4.cell? ⟨w.heap.size + 1, 2, none⟩ = some (.slice na nl nc) := (boxG (XC.out w4 (Below.refl _ _)) 2).1
  have kW0 : w4.cell? ⟨X, 0, none⟩ = some (.bool s0) := (boxG (XW.out w4 (Below.refl _ _)) 0).1
  have kW1 : w4.cell? ⟨X, 1, none⟩ = some (.slice sa ps.length sc) := (boxG (XW.out w4 (Below.refl _ _)) 1).1
  have kW2 : w4.cell? ⟨X, 2, none⟩ = some (.slice sb qs.length sd) := (boxG (XW.out w4 (Below.refl _ _)) 2).1
  have BP : Hid (Below w4.heap.size w4 w4) := Below.refl _ _
  go_wp2_with fail
  refine (toLClassF _ _ _ L _ (H.out.later (B.out _ BP.out)) SL.out).mono ?_
  rintro e w5 ⟨⟨ga, gc, rfl, h1, hb⟩, hfz⟩
  have hq : Below w4.heap.size w4 w5 := BP.out.trans (Below.mono hb BP.out.size)
  replace B : Hid (∀ y, Below w5.heap.size w5 y → Below w.heap.size w y) := fun y hy => B.out y (hq.trans (hy.mono hq.size))
  replace S0 : Hid (∀ y, Below w5.heap.size w5 y → SlAt intR (fun b => b < w4.heap.size) y sa ps.length ps) := fun y hy => S0.out y (hq.trans (hy.mono hq.size))
  replace S1 : Hid (∀ y, Below w5.heap.size w5 y → SlAt intR (fun b => b < w4.heap.size) y sb qs.length qs) := fun y hy => S1.out y (hq.trans (hy.mono hq.size))
  replace XA : Hid (∀ y, Below w5.heap.size w5 y → y.heap[w.heap.size]? = some (.cells #[.bool x0, .slice la ll lc, .slice ka kl kc] 34 (0, 0))) := fun y hy => XA.out y (hq.trans (hy.mono hq.size))
  replace lA : w.heap.size < w5.heap.size := Nat.lt_of_lt_of_le lA hq.size
  replace XC : Hid (∀ y, Below w5.heap.size w5 y → y.heap[w.heap.size + 1]? = some (.cells #[.bool y0, .slice ma ml mc, .slice na nl nc] 34 (0, 0))) := fun y hy => XC.out y (hq.trans (hy.mono hq.size))
  replace lC : w.heap.size + 1 < w5.heap.size := Nat.lt_of_lt_of_le lC hq.size
  replace XW : Hid (∀ y, Below w5.heap.size w5 y → y.heap[X]? = some (.cells #[.bool s0, .slice sa ps.length sc, .slice sb qs.length sd] 26 (0, 0))) := fun y hy => XW.out y (hq.trans (hy.mono hq.size))
  replace lW : X < w5.heap.size := Nat.lt_of_lt_of_le lW hq.size
  have zw5 : w4.heap.size ≤ w5.heap.size := hq.size
  clear hq BP
  clear kA0 kA1 kA2 kC0 kC1 kC2 kW0 kW1 kW2
  have T : Hid (∀ y, Below w5.heap.size w5 y → SlAt clR (fun b => w4.heap.size ≤ b ∧ b < w5.heap.size) y ga cn L) := fun y hy => (h1.mono (fun b h1 h2 => ⟨h1, h2⟩)).later hy
  have TF : Hid (∀ y, Below w5.heap.size w5 y → Thw (fun b => w4.heap.size ≤ b ∧ b < w5.heap.size) y) := fun y hy b o hd => (hy.frozen (p := ⟨b, o, none⟩) hd.2).trans ((hfz _).trans (frozenPast _ _ _ hd.1))
  clear h1 hb hfz
  have kA0 : w5.cell? ⟨w.heap.size, 0, none⟩ = some (.bool x0) := (boxG (XA.out w5 (Below.refl _ _)) 0).1
  have kA1 : w5.cell? ⟨w.heap.size, 1, none⟩ = some (.slice la ll lc) := (boxG (XA.out w5 (Below.refl _ _)) 1).1
  have kA2 : w5.cell? ⟨w.heap.size, 2, none⟩ = some (.slice ka kl kc) := (boxG (XA.out w5 (Below.refl _ _)) 2).1
  have kC0 : w5.cell? ⟨w.heap.size + 1, 0, none⟩ = some (.bool y0) := (boxG (XC.out w5 (Below.refl _ _)) 0).1
  have kC1 : w5.cell? ⟨w.heap.size + 1, 1, none⟩ = some (.slice ma ml mc) := (boxG (XC.out w5 (Below.refl _ _)) 1).1
  have kC2 : w5.cell? ⟨w.heap.size + 1, 2, none⟩ = some (.slice na nl nc) := (boxG (XC.out w5 (Below.refl _ _)) 2).1
  have kW0 : w5.cell? ⟨X, 0, none⟩ = some (.bool s0) := (boxG (XW.out w5 (Below.refl _ _)) 0).1
  have kW1 : w5.cell? ⟨X, 1, none⟩ = some (.slice sa ps.length sc) := (boxG (XW.out w5 (Below.refl _ _)) 1).1
  have kW2 : w5.cell? ⟨X, 2, none⟩ = some (.slice sb qs.length sd) := (boxG (XW.out w5 (Below.refl _ _)) 2).1
  have BP : Hid (Below w5.heap.size w5 w5) := Below.refl _ _
  go_wp2_with fail
  refine (toRShapeF _ _ _ _ _ _ _ us vs _ (HU.out.later (B.out _ BP.out)) SU.out (HV.out.later (B.out _ BP.out)) SV.out).mono ?_
  rintro e w6 ⟨⟨ia1, ic1, ia2, ic2, rfl, h1, h2, hb⟩, hfz⟩
  have hq : Below w5.heap.size w5 w6 := BP.out.trans (Below.mono hb BP.out.size)
  replace B : Hid (∀ y, Below w6.heap.size w6 y → Below w.heap.size w y) := fun y hy => B.out y (hq.trans (hy.mono hq.size))
  replace S0 : Hid (∀ y, Below w6.heap.size w6 y → SlAt intR (fun b => b < w4.heap.size) y sa ps.length ps) := fun y hy => S0.out y (hq.trans (hy.mono hq.size))
  replace S1 : Hid (∀ y, Below w6.heap.size w6 y → SlAt intR (fun b => b < w4.heap.size) y sb qs.length qs) := fun y hy => S1.out y (hq.trans (hy.mono hq.size))
  replace T : Hid (∀ y, Below w6.heap.size w6 y → SlAt clR (fun b => w4.heap.size ≤ b ∧ b < w5.heap.size) y ga cn L) := fun y hy => T.out y (hq.trans (hy.mono hq.size))
  replace TF : Hid (∀ y, Below w6.heap.size w6 y → Thw (fun b => w4.heap.size ≤ b ∧ b < w5.heap.size) y) := fun y hy => TF.out y (hq.trans (hy.mono hq.size))
  replace XA : Hid (∀ y, Below w6.heap.size w6 y → y.heap[w.heap.size]? = some (.cells #[.bool x0, .slice la ll lc, .slice ka kl kc] 34 (0, 0))) := fun y hy => XA.out y (hq.trans (hy.mono hq.size))
  replace lA : w.heap.size < w6.heap.size := Nat.lt_of_lt_of_le lA hq.size
  replace XC : Hid (∀ y, Below w6.heap.size w6 y → y.heap[w.heap.size + 1]? = some (.cells #[.bool y0, .slice ma ml mc, .slice na nl nc] 34 (0, 0))) := fun y hy => XC.out y (hq.trans (hy.mono hq.size))
  replace lC : w.heap.size + 1 < w6.heap.size := Nat.lt_of_lt_of_le lC hq.size
  replace XW : Hid (∀ y, Below w6.heap.size w6 y → y.heap[X]? = some (.cells #[.bool s0, .slice sa ps.length sc, .slice sb qs.length sd] 26 (0, 0))) := fun y hy => XW.out y (hq.trans (hy.mono hq.size))
  replace lW : X < w6.heap.size := Nat.lt_of_lt_of_le lW hq.size
  have zw6 : w5.heap.size ≤ w6.heap.size := hq.size
  clear hq BP
  clear kA0 kA1 kA2 kC0 kC1 kC2 kW0 kW1 kW2
  have I1 : Hid (∀ y, Below w6.heap.size w6 y → SlAt intR (fun b => w5.heap.size ≤ b ∧ b < w6.heap.size) y ia1 ll us) := fun y hy => (h1.mono (fun b h1 h2 => ⟨by simpa using h1, h2⟩)).later hy
  have I2 : Hid (∀ y, Below w6.heap.size w6 y → SlAt intR (fun b => w5.heap.size ≤ b ∧ b < w6.heap.size) y ia2 kl vs) := fun y hy => (h2.mono (fun b h1 h2 => ⟨by simpa using h1, h2⟩)).later hy
  have IF : Hid (∀ y, Below w6.heap.size w6 y → Thw (fun b => w5.heap.size ≤ b ∧ b < w6.heap.size) y) := fun y hy b o hd => (hy.frozen (p := ⟨b, o, none⟩) hd.2).trans ((hfz _).trans (frozenPast _ _ _ (by simpa using hd.1)))
  clear h1 h2 hb hfz
  have kA0 : w6.cell? ⟨w.heap.size, 0, none⟩ = some (.bool x0) := (boxG (XA.out w6 (Below.refl _ _)) 0).1
  have kA1 : w6.cell? ⟨w.heap.size, 1, none⟩ = some (.slice la ll lc) := (boxG (XA.out w6 (Below.refl _ _)) 1).1
  have kA2 : w6.cell? ⟨w.heap.size, 2, none⟩ = some (.slice ka kl kc) := (boxG (XA.out w6 (Below.refl _ _)) 2).1
  have kC0 : w6.cell? ⟨w.heap.size + 1, 0, none⟩ = some (.bool y0) := (boxG (XC.out w6 (Below.refl _ _)) 0).1
  have kC1 : w6.cell? ⟨w.heap.size + 1, 1, none⟩ = some (.slice ma ml mc) := (boxG (XC.out w6 (Below.refl _ _)) 1).1
  have kC2 : w6.cell? ⟨w.heap.size + 1, 2, none⟩ = some (.slice na nl nc) := (boxG (XC.out w6 (Below.refl _ _)) 2).1
  have kW0 : w6.cell? ⟨X, 0, none⟩ = some (.bool s0) := (boxG (XW.out w6 (Below.refl _ _)) 0).1
  have kW1 : w6.cell? ⟨X, 1, none⟩ = some (.slice sa ps.length sc) := (boxG (XW.out w6 (Below.refl _ _)) 1).1
  have kW2 : w6.cell? ⟨X, 2, none⟩ = some (.slice sb qs.length sd) := (boxG (XW.out w6 (Below.refl _ _)) 2).1
  have BP : Hid (Below w6.heap.size w6 (w6.alloc (.cells #[.bool x0, .slice ia1 ll (ll + ic1), .slice ia2 kl (kl + ic2)] 26))) := (Below.refl _ _).alloc (Nat.le_refl _) _
  go_wp2_with fail
  refine (toRShapeF _ _ _ _ _ _ _ xs ys _ (HX.out.later (B.out _ BP.out)) SX.out (HY.out.later (B.out _ BP.out)) SY.out).mono ?_
  rintro e w7 ⟨⟨ja1, jc1, ja2, jc2, rfl, h1, h2, hb⟩, hfz⟩
  have hq : Below w6.heap.size w6 w7 := BP.out.trans (Below.mono hb BP.out.size)
  replace B : Hid (∀ y, Below w7.heap.size w7 y → Below w.heap.size w y) := fun y hy => B.out y (hq.trans (hy.mono hq.size))
  replace S0 : Hid (∀ y, Below w7.heap.size w7 y → SlAt intR (fun b => b < w4.heap.size) y sa ps.length ps) := fun y hy => S0.out y (hq.trans (hy.mono hq.size))
  replace S1 : Hid (∀ y, Below w7.heap.size w7 y → SlAt intR (fun b => b < w4.heap.size) y sb qs.length qs) := fun y hy => S1.out y (hq.trans (hy.mono hq.size))
  replace T : Hid (∀ y, Below w7.heap.size w7 y → SlAt clR (fun b => w4.heap.size ≤ b ∧ b < w5.heap.size) y ga cn L) := fun y hy => T.out y (hq.trans (hy.mono hq.size))
  replace TF : Hid (∀ y, Below w7.heap.size w7 y → Thw (fun b => w4.heap.size ≤ b ∧ b < w5.heap.size) y) := fun y hy => TF.out y (hq.trans (hy.mono hq.size))
  replace I1 : Hid (∀ y, Below w7.heap.size w7 y → SlAt intR (fun b => w5.heap.size ≤ b ∧ b < w6.heap.size) y ia1 ll us) := fun y hy => I1.out y (hq.trans (hy.mono hq.size))
  replace I2 : Hid (∀ y, Below w7.heap.size w7 y → SlAt intR (fun b => w5.heap.size ≤ b ∧ b < w6.heap.size) y ia2 kl vs) := fun y hy => I2.out y (hq.trans (hy.mono hq.size))
  replace IF : Hid (∀ y, Below w7.heap.size w7 y → Thw (fun b => w5.heap.size ≤ b ∧ b < w6.heap.size) y) := fun y hy => IF.out y (hq.trans (hy.mono hq.size))
  replace XA : Hid (∀ y, Below w7.heap.size w7 y → y.heap[w.heap.size]? = some (.cells #[.bool x0, .slice la ll lc, .slice ka kl kc] 34 (0, 0))) := fun y hy => XA.out y (hq.trans (hy.mono hq.size))
  replace lA : w.heap.size < w7.heap.size := Nat.lt_of_lt_of_le lA hq.size
  replace XC : Hid (∀ y, Below w7.heap.size w7 y → y.heap[w.heap.size + 1]? = some (.cells #[.bool y0, .slice ma ml mc, .slice na nl nc] 34 (0, 0))) := fun y hy => XC.out y (hq.trans (hy.mono hq.size))
  replace lC : w.heap.size + 1 < w7.heap.size := Nat.lt_of_lt_of_le lC hq.size
  replace XW : Hid (∀ y, Below w7.heap.size w7 y → y.heap[X]? = some (.cells #[.bool s0, .slice sa ps.length sc, .slice sb qs.length sd] 26 (0, 0))) := fun y hy => XW.out y (hq.trans (hy.mono hq.size))
  replace lW : X < w7.heap.size := Nat.lt_of_lt_of_le lW hq.size
  have lI : w6.heap.size < w7.heap.size := Nat.lt_of_lt_of_le (by simp) (Below.size hb)
  have XI : Hid (∀ y, Below w7.heap.size w7 y → y.heap[w6.heap.size]? = some (.cells #[.bool x0, .slice ia1 ll (ll + ic1), .slice ia2 kl (kl + ic2)] 26 (0, 0))) := fun y hy => (hy.block _ lI).trans ((Below.block hb _ (by simp)).trans (boxN _ _ _ _ rfl))
  have zw7 : w6.heap.size + 1 ≤ w7.heap.size := Nat.le_trans (Nat.le_of_eq (by simp)) (Below.size hb)
  clear hq BP
  clear kA0 kA1 kA2 kC0 kC1 kC2 kW0 kW1 kW2
  have J1 : Hid (∀ y, Below w7.heap.size w7 y → SlAt intR (fun b => w6.heap.size + 1 ≤ b ∧ b < w7.heap.size) y ja1 ml xs) := fun y hy => (h1.mono (fun b h1 h2 => ⟨by simpa using h1, h2⟩)).later hy
  have J2 : Hid (∀ y, Below w7.heap.size w7 y → SlAt intR (fun b => w6.heap.size + 1 ≤ b ∧ b < w7.heap.size) y ja2 nl ys) := fun y hy => (h2.mono (fun b h1 h2 => ⟨by simpa using h1, h2⟩)).later hy
  have JF : Hid (∀ y, Below w7.heap.size w7 y → Thw (fun b => w6.heap.size + 1 ≤ b ∧ b < w7.heap.size) y) := fun y hy b o hd => (hy.frozen (p := ⟨b, o, none⟩) hd.2).trans ((hfz _).trans (frozenPast _ _ _ (by simpa using hd.1)))
  clear h1 h2 hb hfz
  have kA0 : w7.cell? ⟨w.heap.size, 0, none⟩ = some (.bool x0) := (boxG (XA.out w7 (Below.refl _ _)) 0).1
  have kA1 : w7.cell? ⟨w.heap.size, 1, none⟩ = some (.slice la ll lc) := (boxG (XA.out w7 (Below.refl _ _)) 1).1
  have kA2 : w7.cell? ⟨w.heap.size, 2, none⟩ = some (.slice ka kl kc) := (boxG (XA.out w7 (Below.refl _ _)) 2).1
  have kC0 : w7.cell? ⟨w.heap.size + 1, 0, none⟩ = some (.bool y0) := (boxG (XC.out w7 (Below.refl _ _)) 0).1
  have kC1 : w7.cell? ⟨w.heap.size + 1, 1, none⟩ = some (.slice ma ml mc) := (boxG (XC.out w7 (Below.refl _ _)) 1).1
  have kC2 : w7.cell? ⟨w.heap.size + 1, 2, none⟩ = some (.slice na nl nc) := (boxG (XC.out w7 (Below.refl _ _)) 2).1
  have kW0 : w7.cell? ⟨X, 0, none⟩ = some (.bool s0) := (boxG (XW.out w7 (Below.refl _ _)) 0).1
  have kW1 : w7.cell? ⟨X, 1, none⟩ = some (.slice sa ps.length sc) := (boxG (XW.out w7 (Below.refl _ _)) 1).1
  have kW2 : w7.cell? ⟨X, 2, none⟩ = some (.slice sb qs.length sd) := (boxG (XW.out w7 (Below.refl _ _)) 2).1
  have kI0 : w7.cell? ⟨w6.heap.size, 0, none⟩ = some (.bool x0) := (boxG (XI.out w7 (Below.refl _ _)) 0).1
  have kI1 : w7.cell? ⟨w6.heap.size, 1, none⟩ = some (.slice ia1 ll (ll + ic1)) := (boxG (XI.out w7 (Below.refl _ _)) 1).1
  have kI2 : w7.cell? ⟨w6.heap.size, 2, none⟩ = some (.slice ia2 kl (kl + ic2)) := (boxG (XI.out w7 (Below.refl _ _)) 2).1
  have BP : Hid (Below w7.heap.size w7 (w7.alloc (.cells #[.bool y0, .slice ja1 ml (ml + jc1), .slice ja2 nl (nl + jc2)] 26))) := (Below.refl _ _).alloc (Nat.le_refl _) _
  go_wp2_with fail
  have hll : ll ≤ 1048576 := by rw [← HU.out.size]; exact SU.out.1
  have hkl : kl ≤ 1048576 := by rw [← HV.out.size]; exact SV.out.1
  refine (shapeJoinImpl _ _ _ _ _ _ _ _ _ _ _ _ _ _ _ _ _ us vs xs ys ea L _ (T.out _ BP.out).cls (I1.out _ BP.out).ints (I2.out _ BP.out).ints (J1.out _ BP.out).ints (J2.out _ BP.out).ints hll hkl (HG.out _ (B.out _ BP.out))).mono ?_
  intro e w8 hP
  rw [HJ.out] at hP
  obtain ⟨oa, n1, oc, ob, n2, od, rfl, e1, e2, hn1, hn2, f1, f2, hw1, hw2, hl1, hl2, hap, hb⟩ := hP
  obtain rfl : ps.length = n1 := e1
  obtain rfl : qs.length = n2 := e2
  have hq : Below w7.heap.size w7 w8 := BP.out.trans (Below.mono hb BP.out.size)
  replace B : Hid (∀ y, Below w8.heap.size w8 y → Below w.heap.size w y) := fun y hy => B.out y (hq.trans (hy.mono hq.size))
  replace S0 : Hid (∀ y, Below w8.heap.size w8 y → SlAt intR (fun b => b < w4.heap.size) y sa ps.length ps) := fun y hy => S0.out y (hq.trans (hy.mono hq.size))
  replace S1 : Hid (∀ y, Below w8.heap.size w8 y → SlAt intR (fun b => b < w4.heap.size) y sb qs.length qs) := fun y hy => S1.out y (hq.trans (hy.mono hq.size))
  replace T : Hid (∀ y, Below w8.heap.size w8 y → SlAt clR (fun b => w4.heap.size ≤ b ∧ b < w5.heap.size) y ga cn L) := fun y hy => T.out y (hq.trans (hy.mono hq.size))
  replace TF : Hid (∀ y, Below w8.heap.size w8 y → Thw (fun b => w4.heap.size ≤ b ∧ b < w5.heap.size) y) := fun y hy => TF.out y (hq.trans (hy.mono hq.size))
  replace I1 : Hid (∀ y, Below w8.heap.size w8 y → SlAt intR (fun b => w5.heap.size ≤ b ∧ b < w6.heap.size) y ia1 ll us) := fun y hy => I1.out y (hq.trans (hy.mono hq.size))
  replace I2 : Hid (∀ y, Below w8.heap.size w8 y → SlAt intR (fun b => w5.heap.size ≤ b ∧ b < w6.heap.size) y ia2 kl vs) := fun y hy => I2.out y (hq.trans (hy.mono hq.size))
  replace IF : Hid (∀ y, Below w8.heap.size w8 y → Thw (fun b => w5.heap.size ≤ b ∧ b < w6.heap.size) y) := fun y hy => IF.out y (hq.trans (hy.mono hq.size))
  replace J1 : Hid (∀ y, Below w8.heap.size w8 y → SlAt intR (fun b => w6.heap.size + 1 ≤ b ∧ b < w7.heap.size) y ja1 ml xs) := fun y hy => J1.out y (hq.trans (hy.mono hq.size))
  replace J2 : Hid (∀ y, Below w8.heap.size w8 y → SlAt intR (fun b => w6.heap.size + 1 ≤ b ∧ b < w7.heap.size) y ja2 nl ys) := fun y hy => J2.out y (hq.trans (hy.mono hq.size))
  replace JF : Hid (∀ y, Below w8.heap.size w8 y → Thw (fun b => w6.heap.size + 1 ≤ b ∧ b < w7.heap.size) y) := fun y hy => JF.out y (hq.trans (hy.mono hq.size))
  replace XA : Hid (∀ y, Below w8.heap.size w8 y → y.heap[w.heap.size]? = some (.cells #[.bool x0, .slice la ll lc, .slice ka kl kc] 34 (0, 0))) := fun y hy => XA.out y (hq.trans (hy.mono hq.size))
  replace lA : w.heap.size < w8.heap.size := Nat.lt_of_lt_of_le lA hq.size
  replace XC : Hid (∀ y, Below w8.heap.size w8 y → y.heap[w.heap.size + 1]? = some (.cells #[.bool y0, .slice ma ml mc, .slice na nl nc] 34 (0, 0))) := fun y hy => XC.out y (hq.trans (hy.mono hq.size))
  replace lC : w.heap.size + 1 < w8.heap.size := Nat.lt_of_lt_of_le lC hq.size
  replace XW : Hid (∀ y, Below w8.heap.size w8 y → y.heap[X]? = some (.cells #[.bool s0, .slice sa ps.length sc, .slice sb qs.length sd] 26 (0, 0))) := fun y hy => XW.out y (hq.trans (hy.mono hq.size))
  replace lW : X < w8.heap.size := Nat.lt_of_lt_of_le lW hq.size
  replace XI : Hid (∀ y, Below w8.heap.size w8 y → y.heap[w6.heap.size]? = some (.cells #[.bool x0, .slice ia1 ll (ll + ic1), .slice ia2 kl (kl + ic2)] 26 (0, 0))) := fun y hy => XI.out y (hq.trans (hy.mono hq.size))
  replace lI : w6.heap.size < w8.heap.size := Nat.lt_of_lt_of_le lI hq.size
  have lJ : w7.heap.size < w8.heap.size := Nat.lt_of_lt_of_le (by simp) (Below.size hb)
  have XJ : Hid (∀ y, Below w8.heap.size w8 y → y.heap[w7.heap.size]? = some (.cells #[.bool y0, .slice ja1 ml (ml + jc1), .slice ja2 nl (nl + jc2)] 26 (0, 0))) := fun y hy => (hy.block _ lJ).trans ((Below.block hb _ (by simp)).trans (boxN _ _ _ _ rfl))
  have zw8 : w7.heap.size + 1 ≤ w8.heap.size := Nat.le_trans (Nat.le_of_eq (by simp)) (Below.size hb)
  clear hq BP
  clear kA0 kA1 kA2 kC0 kC1 kC2 kW0 kW1 kW2 kI0 kI1 kI2
  have O1 : Hid (∀ y, Below w8.heap.size w8 y → Wri y oa ps.length (fun j => ps.getD j 0)) := fun y hy => hw1.later hy
  have O2 : Hid (∀ y, Below w8.heap.size w8 y → Wri y ob qs.length (fun j => qs.getD j 0)) := fun y hy => hw2.later hy
  have FP : Hid (∀ j, i64B (ps.getD j 0)) := f1
  have FQ : Hid (∀ j, i64B (qs.getD j 0)) := f2
  have AP : Hid (∀ x y, oa = some x → ob = some y → 0 < ps.length → 0 < qs.length → x.block ≠ y.block) := hap
  have wlt : ∀ (a : Option Addr) (n : Nat) (f : Nat → Int), Wri w8 a n f → ∀ x, a = some x → 0 < n → x.block < w8.heap.size := fun a n f h x e hp => by
    rcases h.cells with h0 | ⟨b, off, e2, hc⟩
    · omega
    · rw [e] at e2; cases e2; exact World.block_lt_of_cell? w8 _ (hc 0 hp).1
  have G1 : Hid (∀ x, oa = some x → 0 < ps.length → w7.heap.size + 1 ≤ x.block ∧ x.block < w8.heap.size) := fun x hx hp => ⟨by have := hl1 x hx hp; simpa using this, wlt _ _ _ hw1 x hx hp⟩
  have G2 : Hid (∀ x, ob = some x → 0 < qs.length → w7.heap.size + 1 ≤ x.block ∧ x.block < w8.heap.size) := fun x hx hp => ⟨by have := hl2 x hx hp; simpa using this, wlt _ _ _ hw2 x hx hp⟩
  clear hw1 hw2 hl1 hl2 hap hb wlt f1 f2
  have kA0 : w8.cell? ⟨w.heap.size, 0, none⟩ = some (.bool x0) := (boxG (XA.out w8 (Below.refl _ _)) 0).1
  have kA1 : w8.cell? ⟨w.heap.size, 1, none⟩ = some (.slice la ll lc) := (boxG (XA.out w8 (Below.refl _ _)) 1).1
  have kA2 : w8.cell? ⟨w.heap.size, 2, none⟩ = some (.slice ka kl kc) := (boxG (XA.out w8 (Below.refl _ _)) 2).1
  have kC0 : w8.cell? ⟨w.heap.size + 1, 0, none⟩ = some (.bool y0) := (boxG (XC.out w8 (Below.refl _ _)) 0).1
  have kC1 : w8.cell? ⟨w.heap.size + 1, 1, none⟩ = some (.slice ma ml mc) := (boxG (XC.out w8 (Below.refl _ _)) 1).1
  have kC2 : w8.cell? ⟨w.heap.size + 1, 2, none⟩ = some (.slice na nl nc) := (boxG (XC.out w8 (Below.refl _ _)) 2).1
  have kW0 : w8.cell? ⟨X, 0, none⟩ = some (.bool s0) := (boxG (XW.out w8 (Below.refl _ _)) 0).1
  have kW1 : w8.cell? ⟨X, 1, none⟩ = some (.slice sa ps.length sc) := (boxG (XW.out w8 (Below.refl _ _)) 1).1
  have kW2 : w8.cell? ⟨X, 2, none⟩ = some (.slice sb qs.length sd) := (boxG (XW.out w8 (Below.refl _ _)) 2).1
  have kI0 : w8.cell? ⟨w6.heap.size, 0, none⟩ = some (.bool x0) := (boxG (XI.out w8 (Below.refl _ _)) 0).1
  have kI1 : w8.cell? ⟨w6.heap.size, 1, none⟩ = some (.slice ia1 ll (ll + ic1)) := (boxG (XI.out w8 (Below.refl _ _)) 1).1
  have kI2 : w8.cell? ⟨w6.heap.size, 2, none⟩ = some (.slice ia2 kl (kl + ic2)) := (boxG (XI.out w8 (Below.refl _ _)) 2).1
  have kJ0 : w8.cell? ⟨w7.heap.size, 0, none⟩ = some (.bool y0) := (boxG (XJ.out w8 (Below.refl _ _)) 0).1
  have kJ1 : w8.cell? ⟨w7.heap.size, 1, none⟩ = some (.slice ja1 ml (ml + jc1)) := (boxG (XJ.out w8 (Below.refl _ _)) 1).1
  have kJ2 : w8.cell? ⟨w7.heap.size, 2, none⟩ = some (.slice ja2 nl (nl + jc2)) := (boxG (XJ.out w8 (Below.refl _ _)) 2).1
  have BP : Hid (Below w8.heap.size w8 (w8.alloc (.cells #[.bool s0, .slice oa ps.length oc, .slice ob qs.length od] 26))) := (Below.refl _ _).alloc (Nat.le_refl _) _
  go_wp2_with fail
  refine (eqRShape _ _ _ _ _ _ _ _ _ _ _ _ _ ps qs _ ((O1.out _ BP.out).sl rfl hn1 FP.out) ((S0.out _ BP.out).mono (E := fun _ => True) (fun _ _ _ => trivial)) ((O2.out _ BP.out).sl rfl hn2 FQ.out) ((S1.out _ BP.out).mono (fun _ _ _ => trivial))).mono ?_
  rintro e w9 ⟨rfl, hb⟩
  have hq : Below w8.heap.size w8 w9 := BP.out.trans (Below.mono hb BP.out.size)
  replace B : Hid (∀ y, Below w9.heap.size w9 y → Below w.heap.size w y) := fun y hy => B.out y (hq.trans (hy.mono hq.size))
  replace S0 : Hid (∀ y, Below w9.heap.size w9 y → SlAt intR (fun b => b < w4.heap.size) y sa ps.length ps) := fun y hy => S0.out y (hq.trans (hy.mono hq.size))
  replace S1 : Hid (∀ y, Below w9.heap.size w9 y → SlAt intR (fun b => b < w4.heap.size) y sb qs.length qs) := fun y hy => S1.out y (hq.trans (hy.mono hq.size))
  replace T : Hid (∀ y, Below w9.heap.size w9 y → SlAt clR (fun b => w4.heap.size ≤ b ∧ b < w5.heap.size) y ga cn L) := fun y hy => T.out y (hq.trans (hy.mono hq.size))
  replace TF : Hid (∀ y, Below w9.heap.size w9 y → Thw (fun b => w4.heap.size ≤ b ∧ b < w5.heap.size) y) := fun y hy => TF.out y (hq.trans (hy.mono hq.size))
  replace I1 : Hid (∀ y, Below w9.heap.size w9 y → SlAt intR (fun b => w5.heap.size ≤ b ∧ b < w6.heap.size) y ia1 ll us) := fun y hy => I1.out y (hq.trans (hy.mono hq.size))
  replace I2 : Hid (∀ y, Below w9.heap.size w9 y → SlAt intR (fun b => w5.heap.size ≤ b ∧ b < w6.heap.size) y ia2 kl vs) := fun y hy => I2.out y (hq.trans (hy.mono hq.size))
  replace IF : Hid (∀ y, Below w9.heap.size w9 y → Thw (fun b => w5.heap.size ≤ b ∧ b < w6.heap.size) y) := fun y hy => IF.out y (hq.trans (hy.mono hq.size))
  replace J1 : Hid (∀ y, Below w9.heap.size w9 y → SlAt intR (fun b => w6.heap.size + 1 ≤ b ∧ b < w7.heap.size) y ja1 ml xs) := fun y hy => J1.out y (hq.trans (hy.mono hq.size))
  replace J2 : Hid (∀ y, Below w9.heap.size w9 y → SlAt intR (fun b => w6.heap.size + 1 ≤ b ∧ b < w7.heap.size) y ja2 nl ys) := fun y hy => J2.out y (hq.trans (hy.mono hq.size))
  replace JF : Hid (∀ y, Below w9.heap.size w9 y → Thw (fun b => w6.heap.size + 1 ≤ b ∧ b < w7.heap.size) y) := fun y hy => JF.out y (hq.trans (hy.mono hq.size))
  replace O1 : Hid (∀ y, Below w9.heap.size w9 y → Wri y oa ps.length (fun j => ps.getD j 0)) := fun y hy => O1.out y (hq.trans (hy.mono hq.size))
  replace O2 : Hid (∀ y, Below w9.heap.size w9 y → Wri y ob qs.length (fun j => qs.getD j 0)) := fun y hy => O2.out y (hq.trans (hy.mono hq.size))
  replace XA : Hid (∀ y, Below w9.heap.size w9 y → y.heap[w.heap.size]? = some (.cells #[.bool x0, .slice la ll lc, .slice ka kl kc] 34 (0, 0))) := fun y hy => XA.out y (hq.trans (hy.mono hq.size))
  replace lA : w.heap.size < w9.heap.size := Nat.lt_of_lt_of_le lA hq.size
  replace XC : Hid (∀ y, Below w9.heap.size w9 y → y.heap[w.heap.size + 1]? = some (.cells #[.bool y0, .slice ma ml mc, .slice na nl nc] 34 (0, 0))) := fun y hy => XC.out y (hq.trans (hy.mono hq.size))
  replace lC : w.heap.size + 1 < w9.heap.size := Nat.lt_of_lt_of_le lC hq.size
  replace XW : Hid (∀ y, Below w9.heap.size w9 y → y.heap[X]? = some (.cells #[.bool s0, .slice sa ps.length sc, .slice sb qs.length sd] 26 (0, 0))) := fun y hy => XW.out y (hq.trans (hy.mono hq.size))
  replace lW : X < w9.heap.size := Nat.lt_of_lt_of_le lW hq.size
  replace XI : Hid (∀ y, Below w9.heap.size w9 y → y.heap[w6.heap.size]? = some (.cells #[.bool x0, .slice ia1 ll (ll + ic1), .slice ia2 kl (kl + ic2)] 26 (0, 0))) := fun y hy => XI.out y (hq.trans (hy.mono hq.size))
  replace lI : w6.heap.size < w9.heap.size := Nat.lt_of_lt_of_le lI hq.size
  replace XJ : Hid (∀ y, Below w9.heap.size w9 y → y.heap[w7.heap.size]? = some (.cells #[.bool y0, .slice ja1 ml (ml + jc1), .slice ja2 nl (nl + jc2)] 26 (0, 0))) := fun y hy => XJ.out y (hq.trans (hy.mono hq.size))
  replace lJ : w7.heap.size < w9.heap.size := Nat.lt_of_lt_of_le lJ hq.size
  have lG : w8.heap.size < w9.heap.size := Nat.lt_of_lt_of_le (by simp) (Below.size hb)
  have XG : Hid (∀ y, Below w9.heap.size w9 y → y.heap[w8.heap.size]? = some (.cells #[.bool s0, .slice oa ps.length oc, .slice ob qs.length od] 26 (0, 0))) := fun y hy => (hy.block _ lG).trans ((Below.block hb _ (by simp)).trans (boxN _ _ _ _ rfl))
  have zw9 : w8.heap.size + 1 ≤ w9.heap.size := Nat.le_trans (Nat.le_of_eq (by simp)) (Below.size hb)
  clear hq BP
  clear kA0 kA1 kA2 kC0 kC1 kC2 kW0 kW1 kW2 kI0 kI1 kI2 kJ0 kJ1 kJ2
  clear hb
  have kA0 : w9.cell? ⟨w.heap.size, 0, none⟩ = some (.bool x0) := (boxG (XA.out w9 (Below.refl _ _)) 0).1
  have kA1 : w9.cell? ⟨w.heap.size, 1, none⟩ = some (.slice la ll lc) := (boxG (XA.out w9 (Below.refl _ _)) 1).1
  have kA2 : w9.cell? ⟨w.heap.size, 2, none⟩ = some (.slice ka kl kc) := (boxG (XA.out w9 (Below.refl _ _)) 2).1
  have kC0 : w9.cell? ⟨w.heap.size + 1, 0, none⟩ = some (.bool y0) := (boxG (XC.out w9 (Below.refl _ _)) 0).1
  have kC1 : w9.cell? ⟨w.heap.size + 1, 1, none⟩ = some (.slice ma ml mc) := (boxG (XC.out w9 (Below.refl _ _)) 1).1
  have kC2 : w9.cell? ⟨w.heap.size + 1, 2, none⟩ = some (.slice na nl nc) := (boxG (XC.out w9 (Below.refl _ _)) 2).1
  have kW0 : w9.cell? ⟨X, 0, none⟩ = some (.bool s0) := (boxG (XW.out w9 (Below.refl _ _)) 0).1
  have kW1 : w9.cell? ⟨X, 1, none⟩ = some (.slice sa ps.length sc) := (boxG (XW.out w9 (Below.refl _ _)) 1).1
  have kW2 : w9.cell? ⟨X, 2, none⟩ = some (.slice sb qs.length sd) := (boxG (XW.out w9 (Below.refl _ _)) 2).1
  have kI0 : w9.cell? ⟨w6.heap.size, 0, none⟩ = some (.bool x0) := (boxG (XI.out w9 (Below.refl _ _)) 0).1
  have kI1 : w9.cell? ⟨w6.heap.size, 1, none⟩ = some (.slice ia1 ll (ll + ic1)) := (boxG (XI.out w9 (Below.refl _ _)) 1).1
  have kI2 : w9.cell? ⟨w6.heap.size, 2, none⟩ = some (.slice ia2 kl (kl + ic2)) := (boxG (XI.out w9 (Below.refl _ _)) 2).1
  have kJ0 : w9.cell? ⟨w7.heap.size, 0, none⟩ = some (.bool y0) := (boxG (XJ.out w9 (Below.refl _ _)) 0).1
  have kJ1 : w9.cell? ⟨w7.heap.size, 1, none⟩ = some (.slice ja1 ml (ml + jc1)) := (boxG (XJ.out w9 (Below.refl _ _)) 1).1
  have kJ2 : w9.cell? ⟨w7.heap.size, 2, none⟩ = some (.slice ja2 nl (nl + jc2)) := (boxG (XJ.out w9 (Below.refl _ _)) 2).1
  have kG0 : w9.cell? ⟨w8.heap.size, 0, none⟩ = some (.bool s0) := (boxG (XG.out w9 (Below.refl _ _)) 0).1
  have kG1 : w9.cell? ⟨w8.heap.size, 1, none⟩ = some (.slice oa ps.length oc) := (boxG (XG.out w9 (Below.refl _ _)) 1).1
  have kG2 : w9.cell? ⟨w8.heap.size, 2, none⟩ = some (.slice ob qs.length od) := (boxG (XG.out w9 (Below.refl _ _)) 2).1
  have BP : Hid (Below w9.heap.size w9 w9) := Below.refl _ _
  go_wp2_with fail
  refine (toLClass _ _ _ L _ (H.out.later (B.out _ BP.out)) SL.out).mono ?_
  rintro e w10 ⟨ya, yc, rfl, h1, hb⟩
  have hq : Below w9.heap.size w9 w10 := BP.out.trans (Below.mono hb BP.out.size)
  replace B : Hid (∀ y, Below w10.heap.size w10 y → Below w.heap.size w y) := fun y hy => B.out y (hq.trans (hy.mono hq.size))
  replace S0 : Hid (∀ y, Below w10.heap.size w10 y → SlAt intR (fun b => b < w4.heap.size) y sa ps.length ps) := fun y hy => S0.out y (hq.trans (hy.mono hq.size))
  replace S1 : Hid (∀ y, Below w10.heap.size w10 y → SlAt intR (fun b => b < w4.heap.size) y sb qs.length qs) := fun y hy => S1.out y (hq.trans (hy.mono hq.size))
  replace T : Hid (∀ y, Below w10.heap.size w10 y → SlAt clR (fun b => w4.heap.size ≤ b ∧ b < w5.heap.size) y ga cn L) := fun y hy => T.out y (hq.trans (hy.mono hq.size))
  replace TF : Hid (∀ y, Below w10.heap.size w10 y → Thw (fun b => w4.heap.size ≤ b ∧ b < w5.heap.size) y) := fun y hy => TF.out y (hq.trans (hy.mono hq.size))
  replace I1 : Hid (∀ y, Below w10.heap.size w10 y → SlAt intR (fun b => w5.heap.size ≤ b ∧ b < w6.heap.size) y ia1 ll us) := fun y hy => I1.out y (hq.trans (hy.mono hq.size))
  replace I2 : Hid (∀ y, Below w10.heap.size w10 y → SlAt intR (fun b => w5.heap.size ≤ b ∧ b < w6.heap.size) y ia2 kl vs) := fun y hy => I2.out y (hq.trans (hy.mono hq.size))
  replace IF : Hid (∀ y, Below w10.heap.size w10 y → Thw (fun b => w5.heap.size ≤ b ∧ b < w6.heap.size) y) := fun y hy => IF.out y (hq.trans (hy.mono hq.size))
  replace J1 : Hid (∀ y, Below w10.heap.size w10 y → SlAt intR (fun b => w6.heap.size + 1 ≤ b ∧ b < w7.heap.size) y ja1 ml xs) := fun y hy => J1.out y (hq.trans (hy.mono hq.size))
  replace J2 : Hid (∀ y, Below w10.heap.size w10 y → SlAt intR (fun b => w6.heap.size + 1 ≤ b ∧ b < w7.heap.size) y ja2 nl ys) := fun y hy => J2.out y (hq.trans (hy.mono hq.size))
  replace JF : Hid (∀ y, Below w10.heap.size w10 y → Thw (fun b => w6.heap.size + 1 ≤ b ∧ b < w7.heap.size) y) := fun y hy => JF.out y (hq.trans (hy.mono hq.size))
  replace O1 : Hid (∀ y, Below w10.heap.size w10 y → Wri y oa ps.length (fun j => ps.getD j 0)) := fun y hy => O1.out y (hq.trans (hy.mono hq.size))
  replace O2 : Hid (∀ y, Below w10.heap.size w10 y → Wri y ob qs.length (fun j => qs.getD j 0)) := fun y hy => O2.out y (hq.trans (hy.mono hq.size))
  replace XA : Hid (∀ y, Below w10.heap.size w10 y → y.heap[w.heap.size]? = some (.cells #[.bool x0, .slice la ll lc, .slice ka kl kc] 34 (0, 0))) := fun y hy => XA.out y (hq.trans (hy.mono hq.size))
  replace lA : w.heap.size < w10.heap.size := Nat.lt_of_lt_of_le lA hq.size
  replace XC : Hid (∀ y, Below w10.heap.size w10 y → y.heap[w.heap.size + 1]? = some (.cells #[.bool y0, .slice ma ml mc, .slice na nl nc] 34 (0, 0))) := fun y hy => XC.out y (hq.trans (hy.mono hq.size))
  replace lC : w.heap.size + 1 < w10.heap.size := Nat.lt_of_lt_of_le lC hq.size
  replace XW : Hid (∀ y, Below w10.heap.size w10 y → y.heap[X]? = some (.cells #[.bool s0, .slice sa ps.length sc, .slice sb qs.length sd] 26 (0, 0))) := fun y hy => XW.out y (hq.trans (hy.mono hq.size))
  replace lW : X < w10.heap.size := Nat.lt_of_lt_of_le lW hq.size
  replace XI : Hid (∀ y, Below w10.heap.size w10 y → y.heap[w6.heap.size]? = some (.cells #[.bool x0, .slice ia1 ll (ll + ic1), .slice ia2 kl (kl + ic2)] 26 (0, 0))) := fun y hy => XI.out y (hq.trans (hy.mono hq.size))
  replace lI : w6.heap.size < w10.heap.size := Nat.lt_of_lt_of_le lI hq.size
  replace XJ : Hid (∀ y, Below w10.heap.size w10 y → y.heap[w7.heap.size]? = some (.cells #[.bool y0, .slice ja1 ml (ml + jc1), .slice ja2 nl (nl + jc2)] 26 (0, 0))) := fun y hy => XJ.out y (hq.trans (hy.mono hq.size))
  replace lJ : w7.heap.size < w10.heap.size := Nat.lt_of_lt_of_le lJ hq.size
  replace XG : Hid (∀ y, Below w10.heap.size w10 y → y.heap[w8.heap.size]? = some (.cells #[.bool s0, .slice oa ps.length oc, .slice ob qs.length od] 26 (0, 0))) := fun y hy => XG.out y (hq.trans (hy.mono hq.size))
  replace lG : w8.heap.size < w10.heap.size := Nat.lt_of_lt_of_le lG hq.size
  have zw10 : w9.heap.size ≤ w10.heap.size := hq.size
  clear hq BP
  clear kA0 kA1 kA2 kC0 kC1 kC2 kW0 kW1 kW2 kI0 kI1 kI2 kJ0 kJ1 kJ2 kG0 kG1 kG2
  have Y : Hid (∀ y, Below w10.heap.size w10 y → SlAt clR (fun _ => True) y ya cn L) := fun y hy => (h1.mono (fun _ _ _ => trivial)).later hy
  clear h1 hb
  have kA0 : w10.cell? ⟨w.heap.size, 0, none⟩ = some (.bool x0) := (boxG (XA.out w10 (Below.refl _ _)) 0).1
  have kA1 : w10.cell? ⟨w.heap.size, 1, none⟩ = some (.slice la ll lc) := (boxG (XA.out w10 (Below.refl _ _)) 1).1
  have kA2 : w10.cell? ⟨w.heap.size, 2, none⟩ = some (.slice ka kl kc) := (boxG (XA.out w10 (Below.refl _ _)) 2).1
  have kC0 : w10.cell? ⟨w.heap.size + 1, 0, none⟩ = some (.bool y0) := (boxG (XC.out w10 (Below.refl _ _)) 0).1
  have kC1 : w10.cell? ⟨w.heap.size + 1, 1, none⟩ = some (.slice ma ml mc) := (boxG (XC.out w10 (Below.refl _ _)) 1).1
  have kC2 : w10.cell? ⟨w.heap.size + 1, 2, none⟩ = some (.slice na nl nc) := (boxG (XC.out w10 (Below.refl _ _)) 2).1
  have kW0 : w10.cell? ⟨X, 0, none⟩ = some (.bool s0) := (boxG (XW.out w10 (Below.refl _ _)) 0).1
  have kW1 : w10.cell? ⟨X, 1, none⟩ = some (.slice sa ps.length sc) := (boxG (XW.out w10 (Below.refl _ _)) 1).1
  have kW2 : w10.cell? ⟨X, 2, none⟩ = some (.slice sb qs.length sd) := (boxG (XW.out w10 (Below.refl _ _)) 2).1
  have kI0 : w10.cell? ⟨w6.heap.size, 0, none⟩ = some (.bool x0) := (boxG (XI.out w10 (Below.refl _ _)) 0).1
  have kI1 : w10.cell? ⟨w6.heap.size, 1, none⟩ = some (.slice ia1 ll (ll + ic1)) := (boxG (XI.out w10 (Below.refl _ _)) 1).1
  have kI2 : w10.cell? ⟨w6.heap.size, 2, none⟩ = some (.slice ia2 kl (kl + ic2)) := (boxG (XI.out w10 (Below.refl _ _)) 2).1
  have kJ0 : w10.cell? ⟨w7.heap.size, 0, none⟩ = some (.bool y0) := (boxG (XJ.out w10 (Below.refl _ _)) 0).1
  have kJ1 : w10.cell? ⟨w7.heap.size, 1, none⟩ = some (.slice ja1 ml (ml + jc1)) := (boxG (XJ.out w10 (Below.refl _ _)) 1).1
  have kJ2 : w10.cell? ⟨w7.heap.size, 2, none⟩ = some (.slice ja2 nl (nl + jc2)) := (boxG (XJ.out w10 (Below.refl _ _)) 2).1
  have kG0 : w10.cell? ⟨w8.heap.size, 0, none⟩ = some (.bool s0) := (boxG (XG.out w10 (Below.refl _ _)) 0).1
  have kG1 : w10.cell? ⟨w8.heap.size, 1, none⟩ = some (.slice oa ps.length oc) := (boxG (XG.out w10 (Below.refl _ _)) 1).1
  have kG2 : w10.cell? ⟨w8.heap.size, 2, none⟩ = some (.slice ob qs.length od) := (boxG (XG.out w10 (Below.refl _ _)) 2).1
  have BP : Hid (Below w10.heap.size w10 w10) := Below.refl _ _
  go_wp2_with fail
  refine (eqLClass _ _ _ _ _ _ L _ (T.out _ BP.out) (Y.out _ BP.out)).mono ?_
  rintro e w11 ⟨rfl, hb⟩
  have hq : Below w10.heap.size w10 w11 := BP.out.trans (Below.mono hb BP.out.size)
  replace B : Hid (∀ y, Below w11.heap.size w11 y → Below w.heap.size w y) := fun y hy => B.out y (hq.trans (hy.mono hq.size))
  replace S0 : Hid (∀ y, Below w11.heap.size w11 y → SlAt intR (fun b => b < w4.heap.size) y sa ps.length ps) := fun y hy => S0.out y (hq.trans (hy.mono hq.size))
  replace S1 : Hid (∀ y, Below w11.heap.size w11 y → SlAt intR (fun b => b < w4.heap.size) y sb qs.length qs) := fun y hy => S1.out y (hq.trans (hy.mono hq.size))
  replace T : Hid (∀ y, Below w11.heap.size w11 y → SlAt clR (fun b => w4.heap.size ≤ b ∧ b < w5.heap.size) y ga cn L) := fun y hy => T.out y (hq.trans (hy.mono hq.size))
  replace TF : Hid (∀ y, Below w11.heap.size w11 y → Thw (fun b => w4.heap.size ≤ b ∧ b < w5.heap.size) y) := fun y hy => TF.out y (hq.trans (hy.mono hq.size))
  replace I1 : Hid (∀ y, Below w11.heap.size w11 y → SlAt intR (fun b => w5.heap.size ≤ b ∧ b < w6.heap.size) y ia1 ll us) := fun y hy => I1.out y (hq.trans (hy.mono hq.size))
  replace I2 : Hid (∀ y, Below w11.heap.size w11 y → SlAt intR (fun b => w5.heap.size ≤ b ∧ b < w6.heap.size) y ia2 kl vs) := fun y hy => I2.out y (hq.trans (hy.mono hq.size))
  replace IF : Hid (∀ y, Below w11.heap.size w11 y → Thw (fun b => w5.heap.size ≤ b ∧ b < w6.heap.size) y) := fun y hy => IF.out y (hq.trans (hy.mono hq.size))
  replace J1 : Hid (∀ y, Below w11.heap.size w11 y → SlAt intR (fun b => w6.heap.size + 1 ≤ b ∧ b < w7.heap.size) y ja1 ml xs) := fun y hy => J1.out y (hq.trans (hy.mono hq.size))
  replace J2 : Hid (∀ y, Below w11.heap.size w11 y → SlAt intR (fun b => w6.heap.size + 1 ≤ b ∧ b < w7.heap.size) y ja2 nl ys) := fun y hy => J2.out y (hq.trans (hy.mono hq.size))
  replace JF : Hid (∀ y, Below w11.heap.size w11 y → Thw (fun b => w6.heap.size + 1 ≤ b ∧ b < w7.heap.size) y) := fun y hy => JF.out y (hq.trans (hy.mono hq.size))
  replace O1 : Hid (∀ y, Below w11.heap.size w11 y → Wri y oa ps.length (fun j => ps.getD j 0)) := fun y hy => O1.out y (hq.trans (hy.mono hq.size))
  replace O2 : Hid (∀ y, Below w11.heap.size w11 y → Wri y ob qs.length (fun j => qs.getD j 0)) := fun y hy => O2.out y (hq.trans (hy.mono hq.size))
  replace Y : Hid (∀ y, Below w11.heap.size w11 y → SlAt clR (fun _ => True) y ya cn L) := fun y hy => Y.out y (hq.trans (hy.mono hq.size))
  replace XA : Hid (∀ y, Below w11.heap.size w11 y → y.heap[w.heap.size]? = some (.cells #[.bool x0, .slice la ll lc, .slice ka kl kc] 34 (0, 0))) := fun y hy => XA.out y (hq.trans (hy.mono hq.size))
  replace lA : w.heap.size < w11.heap.size := Nat.lt_of_lt_of_le lA hq.size
  replace XC : Hid (∀ y, Below w11.heap.size w11 y → y.heap[w.heap.size + 1]? = some (.cells #[.bool y0, .slice ma ml mc, .slice na nl nc] 34 (0, 0))) := fun y hy => XC.out y (hq.trans (hy.mono hq.size))
  replace lC : w.heap.size + 1 < w11.heap.size := Nat.lt_of_lt_of_le lC hq.size
  replace XW : Hid (∀ y, Below w11.heap.size w11 y → y.heap[X]? = some (.cells #[.bool s0, .slice sa ps.length sc, .slice sb qs.length sd] 26 (0, 0))) := fun y hy => XW.out y (hq.trans (hy.mono hq.size))
  replace lW : X < w11.heap.size := Nat.lt_of_lt_of_le lW hq.size
  replace XI : Hid (∀ y, Below w11.heap.size w11 y → y.heap[w6.heap.size]? = some (.cells #[.bool x0, .slice ia1 ll (ll + ic1), .slice ia2 kl (kl + ic2)] 26 (0, 0))) := fun y hy => XI.out y (hq.trans (hy.mono hq.size))
  replace lI : w6.heap.size < w11.heap.size := Nat.lt_of_lt_of_le lI hq.size
  replace XJ : Hid (∀ y, Below w11.heap.size w11 y → y.heap[w7.heap.size]? = some (.cells #[.bool y0, .slice ja1 ml (ml + jc1), .slice ja2 nl (nl + jc2)] 26 (0, 0))) := fun y hy => XJ.out y (hq.trans (hy.mono hq.size))
  replace lJ : w7.heap.size < w11.heap.size := Nat.lt_of_lt_of_le lJ hq.size
  replace XG : Hid (∀ y, Below w11.heap.size w11 y → y.heap[w8.heap.size]? = some (.cells #[.bool s0, .slice oa ps.length oc, .slice ob qs.length od] 26 (0, 0))) := fun y hy => XG.out y (hq.trans (hy.mono hq.size))
  replace lG : w8.heap.size < w11.heap.size := Nat.lt_of_lt_of_le lG hq.size
  have zw11 : w10.heap.size ≤ w11.heap.size := hq.size
  clear hq BP
  clear kA0 kA1 kA2 kC0 kC1 kC2 kW0 kW1 kW2 kI0 kI1 kI2 kJ0 kJ1 kJ2 kG0 kG1 kG2
  clear hb
  clear Y
  have kA0 : w11.cell? ⟨w.heap.size, 0, none⟩ = some (.bool x0) := (boxG (XA.out w11 (Below.refl _ _)) 0).1
  have kA1 : w11.cell? ⟨w.heap.size, 1, none⟩ = some (.slice la ll lc) := (boxG (XA.out w11 (Below.refl _ _)) 1).1
  have kA2 : w11.cell? ⟨w.heap.size, 2, none⟩ = some (.slice ka kl kc) := (boxG (XA.out w11 (Below.refl _ _)) 2).1
  have kC0 : w11.cell? ⟨w.heap.size + 1, 0, none⟩ = some (.bool y0) := (boxG (XC.out w11 (Below.refl _ _)) 0).1
  have kC1 : w11.cell? ⟨w.heap.size + 1, 1, none⟩ = some (.slice ma ml mc) := (boxG (XC.out w11 (Below.refl _ _)) 1).1
  have kC2 : w11.cell? ⟨w.heap.size + 1, 2, none⟩ = some (.slice na nl nc) := (boxG (XC.out w11 (Below.refl _ _)) 2).1
  have kW0 : w11.cell? ⟨X, 0, none⟩ = some (.bool s0) := (boxG (XW.out w11 (Below.refl _ _)) 0).1
  have kW1 : w11.cell? ⟨X, 1, none⟩ = some (.slice sa ps.length sc) := (boxG (XW.out w11 (Below.refl _ _)) 1).1
  have kW2 : w11.cell? ⟨X, 2, none⟩ = some (.slice sb qs.length sd) := (boxG (XW.out w11 (Below.refl _ _)) 2).1
  have kI0 : w11.cell? ⟨w6.heap.size, 0, none⟩ = some (.bool x0) := (boxG (XI.out w11 (Below.refl _ _)) 0).1
  have kI1 : w11.cell? ⟨w6.heap.size, 1, none⟩ = some (.slice ia1 ll (ll + ic1)) := (boxG (XI.out w11 (Below.refl _ _)) 1).1
  have kI2 : w11.cell? ⟨w6.heap.size, 2, none⟩ = some (.slice ia2 kl (kl + ic2)) := (boxG (XI.out w11 (Below.refl _ _)) 2).1
  have kJ0 : w11.cell? ⟨w7.heap.size, 0, none⟩ = some (.bool y0) := (boxG (XJ.out w11 (Below.refl _ _)) 0).1
  have kJ1 : w11.cell? ⟨w7.heap.size, 1, none⟩ = some (.slice ja1 ml (ml + jc1)) := (boxG (XJ.out w11 (Below.refl _ _)) 1).1
  have kJ2 : w11.cell? ⟨w7.heap.size, 2, none⟩ = some (.slice ja2 nl (nl + jc2)) := (boxG (XJ.out w11 (Below.refl _ _)) 2).1
  have kG0 : w11.cell? ⟨w8.heap.size, 0, none⟩ = some (.bool s0) := (boxG (XG.out w11 (Below.refl _ _)) 0).1
  have kG1 : w11.cell? ⟨w8.heap.size, 1, none⟩ = some (.slice oa ps.length oc) := (boxG (XG.out w11 (Below.refl _ _)) 1).1
  have kG2 : w11.cell? ⟨w8.heap.size, 2, none⟩ = some (.slice ob qs.length od) := (boxG (XG.out w11 (Below.refl _ _)) 2).1
  go_wp2_with fail
  have KS : Hid (∀ x, Below w11.heap.size w11 x → x.cell? ⟨w.heap.size, 0, none⟩ = some (.bool x0) ∧ x.cell? ⟨w.heap.size, 1, none⟩ = some (.slice la ll lc) ∧ x.cell? ⟨w.heap.size, 2, none⟩ = some (.slice ka kl kc) ∧ x.cell? ⟨w6.heap.size, 0, none⟩ = some (.bool x0) ∧ x.cell? ⟨w6.heap.size, 1, none⟩ = some (.slice ia1 ll (ll + ic1)) ∧ x.cell? ⟨w6.heap.size, 2, none⟩ = some (.slice ia2 kl (kl + ic2))) := fun x hx => ⟨(boxG (XA.out x hx) 0).1, (boxG (XA.out x hx) 1).1, (boxG (XA.out x hx) 2).1, (boxG (XI.out x hx) 0).1, (boxG (XI.out x hx) 1).1, (boxG (XI.out x hx) 2).1⟩
  refine wp_region_held_drew (S := fun x => x.cell? ⟨w.heap.size, 0, none⟩ = some (.bool x0) ∧ x.cell? ⟨w.heap.size, 1, none⟩ = some (.slice la ll lc) ∧ x.cell? ⟨w.heap.size, 2, none⟩ = some (.slice ka kl kc) ∧ x.cell? ⟨w6.heap.size, 0, none⟩ = some (.bool x0) ∧ x.cell? ⟨w6.heap.size, 1, none⟩ = some (.slice ia1 ll (ll + ic1)) ∧ x.cell? ⟨w6.heap.size, 2, none⟩ = some (.slice ia2 kl (kl + ic2))) (by kernel_rfl) ?_ (fun hHeld => ?_)
  · exact KS.out _ (below_drewN (Below.refl _ _) 1)
  refine wpAnyH_take (i := 0) (v := .agg #[.bool x0, .slice ia1 ll (ll + ic1), .slice ia2 kl (kl + ic2)]) rfl (by kernel_rfl) (by kernel_rfl) (by kernel_rfl) (fun _ _ _ h => h) (Or.inl ⟨by kernel_rfl, by (intro x hSx; (try dsimp only at hSx); go_simp)⟩) (by assumption) ?_
  try simp only [Act.put, List.getElem_toArray, List.getElem_cons_zero, List.setIfInBounds_toArray, List.set_cons_zero, List.set_cons_succ]
  refine wpAnyH_take (i := 1) (v := .agg #[.bool x0, .slice la ll lc, .slice ka kl kc]) rfl (by kernel_rfl) (by kernel_rfl) (by kernel_rfl) (fun _ _ _ h => h) (Or.inl ⟨by kernel_rfl, by (intro x hSx; (try dsimp only at hSx); go_simp)⟩) (by assumption) ?_
  try simp only [Act.put, List.getElem_toArray, List.getElem_cons_zero, List.getElem_cons_succ, List.setIfInBounds_toArray, List.set_cons_zero, List.set_cons_succ]
  refine wpAnyH_ready (rs := [2]) (by kernel_rfl) (by simp) ?_
  refine AllReadyH.cons rfl (fun K hK => ?_) AllReadyH.nil
  go_simp
  go_at_call 13
  refine (toRShape _ _ _ _ _ _ _ us vs _ (HU.out.later (B.out _ (below_drewN (Below.refl _ _) 1))) SU.out (HV.out.later (B.out _ (below_drewN (Below.refl _ _) 1))) SV.out).mono ?_
  rintro e w12 ⟨ua1, uc1, ua2, uc2, rfl, h1, h2, hbx⟩
  have hb : Below w11.heap.size w11 w12 := (below_drewN (Below.refl _ _) 1).trans (hbx.mono (Nat.le_refl _))
  clear hbx
  have BP : Hid (Below w11.heap.size w11 w11) := Below.refl _ _
  have hq : Below w11.heap.size w11 w12 := BP.out.trans (Below.mono hb BP.out.size)
  replace B : Hid (∀ y, Below w12.heap.size w12 y → Below w.heap.size w y) := fun y hy => B.out y (hq.trans (hy.mono hq.size))
  replace S0 : Hid (∀ y, Below w12.heap.size w12 y → SlAt intR (fun b => b < w4.heap.size) y sa ps.length ps) := fun y hy => S0.out y (hq.trans (hy.mono hq.size))
  replace S1 : Hid (∀ y, Below w12.heap.size w12 y → SlAt intR (fun b => b < w4.heap.size) y sb qs.length qs) := fun y hy => S1.out y (hq.trans (hy.mono hq.size))
  replace T : Hid (∀ y, Below w12.heap.size w12 y → SlAt clR (fun b => w4.heap.size ≤ b ∧ b < w5.heap.size) y ga cn L) := fun y hy => T.out y (hq.trans (hy.mono hq.size))
  replace TF : Hid (∀ y, Below w12.heap.size w12 y → Thw (fun b => w4.heap.size ≤ b ∧ b < w5.heap.size) y) := fun y hy => TF.out y (hq.trans (hy.mono hq.size))
  replace I1 : Hid (∀ y, Below w12.heap.size w12 y → SlAt intR (fun b => w5.heap.size ≤ b ∧ b < w6.heap.size) y ia1 ll us) := fun y hy => I1.out y (hq.trans (hy.mono hq.size))
  replace I2 : Hid (∀ y, Below w12.heap.size w12 y → SlAt intR (fun b => w5.heap.size ≤ b ∧ b < w6.heap.size) y ia2 kl vs) := fun y hy => I2.out y (hq.trans (hy.mono hq.size))
  replace IF : Hid (∀ y, Below w12.heap.size w12 y → Thw (fun b => w5.heap.size ≤ b ∧ b < w6.heap.size) y) := fun y hy => IF.out y (hq.trans (hy.mono hq.size))
  replace J1 : Hid (∀ y, Below w12.heap.size w12 y → SlAt intR (fun b => w6.heap.size + 1 ≤ b ∧ b < w7.heap.size) y ja1 ml xs) := fun y hy => J1.out y (hq.trans (hy.mono hq.size))
  replace J2 : Hid (∀ y, Below w12.heap.size w12 y → SlAt intR (fun b => w6.heap.size + 1 ≤ b ∧ b < w7.heap.size) y ja2 nl ys) := fun y hy => J2.out y (hq.trans (hy.mono hq.size))
  replace JF : Hid (∀ y, Below w12.heap.size w12 y → Thw (fun b => w6.heap.size + 1 ≤ b ∧ b < w7.heap.size) y) := fun y hy => JF.out y (hq.trans (hy.mono hq.size))
  replace O1 : Hid (∀ y, Below w12.heap.size w12 y → Wri y oa ps.length (fun j => ps.getD j 0)) := fun y hy => O1.out y (hq.trans (hy.mono hq.size))
  replace O2 : Hid (∀ y, Below w12.heap.size w12 y → Wri y ob qs.length (fun j => qs.getD j 0)) := fun y hy => O2.out y (hq.trans (hy.mono hq.size))
  replace XA : Hid (∀ y, Below w12.heap.size w12 y → y.heap[w.heap.size]? = some (.cells #[.bool x0, .slice la ll lc, .slice ka kl kc] 34 (0, 0))) := fun y hy => XA.out y (hq.trans (hy.mono hq.size))
  replace lA : w.heap.size < w12.heap.size := Nat.lt_of_lt_of_le lA hq.size
  replace XC : Hid (∀ y, Below w12.heap.size w12 y → y.heap[w.heap.size + 1]? = some (.cells #[.bool y0, .slice ma ml mc, .slice na nl nc] 34 (0, 0))) := fun y hy => XC.out y (hq.trans (hy.mono hq.size))
  replace lC : w.heap.size + 1 < w12.heap.size := Nat.lt_of_lt_of_le lC hq.size
  replace XW : Hid (∀ y, Below w12.heap.size w12 y → y.heap[X]? = some (.cells #[.bool s0, .slice sa ps.length sc, .slice sb qs.length sd] 26 (0, 0))) := fun y hy => XW.out y (hq.trans (hy.mono hq.size))
  replace lW : X < w12.heap.size := Nat.lt_of_lt_of_le lW hq.size
  replace XI : Hid (∀ y, Below w12.heap.size w12 y → y.heap[w6.heap.size]? = some (.cells #[.bool x0, .slice ia1 ll (ll + ic1), .slice ia2 kl (kl + ic2)] 26 (0, 0))) := fun y hy => XI.out y (hq.trans (hy.mono hq.size))
  replace lI : w6.heap.size < w12.heap.size := Nat.lt_of_lt_of_le lI hq.size
  replace XJ : Hid (∀ y, Below w12.heap.size w12 y → y.heap[w7.heap.size]? = some (.cells #[.bool y0, .slice ja1 ml (ml + jc1), .slice ja2 nl (nl + jc2)] 26 (0, 0))) := fun y hy => XJ.out y (hq.trans (hy.mono hq.size))
  replace lJ : w7.heap.size < w12.heap.size := Nat.lt_of_lt_of_le lJ hq.size
  replace XG : Hid (∀ y, Below w12.heap.size w12 y → y.heap[w8.heap.size]? = some (.cells #[.bool s0, .slice oa ps.length oc, .slice ob qs.length od] 26 (0, 0))) := fun y hy => XG.out y (hq.trans (hy.mono hq.size))
  replace lG : w8.heap.size < w12.heap.size := Nat.lt_of_lt_of_le lG hq.size
  have zw12 : w11.heap.size ≤ w12.heap.size := hq.size
  clear hq BP
  replace KS : Hid (∀ x, Below w12.heap.size w12 x → x.cell? ⟨w.heap.size, 0, none⟩ = some (.bool x0) ∧ x.cell? ⟨w.heap.size, 1, none⟩ = some (.slice la ll lc) ∧ x.cell? ⟨w.heap.size, 2, none⟩ = some (.slice ka kl kc) ∧ x.cell? ⟨w6.heap.size, 0, none⟩ = some (.bool x0) ∧ x.cell? ⟨w6.heap.size, 1, none⟩ = some (.slice ia1 ll (ll + ic1)) ∧ x.cell? ⟨w6.heap.size, 2, none⟩ = some (.slice ia2 kl (kl + ic2))) := fun x hx => ⟨(boxG (XA.out x hx) 0).1, (boxG (XA.out x hx) 1).1, (boxG (XA.out x hx) 2).1, (boxG (XI.out x hx) 0).1, (boxG (XI.out x hx) 1).1, (boxG (XI.out x hx) 2).1⟩
  have Y1 : Hid (SlAt intR _ w12 ua1 _ us) := h1
  have Y2 : Hid (SlAt intR _ w12 ua2 _ vs) := h2
  clear h1 h2
  clear hb
  go_wp2_with fail
  refine hK.out _ _ (KS.out _ (Below.refl _ _)) (fun hHeld2 => ?_)
  clear hK K
  try simp only [Act.put, List.getElem_toArray, List.getElem_cons_zero, List.getElem_cons_succ, List.setIfInBounds_toArray, List.set_cons_zero, List.set_cons_succ]
  refine wpAnyH_ready (rs := [3]) (by kernel_rfl) (by simp) ?_
  refine AllReadyH.cons rfl (fun K hK => ?_) AllReadyH.nil
  go_simp
  go_at_call 14
  refine (eqRShape _ _ _ _ _ _ _ _ _ _ _ _ _ us vs _ (I1.out _ (Below.refl _ _)) Y1.out (I2.out _ (Below.refl _ _)) Y2.out).mono ?_
  rintro e w13 ⟨rfl, hbx⟩
  have hb : Below w12.heap.size w12 w13 := hbx
  clear hbx
  have BP : Hid (Below w12.heap.size w12 w12) := Below.refl _ _
  have hq : Below w12.heap.size w12 w13 := BP.out.trans (Below.mono hb BP.out.size)
  replace B : Hid (∀ y, Below w13.heap.size w13 y → Below w.heap.size w y) := fun y hy => B.out y (hq.trans (hy.mono hq.size))
  replace S0 : Hid (∀ y, Below w13.heap.size w13 y → SlAt intR (fun b => b < w4.heap.size) y sa ps.length ps) := fun y hy => S0.out y (hq.trans (hy.mono hq.size))
  replace S1 : Hid (∀ y, Below w13.heap.size w13 y → SlAt intR (fun b => b < w4.heap.size) y sb qs.length qs) := fun y hy => S1.out y (hq.trans (hy.mono hq.size))
  replace T : Hid (∀ y, Below w13.heap.size w13 y → SlAt clR (fun b => w4.heap.size ≤ b ∧ b < w5.heap.size) y ga cn L) := fun y hy => T.out y (hq.trans (hy.mono hq.size))
  replace TF : Hid (∀ y, Below w13.heap.size w13 y → Thw (fun b => w4.heap.size ≤ b ∧ b < w5.heap.size) y) := fun y hy => TF.out y (hq.trans (hy.mono hq.size))
  replace I1 : Hid (∀ y, Below w13.heap.size w13 y → SlAt intR (fun b => w5.heap.size ≤ b ∧ b < w6.heap.size) y ia1 ll us) := fun y hy => I1.out y (hq.trans (hy.mono hq.size))
  replace I2 : Hid (∀ y, Below w13.heap.size w13 y → SlAt intR (fun b => w5.heap.size ≤ b ∧ b < w6.heap.size) y ia2 kl vs) := fun y hy => I2.out y (hq.trans (hy.mono hq.size))
  replace IF : Hid (∀ y, Below w13.heap.size w13 y → Thw (fun b => w5.heap.size ≤ b ∧ b < w6.heap.size) y) := fun y hy => IF.out y (hq.trans (hy.mono hq.size))
  replace J1 : Hid (∀ y, Below w13.heap.size w13 y → SlAt intR (fun b => w6.heap.size + 1 ≤ b ∧ b < w7.heap.size) y ja1 ml xs) := fun y hy => J1.out y (hq.trans (hy.mono hq.size))
  replace J2 : Hid (∀ y, Below w13.heap.size w13 y → SlAt intR (fun b => w6.heap.size + 1 ≤ b ∧ b < w7.heap.size) y ja2 nl ys) := fun y hy => J2.out y (hq.trans (hy.mono hq.size))
  replace JF : Hid (∀ y, Below w13.heap.size w13 y → Thw (fun b => w6.heap.size + 1 ≤ b ∧ b < w7.heap.size) y) := fun y hy => JF.out y (hq.trans (hy.mono hq.size))
  replace O1 : Hid (∀ y, Below w13.heap.size w13 y → Wri y oa ps.length (fun j => ps.getD j 0)) := fun y hy => O1.out y (hq.trans (hy.mono hq.size))
  replace O2 : Hid (∀ y, Below w13.heap.size w13 y → Wri y ob qs.length (fun j => qs.getD j 0)) := fun y hy => O2.out y (hq.trans (hy.mono hq.size))
  replace XA : Hid (∀ y, Below w13.heap.size w13 y → y.heap[w.heap.size]? = some (.cells #[.bool x0, .slice la ll lc, .slice ka kl kc] 34 (0, 0))) := fun y hy => XA.out y (hq.trans (hy.mono hq.size))
  replace lA : w.heap.size < w13.heap.size := Nat.lt_of_lt_of_le lA hq.size
  replace XC : Hid (∀ y, Below w13.heap.size w13 y → y.heap[w.heap.size + 1]? = some (.cells #[.bool y0, .slice ma ml mc, .slice na nl nc] 34 (0, 0))) := fun y hy => XC.out y (hq.trans (hy.mono hq.size))
  replace lC : w.heap.size + 1 < w13.heap.size := Nat.lt_of_lt_of_le lC hq.size
  replace XW : Hid (∀ y, Below w13.heap.size w13 y → y.heap[X]? = some (.cells #[.bool s0, .slice sa ps.length sc, .slice sb qs.length sd] 26 (0, 0))) := fun y hy => XW.out y (hq.trans (hy.mono hq.size))
  replace lW : X < w13.heap.size := Nat.lt_of_lt_of_le lW hq.size
  replace XI : Hid (∀ y, Below w13.heap.size w13 y → y.heap[w6.heap.size]? = some (.cells #[.bool x0, .slice ia1 ll (ll + ic1), .slice ia2 kl (kl + ic2)] 26 (0, 0))) := fun y hy => XI.out y (hq.trans (hy.mono hq.size))
  replace lI : w6.heap.size < w13.heap.size := Nat.lt_of_lt_of_le lI hq.size
  replace XJ : Hid (∀ y, Below w13.heap.size w13 y → y.heap[w7.heap.size]? = some (.cells #[.bool y0, .slice ja1 ml (ml + jc1), .slice ja2 nl (nl + jc2)] 26 (0, 0))) := fun y hy => XJ.out y (hq.trans (hy.mono hq.size))
  replace lJ : w7.heap.size < w13.heap.size := Nat.lt_of_lt_of_le lJ hq.size
  replace XG : Hid (∀ y, Below w13.heap.size w13 y → y.heap[w8.heap.size]? = some (.cells #[.bool s0, .slice oa ps.length oc, .slice ob qs.length od] 26 (0, 0))) := fun y hy => XG.out y (hq.trans (hy.mono hq.size))
  replace lG : w8.heap.size < w13.heap.size := Nat.lt_of_lt_of_le lG hq.size
  have zw13 : w12.heap.size ≤ w13.heap.size := hq.size
  clear hq BP
  replace KS : Hid (∀ x, Below w13.heap.size w13 x → x.cell? ⟨w.heap.size, 0, none⟩ = some (.bool x0) ∧ x.cell? ⟨w.heap.size, 1, none⟩ = some (.slice la ll lc) ∧ x.cell? ⟨w.heap.size, 2, none⟩ = some (.slice ka kl kc) ∧ x.cell? ⟨w6.heap.size, 0, none⟩ = some (.bool x0) ∧ x.cell? ⟨w6.heap.size, 1, none⟩ = some (.slice ia1 ll (ll + ic1)) ∧ x.cell? ⟨w6.heap.size, 2, none⟩ = some (.slice ia2 kl (kl + ic2))) := fun x hx => ⟨(boxG (XA.out x hx) 0).1, (boxG (XA.out x hx) 1).1, (boxG (XA.out x hx) 2).1, (boxG (XI.out x hx) 0).1, (boxG (XI.out x hx) 1).1, (boxG (XI.out x hx) 2).1⟩
  clear Y1 Y2
  clear hb
  go_wp2_with fail
  refine hK.out _ _ (KS.out _ (Below.refl _ _)) (fun hHeld3 => ?_)
  clear hK K
  try simp only [Act.put, List.getElem_toArray, List.getElem_cons_zero, List.getElem_cons_succ, List.setIfInBounds_toArray, List.set_cons_zero, List.set_cons_succ]
  refine wpAnyH_take (i := 4) (v := .bool false) rfl (by kernel_rfl) (by kernel_rfl) (by kernel_rfl) (fun _ _ _ h => h) (Or.inl ⟨by kernel_rfl, by (intro x hSx; (try dsimp only at hSx); go_simp)⟩) (by assumption) ?_
  try simp only [Act.put, List.getElem_toArray, List.getElem_cons_zero, List.getElem_cons_succ, List.setIfInBounds_toArray, List.set_cons_zero, List.set_cons_succ]
  refine wpAnyH_done (by kernel_rfl) ?_ _
  clear hHeld hHeld2 hHeld3
  clear kA0 kA1 kA2 kC0 kC1 kC2 kW0 kW1 kW2 kI0 kI1 kI2 kJ0 kJ1 kJ2 kG0 kG1 kG2
  clear KS
  have kA0 : w13.cell? ⟨w.heap.size, 0, none⟩ = some (.bool x0) := (boxG (XA.out w13 (Below.refl _ _)) 0).1
  have kA1 : w13.cell? ⟨w.heap.size, 1, none⟩ = some (.slice la ll lc) := (boxG (XA.out w13 (Below.refl _ _)) 1).1
  have kA2 : w13.cell? ⟨w.heap.size, 2, none⟩ = some (.slice ka kl kc) := (boxG (XA.out w13 (Below.refl _ _)) 2).1
  have kC0 : w13.cell? ⟨w.heap.size + 1, 0, none⟩ = some (.bool y0) := (boxG (XC.out w13 (Below.refl _ _)) 0).1
  have kC1 : w13.cell? ⟨w.heap.size + 1, 1, none⟩ = some (.slice ma ml mc) := (boxG (XC.out w13 (Below.refl _ _)) 1).1
  have kC2 : w13.cell? ⟨w.heap.size + 1, 2, none⟩ = some (.slice na nl nc) := (boxG (XC.out w13 (Below.refl _ _)) 2).1
  have kW0 : w13.cell? ⟨X, 0, none⟩ = some (.bool s0) := (boxG (XW.out w13 (Below.refl _ _)) 0).1
  have kW1 : w13.cell? ⟨X, 1, none⟩ = some (.slice sa ps.length sc) := (boxG (XW.out w13 (Below.refl _ _)) 1).1
  have kW2 : w13.cell? ⟨X, 2, none⟩ = some (.slice sb qs.length sd) := (boxG (XW.out w13 (Below.refl _ _)) 2).1
  have kI0 : w13.cell? ⟨w6.heap.size, 0, none⟩ = some (.bool x0) := (boxG (XI.out w13 (Below.refl _ _)) 0).1
  have kI1 : w13.cell? ⟨w6.heap.size, 1, none⟩ = some (.slice ia1 ll (ll + ic1)) := (boxG (XI.out w13 (Below.refl _ _)) 1).1
  have kI2 : w13.cell? ⟨w6.heap.size, 2, none⟩ = some (.slice ia2 kl (kl + ic2)) := (boxG (XI.out w13 (Below.refl _ _)) 2).1
  have kJ0 : w13.cell? ⟨w7.heap.size, 0, none⟩ = some (.bool y0) := (boxG (XJ.out w13 (Below.refl _ _)) 0).1
  have kJ1 : w13.cell? ⟨w7.heap.size, 1, none⟩ = some (.slice ja1 ml (ml + jc1)) := (boxG (XJ.out w13 (Below.refl _ _)) 1).1
  have kJ2 : w13.cell? ⟨w7.heap.size, 2, none⟩ = some (.slice ja2 nl (nl + jc2)) := (boxG (XJ.out w13 (Below.refl _ _)) 2).1
  have kG0 : w13.cell? ⟨w8.heap.size, 0, none⟩ = some (.bool s0) := (boxG (XG.out w13 (Below.refl _ _)) 0).1
  have kG1 : w13.cell? ⟨w8.heap.size, 1, none⟩ = some (.slice oa ps.length oc) := (boxG (XG.out w13 (Below.refl _ _)) 1).1
  have kG2 : w13.cell? ⟨w8.heap.size, 2, none⟩ = some (.slice ob qs.length od) := (boxG (XG.out w13 (Below.refl _ _)) 2).1
  go_wp2_with fail
  have KS : Hid (∀ x, Below w13.heap.size w13 x → x.cell? ⟨w.heap.size + 1, 0, none⟩ = some (.bool y0) ∧ x.cell? ⟨w.heap.size + 1, 1, none⟩ = some (.slice ma ml mc) ∧ x.cell? ⟨w.heap.size + 1, 2, none⟩ = some (.slice na nl nc) ∧ x.cell? ⟨w7.heap.size, 0, none⟩ = some (.bool y0) ∧ x.cell? ⟨w7.heap.size, 1, none⟩ = some (.slice ja1 ml (ml + jc1)) ∧ x.cell? ⟨w7.heap.size, 2, none⟩ = some (.slice ja2 nl (nl + jc2))) := fun x hx => ⟨(boxG (XC.out x hx) 0).1, (boxG (XC.out x hx) 1).1, (boxG (XC.out x hx) 2).1, (boxG (XJ.out x hx) 0).1, (boxG (XJ.out x hx) 1).1, (boxG (XJ.out x hx) 2).1⟩
  refine wp_region_held_drew (S := fun x => x.cell? ⟨w.heap.size + 1, 0, none⟩ = some (.bool y0) ∧ x.cell? ⟨w.heap.size + 1, 1, none⟩ = some (.slice ma ml mc) ∧ x.cell? ⟨w.heap.size + 1, 2, none⟩ = some (.slice na nl nc) ∧ x.cell? ⟨w7.heap.size, 0, none⟩ = some (.bool y0) ∧ x.cell? ⟨w7.heap.size, 1, none⟩ = some (.slice ja1 ml (ml + jc1)) ∧ x.cell? ⟨w7.heap.size, 2, none⟩ = some (.slice ja2 nl (nl + jc2))) (by kernel_rfl) ?_ (fun hHeld => ?_)
  · exact KS.out _ (below_drewN (Below.refl _ _) 1)
  refine wpAnyH_take (i := 0) (v := .agg #[.bool y0, .slice ja1 ml (ml + jc1), .slice ja2 nl (nl + jc2)]) rfl (by kernel_rfl) (by kernel_rfl) (by kernel_rfl) (fun _ _ _ h => h) (Or.inl ⟨by kernel_rfl, by (intro x hSx; (try dsimp only at hSx); go_simp)⟩) (by assumption) ?_
  try simp only [Act.put, List.getElem_toArray, List.getElem_cons_zero, List.setIfInBounds_toArray, List.set_cons_zero, List.set_cons_succ]
  refine wpAnyH_take (i := 1) (v := .agg #[.bool y0, .slice ma ml mc, .slice na nl nc]) rfl (by kernel_rfl) (by kernel_rfl) (by kernel_rfl) (fun _ _ _ h => h) (Or.inl ⟨by kernel_rfl, by (intro x hSx; (try dsimp only at hSx); go_simp)⟩) (by assumption) ?_
  try simp only [Act.put, List.getElem_toArray, List.getElem_cons_zero, List.getElem_cons_succ, List.setIfInBounds_toArray, List.set_cons_zero, List.set_cons_succ]
  refine wpAnyH_ready (rs := [2]) (by kernel_rfl) (by simp) ?_
  refine AllReadyH.cons rfl (fun K hK => ?_) AllReadyH.nil
  go_simp
  go_at_call 13
  refine (toRShape _ _ _ _ _ _ _ xs ys _ (HX.out.later (B.out _ (below_drewN (Below.refl _ _) 1))) SX.out (HY.out.later (B.out _ (below_drewN (Below.refl _ _) 1))) SY.out).mono ?_
  rintro e w14 ⟨ua1, uc1, ua2, uc2, rfl, h1, h2, hbx⟩
  have hb : Below w13.heap.size w13 w14 := (below_drewN (Below.refl _ _) 1).trans (hbx.mono (Nat.le_refl _))
  clear hbx
  have BP : Hid (Below w13.heap.size w13 w13) := Below.refl _ _
  have hq : Below w13.heap.size w13 w14 := BP.out.trans (Below.mono hb BP.out.size)
  replace B : Hid (∀ y, Below w14.heap.size w14 y → Below w.heap.size w y) := fun y hy => B.out y (hq.trans (hy.mono hq.size))
  replace S0 : Hid (∀ y, Below w14.heap.size w14 y → SlAt intR (fun b => b < w4.heap.size) y sa ps.length ps) := fun y hy => S0.out y (hq.trans (hy.mono hq.size))
  replace S1 : Hid (∀ y, Below w14.heap.size w14 y → SlAt intR (fun b => b < w4.heap.size) y sb qs.length qs) := fun y hy => S1.out y (hq.trans (hy.mono hq.size))
  replace T : Hid (∀ y, Below w14.heap.size w14 y → SlAt clR (fun b => w4.heap.size ≤ b ∧ b < w5.heap.size) y ga cn L) := fun y hy => T.out y (hq.trans (hy.mono hq.size))
  replace TF : Hid (∀ y, Below w14.heap.size w14 y → Thw (fun b => w4.heap.size ≤ b ∧ b < w5.heap.size) y) := fun y hy => TF.out y (hq.trans (hy.mono hq.size))
  replace I1 : Hid (∀ y, Below w14.heap.size w14 y → SlAt intR (fun b => w5.heap.size ≤ b ∧ b < w6.heap.size) y ia1 ll us) := fun y hy => I1.out y (hq.trans (hy.mono hq.size))
  replace I2 : Hid (∀ y, Below w14.heap.size w14 y → SlAt intR (fun b => w5.heap.size ≤ b ∧ b < w6.heap.size) y ia2 kl vs) := fun y hy => I2.out y (hq.trans (hy.mono hq.size))
  replace IF : Hid (∀ y, Below w14.heap.size w14 y → Thw (fun b => w5.heap.size ≤ b ∧ b < w6.heap.size) y) := fun y hy => IF.out y (hq.trans (hy.mono hq.size))
  replace J1 : Hid (∀ y, Below w14.heap.size w14 y → SlAt intR (fun b => w6.heap.size + 1 ≤ b ∧ b < w7.heap.size) y ja1 ml xs) := fun y hy => J1.out y (hq.trans (hy.mono hq.size))
  replace J2 : Hid (∀ y, Below w14.heap.size w14 y → SlAt intR (fun b => w6.heap.size + 1 ≤ b ∧ b < w7.heap.size) y ja2 nl ys) := fun y hy => J2.out y (hq.trans (hy.mono hq.size))
  replace JF : Hid (∀ y, Below w14.heap.size w14 y → Thw (fun b => w6.heap.size + 1 ≤ b ∧ b < w7.heap.size) y) := fun y hy => JF.out y (hq.trans (hy.mono hq.size))
  replace O1 : Hid (∀ y, Below w14.heap.size w14 y → Wri y oa ps.length (fun j => ps.getD j 0)) := fun y hy => O1.out y (hq.trans (hy.mono hq.size))
  replace O2 : Hid (∀ y, Below w14.heap.size w14 y → Wri y ob qs.length (fun j => qs.getD j 0)) := fun y hy => O2.out y (hq.trans (hy.mono hq.size))
  replace XA : Hid (∀ y, Below w14.heap.size w14 y → y.heap[w.heap.size]? = some (.cells #[.bool x0, .slice la ll lc, .slice ka kl kc] 34 (0, 0))) := fun y hy => XA.out y (hq.trans (hy.mono hq.size))
  replace lA : w.heap.size < w14.heap.size := Nat.lt_of_lt_of_le lA hq.size
  replace XC : Hid (∀ y, Below w14.heap.size w14 y → y.heap[w.heap.size + 1]? = some (.cells #[.bool y0, .slice ma ml mc, .slice na nl nc] 34 (0, 0))) := fun y hy => XC.out y (hq.trans (hy.mono hq.size))
  replace lC : w.heap.size + 1 < w14.heap.size := Nat.lt_of_lt_of_le lC hq.size
  replace XW : Hid (∀ y, Below w14.heap.size w14 y → y.heap[X]? = some (.cells #[.bool s0, .slice sa ps.length sc, .slice sb qs.length sd] 26 (0, 0))) := fun y hy => XW.out y (hq.trans (hy.mono hq.size))
  replace lW : X < w14.heap.size := Nat.lt_of_lt_of_le lW hq.size
  replace XI : Hid (∀ y, Below w14.heap.size w14 y → y.heap[w6.heap.size]? = some (.cells #[.bool x0, .slice ia1 ll (ll + ic1), .slice ia2 kl (kl + ic2)] 26 (0, 0))) := fun y hy => XI.out y (hq.trans (hy.mono hq.size))
  replace lI : w6.heap.size < w14.heap.size := Nat.lt_of_lt_of_le lI hq.size
  replace XJ : Hid (∀ y, Below w14.heap.size w14 y → y.heap[w7.heap.size]? = some (.cells #[.bool y0, .slice ja1 ml (ml + jc1), .slice ja2 nl (nl + jc2)] 26 (0, 0))) := fun y hy => XJ.out y (hq.trans (hy.mono hq.size))
  replace lJ : w7.heap.size < w14.heap.size := Nat.lt_of_lt_of_le lJ hq.size
  replace XG : Hid (∀ y, Below w14.heap.size w14 y → y.heap[w8.heap.size]? = some (.cells #[.bool s0, .slice oa ps.length oc, .slice ob qs.length od] 26 (0, 0))) := fun y hy => XG.out y (hq.trans (hy.mono hq.size))
  replace lG : w8.heap.size < w14.heap.size := Nat.lt_of_lt_of_le lG hq.size
  have zw14 : w13.heap.size ≤ w14.heap.size := hq.size
  clear hq BP
  replace KS : Hid (∀ x, Below w14.heap.size w14 x → x.cell? ⟨w.heap.size + 1, 0, none⟩ = some (.bool y0) ∧ x.cell? ⟨w.heap.size + 1, 1, none⟩ = some (.slice ma ml mc) ∧ x.cell? ⟨w.heap.size + 1, 2, none⟩ = some (.slice na nl nc) ∧ x.cell? ⟨w7.heap.size, 0, none⟩ = some (.bool y0) ∧ x.cell? ⟨w7.heap.size, 1, none⟩ = some (.slice ja1 ml (ml + jc1)) ∧ x.cell? ⟨w7.heap.size, 2, none⟩ = some (.slice ja2 nl (nl + jc2))) := fun x hx => ⟨(boxG (XC.out x hx) 0).1, (boxG (XC.out x hx) 1).1, (boxG (XC.out x hx) 2).1, (boxG (XJ.out x hx) 0).1, (boxG (XJ.out x hx) 1).1, (boxG (XJ.out x hx) 2).1⟩
  have Y1 : Hid (SlAt intR _ w14 ua1 _ xs) := h1
  have Y2 : Hid (SlAt intR _ w14 ua2 _ ys) := h2
  clear h1 h2
  clear hb
  go_wp2_with fail
  refine hK.out _ _ (KS.out _ (Below.refl _ _)) (fun hHeld2 => ?_)
  clear hK K
  try simp only [Act.put, List.getElem_toArray, List.getElem_cons_zero, List.getElem_cons_succ, List.setIfInBounds_toArray, List.set_cons_zero, List.set_cons_succ]
  refine wpAnyH_ready (rs := [3]) (by kernel_rfl) (by simp) ?_
  refine AllReadyH.cons rfl (fun K hK => ?_) AllReadyH.nil
  go_simp
  go_at_call 14
  refine (eqRShape _ _ _ _ _ _ _ _ _ _ _ _ _ xs ys _ (J1.out _ (Below.refl _ _)) Y1.out (J2.out _ (Below.refl _ _)) Y2.out).mono ?_
  rintro e w15 ⟨rfl, hbx⟩
  have hb : Below w14.heap.size w14 w15 := hbx
  clear hbx
  have BP : Hid (Below w14.heap.size w14 w14) := Below.refl _ _
  have hq : Below w14.heap.size w14 w15 := BP.out.trans (Below.mono hb BP.out.size)
  replace B : Hid (∀ y, Below w15.heap.size w15 y → Below w.heap.size w y) := fun y hy => B.out y (hq.trans (hy.mono hq.size))
  replace S0 : Hid (∀ y, Below w15.heap.size w15 y → SlAt intR (fun b => b < w4.heap.size) y sa ps.length ps) := fun y hy => S0.out y (hq.trans (hy.mono hq.size))
  replace S1 : Hid (∀ y, Below w15.heap.size w15 y → SlAt intR (fun b => b < w4.heap.size) y sb qs.length qs) := fun y hy => S1.out y (hq.trans (hy.mono hq.size))
  replace T : Hid (∀ y, Below w15.heap.size w15 y → SlAt clR (fun b => w4.heap.size ≤ b ∧ b < w5.heap.size) y ga cn L) := fun y hy => T.out y (hq.trans (hy.mono hq.size))
  replace TF : Hid (∀ y, Below w15.heap.size w15 y → Thw (fun b => w4.heap.size ≤ b ∧ b < w5.heap.size) y) := fun y hy => TF.out y (hq.trans (hy.mono hq.size))
  replace I1 : Hid (∀ y, Below w15.heap.size w15 y → SlAt intR (fun b => w5.heap.size ≤ b ∧ b < w6.heap.size) y ia1 ll us) := fun y hy => I1.out y (hq.trans (hy.mono hq.size))
  replace I2 : Hid (∀ y, Below w15.heap.size w15 y → SlAt intR (fun b => w5.heap.size ≤ b ∧ b < w6.heap.size) y ia2 kl vs) := fun y hy => I2.out y (hq.trans (hy.mono hq.size))
  replace IF : Hid (∀ y, Below w15.heap.size w15 y → Thw (fun b => w5.heap.size ≤ b ∧ b < w6.heap.size) y) := fun y hy => IF.out y (hq.trans (hy.mono hq.size))
  replace J1 : Hid (∀ y, Below w15.heap.size w15 y → SlAt intR (fun b => w6.heap.size + 1 ≤ b ∧ b < w7.heap.size) y ja1 ml xs) := fun y hy => J1.out y (hq.trans (hy.mono hq.size))
  replace J2 : Hid (∀ y, Below w15.heap.size w15 y → SlAt intR (fun b => w6.heap.size + 1 ≤ b ∧ b < w7.heap.size) y ja2 nl ys) := fun y hy => J2.out y (hq.trans (hy.mono hq.size))
  replace JF : Hid (∀ y, Below w15.heap.size w15 y → Thw (fun b => w6.heap.size + 1 ≤ b ∧ b < w7.heap.size) y) := fun y hy => JF.out y (hq.trans (hy.mono hq.size))
  replace O1 : Hid (∀ y, Below w15.heap.size w15 y → Wri y oa ps.length (fun j => ps.getD j 0)) := fun y hy => O1.out y (hq.trans (hy.mono hq.size))
  replace O2 : Hid (∀ y, Below w15.heap.size w15 y → Wri y ob qs.length (fun j => qs.getD j 0)) := fun y hy => O2.out y (hq.trans (hy.mono hq.size))
  replace XA : Hid (∀ y, Below w15.heap.size w15 y → y.heap[w.heap.size]? = some (.cells #[.bool x0, .slice la ll lc, .slice ka kl kc] 34 (0, 0))) := fun y hy => XA.out y (hq.trans (hy.mono hq.size))
  replace lA : w.heap.size < w15.heap.size := Nat.lt_of_lt_of_le lA hq.size
  replace XC : Hid (∀ y, Below w15.heap.size w15 y → y.heap[w.heap.size + 1]? = some (.cells #[.bool y0, .slice ma ml mc, .slice na nl nc] 34 (0, 0))) := fun y hy => XC.out y (hq.trans (hy.mono hq.size))
  replace lC : w.heap.size + 1 < w15.heap.size := Nat.lt_of_lt_of_le lC hq.size
  replace XW : Hid (∀ y, Below w15.heap.size w15 y → y.heap[X]? = some (.cells #[.bool s0, .slice sa ps.length sc, .slice sb qs.length sd] 26 (0, 0))) := fun y hy => XW.out y (hq.trans (hy.mono hq.size))
  replace lW : X < w15.heap.size := Nat.lt_of_lt_of_le lW hq.size
  replace XI : Hid (∀ y, Below w15.heap.size w15 y → y.heap[w6.heap.size]? = some (.cells #[.bool x0, .slice ia1 ll (ll + ic1), .slice ia2 kl (kl + ic2)] 26 (0, 0))) := fun y hy => XI.out y (hq.trans (hy.mono hq.size))
  replace lI : w6.heap.size < w15.heap.size := Nat.lt_of_lt_of_le lI hq.size
  replace XJ : Hid (∀ y, Below w15.heap.size w15 y → y.heap[w7.heap.size]? = some (.cells #[.bool y0, .slice ja1 ml (ml + jc1), .slice ja2 nl (nl + jc2)] 26 (0, 0))) := fun y hy => XJ.out y (hq.trans (hy.mono hq.size))
  replace lJ : w7.heap.size < w15.heap.size := Nat.lt_of_lt_of_le lJ hq.size
  replace XG : Hid (∀ y, Below w15.heap.size w15 y → y.heap[w8.heap.size]? = some (.cells #[.bool s0, .slice oa ps.length oc, .slice ob qs.length od] 26 (0, 0))) := fun y hy => XG.out y (hq.trans (hy.mono hq.size))
  replace lG : w8.heap.size < w15.heap.size := Nat.lt_of_lt_of_le lG hq.size
  have zw15 : w14.heap.size ≤ w15.heap.size := hq.size
  clear hq BP
  replace KS : Hid (∀ x, Below w15.heap.size w15 x → x.cell? ⟨w.heap.size + 1, 0, none⟩ = some (.bool y0) ∧ x.cell? ⟨w.heap.size + 1, 1, none⟩ = some (.slice ma ml mc) ∧ x.cell? ⟨w.heap.size + 1, 2, none⟩ = some (.slice na nl nc) ∧ x.cell? ⟨w7.heap.size, 0, none⟩ = some (.bool y0) ∧ x.cell? ⟨w7.heap.size, 1, none⟩ = some (.slice ja1 ml (ml + jc1)) ∧ x.cell? ⟨w7.heap.size, 2, none⟩ = some (.slice ja2 nl (nl + jc2))) := fun x hx => ⟨(boxG (XC.out x hx) 0).1, (boxG (XC.out x hx) 1).1, (boxG (XC.out x hx) 2).1, (boxG (XJ.out x hx) 0).1, (boxG (XJ.out x hx) 1).1, (boxG (XJ.out x hx) 2).1⟩
  clear Y1 Y2
  clear hb
  go_wp2_with fail
  refine hK.out _ _ (KS.out _ (Below.refl _ _)) (fun hHeld3 => ?_)
  clear hK K
  try simp only [Act.put, List.getElem_toArray, List.getElem_cons_zero, List.getElem_cons_succ, List.setIfInBounds_toArray, List.set_cons_zero, List.set_cons_succ]
  refine wpAnyH_take (i := 4) (v := .bool false) rfl (by kernel_rfl) (by kernel_rfl) (by kernel_rfl) (fun _ _ _ h => h) (Or.inl ⟨by kernel_rfl, by (intro x hSx; (try dsimp only at hSx); go_simp)⟩) (by assumption) ?_
  try simp only [Act.put, List.getElem_toArray, List.getElem_cons_zero, List.getElem_cons_succ, List.setIfInBounds_toArray, List.set_cons_zero, List.set_cons_succ]
  refine wpAnyH_done (by kernel_rfl) ?_ _
  clear hHeld hHeld2 hHeld3
  clear kA0 kA1 kA2 kC0 kC1 kC2 kW0 kW1 kW2 kI0 kI1 kI2 kJ0 kJ1 kJ2 kG0 kG1 kG2
  clear KS
  have kA0 : w15.cell? ⟨w.heap.size, 0, none⟩ = some (.bool x0) := (boxG (XA.out w15 (Below.refl _ _)) 0).1
  have kA1 : w15.cell? ⟨w.heap.size, 1, none⟩ = some (.slice la ll lc) := (boxG (XA.out w15 (Below.refl _ _)) 1).1
  have kA2 : w15.cell? ⟨w.heap.size, 2, none⟩ = some (.slice ka kl kc) := (boxG (XA.out w15 (Below.refl _ _)) 2).1
  have kC0 : w15.cell? ⟨w.heap.size + 1, 0, none⟩ = some (.bool y0) := (boxG (XC.out w15 (Below.refl _ _)) 0).1
  have kC1 : w15.cell? ⟨w.heap.size + 1, 1, none⟩ = some (.slice ma ml mc) := (boxG (XC.out w15 (Below.refl _ _)) 1).1
  have kC2 : w15.cell? ⟨w.heap.size + 1, 2, none⟩ = some (.slice na nl nc) := (boxG (XC.out w15 (Below.refl _ _)) 2).1
  have kW0 : w15.cell? ⟨X, 0, none⟩ = some (.bool s0) := (boxG (XW.out w15 (Below.refl _ _)) 0).1
  have kW1 : w15.cell? ⟨X, 1, none⟩ = some (.slice sa ps.length sc) := (boxG (XW.out w15 (Below.refl _ _)) 1).1
  have kW2 : w15.cell? ⟨X, 2, none⟩ = some (.slice sb qs.length sd) := (boxG (XW.out w15 (Below.refl _ _)) 2).1
  have kI0 : w15.cell? ⟨w6.heap.size, 0, none⟩ = some (.bool x0) := (boxG (XI.out w15 (Below.refl _ _)) 0).1
  have kI1 : w15.cell? ⟨w6.heap.size, 1, none⟩ = some (.slice ia1 ll (ll + ic1)) := (boxG (XI.out w15 (Below.refl _ _)) 1).1
  have kI2 : w15.cell? ⟨w6.heap.size, 2, none⟩ = some (.slice ia2 kl (kl + ic2)) := (boxG (XI.out w15 (Below.refl _ _)) 2).1
  have kJ0 : w15.cell? ⟨w7.heap.size, 0, none⟩ = some (.bool y0) := (boxG (XJ.out w15 (Below.refl _ _)) 0).1
  have kJ1 : w15.cell? ⟨w7.heap.size, 1, none⟩ = some (.slice ja1 ml (ml + jc1)) := (boxG (XJ.out w15 (Below.refl _ _)) 1).1
  have kJ2 : w15.cell? ⟨w7.heap.size, 2, none⟩ = some (.slice ja2 nl (nl + jc2)) := (boxG (XJ.out w15 (Below.refl _ _)) 2).1
  have kG0 : w15.cell? ⟨w8.heap.size, 0, none⟩ = some (.bool s0) := (boxG (XG.out w15 (Below.refl _ _)) 0).1
  have kG1 : w15.cell? ⟨w8.heap.size, 1, none⟩ = some (.slice oa ps.length oc) := (boxG (XG.out w15 (Below.refl _ _)) 1).1
  have kG2 : w15.cell? ⟨w8.heap.size, 2, none⟩ = some (.slice ob qs.length od) := (boxG (XG.out w15 (Below.refl _ _)) 2).1
  go_wp2_with fail
  refine (markLClass _ _ _ _ _ (D := fun b => w4.heap.size ≤ b ∧ b < w5.heap.size) (SlP.of (T.out _ (Below.refl _ _)) SL.out) (TF.out _ (Below.refl _ _)) (by omega) (by omega)).mono ?_
  rintro e w16 ⟨k1, rfl, ka1, kb1, hm⟩
  have hc := hm.chg
  clear hm
  clear kA0 kA1 kA2 kC0 kC1 kC2 kW0 kW1 kW2 kI0 kI1 kI2 kJ0 kJ1 kJ2 kG0 kG1 kG2
  replace XA : Hid (∀ y, Below w16.heap.size w16 y → y.heap[w.heap.size]? = some (.cells #[.bool x0, .slice la ll lc, .slice ka kl kc] 34 (0, 0))) := fun y hy => (hy.block _ (Nat.lt_of_lt_of_le lA (Chg.size hc))).trans ((Chg.block hc _ lA (fun hd => by have h1 := hd.1; have h2 := hd.2; omega)).trans (XA.out w15 (Below.refl _ _)))
  replace lA : w.heap.size < w16.heap.size := Nat.lt_of_lt_of_le lA (Chg.size hc)
  replace XC : Hid (∀ y, Below w16.heap.size w16 y → y.heap[w.heap.size + 1]? = some (.cells #[.bool y0, .slice ma ml mc, .slice na nl nc] 34 (0, 0))) := fun y hy => (hy.block _ (Nat.lt_of_lt_of_le lC (Chg.size hc))).trans ((Chg.block hc _ lC (fun hd => by have h1 := hd.1; have h2 := hd.2; omega)).trans (XC.out w15 (Below.refl _ _)))
  replace lC : w.heap.size + 1 < w16.heap.size := Nat.lt_of_lt_of_le lC (Chg.size hc)
  replace XW : Hid (∀ y, Below w16.heap.size w16 y → y.heap[X]? = some (.cells #[.bool s0, .slice sa ps.length sc, .slice sb qs.length sd] 26 (0, 0))) := fun y hy => (hy.block _ (Nat.lt_of_lt_of_le lW (Chg.size hc))).trans ((Chg.block hc _ lW (fun hd => by have h1 := hd.1; have h2 := hd.2; omega)).trans (XW.out w15 (Below.refl _ _)))
  replace lW : X < w16.heap.size := Nat.lt_of_lt_of_le lW (Chg.size hc)
  replace XI : Hid (∀ y, Below w16.heap.size w16 y → y.heap[w6.heap.size]? = some (.cells #[.bool x0, .slice ia1 ll (ll + ic1), .slice ia2 kl (kl + ic2)] 26 (0, 0))) := fun y hy => (hy.block _ (Nat.lt_of_lt_of_le lI (Chg.size hc))).trans ((Chg.block hc _ lI (fun hd => by have h1 := hd.1; have h2 := hd.2; omega)).trans (XI.out w15 (Below.refl _ _)))
  replace lI : w6.heap.size < w16.heap.size := Nat.lt_of_lt_of_le lI (Chg.size hc)
  replace XJ : Hid (∀ y, Below w16.heap.size w16 y → y.heap[w7.heap.size]? = some (.cells #[.bool y0, .slice ja1 ml (ml + jc1), .slice ja2 nl (nl + jc2)] 26 (0, 0))) := fun y hy => (hy.block _ (Nat.lt_of_lt_of_le lJ (Chg.size hc))).trans ((Chg.block hc _ lJ (fun hd => by have h1 := hd.1; have h2 := hd.2; omega)).trans (XJ.out w15 (Below.refl _ _)))
  replace lJ : w7.heap.size < w16.heap.size := Nat.lt_of_lt_of_le lJ (Chg.size hc)
  replace XG : Hid (∀ y, Below w16.heap.size w16 y → y.heap[w8.heap.size]? = some (.cells #[.bool s0, .slice oa ps.length oc, .slice ob qs.length od] 26 (0, 0))) := fun y hy => (hy.block _ (Nat.lt_of_lt_of_le lG (Chg.size hc))).trans ((Chg.block hc _ lG (fun hd => by have h1 := hd.1; have h2 := hd.2; omega)).trans (XG.out w15 (Below.refl _ _)))
  replace lG : w8.heap.size < w16.heap.size := Nat.lt_of_lt_of_le lG (Chg.size hc)
  have zw16 : w15.heap.size ≤ w16.heap.size := Chg.size hc
  replace B : Hid (∀ y, Below w16.heap.size w16 y → Below w.heap.size w y) := fun y hy => ((B.out _ (Below.refl _ _)).trans (hc.below (Below.size (B.out _ (Below.refl _ _))) (fun i hi hd => by have := hd.1; omega))).trans (hy.mono (by omega))
  replace S0 : Hid (∀ y, Below w16.heap.size w16 y → SlAt intR (fun b => b < w4.heap.size) y sa ps.length ps) := fun y hy => ((S0.out _ (Below.refl _ _)).keep (fun b o hd hl => hc.cell b o hl (fun hh => by have := hh.1; omega))).later hy
  replace S1 : Hid (∀ y, Below w16.heap.size w16 y → SlAt intR (fun b => b < w4.heap.size) y sb qs.length qs) := fun y hy => ((S1.out _ (Below.refl _ _)).keep (fun b o hd hl => hc.cell b o hl (fun hh => by have := hh.1; omega))).later hy
  clear T
  clear TF
  replace I1 : Hid (∀ y, Below w16.heap.size w16 y → SlAt intR (fun b => w5.heap.size ≤ b ∧ b < w6.heap.size) y ia1 ll us) := fun y hy => ((I1.out _ (Below.refl _ _)).keep (fun b o hd hl => hc.cell b o hl (fun hh => by have h1 := hh.1; have h2 := hh.2; have h3 := hd.1; have h4 := hd.2; omega))).later hy
  replace I2 : Hid (∀ y, Below w16.heap.size w16 y → SlAt intR (fun b => w5.heap.size ≤ b ∧ b < w6.heap.size) y ia2 kl vs) := fun y hy => ((I2.out _ (Below.refl _ _)).keep (fun b o hd hl => hc.cell b o hl (fun hh => by have h1 := hh.1; have h2 := hh.2; have h3 := hd.1; have h4 := hd.2; omega))).later hy
  replace IF : Hid (∀ y, Below w16.heap.size w16 y → Thw (fun b => w5.heap.size ≤ b ∧ b < w6.heap.size) y) := fun y hy b o hd => (hy.frozen (p := ⟨b, o, none⟩) (by have h3 := hd.1; have h4 := hd.2; simp only; omega)).trans ((hc.frozen b o (by have h3 := hd.1; have h4 := hd.2; omega) (fun hh => by have h1 := hh.1; have h2 := hh.2; have h3 := hd.1; have h4 := hd.2; omega)).trans (IF.out _ (Below.refl _ _) b o hd))
  replace J1 : Hid (∀ y, Below w16.heap.size w16 y → SlAt intR (fun b => w6.heap.size + 1 ≤ b ∧ b < w7.heap.size) y ja1 ml xs) := fun y hy => ((J1.out _ (Below.refl _ _)).keep (fun b o hd hl => hc.cell b o hl (fun hh => by have h1 := hh.1; have h2 := hh.2; have h3 := hd.1; have h4 := hd.2; omega))).later hy
  replace J2 : Hid (∀ y, Below w16.heap.size w16 y → SlAt intR (fun b => w6.heap.size + 1 ≤ b ∧ b < w7.heap.size) y ja2 nl ys) := fun y hy => ((J2.out _ (Below.refl _ _)).keep (fun b o hd hl => hc.cell b o hl (fun hh => by have h1 := hh.1; have h2 := hh.2; have h3 := hd.1; have h4 := hd.2; omega))).later hy
  replace JF : Hid (∀ y, Below w16.heap.size w16 y → Thw (fun b => w6.heap.size + 1 ≤ b ∧ b < w7.heap.size) y) := fun y hy b o hd => (hy.frozen (p := ⟨b, o, none⟩) (by have h3 := hd.1; have h4 := hd.2; simp only; omega)).trans ((hc.frozen b o (by have h3 := hd.1; have h4 := hd.2; omega) (fun hh => by have h1 := hh.1; have h2 := hh.2; have h3 := hd.1; have h4 := hd.2; omega)).trans (JF.out _ (Below.refl _ _) b o hd))
  replace O1 : Hid (∀ y, Below w16.heap.size w16 y → Wri y oa ps.length (fun j => ps.getD j 0)) := fun y hy => ((O1.out _ (Below.refl _ _)).keep hc (fun x hx hp hh => by have h1 := (G1.out x hx hp).1; have h2 := hh.2; omega)).later hy
  replace O2 : Hid (∀ y, Below w16.heap.size w16 y → Wri y ob qs.length (fun j => qs.getD j 0)) := fun y hy => ((O2.out _ (Below.refl _ _)).keep hc (fun x hx hp hh => by have h1 := (G2.out x hx hp).1; have h2 := hh.2; omega)).later hy
  clear hc
  have kA0 : w16.cell? ⟨w.heap.size, 0, none⟩ = some (.bool x0) := (boxG (XA.out w16 (Below.refl _ _)) 0).1
  have kA1 : w16.cell? ⟨w.heap.size, 1, none⟩ = some (.slice la ll lc) := (boxG (XA.out w16 (Below.refl _ _)) 1).1
  have kA2 : w16.cell? ⟨w.heap.size, 2, none⟩ = some (.slice ka kl kc) := (boxG (XA.out w16 (Below.refl _ _)) 2).1
  have kC0 : w16.cell? ⟨w.heap.size + 1, 0, none⟩ = some (.bool y0) := (boxG (XC.out w16 (Below.refl _ _)) 0).1
  have kC1 : w16.cell? ⟨w.heap.size + 1, 1, none⟩ = some (.slice ma ml mc) := (boxG (XC.out w16 (Below.refl _ _)) 1).1
  have kC2 : w16.cell? ⟨w.heap.size + 1, 2, none⟩ = some (.slice na nl nc) := (boxG (XC.out w16 (Below.refl _ _)) 2).1
  have kW0 : w16.cell? ⟨X, 0, none⟩ = some (.bool s0) := (boxG (XW.out w16 (Below.refl _ _)) 0).1
  have kW1 : w16.cell? ⟨X, 1, none⟩ = some (.slice sa ps.length sc) := (boxG (XW.out w16 (Below.refl _ _)) 1).1
  have kW2 : w16.cell? ⟨X, 2, none⟩ = some (.slice sb qs.length sd) := (boxG (XW.out w16 (Below.refl _ _)) 2).1
  have kI0 : w16.cell? ⟨w6.heap.size, 0, none⟩ = some (.bool x0) := (boxG (XI.out w16 (Below.refl _ _)) 0).1
  have kI1 : w16.cell? ⟨w6.heap.size, 1, none⟩ = some (.slice ia1 ll (ll + ic1)) := (boxG (XI.out w16 (Below.refl _ _)) 1).1
  have kI2 : w16.cell? ⟨w6.heap.size, 2, none⟩ = some (.slice ia2 kl (kl + ic2)) := (boxG (XI.out w16 (Below.refl _ _)) 2).1
  have kJ0 : w16.cell? ⟨w7.heap.size, 0, none⟩ = some (.bool y0) := (boxG (XJ.out w16 (Below.refl _ _)) 0).1
  have kJ1 : w16.cell? ⟨w7.heap.size, 1, none⟩ = some (.slice ja1 ml (ml + jc1)) := (boxG (XJ.out w16 (Below.refl _ _)) 1).1
  have kJ2 : w16.cell? ⟨w7.heap.size, 2, none⟩ = some (.slice ja2 nl (nl + jc2)) := (boxG (XJ.out w16 (Below.refl _ _)) 2).1
  have kG0 : w16.cell? ⟨w8.heap.size, 0, none⟩ = some (.bool s0) := (boxG (XG.out w16 (Below.refl _ _)) 0).1
  have kG1 : w16.cell? ⟨w8.heap.size, 1, none⟩ = some (.slice oa ps.length oc) := (boxG (XG.out w16 (Below.refl _ _)) 1).1
  have kG2 : w16.cell? ⟨w8.heap.size, 2, none⟩ = some (.slice ob qs.length od) := (boxG (XG.out w16 (Below.refl _ _)) 2).1
  go_wp2_with fail
  refine (markRShapeD _ _ _ _ _ _ _ _ _ (D := fun b => w5.heap.size ≤ b ∧ b < w6.heap.size) (SlP.of (I1.out _ (Below.refl _ _)) SU.out) (SlP.of (I2.out _ (Below.refl _ _)) SV.out) (IF.out _ (Below.refl _ _)) (by omega) (by omega)).mono ?_
  rintro e w17 ⟨k2, rfl, ka2, kb2, hc⟩
  clear kA0 kA1 kA2 kC0 kC1 kC2 kW0 kW1 kW2 kI0 kI1 kI2 kJ0 kJ1 kJ2 kG0 kG1 kG2
  replace XA : Hid (∀ y, Below w17.heap.size w17 y → y.heap[w.heap.size]? = some (.cells #[.bool x0, .slice la ll lc, .slice ka kl kc] 34 (0, 0))) := fun y hy => (hy.block _ (Nat.lt_of_lt_of_le lA (Chg.size hc))).trans ((Chg.block hc _ lA (fun hd => by have h1 := hd.1; have h2 := hd.2; omega)).trans (XA.out w16 (Below.refl _ _)))
  replace lA : w.heap.size < w17.heap.size := Nat.lt_of_lt_of_le lA (Chg.size hc)
  replace XC : Hid (∀ y, Below w17.heap.size w17 y → y.heap[w.heap.size + 1]? = some (.cells #[.bool y0, .slice ma ml mc, .slice na nl nc] 34 (0, 0))) := fun y hy => (hy.block _ (Nat.lt_of_lt_of_le lC (Chg.size hc))).trans ((Chg.block hc _ lC (fun hd => by have h1 := hd.1; have h2 := hd.2; omega)).trans (XC.out w16 (Below.refl _ _)))
  replace lC : w.heap.size + 1 < w17.heap.size := Nat.lt_of_lt_of_le lC (Chg.size hc)
  replace XW : Hid (∀ y, Below w17.heap.size w17 y → y.heap[X]? = some (.cells #[.bool s0, .slice sa ps.length sc, .slice sb qs.length sd] 26 (0, 0))) := fun y hy => (hy.block _ (Nat.lt_of_lt_of_le lW (Chg.size hc))).trans ((Chg.block hc _ lW (fun hd => by have h1 := hd.1; have h2 := hd.2; omega)).trans (XW.out w16 (Below.refl _ _)))
  replace lW : X < w17.heap.size := Nat.lt_of_lt_of_le lW (Chg.size hc)
  replace XI : Hid (∀ y, Below w17.heap.size w17 y → y.heap[w6.heap.size]? = some (.cells #[.bool x0, .slice ia1 ll (ll + ic1), .slice ia2 kl (kl + ic2)] 26 (0, 0))) := fun y hy => (hy.block _ (Nat.lt_of_lt_of_le lI (Chg.size hc))).trans ((Chg.block hc _ lI (fun hd => by have h1 := hd.1; have h2 := hd.2; omega)).trans (XI.out w16 (Below.refl _ _)))
  replace lI : w6.heap.size < w17.heap.size := Nat.lt_of_lt_of_le lI (Chg.size hc)
  replace XJ : Hid (∀ y, Below w17.heap.size w17 y → y.heap[w7.heap.size]? = some (.cells #[.bool y0, .slice ja1 ml (ml + jc1), .slice ja2 nl (nl + jc2)] 26 (0, 0))) := fun y hy => (hy.block _ (Nat.lt_of_lt_of_le lJ (Chg.size hc))).trans ((Chg.block hc _ lJ (fun hd => by have h1 := hd.1; have h2 := hd.2; omega)).trans (XJ.out w16 (Below.refl _ _)))
  replace lJ : w7.heap.size < w17.heap.size := Nat.lt_of_lt_of_le lJ (Chg.size hc)
  replace XG : Hid (∀ y, Below w17.heap.size w17 y → y.heap[w8.heap.size]? = some (.cells #[.bool s0, .slice oa ps.length oc, .slice ob qs.length od] 26 (0, 0))) := fun y hy => (hy.block _ (Nat.lt_of_lt_of_le lG (Chg.size hc))).trans ((Chg.block hc _ lG (fun hd => by have h1 := hd.1; have h2 := hd.2; omega)).trans (XG.out w16 (Below.refl _ _)))
  replace lG : w8.heap.size < w17.heap.size := Nat.lt_of_lt_of_le lG (Chg.size hc)
  have zw17 : w16.heap.size ≤ w17.heap.size := Chg.size hc
  replace B : Hid (∀ y, Below w17.heap.size w17 y → Below w.heap.size w y) := fun y hy => ((B.out _ (Below.refl _ _)).trans (hc.below (Below.size (B.out _ (Below.refl _ _))) (fun i hi hd => by have := hd.1; omega))).trans (hy.mono (by omega))
  replace S0 : Hid (∀ y, Below w17.heap.size w17 y → SlAt intR (fun b => b < w4.heap.size) y sa ps.length ps) := fun y hy => ((S0.out _ (Below.refl _ _)).keep (fun b o hd hl => hc.cell b o hl (fun hh => by have := hh.1; omega))).later hy
  replace S1 : Hid (∀ y, Below w17.heap.size w17 y → SlAt intR (fun b => b < w4.heap.size) y sb qs.length qs) := fun y hy => ((S1.out _ (Below.refl _ _)).keep (fun b o hd hl => hc.cell b o hl (fun hh => by have := hh.1; omega))).later hy
  clear I1
  clear I2
  clear IF
  replace J1 : Hid (∀ y, Below w17.heap.size w17 y → SlAt intR (fun b => w6.heap.size + 1 ≤ b ∧ b < w7.heap.size) y ja1 ml xs) := fun y hy => ((J1.out _ (Below.refl _ _)).keep (fun b o hd hl => hc.cell b o hl (fun hh => by have h1 := hh.1; have h2 := hh.2; have h3 := hd.1; have h4 := hd.2; omega))).later hy
  replace J2 : Hid (∀ y, Below w17.heap.size w17 y → SlAt intR (fun b => w6.heap.size + 1 ≤ b ∧ b < w7.heap.size) y ja2 nl ys) := fun y hy => ((J2.out _ (Below.refl _ _)).keep (fun b o hd hl => hc.cell b o hl (fun hh => by have h1 := hh.1; have h2 := hh.2; have h3 := hd.1; have h4 := hd.2; omega))).later hy
  replace JF : Hid (∀ y, Below w17.heap.size w17 y → Thw (fun b => w6.heap.size + 1 ≤ b ∧ b < w7.heap.size) y) := fun y hy b o hd => (hy.frozen (p := ⟨b, o, none⟩) (by have h3 := hd.1; have h4 := hd.2; simp only; omega)).trans ((hc.frozen b o (by have h3 := hd.1; have h4 := hd.2; omega) (fun hh => by have h1 := hh.1; have h2 := hh.2; have h3 := hd.1; have h4 := hd.2; omega)).trans (JF.out _ (Below.refl _ _) b o hd))
  replace O1 : Hid (∀ y, Below w17.heap.size w17 y → Wri y oa ps.length (fun j => ps.getD j 0)) := fun y hy => ((O1.out _ (Below.refl _ _)).keep hc (fun x hx hp hh => by have h1 := (G1.out x hx hp).1; have h2 := hh.2; omega)).later hy
  replace O2 : Hid (∀ y, Below w17.heap.size w17 y → Wri y ob qs.length (fun j => qs.getD j 0)) := fun y hy => ((O2.out _ (Below.refl _ _)).keep hc (fun x hx hp hh => by have h1 := (G2.out x hx hp).1; have h2 := hh.2; omega)).later hy
  clear hc
  have kA0 : w17.cell? ⟨w.heap.size, 0, none⟩ = some (.bool x0) := (boxG (XA.out w17 (Below.refl _ _)) 0).1
  have kA1 : w17.cell? ⟨w.heap.size, 1, none⟩ = some (.slice la ll lc) := (boxG (XA.out w17 (Below.refl _ _)) 1).1
  have kA2 : w17.cell? ⟨w.heap.size, 2, none⟩ = some (.slice ka kl kc) := (boxG (XA.out w17 (Below.refl _ _)) 2).1
  have kC0 : w17.cell? ⟨w.heap.size + 1, 0, none⟩ = some (.bool y0) := (boxG (XC.out w17 (Below.refl _ _)) 0).1
  have kC1 : w17.cell? ⟨w.heap.size + 1, 1, none⟩ = some (.slice ma ml mc) := (boxG (XC.out w17 (Below.refl _ _)) 1).1
  have kC2 : w17.cell? ⟨w.heap.size + 1, 2, none⟩ = some (.slice na nl nc) := (boxG (XC.out w17 (Below.refl _ _)) 2).1
  have kW0 : w17.cell? ⟨X, 0, none⟩ = some (.bool s0) := (boxG (XW.out w17 (Below.refl _ _)) 0).1
  have kW1 : w17.cell? ⟨X, 1, none⟩ = some (.slice sa ps.length sc) := (boxG (XW.out w17 (Below.refl _ _)) 1).1
  have kW2 : w17.cell? ⟨X, 2, none⟩ = some (.slice sb qs.length sd) := (boxG (XW.out w17 (Below.refl _ _)) 2).1
  have kI0 : w17.cell? ⟨w6.heap.size, 0, none⟩ = some (.bool x0) := (boxG (XI.out w17 (Below.refl _ _)) 0).1
  have kI1 : w17.cell? ⟨w6.heap.size, 1, none⟩ = some (.slice ia1 ll (ll + ic1)) := (boxG (XI.out w17 (Below.refl _ _)) 1).1
  have kI2 : w17.cell? ⟨w6.heap.size, 2, none⟩ = some (.slice ia2 kl (kl + ic2)) := (boxG (XI.out w17 (Below.refl _ _)) 2).1
  have kJ0 : w17.cell? ⟨w7.heap.size, 0, none⟩ = some (.bool y0) := (boxG (XJ.out w17 (Below.refl _ _)) 0).1
  have kJ1 : w17.cell? ⟨w7.heap.size, 1, none⟩ = some (.slice ja1 ml (ml + jc1)) := (boxG (XJ.out w17 (Below.refl _ _)) 1).1
  have kJ2 : w17.cell? ⟨w7.heap.size, 2, none⟩ = some (.slice ja2 nl (nl + jc2)) := (boxG (XJ.out w17 (Below.refl _ _)) 2).1
  have kG0 : w17.cell? ⟨w8.heap.size, 0, none⟩ = some (.bool s0) := (boxG (XG.out w17 (Below.refl _ _)) 0).1
  have kG1 : w17.cell? ⟨w8.heap.size, 1, none⟩ = some (.slice oa ps.length oc) := (boxG (XG.out w17 (Below.refl _ _)) 1).1
  have kG2 : w17.cell? ⟨w8.heap.size, 2, none⟩ = some (.slice ob qs.length od) := (boxG (XG.out w17 (Below.refl _ _)) 2).1
  go_wp2_with fail
  refine (markRShapeD _ _ _ _ _ _ _ _ _ (D := fun b => w6.heap.size + 1 ≤ b ∧ b < w7.heap.size) (SlP.of (J1.out _ (Below.refl _ _)) SX.out) (SlP.of (J2.out _ (Below.refl _ _)) SY.out) (JF.out _ (Below.refl _ _)) (by omega) (by omega)).mono ?_
  rintro e w18 ⟨k3, rfl, ka3, kb3, hc⟩
  clear kA0 kA1 kA2 kC0 kC1 kC2 kW0 kW1 kW2 kI0 kI1 kI2 kJ0 kJ1 kJ2 kG0 kG1 kG2
  replace XA : Hid (∀ y, Below w18.heap.size w18 y → y.heap[w.heap.size]? = some (.cells #[.bool x0, .slice la ll lc, .slice ka kl kc] 34 (0, 0))) := fun y hy => (hy.block _ (Nat.lt_of_lt_of_le lA (Chg.size hc))).trans ((Chg.block hc _ lA (fun hd => by have h1 := hd.1; have h2 := hd.2; omega)).trans (XA.out w17 (Below.refl _ _)))
  replace lA : w.heap.size < w18.heap.size := Nat.lt_of_lt_of_le lA (Chg.size hc)
  replace XC : Hid (∀ y, Below w18.heap.size w18 y → y.heap[w.heap.size + 1]? = some (.cells #[.bool y0, .slice ma ml mc, .slice na nl nc] 34 (0, 0))) := fun y hy => (hy.block _ (Nat.lt_of_lt_of_le lC (Chg.size hc))).trans ((Chg.block hc _ lC (fun hd => by have h1 := hd.1; have h2 := hd.2; omega)).trans (XC.out w17 (Below.refl _ _)))
  replace lC : w.heap.size + 1 < w18.heap.size := Nat.lt_of_lt_of_le lC (Chg.size hc)
  replace XW : Hid (∀ y, Below w18.heap.size w18 y → y.heap[X]? = some (.cells #[.bool s0, .slice sa ps.length sc, .slice sb qs.length sd] 26 (0, 0))) := fun y hy => (hy.block _ (Nat.lt_of_lt_of_le lW (Chg.size hc))).trans ((Chg.block hc _ lW (fun hd => by have h1 := hd.1; have h2 := hd.2; omega)).trans (XW.out w17 (Below.refl _ _)))
  replace lW : X < w18.heap.size := Nat.lt_of_lt_of_le lW (Chg.size hc)
  replace XI : Hid (∀ y, Below w18.heap.size w18 y → y.heap[w6.heap.size]? = some (.cells #[.bool x0, .slice ia1 ll (ll + ic1), .slice ia2 kl (kl + ic2)] 26 (0, 0))) := fun y hy => (hy.block _ (Nat.lt_of_lt_of_le lI (Chg.size hc))).trans ((Chg.block hc _ lI (fun hd => by have h1 := hd.1; have h2 := hd.2; omega)).trans (XI.out w17 (Below.refl _ _)))
  replace lI : w6.heap.size < w18.heap.size := Nat.lt_of_lt_of_le lI (Chg.size hc)
  replace XJ : Hid (∀ y, Below w18.heap.size w18 y → y.heap[w7.heap.size]? = some (.cells #[.bool y0, .slice ja1 ml (ml + jc1), .slice ja2 nl (nl + jc2)] 26 (0, 0))) := fun y hy => (hy.block _ (Nat.lt_of_lt_of_le lJ (Chg.size hc))).trans ((Chg.block hc _ lJ (fun hd => by have h1 := hd.1; have h2 := hd.2; omega)).trans (XJ.out w17 (Below.refl _ _)))
  replace lJ : w7.heap.size < w18.heap.size := Nat.lt_of_lt_of_le lJ (Chg.size hc)
  replace XG : Hid (∀ y, Below w18.heap.size w18 y → y.heap[w8.heap.size]? = some (.cells #[.bool s0, .slice oa ps.length oc, .slice ob qs.length od] 26 (0, 0))) := fun y hy => (hy.block _ (Nat.lt_of_lt_of_le lG (Chg.size hc))).trans ((Chg.block hc _ lG (fun hd => by have h1 := hd.1; have h2 := hd.2; omega)).trans (XG.out w17 (Below.refl _ _)))
  replace lG : w8.heap.size < w18.heap.size := Nat.lt_of_lt_of_le lG (Chg.size hc)
  have zw18 : w17.heap.size ≤ w18.heap.size := Chg.size hc
  replace B : Hid (∀ y, Below w18.heap.size w18 y → Below w.heap.size w y) := fun y hy => ((B.out _ (Below.refl _ _)).trans (hc.below (Below.size (B.out _ (Below.refl _ _))) (fun i hi hd => by have := hd.1; omega))).trans (hy.mono (by omega))
  replace S0 : Hid (∀ y, Below w18.heap.size w18 y → SlAt intR (fun b => b < w4.heap.size) y sa ps.length ps) := fun y hy => ((S0.out _ (Below.refl _ _)).keep (fun b o hd hl => hc.cell b o hl (fun hh => by have := hh.1; omega))).later hy
  replace S1 : Hid (∀ y, Below w18.heap.size w18 y → SlAt intR (fun b => b < w4.heap.size) y sb qs.length qs) := fun y hy => ((S1.out _ (Below.refl _ _)).keep (fun b o hd hl => hc.cell b o hl (fun hh => by have := hh.1; omega))).later hy
  clear J1
  clear J2
  clear JF
  replace O1 : Hid (∀ y, Below w18.heap.size w18 y → Wri y oa ps.length (fun j => ps.getD j 0)) := fun y hy => ((O1.out _ (Below.refl _ _)).keep hc (fun x hx hp hh => by have h1 := (G1.out x hx hp).1; have h2 := hh.2; omega)).later hy
  replace O2 : Hid (∀ y, Below w18.heap.size w18 y → Wri y ob qs.length (fun j => qs.getD j 0)) := fun y hy => ((O2.out _ (Below.refl _ _)).keep hc (fun x hx hp hh => by have h1 := (G2.out x hx hp).1; have h2 := hh.2; omega)).later hy
  clear hc
  have hk3 : ¬ k3 < 0 := by omega
  have kA0 : w18.cell? ⟨w.heap.size, 0, none⟩ = some (.bool x0) := (boxG (XA.out w18 (Below.refl _ _)) 0).1
  have kA1 : w18.cell? ⟨w.heap.size, 1, none⟩ = some (.slice la ll lc) := (boxG (XA.out w18 (Below.refl _ _)) 1).1
  have kA2 : w18.cell? ⟨w.heap.size, 2, none⟩ = some (.slice ka kl kc) := (boxG (XA.out w18 (Below.refl _ _)) 2).1
  have kC0 : w18.cell? ⟨w.heap.size + 1, 0, none⟩ = some (.bool y0) := (boxG (XC.out w18 (Below.refl _ _)) 0).1
  have kC1 : w18.cell? ⟨w.heap.size + 1, 1, none⟩ = some (.slice ma ml mc) := (boxG (XC.out w18 (Below.refl _ _)) 1).1
  have kC2 : w18.cell? ⟨w.heap.size + 1, 2, none⟩ = some (.slice na nl nc) := (boxG (XC.out w18 (Below.refl _ _)) 2).1
  have kW0 : w18.cell? ⟨X, 0, none⟩ = some (.bool s0) := (boxG (XW.out w18 (Below.refl _ _)) 0).1
  have kW1 : w18.cell? ⟨X, 1, none⟩ = some (.slice sa ps.length sc) := (boxG (XW.out w18 (Below.refl _ _)) 1).1
  have kW2 : w18.cell? ⟨X, 2, none⟩ = some (.slice sb qs.length sd) := (boxG (XW.out w18 (Below.refl _ _)) 2).1
  have kI0 : w18.cell? ⟨w6.heap.size, 0, none⟩ = some (.bool x0) := (boxG (XI.out w18 (Below.refl _ _)) 0).1
  have kI1 : w18.cell? ⟨w6.heap.size, 1, none⟩ = some (.slice ia1 ll (ll + ic1)) := (boxG (XI.out w18 (Below.refl _ _)) 1).1
  have kI2 : w18.cell? ⟨w6.heap.size, 2, none⟩ = some (.slice ia2 kl (kl + ic2)) := (boxG (XI.out w18 (Below.refl _ _)) 2).1
  have kJ0 : w18.cell? ⟨w7.heap.size, 0, none⟩ = some (.bool y0) := (boxG (XJ.out w18 (Below.refl _ _)) 0).1
  have kJ1 : w18.cell? ⟨w7.heap.size, 1, none⟩ = some (.slice ja1 ml (ml + jc1)) := (boxG (XJ.out w18 (Below.refl _ _)) 1).1
  have kJ2 : w18.cell? ⟨w7.heap.size, 2, none⟩ = some (.slice ja2 nl (nl + jc2)) := (boxG (XJ.out w18 (Below.refl _ _)) 2).1
  have kG0 : w18.cell? ⟨w8.heap.size, 0, none⟩ = some (.bool s0) := (boxG (XG.out w18 (Below.refl _ _)) 0).1
  have kG1 : w18.cell? ⟨w8.heap.size, 1, none⟩ = some (.slice oa ps.length oc) := (boxG (XG.out w18 (Below.refl _ _)) 1).1
  have kG2 : w18.cell? ⟨w8.heap.size, 2, none⟩ = some (.slice ob qs.length od) := (boxG (XG.out w18 (Below.refl _ _)) 2).1
  have BP : Hid (Below w18.heap.size w18 w18) := Below.refl _ _
  go_wp2_with fail
  refine (eqRShape _ _ _ _ _ _ _ _ _ _ _ _ _ ps qs _ ((O1.out _ BP.out).sl rfl hn1 FP.out) ((S0.out _ BP.out).mono (E := fun _ => True) (fun _ _ _ => trivial)) ((O2.out _ BP.out).sl rfl hn2 FQ.out) ((S1.out _ BP.out).mono (fun _ _ _ => trivial))).mono ?_
  rintro e w19 ⟨rfl, hb⟩
  have hq : Below w18.heap.size w18 w19 := BP.out.trans (Below.mono hb BP.out.size)
  replace B : Hid (∀ y, Below w19.heap.size w19 y → Below w.heap.size w y) := fun y hy => B.out y (hq.trans (hy.mono hq.size))
  replace S0 : Hid (∀ y, Below w19.heap.size w19 y → SlAt intR (fun b => b < w4.heap.size) y sa ps.length ps) := fun y hy => S0.out y (hq.trans (hy.mono hq.size))
  replace S1 : Hid (∀ y, Below w19.heap.size w19 y → SlAt intR (fun b => b < w4.heap.size) y sb qs.length qs) := fun y hy => S1.out y (hq.trans (hy.mono hq.size))
  replace O1 : Hid (∀ y, Below w19.heap.size w19 y → Wri y oa ps.length (fun j => ps.getD j 0)) := fun y hy => O1.out y (hq.trans (hy.mono hq.size))
  replace O2 : Hid (∀ y, Below w19.heap.size w19 y → Wri y ob qs.length (fun j => qs.getD j 0)) := fun y hy => O2.out y (hq.trans (hy.mono hq.size))
  replace XA : Hid (∀ y, Below w19.heap.size w19 y → y.heap[w.heap.size]? = some (.cells #[.bool x0, .slice la ll lc, .slice ka kl kc] 34 (0, 0))) := fun y hy => XA.out y (hq.trans (hy.mono hq.size))
  replace lA : w.heap.size < w19.heap.size := Nat.lt_of_lt_of_le lA hq.size
  replace XC : Hid (∀ y, Below w19.heap.size w19 y → y.heap[w.heap.size + 1]? = some (.cells #[.bool y0, .slice ma ml mc, .slice na nl nc] 34 (0, 0))) := fun y hy => XC.out y (hq.trans (hy.mono hq.size))
  replace lC : w.heap.size + 1 < w19.heap.size := Nat.lt_of_lt_of_le lC hq.size
  replace XW : Hid (∀ y, Below w19.heap.size w19 y → y.heap[X]? = some (.cells #[.bool s0, .slice sa ps.length sc, .slice sb qs.length sd] 26 (0, 0))) := fun y hy => XW.out y (hq.trans (hy.mono hq.size))
  replace lW : X < w19.heap.size := Nat.lt_of_lt_of_le lW hq.size
  replace XI : Hid (∀ y, Below w19.heap.size w19 y → y.heap[w6.heap.size]? = some (.cells #[.bool x0, .slice ia1 ll (ll + ic1), .slice ia2 kl (kl + ic2)] 26 (0, 0))) := fun y hy => XI.out y (hq.trans (hy.mono hq.size))
  replace lI : w6.heap.size < w19.heap.size := Nat.lt_of_lt_of_le lI hq.size
  replace XJ : Hid (∀ y, Below w19.heap.size w19 y → y.heap[w7.heap.size]? = some (.cells #[.bool y0, .slice ja1 ml (ml + jc1), .slice ja2 nl (nl + jc2)] 26 (0, 0))) := fun y hy => XJ.out y (hq.trans (hy.mono hq.size))
  replace lJ : w7.heap.size < w19.heap.size := Nat.lt_of_lt_of_le lJ hq.size
  replace XG : Hid (∀ y, Below w19.heap.size w19 y → y.heap[w8.heap.size]? = some (.cells #[.bool s0, .slice oa ps.length oc, .slice ob qs.length od] 26 (0, 0))) := fun y hy => XG.out y (hq.trans (hy.mono hq.size))
  replace lG : w8.heap.size < w19.heap.size := Nat.lt_of_lt_of_le lG hq.size
  have zw19 : w18.heap.size ≤ w19.heap.size := hq.size
  clear hq BP
  clear kA0 kA1 kA2 kC0 kC1 kC2 kW0 kW1 kW2 kI0 kI1 kI2 kJ0 kJ1 kJ2 kG0 kG1 kG2
  clear hb
  have kA0 : w19.cell? ⟨w.heap.size, 0, none⟩ = some (.bool x0) := (boxG (XA.out w19 (Below.refl _ _)) 0).1
  have kA1 : w19.cell? ⟨w.heap.size, 1, none⟩ = some (.slice la ll lc) := (boxG (XA.out w19 (Below.refl _ _)) 1).1
  have kA2 : w19.cell? ⟨w.heap.size, 2, none⟩ = some (.slice ka kl kc) := (boxG (XA.out w19 (Below.refl _ _)) 2).1
  have kC0 : w19.cell? ⟨w.heap.size + 1, 0, none⟩ = some (.bool y0) := (boxG (XC.out w19 (Below.refl _ _)) 0).1
  have kC1 : w19.cell? ⟨w.heap.size + 1, 1, none⟩ = some (.slice ma ml mc) := (boxG (XC.out w19 (Below.refl _ _)) 1).1
  have kC2 : w19.cell? ⟨w.heap.size + 1, 2, none⟩ = some (.slice na nl nc) := (boxG (XC.out w19 (Below.refl _ _)) 2).1
  have kW0 : w19.cell? ⟨X, 0, none⟩ = some (.bool s0) := (boxG (XW.out w19 (Below.refl _ _)) 0).1
  have kW1 : w19.cell? ⟨X, 1, none⟩ = some (.slice sa ps.length sc) := (boxG (XW.out w19 (Below.refl _ _)) 1).1
  have kW2 : w19.cell? ⟨X, 2, none⟩ = some (.slice sb qs.length sd) := (boxG (XW.out w19 (Below.refl _ _)) 2).1
  have kI0 : w19.cell? ⟨w6.heap.size, 0, none⟩ = some (.bool x0) := (boxG (XI.out w19 (Below.refl _ _)) 0).1
  have kI1 : w19.cell? ⟨w6.heap.size, 1, none⟩ = some (.slice ia1 ll (ll + ic1)) := (boxG (XI.out w19 (Below.refl _ _)) 1).1
  have kI2 : w19.cell? ⟨w6.heap.size, 2, none⟩ = some (.slice ia2 kl (kl + ic2)) := (boxG (XI.out w19 (Below.refl _ _)) 2).1
  have kJ0 : w19.cell? ⟨w7.heap.size, 0, none⟩ = some (.bool y0) := (boxG (XJ.out w19 (Below.refl _ _)) 0).1
  have kJ1 : w19.cell? ⟨w7.heap.size, 1, none⟩ = some (.slice ja1 ml (ml + jc1)) := (boxG (XJ.out w19 (Below.refl _ _)) 1).1
  have kJ2 : w19.cell? ⟨w7.heap.size, 2, none⟩ = some (.slice ja2 nl (nl + jc2)) := (boxG (XJ.out w19 (Below.refl _ _)) 2).1
  have kG0 : w19.cell? ⟨w8.heap.size, 0, none⟩ = some (.bool s0) := (boxG (XG.out w19 (Below.refl _ _)) 0).1
  have kG1 : w19.cell? ⟨w8.heap.size, 1, none⟩ = some (.slice oa ps.length oc) := (boxG (XG.out w19 (Below.refl _ _)) 1).1
  have kG2 : w19.cell? ⟨w8.heap.size, 2, none⟩ = some (.slice ob qs.length od) := (boxG (XG.out w19 (Below.refl _ _)) 2).1
  have BP : Hid (Below w19.heap.size w19 w19) := Below.refl _ _
  go_wp2_with fail
  refine (markRShape _ _ _ _ _ _ _ _ _ _ (O1.out _ BP.out) (O2.out _ BP.out) AP.out hn1 hn2).mono ?_
  rintro e w20 ⟨rfl, hv1, hv2, hc⟩
  have ND : Hid (∀ b, ((∃ x, oa = some x ∧ x.block = b ∧ 0 < ps.length) ∨ (∃ x, ob = some x ∧ x.block = b ∧ 0 < qs.length)) → w7.heap.size + 1 ≤ b ∧ b < w8.heap.size) := fun b hd => by
    rcases hd with ⟨x, hx, rfl, hp⟩ | ⟨x, hx, rfl, hp⟩
    · exact G1.out x hx hp
    · exact G2.out x hx hp
  clear kA0 kA1 kA2 kC0 kC1 kC2 kW0 kW1 kW2 kI0 kI1 kI2 kJ0 kJ1 kJ2 kG0 kG1 kG2
  replace XA : Hid (∀ y, Below w20.heap.size w20 y → y.heap[w.heap.size]? = some (.cells #[.bool x0, .slice la ll lc, .slice ka kl kc] 34 (0, 0))) := fun y hy => (hy.block _ (Nat.lt_of_lt_of_le lA (Chg.size hc))).trans ((Chg.block hc _ lA (fun hd => by have h1 := ND.out _ hd; omega)).trans (XA.out w19 (Below.refl _ _)))
  replace lA : w.heap.size < w20.heap.size := Nat.lt_of_lt_of_le lA (Chg.size hc)
  replace XC : Hid (∀ y, Below w20.heap.size w20 y → y.heap[w.heap.size + 1]? = some (.cells #[.bool y0, .slice ma ml mc, .slice na nl nc] 34 (0, 0))) := fun y hy => (hy.block _ (Nat.lt_of_lt_of_le lC (Chg.size hc))).trans ((Chg.block hc _ lC (fun hd => by have h1 := ND.out _ hd; omega)).trans (XC.out w19 (Below.refl _ _)))
  replace lC : w.heap.size + 1 < w20.heap.size := Nat.lt_of_lt_of_le lC (Chg.size hc)
  replace XW : Hid (∀ y, Below w20.heap.size w20 y → y.heap[X]? = some (.cells #[.bool s0, .slice sa ps.length sc, .slice sb qs.length sd] 26 (0, 0))) := fun y hy => (hy.block _ (Nat.lt_of_lt_of_le lW (Chg.size hc))).trans ((Chg.block hc _ lW (fun hd => by have h1 := ND.out _ hd; omega)).trans (XW.out w19 (Below.refl _ _)))
  replace lW : X < w20.heap.size := Nat.lt_of_lt_of_le lW (Chg.size hc)
  replace XI : Hid (∀ y, Below w20.heap.size w20 y → y.heap[w6.heap.size]? = some (.cells #[.bool x0, .slice ia1 ll (ll + ic1), .slice ia2 kl (kl + ic2)] 26 (0, 0))) := fun y hy => (hy.block _ (Nat.lt_of_lt_of_le lI (Chg.size hc))).trans ((Chg.block hc _ lI (fun hd => by have h1 := ND.out _ hd; omega)).trans (XI.out w19 (Below.refl _ _)))
  replace lI : w6.heap.size < w20.heap.size := Nat.lt_of_lt_of_le lI (Chg.size hc)
  replace XJ : Hid (∀ y, Below w20.heap.size w20 y → y.heap[w7.heap.size]? = some (.cells #[.bool y0, .slice ja1 ml (ml + jc1), .slice ja2 nl (nl + jc2)] 26 (0, 0))) := fun y hy => (hy.block _ (Nat.lt_of_lt_of_le lJ (Chg.size hc))).trans ((Chg.block hc _ lJ (fun hd => by have h1 := ND.out _ hd; omega)).trans (XJ.out w19 (Below.refl _ _)))
  replace lJ : w7.heap.size < w20.heap.size := Nat.lt_of_lt_of_le lJ (Chg.size hc)
  replace XG : Hid (∀ y, Below w20.heap.size w20 y → y.heap[w8.heap.size]? = some (.cells #[.bool s0, .slice oa ps.length oc, .slice ob qs.length od] 26 (0, 0))) := fun y hy => (hy.block _ (Nat.lt_of_lt_of_le lG (Chg.size hc))).trans ((Chg.block hc _ lG (fun hd => by have h1 := ND.out _ hd; omega)).trans (XG.out w19 (Below.refl _ _)))
  replace lG : w8.heap.size < w20.heap.size := Nat.lt_of_lt_of_le lG (Chg.size hc)
  have zw20 : w19.heap.size ≤ w20.heap.size := Chg.size hc
  replace B : Hid (∀ y, Below w20.heap.size w20 y → Below w.heap.size w y) := fun y hy => ((B.out _ (Below.refl _ _)).trans (hc.below (Below.size (B.out _ (Below.refl _ _))) (fun i hi hd => by have := (ND.out i hd).1; omega))).trans (hy.mono (by omega))
  replace S0 : Hid (∀ y, Below w20.heap.size w20 y → SlAt intR (fun b => b < w4.heap.size) y sa ps.length ps) := fun y hy => ((S0.out _ (Below.refl _ _)).keep (fun b o hd hl => hc.cell b o hl (fun hh => by have := (ND.out b hh).1; omega))).later hy
  replace S1 : Hid (∀ y, Below w20.heap.size w20 y → SlAt intR (fun b => b < w4.heap.size) y sb qs.length qs) := fun y hy => ((S1.out _ (Below.refl _ _)).keep (fun b o hd hl => hc.cell b o hl (fun hh => by have := (ND.out b hh).1; omega))).later hy
  clear O1
  clear O2
  have M1 : Hid (∀ y, Below w20.heap.size w20 y → Wri y oa ps.length (fun j => 1 + j)) := fun y hy => hv1.later hy
  have M2 : Hid (∀ y, Below w20.heap.size w20 y → Wri y ob qs.length (fun j => 1 + ps.length + j)) := fun y hy => hv2.later hy
  clear hc hv1 hv2 BP
  have e9 : ((1 + (ps.length : Int) + (qs.length : Int)) != (1 + (ps.length : Int) + (qs.length : Int))) = false := by simp
  have e8 : ¬ ((1 + (ps.length : Int) + (qs.length : Int)) < 0) := by omega
  have kA0 : w20.cell? ⟨w.heap.size, 0, none⟩ = some (.bool x0) := (boxG (XA.out w20 (Below.refl _ _)) 0).1
  have kA1 : w20.cell? ⟨w.heap.size, 1, none⟩ = some (.slice la ll lc) := (boxG (XA.out w20 (Below.refl _ _)) 1).1
  have kA2 : w20.cell? ⟨w.heap.size, 2, none⟩ = some (.slice ka kl kc) := (boxG (XA.out w20 (Below.refl _ _)) 2).1
  have kC0 : w20.cell? ⟨w.heap.size + 1, 0, none⟩ = some (.bool y0) := (boxG (XC.out w20 (Below.refl _ _)) 0).1
  have kC1 : w20.cell? ⟨w.heap.size + 1, 1, none⟩ = some (.slice ma ml mc) := (boxG (XC.out w20 (Below.refl _ _)) 1).1
  have kC2 : w20.cell? ⟨w.heap.size + 1, 2, none⟩ = some (.slice na nl nc) := (boxG (XC.out w20 (Below.refl _ _)) 2).1
  have kW0 : w20.cell? ⟨X, 0, none⟩ = some (.bool s0) := (boxG (XW.out w20 (Below.refl _ _)) 0).1
  have kW1 : w20.cell? ⟨X, 1, none⟩ = some (.slice sa ps.length sc) := (boxG (XW.out w20 (Below.refl _ _)) 1).1
  have kW2 : w20.cell? ⟨X, 2, none⟩ = some (.slice sb qs.length sd) := (boxG (XW.out w20 (Below.refl _ _)) 2).1
  have kI0 : w20.cell? ⟨w6.heap.size, 0, none⟩ = some (.bool x0) := (boxG (XI.out w20 (Below.refl _ _)) 0).1
  have kI1 : w20.cell? ⟨w6.heap.size, 1, none⟩ = some (.slice ia1 ll (ll + ic1)) := (boxG (XI.out w20 (Below.refl _ _)) 1).1
  have kI2 : w20.cell? ⟨w6.heap.size, 2, none⟩ = some (.slice ia2 kl (kl + ic2)) := (boxG (XI.out w20 (Below.refl _ _)) 2).1
  have kJ0 : w20.cell? ⟨w7.heap.size, 0, none⟩ = some (.bool y0) := (boxG (XJ.out w20 (Below.refl _ _)) 0).1
  have kJ1 : w20.cell? ⟨w7.heap.size, 1, none⟩ = some (.slice ja1 ml (ml + jc1)) := (boxG (XJ.out w20 (Below.refl _ _)) 1).1
  have kJ2 : w20.cell? ⟨w7.heap.size, 2, none⟩ = some (.slice ja2 nl (nl + jc2)) := (boxG (XJ.out w20 (Below.refl _ _)) 2).1
  have kG0 : w20.cell? ⟨w8.heap.size, 0, none⟩ = some (.bool s0) := (boxG (XG.out w20 (Below.refl _ _)) 0).1
  have kG1 : w20.cell? ⟨w8.heap.size, 1, none⟩ = some (.slice oa ps.length oc) := (boxG (XG.out w20 (Below.refl _ _)) 1).1
  have kG2 : w20.cell? ⟨w8.heap.size, 2, none⟩ = some (.slice ob qs.length od) := (boxG (XG.out w20 (Below.refl _ _)) 2).1
  have BP : Hid (Below w20.heap.size w20 w20) := Below.refl _ _
  go_wp2_with fail
  refine (heldRShape _ _ _ _ _ _ _ _ (M1.out _ BP.out) (M2.out _ BP.out) hn1 hn2).mono ?_
  rintro e w21 ⟨rfl, hb⟩
  have hq : Below w20.heap.size w20 w21 := BP.out.trans (Below.mono hb BP.out.size)
  replace B : Hid (∀ y, Below w21.heap.size w21 y → Below w.heap.size w y) := fun y hy => B.out y (hq.trans (hy.mono hq.size))
  replace S0 : Hid (∀ y, Below w21.heap.size w21 y → SlAt intR (fun b => b < w4.heap.size) y sa ps.length ps) := fun y hy => S0.out y (hq.trans (hy.mono hq.size))
  replace S1 : Hid (∀ y, Below w21.heap.size w21 y → SlAt intR (fun b => b < w4.heap.size) y sb qs.length qs) := fun y hy => S1.out y (hq.trans (hy.mono hq.size))
  replace M1 : Hid (∀ y, Below w21.heap.size w21 y → Wri y oa ps.length (fun j => 1 + j)) := fun y hy => M1.out y (hq.trans (hy.mono hq.size))
  replace M2 : Hid (∀ y, Below w21.heap.size w21 y → Wri y ob qs.length (fun j => 1 + ps.length + j)) := fun y hy => M2.out y (hq.trans (hy.mono hq.size))
  replace XA : Hid (∀ y, Below w21.heap.size w21 y → y.heap[w.heap.size]? = some (.cells #[.bool x0, .slice la ll lc, .slice ka kl kc] 34 (0, 0))) := fun y hy => XA.out y (hq.trans (hy.mono hq.size))
  replace lA : w.heap.size < w21.heap.size := Nat.lt_of_lt_of_le lA hq.size
  replace XC : Hid (∀ y, Below w21.heap.size w21 y → y.heap[w.heap.size + 1]? = some (.cells #[.bool y0, .slice ma ml mc, .slice na nl nc] 34 (0, 0))) := fun y hy => XC.out y (hq.trans (hy.mono hq.size))
  replace lC : w.heap.size + 1 < w21.heap.size := Nat.lt_of_lt_of_le lC hq.size
  replace XW : Hid (∀ y, Below w21.heap.size w21 y → y.heap[X]? = some (.cells #[.bool s0, .slice sa ps.length sc, .slice sb qs.length sd] 26 (0, 0))) := fun y hy => XW.out y (hq.trans (hy.mono hq.size))
  replace lW : X < w21.heap.size := Nat.lt_of_lt_of_le lW hq.size
  replace XI : Hid (∀ y, Below w21.heap.size w21 y → y.heap[w6.heap.size]? = some (.cells #[.bool x0, .slice ia1 ll (ll + ic1), .slice ia2 kl (kl + ic2)] 26 (0, 0))) := fun y hy => XI.out y (hq.trans (hy.mono hq.size))
  replace lI : w6.heap.size < w21.heap.size := Nat.lt_of_lt_of_le lI hq.size
  replace XJ : Hid (∀ y, Below w21.heap.size w21 y → y.heap[w7.heap.size]? = some (.cells #[.bool y0, .slice ja1 ml (ml + jc1), .slice ja2 nl (nl + jc2)] 26 (0, 0))) := fun y hy => XJ.out y (hq.trans (hy.mono hq.size))
  replace lJ : w7.heap.size < w21.heap.size := Nat.lt_of_lt_of_le lJ hq.size
  replace XG : Hid (∀ y, Below w21.heap.size w21 y → y.heap[w8.heap.size]? = some (.cells #[.bool s0, .slice oa ps.length oc, .slice ob qs.length od] 26 (0, 0))) := fun y hy => XG.out y (hq.trans (hy.mono hq.size))
  replace lG : w8.heap.size < w21.heap.size := Nat.lt_of_lt_of_le lG hq.size
  have zw21 : w20.heap.size ≤ w21.heap.size := hq.size
  clear hq BP
  clear kA0 kA1 kA2 kC0 kC1 kC2 kW0 kW1 kW2 kI0 kI1 kI2 kJ0 kJ1 kJ2 kG0 kG1 kG2
  clear hb
  have kA0 : w21.cell? ⟨w.heap.size, 0, none⟩ = some (.bool x0) := (boxG (XA.out w21 (Below.refl _ _)) 0).1
  have kA1 : w21.cell? ⟨w.heap.size, 1, none⟩ = some (.slice la ll lc) := (boxG (XA.out w21 (Below.refl _ _)) 1).1
  have kA2 : w21.cell? ⟨w.heap.size, 2, none⟩ = some (.slice ka kl kc) := (boxG (XA.out w21 (Below.refl _ _)) 2).1
  have kC0 : w21.cell? ⟨w.heap.size + 1, 0, none⟩ = some (.bool y0) := (boxG (XC.out w21 (Below.refl _ _)) 0).1
  have kC1 : w21.cell? ⟨w.heap.size + 1, 1, none⟩ = some (.slice ma ml mc) := (boxG (XC.out w21 (Below.refl _ _)) 1).1
  have kC2 : w21.cell? ⟨w.heap.size + 1, 2, none⟩ = some (.slice na nl nc) := (boxG (XC.out w21 (Below.refl _ _)) 2).1
  have kW0 : w21.cell? ⟨X, 0, none⟩ = some (.bool s0) := (boxG (XW.out w21 (Below.refl _ _)) 0).1
  have kW1 : w21.cell? ⟨X, 1, none⟩ = some (.slice sa ps.length sc) := (boxG (XW.out w21 (Below.refl _ _)) 1).1
  have kW2 : w21.cell? ⟨X, 2, none⟩ = some (.slice sb qs.length sd) := (boxG (XW.out w21 (Below.refl _ _)) 2).1
  have kI0 : w21.cell? ⟨w6.heap.size, 0, none⟩ = some (.bool x0) := (boxG (XI.out w21 (Below.refl _ _)) 0).1
  have kI1 : w21.cell? ⟨w6.heap.size, 1, none⟩ = some (.slice ia1 ll (ll + ic1)) := (boxG (XI.out w21 (Below.refl _ _)) 1).1
  have kI2 : w21.cell? ⟨w6.heap.size, 2, none⟩ = some (.slice ia2 kl (kl + ic2)) := (boxG (XI.out w21 (Below.refl _ _)) 2).1
  have kJ0 : w21.cell? ⟨w7.heap.size, 0, none⟩ = some (.bool y0) := (boxG (XJ.out w21 (Below.refl _ _)) 0).1
  have kJ1 : w21.cell? ⟨w7.heap.size, 1, none⟩ = some (.slice ja1 ml (ml + jc1)) := (boxG (XJ.out w21 (Below.refl _ _)) 1).1
  have kJ2 : w21.cell? ⟨w7.heap.size, 2, none⟩ = some (.slice ja2 nl (nl + jc2)) := (boxG (XJ.out w21 (Below.refl _ _)) 2).1
  have kG0 : w21.cell? ⟨w8.heap.size, 0, none⟩ = some (.bool s0) := (boxG (XG.out w21 (Below.refl _ _)) 0).1
  have kG1 : w21.cell? ⟨w8.heap.size, 1, none⟩ = some (.slice oa ps.length oc) := (boxG (XG.out w21 (Below.refl _ _)) 1).1
  have kG2 : w21.cell? ⟨w8.heap.size, 2, none⟩ = some (.slice ob qs.length od) := (boxG (XG.out w21 (Below.refl _ _)) 2).1
  clear kA0 kA1 kA2 kC0 kC1 kC2 kW0 kW1 kW2 kI0 kI1 kI2 kJ0 kJ1 kJ2 kG0 kG1 kG2
  go_upto_region 38 with fail
  go_cut [16] from 96 to 102 (fun s wx => ∃ (X : Nat) (sa : Option Addr) (sc : Nat) (sb : Option Addr) (sd : Nat), s = .pointer (some ⟨X, 0, none⟩) ∧ w21.heap.size ≤ X ∧ X < wx.heap.size ∧ wx.heap[X]? = some (.cells #[.bool s0, .slice sa ps.length sc, .slice sb qs.length sd] 26 (0, 0)) ∧ SlAt intR (fun b => w21.heap.size ≤ b ∧ b ≠ X) wx sa ps.length ps ∧ SlAt intR (fun b => w21.heap.size ≤ b ∧ b ≠ X) wx sb qs.length qs ∧ Below w21.heap.size w21 wx)
  case first =>
    have KS : Hid (∀ x, Below w21.heap.size w21 x → x.cell? ⟨w.heap.size, 0, none⟩ = some (.bool x0) ∧ x.cell? ⟨w.heap.size, 1, none⟩ = some (.slice la ll lc) ∧ x.cell? ⟨w.heap.size, 2, none⟩ = some (.slice ka kl kc) ∧ x.cell? ⟨w.heap.size + 1, 0, none⟩ = some (.bool y0) ∧ x.cell? ⟨w.heap.size + 1, 1, none⟩ = some (.slice ma ml mc) ∧ x.cell? ⟨w.heap.size + 1, 2, none⟩ = some (.slice na nl nc)) := fun x hx => ⟨(boxG (XA.out x hx) 0).1, (boxG (XA.out x hx) 1).1, (boxG (XA.out x hx) 2).1, (boxG (XC.out x hx) 0).1, (boxG (XC.out x hx) 1).1, (boxG (XC.out x hx) 2).1⟩
    have D0 : Hid (Below w21.heap.size w21 (w21.drewN 1)) := below_drewN (Below.refl _ _) 1
    refine wp_region_held_drew (S := fun x => x.cell? ⟨w.heap.size, 0, none⟩ = some (.bool x0) ∧ x.cell? ⟨w.heap.size, 1, none⟩ = some (.slice la ll lc) ∧ x.cell? ⟨w.heap.size, 2, none⟩ = some (.slice ka kl kc) ∧ x.cell? ⟨w.heap.size + 1, 0, none⟩ = some (.bool y0) ∧ x.cell? ⟨w.heap.size + 1, 1, none⟩ = some (.slice ma ml mc) ∧ x.cell? ⟨w.heap.size + 1, 2, none⟩ = some (.slice na nl nc)) (by kernel_rfl) ?_ (fun hHeld => ?_)
    · exact KS.out _ D0.out
    refine wpAnyH_take (i := 0) (v := .slice ca cn cc) rfl (by kernel_rfl) (by kernel_rfl) (by kernel_rfl) (fun _ _ _ h => h) (Or.inl ⟨by kernel_rfl, by (intro x hSx; (try dsimp only at hSx); go_simp)⟩) (by assumption) ?_
    try simp only [Act.put, List.getElem_toArray, List.getElem_cons_zero, List.setIfInBounds_toArray, List.set_cons_zero, List.set_cons_succ]
    refine wpAnyH_take (i := 2) (v := .agg #[.bool x0, .slice la ll lc, .slice ka kl kc]) rfl (by kernel_rfl) (by kernel_rfl) (by kernel_rfl) (fun _ _ _ h => h) (Or.inl ⟨by kernel_rfl, by (intro x hSx; (try dsimp only at hSx); go_simp)⟩) (by assumption) ?_
    try simp only [Act.put, List.getElem_toArray, List.getElem_cons_zero, List.getElem_cons_succ, List.setIfInBounds_toArray, List.set_cons_zero, List.set_cons_succ]
    refine wpAnyH_take (i := 4) (v := .agg #[.bool y0, .slice ma ml mc, .slice na nl nc]) rfl (by kernel_rfl) (by kernel_rfl) (by kernel_rfl) (fun _ _ _ h => h) (Or.inl ⟨by kernel_rfl, by (intro x hSx; (try dsimp only at hSx); go_simp)⟩) (by assumption) ?_
    try simp only [Act.put, List.getElem_toArray, List.getElem_cons_zero, List.getElem_cons_succ, List.setIfInBounds_toArray, List.set_cons_zero, List.set_cons_succ]
    refine wpAnyH_ready (rs := [1, 7]) (by kernel_rfl) (by simp) ?_
    refine AllReadyH.cons rfl (fun K hK => ?_) (AllReadyH.cons rfl (fun K hK => ?_) AllReadyH.nil)
    · go_simp
      go_at_call 12
      refine (toLClass _ _ _ L _ (H.out.later (B.out _ D0.out)) SL.out).mono ?_
      rintro e wah ⟨ga, gc, rfl, h1, hb⟩
      have D1 : Hid (Below w21.heap.size w21 wah) := D0.out.trans (Below.mono (hb) D0.out.size)
      have FL : Hid (∀ y, Below wah.heap.size wah y → SlAt clR (fun _ => True) y ga cn L) := fun y hy => (h1.mono (fun _ _ _ => trivial)).later hy
      have zz1 : w21.heap.size ≤ wah.heap.size := by have := hb.size; simpa using this
      clear hb h1
      go_wp2_with fail
      refine hK.out _ _ (KS.out _ D1.out) (fun hHeld2 => ?_)
      clear hK K
      try simp only [Act.put, List.getElem_toArray, List.getElem_cons_zero, List.getElem_cons_succ, List.setIfInBounds_toArray, List.set_cons_zero, List.set_cons_succ]
      refine wpAnyH_ready (rs := [3, 7]) (by kernel_rfl) (by simp) ?_
      refine AllReadyH.cons rfl (fun K hK => ?_) (AllReadyH.cons rfl (fun K hK => ?_) AllReadyH.nil)
      · go_simp
        go_at_call 13
        refine (toRShape _ _ _ _ _ _ _ us vs _ (HU.out.later (B.out _ D1.out)) SU.out (HV.out.later (B.out _ D1.out)) SV.out).mono ?_
        rintro e wbh ⟨pa1, pc1, pa2, pc2, rfl, h1, h2, hb⟩
        replace FL : Hid (∀ y, Below wbh.heap.size wbh y → SlAt clR (fun _ => True) y ga cn L) := fun y hy => FL.out y (Below.trans (hb) (hy.mono (Below.size (hb))))
        have D2 : Hid (Below w21.heap.size w21 wbh) := D1.out.trans (Below.mono (hb) D1.out.size)
        have FU : Hid (∀ y, Below wbh.heap.size wbh y → SlAt intR (fun _ => True) y pa1 ll us) := fun y hy => (h1.mono (fun _ _ _ => trivial)).later hy
        have FV : Hid (∀ y, Below wbh.heap.size wbh y → SlAt intR (fun _ => True) y pa2 kl vs) := fun y hy => (h2.mono (fun _ _ _ => trivial)).later hy
        have zz2 : wah.heap.size ≤ wbh.heap.size := by have := hb.size; simpa using this
        clear hb h1 h2
        go_wp2_with fail
        refine hK.out _ _ (KS.out _ D2.out) (fun hHeld3 => ?_)
        clear hK K
        try simp only [Act.put, List.getElem_toArray, List.getElem_cons_zero, List.getElem_cons_succ, List.setIfInBounds_toArray, List.set_cons_zero, List.set_cons_succ]
        refine wpAnyH_ready (rs := [5, 7]) (by kernel_rfl) (by simp) ?_
        refine AllReadyH.cons rfl (fun K hK => ?_) (AllReadyH.cons rfl (fun K hK => ?_) AllReadyH.nil)
        · go_simp
          go_at_call 13
          refine (toRShape _ _ _ _ _ _ _ xs ys _ (HX.out.later (B.out _ D2.out)) SX.out (HY.out.later (B.out _ D2.out)) SY.out).mono ?_
          rintro e wdh ⟨qa1, qc1, qa2, qc2, rfl, h1, h2, hb⟩
          replace FL : Hid (∀ y, Below wdh.heap.size wdh y → SlAt clR (fun _ => True) y ga cn L) := fun y hy => FL.out y (Below.trans (hb) (hy.mono (Below.size (hb))))
          replace FU : Hid (∀ y, Below wdh.heap.size wdh y → SlAt intR (fun _ => True) y pa1 ll us) := fun y hy => FU.out y (Below.trans (hb) (hy.mono (Below.size (hb))))
          replace FV : Hid (∀ y, Below wdh.heap.size wdh y → SlAt intR (fun _ => True) y pa2 kl vs) := fun y hy => FV.out y (Below.trans (hb) (hy.mono (Below.size (hb))))
          have D3 : Hid (Below w21.heap.size w21 wdh) := D2.out.trans (Below.mono (hb) D2.out.size)
          have FX : Hid (∀ y, Below wdh.heap.size wdh y → SlAt intR (fun _ => True) y qa1 ml xs) := fun y hy => (h1.mono (fun _ _ _ => trivial)).later hy
          have FY : Hid (∀ y, Below wdh.heap.size wdh y → SlAt intR (fun _ => True) y qa2 nl ys) := fun y hy => (h2.mono (fun _ _ _ => trivial)).later hy
          have zz3 : wbh.heap.size ≤ wdh.heap.size := by have := hb.size; simpa using this
          clear hb h1 h2
          go_wp2_with fail
          refine hK.out _ _ (KS.out _ D3.out) (fun hHeld4 => ?_)
          clear hK K
          try simp only [Act.put, List.getElem_toArray, List.getElem_cons_zero, List.getElem_cons_succ, List.setIfInBounds_toArray, List.set_cons_zero, List.set_cons_succ]
          refine wpAnyH_ready (rs := [6, 7]) (by kernel_rfl) (by simp) ?_
          refine AllReadyH.cons rfl (fun K hK => ?_) (AllReadyH.cons rfl (fun K hK => ?_) AllReadyH.nil)
          · go_simp
            go_at_call 6
            refine (shapeJoinImpl _ _ _ _ _ _ _ _ _ _ _ _ _ _ _ _ _ us vs xs ys ea L _ (FL.out _ (Below.refl _ _)).cls (FU.out _ (Below.refl _ _)).ints (FV.out _ (Below.refl _ _)).ints (FX.out _ (Below.refl _ _)).ints (FY.out _ (Below.refl _ _)).ints hll hkl (HG.out _ (B.out _ D3.out))).mono ?_
            intro e wsh hP
            rw [HJ.out] at hP
            obtain ⟨sa, n1, sc, sb, n2, sd, rfl, e1, e2, _, _, _, _, hw1, hw2, hl1, hl2, _, hb⟩ := hP
            obtain rfl : ps.length = n1 := e1
            obtain rfl : qs.length = n2 := e2
            replace FL : Hid (∀ y, Below wsh.heap.size wsh y → SlAt clR (fun _ => True) y ga cn L) := fun y hy => FL.out y (Below.trans (hb) (hy.mono (Below.size (hb))))
            replace FU : Hid (∀ y, Below wsh.heap.size wsh y → SlAt intR (fun _ => True) y pa1 ll us) := fun y hy => FU.out y (Below.trans (hb) (hy.mono (Below.size (hb))))
            replace FV : Hid (∀ y, Below wsh.heap.size wsh y → SlAt intR (fun _ => True) y pa2 kl vs) := fun y hy => FV.out y (Below.trans (hb) (hy.mono (Below.size (hb))))
            replace FX : Hid (∀ y, Below wsh.heap.size wsh y → SlAt intR (fun _ => True) y qa1 ml xs) := fun y hy => FX.out y (Below.trans (hb) (hy.mono (Below.size (hb))))
            replace FY : Hid (∀ y, Below wsh.heap.size wsh y → SlAt intR (fun _ => True) y qa2 nl ys) := fun y hy => FY.out y (Below.trans (hb) (hy.mono (Below.size (hb))))
            have D4 : Hid (Below w21.heap.size w21 wsh) := D3.out.trans (Below.mono (hb) D3.out.size)
            have FJ : Hid (∀ y, Below wsh.heap.size wsh y → SlAt intR (fun b => wdh.heap.size ≤ b ∧ b < wsh.heap.size) y sa ps.length ps ∧ SlAt intR (fun b => wdh.heap.size ≤ b ∧ b < wsh.heap.size) y sb qs.length qs) := fun y hy => ⟨(wriSl hw1 rfl hn1 FP.out (fun x hx hp => by have := hl1 x hx hp; simpa using this)).later hy, (wriSl hw2 rfl hn2 FQ.out (fun x hx hp => by have := hl2 x hx hp; simpa using this)).later hy⟩
            have zs : wdh.heap.size ≤ wsh.heap.size := by have := hb.size; simpa using this
            have lS : w21.heap.size ≤ wdh.heap.size := by have := D3.out.size; first | exact this | (simp at this; omega)
            clear hb hw1 hw2 hl1 hl2
            go_wp2_with fail
            refine hK.out _ _ (KS.out _ D4.out) (fun hHeld5 => ?_)
            clear hK K
            try simp only [Act.put, List.getElem_toArray, List.getElem_cons_zero, List.getElem_cons_succ, List.setIfInBounds_toArray, List.set_cons_zero, List.set_cons_succ]
            refine wpAnyH_ready (rs := [7]) (by kernel_rfl) (by simp) ?_
            refine AllReadyH.cons rfl (fun K hK => ?_) AllReadyH.nil
            go_simp
            replace FL : Hid (∀ y, Below (wsh.alloc (.cells #[.bool false, .slice none 0 0, .slice none 0 0] 26)).heap.size (wsh.alloc (.cells #[.bool false, .slice none 0 0, .slice none 0 0] 26)) y → SlAt clR (fun _ => True) y ga cn L) := fun y hy => FL.out y (Below.trans ((Below.refl wsh.heap.size wsh).alloc (Nat.le_refl _) _) (hy.mono (Below.size ((Below.refl wsh.heap.size wsh).alloc (Nat.le_refl _) _))))
            replace FU : Hid (∀ y, Below (wsh.alloc (.cells #[.bool false, .slice none 0 0, .slice none 0 0] 26)).heap.size (wsh.alloc (.cells #[.bool false, .slice none 0 0, .slice none 0 0] 26)) y → SlAt intR (fun _ => True) y pa1 ll us) := fun y hy => FU.out y (Below.trans ((Below.refl wsh.heap.size wsh).alloc (Nat.le_refl _) _) (hy.mono (Below.size ((Below.refl wsh.heap.size wsh).alloc (Nat.le_refl _) _))))
            replace FV : Hid (∀ y, Below (wsh.alloc (.cells #[.bool false, .slice none 0 0, .slice none 0 0] 26)).heap.size (wsh.alloc (.cells #[.bool false, .slice none 0 0, .slice none 0 0] 26)) y → SlAt intR (fun _ => True) y pa2 kl vs) := fun y hy => FV.out y (Below.trans ((Below.refl wsh.heap.size wsh).alloc (Nat.le_refl _) _) (hy.mono (Below.size ((Below.refl wsh.heap.size wsh).alloc (Nat.le_refl _) _))))
            replace FX : Hid (∀ y, Below (wsh.alloc (.cells #[.bool false, .slice none 0 0, .slice none 0 0] 26)).heap.size (wsh.alloc (.cells #[.bool false, .slice none 0 0, .slice none 0 0] 26)) y → SlAt intR (fun _ => True) y qa1 ml xs) := fun y hy => FX.out y (Below.trans ((Below.refl wsh.heap.size wsh).alloc (Nat.le_refl _) _) (hy.mono (Below.size ((Below.refl wsh.heap.size wsh).alloc (Nat.le_refl _) _))))
            replace FY : Hid (∀ y, Below (wsh.alloc (.cells #[.bool false, .slice none 0 0, .slice none 0 0] 26)).heap.size (wsh.alloc (.cells #[.bool false, .slice none 0 0, .slice none 0 0] 26)) y → SlAt intR (fun _ => True) y qa2 nl ys) := fun y hy => FY.out y (Below.trans ((Below.refl wsh.heap.size wsh).alloc (Nat.le_refl _) _) (hy.mono (Below.size ((Below.refl wsh.heap.size wsh).alloc (Nat.le_refl _) _))))
            replace FJ : Hid (∀ y, Below (wsh.alloc (.cells #[.bool false, .slice none 0 0, .slice none 0 0] 26)).heap.size (wsh.alloc (.cells #[.bool false, .slice none 0 0, .slice none 0 0] 26)) y → SlAt intR (fun b => wdh.heap.size ≤ b ∧ b < wsh.heap.size) y sa ps.length ps ∧ SlAt intR (fun b => wdh.heap.size ≤ b ∧ b < wsh.heap.size) y sb qs.length qs) := fun y hy => FJ.out y (Below.trans ((Below.refl wsh.heap.size wsh).alloc (Nat.le_refl _) _) (hy.mono (Below.size ((Below.refl wsh.heap.size wsh).alloc (Nat.le_refl _) _))))
            have D5 : Hid (Below w21.heap.size w21 (wsh.alloc (.cells #[.bool false, .slice none 0 0, .slice none 0 0] 26))) := D4.out.trans (Below.mono ((Below.refl wsh.heap.size wsh).alloc (Nat.le_refl _) _) D4.out.size)
            have lX : w21.heap.size ≤ wsh.heap.size := by have := D4.out.size; first | exact this | (simp at this; omega)
            have FB : Hid (∀ y, Below (wsh.alloc (.cells #[.bool false, .slice none 0 0, .slice none 0 0] 26)).heap.size (wsh.alloc (.cells #[.bool false, .slice none 0 0, .slice none 0 0] 26)) y → y.heap[wsh.heap.size]? = some (.cells #[.bool false, .slice none 0 0, .slice none 0 0] 26 (0, 0)) ∧ wsh.heap.size < y.heap.size) := fun y hy => ⟨(hy.block _ (by simp)).trans (boxN _ _ _ _ (by simp)), Nat.lt_of_lt_of_le (by simp) hy.size⟩
            refine hK.out _ _ (KS.out _ D5.out) (fun hHeld6 => ?_)
            clear hK K
            try simp only [Act.put, List.getElem_toArray, List.getElem_cons_zero, List.getElem_cons_succ, List.setIfInBounds_toArray, List.set_cons_zero, List.set_cons_succ]
            refine wpAnyH_ready (rs := [8]) (by kernel_rfl) (by simp) ?_
            refine AllReadyH.cons rfl (fun K hK => ?_) AllReadyH.nil
            obtain ⟨fb, fbl⟩ := FB.out (wsh.alloc (.cells #[.bool false, .slice none 0 0, .slice none 0 0] 26)) (Below.refl _ _)
            have z0 : (wsh.alloc (.cells #[.bool false, .slice none 0 0, .slice none 0 0] 26)).cell? ⟨wsh.heap.size, 0, none⟩ = some (.bool false) := (boxG fb 0).1
            have z1 : (wsh.alloc (.cells #[.bool false, .slice none 0 0, .slice none 0 0] 26)).cell? ⟨wsh.heap.size, 1, none⟩ = some (.slice none 0 0) := (boxG fb 1).1
            have z2 : (wsh.alloc (.cells #[.bool false, .slice none 0 0, .slice none 0 0] 26)).cell? ⟨wsh.heap.size, 2, none⟩ = some (.slice none 0 0) := (boxG fb 2).1
            have f0 : (wsh.alloc (.cells #[.bool false, .slice none 0 0, .slice none 0 0] 26)).frozen? ⟨wsh.heap.size, 0, none⟩ = false := (boxG fb 0).2
            have f1 : (wsh.alloc (.cells #[.bool false, .slice none 0 0, .slice none 0 0] 26)).frozen? ⟨wsh.heap.size, 1, none⟩ = false := (boxG fb 1).2
            have f2 : (wsh.alloc (.cells #[.bool false, .slice none 0 0, .slice none 0 0] 26)).frozen? ⟨wsh.heap.size, 2, none⟩ = false := (boxG fb 2).2
            have FIN0 : w21.heap.size ≤ wsh.heap.size ∧ wsh.heap.size < ((((wsh.alloc (.cells #[.bool false, .slice none 0 0, .slice none 0 0] 26)).setCell ⟨wsh.heap.size, 0, none⟩ (.bool s0)).setCell ⟨wsh.heap.size, 1, none⟩ (.slice sa ps.length sc)).setCell ⟨wsh.heap.size, 2, none⟩ (.slice sb qs.length sd)).heap.size ∧ ((((wsh.alloc (.cells #[.bool false, .slice none 0 0, .slice none 0 0] 26)).setCell ⟨wsh.heap.size, 0, none⟩ (.bool s0)).setCell ⟨wsh.heap.size, 1, none⟩ (.slice sa ps.length sc)).setCell ⟨wsh.heap.size, 2, none⟩ (.slice sb qs.length sd)).heap[wsh.heap.size]? = some (.cells #[.bool s0, .slice sa ps.length sc, .slice sb qs.length sd] 26 (0, 0)) ∧ SlAt intR (fun b => w21.heap.size ≤ b ∧ b ≠ wsh.heap.size) ((((wsh.alloc (.cells #[.bool false, .slice none 0 0, .slice none 0 0] 26)).setCell ⟨wsh.heap.size, 0, none⟩ (.bool s0)).setCell ⟨wsh.heap.size, 1, none⟩ (.slice sa ps.length sc)).setCell ⟨wsh.heap.size, 2, none⟩ (.slice sb qs.length sd)) sa ps.length ps ∧ SlAt intR (fun b => w21.heap.size ≤ b ∧ b ≠ wsh.heap.size) ((((wsh.alloc (.cells #[.bool false, .slice none 0 0, .slice none 0 0] 26)).setCell ⟨wsh.heap.size, 0, none⟩ (.bool s0)).setCell ⟨wsh.heap.size, 1, none⟩ (.slice sa ps.length sc)).setCell ⟨wsh.heap.size, 2, none⟩ (.slice sb qs.length sd)) sb qs.length qs ∧ Below w21.heap.size w21 ((((wsh.alloc (.cells #[.bool false, .slice none 0 0, .slice none 0 0] 26)).setCell ⟨wsh.heap.size, 0, none⟩ (.bool s0)).setCell ⟨wsh.heap.size, 1, none⟩ (.slice sa ps.length sc)).setCell ⟨wsh.heap.size, 2, none⟩ (.slice sb qs.length sd)) := by
              refine ⟨lX, by simp only [World.size_setCell]; exact fbl, boxS (boxS (boxS fb 0 _) 1 _) 2 _, ((((SlAt.mono (FJ.out (wsh.alloc (.cells #[.bool false, .slice none 0 0, .slice none 0 0] 26)) (Below.refl _ _)).1 (E := fun b => w21.heap.size ≤ b ∧ b ≠ wsh.heap.size) (fun b hb _ => ⟨by omega, by omega⟩))).set ⟨wsh.heap.size, 0, none⟩ (.bool s0) (by simp)).set ⟨wsh.heap.size, 1, none⟩ (.slice sa ps.length sc) (by simp)).set ⟨wsh.heap.size, 2, none⟩ (.slice sb qs.length sd) (by simp), ((((SlAt.mono (FJ.out (wsh.alloc (.cells #[.bool false, .slice none 0 0, .slice none 0 0] 26)) (Below.refl _ _)).2 (E := fun b => w21.heap.size ≤ b ∧ b ≠ wsh.heap.size) (fun b hb _ => ⟨by omega, by omega⟩))).set ⟨wsh.heap.size, 0, none⟩ (.bool s0) (by simp)).set ⟨wsh.heap.size, 1, none⟩ (.slice sa ps.length sc) (by simp)).set ⟨wsh.heap.size, 2, none⟩ (.slice sb qs.length sd) (by simp), ((D5.out.setCell lX _).setCell lX _).setCell lX _⟩
            have efin : ((((wsh.alloc (.cells #[.bool false, .slice none 0 0, .slice none 0 0] 26)).setCell ⟨wsh.heap.size, 0, none⟩ (.bool s0)).setCell ⟨wsh.heap.size, 1, none⟩ (.slice sa ps.length sc)).setCell ⟨wsh.heap.size, 2, none⟩ (.slice sb qs.length sd)) = (wsh.alloc (.cells #[.bool s0, .slice sa ps.length sc, .slice sb qs.length sd] 26)) := by
              rw [World.setCell_alloc_at _ _ _ _ _ (by simp), World.setCell_alloc_at _ _ _ _ _ (by simp), World.setCell_alloc_at _ _ _ _ _ (by simp)]
              rfl
            rw [efin] at FIN0
            clear efin
            have FIN : Hid (w21.heap.size ≤ wsh.heap.size ∧ wsh.heap.size < (wsh.alloc (.cells #[.bool s0, .slice sa ps.length sc, .slice sb qs.length sd] 26)).heap.size ∧ (wsh.alloc (.cells #[.bool s0, .slice sa ps.length sc, .slice sb qs.length sd] 26)).heap[wsh.heap.size]? = some (.cells #[.bool s0, .slice sa ps.length sc, .slice sb qs.length sd] 26 (0, 0)) ∧ SlAt intR (fun b => w21.heap.size ≤ b ∧ b ≠ wsh.heap.size) (wsh.alloc (.cells #[.bool s0, .slice sa ps.length sc, .slice sb qs.length sd] 26)) sa ps.length ps ∧ SlAt intR (fun b => w21.heap.size ≤ b ∧ b ≠ wsh.heap.size) (wsh.alloc (.cells #[.bool s0, .slice sa ps.length sc, .slice sb qs.length sd] 26)) sb qs.length qs ∧ Below w21.heap.size w21 (wsh.alloc (.cells #[.bool s0, .slice sa ps.length sc, .slice sb qs.length sd] 26))) := FIN0
            clear FIN0
            go_simp
            refine hK.out _ _ ?_ (fun hHeld7 => ?_)
            · exact KS.out _ FIN.out.2.2.2.2.2
            clear hK K
            try simp only [Act.put, List.getElem_toArray, List.getElem_cons_zero, List.getElem_cons_succ, List.setIfInBounds_toArray, List.set_cons_zero, List.set_cons_succ]
            refine wpAnyH_done (by kernel_rfl) ?_ _
            clear hHeld hHeld2 hHeld3 hHeld4 hHeld5 hHeld6 hHeld7
            go_wp2_with fail
            go_meet
            exact ⟨_, _, _, _, _, rfl, FIN.out⟩
          · go_simp
            replace FL : Hid (∀ y, Below (wdh.alloc (.cells #[.bool false, .slice none 0 0, .slice none 0 0] 26)).heap.size (wdh.alloc (.cells #[.bool false, .slice none 0 0, .slice none 0 0] 26)) y → SlAt clR (fun _ => True) y ga cn L) := fun y hy => FL.out y (Below.trans ((Below.refl wdh.heap.size wdh).alloc (Nat.le_refl _) _) (hy.mono (Below.size ((Below.refl wdh.heap.size wdh).alloc (Nat.le_refl _) _))))
            replace FU : Hid (∀ y, Below (wdh.alloc (.cells #[.bool false, .slice none 0 0, .slice none 0 0] 26)).heap.size (wdh.alloc (.cells #[.bool false, .slice none 0 0, .slice none 0 0] 26)) y → SlAt intR (fun _ => True) y pa1 ll us) := fun y hy => FU.out y (Below.trans ((Below.refl wdh.heap.size wdh).alloc (Nat.le_refl _) _) (hy.mono (Below.size ((Below.refl wdh.heap.size wdh).alloc (Nat.le_refl _) _))))
            replace FV : Hid (∀ y, Below (wdh.alloc (.cells #[.bool false, .slice none 0 0, .slice none 0 0] 26)).heap.size (wdh.alloc (.cells #[.bool false, .slice none 0 0, .slice none 0 0] 26)) y → SlAt intR (fun _ => True) y pa2 kl vs) := fun y hy => FV.out y (Below.trans ((Below.refl wdh.heap.size wdh).alloc (Nat.le_refl _) _) (hy.mono (Below.size ((Below.refl wdh.heap.size wdh).alloc (Nat.le_refl _) _))))
            replace FX : Hid (∀ y, Below (wdh.alloc (.cells #[.bool false, .slice none 0 0, .slice none 0 0] 26)).heap.size (wdh.alloc (.cells #[.bool false, .slice none 0 0, .slice none 0 0] 26)) y → SlAt intR (fun _ => True) y qa1 ml xs) := fun y hy => FX.out y (Below.trans ((Below.refl wdh.heap.size wdh).alloc (Nat.le_refl _) _) (hy.mono (Below.size ((Below.refl wdh.heap.size wdh).alloc (Nat.le_refl _) _))))
            replace FY : Hid (∀ y, Below (wdh.alloc (.cells #[.bool false, .slice none 0 0, .slice none 0 0] 26)).heap.size (wdh.alloc (.cells #[.bool false, .slice none 0 0, .slice none 0 0] 26)) y → SlAt intR (fun _ => True) y qa2 nl ys) := fun y hy => FY.out y (Below.trans ((Below.refl wdh.heap.size wdh).alloc (Nat.le_refl _) _) (hy.mono (Below.size ((Below.refl wdh.heap.size wdh).alloc (Nat.le_refl _) _))))
            have D4 : Hid (Below w21.heap.size w21 (wdh.alloc (.cells #[.bool false, .slice none 0 0, .slice none 0 0] 26))) := D3.out.trans (Below.mono ((Below.refl wdh.heap.size wdh).alloc (Nat.le_refl _) _) D3.out.size)
            have lX : w21.heap.size ≤ wdh.heap.size := by have := D3.out.size; first | exact this | (simp at this; omega)
            have FB : Hid (∀ y, Below (wdh.alloc (.cells #[.bool false, .slice none 0 0, .slice none 0 0] 26)).heap.size (wdh.alloc (.cells #[.bool false, .slice none 0 0, .slice none 0 0] 26)) y → y.heap[wdh.heap.size]? = some (.cells #[.bool false, .slice none 0 0, .slice none 0 0] 26 (0, 0)) ∧ wdh.heap.size < y.heap.size) := fun y hy => ⟨(hy.block _ (by simp)).trans (boxN _ _ _ _ (by simp)), Nat.lt_of_lt_of_le (by simp) hy.size⟩
            refine hK.out _ _ (KS.out _ D4.out) (fun hHeld5 => ?_)
            clear hK K
            try simp only [Act.put, List.getElem_toArray, List.getElem_cons_zero, List.getElem_cons_succ, List.setIfInBounds_toArray, List.set_cons_zero, List.set_cons_succ]
            refine wpAnyH_ready (rs := [6]) (by kernel_rfl) (by simp) ?_
            refine AllReadyH.cons rfl (fun K hK => ?_) AllReadyH.nil
            go_simp
            go_at_call 6
            refine (shapeJoinImpl _ _ _ _ _ _ _ _ _ _ _ _ _ _ _ _ _ us vs xs ys ea L _ (FL.out _ (Below.refl _ _)).cls (FU.out _ (Below.refl _ _)).ints (FV.out _ (Below.refl _ _)).ints (FX.out _ (Below.refl _ _)).ints (FY.out _ (Below.refl _ _)).ints hll hkl (HG.out _ (B.out _ D4.out))).mono ?_
            intro e wsh hP
            rw [HJ.out] at hP
            obtain ⟨sa, n1, sc, sb, n2, sd, rfl, e1, e2, _, _, _, _, hw1, hw2, hl1, hl2, _, hb⟩ := hP
            obtain rfl : ps.length = n1 := e1
            obtain rfl : qs.length = n2 := e2
            replace FL : Hid (∀ y, Below wsh.heap.size wsh y → SlAt clR (fun _ => True) y ga cn L) := fun y hy => FL.out y (Below.trans (hb) (hy.mono (Below.size (hb))))
            replace FU : Hid (∀ y, Below wsh.heap.size wsh y → SlAt intR (fun _ => True) y pa1 ll us) := fun y hy => FU.out y (Below.trans (hb) (hy.mono (Below.size (hb))))
            replace FV : Hid (∀ y, Below wsh.heap.size wsh y → SlAt intR (fun _ => True) y pa2 kl vs) := fun y hy => FV.out y (Below.trans (hb) (hy.mono (Below.size (hb))))
            replace FX : Hid (∀ y, Below wsh.heap.size wsh y → SlAt intR (fun _ => True) y qa1 ml xs) := fun y hy => FX.out y (Below.trans (hb) (hy.mono (Below.size (hb))))
            replace FY : Hid (∀ y, Below wsh.heap.size wsh y → SlAt intR (fun _ => True) y qa2 nl ys) := fun y hy => FY.out y (Below.trans (hb) (hy.mono (Below.size (hb))))
            replace FB : Hid (∀ y, Below wsh.heap.size wsh y → y.heap[wdh.heap.size]? = some (.cells #[.bool false, .slice none 0 0, .slice none 0 0] 26 (0, 0)) ∧ wdh.heap.size < y.heap.size) := fun y hy => FB.out y (Below.trans (hb) (hy.mono (Below.size (hb))))
            have D5 : Hid (Below w21.heap.size w21 wsh) := D4.out.trans (Below.mono (hb) D4.out.size)
            have FJ : Hid (∀ y, Below wsh.heap.size wsh y → SlAt intR (fun b => wdh.heap.size + 1 ≤ b ∧ b < wsh.heap.size) y sa ps.length ps ∧ SlAt intR (fun b => wdh.heap.size + 1 ≤ b ∧ b < wsh.heap.size) y sb qs.length qs) := fun y hy => ⟨(wriSl hw1 rfl hn1 FP.out (fun x hx hp => by have := hl1 x hx hp; simpa using this)).later hy, (wriSl hw2 rfl hn2 FQ.out (fun x hx hp => by have := hl2 x hx hp; simpa using this)).later hy⟩
            have zs : wdh.heap.size + 1 ≤ wsh.heap.size := by have := hb.size; simpa using this
            have lS : w21.heap.size ≤ wdh.heap.size + 1 := by have := D4.out.size; first | exact this | (simp at this; omega)
            clear hb hw1 hw2 hl1 hl2
            go_wp2_with fail
            refine hK.out _ _ (KS.out _ D5.out) (fun hHeld6 => ?_)
            clear hK K
            try simp only [Act.put, List.getElem_toArray, List.getElem_cons_zero, List.getElem_cons_succ, List.setIfInBounds_toArray, List.set_cons_zero, List.set_cons_succ]
            refine wpAnyH_ready (rs := [8]) (by kernel_rfl) (by simp) ?_
            refine AllReadyH.cons rfl (fun K hK => ?_) AllReadyH.nil
            obtain ⟨fb, fbl⟩ := FB.out wsh (Below.refl _ _)
            have z0 : wsh.cell? ⟨wdh.heap.size, 0, none⟩ = some (.bool false) := (boxG fb 0).1
            have z1 : wsh.cell? ⟨wdh.heap.size, 1, none⟩ = some (.slice none 0 0) := (boxG fb 1).1
            have z2 : wsh.cell? ⟨wdh.heap.size, 2, none⟩ = some (.slice none 0 0) := (boxG fb 2).1
            have f0 : wsh.frozen? ⟨wdh.heap.size, 0, none⟩ = false := (boxG fb 0).2
            have f1 : wsh.frozen? ⟨wdh.heap.size, 1, none⟩ = false := (boxG fb 1).2
            have f2 : wsh.frozen? ⟨wdh.heap.size, 2, none⟩ = false := (boxG fb 2).2
            have FIN0 : w21.heap.size ≤ wdh.heap.size ∧ wdh.heap.size < (((wsh.setCell ⟨wdh.heap.size, 0, none⟩ (.bool s0)).setCell ⟨wdh.heap.size, 1, none⟩ (.slice sa ps.length sc)).setCell ⟨wdh.heap.size, 2, none⟩ (.slice sb qs.length sd)).heap.size ∧ (((wsh.setCell ⟨wdh.heap.size, 0, none⟩ (.bool s0)).setCell ⟨wdh.heap.size, 1, none⟩ (.slice sa ps.length sc)).setCell ⟨wdh.heap.size, 2, none⟩ (.slice sb qs.length sd)).heap[wdh.heap.size]? = some (.cells #[.bool s0, .slice sa ps.length sc, .slice sb qs.length sd] 26 (0, 0)) ∧ SlAt intR (fun b => w21.heap.size ≤ b ∧ b ≠ wdh.heap.size) (((wsh.setCell ⟨wdh.heap.size, 0, none⟩ (.bool s0)).setCell ⟨wdh.heap.size, 1, none⟩ (.slice sa ps.length sc)).setCell ⟨wdh.heap.size, 2, none⟩ (.slice sb qs.length sd)) sa ps.length ps ∧ SlAt intR (fun b => w21.heap.size ≤ b ∧ b ≠ wdh.heap.size) (((wsh.setCell ⟨wdh.heap.size, 0, none⟩ (.bool s0)).setCell ⟨wdh.heap.size, 1, none⟩ (.slice sa ps.length sc)).setCell ⟨wdh.heap.size, 2, none⟩ (.slice sb qs.length sd)) sb qs.length qs ∧ Below w21.heap.size w21 (((wsh.setCell ⟨wdh.heap.size, 0, none⟩ (.bool s0)).setCell ⟨wdh.heap.size, 1, none⟩ (.slice sa ps.length sc)).setCell ⟨wdh.heap.size, 2, none⟩ (.slice sb qs.length sd)) := by
              refine ⟨lX, by simp only [World.size_setCell]; exact fbl, boxS (boxS (boxS fb 0 _) 1 _) 2 _, ((((SlAt.mono (FJ.out wsh (Below.refl _ _)).1 (E := fun b => w21.heap.size ≤ b ∧ b ≠ wdh.heap.size) (fun b hb _ => ⟨by omega, by omega⟩))).set ⟨wdh.heap.size, 0, none⟩ (.bool s0) (by simp)).set ⟨wdh.heap.size, 1, none⟩ (.slice sa ps.length sc) (by simp)).set ⟨wdh.heap.size, 2, none⟩ (.slice sb qs.length sd) (by simp), ((((SlAt.mono (FJ.out wsh (Below.refl _ _)).2 (E := fun b => w21.heap.size ≤ b ∧ b ≠ wdh.heap.size) (fun b hb _ => ⟨by omega, by omega⟩))).set ⟨wdh.heap.size, 0, none⟩ (.bool s0) (by simp)).set ⟨wdh.heap.size, 1, none⟩ (.slice sa ps.length sc) (by simp)).set ⟨wdh.heap.size, 2, none⟩ (.slice sb qs.length sd) (by simp), ((D5.out.setCell lX _).setCell lX _).setCell lX _⟩
            have FIN : Hid (w21.heap.size ≤ wdh.heap.size ∧ wdh.heap.size < (((wsh.setCell ⟨wdh.heap.size, 0, none⟩ (.bool s0)).setCell ⟨wdh.heap.size, 1, none⟩ (.slice sa ps.length sc)).setCell ⟨wdh.heap.size, 2, none⟩ (.slice sb qs.length sd)).heap.size ∧ (((wsh.setCell ⟨wdh.heap.size, 0, none⟩ (.bool s0)).setCell ⟨wdh.heap.size, 1, none⟩ (.slice sa ps.length sc)).setCell ⟨wdh.heap.size, 2, none⟩ (.slice sb qs.length sd)).heap[wdh.heap.size]? = some (.cells #[.bool s0, .slice sa ps.length sc, .slice sb qs.length sd] 26 (0, 0)) ∧ SlAt intR (fun b => w21.heap.size ≤ b ∧ b ≠ wdh.heap.size) (((wsh.setCell ⟨wdh.heap.size, 0, none⟩ (.bool s0)).setCell ⟨wdh.heap.size, 1, none⟩ (.slice sa ps.length sc)).setCell ⟨wdh.heap.size, 2, none⟩ (.slice sb qs.length sd)) sa ps.length ps ∧ SlAt intR (fun b => w21.heap.size ≤ b ∧ b ≠ wdh.heap.size) (((wsh.setCell ⟨wdh.heap.size, 0, none⟩ (.bool s0)).setCell ⟨wdh.heap.size, 1, none⟩ (.slice sa ps.length sc)).setCell ⟨wdh.heap.size, 2, none⟩ (.slice sb qs.length sd)) sb qs.length qs ∧ Below w21.heap.size w21 (((wsh.setCell ⟨wdh.heap.size, 0, none⟩ (.bool s0)).setCell ⟨wdh.heap.size, 1, none⟩ (.slice sa ps.length sc)).setCell ⟨wdh.heap.size, 2, none⟩ (.slice sb qs.length sd))) := FIN0
            clear FIN0
            go_simp
            refine hK.out _ _ ?_ (fun hHeld7 => ?_)
            · exact KS.out _ FIN.out.2.2.2.2.2
            clear hK K
            try simp only [Act.put, List.getElem_toArray, List.getElem_cons_zero, List.getElem_cons_succ, List.setIfInBounds_toArray, List.set_cons_zero, List.set_cons_succ]
            refine wpAnyH_done (by kernel_rfl) ?_ _
            clear hHeld hHeld2 hHeld3 hHeld4 hHeld5 hHeld6 hHeld7
            go_wp2_with fail
            go_meet
            exact ⟨_, _, _, _, _, rfl, FIN.out⟩
        · go_simp
          replace FL : Hid (∀ y, Below (wbh.alloc (.cells #[.bool false, .slice none 0 0, .slice none 0 0] 26)).heap.size (wbh.alloc (.cells #[.bool false, .slice none 0 0, .slice none 0 0] 26)) y → SlAt clR (fun _ => True) y ga cn L) := fun y hy => FL.out y (Below.trans ((Below.refl wbh.heap.size wbh).alloc (Nat.le_refl _) _) (hy.mono (Below.size ((Below.refl wbh.heap.size wbh).alloc (Nat.le_refl _) _))))
          replace FU : Hid (∀ y, Below (wbh.alloc (.cells #[.bool false, .slice none 0 0, .slice none 0 0] 26)).heap.size (wbh.alloc (.cells #[.bool false, .slice none 0 0, .slice none 0 0] 26)) y → SlAt intR (fun _ => True) y pa1 ll us) := fun y hy => FU.out y (Below.trans ((Below.refl wbh.heap.size wbh).alloc (Nat.le_refl _) _) (hy.mono (Below.size ((Below.refl wbh.heap.size wbh).alloc (Nat.le_refl _) _))))
          replace FV : Hid (∀ y, Below (wbh.alloc (.cells #[.bool false, .slice none 0 0, .slice none 0 0] 26)).heap.size (wbh.alloc (.cells #[.bool false, .slice none 0 0, .slice none 0 0] 26)) y → SlAt intR (fun _ => True) y pa2 kl vs) := fun y hy => FV.out y (Below.trans ((Below.refl wbh.heap.size wbh).alloc (Nat.le_refl _) _) (hy.mono (Below.size ((Below.refl wbh.heap.size wbh).alloc (Nat.le_refl _) _))))
          have D3 : Hid (Below w21.heap.size w21 (wbh.alloc (.cells #[.bool false, .slice none 0 0, .slice none 0 0] 26))) := D2.out.trans (Below.mono ((Below.refl wbh.heap.size wbh).alloc (Nat.le_refl _) _) D2.out.size)
          have lX : w21.heap.size ≤ wbh.heap.size := by have := D2.out.size; first | exact this | (simp at this; omega)
          have FB : Hid (∀ y, Below (wbh.alloc (.cells #[.bool false, .slice none 0 0, .slice none 0 0] 26)).heap.size (wbh.alloc (.cells #[.bool false, .slice none 0 0, .slice none 0 0] 26)) y → y.heap[wbh.heap.size]? = some (.cells #[.bool false, .slice none 0 0, .slice none 0 0] 26 (0, 0)) ∧ wbh.heap.size < y.heap.size) := fun y hy => ⟨(hy.block _ (by simp)).trans (boxN _ _ _ _ (by simp)), Nat.lt_of_lt_of_le (by simp) hy.size⟩
          refine hK.out _ _ (KS.out _ D3.out) (fun hHeld4 => ?_)
          clear hK K
          try simp only [Act.put, List.getElem_toArray, List.getElem_cons_zero, List.getElem_cons_succ, List.setIfInBounds_toArray, List.set_cons_zero, List.set_cons_succ]
          refine wpAnyH_ready (rs := [5]) (by kernel_rfl) (by simp) ?_
          refine AllReadyH.cons rfl (fun K hK => ?_) AllReadyH.nil
          go_simp
          go_at_call 13
          refine (toRShape _ _ _ _ _ _ _ xs ys _ (HX.out.later (B.out _ D3.out)) SX.out (HY.out.later (B.out _ D3.out)) SY.out).mono ?_
          rintro e wdh ⟨qa1, qc1, qa2, qc2, rfl, h1, h2, hb⟩
          replace FL : Hid (∀ y, Below wdh.heap.size wdh y → SlAt clR (fun _ => True) y ga cn L) := fun y hy => FL.out y (Below.trans (hb) (hy.mono (Below.size (hb))))
          replace FU : Hid (∀ y, Below wdh.heap.size wdh y → SlAt intR (fun _ => True) y pa1 ll us) := fun y hy => FU.out y (Below.trans (hb) (hy.mono (Below.size (hb))))
          replace FV : Hid (∀ y, Below wdh.heap.size wdh y → SlAt intR (fun _ => True) y pa2 kl vs) := fun y hy => FV.out y (Below.trans (hb) (hy.mono (Below.size (hb))))
          replace FB : Hid (∀ y, Below wdh.heap.size wdh y → y.heap[wbh.heap.size]? = some (.cells #[.bool false, .slice none 0 0, .slice none 0 0] 26 (0, 0)) ∧ wbh.heap.size < y.heap.size) := fun y hy => FB.out y (Below.trans (hb) (hy.mono (Below.size (hb))))
          have D4 : Hid (Below w21.heap.size w21 wdh) := D3.out.trans (Below.mono (hb) D3.out.size)
          have FX : Hid (∀ y, Below wdh.heap.size wdh y → SlAt intR (fun _ => True) y qa1 ml xs) := fun y hy => (h1.mono (fun _ _ _ => trivial)).later hy
          have FY : Hid (∀ y, Below wdh.heap.size wdh y → SlAt intR (fun _ => True) y qa2 nl ys) := fun y hy => (h2.mono (fun _ _ _ => trivial)).later hy
          have zz4 : wbh.heap.size + 1 ≤ wdh.heap.size := by have := hb.size; simpa using this
          clear hb h1 h2
          go_wp2_with fail
          refine hK.out _ _ (KS.out _ D4.out) (fun hHeld5 => ?_)
          clear hK K
          try simp only [Act.put, List.getElem_toArray, List.getElem_cons_zero, List.getElem_cons_succ, List.setIfInBounds_toArray, List.set_cons_zero, List.set_cons_succ]
          refine wpAnyH_ready (rs := [6]) (by kernel_rfl) (by simp) ?_
          refine AllReadyH.cons rfl (fun K hK => ?_) AllReadyH.nil
          go_simp
          go_at_call 6
          refine (shapeJoinImpl _ _ _ _ _ _ _ _ _ _ _ _ _ _ _ _ _ us vs xs ys ea L _ (FL.out _ (Below.refl _ _)).cls (FU.out _ (Below.refl _ _)).ints (FV.out _ (Below.refl _ _)).ints (FX.out _ (Below.refl _ _)).ints (FY.out _ (Below.refl _ _)).ints hll hkl (HG.out _ (B.out _ D4.out))).mono ?_
          intro e wsh hP
          rw [HJ.out] at hP
          obtain ⟨sa, n1, sc, sb, n2, sd, rfl, e1, e2, _, _, _, _, hw1, hw2, hl1, hl2, _, hb⟩ := hP
          obtain rfl : ps.length = n1 := e1
          obtain rfl : qs.length = n2 := e2
          replace FL : Hid (∀ y, Below wsh.heap.size wsh y → SlAt clR (fun _ => True) y ga cn L) := fun y hy => FL.out y (Below.trans (hb) (hy.mono (Below.size (hb))))
          replace FU : Hid (∀ y, Below wsh.heap.size wsh y → SlAt intR (fun _ => True) y pa1 ll us) := fun y hy => FU.out y (Below.trans (hb) (hy.mono (Below.size (hb))))
          replace FV : Hid (∀ y, Below wsh.heap.size wsh y → SlAt intR (fun _ => True) y pa2 kl vs) := fun y hy => FV.out y (Below.trans (hb) (hy.mono (Below.size (hb))))
          replace FB : Hid (∀ y, Below wsh.heap.size wsh y → y.heap[wbh.heap.size]? = some (.cells #[.bool false, .slice none 0 0, .slice none 0 0] 26 (0, 0)) ∧ wbh.heap.size < y.heap.size) := fun y hy => FB.out y (Below.trans (hb) (hy.mono (Below.size (hb))))
          replace FX : Hid (∀ y, Below wsh.heap.size wsh y → SlAt intR (fun _ => True) y qa1 ml xs) := fun y hy => FX.out y (Below.trans (hb) (hy.mono (Below.size (hb))))
          replace FY : Hid (∀ y, Below wsh.heap.size wsh y → SlAt intR (fun _ => True) y qa2 nl ys) := fun y hy => FY.out y (Below.trans (hb) (hy.mono (Below.size (hb))))
          have D5 : Hid (Below w21.heap.size w21 wsh) := D4.out.trans (Below.mono (hb) D4.out.size)
          have FJ : Hid (∀ y, Below wsh.heap.size wsh y → SlAt intR (fun b => wdh.heap.size ≤ b ∧ b < wsh.heap.size) y sa ps.length ps ∧ SlAt intR (fun b => wdh.heap.size ≤ b ∧ b < wsh.heap.size) y sb qs.length qs) := fun y hy => ⟨(wriSl hw1 rfl hn1 FP.out (fun x hx hp => by have := hl1 x hx hp; simpa using this)).later hy, (wriSl hw2 rfl hn2 FQ.out (fun x hx hp => by have := hl2 x hx hp; simpa using this)).later hy⟩
          have zs : wdh.heap.size ≤ wsh.heap.size := by have := hb.size; simpa using this
          have lS : w21.heap.size ≤ wdh.heap.size := by have := D4.out.size; first | exact this | (simp at this; omega)
          clear hb hw1 hw2 hl1 hl2
          go_wp2_with fail
          refine hK.out _ _ (KS.out _ D5.out) (fun hHeld6 => ?_)
          clear hK K
          try simp only [Act.put, List.getElem_toArray, List.getElem_cons_zero, List.getElem_cons_succ, List.setIfInBounds_toArray, List.set_cons_zero, List.set_cons_succ]
          refine wpAnyH_ready (rs := [8]) (by kernel_rfl) (by simp) ?_
          refine AllReadyH.cons rfl (fun K hK => ?_) AllReadyH.nil
          obtain ⟨fb, fbl⟩ := FB.out wsh (Below.refl _ _)
          have z0 : wsh.cell? ⟨wbh.heap.size, 0, none⟩ = some (.bool false) := (boxG fb 0).1
          have z1 : wsh.cell? ⟨wbh.heap.size, 1, none⟩ = some (.slice none 0 0) := (boxG fb 1).1
          have z2 : wsh.cell? ⟨wbh.heap.size, 2, none⟩ = some (.slice none 0 0) := (boxG fb 2).1
          have f0 : wsh.frozen? ⟨wbh.heap.size, 0, none⟩ = false := (boxG fb 0).2
          have f1 : wsh.frozen? ⟨wbh.heap.size, 1, none⟩ = false := (boxG fb 1).2
          have f2 : wsh.frozen? ⟨wbh.heap.size, 2, none⟩ = false := (boxG fb 2).2
          have FIN0 : w21.heap.size ≤ wbh.heap.size ∧ wbh.heap.size < (((wsh.setCell ⟨wbh.heap.size, 0, none⟩ (.bool s0)).setCell ⟨wbh.heap.size, 1, none⟩ (.slice sa ps.length sc)).setCell ⟨wbh.heap.size, 2, none⟩ (.slice sb qs.length sd)).heap.size ∧ (((wsh.setCell ⟨wbh.heap.size, 0, none⟩ (.bool s0)).setCell ⟨wbh.heap.size, 1, none⟩ (.slice sa ps.length sc)).setCell ⟨wbh.heap.size, 2, none⟩ (.slice sb qs.length sd)).heap[wbh.heap.size]? = some (.cells #[.bool s0, .slice sa ps.length sc, .slice sb qs.length sd] 26 (0, 0)) ∧ SlAt intR (fun b => w21.heap.size ≤ b ∧ b ≠ wbh.heap.size) (((wsh.setCell ⟨wbh.heap.size, 0, none⟩ (.bool s0)).setCell ⟨wbh.heap.size, 1, none⟩ (.slice sa ps.length sc)).setCell ⟨wbh.heap.size, 2, none⟩ (.slice sb qs.length sd)) sa ps.length ps ∧ SlAt intR (fun b => w21.heap.size ≤ b ∧ b ≠ wbh.heap.size) (((wsh.setCell ⟨wbh.heap.size, 0, none⟩ (.bool s0)).setCell ⟨wbh.heap.size, 1, none⟩ (.slice sa ps.length sc)).setCell ⟨wbh.heap.size, 2, none⟩ (.slice sb qs.length sd)) sb qs.length qs ∧ Below w21.heap.size w21 (((wsh.setCell ⟨wbh.heap.size, 0, none⟩ (.bool s0)).setCell ⟨wbh.heap.size, 1, none⟩ (.slice sa ps.length sc)).setCell ⟨wbh.heap.size, 2, none⟩ (.slice sb qs.length sd)) := by
            refine ⟨lX, by simp only [World.size_setCell]; exact fbl, boxS (boxS (boxS fb 0 _) 1 _) 2 _, ((((SlAt.mono (FJ.out wsh (Below.refl _ _)).1 (E := fun b => w21.heap.size ≤ b ∧ b ≠ wbh.heap.size) (fun b hb _ => ⟨by omega, by omega⟩))).set ⟨wbh.heap.size, 0, none⟩ (.bool s0) (by simp)).set ⟨wbh.heap.size, 1, none⟩ (.slice sa ps.length sc) (by simp)).set ⟨wbh.heap.size, 2, none⟩ (.slice sb qs.length sd) (by simp), ((((SlAt.mono (FJ.out wsh (Below.refl _ _)).2 (E := fun b => w21.heap.size ≤ b ∧ b ≠ wbh.heap.size) (fun b hb _ => ⟨by omega, by omega⟩))).set ⟨wbh.heap.size, 0, none⟩ (.bool s0) (by simp)).set ⟨wbh.heap.size, 1, none⟩ (.slice sa ps.length sc) (by simp)).set ⟨wbh.heap.size, 2, none⟩ (.slice sb qs.length sd) (by simp), ((D5.out.setCell lX _).setCell lX _).setCell lX _⟩
          have FIN : Hid (w21.heap.size ≤ wbh.heap.size ∧ wbh.heap.size < (((wsh.setCell ⟨wbh.heap.size, 0, none⟩ (.bool s0)).setCell ⟨wbh.heap.size, 1, none⟩ (.slice sa ps.length sc)).setCell ⟨wbh.heap.size, 2, none⟩ (.slice sb qs.length sd)).heap.size ∧ (((wsh.setCell ⟨wbh.heap.size, 0, none⟩ (.bool s0)).setCell ⟨wbh.heap.size, 1, none⟩ (.slice sa ps.length sc)).setCell ⟨wbh.heap.size, 2, none⟩ (.slice sb qs.length sd)).heap[wbh.heap.size]? = some (.cells #[.bool s0, .slice sa ps.length sc, .slice sb qs.length sd] 26 (0, 0)) ∧ SlAt intR (fun b => w21.heap.size ≤ b ∧ b ≠ wbh.heap.size) (((wsh.setCell ⟨wbh.heap.size, 0, none⟩ (.bool s0)).setCell ⟨wbh.heap.size, 1, none⟩ (.slice sa ps.length sc)).setCell ⟨wbh.heap.size, 2, none⟩ (.slice sb qs.length sd)) sa ps.length ps ∧ SlAt intR (fun b => w21.heap.size ≤ b ∧ b ≠ wbh.heap.size) (((wsh.setCell ⟨wbh.heap.size, 0, none⟩ (.bool s0)).setCell ⟨wbh.heap.size, 1, none⟩ (.slice sa ps.length sc)).setCell ⟨wbh.heap.size, 2, none⟩ (.slice sb qs.length sd)) sb qs.length qs ∧ Below w21.heap.size w21 (((wsh.setCell ⟨wbh.heap.size, 0, none⟩ (.bool s0)).setCell ⟨wbh.heap.size, 1, none⟩ (.slice sa ps.length sc)).setCell ⟨wbh.heap.size, 2, none⟩ (.slice sb qs.length sd))) := FIN0
          clear FIN0
          go_simp
          refine hK.out _ _ ?_ (fun hHeld7 => ?_)
          · exact KS.out _ FIN.out.2.2.2.2.2
          clear hK K
          try simp only [Act.put, List.getElem_toArray, List.getElem_cons_zero, List.getElem_cons_succ, List.setIfInBounds_toArray, List.set_cons_zero, List.set_cons_succ]
          refine wpAnyH_done (by kernel_rfl) ?_ _
          clear hHeld hHeld2 hHeld3 hHeld4 hHeld5 hHeld6 hHeld7
          go_wp2_with fail
          go_meet
          exact ⟨_, _, _, _, _, rfl, FIN.out⟩
      · go_simp
        replace FL : Hid (∀ y, Below (wah.alloc (.cells #[.bool false, .slice none 0 0, .slice none 0 0] 26)).heap.size (wah.alloc (.cells #[.bool false, .slice none 0 0, .slice none 0 0] 26)) y → SlAt clR (fun _ => True) y ga cn L) := fun y hy => FL.out y (Below.trans ((Below.refl wah.heap.size wah).alloc (Nat.le_refl _) _) (hy.mono (Below.size ((Below.refl wah.heap.size wah).alloc (Nat.le_refl _) _))))
        have D2 : Hid (Below w21.heap.size w21 (wah.alloc (.cells #[.bool false, .slice none 0 0, .slice none 0 0] 26))) := D1.out.trans (Below.mono ((Below.refl wah.heap.size wah).alloc (Nat.le_refl _) _) D1.out.size)
        have lX : w21.heap.size ≤ wah.heap.size := by have := D1.out.size; first | exact this | (simp at this; omega)
        have FB : Hid (∀ y, Below (wah.alloc (.cells #[.bool false, .slice none 0 0, .slice none 0 0] 26)).heap.size (wah.alloc (.cells #[.bool false, .slice none 0 0, .slice none 0 0] 26)) y → y.heap[wah.heap.size]? = some (.cells #[.bool false, .slice none 0 0, .slice none 0 0] 26 (0, 0)) ∧ wah.heap.size < y.heap.size) := fun y hy => ⟨(hy.block _ (by simp)).trans (boxN _ _ _ _ (by simp)), Nat.lt_of_lt_of_le (by simp) hy.size⟩
        refine hK.out _ _ (KS.out _ D2.out) (fun hHeld3 => ?_)
        clear hK K
        try simp only [Act.put, List.getElem_toArray, List.getElem_cons_zero, List.getElem_cons_succ, List.setIfInBounds_toArray, List.set_cons_zero, List.set_cons_succ]
        refine wpAnyH_ready (rs := [3]) (by kernel_rfl) (by simp) ?_
        refine AllReadyH.cons rfl (fun K hK => ?_) AllReadyH.nil
        go_simp
        go_at_call 13
        refine (toRShape _ _ _ _ _ _ _ us vs _ (HU.out.later (B.out _ D2.out)) SU.out (HV.out.later (B.out _ D2.out)) SV.out).mono ?_
        rintro e wbh ⟨pa1, pc1, pa2, pc2, rfl, h1, h2, hb⟩
        replace FL : Hid (∀ y, Below wbh.heap.size wbh y → SlAt clR (fun _ => True) y ga cn L) := fun y hy => FL.out y (Below.trans (hb) (hy.mono (Below.size (hb))))
        replace FB : Hid (∀ y, Below wbh.heap.size wbh y → y.heap[wah.heap.size]? = some (.cells #[.bool false, .slice none 0 0, .slice none 0 0] 26 (0, 0)) ∧ wah.heap.size < y.heap.size) := fun y hy => FB.out y (Below.trans (hb) (hy.mono (Below.size (hb))))
        have D3 : Hid (Below w21.heap.size w21 wbh) := D2.out.trans (Below.mono (hb) D2.out.size)
        have FU : Hid (∀ y, Below wbh.heap.size wbh y → SlAt intR (fun _ => True) y pa1 ll us) := fun y hy => (h1.mono (fun _ _ _ => trivial)).later hy
        have FV : Hid (∀ y, Below wbh.heap.size wbh y → SlAt intR (fun _ => True) y pa2 kl vs) := fun y hy => (h2.mono (fun _ _ _ => trivial)).later hy
        have zz3 : wah.heap.size + 1 ≤ wbh.heap.size := by have := hb.size; simpa using this
        clear hb h1 h2
        go_wp2_with fail
        refine hK.out _ _ (KS.out _ D3.out) (fun hHeld4 => ?_)
        clear hK K
        try simp only [Act.put, List.getElem_toArray, List.getElem_cons_zero, List.getElem_cons_succ, List.setIfInBounds_toArray, List.set_cons_zero, List.set_cons_succ]
        refine wpAnyH_ready (rs := [5]) (by kernel_rfl) (by simp) ?_
        refine AllReadyH.cons rfl (fun K hK => ?_) AllReadyH.nil
        go_simp
        go_at_call 13
        refine (toRShape _ _ _ _ _ _ _ xs ys _ (HX.out.later (B.out _ D3.out)) SX.out (HY.out.later (B.out _ D3.out)) SY.out).mono ?_
        rintro e wdh ⟨qa1, qc1, qa2, qc2, rfl, h1, h2, hb⟩
        replace FL : Hid (∀ y, Below wdh.heap.size wdh y → SlAt clR (fun _ => True) y ga cn L) := fun y hy => FL.out y (Below.trans (hb) (hy.mono (Below.size (hb))))
        replace FB : Hid (∀ y, Below wdh.heap.size wdh y → y.heap[wah.heap.size]? = some (.cells #[.bool false, .slice none 0 0, .slice none 0 0] 26 (0, 0)) ∧ wah.heap.size < y.heap.size) := fun y hy => FB.out y (Below.trans (hb) (hy.mono (Below.size (hb))))
        replace FU : Hid (∀ y, Below wdh.heap.size wdh y → SlAt intR (fun _ => True) y pa1 ll us) := fun y hy => FU.out y (Below.trans (hb) (hy.mono (Below.size (hb))))
        replace FV : Hid (∀ y, Below wdh.heap.size wdh y → SlAt intR (fun _ => True) y pa2 kl vs) := fun y hy => FV.out y (Below.trans (hb) (hy.mono (Below.size (hb))))
        have D4 : Hid (Below w21.heap.size w21 wdh) := D3.out.trans (Below.mono (hb) D3.out.size)
        have FX : Hid (∀ y, Below wdh.heap.size wdh y → SlAt intR (fun _ => True) y qa1 ml xs) := fun y hy => (h1.mono (fun _ _ _ => trivial)).later hy
        have FY : Hid (∀ y, Below wdh.heap.size wdh y → SlAt intR (fun _ => True) y qa2 nl ys) := fun y hy => (h2.mono (fun _ _ _ => trivial)).later hy
        have zz4 : wbh.heap.size ≤ wdh.heap.size := by have := hb.size; simpa using this
        clear hb h1 h2
        go_wp2_with fail
        refine hK.out _ _ (KS.out _ D4.out) (fun hHeld5 => ?_)
        clear hK K
        try simp only [Act.put, List.getElem_toArray, List.getElem_cons_zero, List.getElem_cons_succ, List.setIfInBounds_toArray, List.set_cons_zero, List.set_cons_succ]
        refine wpAnyH_ready (rs := [6]) (by kernel_rfl) (by simp) ?_
        refine AllReadyH.cons rfl (fun K hK => ?_) AllReadyH.nil
        go_simp
        go_at_call 6
        refine (shapeJoinImpl _ _ _ _ _ _ _ _ _ _ _ _ _ _ _ _ _ us vs xs ys ea L _ (FL.out _ (Below.refl _ _)).cls (FU.out _ (Below.refl _ _)).ints (FV.out _ (Below.refl _ _)).ints (FX.out _ (Below.refl _ _)).ints (FY.out _ (Below.refl _ _)).ints hll hkl (HG.out _ (B.out _ D4.out))).mono ?_
        intro e wsh hP
        rw [HJ.out] at hP
        obtain ⟨sa, n1, sc, sb, n2, sd, rfl, e1, e2, _, _, _, _, hw1, hw2, hl1, hl2, _, hb⟩ := hP
        obtain rfl : ps.length = n1 := e1
        obtain rfl : qs.length = n2 := e2
        replace FL : Hid (∀ y, Below wsh.heap.size wsh y → SlAt clR (fun _ => True) y ga cn L) := fun y hy => FL.out y (Below.trans (hb) (hy.mono (Below.size (hb))))
        replace FB : Hid (∀ y, Below wsh.heap.size wsh y → y.heap[wah.heap.size]? = some (.cells #[.bool false, .slice none 0 0, .slice none 0 0] 26 (0, 0)) ∧ wah.heap.size < y.heap.size) := fun y hy => FB.out y (Below.trans (hb) (hy.mono (Below.size (hb))))
        replace FU : Hid (∀ y, Below wsh.heap.size wsh y → SlAt intR (fun _ => True) y pa1 ll us) := fun y hy => FU.out y (Below.trans (hb) (hy.mono (Below.size (hb))))
        replace FV : Hid (∀ y, Below wsh.heap.size wsh y → SlAt intR (fun _ => True) y pa2 kl vs) := fun y hy => FV.out y (Below.trans (hb) (hy.mono (Below.size (hb))))
        replace FX : Hid (∀ y, Below wsh.heap.size wsh y → SlAt intR (fun _ => True) y qa1 ml xs) := fun y hy => FX.out y (Below.trans (hb) (hy.mono (Below.size (hb))))
        replace FY : Hid (∀ y, Below wsh.heap.size wsh y → SlAt intR (fun _ => True) y qa2 nl ys) := fun y hy => FY.out y (Below.trans (hb) (hy.mono (Below.size (hb))))
        have D5 : Hid (Below w21.heap.size w21 wsh) := D4.out.trans (Below.mono (hb) D4.out.size)
        have FJ : Hid (∀ y, Below wsh.heap.size wsh y → SlAt intR (fun b => wdh.heap.size ≤ b ∧ b < wsh.heap.size) y sa ps.length ps ∧ SlAt intR (fun b => wdh.heap.size ≤ b ∧ b < wsh.heap.size) y sb qs.length qs) := fun y hy => ⟨(wriSl hw1 rfl hn1 FP.out (fun x hx hp => by have := hl1 x hx hp; simpa using this)).later hy, (wriSl hw2 rfl hn2 FQ.out (fun x hx hp => by have := hl2 x hx hp; simpa using this)).later hy⟩
        have zs : wdh.heap.size ≤ wsh.heap.size := by have := hb.size; simpa using this
        have lS : w21.heap.size ≤ wdh.heap.size := by have := D4.out.size; first | exact this | (simp at this; omega)
        clear hb hw1 hw2 hl1 hl2
        go_wp2_with fail
        refine hK.out _ _ (KS.out _ D5.out) (fun hHeld6 => ?_)
        clear hK K
        try simp only [Act.put, List.getElem_toArray, List.getElem_cons_zero, List.getElem_cons_succ, List.setIfInBounds_toArray, List.set_cons_zero, List.set_cons_succ]
        refine wpAnyH_ready (rs := [8]) (by kernel_rfl) (by simp) ?_
        refine AllReadyH.cons rfl (fun K hK => ?_) AllReadyH.nil
        obtain ⟨fb, fbl⟩ := FB.out wsh (Below.refl _ _)
        have z0 : wsh.cell? ⟨wah.heap.size, 0, none⟩ = some (.bool false) := (boxG fb 0).1
        have z1 : wsh.cell? ⟨wah.heap.size, 1, none⟩ = some (.slice none 0 0) := (boxG fb 1).1
        have z2 : wsh.cell? ⟨wah.heap.size, 2, none⟩ = some (.slice none 0 0) := (boxG fb 2).1
        have f0 : wsh.frozen? ⟨wah.heap.size, 0, none⟩ = false := (boxG fb 0).2
        have f1 : wsh.frozen? ⟨wah.heap.size, 1, none⟩ = false := (boxG fb 1).2
        have f2 : wsh.frozen? ⟨wah.heap.size, 2, none⟩ = false := (boxG fb 2).2
        have FIN0 : w21.heap.size ≤ wah.heap.size ∧ wah.heap.size < (((wsh.setCell ⟨wah.heap.size, 0, none⟩ (.bool s0)).setCell ⟨wah.heap.size, 1, none⟩ (.slice sa ps.length sc)).setCell ⟨wah.heap.size, 2, none⟩ (.slice sb qs.length sd)).heap.size ∧ (((wsh.setCell ⟨wah.heap.size, 0, none⟩ (.bool s0)).setCell ⟨wah.heap.size, 1, none⟩ (.slice sa ps.length sc)).setCell ⟨wah.heap.size, 2, none⟩ (.slice sb qs.length sd)).heap[wah.heap.size]? = some (.cells #[.bool s0, .slice sa ps.length sc, .slice sb qs.length sd] 26 (0, 0)) ∧ SlAt intR (fun b => w21.heap.size ≤ b ∧ b ≠ wah.heap.size) (((wsh.setCell ⟨wah.heap.size, 0, none⟩ (.bool s0)).setCell ⟨wah.heap.size, 1, none⟩ (.slice sa ps.length sc)).setCell ⟨wah.heap.size, 2, none⟩ (.slice sb qs.length sd)) sa ps.length ps ∧ SlAt intR (fun b => w21.heap.size ≤ b ∧ b ≠ wah.heap.size) (((wsh.setCell ⟨wah.heap.size, 0, none⟩ (.bool s0)).setCell ⟨wah.heap.size, 1, none⟩ (.slice sa ps.length sc)).setCell ⟨wah.heap.size, 2, none⟩ (.slice sb qs.length sd)) sb qs.length qs ∧ Below w21.heap.size w21 (((wsh.setCell ⟨wah.heap.size, 0, none⟩ (.bool s0)).setCell ⟨wah.heap.size, 1, none⟩ (.slice sa ps.length sc)).setCell ⟨wah.heap.size, 2, none⟩ (.slice sb qs.length sd)) := by
          refine ⟨lX, by simp only [World.size_setCell]; exact fbl, boxS (boxS (boxS fb 0 _) 1 _) 2 _, ((((SlAt.mono (FJ.out wsh (Below.refl _ _)).1 (E := fun b => w21.heap.size ≤ b ∧ b ≠ wah.heap.size) (fun b hb _ => ⟨by omega, by omega⟩))).set ⟨wah.heap.size, 0, none⟩ (.bool s0) (by simp)).set ⟨wah.heap.size, 1, none⟩ (.slice sa ps.length sc) (by simp)).set ⟨wah.heap.size, 2, none⟩ (.slice sb qs.length sd) (by simp), ((((SlAt.mono (FJ.out wsh (Below.refl _ _)).2 (E := fun b => w21.heap.size ≤ b ∧ b ≠ wah.heap.size) (fun b hb _ => ⟨by omega, by omega⟩))).set ⟨wah.heap.size, 0, none⟩ (.bool s0) (by simp)).set ⟨wah.heap.size, 1, none⟩ (.slice sa ps.length sc) (by simp)).set ⟨wah.heap.size, 2, none⟩ (.slice sb qs.length sd) (by simp), ((D5.out.setCell lX _).setCell lX _).setCell lX _⟩
        have FIN : Hid (w21.heap.size ≤ wah.heap.size ∧ wah.heap.size < (((wsh.setCell ⟨wah.heap.size, 0, none⟩ (.bool s0)).setCell ⟨wah.heap.size, 1, none⟩ (.slice sa ps.length sc)).setCell ⟨wah.heap.size, 2, none⟩ (.slice sb qs.length sd)).heap.size ∧ (((wsh.setCell ⟨wah.heap.size, 0, none⟩ (.bool s0)).setCell ⟨wah.heap.size, 1, none⟩ (.slice sa ps.length sc)).setCell ⟨wah.heap.size, 2, none⟩ (.slice sb qs.length sd)).heap[wah.heap.size]? = some (.cells #[.bool s0, .slice sa ps.length sc, .slice sb qs.length sd] 26 (0, 0)) ∧ SlAt intR (fun b => w21.heap.size ≤ b ∧ b ≠ wah.heap.size) (((wsh.setCell ⟨wah.heap.size, 0, none⟩ (.bool s0)).setCell ⟨wah.heap.size, 1, none⟩ (.slice sa ps.length sc)).setCell ⟨wah.heap.size, 2, none⟩ (.slice sb qs.length sd)) sa ps.length ps ∧ SlAt intR (fun b => w21.heap.size ≤ b ∧ b ≠ wah.heap.size) (((wsh.setCell ⟨wah.heap.size, 0, none⟩ (.bool s0)).setCell ⟨wah.heap.size, 1, none⟩ (.slice sa ps.length sc)).setCell ⟨wah.heap.size, 2, none⟩ (.slice sb qs.length sd)) sb qs.length qs ∧ Below w21.heap.size w21 (((wsh.setCell ⟨wah.heap.size, 0, none⟩ (.bool s0)).setCell ⟨wah.heap.size, 1, none⟩ (.slice sa ps.length sc)).setCell ⟨wah.heap.size, 2, none⟩ (.slice sb qs.length sd))) := FIN0
        clear FIN0
        go_simp
        refine hK.out _ _ ?_ (fun hHeld7 => ?_)
        · exact KS.out _ FIN.out.2.2.2.2.2
        clear hK K
        try simp only [Act.put, List.getElem_toArray, List.getElem_cons_zero, List.getElem_cons_succ, List.setIfInBounds_toArray, List.set_cons_zero, List.set_cons_succ]
        refine wpAnyH_done (by kernel_rfl) ?_ _
        clear hHeld hHeld2 hHeld3 hHeld4 hHeld5 hHeld6 hHeld7
        go_wp2_with fail
        go_meet
        exact ⟨_, _, _, _, _, rfl, FIN.out⟩
    · go_simp
      have D1 : Hid (Below w21.heap.size w21 ((w21.drewN 1).alloc (.cells #[.bool false, .slice none 0 0, .slice none 0 0] 26))) := D0.out.trans (Below.mono ((Below.refl (w21.drewN 1).heap.size (w21.drewN 1)).alloc (Nat.le_refl _) _) D0.out.size)
      have lX : w21.heap.size ≤ w21.heap.size := by have := D0.out.size; first | exact this | (simp at this; omega)
      have FB : Hid (∀ y, Below ((w21.drewN 1).alloc (.cells #[.bool false, .slice none 0 0, .slice none 0 0] 26)).heap.size ((w21.drewN 1).alloc (.cells #[.bool false, .slice none 0 0, .slice none 0 0] 26)) y → y.heap[w21.heap.size]? = some (.cells #[.bool false, .slice none 0 0, .slice none 0 0] 26 (0, 0)) ∧ w21.heap.size < y.heap.size) := fun y hy => ⟨(hy.block _ (by simp)).trans (boxN _ _ _ _ (by simp)), Nat.lt_of_lt_of_le (by simp) hy.size⟩
      refine hK.out _ _ (KS.out _ D1.out) (fun hHeld2 => ?_)
      clear hK K
      try simp only [Act.put, List.getElem_toArray, List.getElem_cons_zero, List.getElem_cons_succ, List.setIfInBounds_toArray, List.set_cons_zero, List.set_cons_succ]
      refine wpAnyH_ready (rs := [1]) (by kernel_rfl) (by simp) ?_
      refine AllReadyH.cons rfl (fun K hK => ?_) AllReadyH.nil
      go_simp
      go_at_call 12
      refine (toLClass _ _ _ L _ (H.out.later (B.out _ D1.out)) SL.out).mono ?_
      rintro e wah ⟨ga, gc, rfl, h1, hb⟩
      replace FB : Hid (∀ y, Below wah.heap.size wah y → y.heap[w21.heap.size]? = some (.cells #[.bool false, .slice none 0 0, .slice none 0 0] 26 (0, 0)) ∧ w21.heap.size < y.heap.size) := fun y hy => FB.out y (Below.trans (hb) (hy.mono (Below.size (hb))))
      have D2 : Hid (Below w21.heap.size w21 wah) := D1.out.trans (Below.mono (hb) D1.out.size)
      have FL : Hid (∀ y, Below wah.heap.size wah y → SlAt clR (fun _ => True) y ga cn L) := fun y hy => (h1.mono (fun _ _ _ => trivial)).later hy
      have zz2 : w21.heap.size + 1 ≤ wah.heap.size := by have := hb.size; simpa using this
      clear hb h1
      go_wp2_with fail
      refine hK.out _ _ (KS.out _ D2.out) (fun hHeld3 => ?_)
      clear hK K
      try simp only [Act.put, List.getElem_toArray, List.getElem_cons_zero, List.getElem_cons_succ, List.setIfInBounds_toArray, List.set_cons_zero, List.set_cons_succ]
      refine wpAnyH_ready (rs := [3]) (by kernel_rfl) (by simp) ?_
      refine AllReadyH.cons rfl (fun K hK => ?_) AllReadyH.nil
      go_simp
      go_at_call 13
      refine (toRShape _ _ _ _ _ _ _ us vs _ (HU.out.later (B.out _ D2.out)) SU.out (HV.out.later (B.out _ D2.out)) SV.out).mono ?_
      rintro e wbh ⟨pa1, pc1, pa2, pc2, rfl, h1, h2, hb⟩
      replace FB : Hid (∀ y, Below wbh.heap.size wbh y → y.heap[w21.heap.size]? = some (.cells #[.bool false, .slice none 0 0, .slice none 0 0] 26 (0, 0)) ∧ w21.heap.size < y.heap.size) := fun y hy => FB.out y (Below.trans (hb) (hy.mono (Below.size (hb))))
      replace FL : Hid (∀ y, Below wbh.heap.size wbh y → SlAt clR (fun _ => True) y ga cn L) := fun y hy => FL.out y (Below.trans (hb) (hy.mono (Below.size (hb))))
      have D3 : Hid (Below w21.heap.size w21 wbh) := D2.out.trans (Below.mono (hb) D2.out.size)
      have FU : Hid (∀ y, Below wbh.heap.size wbh y → SlAt intR (fun _ => True) y pa1 ll us) := fun y hy => (h1.mono (fun _ _ _ => trivial)).later hy
      have FV : Hid (∀ y, Below wbh.heap.size wbh y → SlAt intR (fun _ => True) y pa2 kl vs) := fun y hy => (h2.mono (fun _ _ _ => trivial)).later hy
      have zz3 : wah.heap.size ≤ wbh.heap.size := by have := hb.size; simpa using this
      clear hb h1 h2
      go_wp2_with fail
      refine hK.out _ _ (KS.out _ D3.out) (fun hHeld4 => ?_)
      clear hK K
      try simp only [Act.put, List.getElem_toArray, List.getElem_cons_zero, List.getElem_cons_succ, List.setIfInBounds_toArray, List.set_cons_zero, List.set_cons_succ]
      refine wpAnyH_ready (rs := [5]) (by kernel_rfl) (by simp) ?_
      refine AllReadyH.cons rfl (fun K hK => ?_) AllReadyH.nil
      go_simp
      go_at_call 13
      refine (toRShape _ _ _ _ _ _ _ xs ys _ (HX.out.later (B.out _ D3.out)) SX.out (HY.out.later (B.out _ D3.out)) SY.out).mono ?_
      rintro e wdh ⟨qa1, qc1, qa2, qc2, rfl, h1, h2, hb⟩
      replace FB : Hid (∀ y, Below wdh.heap.size wdh y → y.heap[w21.heap.size]? = some (.cells #[.bool false, .slice none 0 0, .slice none 0 0] 26 (0, 0)) ∧ w21.heap.size < y.heap.size) := fun y hy => FB.out y (Below.trans (hb) (hy.mono (Below.size (hb))))
      replace FL : Hid (∀ y, Below wdh.heap.size wdh y → SlAt clR (fun _ => True) y ga cn L) := fun y hy => FL.out y (Below.trans (hb) (hy.mono (Below.size (hb))))
      replace FU : Hid (∀ y, Below wdh.heap.size wdh y → SlAt intR (fun _ => True) y pa1 ll us) := fun y hy => FU.out y (Below.trans (hb) (hy.mono (Below.size (hb))))
      replace FV : Hid (∀ y, Below wdh.heap.size wdh y → SlAt intR (fun _ => True) y pa2 kl vs) := fun y hy => FV.out y (Below.trans (hb) (hy.mono (Below.size (hb))))
      have D4 : Hid (Below w21.heap.size w21 wdh) := D3.out.trans (Below.mono (hb) D3.out.size)
      have FX : Hid (∀ y, Below wdh.heap.size wdh y → SlAt intR (fun _ => True) y qa1 ml xs) := fun y hy => (h1.mono (fun _ _ _ => trivial)).later hy
      have FY : Hid (∀ y, Below wdh.heap.size wdh y → SlAt intR (fun _ => True) y qa2 nl ys) := fun y hy => (h2.mono (fun _ _ _ => trivial)).later hy
      have zz4 : wbh.heap.size ≤ wdh.heap.size := by have := hb.size; simpa using this
      clear hb h1 h2
      go_wp2_with fail
      refine hK.out _ _ (KS.out _ D4.out) (fun hHeld5 => ?_)
      clear hK K
      try simp only [Act.put, List.getElem_toArray, List.getElem_cons_zero, List.getElem_cons_succ, List.setIfInBounds_toArray, List.set_cons_zero, List.set_cons_succ]
      refine wpAnyH_ready (rs := [6]) (by kernel_rfl) (by simp) ?_
      refine AllReadyH.cons rfl (fun K hK => ?_) AllReadyH.nil
      go_simp
      go_at_call 6
      refine (shapeJoinImpl _ _ _ _ _ _ _ _ _ _ _ _ _ _ _ _ _ us vs xs ys ea L _ (FL.out _ (Below.refl _ _)).cls (FU.out _ (Below.refl _ _)).ints (FV.out _ (Below.refl _ _)).ints (FX.out _ (Below.refl _ _)).ints (FY.out _ (Below.refl _ _)).ints hll hkl (HG.out _ (B.out _ D4.out))).mono ?_
      intro e wsh hP
      rw [HJ.out] at hP
      obtain ⟨sa, n1, sc, sb, n2, sd, rfl, e1, e2, _, _, _, _, hw1, hw2, hl1, hl2, _, hb⟩ := hP
      obtain rfl : ps.length = n1 := e1
      obtain rfl : qs.length = n2 := e2
      replace FB : Hid (∀ y, Below wsh.heap.size wsh y → y.heap[w21.heap.size]? = some (.cells #[.bool false, .slice none 0 0, .slice none 0 0] 26 (0, 0)) ∧ w21.heap.size < y.heap.size) := fun y hy => FB.out y (Below.trans (hb) (hy.mono (Below.size (hb))))
      replace FL : Hid (∀ y, Below wsh.heap.size wsh y → SlAt clR (fun _ => True) y ga cn L) := fun y hy => FL.out y (Below.trans (hb) (hy.mono (Below.size (hb))))
      replace FU : Hid (∀ y, Below wsh.heap.size wsh y → SlAt intR (fun _ => True) y pa1 ll us) := fun y hy => FU.out y (Below.trans (hb) (hy.mono (Below.size (hb))))
      replace FV : Hid (∀ y, Below wsh.heap.size wsh y → SlAt intR (fun _ => True) y pa2 kl vs) := fun y hy => FV.out y (Below.trans (hb) (hy.mono (Below.size (hb))))
      replace FX : Hid (∀ y, Below wsh.heap.size wsh y → SlAt intR (fun _ => True) y qa1 ml xs) := fun y hy => FX.out y (Below.trans (hb) (hy.mono (Below.size (hb))))
      replace FY : Hid (∀ y, Below wsh.heap.size wsh y → SlAt intR (fun _ => True) y qa2 nl ys) := fun y hy => FY.out y (Below.trans (hb) (hy.mono (Below.size (hb))))
      have D5 : Hid (Below w21.heap.size w21 wsh) := D4.out.trans (Below.mono (hb) D4.out.size)
      have FJ : Hid (∀ y, Below wsh.heap.size wsh y → SlAt intR (fun b => wdh.heap.size ≤ b ∧ b < wsh.heap.size) y sa ps.length ps ∧ SlAt intR (fun b => wdh.heap.size ≤ b ∧ b < wsh.heap.size) y sb qs.length qs) := fun y hy => ⟨(wriSl hw1 rfl hn1 FP.out (fun x hx hp => by have := hl1 x hx hp; simpa using this)).later hy, (wriSl hw2 rfl hn2 FQ.out (fun x hx hp => by have := hl2 x hx hp; simpa using this)).later hy⟩
      have zs : wdh.heap.size ≤ wsh.heap.size := by have := hb.size; simpa using this
      have lS : w21.heap.size ≤ wdh.heap.size := by have := D4.out.size; first | exact this | (simp at this; omega)
      clear hb hw1 hw2 hl1 hl2
      go_wp2_with fail
      refine hK.out _ _ (KS.out _ D5.out) (fun hHeld6 => ?_)
      clear hK K
      try simp only [Act.put, List.getElem_toArray, List.getElem_cons_zero, List.getElem_cons_succ, List.setIfInBounds_toArray, List.set_cons_zero, List.set_cons_succ]
      refine wpAnyH_ready (rs := [8]) (by kernel_rfl) (by simp) ?_
      refine AllReadyH.cons rfl (fun K hK => ?_) AllReadyH.nil
      obtain ⟨fb, fbl⟩ := FB.out wsh (Below.refl _ _)
      have z0 : wsh.cell? ⟨w21.heap.size, 0, none⟩ = some (.bool false) := (boxG fb 0).1
      have z1 : wsh.cell? ⟨w21.heap.size, 1, none⟩ = some (.slice none 0 0) := (boxG fb 1).1
      have z2 : wsh.cell? ⟨w21.heap.size, 2, none⟩ = some (.slice none 0 0) := (boxG fb 2).1
      have f0 : wsh.frozen? ⟨w21.heap.size, 0, none⟩ = false := (boxG fb 0).2
      have f1 : wsh.frozen? ⟨w21.heap.size, 1, none⟩ = false := (boxG fb 1).2
      have f2 : wsh.frozen? ⟨w21.heap.size, 2, none⟩ = false := (boxG fb 2).2
      have FIN0 : w21.heap.size ≤ w21.heap.size ∧ w21.heap.size < (((wsh.setCell ⟨w21.heap.size, 0, none⟩ (.bool s0)).setCell ⟨w21.heap.size, 1, none⟩ (.slice sa ps.length sc)).setCell ⟨w21.heap.size, 2, none⟩ (.slice sb qs.length sd)).heap.size ∧ (((wsh.setCell ⟨w21.heap.size, 0, none⟩ (.bool s0)).setCell ⟨w21.heap.size, 1, none⟩ (.slice sa ps.length sc)).setCell ⟨w21.heap.size, 2, none⟩ (.slice sb qs.length sd)).heap[w21.heap.size]? = some (.cells #[.bool s0, .slice sa ps.length sc, .slice sb qs.length sd] 26 (0, 0)) ∧ SlAt intR (fun b => w21.heap.size ≤ b ∧ b ≠ w21.heap.size) (((wsh.setCell ⟨w21.heap.size, 0, none⟩ (.bool s0)).setCell ⟨w21.heap.size, 1, none⟩ (.slice sa ps.length sc)).setCell ⟨w21.heap.size, 2, none⟩ (.slice sb qs.length sd)) sa ps.length ps ∧ SlAt intR (fun b => w21.heap.size ≤ b ∧ b ≠ w21.heap.size) (((wsh.setCell ⟨w21.heap.size, 0, none⟩ (.bool s0)).setCell ⟨w21.heap.size, 1, none⟩ (.slice sa ps.length sc)).setCell ⟨w21.heap.size, 2, none⟩ (.slice sb qs.length sd)) sb qs.length qs ∧ Below w21.heap.size w21 (((wsh.setCell ⟨w21.heap.size, 0, none⟩ (.bool s0)).setCell ⟨w21.heap.size, 1, none⟩ (.slice sa ps.length sc)).setCell ⟨w21.heap.size, 2, none⟩ (.slice sb qs.length sd)) := by
        refine ⟨lX, by simp only [World.size_setCell]; exact fbl, boxS (boxS (boxS fb 0 _) 1 _) 2 _, ((((SlAt.mono (FJ.out wsh (Below.refl _ _)).1 (E := fun b => w21.heap.size ≤ b ∧ b ≠ w21.heap.size) (fun b hb _ => ⟨by omega, by omega⟩))).set ⟨w21.heap.size, 0, none⟩ (.bool s0) (by simp)).set ⟨w21.heap.size, 1, none⟩ (.slice sa ps.length sc) (by simp)).set ⟨w21.heap.size, 2, none⟩ (.slice sb qs.length sd) (by simp), ((((SlAt.mono (FJ.out wsh (Below.refl _ _)).2 (E := fun b => w21.heap.size ≤ b ∧ b ≠ w21.heap.size) (fun b hb _ => ⟨by omega, by omega⟩))).set ⟨w21.heap.size, 0, none⟩ (.bool s0) (by simp)).set ⟨w21.heap.size, 1, none⟩ (.slice sa ps.length sc) (by simp)).set ⟨w21.heap.size, 2, none⟩ (.slice sb qs.length sd) (by simp), ((D5.out.setCell lX _).setCell lX _).setCell lX _⟩
      have FIN : Hid (w21.heap.size ≤ w21.heap.size ∧ w21.heap.size < (((wsh.setCell ⟨w21.heap.size, 0, none⟩ (.bool s0)).setCell ⟨w21.heap.size, 1, none⟩ (.slice sa ps.length sc)).setCell ⟨w21.heap.size, 2, none⟩ (.slice sb qs.length sd)).heap.size ∧ (((wsh.setCell ⟨w21.heap.size, 0, none⟩ (.bool s0)).setCell ⟨w21.heap.size, 1, none⟩ (.slice sa ps.length sc)).setCell ⟨w21.heap.size, 2, none⟩ (.slice sb qs.length sd)).heap[w21.heap.size]? = some (.cells #[.bool s0, .slice sa ps.length sc, .slice sb qs.length sd] 26 (0, 0)) ∧ SlAt intR (fun b => w21.heap.size ≤ b ∧ b ≠ w21.heap.size) (((wsh.setCell ⟨w21.heap.size, 0, none⟩ (.bool s0)).setCell ⟨w21.heap.size, 1, none⟩ (.slice sa ps.length sc)).setCell ⟨w21.heap.size, 2, none⟩ (.slice sb qs.length sd)) sa ps.length ps ∧ SlAt intR (fun b => w21.heap.size ≤ b ∧ b ≠ w21.heap.size) (((wsh.setCell ⟨w21.heap.size, 0, none⟩ (.bool s0)).setCell ⟨w21.heap.size, 1, none⟩ (.slice sa ps.length sc)).setCell ⟨w21.heap.size, 2, none⟩ (.slice sb qs.length sd)) sb qs.length qs ∧ Below w21.heap.size w21 (((wsh.setCell ⟨w21.heap.size, 0, none⟩ (.bool s0)).setCell ⟨w21.heap.size, 1, none⟩ (.slice sa ps.length sc)).setCell ⟨w21.heap.size, 2, none⟩ (.slice sb qs.length sd))) := FIN0
      clear FIN0
      go_simp
      refine hK.out _ _ ?_ (fun hHeld7 => ?_)
      · exact KS.out _ FIN.out.2.2.2.2.2
      clear hK K
      try simp only [Act.put, List.getElem_toArray, List.getElem_cons_zero, List.getElem_cons_succ, List.setIfInBounds_toArray, List.set_cons_zero, List.set_cons_succ]
      refine wpAnyH_done (by kernel_rfl) ?_ _
      clear hHeld hHeld2 hHeld3 hHeld4 hHeld5 hHeld6 hHeld7
      go_wp2_with fail
      go_meet
      exact ⟨_, _, _, _, _, rfl, FIN.out⟩
  case rest =>
  obtain ⟨Z, ta, tc, tb, td, rfl, hX0, hX1, hbx, hS0, hS1, hb⟩ := hcut
  obtain ⟨w22, rfl⟩ : ∃ x, x = wc := ⟨_, rfl⟩
  have BP : Hid (Below w21.heap.size w21 w21) := Below.refl _ _
  have hq : Below w21.heap.size w21 w22 := BP.out.trans (Below.mono hb BP.out.size)
  replace B : Hid (∀ y, Below w22.heap.size w22 y → Below w.heap.size w y) := fun y hy => B.out y (hq.trans (hy.mono hq.size))
  replace S0 : Hid (∀ y, Below w22.heap.size w22 y → SlAt intR (fun b => b < w4.heap.size) y sa ps.length ps) := fun y hy => S0.out y (hq.trans (hy.mono hq.size))
  replace S1 : Hid (∀ y, Below w22.heap.size w22 y → SlAt intR (fun b => b < w4.heap.size) y sb qs.length qs) := fun y hy => S1.out y (hq.trans (hy.mono hq.size))
  replace M1 : Hid (∀ y, Below w22.heap.size w22 y → Wri y oa ps.length (fun j => 1 + j)) := fun y hy => M1.out y (hq.trans (hy.mono hq.size))
  replace M2 : Hid (∀ y, Below w22.heap.size w22 y → Wri y ob qs.length (fun j => 1 + ps.length + j)) := fun y hy => M2.out y (hq.trans (hy.mono hq.size))
  replace XA : Hid (∀ y, Below w22.heap.size w22 y → y.heap[w.heap.size]? = some (.cells #[.bool x0, .slice la ll lc, .slice ka kl kc] 34 (0, 0))) := fun y hy => XA.out y (hq.trans (hy.mono hq.size))
  replace lA : w.heap.size < w22.heap.size := Nat.lt_of_lt_of_le lA hq.size
  replace XC : Hid (∀ y, Below w22.heap.size w22 y → y.heap[w.heap.size + 1]? = some (.cells #[.bool y0, .slice ma ml mc, .slice na nl nc] 34 (0, 0))) := fun y hy => XC.out y (hq.trans (hy.mono hq.size))
  replace lC : w.heap.size + 1 < w22.heap.size := Nat.lt_of_lt_of_le lC hq.size
  replace XW : Hid (∀ y, Below w22.heap.size w22 y → y.heap[X]? = some (.cells #[.bool s0, .slice sa ps.length sc, .slice sb qs.length sd] 26 (0, 0))) := fun y hy => XW.out y (hq.trans (hy.mono hq.size))
  replace lW : X < w22.heap.size := Nat.lt_of_lt_of_le lW hq.size
  replace XI : Hid (∀ y, Below w22.heap.size w22 y → y.heap[w6.heap.size]? = some (.cells #[.bool x0, .slice ia1 ll (ll + ic1), .slice ia2 kl (kl + ic2)] 26 (0, 0))) := fun y hy => XI.out y (hq.trans (hy.mono hq.size))
  replace lI : w6.heap.size < w22.heap.size := Nat.lt_of_lt_of_le lI hq.size
  replace XJ : Hid (∀ y, Below w22.heap.size w22 y → y.heap[w7.heap.size]? = some (.cells #[.bool y0, .slice ja1 ml (ml + jc1), .slice ja2 nl (nl + jc2)] 26 (0, 0))) := fun y hy => XJ.out y (hq.trans (hy.mono hq.size))
  replace lJ : w7.heap.size < w22.heap.size := Nat.lt_of_lt_of_le lJ hq.size
  replace XG : Hid (∀ y, Below w22.heap.size w22 y → y.heap[w8.heap.size]? = some (.cells #[.bool s0, .slice oa ps.length oc, .slice ob qs.length od] 26 (0, 0))) := fun y hy => XG.out y (hq.trans (hy.mono hq.size))
  replace lG : w8.heap.size < w22.heap.size := Nat.lt_of_lt_of_le lG hq.size
  have zw22 : w21.heap.size ≤ w22.heap.size := hq.size
  clear hq BP
  have lZ : Z < w22.heap.size := hX1
  have XZ : Hid (∀ y, Below w22.heap.size w22 y → y.heap[Z]? = some (.cells #[.bool s0, .slice ta ps.length tc, .slice tb qs.length td] 26 (0, 0))) := fun y hy => (hy.block _ hX1).trans hbx
  have R0 : Hid (∀ y, Below w22.heap.size w22 y → SlAt intR (fun _ => True) y ta ps.length ps) := fun y hy => (hS0.mono (fun _ _ _ => trivial)).later hy
  have R1 : Hid (∀ y, Below w22.heap.size w22 y → SlAt intR (fun _ => True) y tb qs.length qs) := fun y hy => (hS1.mono (fun _ _ _ => trivial)).later hy
  clear hb hbx hS0 hS1 hX0 hX1
  have kA0 : w22.cell? ⟨w.heap.size, 0, none⟩ = some (.bool x0) := (boxG (XA.out w22 (Below.refl _ _)) 0).1
  have kA1 : w22.cell? ⟨w.heap.size, 1, none⟩ = some (.slice la ll lc) := (boxG (XA.out w22 (Below.refl _ _)) 1).1
  have kA2 : w22.cell? ⟨w.heap.size, 2, none⟩ = some (.slice ka kl kc) := (boxG (XA.out w22 (Below.refl _ _)) 2).1
  have kC0 : w22.cell? ⟨w.heap.size + 1, 0, none⟩ = some (.bool y0) := (boxG (XC.out w22 (Below.refl _ _)) 0).1
  have kC1 : w22.cell? ⟨w.heap.size + 1, 1, none⟩ = some (.slice ma ml mc) := (boxG (XC.out w22 (Below.refl _ _)) 1).1
  have kC2 : w22.cell? ⟨w.heap.size + 1, 2, none⟩ = some (.slice na nl nc) := (boxG (XC.out w22 (Below.refl _ _)) 2).1
  have kW0 : w22.cell? ⟨X, 0, none⟩ = some (.bool s0) := (boxG (XW.out w22 (Below.refl _ _)) 0).1
  have kW1 : w22.cell? ⟨X, 1, none⟩ = some (.slice sa ps.length sc) := (boxG (XW.out w22 (Below.refl _ _)) 1).1
  have kW2 : w22.cell? ⟨X, 2, none⟩ = some (.slice sb qs.length sd) := (boxG (XW.out w22 (Below.refl _ _)) 2).1
  have kI0 : w22.cell? ⟨w6.heap.size, 0, none⟩ = some (.bool x0) := (boxG (XI.out w22 (Below.refl _ _)) 0).1
  have kI1 : w22.cell? ⟨w6.heap.size, 1, none⟩ = some (.slice ia1 ll (ll + ic1)) := (boxG (XI.out w22 (Below.refl _ _)) 1).1
  have kI2 : w22.cell? ⟨w6.heap.size, 2, none⟩ = some (.slice ia2 kl (kl + ic2)) := (boxG (XI.out w22 (Below.refl _ _)) 2).1
  have kJ0 : w22.cell? ⟨w7.heap.size, 0, none⟩ = some (.bool y0) := (boxG (XJ.out w22 (Below.refl _ _)) 0).1
  have kJ1 : w22.cell? ⟨w7.heap.size, 1, none⟩ = some (.slice ja1 ml (ml + jc1)) := (boxG (XJ.out w22 (Below.refl _ _)) 1).1
  have kJ2 : w22.cell? ⟨w7.heap.size, 2, none⟩ = some (.slice ja2 nl (nl + jc2)) := (boxG (XJ.out w22 (Below.refl _ _)) 2).1
  have kG0 : w22.cell? ⟨w8.heap.size, 0, none⟩ = some (.bool s0) := (boxG (XG.out w22 (Below.refl _ _)) 0).1
  have kG1 : w22.cell? ⟨w8.heap.size, 1, none⟩ = some (.slice oa ps.length oc) := (boxG (XG.out w22 (Below.refl _ _)) 1).1
  have kG2 : w22.cell? ⟨w8.heap.size, 2, none⟩ = some (.slice ob qs.length od) := (boxG (XG.out w22 (Below.refl _ _)) 2).1
  have kZ0 : w22.cell? ⟨Z, 0, none⟩ = some (.bool s0) := (boxG (XZ.out w22 (Below.refl _ _)) 0).1
  have kZ1 : w22.cell? ⟨Z, 1, none⟩ = some (.slice ta ps.length tc) := (boxG (XZ.out w22 (Below.refl _ _)) 1).1
  have kZ2 : w22.cell? ⟨Z, 2, none⟩ = some (.slice tb qs.length td) := (boxG (XZ.out w22 (Below.refl _ _)) 2).1
  have BP : Hid (Below w22.heap.size w22 w22) := Below.refl _ _
  go_wp2_with fail
  refine (eqRShape _ _ _ _ _ _ _ _ _ _ _ _ _ ps qs _ (R0.out _ BP.out) (S0.out _ BP.out) (R1.out _ BP.out) (S1.out _ BP.out)).mono ?_
  rintro e w23 ⟨rfl, hb⟩
  have hq : Below w22.heap.size w22 w23 := BP.out.trans (Below.mono hb BP.out.size)
  replace B : Hid (∀ y, Below w23.heap.size w23 y → Below w.heap.size w y) := fun y hy => B.out y (hq.trans (hy.mono hq.size))
  replace S0 : Hid (∀ y, Below w23.heap.size w23 y → SlAt intR (fun b => b < w4.heap.size) y sa ps.length ps) := fun y hy => S0.out y (hq.trans (hy.mono hq.size))
  replace S1 : Hid (∀ y, Below w23.heap.size w23 y → SlAt intR (fun b => b < w4.heap.size) y sb qs.length qs) := fun y hy => S1.out y (hq.trans (hy.mono hq.size))
  replace M1 : Hid (∀ y, Below w23.heap.size w23 y → Wri y oa ps.length (fun j => 1 + j)) := fun y hy => M1.out y (hq.trans (hy.mono hq.size))
  replace M2 : Hid (∀ y, Below w23.heap.size w23 y → Wri y ob qs.length (fun j => 1 + ps.length + j)) := fun y hy => M2.out y (hq.trans (hy.mono hq.size))
  replace R0 : Hid (∀ y, Below w23.heap.size w23 y → SlAt intR (fun _ => True) y ta ps.length ps) := fun y hy => R0.out y (hq.trans (hy.mono hq.size))
  replace R1 : Hid (∀ y, Below w23.heap.size w23 y → SlAt intR (fun _ => True) y tb qs.length qs) := fun y hy => R1.out y (hq.trans (hy.mono hq.size))
  replace XA : Hid (∀ y, Below w23.heap.size w23 y → y.heap[w.heap.size]? = some (.cells #[.bool x0, .slice la ll lc, .slice ka kl kc] 34 (0, 0))) := fun y hy => XA.out y (hq.trans (hy.mono hq.size))
  replace lA : w.heap.size < w23.heap.size := Nat.lt_of_lt_of_le lA hq.size
  replace XC : Hid (∀ y, Below w23.heap.size w23 y → y.heap[w.heap.size + 1]? = some (.cells #[.bool y0, .slice ma ml mc, .slice na nl nc] 34 (0, 0))) := fun y hy => XC.out y (hq.trans (hy.mono hq.size))
  replace lC : w.heap.size + 1 < w23.heap.size := Nat.lt_of_lt_of_le lC hq.size
  replace XW : Hid (∀ y, Below w23.heap.size w23 y → y.heap[X]? = some (.cells #[.bool s0, .slice sa ps.length sc, .slice sb qs.length sd] 26 (0, 0))) := fun y hy => XW.out y (hq.trans (hy.mono hq.size))
  replace lW : X < w23.heap.size := Nat.lt_of_lt_of_le lW hq.size
  replace XI : Hid (∀ y, Below w23.heap.size w23 y → y.heap[w6.heap.size]? = some (.cells #[.bool x0, .slice ia1 ll (ll + ic1), .slice ia2 kl (kl + ic2)] 26 (0, 0))) := fun y hy => XI.out y (hq.trans (hy.mono hq.size))
  replace lI : w6.heap.size < w23.heap.size := Nat.lt_of_lt_of_le lI hq.size
  replace XJ : Hid (∀ y, Below w23.heap.size w23 y → y.heap[w7.heap.size]? = some (.cells #[.bool y0, .slice ja1 ml (ml + jc1), .slice ja2 nl (nl + jc2)] 26 (0, 0))) := fun y hy => XJ.out y (hq.trans (hy.mono hq.size))
  replace lJ : w7.heap.size < w23.heap.size := Nat.lt_of_lt_of_le lJ hq.size
  replace XG : Hid (∀ y, Below w23.heap.size w23 y → y.heap[w8.heap.size]? = some (.cells #[.bool s0, .slice oa ps.length oc, .slice ob qs.length od] 26 (0, 0))) := fun y hy => XG.out y (hq.trans (hy.mono hq.size))
  replace lG : w8.heap.size < w23.heap.size := Nat.lt_of_lt_of_le lG hq.size
  replace XZ : Hid (∀ y, Below w23.heap.size w23 y → y.heap[Z]? = some (.cells #[.bool s0, .slice ta ps.length tc, .slice tb qs.length td] 26 (0, 0))) := fun y hy => XZ.out y (hq.trans (hy.mono hq.size))
  replace lZ : Z < w23.heap.size := Nat.lt_of_lt_of_le lZ hq.size
  have zw23 : w22.heap.size ≤ w23.heap.size := hq.size
  clear hq BP
  clear kA0 kA1 kA2 kC0 kC1 kC2 kW0 kW1 kW2 kI0 kI1 kI2 kJ0 kJ1 kJ2 kG0 kG1 kG2 kZ0 kZ1 kZ2
  clear hb
  have kA0 : w23.cell? ⟨w.heap.size, 0, none⟩ = some (.bool x0) := (boxG (XA.out w23 (Below.refl _ _)) 0).1
  have kA1 : w23.cell? ⟨w.heap.size, 1, none⟩ = some (.slice la ll lc) := (boxG (XA.out w23 (Below.refl _ _)) 1).1
  have kA2 : w23.cell? ⟨w.heap.size, 2, none⟩ = some (.slice ka kl kc) := (boxG (XA.out w23 (Below.refl _ _)) 2).1
  have kC0 : w23.cell? ⟨w.heap.size + 1, 0, none⟩ = some (.bool y0) := (boxG (XC.out w23 (Below.refl _ _)) 0).1
  have kC1 : w23.cell? ⟨w.heap.size + 1, 1, none⟩ = some (.slice ma ml mc) := (boxG (XC.out w23 (Below.refl _ _)) 1).1
  have kC2 : w23.cell? ⟨w.heap.size + 1, 2, none⟩ = some (.slice na nl nc) := (boxG (XC.out w23 (Below.refl _ _)) 2).1
  have kW0 : w23.cell? ⟨X, 0, none⟩ = some (.bool s0) := (boxG (XW.out w23 (Below.refl _ _)) 0).1
  have kW1 : w23.cell? ⟨X, 1, none⟩ = some (.slice sa ps.length sc) := (boxG (XW.out w23 (Below.refl _ _)) 1).1
  have kW2 : w23.cell? ⟨X, 2, none⟩ = some (.slice sb qs.length sd) := (boxG (XW.out w23 (Below.refl _ _)) 2).1
  have kI0 : w23.cell? ⟨w6.heap.size, 0, none⟩ = some (.bool x0) := (boxG (XI.out w23 (Below.refl _ _)) 0).1
  have kI1 : w23.cell? ⟨w6.heap.size, 1, none⟩ = some (.slice ia1 ll (ll + ic1)) := (boxG (XI.out w23 (Below.refl _ _)) 1).1
  have kI2 : w23.cell? ⟨w6.heap.size, 2, none⟩ = some (.slice ia2 kl (kl + ic2)) := (boxG (XI.out w23 (Below.refl _ _)) 2).1
  have kJ0 : w23.cell? ⟨w7.heap.size, 0, none⟩ = some (.bool y0) := (boxG (XJ.out w23 (Below.refl _ _)) 0).1
  have kJ1 : w23.cell? ⟨w7.heap.size, 1, none⟩ = some (.slice ja1 ml (ml + jc1)) := (boxG (XJ.out w23 (Below.refl _ _)) 1).1
  have kJ2 : w23.cell? ⟨w7.heap.size, 2, none⟩ = some (.slice ja2 nl (nl + jc2)) := (boxG (XJ.out w23 (Below.refl _ _)) 2).1
  have kG0 : w23.cell? ⟨w8.heap.size, 0, none⟩ = some (.bool s0) := (boxG (XG.out w23 (Below.refl _ _)) 0).1
  have kG1 : w23.cell? ⟨w8.heap.size, 1, none⟩ = some (.slice oa ps.length oc) := (boxG (XG.out w23 (Below.refl _ _)) 1).1
  have kG2 : w23.cell? ⟨w8.heap.size, 2, none⟩ = some (.slice ob qs.length od) := (boxG (XG.out w23 (Below.refl _ _)) 2).1
  have kZ0 : w23.cell? ⟨Z, 0, none⟩ = some (.bool s0) := (boxG (XZ.out w23 (Below.refl _ _)) 0).1
  have kZ1 : w23.cell? ⟨Z, 1, none⟩ = some (.slice ta ps.length tc) := (boxG (XZ.out w23 (Below.refl _ _)) 1).1
  have kZ2 : w23.cell? ⟨Z, 2, none⟩ = some (.slice tb qs.length td) := (boxG (XZ.out w23 (Below.refl _ _)) 2).1
  have BP : Hid (Below w23.heap.size w23 w23) := Below.refl _ _
  go_wp2_with fail
  refine (heldRShape _ _ _ _ _ _ _ _ (M1.out _ BP.out) (M2.out _ BP.out) hn1 hn2).mono ?_
  rintro e w24 ⟨rfl, hb⟩
  have hq : Below w23.heap.size w23 w24 := BP.out.trans (Below.mono hb BP.out.size)
  replace B : Hid (∀ y, Below w24.heap.size w24 y → Below w.heap.size w y) := fun y hy => B.out y (hq.trans (hy.mono hq.size))
  replace S0 : Hid (∀ y, Below w24.heap.size w24 y → SlAt intR (fun b => b < w4.heap.size) y sa ps.length ps) := fun y hy => S0.out y (hq.trans (hy.mono hq.size))
  replace S1 : Hid (∀ y, Below w24.heap.size w24 y → SlAt intR (fun b => b < w4.heap.size) y sb qs.length qs) := fun y hy => S1.out y (hq.trans (hy.mono hq.size))
  replace M1 : Hid (∀ y, Below w24.heap.size w24 y → Wri y oa ps.length (fun j => 1 + j)) := fun y hy => M1.out y (hq.trans (hy.mono hq.size))
  replace M2 : Hid (∀ y, Below w24.heap.size w24 y → Wri y ob qs.length (fun j => 1 + ps.length + j)) := fun y hy => M2.out y (hq.trans (hy.mono hq.size))
  replace R0 : Hid (∀ y, Below w24.heap.size w24 y → SlAt intR (fun _ => True) y ta ps.length ps) := fun y hy => R0.out y (hq.trans (hy.mono hq.size))
  replace R1 : Hid (∀ y, Below w24.heap.size w24 y → SlAt intR (fun _ => True) y tb qs.length qs) := fun y hy => R1.out y (hq.trans (hy.mono hq.size))
  replace XA : Hid (∀ y, Below w24.heap.size w24 y → y.heap[w.heap.size]? = some (.cells #[.bool x0, .slice la ll lc, .slice ka kl kc] 34 (0, 0))) := fun y hy => XA.out y (hq.trans (hy.mono hq.size))
  replace lA : w.heap.size < w24.heap.size := Nat.lt_of_lt_of_le lA hq.size
  replace XC : Hid (∀ y, Below w24.heap.size w24 y → y.heap[w.heap.size + 1]? = some (.cells #[.bool y0, .slice ma ml mc, .slice na nl nc] 34 (0, 0))) := fun y hy => XC.out y (hq.trans (hy.mono hq.size))
  replace lC : w.heap.size + 1 < w24.heap.size := Nat.lt_of_lt_of_le lC hq.size
  replace XW : Hid (∀ y, Below w24.heap.size w24 y → y.heap[X]? = some (.cells #[.bool s0, .slice sa ps.length sc, .slice sb qs.length sd] 26 (0, 0))) := fun y hy => XW.out y (hq.trans (hy.mono hq.size))
  replace lW : X < w24.heap.size := Nat.lt_of_lt_of_le lW hq.size
  replace XI : Hid (∀ y, Below w24.heap.size w24 y → y.heap[w6.heap.size]? = some (.cells #[.bool x0, .slice ia1 ll (ll + ic1), .slice ia2 kl (kl + ic2)] 26 (0, 0))) := fun y hy => XI.out y (hq.trans (hy.mono hq.size))
  replace lI : w6.heap.size < w24.heap.size := Nat.lt_of_lt_of_le lI hq.size
  replace XJ : Hid (∀ y, Below w24.heap.size w24 y → y.heap[w7.heap.size]? = some (.cells #[.bool y0, .slice ja1 ml (ml + jc1), .slice ja2 nl (nl + jc2)] 26 (0, 0))) := fun y hy => XJ.out y (hq.trans (hy.mono hq.size))
  replace lJ : w7.heap.size < w24.heap.size := Nat.lt_of_lt_of_le lJ hq.size
  replace XG : Hid (∀ y, Below w24.heap.size w24 y → y.heap[w8.heap.size]? = some (.cells #[.bool s0, .slice oa ps.length oc, .slice ob qs.length od] 26 (0, 0))) := fun y hy => XG.out y (hq.trans (hy.mono hq.size))
  replace lG : w8.heap.size < w24.heap.size := Nat.lt_of_lt_of_le lG hq.size
  replace XZ : Hid (∀ y, Below w24.heap.size w24 y → y.heap[Z]? = some (.cells #[.bool s0, .slice ta ps.length tc, .slice tb qs.length td] 26 (0, 0))) := fun y hy => XZ.out y (hq.trans (hy.mono hq.size))
  replace lZ : Z < w24.heap.size := Nat.lt_of_lt_of_le lZ hq.size
  have zw24 : w23.heap.size ≤ w24.heap.size := hq.size
  clear hq BP
  clear kA0 kA1 kA2 kC0 kC1 kC2 kW0 kW1 kW2 kI0 kI1 kI2 kJ0 kJ1 kJ2 kG0 kG1 kG2 kZ0 kZ1 kZ2
  clear hb
  have kA0 : w24.cell? ⟨w.heap.size, 0, none⟩ = some (.bool x0) := (boxG (XA.out w24 (Below.refl _ _)) 0).1
  have kA1 : w24.cell? ⟨w.heap.size, 1, none⟩ = some (.slice la ll lc) := (boxG (XA.out w24 (Below.refl _ _)) 1).1
  have kA2 : w24.cell? ⟨w.heap.size, 2, none⟩ = some (.slice ka kl kc) := (boxG (XA.out w24 (Below.refl _ _)) 2).1
  have kC0 : w24.cell? ⟨w.heap.size + 1, 0, none⟩ = some (.bool y0) := (boxG (XC.out w24 (Below.refl _ _)) 0).1
  have kC1 : w24.cell? ⟨w.heap.size + 1, 1, none⟩ = some (.slice ma ml mc) := (boxG (XC.out w24 (Below.refl _ _)) 1).1
  have kC2 : w24.cell? ⟨w.heap.size + 1, 2, none⟩ = some (.slice na nl nc) := (boxG (XC.out w24 (Below.refl _ _)) 2).1
  have kW0 : w24.cell? ⟨X, 0, none⟩ = some (.bool s0) := (boxG (XW.out w24 (Below.refl _ _)) 0).1
  have kW1 : w24.cell? ⟨X, 1, none⟩ = some (.slice sa ps.length sc) := (boxG (XW.out w24 (Below.refl _ _)) 1).1
  have kW2 : w24.cell? ⟨X, 2, none⟩ = some (.slice sb qs.length sd) := (boxG (XW.out w24 (Below.refl _ _)) 2).1
  have kI0 : w24.cell? ⟨w6.heap.size, 0, none⟩ = some (.bool x0) := (boxG (XI.out w24 (Below.refl _ _)) 0).1
  have kI1 : w24.cell? ⟨w6.heap.size, 1, none⟩ = some (.slice ia1 ll (ll + ic1)) := (boxG (XI.out w24 (Below.refl _ _)) 1).1
  have kI2 : w24.cell? ⟨w6.heap.size, 2, none⟩ = some (.slice ia2 kl (kl + ic2)) := (boxG (XI.out w24 (Below.refl _ _)) 2).1
  have kJ0 : w24.cell? ⟨w7.heap.size, 0, none⟩ = some (.bool y0) := (boxG (XJ.out w24 (Below.refl _ _)) 0).1
  have kJ1 : w24.cell? ⟨w7.heap.size, 1, none⟩ = some (.slice ja1 ml (ml + jc1)) := (boxG (XJ.out w24 (Below.refl _ _)) 1).1
  have kJ2 : w24.cell? ⟨w7.heap.size, 2, none⟩ = some (.slice ja2 nl (nl + jc2)) := (boxG (XJ.out w24 (Below.refl _ _)) 2).1
  have kG0 : w24.cell? ⟨w8.heap.size, 0, none⟩ = some (.bool s0) := (boxG (XG.out w24 (Below.refl _ _)) 0).1
  have kG1 : w24.cell? ⟨w8.heap.size, 1, none⟩ = some (.slice oa ps.length oc) := (boxG (XG.out w24 (Below.refl _ _)) 1).1
  have kG2 : w24.cell? ⟨w8.heap.size, 2, none⟩ = some (.slice ob qs.length od) := (boxG (XG.out w24 (Below.refl _ _)) 2).1
  have kZ0 : w24.cell? ⟨Z, 0, none⟩ = some (.bool s0) := (boxG (XZ.out w24 (Below.refl _ _)) 0).1
  have kZ1 : w24.cell? ⟨Z, 1, none⟩ = some (.slice ta ps.length tc) := (boxG (XZ.out w24 (Below.refl _ _)) 1).1
  have kZ2 : w24.cell? ⟨Z, 2, none⟩ = some (.slice tb qs.length td) := (boxG (XZ.out w24 (Below.refl _ _)) 2).1
  go_wp2_with fail
  go_ret
  exact ⟨rfl, B.out _ (Below.refl _ _)⟩

end Go.Proofs.YtkggmcbjpmhmcaaDoor
