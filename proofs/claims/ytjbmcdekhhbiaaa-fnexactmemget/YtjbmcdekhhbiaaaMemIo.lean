/-
  What is in things, by the program: what it says; it writes nothing that was there.
-/
import Derived.Test.YtjbmcdekhhbiaaaMemIn
import Derived.Deep.Cut
namespace Go.Proofs.Ytjbmcdekhhbiaaa
open Go.ChangeShapes Go.WideShapes Go.ChangeAt Go.RowKit
set_option linter.unusedVariables false

set_option maxRecDepth 100000 in
set_option maxHeartbeats 4000000 in
theorem getImpl (ca : Option Addr) (cn cc : Nat) (wa : Option Addr) (wl wc : Nat) (yg tp od : Int) (da : Option Addr) (dl dc : Nat) (v k : Int) (ws : List Int) (cd : List Bool) (L : List Cl) (w : World) {D E G G2 : Nat → Prop} (h : ClsAt D E w ca cn L) (hw : IntsAt G w wa wl ws) (hc : SlAt boolR G2 w da dl cd) (hyg : i64B yg) (hl : wl ≤ 1048576) (hd : dl ≤ 1048576) (hcap : wl ≤ wc) (hv : i64B v) (hk : i64B k) : Calls Try.prog 29 #[.slice ca cn cc, .agg #[.slice wa wl wc, .int .i64 yg, .int .i64 tp, .int .i64 od, .slice da dl dc], .int .i64 v, .int .i64 k] w fun e w' => e = .returned (.tuple #[.int .i64 (getV L (ws, yg, tp, od, cd) v k), .bool (getB L (ws, yg, tp, od, cd) v k)]) ∧ Below w.heap.size w w' := by
  have H : Hid (ClsAt D E w ca cn L) := h
  have HW : Hid (IntsAt G w wa wl ws) := hw
  have HC : Hid (SlAt boolR G2 w da dl cd) := hc
  have WS : Hid (ws.length = wl) := hw.size
  have hk1 := hk.1
  have hk2 := hk.2
  clear h hw hc
  have hz : w.heap.size + 1 ≤ (w.alloc (.cells #[.slice wa wl wc, .int .i64 yg, .int .i64 tp, .int .i64 od, .slice da dl dc] 25)).heap.size := by simp
  have B : Hid (∀ y, Below (w.heap.size + 1) (w.alloc (.cells #[.slice wa wl wc, .int .i64 yg, .int .i64 tp, .int .i64 od, .slice da dl dc] 25)) y → Below w.heap.size w y) := fun y hy => (bR.alloc (by first | exact Nat.le_refl _ | (simp; done) | (simp; omega)) _).trans (hy.mono (by omega))
  have XM : Hid (∀ y, Below (w.heap.size + 1) (w.alloc (.cells #[.slice wa wl wc, .int .i64 yg, .int .i64 tp, .int .i64 od, .slice da dl dc] 25)) y → y.heap[w.heap.size]? = some (.cells #[.slice wa wl wc, .int .i64 yg, .int .i64 tp, .int .i64 od, .slice da dl dc] 25 (0, 0))) := fun y hy => (hy.block _ (by omega)).trans (boxN _ _ _ _ (by simp))
  have lM : w.heap.size < w.heap.size + 1 := by omega
  go_enter Try.func29, Try.ntmps29
  go_wp2_with fail
  have BP : Hid (Below (w.heap.size + 1) (w.alloc (.cells #[.slice wa wl wc, .int .i64 yg, .int .i64 tp, .int .i64 od, .slice da dl dc] 25)) (w.alloc (.cells #[.slice wa wl wc, .int .i64 yg, .int .i64 tp, .int .i64 od, .slice da dl dc] 25))) := bR
  refine (holdImpl _ _ _ _ _ _ yg tp od _ _ _ v k ws cd L _ (H.out.later (B.out _ BP.out)) (HW.out.later (B.out _ BP.out)) (HC.out.later (B.out _ BP.out)) hyg hl hd hcap hv hk).mono ?_
  rintro e w1 ⟨hno, hyes, hb⟩
  have hq : Below (w.heap.size + 1) (w.alloc (.cells #[.slice wa wl wc, .int .i64 yg, .int .i64 tp, .int .i64 od, .slice da dl dc] 25)) w1 := BP.out.trans (Below.mono hb (Nat.le_trans hz BP.out.size))
  have hzn : w.heap.size + 1 ≤ w1.heap.size := Nat.le_trans hz hq.size
  replace B := lF B hq hzn
  replace XM := lF XM hq hzn
  replace lM := Nat.lt_of_lt_of_le lM hzn
  clear hq BP hz
  have hz : w1.heap.size ≤ w1.heap.size := Nat.le_refl _
  clear hb
  obtain ⟨gb, hgb⟩ : ∃ gb, getB L (ws, yg, tp, od, cd) v k = gb := ⟨_, rfl⟩
  have GB : Hid (getB L (ws, yg, tp, od, cd) v k = gb) := hgb
  rw [hgb] at hno hyes
  cases gb
  · obtain ⟨x0, y0, z0, x1, y1, z1, x2, x3, x4, x5, y5, z5, x6, y6, z6, x7, x8, x9, y9, z9, x10, x11, x12, y12, z12, u0, u1, u2, u3, u4, rfl⟩ := hno rfl
    clear hno hyes hgb
    obtain ⟨kM0, kM1, kM2, kM3, kM4⟩ := bk5 (XM.out w1 bR)
    go_upto_region 2 with fail
    clear kM0 kM1 kM2 kM3 kM4
    have BP : Hid (Below (w1.heap.size) w1 (w1.alloc (.cells #[.slice x0 y0 z0, .slice x1 y1 z1, .int .i64 x2, .int .i64 x3, .int .i64 x4, .slice x5 y5 z5, .slice x6 y6 z6, .int .i64 x7, .int .i64 x8, .slice x9 y9 z9, .int .i64 x10, .int .i64 x11, .slice x12 y12 z12] 69))) := (bR.alloc (by first | exact hz | (simp; done) | (simp; omega) | (have := hz; simp at this ⊢; omega)) _)
    replace B := lA B BP
    replace XM := lA XM BP
    replace lM := lL lM
    have XA : Hid (∀ y, Below (w1.heap.size + 1) (w1.alloc (.cells #[.slice x0 y0 z0, .slice x1 y1 z1, .int .i64 x2, .int .i64 x3, .int .i64 x4, .slice x5 y5 z5, .slice x6 y6 z6, .int .i64 x7, .int .i64 x8, .slice x9 y9 z9, .int .i64 x10, .int .i64 x11, .slice x12 y12 z12] 69)) y → y.heap[w1.heap.size]? = some (.cells #[.slice x0 y0 z0, .slice x1 y1 z1, .int .i64 x2, .int .i64 x3, .int .i64 x4, .slice x5 y5 z5, .slice x6 y6 z6, .int .i64 x7, .int .i64 x8, .slice x9 y9 z9, .int .i64 x10, .int .i64 x11, .slice x12 y12 z12] 69 (0, 0))) := fun y hy => (hy.block _ (by omega)).trans (boxN _ _ _ _ (by simp))
    have lA : w1.heap.size < w1.heap.size + 1 := by omega
    replace hz : w1.heap.size + 1 ≤ ((w1.alloc (.cells #[.slice x0 y0 z0, .slice x1 y1 z1, .int .i64 x2, .int .i64 x3, .int .i64 x4, .slice x5 y5 z5, .slice x6 y6 z6, .int .i64 x7, .int .i64 x8, .slice x9 y9 z9, .int .i64 x10, .int .i64 x11, .slice x12 y12 z12] 69))).heap.size := by simp
    clear BP
    have BP : Hid (Below (w1.heap.size + 1) (w1.alloc (.cells #[.slice x0 y0 z0, .slice x1 y1 z1, .int .i64 x2, .int .i64 x3, .int .i64 x4, .slice x5 y5 z5, .slice x6 y6 z6, .int .i64 x7, .int .i64 x8, .slice x9 y9 z9, .int .i64 x10, .int .i64 x11, .slice x12 y12 z12] 69)) ((w1.alloc (.cells #[.slice x0 y0 z0, .slice x1 y1 z1, .int .i64 x2, .int .i64 x3, .int .i64 x4, .slice x5 y5 z5, .slice x6 y6 z6, .int .i64 x7, .int .i64 x8, .slice x9 y9 z9, .int .i64 x10, .int .i64 x11, .slice x12 y12 z12] 69)).alloc (.cells #[.int .i64 u0, .int .i64 u1, .slice u2 u3 u4] 75))) := (bR.alloc (by first | exact hz | (simp; done) | (simp; omega) | (have := hz; simp at this ⊢; omega)) _)
    replace B := Proofs.Ytjbmcdekhhbiaaa.lA B BP
    replace XM := Proofs.Ytjbmcdekhhbiaaa.lA XM BP
    replace lM := lL lM
    replace XA := Proofs.Ytjbmcdekhhbiaaa.lA XA BP
    replace lA := lL lA
    have XT : Hid (∀ y, Below (w1.heap.size + 1 + 1) ((w1.alloc (.cells #[.slice x0 y0 z0, .slice x1 y1 z1, .int .i64 x2, .int .i64 x3, .int .i64 x4, .slice x5 y5 z5, .slice x6 y6 z6, .int .i64 x7, .int .i64 x8, .slice x9 y9 z9, .int .i64 x10, .int .i64 x11, .slice x12 y12 z12] 69)).alloc (.cells #[.int .i64 u0, .int .i64 u1, .slice u2 u3 u4] 75)) y → y.heap[w1.heap.size + 1]? = some (.cells #[.int .i64 u0, .int .i64 u1, .slice u2 u3 u4] 75 (0, 0))) := fun y hy => (hy.block _ (by omega)).trans (boxN _ _ _ _ (by simp))
    have lT : w1.heap.size + 1 < w1.heap.size + 1 + 1 := by omega
    replace hz : w1.heap.size + 1 + 1 ≤ (((w1.alloc (.cells #[.slice x0 y0 z0, .slice x1 y1 z1, .int .i64 x2, .int .i64 x3, .int .i64 x4, .slice x5 y5 z5, .slice x6 y6 z6, .int .i64 x7, .int .i64 x8, .slice x9 y9 z9, .int .i64 x10, .int .i64 x11, .slice x12 y12 z12] 69)).alloc (.cells #[.int .i64 u0, .int .i64 u1, .slice u2 u3 u4] 75))).heap.size := by simp
    clear BP
    generalize ((w1.alloc (.cells #[.slice x0 y0 z0, .slice x1 y1 z1, .int .i64 x2, .int .i64 x3, .int .i64 x4, .slice x5 y5 z5, .slice x6 y6 z6, .int .i64 x7, .int .i64 x8, .slice x9 y9 z9, .int .i64 x10, .int .i64 x11, .slice x12 y12 z12] 69)).alloc (.cells #[.int .i64 u0, .int .i64 u1, .slice u2 u3 u4] 75)) = w2 at B XM XA XT hz ⊢
    have hzn : w1.heap.size + 1 + 1 ≤ w2.heap.size := Nat.le_trans hz (Below.size (Below.refl (w1.heap.size + 1 + 1) w2))
    replace B := lF B (Below.refl (w1.heap.size + 1 + 1) w2) hzn
    replace XM := lF XM (Below.refl (w1.heap.size + 1 + 1) w2) hzn
    replace lM := Nat.lt_of_lt_of_le lM hzn
    replace XA := lF XA (Below.refl (w1.heap.size + 1 + 1) w2) hzn
    replace lA := Nat.lt_of_lt_of_le lA hzn
    replace XT := lF XT (Below.refl (w1.heap.size + 1 + 1) w2) hzn
    replace lT := Nat.lt_of_lt_of_le lT hzn
    clear hz
    have hz : w2.heap.size ≤ w2.heap.size := Nat.le_refl _
    go_wp2_with fail
    go_ret2
    exact ⟨by rw [getV_not GB.out, GB.out]; rfl, B.out w2 (Below.refl _ _)⟩
  obtain ⟨wb, wo, yn, tn, on, ou, ta, tl, tc, c0, ty, ya, yl, yc, rfl, rfl, rfl, rfl, hou, hm, hia, rfl, htl, hrow, hea, hy⟩ := hyes rfl
  clear hno hyes
  have GT := hgb
  rw [getB_at hm hia, hea] at hgb
  obtain ⟨p, c1, ty1, ea, ev, _, hc0, hty, hfit, hsz, hcl⟩ := atT_ok hm hia
  rw [hea] at ea
  obtain ⟨e1, e2, e3⟩ : v = (p : Int) + 1 ∧ c0 = c1 ∧ ty = ty1 := by simpa using ea
  subst e2 e3 e1
  have hr := inI_iff.1 hgb
  have hyz := hy.size
  simp only [WS.out] at hfit
  simp only [hyz] at hr
  obtain ⟨kn, rfl⟩ : ∃ kn : Nat, k = kn := ⟨k.toNat, by omega⟩
  have hkn : kn < yl := by omega
  rw [hyz] at hfit
  have GV : Hid (getV L (ws, (yn : Int), (tn : Int), (on : Int), cd) ((p : Int) + 1) (kn : Int) = ws.getD (p + hdN c0 + kn) 0) := by
    show _ = _
    rw [getV_yes GT, hea]
    simp only [plc, show ((p : Int) + 1).toNat - 1 = p by omega, Int.toNat_natCast]
  have hwl9 : wl ≤ 1000 := by have q1 := (memB_ok hm).1.od; have q2 := (memB_ok hm).1.yg; simp only [WS.out] at q1 q2; omega
  clear hgb hea ea hia hm htl hrow hy hty hsz hcl hc0 GT hou
  obtain ⟨kM0, kM1, kM2, kM3, kM4⟩ := bk5 (XM.out w1 bR)
  go_upto_region 2 with fail
  clear kM0 kM1 kM2 kM3 kM4
  have BP : Hid (Below (w1.heap.size) w1 (w1.alloc (.cells #[.slice ca cn cc, .slice (some ⟨wb, wo, none⟩) wl wc, .int .i64 (yn : Nat), .int .i64 (tn : Nat), .int .i64 (on : Nat), .slice da dl dc, .slice (some ⟨wb, wo, none⟩) yn wc, .int .i64 0, .int .i64 (tn : Nat), .slice (some ⟨wb, wo + yn, none⟩) (wl - yn) (wc - yn), .int .i64 (yn : Nat), .int .i64 (ou : Nat), .slice ta tl tc] 69))) := (bR.alloc (by first | exact hz | (simp; done) | (simp; omega) | (have := hz; simp at this ⊢; omega)) _)
  replace B := lA B BP
  replace XM := lA XM BP
  replace lM := lL lM
  have XA : Hid (∀ y, Below (w1.heap.size + 1) (w1.alloc (.cells #[.slice ca cn cc, .slice (some ⟨wb, wo, none⟩) wl wc, .int .i64 (yn : Nat), .int .i64 (tn : Nat), .int .i64 (on : Nat), .slice da dl dc, .slice (some ⟨wb, wo, none⟩) yn wc, .int .i64 0, .int .i64 (tn : Nat), .slice (some ⟨wb, wo + yn, none⟩) (wl - yn) (wc - yn), .int .i64 (yn : Nat), .int .i64 (ou : Nat), .slice ta tl tc] 69)) y → y.heap[w1.heap.size]? = some (.cells #[.slice ca cn cc, .slice (some ⟨wb, wo, none⟩) wl wc, .int .i64 (yn : Nat), .int .i64 (tn : Nat), .int .i64 (on : Nat), .slice da dl dc, .slice (some ⟨wb, wo, none⟩) yn wc, .int .i64 0, .int .i64 (tn : Nat), .slice (some ⟨wb, wo + yn, none⟩) (wl - yn) (wc - yn), .int .i64 (yn : Nat), .int .i64 (ou : Nat), .slice ta tl tc] 69 (0, 0))) := fun y hy => (hy.block _ (by omega)).trans (boxN _ _ _ _ (by simp))
  have lA : w1.heap.size < w1.heap.size + 1 := by omega
  replace hz : w1.heap.size + 1 ≤ ((w1.alloc (.cells #[.slice ca cn cc, .slice (some ⟨wb, wo, none⟩) wl wc, .int .i64 (yn : Nat), .int .i64 (tn : Nat), .int .i64 (on : Nat), .slice da dl dc, .slice (some ⟨wb, wo, none⟩) yn wc, .int .i64 0, .int .i64 (tn : Nat), .slice (some ⟨wb, wo + yn, none⟩) (wl - yn) (wc - yn), .int .i64 (yn : Nat), .int .i64 (ou : Nat), .slice ta tl tc] 69))).heap.size := by simp
  clear BP
  have BP : Hid (Below (w1.heap.size + 1) (w1.alloc (.cells #[.slice ca cn cc, .slice (some ⟨wb, wo, none⟩) wl wc, .int .i64 (yn : Nat), .int .i64 (tn : Nat), .int .i64 (on : Nat), .slice da dl dc, .slice (some ⟨wb, wo, none⟩) yn wc, .int .i64 0, .int .i64 (tn : Nat), .slice (some ⟨wb, wo + yn, none⟩) (wl - yn) (wc - yn), .int .i64 (yn : Nat), .int .i64 (ou : Nat), .slice ta tl tc] 69)) ((w1.alloc (.cells #[.slice ca cn cc, .slice (some ⟨wb, wo, none⟩) wl wc, .int .i64 (yn : Nat), .int .i64 (tn : Nat), .int .i64 (on : Nat), .slice da dl dc, .slice (some ⟨wb, wo, none⟩) yn wc, .int .i64 0, .int .i64 (tn : Nat), .slice (some ⟨wb, wo + yn, none⟩) (wl - yn) (wc - yn), .int .i64 (yn : Nat), .int .i64 (ou : Nat), .slice ta tl tc] 69)).alloc (.cells #[.int .i64 ((p : Int) + 1), .int .i64 c0, .slice ya yl yc] 75))) := (bR.alloc (by first | exact hz | (simp; done) | (simp; omega) | (have := hz; simp at this ⊢; omega)) _)
  replace B := Proofs.Ytjbmcdekhhbiaaa.lA B BP
  replace XM := Proofs.Ytjbmcdekhhbiaaa.lA XM BP
  replace lM := lL lM
  replace XA := Proofs.Ytjbmcdekhhbiaaa.lA XA BP
  replace lA := lL lA
  have XT : Hid (∀ y, Below (w1.heap.size + 1 + 1) ((w1.alloc (.cells #[.slice ca cn cc, .slice (some ⟨wb, wo, none⟩) wl wc, .int .i64 (yn : Nat), .int .i64 (tn : Nat), .int .i64 (on : Nat), .slice da dl dc, .slice (some ⟨wb, wo, none⟩) yn wc, .int .i64 0, .int .i64 (tn : Nat), .slice (some ⟨wb, wo + yn, none⟩) (wl - yn) (wc - yn), .int .i64 (yn : Nat), .int .i64 (ou : Nat), .slice ta tl tc] 69)).alloc (.cells #[.int .i64 ((p : Int) + 1), .int .i64 c0, .slice ya yl yc] 75)) y → y.heap[w1.heap.size + 1]? = some (.cells #[.int .i64 ((p : Int) + 1), .int .i64 c0, .slice ya yl yc] 75 (0, 0))) := fun y hy => (hy.block _ (by omega)).trans (boxN _ _ _ _ (by simp))
  have lT : w1.heap.size + 1 < w1.heap.size + 1 + 1 := by omega
  replace hz : w1.heap.size + 1 + 1 ≤ (((w1.alloc (.cells #[.slice ca cn cc, .slice (some ⟨wb, wo, none⟩) wl wc, .int .i64 (yn : Nat), .int .i64 (tn : Nat), .int .i64 (on : Nat), .slice da dl dc, .slice (some ⟨wb, wo, none⟩) yn wc, .int .i64 0, .int .i64 (tn : Nat), .slice (some ⟨wb, wo + yn, none⟩) (wl - yn) (wc - yn), .int .i64 (yn : Nat), .int .i64 (ou : Nat), .slice ta tl tc] 69)).alloc (.cells #[.int .i64 ((p : Int) + 1), .int .i64 c0, .slice ya yl yc] 75))).heap.size := by simp
  clear BP
  generalize ((w1.alloc (.cells #[.slice ca cn cc, .slice (some ⟨wb, wo, none⟩) wl wc, .int .i64 (yn : Nat), .int .i64 (tn : Nat), .int .i64 (on : Nat), .slice da dl dc, .slice (some ⟨wb, wo, none⟩) yn wc, .int .i64 0, .int .i64 (tn : Nat), .slice (some ⟨wb, wo + yn, none⟩) (wl - yn) (wc - yn), .int .i64 (yn : Nat), .int .i64 (ou : Nat), .slice ta tl tc] 69)).alloc (.cells #[.int .i64 ((p : Int) + 1), .int .i64 c0, .slice ya yl yc] 75)) = w2 at B XM XA XT hz ⊢
  have hzn : w1.heap.size + 1 + 1 ≤ w2.heap.size := Nat.le_trans hz (Below.size (Below.refl (w1.heap.size + 1 + 1) w2))
  replace B := lF B (Below.refl (w1.heap.size + 1 + 1) w2) hzn
  replace XM := lF XM (Below.refl (w1.heap.size + 1 + 1) w2) hzn
  replace lM := Nat.lt_of_lt_of_le lM hzn
  replace XA := lF XA (Below.refl (w1.heap.size + 1 + 1) w2) hzn
  replace lA := Nat.lt_of_lt_of_le lA hzn
  replace XT := lF XT (Below.refl (w1.heap.size + 1 + 1) w2) hzn
  replace lT := Nat.lt_of_lt_of_le lT hzn
  clear hz
  have hz : w2.heap.size ≤ w2.heap.size := Nat.le_refl _
  obtain ⟨kM0, kM1, kM2, kM3, kM4⟩ := bk5 (XM.out w2 bR)
  obtain ⟨kA0, kA1, kA2, kA3, kA4, kA5, kA6, kA7, kA8, kA9, kA10, kA11, kA12⟩ := bk13 (XA.out w2 bR)
  obtain ⟨kT0, kT1, kT2⟩ := bk3 (XT.out w2 bR)
  go_wp2_with fail
  clear kM0 kM1 kM2 kM3 kM4 kA0 kA1 kA2 kA3 kA4 kA5 kA6 kA7 kA8 kA9 kA10 kA11 kA12 kT0 kT1 kT2
  have BP : Hid (Below (w2.heap.size) w2 w2) := bR
  refine (insideImpl ca cn cc wb wo wl wc yn tn on da dl dc wc (wl - yn) (wc - yn) ou ta tl tc p c0 ya yl yc _ hfit (by omega) hwl9).mono ?_
  rintro e w3 ⟨ra, rc, rfl, hra, hb⟩
  have hq : Below (w2.heap.size) w2 w3 := BP.out.trans (Below.mono hb (Nat.le_trans hz BP.out.size))
  have hzn : w2.heap.size ≤ w3.heap.size := Nat.le_trans hz hq.size
  replace B := lF B hq hzn
  replace XM := lF XM hq hzn
  replace lM := Nat.lt_of_lt_of_le lM hzn
  replace XA := lF XA hq hzn
  replace lA := Nat.lt_of_lt_of_le lA hzn
  replace XT := lF XT hq hzn
  replace lT := Nat.lt_of_lt_of_le lT hzn
  clear hq BP hz
  have hz : w3.heap.size ≤ w3.heap.size := Nat.le_refl _
  clear hb
  obtain rfl := hra (by omega)
  obtain ⟨b9, o9, e9, _, hcs⟩ := (HW.out.later (B.out w3 (Below.refl _ _))).one (p + hdN c0 + kn) (by omega)
  have hc := hcs (p + hdN c0 + kn) (by omega)
  obtain ⟨rfl, rfl⟩ : wb = b9 ∧ wo = o9 := by simpa using e9
  rw [show wo + (p + hdN c0 + kn) = wo + (p + hdN c0) + kn by omega] at hc
  clear hcs hra e9
  go_wp2_with fail
  go_ret2
  exact ⟨by rw [GV.out, GB.out]; rfl, B.out w3 (Below.refl _ _)⟩

end Go.Proofs.Ytjbmcdekhhbiaaa
