/-
  A thing and its memory, by the program: what it says; it writes nothing that was there.
-/
import Derived.Test.YthgnbahbfgljfaaMemIk
import Derived.Test.YthgnbahbfgljfaaMemSh
import Derived.Deep.Cut
namespace Go.Proofs.Ythgnbahbfgljfaa
open Go.ChangeShapes Go.WideShapes Go.ChangeAt Go.RowKit
set_option linter.unusedVariables false

theorem atT_of {T : List Th} (hi : Inc T) {j : Nat} {t : Th} (h : T[j]? = some t) : atT T t.1 = t := by
  have ha : isAt T t.1 = true := isAt_iff.2 ⟨t, List.mem_of_getElem? h, rfl⟩
  obtain ⟨hm, hv⟩ := atT_mem ha
  obtain ⟨i, hi0⟩ := List.getElem?_of_mem hm
  rcases Nat.lt_trichotomy i j with h1 | h1 | h1
  · have := hi i j _ _ hi0 h h1; omega
  · subst h1; rw [h] at hi0; exact (Option.some.inj hi0).symm
  · have := hi j i _ _ h hi0 h1; omega

theorem plB_in (k : Int) (n : Nat) : plB k n = inI k 0 ((n : Int) - 1) := by
  unfold plB inI
  rw [show decide (k < (n : Int)) = decide (k ≤ (n : Int) - 1) from decide_eq_decide.2 (by omega)]
/-- What is found at a place of a memory, with it. -/
def HoldP (w : World) (ca : Option Addr) (cn cc : Nat) (wa : Option Addr) (wl wc : Nat) (yg tp od : Int) (da : Option Addr) (dl dc : Nat) (L : List Cl) (ws : List Int) (cd : List Bool) (v k : Int) (e : Ending) (w' : World) : Prop :=
  (getB L (ws, yg, tp, od, cd) v k = false → ∃ x0 y0 z0 x1 y1 z1 x2 x3 x4 x5 y5 z5 x6 y6 z6 x7 x8 x9 y9 z9 x10 x11 x12 y12 z12 u0 u1 u2 u3 u4, e = .returned (.tuple #[.agg #[.slice x0 y0 z0, .slice x1 y1 z1, .int .i64 x2, .int .i64 x3, .int .i64 x4, .slice x5 y5 z5, .slice x6 y6 z6, .int .i64 x7, .int .i64 x8, .slice x9 y9 z9, .int .i64 x10, .int .i64 x11, .slice x12 y12 z12], .agg #[.int .i64 u0, .int .i64 u1, .slice u2 u3 u4], .bool false])) ∧
  (getB L (ws, yg, tp, od, cd) v k = true → ∃ (wb wo yn tn on ou : Nat) (ta : Option Addr) (tl tc : Nat) (c0 : Int) (ty : List Int) (ya : Option Addr) (yl yc : Nat), wa = some ⟨wb, wo, none⟩ ∧ yg = yn ∧ tp = tn ∧ od = on ∧ ou = on - yn ∧ memB L (ws, yg, tp, od, cd) = true ∧ isAt (thT L (ws, yg, tp, od, cd)) v = true ∧ e = .returned (.tuple #[.agg #[.slice ca cn cc, .slice (some ⟨wb, wo, none⟩) wl wc, .int .i64 (yn : Nat), .int .i64 (tn : Nat), .int .i64 (on : Nat), .slice da dl dc, .slice (some ⟨wb, wo, none⟩) yn wc, .int .i64 0, .int .i64 (tn : Nat), .slice (some ⟨wb, wo + yn, none⟩) (wl - yn) (wc - yn), .int .i64 (yn : Nat), .int .i64 (ou : Nat), .slice ta tl tc], .agg #[.int .i64 v, .int .i64 c0, .slice ya yl yc], .bool true]) ∧ tl = (thT L (ws, yg, tp, od, cd)).length ∧ ThRow (fun b => w.heap.size ≤ b) w' (.slice ta tl tc) (thT L (ws, yg, tp, od, cd)) ∧ atT (thT L (ws, yg, tp, od, cd)) v = (v, c0, ty) ∧ IntsAt (fun b => w.heap.size ≤ b) w' ya yl ty) ∧ Below w.heap.size w w'
set_option maxRecDepth 100000 in
set_option maxHeartbeats 16000000 in
theorem holdImpl (ca : Option Addr) (cn cc : Nat) (wa : Option Addr) (wl wc : Nat) (yg tp od : Int) (da : Option Addr) (dl dc : Nat) (v k : Int) (ws : List Int) (cd : List Bool) (L : List Cl) (w : World) {D E G G2 : Nat → Prop} (h : ClsAt D E w ca cn L) (hw : IntsAt G w wa wl ws) (hc : SlAt boolR G2 w da dl cd) (hyg : i64B yg) (hl : wl ≤ 1048576) (hd : dl ≤ 1048576) (hcap : wl ≤ wc) (hv : i64B v) (hk : i64B k) : Calls Try.prog 56 #[.slice ca cn cc, .agg #[.slice wa wl wc, .int .i64 yg, .int .i64 tp, .int .i64 od, .slice da dl dc], .int .i64 v, .int .i64 k] w (HoldP w ca cn cc wa wl wc yg tp od da dl dc L ws cd v k) := by
  have H : Hid (ClsAt D E w ca cn L) := h
  have HW : Hid (IntsAt G w wa wl ws) := hw
  have HC : Hid (SlAt boolR G2 w da dl cd) := hc
  have WS : Hid (ws.length = wl) := hw.size
  have CS : Hid (cd.length = dl) := hc.size
  clear h hw hc
  have hk1 := hk.1
  have hk2 := hk.2
  have hz : w.heap.size + 1 + 1 + 1 ≤ (((w.alloc (.cells #[.slice wa wl wc, .int .i64 yg, .int .i64 tp, .int .i64 od, .slice da dl dc] 25)).alloc (.cells #[.slice none 0 0, .slice none 0 0, .int .i64 0, .int .i64 0, .int .i64 0, .slice none 0 0, .slice none 0 0, .int .i64 0, .int .i64 0, .slice none 0 0, .int .i64 0, .int .i64 0, .slice none 0 0] 69)).alloc (.cells #[.int .i64 0, .int .i64 0, .slice none 0 0] 75)).heap.size := by simp
  have B : Hid (∀ y, Below (w.heap.size + 1 + 1 + 1) (((w.alloc (.cells #[.slice wa wl wc, .int .i64 yg, .int .i64 tp, .int .i64 od, .slice da dl dc] 25)).alloc (.cells #[.slice none 0 0, .slice none 0 0, .int .i64 0, .int .i64 0, .int .i64 0, .slice none 0 0, .slice none 0 0, .int .i64 0, .int .i64 0, .slice none 0 0, .int .i64 0, .int .i64 0, .slice none 0 0] 69)).alloc (.cells #[.int .i64 0, .int .i64 0, .slice none 0 0] 75)) y → Below w.heap.size w y) := fun y hy => ((((bR).alloc (by first | exact Nat.le_refl _ | (simp; done) | (simp; omega)) _).alloc (by first | exact Nat.le_refl _ | (simp; done) | (simp; omega)) _).alloc (by first | exact Nat.le_refl _ | (simp; done) | (simp; omega)) _).trans (hy.mono (by omega))
  have XM : Hid (∀ y, Below (w.heap.size + 1 + 1 + 1) (((w.alloc (.cells #[.slice wa wl wc, .int .i64 yg, .int .i64 tp, .int .i64 od, .slice da dl dc] 25)).alloc (.cells #[.slice none 0 0, .slice none 0 0, .int .i64 0, .int .i64 0, .int .i64 0, .slice none 0 0, .slice none 0 0, .int .i64 0, .int .i64 0, .slice none 0 0, .int .i64 0, .int .i64 0, .slice none 0 0] 69)).alloc (.cells #[.int .i64 0, .int .i64 0, .slice none 0 0] 75)) y → y.heap[w.heap.size]? = some (.cells #[.slice wa wl wc, .int .i64 yg, .int .i64 tp, .int .i64 od, .slice da dl dc] 25 (0, 0))) := fun y hy => (hy.block _ (by omega)).trans ((Below.heap_alloc _ _ _ (by first | (simp; done) | (simp; omega))).trans ((Below.heap_alloc _ _ _ (by first | (simp; done) | (simp; omega))).trans (boxN _ _ _ _ (by simp))))
  have lM : w.heap.size < w.heap.size + 1 + 1 + 1 := by omega
  have XR : Hid (∀ y, Below (w.heap.size + 1 + 1 + 1) (((w.alloc (.cells #[.slice wa wl wc, .int .i64 yg, .int .i64 tp, .int .i64 od, .slice da dl dc] 25)).alloc (.cells #[.slice none 0 0, .slice none 0 0, .int .i64 0, .int .i64 0, .int .i64 0, .slice none 0 0, .slice none 0 0, .int .i64 0, .int .i64 0, .slice none 0 0, .int .i64 0, .int .i64 0, .slice none 0 0] 69)).alloc (.cells #[.int .i64 0, .int .i64 0, .slice none 0 0] 75)) y → y.heap[w.heap.size + 1]? = some (.cells #[.slice none 0 0, .slice none 0 0, .int .i64 0, .int .i64 0, .int .i64 0, .slice none 0 0, .slice none 0 0, .int .i64 0, .int .i64 0, .slice none 0 0, .int .i64 0, .int .i64 0, .slice none 0 0] 69 (0, 0))) := fun y hy => (hy.block _ (by omega)).trans ((Below.heap_alloc _ _ _ (by first | (simp; done) | (simp; omega))).trans (boxN _ _ _ _ (by simp)))
  have lR : w.heap.size + 1 < w.heap.size + 1 + 1 + 1 := by omega
  have XS : Hid (∀ y, Below (w.heap.size + 1 + 1 + 1) (((w.alloc (.cells #[.slice wa wl wc, .int .i64 yg, .int .i64 tp, .int .i64 od, .slice da dl dc] 25)).alloc (.cells #[.slice none 0 0, .slice none 0 0, .int .i64 0, .int .i64 0, .int .i64 0, .slice none 0 0, .slice none 0 0, .int .i64 0, .int .i64 0, .slice none 0 0, .int .i64 0, .int .i64 0, .slice none 0 0] 69)).alloc (.cells #[.int .i64 0, .int .i64 0, .slice none 0 0] 75)) y → y.heap[w.heap.size + 1 + 1]? = some (.cells #[.int .i64 0, .int .i64 0, .slice none 0 0] 75 (0, 0))) := fun y hy => (hy.block _ (by omega)).trans (boxN _ _ _ _ (by simp))
  have lS : w.heap.size + 1 + 1 < w.heap.size + 1 + 1 + 1 := by omega
  go_enter Try.func56, Try.ntmps56
  go_wp2_with fail
  have BP : Hid (Below (w.heap.size + 1 + 1 + 1) (((w.alloc (.cells #[.slice wa wl wc, .int .i64 yg, .int .i64 tp, .int .i64 od, .slice da dl dc] 25)).alloc (.cells #[.slice none 0 0, .slice none 0 0, .int .i64 0, .int .i64 0, .int .i64 0, .slice none 0 0, .slice none 0 0, .int .i64 0, .int .i64 0, .slice none 0 0, .int .i64 0, .int .i64 0, .slice none 0 0] 69)).alloc (.cells #[.int .i64 0, .int .i64 0, .slice none 0 0] 75)) (((w.alloc (.cells #[.slice wa wl wc, .int .i64 yg, .int .i64 tp, .int .i64 od, .slice da dl dc] 25)).alloc (.cells #[.slice none 0 0, .slice none 0 0, .int .i64 0, .int .i64 0, .int .i64 0, .slice none 0 0, .slice none 0 0, .int .i64 0, .int .i64 0, .slice none 0 0, .int .i64 0, .int .i64 0, .slice none 0 0] 69)).alloc (.cells #[.int .i64 0, .int .i64 0, .slice none 0 0] 75))) := (bR)
  refine (memoryImpl _ _ _ _ _ _ yg tp od _ _ _ ws cd L _ (H.out.later (B.out _ BP.out)) (HW.out.later (B.out _ BP.out)) (HC.out.later (B.out _ BP.out)) hyg hl hd hcap).mono ?_
  rintro e w1 ⟨hno, hyes, hb⟩
  have hq : Below (w.heap.size + 1 + 1 + 1) (((w.alloc (.cells #[.slice wa wl wc, .int .i64 yg, .int .i64 tp, .int .i64 od, .slice da dl dc] 25)).alloc (.cells #[.slice none 0 0, .slice none 0 0, .int .i64 0, .int .i64 0, .int .i64 0, .slice none 0 0, .slice none 0 0, .int .i64 0, .int .i64 0, .slice none 0 0, .int .i64 0, .int .i64 0, .slice none 0 0] 69)).alloc (.cells #[.int .i64 0, .int .i64 0, .slice none 0 0] 75)) w1 := BP.out.trans (Below.mono hb (Nat.le_trans hz BP.out.size))
  have hzn : w.heap.size + 1 + 1 + 1 ≤ w1.heap.size := Nat.le_trans hz hq.size
  replace B : Hid (∀ y, Below w1.heap.size w1 y → Below w.heap.size w y) := fun y hy => B.out y (hq.trans (hy.mono hzn))
  replace XM : Hid (∀ y, Below w1.heap.size w1 y → y.heap[w.heap.size]? = some (.cells #[.slice wa wl wc, .int .i64 yg, .int .i64 tp, .int .i64 od, .slice da dl dc] 25 (0, 0))) := fun y hy => (hy.block _ (by omega)).trans ((hq.block _ (by omega)).trans (XM.out (((w.alloc (.cells #[.slice wa wl wc, .int .i64 yg, .int .i64 tp, .int .i64 od, .slice da dl dc] 25)).alloc (.cells #[.slice none 0 0, .slice none 0 0, .int .i64 0, .int .i64 0, .int .i64 0, .slice none 0 0, .slice none 0 0, .int .i64 0, .int .i64 0, .slice none 0 0, .int .i64 0, .int .i64 0, .slice none 0 0] 69)).alloc (.cells #[.int .i64 0, .int .i64 0, .slice none 0 0] 75)) (bR)))
  replace lM : w.heap.size < w1.heap.size := by omega
  replace XR : Hid (∀ y, Below w1.heap.size w1 y → y.heap[w.heap.size + 1]? = some (.cells #[.slice none 0 0, .slice none 0 0, .int .i64 0, .int .i64 0, .int .i64 0, .slice none 0 0, .slice none 0 0, .int .i64 0, .int .i64 0, .slice none 0 0, .int .i64 0, .int .i64 0, .slice none 0 0] 69 (0, 0))) := fun y hy => (hy.block _ (by omega)).trans ((hq.block _ (by omega)).trans (XR.out (((w.alloc (.cells #[.slice wa wl wc, .int .i64 yg, .int .i64 tp, .int .i64 od, .slice da dl dc] 25)).alloc (.cells #[.slice none 0 0, .slice none 0 0, .int .i64 0, .int .i64 0, .int .i64 0, .slice none 0 0, .slice none 0 0, .int .i64 0, .int .i64 0, .slice none 0 0, .int .i64 0, .int .i64 0, .slice none 0 0] 69)).alloc (.cells #[.int .i64 0, .int .i64 0, .slice none 0 0] 75)) (bR)))
  replace lR : w.heap.size + 1 < w1.heap.size := by omega
  replace XS : Hid (∀ y, Below w1.heap.size w1 y → y.heap[w.heap.size + 1 + 1]? = some (.cells #[.int .i64 0, .int .i64 0, .slice none 0 0] 75 (0, 0))) := fun y hy => (hy.block _ (by omega)).trans ((hq.block _ (by omega)).trans (XS.out (((w.alloc (.cells #[.slice wa wl wc, .int .i64 yg, .int .i64 tp, .int .i64 od, .slice da dl dc] 25)).alloc (.cells #[.slice none 0 0, .slice none 0 0, .int .i64 0, .int .i64 0, .int .i64 0, .slice none 0 0, .slice none 0 0, .int .i64 0, .int .i64 0, .slice none 0 0, .int .i64 0, .int .i64 0, .slice none 0 0] 69)).alloc (.cells #[.int .i64 0, .int .i64 0, .slice none 0 0] 75)) (bR)))
  replace lS : w.heap.size + 1 + 1 < w1.heap.size := by omega
  clear hq BP hz
  have hz : w1.heap.size ≤ w1.heap.size := Nat.le_refl _
  clear hb
  cases hq : memB L (ws, yg, tp, od, cd)
  · obtain ⟨x0, y0, z0, x1, y1, z1, x2, x3, x4, x5, y5, z5, x6, y6, z6, x7, x8, x9, y9, z9, x10, x11, x12, y12, z12, rfl⟩ := hno hq
    clear hno hyes
    have GF : Hid (getB L (ws, yg, tp, od, cd) v k = false) := getB_no hq
    have kM0 : w1.cell? ⟨w.heap.size, 0, none⟩ = some (.slice wa wl wc) := (boxG (XM.out w1 (bR)) 0).1
    have kM1 : w1.cell? ⟨w.heap.size, 1, none⟩ = some (.int .i64 yg) := (boxG (XM.out w1 (bR)) 1).1
    have kM2 : w1.cell? ⟨w.heap.size, 2, none⟩ = some (.int .i64 tp) := (boxG (XM.out w1 (bR)) 2).1
    have kM3 : w1.cell? ⟨w.heap.size, 3, none⟩ = some (.int .i64 od) := (boxG (XM.out w1 (bR)) 3).1
    have kM4 : w1.cell? ⟨w.heap.size, 4, none⟩ = some (.slice da dl dc) := (boxG (XM.out w1 (bR)) 4).1
    go_upto_region 2 with fail
    clear kM0 kM1 kM2 kM3 kM4
    have BP : Hid (Below (w1.heap.size) w1 (w1.alloc (.cells #[.slice x0 y0 z0, .slice x1 y1 z1, .int .i64 x2, .int .i64 x3, .int .i64 x4, .slice x5 y5 z5, .slice x6 y6 z6, .int .i64 x7, .int .i64 x8, .slice x9 y9 z9, .int .i64 x10, .int .i64 x11, .slice x12 y12 z12] 69))) := ((bR).alloc (by first | exact hz | (simp; done) | (simp; omega) | (have := hz; simp at this ⊢; omega)) _)
    replace B : Hid (∀ y, Below (w1.heap.size + 1) (w1.alloc (.cells #[.slice x0 y0 z0, .slice x1 y1 z1, .int .i64 x2, .int .i64 x3, .int .i64 x4, .slice x5 y5 z5, .slice x6 y6 z6, .int .i64 x7, .int .i64 x8, .slice x9 y9 z9, .int .i64 x10, .int .i64 x11, .slice x12 y12 z12] 69)) y → Below w.heap.size w y) := fun y hy => B.out y (BP.out.trans (hy.mono (by omega)))
    replace XM : Hid (∀ y, Below (w1.heap.size + 1) (w1.alloc (.cells #[.slice x0 y0 z0, .slice x1 y1 z1, .int .i64 x2, .int .i64 x3, .int .i64 x4, .slice x5 y5 z5, .slice x6 y6 z6, .int .i64 x7, .int .i64 x8, .slice x9 y9 z9, .int .i64 x10, .int .i64 x11, .slice x12 y12 z12] 69)) y → y.heap[w.heap.size]? = some (.cells #[.slice wa wl wc, .int .i64 yg, .int .i64 tp, .int .i64 od, .slice da dl dc] 25 (0, 0))) := fun y hy => XM.out y (BP.out.trans (hy.mono (by omega)))
    replace lM : w.heap.size < w1.heap.size + 1 := by omega
    replace XR : Hid (∀ y, Below (w1.heap.size + 1) (w1.alloc (.cells #[.slice x0 y0 z0, .slice x1 y1 z1, .int .i64 x2, .int .i64 x3, .int .i64 x4, .slice x5 y5 z5, .slice x6 y6 z6, .int .i64 x7, .int .i64 x8, .slice x9 y9 z9, .int .i64 x10, .int .i64 x11, .slice x12 y12 z12] 69)) y → y.heap[w.heap.size + 1]? = some (.cells #[.slice none 0 0, .slice none 0 0, .int .i64 0, .int .i64 0, .int .i64 0, .slice none 0 0, .slice none 0 0, .int .i64 0, .int .i64 0, .slice none 0 0, .int .i64 0, .int .i64 0, .slice none 0 0] 69 (0, 0))) := fun y hy => XR.out y (BP.out.trans (hy.mono (by omega)))
    replace lR : w.heap.size + 1 < w1.heap.size + 1 := by omega
    replace XS : Hid (∀ y, Below (w1.heap.size + 1) (w1.alloc (.cells #[.slice x0 y0 z0, .slice x1 y1 z1, .int .i64 x2, .int .i64 x3, .int .i64 x4, .slice x5 y5 z5, .slice x6 y6 z6, .int .i64 x7, .int .i64 x8, .slice x9 y9 z9, .int .i64 x10, .int .i64 x11, .slice x12 y12 z12] 69)) y → y.heap[w.heap.size + 1 + 1]? = some (.cells #[.int .i64 0, .int .i64 0, .slice none 0 0] 75 (0, 0))) := fun y hy => XS.out y (BP.out.trans (hy.mono (by omega)))
    replace lS : w.heap.size + 1 + 1 < w1.heap.size + 1 := by omega
    have XA : Hid (∀ y, Below (w1.heap.size + 1) (w1.alloc (.cells #[.slice x0 y0 z0, .slice x1 y1 z1, .int .i64 x2, .int .i64 x3, .int .i64 x4, .slice x5 y5 z5, .slice x6 y6 z6, .int .i64 x7, .int .i64 x8, .slice x9 y9 z9, .int .i64 x10, .int .i64 x11, .slice x12 y12 z12] 69)) y → y.heap[w1.heap.size]? = some (.cells #[.slice x0 y0 z0, .slice x1 y1 z1, .int .i64 x2, .int .i64 x3, .int .i64 x4, .slice x5 y5 z5, .slice x6 y6 z6, .int .i64 x7, .int .i64 x8, .slice x9 y9 z9, .int .i64 x10, .int .i64 x11, .slice x12 y12 z12] 69 (0, 0))) := fun y hy => (hy.block _ (by omega)).trans (boxN _ _ _ _ (by simp))
    have lA : w1.heap.size < w1.heap.size + 1 := by omega
    replace hz : w1.heap.size + 1 ≤ ((w1.alloc (.cells #[.slice x0 y0 z0, .slice x1 y1 z1, .int .i64 x2, .int .i64 x3, .int .i64 x4, .slice x5 y5 z5, .slice x6 y6 z6, .int .i64 x7, .int .i64 x8, .slice x9 y9 z9, .int .i64 x10, .int .i64 x11, .slice x12 y12 z12] 69))).heap.size := by simp
    clear BP
    generalize (w1.alloc (.cells #[.slice x0 y0 z0, .slice x1 y1 z1, .int .i64 x2, .int .i64 x3, .int .i64 x4, .slice x5 y5 z5, .slice x6 y6 z6, .int .i64 x7, .int .i64 x8, .slice x9 y9 z9, .int .i64 x10, .int .i64 x11, .slice x12 y12 z12] 69)) = w1g at B XM XR XS XA hz ⊢
    have hzn : w1.heap.size + 1 ≤ w1g.heap.size := Nat.le_trans hz (Below.size (Below.refl (w1.heap.size + 1) w1g))
    replace B : Hid (∀ y, Below w1g.heap.size w1g y → Below w.heap.size w y) := fun y hy => B.out y (Below.trans (Below.refl (w1.heap.size + 1) w1g) (hy.mono hzn))
    replace XM : Hid (∀ y, Below w1g.heap.size w1g y → y.heap[w.heap.size]? = some (.cells #[.slice wa wl wc, .int .i64 yg, .int .i64 tp, .int .i64 od, .slice da dl dc] 25 (0, 0))) := fun y hy => XM.out y (Below.trans (Below.refl (w1.heap.size + 1) w1g) (hy.mono hzn))
    replace lM : w.heap.size < w1g.heap.size := by omega
    replace XR : Hid (∀ y, Below w1g.heap.size w1g y → y.heap[w.heap.size + 1]? = some (.cells #[.slice none 0 0, .slice none 0 0, .int .i64 0, .int .i64 0, .int .i64 0, .slice none 0 0, .slice none 0 0, .int .i64 0, .int .i64 0, .slice none 0 0, .int .i64 0, .int .i64 0, .slice none 0 0] 69 (0, 0))) := fun y hy => XR.out y (Below.trans (Below.refl (w1.heap.size + 1) w1g) (hy.mono hzn))
    replace lR : w.heap.size + 1 < w1g.heap.size := by omega
    replace XS : Hid (∀ y, Below w1g.heap.size w1g y → y.heap[w.heap.size + 1 + 1]? = some (.cells #[.int .i64 0, .int .i64 0, .slice none 0 0] 75 (0, 0))) := fun y hy => XS.out y (Below.trans (Below.refl (w1.heap.size + 1) w1g) (hy.mono hzn))
    replace lS : w.heap.size + 1 + 1 < w1g.heap.size := by omega
    replace XA : Hid (∀ y, Below w1g.heap.size w1g y → y.heap[w1.heap.size]? = some (.cells #[.slice x0 y0 z0, .slice x1 y1 z1, .int .i64 x2, .int .i64 x3, .int .i64 x4, .slice x5 y5 z5, .slice x6 y6 z6, .int .i64 x7, .int .i64 x8, .slice x9 y9 z9, .int .i64 x10, .int .i64 x11, .slice x12 y12 z12] 69 (0, 0))) := fun y hy => XA.out y (Below.trans (Below.refl (w1.heap.size + 1) w1g) (hy.mono hzn))
    replace lA : w1.heap.size < w1g.heap.size := by omega
    clear hz
    have hz : w1g.heap.size ≤ w1g.heap.size := Nat.le_refl _
    go_upto_region 3 with fail
    have kR0 : w1g.cell? ⟨w.heap.size + 1, 0, none⟩ = some (.slice none 0 0) := (boxG (XR.out w1g (bR)) 0).1
    have qkR0 : w1g.frozen? ⟨w.heap.size + 1, 0, none⟩ = false := (boxG (XR.out w1g (bR)) 0).2
    have kR1 : w1g.cell? ⟨w.heap.size + 1, 1, none⟩ = some (.slice none 0 0) := (boxG (XR.out w1g (bR)) 1).1
    have qkR1 : w1g.frozen? ⟨w.heap.size + 1, 1, none⟩ = false := (boxG (XR.out w1g (bR)) 1).2
    have kR2 : w1g.cell? ⟨w.heap.size + 1, 2, none⟩ = some (.int .i64 0) := (boxG (XR.out w1g (bR)) 2).1
    have qkR2 : w1g.frozen? ⟨w.heap.size + 1, 2, none⟩ = false := (boxG (XR.out w1g (bR)) 2).2
    have kR3 : w1g.cell? ⟨w.heap.size + 1, 3, none⟩ = some (.int .i64 0) := (boxG (XR.out w1g (bR)) 3).1
    have qkR3 : w1g.frozen? ⟨w.heap.size + 1, 3, none⟩ = false := (boxG (XR.out w1g (bR)) 3).2
    have kR4 : w1g.cell? ⟨w.heap.size + 1, 4, none⟩ = some (.int .i64 0) := (boxG (XR.out w1g (bR)) 4).1
    have qkR4 : w1g.frozen? ⟨w.heap.size + 1, 4, none⟩ = false := (boxG (XR.out w1g (bR)) 4).2
    have kR5 : w1g.cell? ⟨w.heap.size + 1, 5, none⟩ = some (.slice none 0 0) := (boxG (XR.out w1g (bR)) 5).1
    have qkR5 : w1g.frozen? ⟨w.heap.size + 1, 5, none⟩ = false := (boxG (XR.out w1g (bR)) 5).2
    have kR6 : w1g.cell? ⟨w.heap.size + 1, 6, none⟩ = some (.slice none 0 0) := (boxG (XR.out w1g (bR)) 6).1
    have qkR6 : w1g.frozen? ⟨w.heap.size + 1, 6, none⟩ = false := (boxG (XR.out w1g (bR)) 6).2
    have kR7 : w1g.cell? ⟨w.heap.size + 1, 7, none⟩ = some (.int .i64 0) := (boxG (XR.out w1g (bR)) 7).1
    have qkR7 : w1g.frozen? ⟨w.heap.size + 1, 7, none⟩ = false := (boxG (XR.out w1g (bR)) 7).2
    have kR8 : w1g.cell? ⟨w.heap.size + 1, 8, none⟩ = some (.int .i64 0) := (boxG (XR.out w1g (bR)) 8).1
    have qkR8 : w1g.frozen? ⟨w.heap.size + 1, 8, none⟩ = false := (boxG (XR.out w1g (bR)) 8).2
    have kR9 : w1g.cell? ⟨w.heap.size + 1, 9, none⟩ = some (.slice none 0 0) := (boxG (XR.out w1g (bR)) 9).1
    have qkR9 : w1g.frozen? ⟨w.heap.size + 1, 9, none⟩ = false := (boxG (XR.out w1g (bR)) 9).2
    have kR10 : w1g.cell? ⟨w.heap.size + 1, 10, none⟩ = some (.int .i64 0) := (boxG (XR.out w1g (bR)) 10).1
    have qkR10 : w1g.frozen? ⟨w.heap.size + 1, 10, none⟩ = false := (boxG (XR.out w1g (bR)) 10).2
    have kR11 : w1g.cell? ⟨w.heap.size + 1, 11, none⟩ = some (.int .i64 0) := (boxG (XR.out w1g (bR)) 11).1
    have qkR11 : w1g.frozen? ⟨w.heap.size + 1, 11, none⟩ = false := (boxG (XR.out w1g (bR)) 11).2
    have kR12 : w1g.cell? ⟨w.heap.size + 1, 12, none⟩ = some (.slice none 0 0) := (boxG (XR.out w1g (bR)) 12).1
    have qkR12 : w1g.frozen? ⟨w.heap.size + 1, 12, none⟩ = false := (boxG (XR.out w1g (bR)) 12).2
    have kS0 : w1g.cell? ⟨w.heap.size + 1 + 1, 0, none⟩ = some (.int .i64 0) := (boxG (XS.out w1g (bR)) 0).1
    have qkS0 : w1g.frozen? ⟨w.heap.size + 1 + 1, 0, none⟩ = false := (boxG (XS.out w1g (bR)) 0).2
    have kS1 : w1g.cell? ⟨w.heap.size + 1 + 1, 1, none⟩ = some (.int .i64 0) := (boxG (XS.out w1g (bR)) 1).1
    have qkS1 : w1g.frozen? ⟨w.heap.size + 1 + 1, 1, none⟩ = false := (boxG (XS.out w1g (bR)) 1).2
    have kS2 : w1g.cell? ⟨w.heap.size + 1 + 1, 2, none⟩ = some (.slice none 0 0) := (boxG (XS.out w1g (bR)) 2).1
    have qkS2 : w1g.frozen? ⟨w.heap.size + 1 + 1, 2, none⟩ = false := (boxG (XS.out w1g (bR)) 2).2
    go_wp2_with fail
    clear kR0 qkR0 kR1 qkR1 kR2 qkR2 kR3 qkR3 kR4 qkR4 kR5 qkR5 kR6 qkR6 kR7 qkR7 kR8 qkR8 kR9 qkR9 kR10 qkR10 kR11 qkR11 kR12 qkR12 kS0 qkS0 kS1 qkS1 kS2 qkS2
    generalize hW : (((((((((((((w1g.setCell ⟨w.heap.size + 1, 0, none⟩ (.slice none 0 0)).setCell ⟨w.heap.size + 1, 1, none⟩ (.slice none 0 0)).setCell ⟨w.heap.size + 1, 2, none⟩ (.int .i64 0)).setCell ⟨w.heap.size + 1, 3, none⟩ (.int .i64 0)).setCell ⟨w.heap.size + 1, 4, none⟩ (.int .i64 0)).setCell ⟨w.heap.size + 1, 5, none⟩ (.slice none 0 0)).setCell ⟨w.heap.size + 1, 6, none⟩ (.slice none 0 0)).setCell ⟨w.heap.size + 1, 7, none⟩ (.int .i64 0)).setCell ⟨w.heap.size + 1, 8, none⟩ (.int .i64 0)).setCell ⟨w.heap.size + 1, 9, none⟩ (.slice none 0 0)).setCell ⟨w.heap.size + 1, 10, none⟩ (.int .i64 0)).setCell ⟨w.heap.size + 1, 11, none⟩ (.int .i64 0)).setCell ⟨w.heap.size + 1, 12, none⟩ (.slice none 0 0)) = wB1
    have hsB : wB1.heap.size = w1g.heap.size := by subst hW; simp
    have hw0 : w.heap.size ≤ w.heap.size + 1 := (by first | omega | (simp; done) | (simp; omega) | (simp at *; omega))
    replace XM : Hid (∀ y, Below (w1g.heap.size) wB1 y → y.heap[w.heap.size]? = some (.cells #[.slice wa wl wc, .int .i64 yg, .int .i64 tp, .int .i64 od, .slice da dl dc] 25 (0, 0))) := fun y hy => by subst hW; exact (hy.block _ (by omega)).trans ((keep13 (by first | omega | (simp; done) | (simp; omega))).trans (XM.out w1g (bR)))
    replace XS : Hid (∀ y, Below (w1g.heap.size) wB1 y → y.heap[w.heap.size + 1 + 1]? = some (.cells #[.int .i64 0, .int .i64 0, .slice none 0 0] 75 (0, 0))) := fun y hy => by subst hW; exact (hy.block _ (by omega)).trans ((keep13 (by first | omega | (simp; done) | (simp; omega))).trans (XS.out w1g (bR)))
    replace XA : Hid (∀ y, Below (w1g.heap.size) wB1 y → y.heap[w1.heap.size]? = some (.cells #[.slice x0 y0 z0, .slice x1 y1 z1, .int .i64 x2, .int .i64 x3, .int .i64 x4, .slice x5 y5 z5, .slice x6 y6 z6, .int .i64 x7, .int .i64 x8, .slice x9 y9 z9, .int .i64 x10, .int .i64 x11, .slice x12 y12 z12] 69 (0, 0))) := fun y hy => by subst hW; exact (hy.block _ (by omega)).trans ((keep13 (by first | omega | (simp; done) | (simp; omega))).trans (XA.out w1g (bR)))
    replace XR : Hid (∀ y, Below (w1g.heap.size) wB1 y → y.heap[w.heap.size + 1]? = some (.cells #[.slice none 0 0, .slice none 0 0, .int .i64 0, .int .i64 0, .int .i64 0, .slice none 0 0, .slice none 0 0, .int .i64 0, .int .i64 0, .slice none 0 0, .int .i64 0, .int .i64 0, .slice none 0 0] 69 (0, 0))) := fun y hy => by subst hW; exact (hy.block _ (by omega)).trans (box13 (XR.out w1g (bR)) rfl _ _ _ _ _ _ _ _ _ _ _ _ _)
    replace B : Hid (∀ y, Below (w1g.heap.size) wB1 y → Below w.heap.size w y) := fun y hy => by subst hW; exact ((((((((((((((B.out w1g (bR)).setCell hw0 _).setCell hw0 _).setCell hw0 _).setCell hw0 _).setCell hw0 _).setCell hw0 _).setCell hw0 _).setCell hw0 _).setCell hw0 _).setCell hw0 _).setCell hw0 _).setCell hw0 _).setCell hw0 _).trans (hy.mono (by first | omega | exact Nat.le_trans (B.out w1g (bR)).size hz | (have := (B.out w1g (bR)).size; omega)))
    replace hz : w1g.heap.size ≤ wB1.heap.size := by subst hW; first | (simp; done) | simpa using hz
    clear hw0 hW
    have hw0 : w.heap.size ≤ w.heap.size + 1 + 1 := (by first | omega | (simp; done) | (simp; omega) | (simp at *; omega))
    replace XM : Hid (∀ y, Below (w1g.heap.size) (((wB1.setCell ⟨w.heap.size + 1 + 1, 0, none⟩ (.int .i64 0)).setCell ⟨w.heap.size + 1 + 1, 1, none⟩ (.int .i64 0)).setCell ⟨w.heap.size + 1 + 1, 2, none⟩ (.slice none 0 0)) y → y.heap[w.heap.size]? = some (.cells #[.slice wa wl wc, .int .i64 yg, .int .i64 tp, .int .i64 od, .slice da dl dc] 25 (0, 0))) := fun y hy => (hy.block _ (by omega)).trans ((Below.heap_setCell _ _ _ _ (by first | omega | (simp; done) | (simp; omega))).trans ((Below.heap_setCell _ _ _ _ (by first | omega | (simp; done) | (simp; omega))).trans ((Below.heap_setCell _ _ _ _ (by first | omega | (simp; done) | (simp; omega))).trans (XM.out wB1 (bR)))))
    replace XR : Hid (∀ y, Below (w1g.heap.size) (((wB1.setCell ⟨w.heap.size + 1 + 1, 0, none⟩ (.int .i64 0)).setCell ⟨w.heap.size + 1 + 1, 1, none⟩ (.int .i64 0)).setCell ⟨w.heap.size + 1 + 1, 2, none⟩ (.slice none 0 0)) y → y.heap[w.heap.size + 1]? = some (.cells #[.slice none 0 0, .slice none 0 0, .int .i64 0, .int .i64 0, .int .i64 0, .slice none 0 0, .slice none 0 0, .int .i64 0, .int .i64 0, .slice none 0 0, .int .i64 0, .int .i64 0, .slice none 0 0] 69 (0, 0))) := fun y hy => (hy.block _ (by omega)).trans ((Below.heap_setCell _ _ _ _ (by first | omega | (simp; done) | (simp; omega))).trans ((Below.heap_setCell _ _ _ _ (by first | omega | (simp; done) | (simp; omega))).trans ((Below.heap_setCell _ _ _ _ (by first | omega | (simp; done) | (simp; omega))).trans (XR.out wB1 (bR)))))
    replace XA : Hid (∀ y, Below (w1g.heap.size) (((wB1.setCell ⟨w.heap.size + 1 + 1, 0, none⟩ (.int .i64 0)).setCell ⟨w.heap.size + 1 + 1, 1, none⟩ (.int .i64 0)).setCell ⟨w.heap.size + 1 + 1, 2, none⟩ (.slice none 0 0)) y → y.heap[w1.heap.size]? = some (.cells #[.slice x0 y0 z0, .slice x1 y1 z1, .int .i64 x2, .int .i64 x3, .int .i64 x4, .slice x5 y5 z5, .slice x6 y6 z6, .int .i64 x7, .int .i64 x8, .slice x9 y9 z9, .int .i64 x10, .int .i64 x11, .slice x12 y12 z12] 69 (0, 0))) := fun y hy => (hy.block _ (by omega)).trans ((Below.heap_setCell _ _ _ _ (by first | omega | (simp; done) | (simp; omega))).trans ((Below.heap_setCell _ _ _ _ (by first | omega | (simp; done) | (simp; omega))).trans ((Below.heap_setCell _ _ _ _ (by first | omega | (simp; done) | (simp; omega))).trans (XA.out wB1 (bR)))))
    replace XS : Hid (∀ y, Below (w1g.heap.size) (((wB1.setCell ⟨w.heap.size + 1 + 1, 0, none⟩ (.int .i64 0)).setCell ⟨w.heap.size + 1 + 1, 1, none⟩ (.int .i64 0)).setCell ⟨w.heap.size + 1 + 1, 2, none⟩ (.slice none 0 0)) y → y.heap[w.heap.size + 1 + 1]? = some (.cells #[.int .i64 0, .int .i64 0, .slice none 0 0] 75 (0, 0))) := fun y hy => (hy.block _ (by omega)).trans (boxS (boxS (boxS (XS.out wB1 (bR)) 0 _) 1 _) 2 _)
    replace B : Hid (∀ y, Below (w1g.heap.size) (((wB1.setCell ⟨w.heap.size + 1 + 1, 0, none⟩ (.int .i64 0)).setCell ⟨w.heap.size + 1 + 1, 1, none⟩ (.int .i64 0)).setCell ⟨w.heap.size + 1 + 1, 2, none⟩ (.slice none 0 0)) y → Below w.heap.size w y) := fun y hy => ((((B.out wB1 (bR)).setCell hw0 _).setCell hw0 _).setCell hw0 _).trans (hy.mono (by first | omega | exact Nat.le_trans (B.out wB1 (bR)).size hz | (have := (B.out wB1 (bR)).size; omega)))
    replace hz : w1g.heap.size ≤ (((wB1.setCell ⟨w.heap.size + 1 + 1, 0, none⟩ (.int .i64 0)).setCell ⟨w.heap.size + 1 + 1, 1, none⟩ (.int .i64 0)).setCell ⟨w.heap.size + 1 + 1, 2, none⟩ (.slice none 0 0)).heap.size := by first | (simp; done) | simpa using hz
    clear hw0
    have BF : Hid (Below w.heap.size w ((((wB1.setCell ⟨w.heap.size + 1 + 1, 0, none⟩ (.int .i64 0)).setCell ⟨w.heap.size + 1 + 1, 1, none⟩ (.int .i64 0)).setCell ⟨w.heap.size + 1 + 1, 2, none⟩ (.slice none 0 0)))) := B.out _ (bR)
    have XC : Hid (((((wB1.setCell ⟨w.heap.size + 1 + 1, 0, none⟩ (.int .i64 0)).setCell ⟨w.heap.size + 1 + 1, 1, none⟩ (.int .i64 0)).setCell ⟨w.heap.size + 1 + 1, 2, none⟩ (.slice none 0 0))).heap[w.heap.size + 1]? = some (.cells #[.slice none 0 0, .slice none 0 0, .int .i64 0, .int .i64 0, .int .i64 0, .slice none 0 0, .slice none 0 0, .int .i64 0, .int .i64 0, .slice none 0 0, .int .i64 0, .int .i64 0, .slice none 0 0] 69 (0, 0))) := XR.out _ (bR)
    have XD : Hid (((((wB1.setCell ⟨w.heap.size + 1 + 1, 0, none⟩ (.int .i64 0)).setCell ⟨w.heap.size + 1 + 1, 1, none⟩ (.int .i64 0)).setCell ⟨w.heap.size + 1 + 1, 2, none⟩ (.slice none 0 0))).heap[w.heap.size + 1 + 1]? = some (.cells #[.int .i64 0, .int .i64 0, .slice none 0 0] 75 (0, 0))) := XS.out _ (bR)
    clear B XM XR XS XA hz
    generalize (((wB1.setCell ⟨w.heap.size + 1 + 1, 0, none⟩ (.int .i64 0)).setCell ⟨w.heap.size + 1 + 1, 1, none⟩ (.int .i64 0)).setCell ⟨w.heap.size + 1 + 1, 2, none⟩ (.slice none 0 0)) = wF at  BF XC XD ⊢
    have kXC0 : wF.cell? ⟨w.heap.size + 1, 0, none⟩ = some (.slice none 0 0) := (boxG XC.out 0).1
    have kXC1 : wF.cell? ⟨w.heap.size + 1, 1, none⟩ = some (.slice none 0 0) := (boxG XC.out 1).1
    have kXC2 : wF.cell? ⟨w.heap.size + 1, 2, none⟩ = some (.int .i64 0) := (boxG XC.out 2).1
    have kXC3 : wF.cell? ⟨w.heap.size + 1, 3, none⟩ = some (.int .i64 0) := (boxG XC.out 3).1
    have kXC4 : wF.cell? ⟨w.heap.size + 1, 4, none⟩ = some (.int .i64 0) := (boxG XC.out 4).1
    have kXC5 : wF.cell? ⟨w.heap.size + 1, 5, none⟩ = some (.slice none 0 0) := (boxG XC.out 5).1
    have kXC6 : wF.cell? ⟨w.heap.size + 1, 6, none⟩ = some (.slice none 0 0) := (boxG XC.out 6).1
    have kXC7 : wF.cell? ⟨w.heap.size + 1, 7, none⟩ = some (.int .i64 0) := (boxG XC.out 7).1
    have kXC8 : wF.cell? ⟨w.heap.size + 1, 8, none⟩ = some (.int .i64 0) := (boxG XC.out 8).1
    have kXC9 : wF.cell? ⟨w.heap.size + 1, 9, none⟩ = some (.slice none 0 0) := (boxG XC.out 9).1
    have kXC10 : wF.cell? ⟨w.heap.size + 1, 10, none⟩ = some (.int .i64 0) := (boxG XC.out 10).1
    have kXC11 : wF.cell? ⟨w.heap.size + 1, 11, none⟩ = some (.int .i64 0) := (boxG XC.out 11).1
    have kXC12 : wF.cell? ⟨w.heap.size + 1, 12, none⟩ = some (.slice none 0 0) := (boxG XC.out 12).1
    have kXD0 : wF.cell? ⟨w.heap.size + 1 + 1, 0, none⟩ = some (.int .i64 0) := (boxG XD.out 0).1
    have kXD1 : wF.cell? ⟨w.heap.size + 1 + 1, 1, none⟩ = some (.int .i64 0) := (boxG XD.out 1).1
    have kXD2 : wF.cell? ⟨w.heap.size + 1 + 1, 2, none⟩ = some (.slice none 0 0) := (boxG XD.out 2).1
    refine bodyPost_ret (v := .tuple #[.agg #[.slice none 0 0, .slice none 0 0, .int .i64 0, .int .i64 0, .int .i64 0, .slice none 0 0, .slice none 0 0, .int .i64 0, .int .i64 0, .slice none 0 0, .int .i64 0, .int .i64 0, .slice none 0 0], .agg #[.int .i64 0, .int .i64 0, .slice none 0 0], .bool false]) ?_ rfl ?_
    · simp [results, Try.results56, go_sem, kXC0, kXC1, kXC2, kXC3, kXC4, kXC5, kXC6, kXC7, kXC8, kXC9, kXC10, kXC11, kXC12, kXD0, kXD1, kXD2]
    · refine ⟨?_, ?_, BF.out⟩
      · exact fun _ => ⟨_, _, _, _, _, _, _, _, _, _, _, _, _, _, _, _, _, _, _, _, _, _, _, _, _, _, _, _, _, _, rfl⟩
      · intro h
        rw [GF.out] at h
        cases h
  have hB0 := (memB_ok hq).1
  have HB0 : Hid (Bnd L (ws, yg, tp, od, cd)) := hB0
  obtain ⟨wb, wo, yn, tn, on, ta, tc, rfl, rfl, rfl, rfl, rfl, hrow⟩ := hyes hq
  obtain ⟨k0, k1, k2, k3, k4, _⟩ := hB0
  have OK : Hid (clsOk L = true) := k0
  simp only [WS.out] at k1 k2 k3 k4
  have m1 : tn ≤ yn := by omega
  have m2 : yn ≤ on := by omega
  have m3 : on ≤ wl := by omega
  have m4 : wl ≤ 200 := by omega
  have HM : Hid (memB L (ws, (yn : Int), (tn : Int), (on : Int), cd) = true) := hq
  have TL0 : (thT L (ws, (yn : Int), (tn : Int), (on : Int), cd)).length ≤ wl := by have := thT_len HB0.out; simp only [WS.out] at this; exact this
  have TOK0 : Hid (∀ t ∈ thT L (ws, (yn : Int), (tn : Int), (on : Int), cd), TOk L (ws, (yn : Int), (tn : Int), (on : Int), cd) t) := (thT_ok HB0.out).1
  have INC0 : Hid (Inc (thT L (ws, (yn : Int), (tn : Int), (on : Int), cd))) := (thT_ok HB0.out).2.inc
  obtain ⟨T, hT⟩ : ∃ T, thT L (ws, (yn : Int), (tn : Int), (on : Int), cd) = T := ⟨_, rfl⟩
  have HT : Hid (thT L (ws, (yn : Int), (tn : Int), (on : Int), cd) = T) := hT
  rw [hT] at hrow TL0 TOK0 INC0
  rw [hT]
  obtain ⟨tl, htl⟩ : ∃ tl, T.length = tl := ⟨_, rfl⟩
  have TLE : Hid (T.length = tl) := htl
  rw [htl] at hrow TL0
  rw [htl]
  obtain ⟨ou, hou⟩ : ∃ ou, on - yn = ou := ⟨_, rfl⟩
  have OUE : Hid (on - yn = ou) := hou
  rw [hou]
  have ROW0 : Hid (ThRow (fun b => w.heap.size + 1 + 1 + 1 ≤ b ∧ b < w1.heap.size) w1 (.slice ta tl tc) T) := ThRow.mono hrow (fun b hb hl => ⟨by simpa using hb, hl⟩)
  clear hno hyes hrow k0 k1 k2 k3 k4 hyg hq hT htl hou
  have RW : Hid (∀ y, Below (w1.heap.size) w1 y → ThRow (fun b => w.heap.size + 1 + 1 + 1 ≤ b ∧ b < w1.heap.size) y (.slice ta tl tc) T) := fun y hy => ROW0.out.later hy
  have kM0 : w1.cell? ⟨w.heap.size, 0, none⟩ = some (.slice (some ⟨wb, wo, none⟩) wl wc) := (boxG (XM.out w1 (bR)) 0).1
  have kM1 : w1.cell? ⟨w.heap.size, 1, none⟩ = some (.int .i64 (yn : Nat)) := (boxG (XM.out w1 (bR)) 1).1
  have kM2 : w1.cell? ⟨w.heap.size, 2, none⟩ = some (.int .i64 (tn : Nat)) := (boxG (XM.out w1 (bR)) 2).1
  have kM3 : w1.cell? ⟨w.heap.size, 3, none⟩ = some (.int .i64 (on : Nat)) := (boxG (XM.out w1 (bR)) 3).1
  have kM4 : w1.cell? ⟨w.heap.size, 4, none⟩ = some (.slice da dl dc) := (boxG (XM.out w1 (bR)) 4).1
  go_wp2_with fail
  clear kM0 kM1 kM2 kM3 kM4
  have BP : Hid (Below (w1.heap.size) w1 (w1.alloc (.cells #[.slice ca cn cc, .slice (some ⟨wb, wo, none⟩) wl wc, .int .i64 (yn : Nat), .int .i64 (tn : Nat), .int .i64 (on : Nat), .slice da dl dc, .slice (some ⟨wb, wo, none⟩) yn wc, .int .i64 0, .int .i64 (tn : Nat), .slice (some ⟨wb, wo + yn, none⟩) (wl - yn) (wc - yn), .int .i64 (yn : Nat), .int .i64 (ou : Nat), .slice ta tl tc] 69))) := ((bR).alloc (by first | exact hz | (simp; done) | (simp; omega) | (have := hz; simp at this ⊢; omega)) _)
  refine (findImpl ca cn cc wb wo wl wc yn tn on da dl dc wc (wl - yn) (wc - yn) ou ta tl tc T v _ (fun b hb => Nat.lt_of_lt_of_le hb.2 BP.out.size) ((RW.out _ BP.out).sl TLE.out.symm (by omega)) INC0.out (by omega) hv).mono ?_
  rintro e w2 ⟨hfn, hfy, hb⟩
  have hq : Below (w1.heap.size) w1 w2 := BP.out.trans (Below.mono hb (Nat.le_trans hz BP.out.size))
  have hzn : w1.heap.size ≤ w2.heap.size := Nat.le_trans hz hq.size
  replace B : Hid (∀ y, Below w2.heap.size w2 y → Below w.heap.size w y) := fun y hy => B.out y (hq.trans (hy.mono hzn))
  replace RW : Hid (∀ y, Below w2.heap.size w2 y → ThRow (fun b => w.heap.size + 1 + 1 + 1 ≤ b ∧ b < w1.heap.size) y (.slice ta tl tc) T) := fun y hy => RW.out y (hq.trans (hy.mono hzn))
  replace XM : Hid (∀ y, Below w2.heap.size w2 y → y.heap[w.heap.size]? = some (.cells #[.slice (some ⟨wb, wo, none⟩) wl wc, .int .i64 (yn : Nat), .int .i64 (tn : Nat), .int .i64 (on : Nat), .slice da dl dc] 25 (0, 0))) := fun y hy => (hy.block _ (by omega)).trans ((hq.block _ (by omega)).trans (XM.out w1 (bR)))
  replace lM : w.heap.size < w2.heap.size := by omega
  replace XR : Hid (∀ y, Below w2.heap.size w2 y → y.heap[w.heap.size + 1]? = some (.cells #[.slice none 0 0, .slice none 0 0, .int .i64 0, .int .i64 0, .int .i64 0, .slice none 0 0, .slice none 0 0, .int .i64 0, .int .i64 0, .slice none 0 0, .int .i64 0, .int .i64 0, .slice none 0 0] 69 (0, 0))) := fun y hy => (hy.block _ (by omega)).trans ((hq.block _ (by omega)).trans (XR.out w1 (bR)))
  replace lR : w.heap.size + 1 < w2.heap.size := by omega
  replace XS : Hid (∀ y, Below w2.heap.size w2 y → y.heap[w.heap.size + 1 + 1]? = some (.cells #[.int .i64 0, .int .i64 0, .slice none 0 0] 75 (0, 0))) := fun y hy => (hy.block _ (by omega)).trans ((hq.block _ (by omega)).trans (XS.out w1 (bR)))
  replace lS : w.heap.size + 1 + 1 < w2.heap.size := by omega
  have lA : w1.heap.size < w2.heap.size := Nat.lt_of_lt_of_le (by first | (simp; done) | (simp; omega)) (Below.size hb)
  have XA : Hid (∀ y, Below w2.heap.size w2 y → y.heap[w1.heap.size]? = some (.cells #[.slice ca cn cc, .slice (some ⟨wb, wo, none⟩) wl wc, .int .i64 (yn : Nat), .int .i64 (tn : Nat), .int .i64 (on : Nat), .slice da dl dc, .slice (some ⟨wb, wo, none⟩) yn wc, .int .i64 0, .int .i64 (tn : Nat), .slice (some ⟨wb, wo + yn, none⟩) (wl - yn) (wc - yn), .int .i64 (yn : Nat), .int .i64 (ou : Nat), .slice ta tl tc] 69 (0, 0))) := fun y hy => (hy.block _ lA).trans ((Below.block hb _ (by first | (simp; done) | (simp; omega))).trans (boxN _ _ _ _ (by simp)))
  clear hq BP hz
  have hz : w2.heap.size ≤ w2.heap.size := Nat.le_refl _
  clear hb
  cases hi : isAt T v
  · obtain rfl := hfn hi
    clear hfn hfy
    have GF : Hid (getB L (ws, (yn : Int), (tn : Int), (on : Int), cd) v k = false) := getB_none (by rw [HT.out]; exact hi)
    have nR : ¬ (fun b => w.heap.size + 1 + 1 + 1 ≤ b ∧ b < w1.heap.size) (w.heap.size + 1) := by
      intro h
      have h1 : w.heap.size + 1 + 1 + 1 ≤ w.heap.size + 1 := h.1
      omega
    have nS : ¬ (fun b => w.heap.size + 1 + 1 + 1 ≤ b ∧ b < w1.heap.size) (w.heap.size + 1 + 1) := by
      intro h
      have h1 : w.heap.size + 1 + 1 + 1 ≤ w.heap.size + 1 + 1 := h.1
      omega
    have kM0 : w2.cell? ⟨w.heap.size, 0, none⟩ = some (.slice (some ⟨wb, wo, none⟩) wl wc) := (boxG (XM.out w2 (bR)) 0).1
    have kM1 : w2.cell? ⟨w.heap.size, 1, none⟩ = some (.int .i64 (yn : Nat)) := (boxG (XM.out w2 (bR)) 1).1
    have kM2 : w2.cell? ⟨w.heap.size, 2, none⟩ = some (.int .i64 (tn : Nat)) := (boxG (XM.out w2 (bR)) 2).1
    have kM3 : w2.cell? ⟨w.heap.size, 3, none⟩ = some (.int .i64 (on : Nat)) := (boxG (XM.out w2 (bR)) 3).1
    have kM4 : w2.cell? ⟨w.heap.size, 4, none⟩ = some (.slice da dl dc) := (boxG (XM.out w2 (bR)) 4).1
    have kA0 : w2.cell? ⟨w1.heap.size, 0, none⟩ = some (.slice ca cn cc) := (boxG (XA.out w2 (bR)) 0).1
    have kA1 : w2.cell? ⟨w1.heap.size, 1, none⟩ = some (.slice (some ⟨wb, wo, none⟩) wl wc) := (boxG (XA.out w2 (bR)) 1).1
    have kA2 : w2.cell? ⟨w1.heap.size, 2, none⟩ = some (.int .i64 (yn : Nat)) := (boxG (XA.out w2 (bR)) 2).1
    have kA3 : w2.cell? ⟨w1.heap.size, 3, none⟩ = some (.int .i64 (tn : Nat)) := (boxG (XA.out w2 (bR)) 3).1
    have kA4 : w2.cell? ⟨w1.heap.size, 4, none⟩ = some (.int .i64 (on : Nat)) := (boxG (XA.out w2 (bR)) 4).1
    have kA5 : w2.cell? ⟨w1.heap.size, 5, none⟩ = some (.slice da dl dc) := (boxG (XA.out w2 (bR)) 5).1
    have kA6 : w2.cell? ⟨w1.heap.size, 6, none⟩ = some (.slice (some ⟨wb, wo, none⟩) yn wc) := (boxG (XA.out w2 (bR)) 6).1
    have kA7 : w2.cell? ⟨w1.heap.size, 7, none⟩ = some (.int .i64 0) := (boxG (XA.out w2 (bR)) 7).1
    have kA8 : w2.cell? ⟨w1.heap.size, 8, none⟩ = some (.int .i64 (tn : Nat)) := (boxG (XA.out w2 (bR)) 8).1
    have kA9 : w2.cell? ⟨w1.heap.size, 9, none⟩ = some (.slice (some ⟨wb, wo + yn, none⟩) (wl - yn) (wc - yn)) := (boxG (XA.out w2 (bR)) 9).1
    have kA10 : w2.cell? ⟨w1.heap.size, 10, none⟩ = some (.int .i64 (yn : Nat)) := (boxG (XA.out w2 (bR)) 10).1
    have kA11 : w2.cell? ⟨w1.heap.size, 11, none⟩ = some (.int .i64 (ou : Nat)) := (boxG (XA.out w2 (bR)) 11).1
    have kA12 : w2.cell? ⟨w1.heap.size, 12, none⟩ = some (.slice ta tl tc) := (boxG (XA.out w2 (bR)) 12).1
    go_wp2_with fail
    clear kM0 kM1 kM2 kM3 kM4 kA0 kA1 kA2 kA3 kA4 kA5 kA6 kA7 kA8 kA9 kA10 kA11 kA12
    have BP : Hid (Below (w2.heap.size) w2 (w2.alloc (.cells #[.int .i64 0, .int .i64 0, .slice none 0 0] 75))) := ((bR).alloc (by first | exact hz | (simp; done) | (simp; omega) | (have := hz; simp at this ⊢; omega)) _)
    replace B : Hid (∀ y, Below (w2.heap.size + 1) (w2.alloc (.cells #[.int .i64 0, .int .i64 0, .slice none 0 0] 75)) y → Below w.heap.size w y) := fun y hy => B.out y (BP.out.trans (hy.mono (by omega)))
    replace RW : Hid (∀ y, Below (w2.heap.size + 1) (w2.alloc (.cells #[.int .i64 0, .int .i64 0, .slice none 0 0] 75)) y → ThRow (fun b => w.heap.size + 1 + 1 + 1 ≤ b ∧ b < w1.heap.size) y (.slice ta tl tc) T) := fun y hy => RW.out y (BP.out.trans (hy.mono (by omega)))
    replace XM : Hid (∀ y, Below (w2.heap.size + 1) (w2.alloc (.cells #[.int .i64 0, .int .i64 0, .slice none 0 0] 75)) y → y.heap[w.heap.size]? = some (.cells #[.slice (some ⟨wb, wo, none⟩) wl wc, .int .i64 (yn : Nat), .int .i64 (tn : Nat), .int .i64 (on : Nat), .slice da dl dc] 25 (0, 0))) := fun y hy => XM.out y (BP.out.trans (hy.mono (by omega)))
    replace lM : w.heap.size < w2.heap.size + 1 := by omega
    replace XR : Hid (∀ y, Below (w2.heap.size + 1) (w2.alloc (.cells #[.int .i64 0, .int .i64 0, .slice none 0 0] 75)) y → y.heap[w.heap.size + 1]? = some (.cells #[.slice none 0 0, .slice none 0 0, .int .i64 0, .int .i64 0, .int .i64 0, .slice none 0 0, .slice none 0 0, .int .i64 0, .int .i64 0, .slice none 0 0, .int .i64 0, .int .i64 0, .slice none 0 0] 69 (0, 0))) := fun y hy => XR.out y (BP.out.trans (hy.mono (by omega)))
    replace lR : w.heap.size + 1 < w2.heap.size + 1 := by omega
    replace XS : Hid (∀ y, Below (w2.heap.size + 1) (w2.alloc (.cells #[.int .i64 0, .int .i64 0, .slice none 0 0] 75)) y → y.heap[w.heap.size + 1 + 1]? = some (.cells #[.int .i64 0, .int .i64 0, .slice none 0 0] 75 (0, 0))) := fun y hy => XS.out y (BP.out.trans (hy.mono (by omega)))
    replace lS : w.heap.size + 1 + 1 < w2.heap.size + 1 := by omega
    replace XA : Hid (∀ y, Below (w2.heap.size + 1) (w2.alloc (.cells #[.int .i64 0, .int .i64 0, .slice none 0 0] 75)) y → y.heap[w1.heap.size]? = some (.cells #[.slice ca cn cc, .slice (some ⟨wb, wo, none⟩) wl wc, .int .i64 (yn : Nat), .int .i64 (tn : Nat), .int .i64 (on : Nat), .slice da dl dc, .slice (some ⟨wb, wo, none⟩) yn wc, .int .i64 0, .int .i64 (tn : Nat), .slice (some ⟨wb, wo + yn, none⟩) (wl - yn) (wc - yn), .int .i64 (yn : Nat), .int .i64 (ou : Nat), .slice ta tl tc] 69 (0, 0))) := fun y hy => XA.out y (BP.out.trans (hy.mono (by omega)))
    replace lA : w1.heap.size < w2.heap.size + 1 := by omega
    have XT : Hid (∀ y, Below (w2.heap.size + 1) (w2.alloc (.cells #[.int .i64 0, .int .i64 0, .slice none 0 0] 75)) y → y.heap[w2.heap.size]? = some (.cells #[.int .i64 0, .int .i64 0, .slice none 0 0] 75 (0, 0))) := fun y hy => (hy.block _ (by omega)).trans (boxN _ _ _ _ (by simp))
    have lT : w2.heap.size < w2.heap.size + 1 := by omega
    replace hz : w2.heap.size + 1 ≤ ((w2.alloc (.cells #[.int .i64 0, .int .i64 0, .slice none 0 0] 75))).heap.size := by simp
    clear BP
    clear XM lM
    generalize (w2.alloc (.cells #[.int .i64 0, .int .i64 0, .slice none 0 0] 75)) = w2g at B RW XR XS XA XT hz ⊢
    have hzn : w2.heap.size + 1 ≤ w2g.heap.size := Nat.le_trans hz (Below.size (Below.refl (w2.heap.size + 1) w2g))
    replace B : Hid (∀ y, Below w2g.heap.size w2g y → Below w.heap.size w y) := fun y hy => B.out y (Below.trans (Below.refl (w2.heap.size + 1) w2g) (hy.mono hzn))
    replace RW : Hid (∀ y, Below w2g.heap.size w2g y → ThRow (fun b => w.heap.size + 1 + 1 + 1 ≤ b ∧ b < w1.heap.size) y (.slice ta tl tc) T) := fun y hy => RW.out y (Below.trans (Below.refl (w2.heap.size + 1) w2g) (hy.mono hzn))
    replace XR : Hid (∀ y, Below w2g.heap.size w2g y → y.heap[w.heap.size + 1]? = some (.cells #[.slice none 0 0, .slice none 0 0, .int .i64 0, .int .i64 0, .int .i64 0, .slice none 0 0, .slice none 0 0, .int .i64 0, .int .i64 0, .slice none 0 0, .int .i64 0, .int .i64 0, .slice none 0 0] 69 (0, 0))) := fun y hy => XR.out y (Below.trans (Below.refl (w2.heap.size + 1) w2g) (hy.mono hzn))
    replace lR : w.heap.size + 1 < w2g.heap.size := by omega
    replace XS : Hid (∀ y, Below w2g.heap.size w2g y → y.heap[w.heap.size + 1 + 1]? = some (.cells #[.int .i64 0, .int .i64 0, .slice none 0 0] 75 (0, 0))) := fun y hy => XS.out y (Below.trans (Below.refl (w2.heap.size + 1) w2g) (hy.mono hzn))
    replace lS : w.heap.size + 1 + 1 < w2g.heap.size := by omega
    replace XA : Hid (∀ y, Below w2g.heap.size w2g y → y.heap[w1.heap.size]? = some (.cells #[.slice ca cn cc, .slice (some ⟨wb, wo, none⟩) wl wc, .int .i64 (yn : Nat), .int .i64 (tn : Nat), .int .i64 (on : Nat), .slice da dl dc, .slice (some ⟨wb, wo, none⟩) yn wc, .int .i64 0, .int .i64 (tn : Nat), .slice (some ⟨wb, wo + yn, none⟩) (wl - yn) (wc - yn), .int .i64 (yn : Nat), .int .i64 (ou : Nat), .slice ta tl tc] 69 (0, 0))) := fun y hy => XA.out y (Below.trans (Below.refl (w2.heap.size + 1) w2g) (hy.mono hzn))
    replace lA : w1.heap.size < w2g.heap.size := by omega
    replace XT : Hid (∀ y, Below w2g.heap.size w2g y → y.heap[w2.heap.size]? = some (.cells #[.int .i64 0, .int .i64 0, .slice none 0 0] 75 (0, 0))) := fun y hy => XT.out y (Below.trans (Below.refl (w2.heap.size + 1) w2g) (hy.mono hzn))
    replace lT : w2.heap.size < w2g.heap.size := by omega
    clear hz
    have hz : w2g.heap.size ≤ w2g.heap.size := Nat.le_refl _
    have KS : Hid (∀ x, Below (w2g.heap.size) w2g x → x.cell? ⟨w1.heap.size, 0, none⟩ = some (.slice ca cn cc) ∧ x.cell? ⟨w1.heap.size, 1, none⟩ = some (.slice (some ⟨wb, wo, none⟩) wl wc) ∧ x.cell? ⟨w1.heap.size, 2, none⟩ = some (.int .i64 (yn : Nat)) ∧ x.cell? ⟨w1.heap.size, 3, none⟩ = some (.int .i64 (tn : Nat)) ∧ x.cell? ⟨w1.heap.size, 4, none⟩ = some (.int .i64 (on : Nat)) ∧ x.cell? ⟨w1.heap.size, 5, none⟩ = some (.slice da dl dc) ∧ x.cell? ⟨w1.heap.size, 6, none⟩ = some (.slice (some ⟨wb, wo, none⟩) yn wc) ∧ x.cell? ⟨w1.heap.size, 7, none⟩ = some (.int .i64 0) ∧ x.cell? ⟨w1.heap.size, 8, none⟩ = some (.int .i64 (tn : Nat)) ∧ x.cell? ⟨w1.heap.size, 9, none⟩ = some (.slice (some ⟨wb, wo + yn, none⟩) (wl - yn) (wc - yn)) ∧ x.cell? ⟨w1.heap.size, 10, none⟩ = some (.int .i64 (yn : Nat)) ∧ x.cell? ⟨w1.heap.size, 11, none⟩ = some (.int .i64 (ou : Nat)) ∧ x.cell? ⟨w1.heap.size, 12, none⟩ = some (.slice ta tl tc) ∧ x.cell? ⟨w2.heap.size, 0, none⟩ = some (.int .i64 0) ∧ x.cell? ⟨w2.heap.size, 1, none⟩ = some (.int .i64 0) ∧ x.cell? ⟨w2.heap.size, 2, none⟩ = some (.slice none 0 0)) := fun x hx => ⟨(boxG (XA.out x hx) 0).1, (boxG (XA.out x hx) 1).1, (boxG (XA.out x hx) 2).1, (boxG (XA.out x hx) 3).1, (boxG (XA.out x hx) 4).1, (boxG (XA.out x hx) 5).1, (boxG (XA.out x hx) 6).1, (boxG (XA.out x hx) 7).1, (boxG (XA.out x hx) 8).1, (boxG (XA.out x hx) 9).1, (boxG (XA.out x hx) 10).1, (boxG (XA.out x hx) 11).1, (boxG (XA.out x hx) 12).1, (boxG (XT.out x hx) 0).1, (boxG (XT.out x hx) 1).1, (boxG (XT.out x hx) 2).1⟩
    refine wp_region_held_drew (S := fun x => x.cell? ⟨w1.heap.size, 0, none⟩ = some (.slice ca cn cc) ∧ x.cell? ⟨w1.heap.size, 1, none⟩ = some (.slice (some ⟨wb, wo, none⟩) wl wc) ∧ x.cell? ⟨w1.heap.size, 2, none⟩ = some (.int .i64 (yn : Nat)) ∧ x.cell? ⟨w1.heap.size, 3, none⟩ = some (.int .i64 (tn : Nat)) ∧ x.cell? ⟨w1.heap.size, 4, none⟩ = some (.int .i64 (on : Nat)) ∧ x.cell? ⟨w1.heap.size, 5, none⟩ = some (.slice da dl dc) ∧ x.cell? ⟨w1.heap.size, 6, none⟩ = some (.slice (some ⟨wb, wo, none⟩) yn wc) ∧ x.cell? ⟨w1.heap.size, 7, none⟩ = some (.int .i64 0) ∧ x.cell? ⟨w1.heap.size, 8, none⟩ = some (.int .i64 (tn : Nat)) ∧ x.cell? ⟨w1.heap.size, 9, none⟩ = some (.slice (some ⟨wb, wo + yn, none⟩) (wl - yn) (wc - yn)) ∧ x.cell? ⟨w1.heap.size, 10, none⟩ = some (.int .i64 (yn : Nat)) ∧ x.cell? ⟨w1.heap.size, 11, none⟩ = some (.int .i64 (ou : Nat)) ∧ x.cell? ⟨w1.heap.size, 12, none⟩ = some (.slice ta tl tc) ∧ x.cell? ⟨w2.heap.size, 0, none⟩ = some (.int .i64 0) ∧ x.cell? ⟨w2.heap.size, 1, none⟩ = some (.int .i64 0) ∧ x.cell? ⟨w2.heap.size, 2, none⟩ = some (.slice none 0 0)) (by kernel_rfl) ?_ (fun hHeld => ?_)
    · exact KS.out _ (bdrew (bR))
    refine wpAnyH_take (i := 0) (v := ?_) rfl (by kernel_rfl) (by kernel_rfl) (by kernel_rfl) (fun _ _ _ h => h) (Or.inl ⟨by kernel_rfl, ?_⟩) (by assumption) ?_
    rotate_left 1
    · intro x hSx
      (try dsimp only at hSx)
      go_simp
      try with_reducible rfl
    try simp only [Act.put, List.getElem_toArray, List.getElem_cons_zero, List.setIfInBounds_toArray, List.set_cons_zero, List.set_cons_succ]
    refine wpAnyH_take (i := 1) (v := ?_) rfl (by kernel_rfl) (by kernel_rfl) (by kernel_rfl) (fun _ _ _ h => h) (Or.inl ⟨by kernel_rfl, ?_⟩) (by assumption) ?_
    rotate_left 1
    · intro x hSx
      (try dsimp only at hSx)
      go_simp
      try with_reducible rfl
    try simp only [Act.put, List.getElem_toArray, List.getElem_cons_zero, List.getElem_cons_succ, List.setIfInBounds_toArray, List.set_cons_zero, List.set_cons_succ]
    refine wpAnyH_take (i := 2) (v := ?_) rfl (by kernel_rfl) (by kernel_rfl) (by kernel_rfl) (fun _ _ _ h => h) (Or.inl ⟨by kernel_rfl, ?_⟩) (by assumption) ?_
    rotate_left 1
    · intro x hSx
      (try dsimp only at hSx)
      go_simp
      try with_reducible rfl
    try simp only [Act.put, List.getElem_toArray, List.getElem_cons_zero, List.getElem_cons_succ, List.setIfInBounds_toArray, List.set_cons_zero, List.set_cons_succ]
    refine wpAnyH_take (i := 3) (v := ?_) rfl (by kernel_rfl) (by kernel_rfl) (by kernel_rfl) (fun _ _ _ h => h) (Or.inl ⟨by kernel_rfl, ?_⟩) (by assumption) ?_
    rotate_left 1
    · intro x hSx
      (try dsimp only at hSx)
      go_simp
      try with_reducible rfl
    try simp only [Act.put, List.getElem_toArray, List.getElem_cons_zero, List.getElem_cons_succ, List.setIfInBounds_toArray, List.set_cons_zero, List.set_cons_succ]
    refine wpAnyH_take (i := 4) (v := undef) rfl (by kernel_rfl) (by kernel_rfl) (by kernel_rfl) (fun _ _ _ h => h) (Or.inr ⟨by kernel_rfl, rfl⟩) (by assumption) ?_
    try simp only [Act.put, List.getElem_toArray, List.getElem_cons_zero, List.getElem_cons_succ, List.setIfInBounds_toArray, List.set_cons_zero, List.set_cons_succ]
    refine wpAnyH_take (i := 5) (v := undef) rfl (by kernel_rfl) (by kernel_rfl) (by kernel_rfl) (fun _ _ _ h => h) (Or.inr ⟨by kernel_rfl, rfl⟩) (by assumption) ?_
    try simp only [Act.put, List.getElem_toArray, List.getElem_cons_zero, List.getElem_cons_succ, List.setIfInBounds_toArray, List.set_cons_zero, List.set_cons_succ]
    refine wpAnyH_take (i := 6) (v := undef) rfl (by kernel_rfl) (by kernel_rfl) (by kernel_rfl) (fun _ _ _ h => h) (Or.inr ⟨by kernel_rfl, rfl⟩) (by assumption) ?_
    try simp only [Act.put, List.getElem_toArray, List.getElem_cons_zero, List.getElem_cons_succ, List.setIfInBounds_toArray, List.set_cons_zero, List.set_cons_succ]
    refine wpAnyH_take (i := 7) (v := undef) rfl (by kernel_rfl) (by kernel_rfl) (by kernel_rfl) (fun _ _ _ h => h) (Or.inr ⟨by kernel_rfl, rfl⟩) (by assumption) ?_
    try simp only [Act.put, List.getElem_toArray, List.getElem_cons_zero, List.getElem_cons_succ, List.setIfInBounds_toArray, List.set_cons_zero, List.set_cons_succ]
    refine wpAnyH_take (i := 8) (v := undef) rfl (by kernel_rfl) (by kernel_rfl) (by kernel_rfl) (fun _ _ _ h => h) (Or.inr ⟨by kernel_rfl, rfl⟩) (by assumption) ?_
    try simp only [Act.put, List.getElem_toArray, List.getElem_cons_zero, List.getElem_cons_succ, List.setIfInBounds_toArray, List.set_cons_zero, List.set_cons_succ]
    refine wpAnyH_take (i := 9) (v := ?_) rfl (by kernel_rfl) (by kernel_rfl) (by kernel_rfl) (fun _ _ _ h => h) (Or.inl ⟨by kernel_rfl, ?_⟩) (by assumption) ?_
    rotate_left 1
    · intro x hSx
      (try dsimp only at hSx)
      go_simp
      try with_reducible rfl
    try simp only [Act.put, List.getElem_toArray, List.getElem_cons_zero, List.getElem_cons_succ, List.setIfInBounds_toArray, List.set_cons_zero, List.set_cons_succ]
    refine wpAnyH_ready (rs := [10]) (by kernel_rfl) (by simp) ?_
    refine AllReadyH.cons rfl (fun K hK => ?_) AllReadyH.nil
    have kR0 : w2g.cell? ⟨w.heap.size + 1, 0, none⟩ = some (.slice none 0 0) := (boxG (XR.out w2g (bR)) 0).1
    have qkR0 : w2g.frozen? ⟨w.heap.size + 1, 0, none⟩ = false := (boxG (XR.out w2g (bR)) 0).2
    have kR1 : w2g.cell? ⟨w.heap.size + 1, 1, none⟩ = some (.slice none 0 0) := (boxG (XR.out w2g (bR)) 1).1
    have qkR1 : w2g.frozen? ⟨w.heap.size + 1, 1, none⟩ = false := (boxG (XR.out w2g (bR)) 1).2
    have kR2 : w2g.cell? ⟨w.heap.size + 1, 2, none⟩ = some (.int .i64 0) := (boxG (XR.out w2g (bR)) 2).1
    have qkR2 : w2g.frozen? ⟨w.heap.size + 1, 2, none⟩ = false := (boxG (XR.out w2g (bR)) 2).2
    have kR3 : w2g.cell? ⟨w.heap.size + 1, 3, none⟩ = some (.int .i64 0) := (boxG (XR.out w2g (bR)) 3).1
    have qkR3 : w2g.frozen? ⟨w.heap.size + 1, 3, none⟩ = false := (boxG (XR.out w2g (bR)) 3).2
    have kR4 : w2g.cell? ⟨w.heap.size + 1, 4, none⟩ = some (.int .i64 0) := (boxG (XR.out w2g (bR)) 4).1
    have qkR4 : w2g.frozen? ⟨w.heap.size + 1, 4, none⟩ = false := (boxG (XR.out w2g (bR)) 4).2
    have kR5 : w2g.cell? ⟨w.heap.size + 1, 5, none⟩ = some (.slice none 0 0) := (boxG (XR.out w2g (bR)) 5).1
    have qkR5 : w2g.frozen? ⟨w.heap.size + 1, 5, none⟩ = false := (boxG (XR.out w2g (bR)) 5).2
    have kR6 : w2g.cell? ⟨w.heap.size + 1, 6, none⟩ = some (.slice none 0 0) := (boxG (XR.out w2g (bR)) 6).1
    have qkR6 : w2g.frozen? ⟨w.heap.size + 1, 6, none⟩ = false := (boxG (XR.out w2g (bR)) 6).2
    have kR7 : w2g.cell? ⟨w.heap.size + 1, 7, none⟩ = some (.int .i64 0) := (boxG (XR.out w2g (bR)) 7).1
    have qkR7 : w2g.frozen? ⟨w.heap.size + 1, 7, none⟩ = false := (boxG (XR.out w2g (bR)) 7).2
    have kR8 : w2g.cell? ⟨w.heap.size + 1, 8, none⟩ = some (.int .i64 0) := (boxG (XR.out w2g (bR)) 8).1
    have qkR8 : w2g.frozen? ⟨w.heap.size + 1, 8, none⟩ = false := (boxG (XR.out w2g (bR)) 8).2
    have kR9 : w2g.cell? ⟨w.heap.size + 1, 9, none⟩ = some (.slice none 0 0) := (boxG (XR.out w2g (bR)) 9).1
    have qkR9 : w2g.frozen? ⟨w.heap.size + 1, 9, none⟩ = false := (boxG (XR.out w2g (bR)) 9).2
    have kR10 : w2g.cell? ⟨w.heap.size + 1, 10, none⟩ = some (.int .i64 0) := (boxG (XR.out w2g (bR)) 10).1
    have qkR10 : w2g.frozen? ⟨w.heap.size + 1, 10, none⟩ = false := (boxG (XR.out w2g (bR)) 10).2
    have kR11 : w2g.cell? ⟨w.heap.size + 1, 11, none⟩ = some (.int .i64 0) := (boxG (XR.out w2g (bR)) 11).1
    have qkR11 : w2g.frozen? ⟨w.heap.size + 1, 11, none⟩ = false := (boxG (XR.out w2g (bR)) 11).2
    have kR12 : w2g.cell? ⟨w.heap.size + 1, 12, none⟩ = some (.slice none 0 0) := (boxG (XR.out w2g (bR)) 12).1
    have qkR12 : w2g.frozen? ⟨w.heap.size + 1, 12, none⟩ = false := (boxG (XR.out w2g (bR)) 12).2
    go_simp
    clear kR0 qkR0 kR1 qkR1 kR2 qkR2 kR3 qkR3 kR4 qkR4 kR5 qkR5 kR6 qkR6 kR7 qkR7 kR8 qkR8 kR9 qkR9 kR10 qkR10 kR11 qkR11 kR12 qkR12
    generalize hW : (((((((((((((w2g.setCell ⟨w.heap.size + 1, 0, none⟩ (.slice ca cn cc)).setCell ⟨w.heap.size + 1, 1, none⟩ (.slice (some ⟨wb, wo, none⟩) wl wc)).setCell ⟨w.heap.size + 1, 2, none⟩ (.int .i64 (yn : Nat))).setCell ⟨w.heap.size + 1, 3, none⟩ (.int .i64 (tn : Nat))).setCell ⟨w.heap.size + 1, 4, none⟩ (.int .i64 (on : Nat))).setCell ⟨w.heap.size + 1, 5, none⟩ (.slice da dl dc)).setCell ⟨w.heap.size + 1, 6, none⟩ (.slice (some ⟨wb, wo, none⟩) yn wc)).setCell ⟨w.heap.size + 1, 7, none⟩ (.int .i64 0)).setCell ⟨w.heap.size + 1, 8, none⟩ (.int .i64 (tn : Nat))).setCell ⟨w.heap.size + 1, 9, none⟩ (.slice (some ⟨wb, wo + yn, none⟩) (wl - yn) (wc - yn))).setCell ⟨w.heap.size + 1, 10, none⟩ (.int .i64 (yn : Nat))).setCell ⟨w.heap.size + 1, 11, none⟩ (.int .i64 (ou : Nat))).setCell ⟨w.heap.size + 1, 12, none⟩ (.slice ta tl tc)) = wB1
    have hsB : wB1.heap.size = w2g.heap.size := by subst hW; simp
    have hw0 : w.heap.size ≤ w.heap.size + 1 := (by first | omega | (simp; done) | (simp; omega) | (simp at *; omega))
    replace XS : Hid (∀ y, Below (w2g.heap.size) wB1 y → y.heap[w.heap.size + 1 + 1]? = some (.cells #[.int .i64 0, .int .i64 0, .slice none 0 0] 75 (0, 0))) := fun y hy => by subst hW; exact (hy.block _ (by omega)).trans ((keep13 (by first | omega | (simp; done) | (simp; omega))).trans (XS.out w2g (bR)))
    replace XA : Hid (∀ y, Below (w2g.heap.size) wB1 y → y.heap[w1.heap.size]? = some (.cells #[.slice ca cn cc, .slice (some ⟨wb, wo, none⟩) wl wc, .int .i64 (yn : Nat), .int .i64 (tn : Nat), .int .i64 (on : Nat), .slice da dl dc, .slice (some ⟨wb, wo, none⟩) yn wc, .int .i64 0, .int .i64 (tn : Nat), .slice (some ⟨wb, wo + yn, none⟩) (wl - yn) (wc - yn), .int .i64 (yn : Nat), .int .i64 (ou : Nat), .slice ta tl tc] 69 (0, 0))) := fun y hy => by subst hW; exact (hy.block _ (by omega)).trans ((keep13 (by first | omega | (simp; done) | (simp; omega))).trans (XA.out w2g (bR)))
    replace XT : Hid (∀ y, Below (w2g.heap.size) wB1 y → y.heap[w2.heap.size]? = some (.cells #[.int .i64 0, .int .i64 0, .slice none 0 0] 75 (0, 0))) := fun y hy => by subst hW; exact (hy.block _ (by omega)).trans ((keep13 (by first | omega | (simp; done) | (simp; omega))).trans (XT.out w2g (bR)))
    replace XR : Hid (∀ y, Below (w2g.heap.size) wB1 y → y.heap[w.heap.size + 1]? = some (.cells #[.slice ca cn cc, .slice (some ⟨wb, wo, none⟩) wl wc, .int .i64 (yn : Nat), .int .i64 (tn : Nat), .int .i64 (on : Nat), .slice da dl dc, .slice (some ⟨wb, wo, none⟩) yn wc, .int .i64 0, .int .i64 (tn : Nat), .slice (some ⟨wb, wo + yn, none⟩) (wl - yn) (wc - yn), .int .i64 (yn : Nat), .int .i64 (ou : Nat), .slice ta tl tc] 69 (0, 0))) := fun y hy => by subst hW; exact (hy.block _ (by omega)).trans (box13 (XR.out w2g (bR)) rfl _ _ _ _ _ _ _ _ _ _ _ _ _)
    replace RW : Hid (∀ y, Below (w2g.heap.size) wB1 y → ThRow (fun b => w.heap.size + 1 + 1 + 1 ≤ b ∧ b < w1.heap.size) y (.slice ta tl tc) T) := fun y hy => by subst hW; exact ((((((((((((((RW.out w2g (bR)).box _ _ nR).box _ _ nR).box _ _ nR).box _ _ nR).box _ _ nR).box _ _ nR).box _ _ nR).box _ _ nR).box _ _ nR).box _ _ nR).box _ _ nR).box _ _ nR).box _ _ nR).later (hy.mono (by simp))
    replace B : Hid (∀ y, Below (w2g.heap.size) wB1 y → Below w.heap.size w y) := fun y hy => by subst hW; exact ((((((((((((((B.out w2g (bR)).setCell hw0 _).setCell hw0 _).setCell hw0 _).setCell hw0 _).setCell hw0 _).setCell hw0 _).setCell hw0 _).setCell hw0 _).setCell hw0 _).setCell hw0 _).setCell hw0 _).setCell hw0 _).setCell hw0 _).trans (hy.mono (by first | omega | exact Nat.le_trans (B.out w2g (bR)).size hz | (have := (B.out w2g (bR)).size; omega)))
    replace hz : w2g.heap.size ≤ wB1.heap.size := by subst hW; first | (simp; done) | simpa using hz
    clear hw0 hW
    replace KS : Hid (∀ x, Below (w2g.heap.size) wB1 x → x.cell? ⟨w1.heap.size, 0, none⟩ = some (.slice ca cn cc) ∧ x.cell? ⟨w1.heap.size, 1, none⟩ = some (.slice (some ⟨wb, wo, none⟩) wl wc) ∧ x.cell? ⟨w1.heap.size, 2, none⟩ = some (.int .i64 (yn : Nat)) ∧ x.cell? ⟨w1.heap.size, 3, none⟩ = some (.int .i64 (tn : Nat)) ∧ x.cell? ⟨w1.heap.size, 4, none⟩ = some (.int .i64 (on : Nat)) ∧ x.cell? ⟨w1.heap.size, 5, none⟩ = some (.slice da dl dc) ∧ x.cell? ⟨w1.heap.size, 6, none⟩ = some (.slice (some ⟨wb, wo, none⟩) yn wc) ∧ x.cell? ⟨w1.heap.size, 7, none⟩ = some (.int .i64 0) ∧ x.cell? ⟨w1.heap.size, 8, none⟩ = some (.int .i64 (tn : Nat)) ∧ x.cell? ⟨w1.heap.size, 9, none⟩ = some (.slice (some ⟨wb, wo + yn, none⟩) (wl - yn) (wc - yn)) ∧ x.cell? ⟨w1.heap.size, 10, none⟩ = some (.int .i64 (yn : Nat)) ∧ x.cell? ⟨w1.heap.size, 11, none⟩ = some (.int .i64 (ou : Nat)) ∧ x.cell? ⟨w1.heap.size, 12, none⟩ = some (.slice ta tl tc) ∧ x.cell? ⟨w2.heap.size, 0, none⟩ = some (.int .i64 0) ∧ x.cell? ⟨w2.heap.size, 1, none⟩ = some (.int .i64 0) ∧ x.cell? ⟨w2.heap.size, 2, none⟩ = some (.slice none 0 0)) := fun x hx => ⟨(boxG (XA.out x hx) 0).1, (boxG (XA.out x hx) 1).1, (boxG (XA.out x hx) 2).1, (boxG (XA.out x hx) 3).1, (boxG (XA.out x hx) 4).1, (boxG (XA.out x hx) 5).1, (boxG (XA.out x hx) 6).1, (boxG (XA.out x hx) 7).1, (boxG (XA.out x hx) 8).1, (boxG (XA.out x hx) 9).1, (boxG (XA.out x hx) 10).1, (boxG (XA.out x hx) 11).1, (boxG (XA.out x hx) 12).1, (boxG (XT.out x hx) 0).1, (boxG (XT.out x hx) 1).1, (boxG (XT.out x hx) 2).1⟩
    refine hK.out _ _ (KS.out _ (bdrew (bR))) (fun hHeld2 => ?_)
    clear hK K
    try simp only [Act.put, List.getElem_toArray, List.getElem_cons_zero, List.getElem_cons_succ, List.setIfInBounds_toArray, List.set_cons_zero, List.set_cons_succ]
    refine wpAnyH_ready (rs := [11]) (by kernel_rfl) (by simp) ?_
    refine AllReadyH.cons rfl (fun K hK => ?_) AllReadyH.nil
    have kS0 : wB1.cell? ⟨w.heap.size + 1 + 1, 0, none⟩ = some (.int .i64 0) := (boxG (XS.out wB1 (bR)) 0).1
    have qkS0 : wB1.frozen? ⟨w.heap.size + 1 + 1, 0, none⟩ = false := (boxG (XS.out wB1 (bR)) 0).2
    have kS1 : wB1.cell? ⟨w.heap.size + 1 + 1, 1, none⟩ = some (.int .i64 0) := (boxG (XS.out wB1 (bR)) 1).1
    have qkS1 : wB1.frozen? ⟨w.heap.size + 1 + 1, 1, none⟩ = false := (boxG (XS.out wB1 (bR)) 1).2
    have kS2 : wB1.cell? ⟨w.heap.size + 1 + 1, 2, none⟩ = some (.slice none 0 0) := (boxG (XS.out wB1 (bR)) 2).1
    have qkS2 : wB1.frozen? ⟨w.heap.size + 1 + 1, 2, none⟩ = false := (boxG (XS.out wB1 (bR)) 2).2
    go_simp
    clear kS0 qkS0 kS1 qkS1 kS2 qkS2
    have hw0 : w.heap.size ≤ w.heap.size + 1 + 1 := (by first | omega | (simp; done) | (simp; omega) | (simp at *; omega))
    replace XR : Hid (∀ y, Below (w2g.heap.size) (((wB1.setCell ⟨w.heap.size + 1 + 1, 0, none⟩ (.int .i64 0)).setCell ⟨w.heap.size + 1 + 1, 1, none⟩ (.int .i64 0)).setCell ⟨w.heap.size + 1 + 1, 2, none⟩ (.slice none 0 0)) y → y.heap[w.heap.size + 1]? = some (.cells #[.slice ca cn cc, .slice (some ⟨wb, wo, none⟩) wl wc, .int .i64 (yn : Nat), .int .i64 (tn : Nat), .int .i64 (on : Nat), .slice da dl dc, .slice (some ⟨wb, wo, none⟩) yn wc, .int .i64 0, .int .i64 (tn : Nat), .slice (some ⟨wb, wo + yn, none⟩) (wl - yn) (wc - yn), .int .i64 (yn : Nat), .int .i64 (ou : Nat), .slice ta tl tc] 69 (0, 0))) := fun y hy => (hy.block _ (by omega)).trans ((Below.heap_setCell _ _ _ _ (by first | omega | (simp; done) | (simp; omega))).trans ((Below.heap_setCell _ _ _ _ (by first | omega | (simp; done) | (simp; omega))).trans ((Below.heap_setCell _ _ _ _ (by first | omega | (simp; done) | (simp; omega))).trans (XR.out wB1 (bR)))))
    replace XA : Hid (∀ y, Below (w2g.heap.size) (((wB1.setCell ⟨w.heap.size + 1 + 1, 0, none⟩ (.int .i64 0)).setCell ⟨w.heap.size + 1 + 1, 1, none⟩ (.int .i64 0)).setCell ⟨w.heap.size + 1 + 1, 2, none⟩ (.slice none 0 0)) y → y.heap[w1.heap.size]? = some (.cells #[.slice ca cn cc, .slice (some ⟨wb, wo, none⟩) wl wc, .int .i64 (yn : Nat), .int .i64 (tn : Nat), .int .i64 (on : Nat), .slice da dl dc, .slice (some ⟨wb, wo, none⟩) yn wc, .int .i64 0, .int .i64 (tn : Nat), .slice (some ⟨wb, wo + yn, none⟩) (wl - yn) (wc - yn), .int .i64 (yn : Nat), .int .i64 (ou : Nat), .slice ta tl tc] 69 (0, 0))) := fun y hy => (hy.block _ (by omega)).trans ((Below.heap_setCell _ _ _ _ (by first | omega | (simp; done) | (simp; omega))).trans ((Below.heap_setCell _ _ _ _ (by first | omega | (simp; done) | (simp; omega))).trans ((Below.heap_setCell _ _ _ _ (by first | omega | (simp; done) | (simp; omega))).trans (XA.out wB1 (bR)))))
    replace XT : Hid (∀ y, Below (w2g.heap.size) (((wB1.setCell ⟨w.heap.size + 1 + 1, 0, none⟩ (.int .i64 0)).setCell ⟨w.heap.size + 1 + 1, 1, none⟩ (.int .i64 0)).setCell ⟨w.heap.size + 1 + 1, 2, none⟩ (.slice none 0 0)) y → y.heap[w2.heap.size]? = some (.cells #[.int .i64 0, .int .i64 0, .slice none 0 0] 75 (0, 0))) := fun y hy => (hy.block _ (by omega)).trans ((Below.heap_setCell _ _ _ _ (by first | omega | (simp; done) | (simp; omega))).trans ((Below.heap_setCell _ _ _ _ (by first | omega | (simp; done) | (simp; omega))).trans ((Below.heap_setCell _ _ _ _ (by first | omega | (simp; done) | (simp; omega))).trans (XT.out wB1 (bR)))))
    replace XS : Hid (∀ y, Below (w2g.heap.size) (((wB1.setCell ⟨w.heap.size + 1 + 1, 0, none⟩ (.int .i64 0)).setCell ⟨w.heap.size + 1 + 1, 1, none⟩ (.int .i64 0)).setCell ⟨w.heap.size + 1 + 1, 2, none⟩ (.slice none 0 0)) y → y.heap[w.heap.size + 1 + 1]? = some (.cells #[.int .i64 0, .int .i64 0, .slice none 0 0] 75 (0, 0))) := fun y hy => (hy.block _ (by omega)).trans (boxS (boxS (boxS (XS.out wB1 (bR)) 0 _) 1 _) 2 _)
    replace RW : Hid (∀ y, Below (w2g.heap.size) (((wB1.setCell ⟨w.heap.size + 1 + 1, 0, none⟩ (.int .i64 0)).setCell ⟨w.heap.size + 1 + 1, 1, none⟩ (.int .i64 0)).setCell ⟨w.heap.size + 1 + 1, 2, none⟩ (.slice none 0 0)) y → ThRow (fun b => w.heap.size + 1 + 1 + 1 ≤ b ∧ b < w1.heap.size) y (.slice ta tl tc) T) := fun y hy => ((((RW.out wB1 (bR)).box _ _ nS).box _ _ nS).box _ _ nS).later (hy.mono (by first | (simp; done) | (simp; omega)))
    replace B : Hid (∀ y, Below (w2g.heap.size) (((wB1.setCell ⟨w.heap.size + 1 + 1, 0, none⟩ (.int .i64 0)).setCell ⟨w.heap.size + 1 + 1, 1, none⟩ (.int .i64 0)).setCell ⟨w.heap.size + 1 + 1, 2, none⟩ (.slice none 0 0)) y → Below w.heap.size w y) := fun y hy => ((((B.out wB1 (bR)).setCell hw0 _).setCell hw0 _).setCell hw0 _).trans (hy.mono (by first | omega | exact Nat.le_trans (B.out wB1 (bR)).size hz | (have := (B.out wB1 (bR)).size; omega)))
    replace hz : w2g.heap.size ≤ (((wB1.setCell ⟨w.heap.size + 1 + 1, 0, none⟩ (.int .i64 0)).setCell ⟨w.heap.size + 1 + 1, 1, none⟩ (.int .i64 0)).setCell ⟨w.heap.size + 1 + 1, 2, none⟩ (.slice none 0 0)).heap.size := by first | (simp; done) | simpa using hz
    clear hw0
    replace KS : Hid (∀ x, Below (w2g.heap.size) (((wB1.setCell ⟨w.heap.size + 1 + 1, 0, none⟩ (.int .i64 0)).setCell ⟨w.heap.size + 1 + 1, 1, none⟩ (.int .i64 0)).setCell ⟨w.heap.size + 1 + 1, 2, none⟩ (.slice none 0 0)) x → x.cell? ⟨w1.heap.size, 0, none⟩ = some (.slice ca cn cc) ∧ x.cell? ⟨w1.heap.size, 1, none⟩ = some (.slice (some ⟨wb, wo, none⟩) wl wc) ∧ x.cell? ⟨w1.heap.size, 2, none⟩ = some (.int .i64 (yn : Nat)) ∧ x.cell? ⟨w1.heap.size, 3, none⟩ = some (.int .i64 (tn : Nat)) ∧ x.cell? ⟨w1.heap.size, 4, none⟩ = some (.int .i64 (on : Nat)) ∧ x.cell? ⟨w1.heap.size, 5, none⟩ = some (.slice da dl dc) ∧ x.cell? ⟨w1.heap.size, 6, none⟩ = some (.slice (some ⟨wb, wo, none⟩) yn wc) ∧ x.cell? ⟨w1.heap.size, 7, none⟩ = some (.int .i64 0) ∧ x.cell? ⟨w1.heap.size, 8, none⟩ = some (.int .i64 (tn : Nat)) ∧ x.cell? ⟨w1.heap.size, 9, none⟩ = some (.slice (some ⟨wb, wo + yn, none⟩) (wl - yn) (wc - yn)) ∧ x.cell? ⟨w1.heap.size, 10, none⟩ = some (.int .i64 (yn : Nat)) ∧ x.cell? ⟨w1.heap.size, 11, none⟩ = some (.int .i64 (ou : Nat)) ∧ x.cell? ⟨w1.heap.size, 12, none⟩ = some (.slice ta tl tc) ∧ x.cell? ⟨w2.heap.size, 0, none⟩ = some (.int .i64 0) ∧ x.cell? ⟨w2.heap.size, 1, none⟩ = some (.int .i64 0) ∧ x.cell? ⟨w2.heap.size, 2, none⟩ = some (.slice none 0 0)) := fun x hx => ⟨(boxG (XA.out x hx) 0).1, (boxG (XA.out x hx) 1).1, (boxG (XA.out x hx) 2).1, (boxG (XA.out x hx) 3).1, (boxG (XA.out x hx) 4).1, (boxG (XA.out x hx) 5).1, (boxG (XA.out x hx) 6).1, (boxG (XA.out x hx) 7).1, (boxG (XA.out x hx) 8).1, (boxG (XA.out x hx) 9).1, (boxG (XA.out x hx) 10).1, (boxG (XA.out x hx) 11).1, (boxG (XA.out x hx) 12).1, (boxG (XT.out x hx) 0).1, (boxG (XT.out x hx) 1).1, (boxG (XT.out x hx) 2).1⟩
    refine hK.out _ _ (KS.out _ (bdrew (bR))) (fun hHeld3 => ?_)
    clear hK K
    try simp only [Act.put, List.getElem_toArray, List.getElem_cons_zero, List.getElem_cons_succ, List.setIfInBounds_toArray, List.set_cons_zero, List.set_cons_succ]
    refine wpAnyH_take (i := 12) (v := ?_) rfl (by kernel_rfl) (by kernel_rfl) (by kernel_rfl) (fun _ _ _ h => h) (Or.inl ⟨by kernel_rfl, ?_⟩) (by assumption) ?_
    rotate_left 1
    · intro x hSx
      (try dsimp only at hSx)
      go_simp
      try with_reducible rfl
    try simp only [Act.put, List.getElem_toArray, List.getElem_cons_zero, List.getElem_cons_succ, List.setIfInBounds_toArray, List.set_cons_zero, List.set_cons_succ]
    refine wpAnyH_done (by kernel_rfl) ?_ _
    clear hHeld hHeld2 hHeld3
    clear KS
    replace B : Hid (∀ y, Below (w2g.heap.size) ((((wB1.setCell ⟨w.heap.size + 1 + 1, 0, none⟩ (.int .i64 0)).setCell ⟨w.heap.size + 1 + 1, 1, none⟩ (.int .i64 0)).setCell ⟨w.heap.size + 1 + 1, 2, none⟩ (.slice none 0 0)).drew) y → Below w.heap.size w y) := fun y hy => B.out y ((bdrew (bR)).trans hy)
    replace RW : Hid (∀ y, Below (w2g.heap.size) ((((wB1.setCell ⟨w.heap.size + 1 + 1, 0, none⟩ (.int .i64 0)).setCell ⟨w.heap.size + 1 + 1, 1, none⟩ (.int .i64 0)).setCell ⟨w.heap.size + 1 + 1, 2, none⟩ (.slice none 0 0)).drew) y → ThRow (fun b => w.heap.size + 1 + 1 + 1 ≤ b ∧ b < w1.heap.size) y (.slice ta tl tc) T) := fun y hy => RW.out y ((bdrew (bR)).trans hy)
    replace XR : Hid (∀ y, Below (w2g.heap.size) ((((wB1.setCell ⟨w.heap.size + 1 + 1, 0, none⟩ (.int .i64 0)).setCell ⟨w.heap.size + 1 + 1, 1, none⟩ (.int .i64 0)).setCell ⟨w.heap.size + 1 + 1, 2, none⟩ (.slice none 0 0)).drew) y → y.heap[w.heap.size + 1]? = some (.cells #[.slice ca cn cc, .slice (some ⟨wb, wo, none⟩) wl wc, .int .i64 (yn : Nat), .int .i64 (tn : Nat), .int .i64 (on : Nat), .slice da dl dc, .slice (some ⟨wb, wo, none⟩) yn wc, .int .i64 0, .int .i64 (tn : Nat), .slice (some ⟨wb, wo + yn, none⟩) (wl - yn) (wc - yn), .int .i64 (yn : Nat), .int .i64 (ou : Nat), .slice ta tl tc] 69 (0, 0))) := fun y hy => XR.out y ((bdrew (bR)).trans hy)
    replace XS : Hid (∀ y, Below (w2g.heap.size) ((((wB1.setCell ⟨w.heap.size + 1 + 1, 0, none⟩ (.int .i64 0)).setCell ⟨w.heap.size + 1 + 1, 1, none⟩ (.int .i64 0)).setCell ⟨w.heap.size + 1 + 1, 2, none⟩ (.slice none 0 0)).drew) y → y.heap[w.heap.size + 1 + 1]? = some (.cells #[.int .i64 0, .int .i64 0, .slice none 0 0] 75 (0, 0))) := fun y hy => XS.out y ((bdrew (bR)).trans hy)
    replace XA : Hid (∀ y, Below (w2g.heap.size) ((((wB1.setCell ⟨w.heap.size + 1 + 1, 0, none⟩ (.int .i64 0)).setCell ⟨w.heap.size + 1 + 1, 1, none⟩ (.int .i64 0)).setCell ⟨w.heap.size + 1 + 1, 2, none⟩ (.slice none 0 0)).drew) y → y.heap[w1.heap.size]? = some (.cells #[.slice ca cn cc, .slice (some ⟨wb, wo, none⟩) wl wc, .int .i64 (yn : Nat), .int .i64 (tn : Nat), .int .i64 (on : Nat), .slice da dl dc, .slice (some ⟨wb, wo, none⟩) yn wc, .int .i64 0, .int .i64 (tn : Nat), .slice (some ⟨wb, wo + yn, none⟩) (wl - yn) (wc - yn), .int .i64 (yn : Nat), .int .i64 (ou : Nat), .slice ta tl tc] 69 (0, 0))) := fun y hy => XA.out y ((bdrew (bR)).trans hy)
    replace XT : Hid (∀ y, Below (w2g.heap.size) ((((wB1.setCell ⟨w.heap.size + 1 + 1, 0, none⟩ (.int .i64 0)).setCell ⟨w.heap.size + 1 + 1, 1, none⟩ (.int .i64 0)).setCell ⟨w.heap.size + 1 + 1, 2, none⟩ (.slice none 0 0)).drew) y → y.heap[w2.heap.size]? = some (.cells #[.int .i64 0, .int .i64 0, .slice none 0 0] 75 (0, 0))) := fun y hy => XT.out y ((bdrew (bR)).trans hy)
    replace hz : w2g.heap.size ≤ ((((wB1.setCell ⟨w.heap.size + 1 + 1, 0, none⟩ (.int .i64 0)).setCell ⟨w.heap.size + 1 + 1, 1, none⟩ (.int .i64 0)).setCell ⟨w.heap.size + 1 + 1, 2, none⟩ (.slice none 0 0)).drew).heap.size := Nat.le_trans hz (Below.size (bdrew (Below.refl (w2g.heap.size) (((wB1.setCell ⟨w.heap.size + 1 + 1, 0, none⟩ (.int .i64 0)).setCell ⟨w.heap.size + 1 + 1, 1, none⟩ (.int .i64 0)).setCell ⟨w.heap.size + 1 + 1, 2, none⟩ (.slice none 0 0)))))
    have BF : Hid (Below w.heap.size w (((((wB1.setCell ⟨w.heap.size + 1 + 1, 0, none⟩ (.int .i64 0)).setCell ⟨w.heap.size + 1 + 1, 1, none⟩ (.int .i64 0)).setCell ⟨w.heap.size + 1 + 1, 2, none⟩ (.slice none 0 0)).drew))) := B.out _ (bR)
    have XC : Hid ((((((wB1.setCell ⟨w.heap.size + 1 + 1, 0, none⟩ (.int .i64 0)).setCell ⟨w.heap.size + 1 + 1, 1, none⟩ (.int .i64 0)).setCell ⟨w.heap.size + 1 + 1, 2, none⟩ (.slice none 0 0)).drew)).heap[w.heap.size + 1]? = some (.cells #[.slice ca cn cc, .slice (some ⟨wb, wo, none⟩) wl wc, .int .i64 (yn : Nat), .int .i64 (tn : Nat), .int .i64 (on : Nat), .slice da dl dc, .slice (some ⟨wb, wo, none⟩) yn wc, .int .i64 0, .int .i64 (tn : Nat), .slice (some ⟨wb, wo + yn, none⟩) (wl - yn) (wc - yn), .int .i64 (yn : Nat), .int .i64 (ou : Nat), .slice ta tl tc] 69 (0, 0))) := XR.out _ (bR)
    have XD : Hid ((((((wB1.setCell ⟨w.heap.size + 1 + 1, 0, none⟩ (.int .i64 0)).setCell ⟨w.heap.size + 1 + 1, 1, none⟩ (.int .i64 0)).setCell ⟨w.heap.size + 1 + 1, 2, none⟩ (.slice none 0 0)).drew)).heap[w.heap.size + 1 + 1]? = some (.cells #[.int .i64 0, .int .i64 0, .slice none 0 0] 75 (0, 0))) := XS.out _ (bR)
    clear B RW XR XS XA XT hz
    generalize ((((wB1.setCell ⟨w.heap.size + 1 + 1, 0, none⟩ (.int .i64 0)).setCell ⟨w.heap.size + 1 + 1, 1, none⟩ (.int .i64 0)).setCell ⟨w.heap.size + 1 + 1, 2, none⟩ (.slice none 0 0)).drew) = wF at  BF XC XD ⊢
    have kXC0 : wF.cell? ⟨w.heap.size + 1, 0, none⟩ = some (.slice ca cn cc) := (boxG XC.out 0).1
    have kXC1 : wF.cell? ⟨w.heap.size + 1, 1, none⟩ = some (.slice (some ⟨wb, wo, none⟩) wl wc) := (boxG XC.out 1).1
    have kXC2 : wF.cell? ⟨w.heap.size + 1, 2, none⟩ = some (.int .i64 (yn : Nat)) := (boxG XC.out 2).1
    have kXC3 : wF.cell? ⟨w.heap.size + 1, 3, none⟩ = some (.int .i64 (tn : Nat)) := (boxG XC.out 3).1
    have kXC4 : wF.cell? ⟨w.heap.size + 1, 4, none⟩ = some (.int .i64 (on : Nat)) := (boxG XC.out 4).1
    have kXC5 : wF.cell? ⟨w.heap.size + 1, 5, none⟩ = some (.slice da dl dc) := (boxG XC.out 5).1
    have kXC6 : wF.cell? ⟨w.heap.size + 1, 6, none⟩ = some (.slice (some ⟨wb, wo, none⟩) yn wc) := (boxG XC.out 6).1
    have kXC7 : wF.cell? ⟨w.heap.size + 1, 7, none⟩ = some (.int .i64 0) := (boxG XC.out 7).1
    have kXC8 : wF.cell? ⟨w.heap.size + 1, 8, none⟩ = some (.int .i64 (tn : Nat)) := (boxG XC.out 8).1
    have kXC9 : wF.cell? ⟨w.heap.size + 1, 9, none⟩ = some (.slice (some ⟨wb, wo + yn, none⟩) (wl - yn) (wc - yn)) := (boxG XC.out 9).1
    have kXC10 : wF.cell? ⟨w.heap.size + 1, 10, none⟩ = some (.int .i64 (yn : Nat)) := (boxG XC.out 10).1
    have kXC11 : wF.cell? ⟨w.heap.size + 1, 11, none⟩ = some (.int .i64 (ou : Nat)) := (boxG XC.out 11).1
    have kXC12 : wF.cell? ⟨w.heap.size + 1, 12, none⟩ = some (.slice ta tl tc) := (boxG XC.out 12).1
    have kXD0 : wF.cell? ⟨w.heap.size + 1 + 1, 0, none⟩ = some (.int .i64 0) := (boxG XD.out 0).1
    have kXD1 : wF.cell? ⟨w.heap.size + 1 + 1, 1, none⟩ = some (.int .i64 0) := (boxG XD.out 1).1
    have kXD2 : wF.cell? ⟨w.heap.size + 1 + 1, 2, none⟩ = some (.slice none 0 0) := (boxG XD.out 2).1
    rename_i K0 hK0
    refine hK0 _ _ (wp_ret ?_)
    refine bodyPost_ret (v := .tuple #[.agg #[.slice ca cn cc, .slice (some ⟨wb, wo, none⟩) wl wc, .int .i64 (yn : Nat), .int .i64 (tn : Nat), .int .i64 (on : Nat), .slice da dl dc, .slice (some ⟨wb, wo, none⟩) yn wc, .int .i64 0, .int .i64 (tn : Nat), .slice (some ⟨wb, wo + yn, none⟩) (wl - yn) (wc - yn), .int .i64 (yn : Nat), .int .i64 (ou : Nat), .slice ta tl tc], .agg #[.int .i64 0, .int .i64 0, .slice none 0 0], .bool false]) ?_ rfl ?_
    · simp [results, Try.results56, go_sem, kXC0, kXC1, kXC2, kXC3, kXC4, kXC5, kXC6, kXC7, kXC8, kXC9, kXC10, kXC11, kXC12, kXD0, kXD1, kXD2]
    · refine ⟨?_, ?_, BF.out⟩
      · exact fun _ => ⟨_, _, _, _, _, _, _, _, _, _, _, _, _, _, _, _, _, _, _, _, _, _, _, _, _, _, _, _, _, _, rfl⟩
      · intro h
        rw [GF.out] at h
        cases h
  obtain ⟨j, c0, ty, ya, yl, yc, hj, rfl, hy⟩ := hfy hi
  have HI : Hid (isAt T v = true) := hi
  have EA : Hid (atT T v = (v, c0, ty)) := atT_of INC0.out hj
  have YW0 : Hid (IntsAt (fun b => w.heap.size + 1 + 1 + 1 ≤ b ∧ b < w1.heap.size) w2 ya yl ty) := hy
  obtain ⟨q0, hq0⟩ : ∃ q0, plB k yl = q0 := ⟨_, rfl⟩
  have GT : Hid (getB L (ws, (yn : Int), (tn : Int), (on : Int), cd) v k = q0) := by show _ = _; rw [getB_at HM.out (by rw [HT.out]; exact hi), HT.out, EA.out, ← hq0, plB_in]; simp only; rw [hy.size]
  clear hfn hfy hj hy hi
  have nR : ¬ (fun b => w.heap.size + 1 + 1 + 1 ≤ b ∧ b < w1.heap.size) (w.heap.size + 1) := by
    intro h
    have h1 : w.heap.size + 1 + 1 + 1 ≤ w.heap.size + 1 := h.1
    omega
  have nS : ¬ (fun b => w.heap.size + 1 + 1 + 1 ≤ b ∧ b < w1.heap.size) (w.heap.size + 1 + 1) := by
    intro h
    have h1 : w.heap.size + 1 + 1 + 1 ≤ w.heap.size + 1 + 1 := h.1
    omega
  have YW : Hid (∀ y, Below (w2.heap.size) w2 y → IntsAt (fun b => w.heap.size + 1 + 1 + 1 ≤ b ∧ b < w1.heap.size) y ya yl ty) := fun y hy => YW0.out.later hy
  have kM0 : w2.cell? ⟨w.heap.size, 0, none⟩ = some (.slice (some ⟨wb, wo, none⟩) wl wc) := (boxG (XM.out w2 (bR)) 0).1
  have kM1 : w2.cell? ⟨w.heap.size, 1, none⟩ = some (.int .i64 (yn : Nat)) := (boxG (XM.out w2 (bR)) 1).1
  have kM2 : w2.cell? ⟨w.heap.size, 2, none⟩ = some (.int .i64 (tn : Nat)) := (boxG (XM.out w2 (bR)) 2).1
  have kM3 : w2.cell? ⟨w.heap.size, 3, none⟩ = some (.int .i64 (on : Nat)) := (boxG (XM.out w2 (bR)) 3).1
  have kM4 : w2.cell? ⟨w.heap.size, 4, none⟩ = some (.slice da dl dc) := (boxG (XM.out w2 (bR)) 4).1
  have kA0 : w2.cell? ⟨w1.heap.size, 0, none⟩ = some (.slice ca cn cc) := (boxG (XA.out w2 (bR)) 0).1
  have kA1 : w2.cell? ⟨w1.heap.size, 1, none⟩ = some (.slice (some ⟨wb, wo, none⟩) wl wc) := (boxG (XA.out w2 (bR)) 1).1
  have kA2 : w2.cell? ⟨w1.heap.size, 2, none⟩ = some (.int .i64 (yn : Nat)) := (boxG (XA.out w2 (bR)) 2).1
  have kA3 : w2.cell? ⟨w1.heap.size, 3, none⟩ = some (.int .i64 (tn : Nat)) := (boxG (XA.out w2 (bR)) 3).1
  have kA4 : w2.cell? ⟨w1.heap.size, 4, none⟩ = some (.int .i64 (on : Nat)) := (boxG (XA.out w2 (bR)) 4).1
  have kA5 : w2.cell? ⟨w1.heap.size, 5, none⟩ = some (.slice da dl dc) := (boxG (XA.out w2 (bR)) 5).1
  have kA6 : w2.cell? ⟨w1.heap.size, 6, none⟩ = some (.slice (some ⟨wb, wo, none⟩) yn wc) := (boxG (XA.out w2 (bR)) 6).1
  have kA7 : w2.cell? ⟨w1.heap.size, 7, none⟩ = some (.int .i64 0) := (boxG (XA.out w2 (bR)) 7).1
  have kA8 : w2.cell? ⟨w1.heap.size, 8, none⟩ = some (.int .i64 (tn : Nat)) := (boxG (XA.out w2 (bR)) 8).1
  have kA9 : w2.cell? ⟨w1.heap.size, 9, none⟩ = some (.slice (some ⟨wb, wo + yn, none⟩) (wl - yn) (wc - yn)) := (boxG (XA.out w2 (bR)) 9).1
  have kA10 : w2.cell? ⟨w1.heap.size, 10, none⟩ = some (.int .i64 (yn : Nat)) := (boxG (XA.out w2 (bR)) 10).1
  have kA11 : w2.cell? ⟨w1.heap.size, 11, none⟩ = some (.int .i64 (ou : Nat)) := (boxG (XA.out w2 (bR)) 11).1
  have kA12 : w2.cell? ⟨w1.heap.size, 12, none⟩ = some (.slice ta tl tc) := (boxG (XA.out w2 (bR)) 12).1
  go_wp2_with fail
  clear kM0 kM1 kM2 kM3 kM4 kA0 kA1 kA2 kA3 kA4 kA5 kA6 kA7 kA8 kA9 kA10 kA11 kA12
  have BP : Hid (Below (w2.heap.size) w2 (w2.alloc (.cells #[.int .i64 v, .int .i64 c0, .slice ya yl yc] 75))) := ((bR).alloc (by first | exact hz | (simp; done) | (simp; omega) | (have := hz; simp at this ⊢; omega)) _)
  replace B : Hid (∀ y, Below (w2.heap.size + 1) (w2.alloc (.cells #[.int .i64 v, .int .i64 c0, .slice ya yl yc] 75)) y → Below w.heap.size w y) := fun y hy => B.out y (BP.out.trans (hy.mono (by omega)))
  replace RW : Hid (∀ y, Below (w2.heap.size + 1) (w2.alloc (.cells #[.int .i64 v, .int .i64 c0, .slice ya yl yc] 75)) y → ThRow (fun b => w.heap.size + 1 + 1 + 1 ≤ b ∧ b < w1.heap.size) y (.slice ta tl tc) T) := fun y hy => RW.out y (BP.out.trans (hy.mono (by omega)))
  replace YW : Hid (∀ y, Below (w2.heap.size + 1) (w2.alloc (.cells #[.int .i64 v, .int .i64 c0, .slice ya yl yc] 75)) y → IntsAt (fun b => w.heap.size + 1 + 1 + 1 ≤ b ∧ b < w1.heap.size) y ya yl ty) := fun y hy => YW.out y (BP.out.trans (hy.mono (by omega)))
  replace XM : Hid (∀ y, Below (w2.heap.size + 1) (w2.alloc (.cells #[.int .i64 v, .int .i64 c0, .slice ya yl yc] 75)) y → y.heap[w.heap.size]? = some (.cells #[.slice (some ⟨wb, wo, none⟩) wl wc, .int .i64 (yn : Nat), .int .i64 (tn : Nat), .int .i64 (on : Nat), .slice da dl dc] 25 (0, 0))) := fun y hy => XM.out y (BP.out.trans (hy.mono (by omega)))
  replace lM : w.heap.size < w2.heap.size + 1 := by omega
  replace XR : Hid (∀ y, Below (w2.heap.size + 1) (w2.alloc (.cells #[.int .i64 v, .int .i64 c0, .slice ya yl yc] 75)) y → y.heap[w.heap.size + 1]? = some (.cells #[.slice none 0 0, .slice none 0 0, .int .i64 0, .int .i64 0, .int .i64 0, .slice none 0 0, .slice none 0 0, .int .i64 0, .int .i64 0, .slice none 0 0, .int .i64 0, .int .i64 0, .slice none 0 0] 69 (0, 0))) := fun y hy => XR.out y (BP.out.trans (hy.mono (by omega)))
  replace lR : w.heap.size + 1 < w2.heap.size + 1 := by omega
  replace XS : Hid (∀ y, Below (w2.heap.size + 1) (w2.alloc (.cells #[.int .i64 v, .int .i64 c0, .slice ya yl yc] 75)) y → y.heap[w.heap.size + 1 + 1]? = some (.cells #[.int .i64 0, .int .i64 0, .slice none 0 0] 75 (0, 0))) := fun y hy => XS.out y (BP.out.trans (hy.mono (by omega)))
  replace lS : w.heap.size + 1 + 1 < w2.heap.size + 1 := by omega
  replace XA : Hid (∀ y, Below (w2.heap.size + 1) (w2.alloc (.cells #[.int .i64 v, .int .i64 c0, .slice ya yl yc] 75)) y → y.heap[w1.heap.size]? = some (.cells #[.slice ca cn cc, .slice (some ⟨wb, wo, none⟩) wl wc, .int .i64 (yn : Nat), .int .i64 (tn : Nat), .int .i64 (on : Nat), .slice da dl dc, .slice (some ⟨wb, wo, none⟩) yn wc, .int .i64 0, .int .i64 (tn : Nat), .slice (some ⟨wb, wo + yn, none⟩) (wl - yn) (wc - yn), .int .i64 (yn : Nat), .int .i64 (ou : Nat), .slice ta tl tc] 69 (0, 0))) := fun y hy => XA.out y (BP.out.trans (hy.mono (by omega)))
  replace lA : w1.heap.size < w2.heap.size + 1 := by omega
  have XT : Hid (∀ y, Below (w2.heap.size + 1) (w2.alloc (.cells #[.int .i64 v, .int .i64 c0, .slice ya yl yc] 75)) y → y.heap[w2.heap.size]? = some (.cells #[.int .i64 v, .int .i64 c0, .slice ya yl yc] 75 (0, 0))) := fun y hy => (hy.block _ (by omega)).trans (boxN _ _ _ _ (by simp))
  have lT : w2.heap.size < w2.heap.size + 1 := by omega
  replace hz : w2.heap.size + 1 ≤ ((w2.alloc (.cells #[.int .i64 v, .int .i64 c0, .slice ya yl yc] 75))).heap.size := by simp
  clear BP
  clear XM lM
  generalize (w2.alloc (.cells #[.int .i64 v, .int .i64 c0, .slice ya yl yc] 75)) = w2g at B RW YW XR XS XA XT hz ⊢
  have hzn : w2.heap.size + 1 ≤ w2g.heap.size := Nat.le_trans hz (Below.size (Below.refl (w2.heap.size + 1) w2g))
  replace B : Hid (∀ y, Below w2g.heap.size w2g y → Below w.heap.size w y) := fun y hy => B.out y (Below.trans (Below.refl (w2.heap.size + 1) w2g) (hy.mono hzn))
  replace RW : Hid (∀ y, Below w2g.heap.size w2g y → ThRow (fun b => w.heap.size + 1 + 1 + 1 ≤ b ∧ b < w1.heap.size) y (.slice ta tl tc) T) := fun y hy => RW.out y (Below.trans (Below.refl (w2.heap.size + 1) w2g) (hy.mono hzn))
  replace YW : Hid (∀ y, Below w2g.heap.size w2g y → IntsAt (fun b => w.heap.size + 1 + 1 + 1 ≤ b ∧ b < w1.heap.size) y ya yl ty) := fun y hy => YW.out y (Below.trans (Below.refl (w2.heap.size + 1) w2g) (hy.mono hzn))
  replace XR : Hid (∀ y, Below w2g.heap.size w2g y → y.heap[w.heap.size + 1]? = some (.cells #[.slice none 0 0, .slice none 0 0, .int .i64 0, .int .i64 0, .int .i64 0, .slice none 0 0, .slice none 0 0, .int .i64 0, .int .i64 0, .slice none 0 0, .int .i64 0, .int .i64 0, .slice none 0 0] 69 (0, 0))) := fun y hy => XR.out y (Below.trans (Below.refl (w2.heap.size + 1) w2g) (hy.mono hzn))
  replace lR : w.heap.size + 1 < w2g.heap.size := by omega
  replace XS : Hid (∀ y, Below w2g.heap.size w2g y → y.heap[w.heap.size + 1 + 1]? = some (.cells #[.int .i64 0, .int .i64 0, .slice none 0 0] 75 (0, 0))) := fun y hy => XS.out y (Below.trans (Below.refl (w2.heap.size + 1) w2g) (hy.mono hzn))
  replace lS : w.heap.size + 1 + 1 < w2g.heap.size := by omega
  replace XA : Hid (∀ y, Below w2g.heap.size w2g y → y.heap[w1.heap.size]? = some (.cells #[.slice ca cn cc, .slice (some ⟨wb, wo, none⟩) wl wc, .int .i64 (yn : Nat), .int .i64 (tn : Nat), .int .i64 (on : Nat), .slice da dl dc, .slice (some ⟨wb, wo, none⟩) yn wc, .int .i64 0, .int .i64 (tn : Nat), .slice (some ⟨wb, wo + yn, none⟩) (wl - yn) (wc - yn), .int .i64 (yn : Nat), .int .i64 (ou : Nat), .slice ta tl tc] 69 (0, 0))) := fun y hy => XA.out y (Below.trans (Below.refl (w2.heap.size + 1) w2g) (hy.mono hzn))
  replace lA : w1.heap.size < w2g.heap.size := by omega
  replace XT : Hid (∀ y, Below w2g.heap.size w2g y → y.heap[w2.heap.size]? = some (.cells #[.int .i64 v, .int .i64 c0, .slice ya yl yc] 75 (0, 0))) := fun y hy => XT.out y (Below.trans (Below.refl (w2.heap.size + 1) w2g) (hy.mono hzn))
  replace lT : w2.heap.size < w2g.heap.size := by omega
  clear hz
  have hz : w2g.heap.size ≤ w2g.heap.size := Nat.le_refl _
  have KS : Hid (∀ x, Below (w2g.heap.size) w2g x → x.cell? ⟨w1.heap.size, 0, none⟩ = some (.slice ca cn cc) ∧ x.cell? ⟨w1.heap.size, 1, none⟩ = some (.slice (some ⟨wb, wo, none⟩) wl wc) ∧ x.cell? ⟨w1.heap.size, 2, none⟩ = some (.int .i64 (yn : Nat)) ∧ x.cell? ⟨w1.heap.size, 3, none⟩ = some (.int .i64 (tn : Nat)) ∧ x.cell? ⟨w1.heap.size, 4, none⟩ = some (.int .i64 (on : Nat)) ∧ x.cell? ⟨w1.heap.size, 5, none⟩ = some (.slice da dl dc) ∧ x.cell? ⟨w1.heap.size, 6, none⟩ = some (.slice (some ⟨wb, wo, none⟩) yn wc) ∧ x.cell? ⟨w1.heap.size, 7, none⟩ = some (.int .i64 0) ∧ x.cell? ⟨w1.heap.size, 8, none⟩ = some (.int .i64 (tn : Nat)) ∧ x.cell? ⟨w1.heap.size, 9, none⟩ = some (.slice (some ⟨wb, wo + yn, none⟩) (wl - yn) (wc - yn)) ∧ x.cell? ⟨w1.heap.size, 10, none⟩ = some (.int .i64 (yn : Nat)) ∧ x.cell? ⟨w1.heap.size, 11, none⟩ = some (.int .i64 (ou : Nat)) ∧ x.cell? ⟨w1.heap.size, 12, none⟩ = some (.slice ta tl tc) ∧ x.cell? ⟨w2.heap.size, 0, none⟩ = some (.int .i64 v) ∧ x.cell? ⟨w2.heap.size, 1, none⟩ = some (.int .i64 c0) ∧ x.cell? ⟨w2.heap.size, 2, none⟩ = some (.slice ya yl yc)) := fun x hx => ⟨(boxG (XA.out x hx) 0).1, (boxG (XA.out x hx) 1).1, (boxG (XA.out x hx) 2).1, (boxG (XA.out x hx) 3).1, (boxG (XA.out x hx) 4).1, (boxG (XA.out x hx) 5).1, (boxG (XA.out x hx) 6).1, (boxG (XA.out x hx) 7).1, (boxG (XA.out x hx) 8).1, (boxG (XA.out x hx) 9).1, (boxG (XA.out x hx) 10).1, (boxG (XA.out x hx) 11).1, (boxG (XA.out x hx) 12).1, (boxG (XT.out x hx) 0).1, (boxG (XT.out x hx) 1).1, (boxG (XT.out x hx) 2).1⟩
  refine wp_region_held_drew (S := fun x => x.cell? ⟨w1.heap.size, 0, none⟩ = some (.slice ca cn cc) ∧ x.cell? ⟨w1.heap.size, 1, none⟩ = some (.slice (some ⟨wb, wo, none⟩) wl wc) ∧ x.cell? ⟨w1.heap.size, 2, none⟩ = some (.int .i64 (yn : Nat)) ∧ x.cell? ⟨w1.heap.size, 3, none⟩ = some (.int .i64 (tn : Nat)) ∧ x.cell? ⟨w1.heap.size, 4, none⟩ = some (.int .i64 (on : Nat)) ∧ x.cell? ⟨w1.heap.size, 5, none⟩ = some (.slice da dl dc) ∧ x.cell? ⟨w1.heap.size, 6, none⟩ = some (.slice (some ⟨wb, wo, none⟩) yn wc) ∧ x.cell? ⟨w1.heap.size, 7, none⟩ = some (.int .i64 0) ∧ x.cell? ⟨w1.heap.size, 8, none⟩ = some (.int .i64 (tn : Nat)) ∧ x.cell? ⟨w1.heap.size, 9, none⟩ = some (.slice (some ⟨wb, wo + yn, none⟩) (wl - yn) (wc - yn)) ∧ x.cell? ⟨w1.heap.size, 10, none⟩ = some (.int .i64 (yn : Nat)) ∧ x.cell? ⟨w1.heap.size, 11, none⟩ = some (.int .i64 (ou : Nat)) ∧ x.cell? ⟨w1.heap.size, 12, none⟩ = some (.slice ta tl tc) ∧ x.cell? ⟨w2.heap.size, 0, none⟩ = some (.int .i64 v) ∧ x.cell? ⟨w2.heap.size, 1, none⟩ = some (.int .i64 c0) ∧ x.cell? ⟨w2.heap.size, 2, none⟩ = some (.slice ya yl yc)) (by kernel_rfl) ?_ (fun hHeld => ?_)
  · exact KS.out _ (bdrew (bR))
  refine wpAnyH_take (i := 0) (v := ?_) rfl (by kernel_rfl) (by kernel_rfl) (by kernel_rfl) (fun _ _ _ h => h) (Or.inl ⟨by kernel_rfl, ?_⟩) (by assumption) ?_
  rotate_left 1
  · intro x hSx
    (try dsimp only at hSx)
    go_simp
    try with_reducible rfl
  try simp only [Act.put, List.getElem_toArray, List.getElem_cons_zero, List.setIfInBounds_toArray, List.set_cons_zero, List.set_cons_succ]
  refine wpAnyH_take (i := 1) (v := ?_) rfl (by kernel_rfl) (by kernel_rfl) (by kernel_rfl) (fun _ _ _ h => h) (Or.inl ⟨by kernel_rfl, ?_⟩) (by assumption) ?_
  rotate_left 1
  · intro x hSx
    (try dsimp only at hSx)
    go_simp
    try with_reducible rfl
  try simp only [Act.put, List.getElem_toArray, List.getElem_cons_zero, List.getElem_cons_succ, List.setIfInBounds_toArray, List.set_cons_zero, List.set_cons_succ]
  refine wpAnyH_take (i := 2) (v := ?_) rfl (by kernel_rfl) (by kernel_rfl) (by kernel_rfl) (fun _ _ _ h => h) (Or.inl ⟨by kernel_rfl, ?_⟩) (by assumption) ?_
  rotate_left 1
  · intro x hSx
    (try dsimp only at hSx)
    go_simp
    try with_reducible rfl
  try simp only [Act.put, List.getElem_toArray, List.getElem_cons_zero, List.getElem_cons_succ, List.setIfInBounds_toArray, List.set_cons_zero, List.set_cons_succ]
  refine wpAnyH_take (i := 3) (v := ?_) rfl (by kernel_rfl) (by kernel_rfl) (by kernel_rfl) (fun _ _ _ h => h) (Or.inl ⟨by kernel_rfl, ?_⟩) (by assumption) ?_
  rotate_left 1
  · intro x hSx
    (try dsimp only at hSx)
    go_simp
    try with_reducible rfl
  try simp only [Act.put, List.getElem_toArray, List.getElem_cons_zero, List.getElem_cons_succ, List.setIfInBounds_toArray, List.set_cons_zero, List.set_cons_succ]
  refine wpAnyH_take (i := 4) (v := ?_) rfl (by kernel_rfl) (by kernel_rfl) (by kernel_rfl) (fun _ _ _ h => h) (Or.inl ⟨by kernel_rfl, ?_⟩) (by assumption) ?_
  rotate_left 1
  · intro x hSx
    (try dsimp only at hSx)
    go_simp
    try with_reducible rfl
  try simp only [Act.put, List.getElem_toArray, List.getElem_cons_zero, List.getElem_cons_succ, List.setIfInBounds_toArray, List.set_cons_zero, List.set_cons_succ]
  refine wpAnyH_take (i := 5) (v := ?_) rfl (by kernel_rfl) (by kernel_rfl) (by kernel_rfl) (fun _ _ _ h => h) (Or.inl ⟨by kernel_rfl, ?_⟩) (by assumption) ?_
  rotate_left 1
  · intro x hSx
    (try dsimp only at hSx)
    go_simp
    try with_reducible rfl
  try simp only [Act.put, List.getElem_toArray, List.getElem_cons_zero, List.getElem_cons_succ, List.setIfInBounds_toArray, List.set_cons_zero, List.set_cons_succ]
  refine wpAnyH_take (i := 6) (v := ?_) rfl (by kernel_rfl) (by kernel_rfl) (by kernel_rfl) (fun _ _ _ h => h) (Or.inl ⟨by kernel_rfl, ?_⟩) (by assumption) ?_
  rotate_left 1
  · intro x hSx
    (try dsimp only at hSx)
    go_simp
    try with_reducible rfl
  try simp only [Act.put, List.getElem_toArray, List.getElem_cons_zero, List.getElem_cons_succ, List.setIfInBounds_toArray, List.set_cons_zero, List.set_cons_succ]
  refine wpAnyH_take (i := 7) (v := ?_) rfl (by kernel_rfl) (by kernel_rfl) (by kernel_rfl) (fun _ _ _ h => h) (Or.inl ⟨by kernel_rfl, ?_⟩) (by assumption) ?_
  rotate_left 1
  · intro x hSx
    (try dsimp only at hSx)
    go_simp
    try with_reducible rfl
  try simp only [Act.put, List.getElem_toArray, List.getElem_cons_zero, List.getElem_cons_succ, List.setIfInBounds_toArray, List.set_cons_zero, List.set_cons_succ]
  refine wpAnyH_ready (rs := [8]) (by kernel_rfl) (by simp) ?_
  refine AllReadyH.cons rfl (fun K hK => ?_) AllReadyH.nil
  go_simp
  go_at_call 74
  refine (placeImpl' k yl q0 hq0 _).mono ?_
  rintro e w9 ⟨rfl, rfl⟩
  go_wp2_with fail
  refine hK.out _ _ (KS.out _ (bdrew (bR))) (fun hHeld2 => ?_)
  clear hK K
  try simp only [Act.put, List.getElem_toArray, List.getElem_cons_zero, List.getElem_cons_succ, List.setIfInBounds_toArray, List.set_cons_zero, List.set_cons_succ]
  refine wpAnyH_take (i := 9) (v := ?_) rfl (by kernel_rfl) (by kernel_rfl) (by kernel_rfl) (fun _ _ _ h => h) (Or.inl ⟨by kernel_rfl, ?_⟩) (by assumption) ?_
  rotate_left 1
  · intro x hSx
    (try dsimp only at hSx)
    go_simp
    try with_reducible rfl
  try simp only [Act.put, List.getElem_toArray, List.getElem_cons_zero, List.getElem_cons_succ, List.setIfInBounds_toArray, List.set_cons_zero, List.set_cons_succ]
  refine wpAnyH_ready (rs := [10]) (by kernel_rfl) (by simp) ?_
  refine AllReadyH.cons rfl (fun K hK => ?_) AllReadyH.nil
  have kR0 : w2g.cell? ⟨w.heap.size + 1, 0, none⟩ = some (.slice none 0 0) := (boxG (XR.out w2g (bR)) 0).1
  have qkR0 : w2g.frozen? ⟨w.heap.size + 1, 0, none⟩ = false := (boxG (XR.out w2g (bR)) 0).2
  have kR1 : w2g.cell? ⟨w.heap.size + 1, 1, none⟩ = some (.slice none 0 0) := (boxG (XR.out w2g (bR)) 1).1
  have qkR1 : w2g.frozen? ⟨w.heap.size + 1, 1, none⟩ = false := (boxG (XR.out w2g (bR)) 1).2
  have kR2 : w2g.cell? ⟨w.heap.size + 1, 2, none⟩ = some (.int .i64 0) := (boxG (XR.out w2g (bR)) 2).1
  have qkR2 : w2g.frozen? ⟨w.heap.size + 1, 2, none⟩ = false := (boxG (XR.out w2g (bR)) 2).2
  have kR3 : w2g.cell? ⟨w.heap.size + 1, 3, none⟩ = some (.int .i64 0) := (boxG (XR.out w2g (bR)) 3).1
  have qkR3 : w2g.frozen? ⟨w.heap.size + 1, 3, none⟩ = false := (boxG (XR.out w2g (bR)) 3).2
  have kR4 : w2g.cell? ⟨w.heap.size + 1, 4, none⟩ = some (.int .i64 0) := (boxG (XR.out w2g (bR)) 4).1
  have qkR4 : w2g.frozen? ⟨w.heap.size + 1, 4, none⟩ = false := (boxG (XR.out w2g (bR)) 4).2
  have kR5 : w2g.cell? ⟨w.heap.size + 1, 5, none⟩ = some (.slice none 0 0) := (boxG (XR.out w2g (bR)) 5).1
  have qkR5 : w2g.frozen? ⟨w.heap.size + 1, 5, none⟩ = false := (boxG (XR.out w2g (bR)) 5).2
  have kR6 : w2g.cell? ⟨w.heap.size + 1, 6, none⟩ = some (.slice none 0 0) := (boxG (XR.out w2g (bR)) 6).1
  have qkR6 : w2g.frozen? ⟨w.heap.size + 1, 6, none⟩ = false := (boxG (XR.out w2g (bR)) 6).2
  have kR7 : w2g.cell? ⟨w.heap.size + 1, 7, none⟩ = some (.int .i64 0) := (boxG (XR.out w2g (bR)) 7).1
  have qkR7 : w2g.frozen? ⟨w.heap.size + 1, 7, none⟩ = false := (boxG (XR.out w2g (bR)) 7).2
  have kR8 : w2g.cell? ⟨w.heap.size + 1, 8, none⟩ = some (.int .i64 0) := (boxG (XR.out w2g (bR)) 8).1
  have qkR8 : w2g.frozen? ⟨w.heap.size + 1, 8, none⟩ = false := (boxG (XR.out w2g (bR)) 8).2
  have kR9 : w2g.cell? ⟨w.heap.size + 1, 9, none⟩ = some (.slice none 0 0) := (boxG (XR.out w2g (bR)) 9).1
  have qkR9 : w2g.frozen? ⟨w.heap.size + 1, 9, none⟩ = false := (boxG (XR.out w2g (bR)) 9).2
  have kR10 : w2g.cell? ⟨w.heap.size + 1, 10, none⟩ = some (.int .i64 0) := (boxG (XR.out w2g (bR)) 10).1
  have qkR10 : w2g.frozen? ⟨w.heap.size + 1, 10, none⟩ = false := (boxG (XR.out w2g (bR)) 10).2
  have kR11 : w2g.cell? ⟨w.heap.size + 1, 11, none⟩ = some (.int .i64 0) := (boxG (XR.out w2g (bR)) 11).1
  have qkR11 : w2g.frozen? ⟨w.heap.size + 1, 11, none⟩ = false := (boxG (XR.out w2g (bR)) 11).2
  have kR12 : w2g.cell? ⟨w.heap.size + 1, 12, none⟩ = some (.slice none 0 0) := (boxG (XR.out w2g (bR)) 12).1
  have qkR12 : w2g.frozen? ⟨w.heap.size + 1, 12, none⟩ = false := (boxG (XR.out w2g (bR)) 12).2
  go_simp
  clear kR0 qkR0 kR1 qkR1 kR2 qkR2 kR3 qkR3 kR4 qkR4 kR5 qkR5 kR6 qkR6 kR7 qkR7 kR8 qkR8 kR9 qkR9 kR10 qkR10 kR11 qkR11 kR12 qkR12
  generalize hW : (((((((((((((w2g.setCell ⟨w.heap.size + 1, 0, none⟩ (.slice ca cn cc)).setCell ⟨w.heap.size + 1, 1, none⟩ (.slice (some ⟨wb, wo, none⟩) wl wc)).setCell ⟨w.heap.size + 1, 2, none⟩ (.int .i64 (yn : Nat))).setCell ⟨w.heap.size + 1, 3, none⟩ (.int .i64 (tn : Nat))).setCell ⟨w.heap.size + 1, 4, none⟩ (.int .i64 (on : Nat))).setCell ⟨w.heap.size + 1, 5, none⟩ (.slice da dl dc)).setCell ⟨w.heap.size + 1, 6, none⟩ (.slice (some ⟨wb, wo, none⟩) yn wc)).setCell ⟨w.heap.size + 1, 7, none⟩ (.int .i64 0)).setCell ⟨w.heap.size + 1, 8, none⟩ (.int .i64 (tn : Nat))).setCell ⟨w.heap.size + 1, 9, none⟩ (.slice (some ⟨wb, wo + yn, none⟩) (wl - yn) (wc - yn))).setCell ⟨w.heap.size + 1, 10, none⟩ (.int .i64 (yn : Nat))).setCell ⟨w.heap.size + 1, 11, none⟩ (.int .i64 (ou : Nat))).setCell ⟨w.heap.size + 1, 12, none⟩ (.slice ta tl tc)) = wB1
  have hsB : wB1.heap.size = w2g.heap.size := by subst hW; simp
  have hw0 : w.heap.size ≤ w.heap.size + 1 := (by first | omega | (simp; done) | (simp; omega) | (simp at *; omega))
  replace XS : Hid (∀ y, Below (w2g.heap.size) wB1 y → y.heap[w.heap.size + 1 + 1]? = some (.cells #[.int .i64 0, .int .i64 0, .slice none 0 0] 75 (0, 0))) := fun y hy => by subst hW; exact (hy.block _ (by omega)).trans ((keep13 (by first | omega | (simp; done) | (simp; omega))).trans (XS.out w2g (bR)))
  replace XA : Hid (∀ y, Below (w2g.heap.size) wB1 y → y.heap[w1.heap.size]? = some (.cells #[.slice ca cn cc, .slice (some ⟨wb, wo, none⟩) wl wc, .int .i64 (yn : Nat), .int .i64 (tn : Nat), .int .i64 (on : Nat), .slice da dl dc, .slice (some ⟨wb, wo, none⟩) yn wc, .int .i64 0, .int .i64 (tn : Nat), .slice (some ⟨wb, wo + yn, none⟩) (wl - yn) (wc - yn), .int .i64 (yn : Nat), .int .i64 (ou : Nat), .slice ta tl tc] 69 (0, 0))) := fun y hy => by subst hW; exact (hy.block _ (by omega)).trans ((keep13 (by first | omega | (simp; done) | (simp; omega))).trans (XA.out w2g (bR)))
  replace XT : Hid (∀ y, Below (w2g.heap.size) wB1 y → y.heap[w2.heap.size]? = some (.cells #[.int .i64 v, .int .i64 c0, .slice ya yl yc] 75 (0, 0))) := fun y hy => by subst hW; exact (hy.block _ (by omega)).trans ((keep13 (by first | omega | (simp; done) | (simp; omega))).trans (XT.out w2g (bR)))
  replace XR : Hid (∀ y, Below (w2g.heap.size) wB1 y → y.heap[w.heap.size + 1]? = some (.cells #[.slice ca cn cc, .slice (some ⟨wb, wo, none⟩) wl wc, .int .i64 (yn : Nat), .int .i64 (tn : Nat), .int .i64 (on : Nat), .slice da dl dc, .slice (some ⟨wb, wo, none⟩) yn wc, .int .i64 0, .int .i64 (tn : Nat), .slice (some ⟨wb, wo + yn, none⟩) (wl - yn) (wc - yn), .int .i64 (yn : Nat), .int .i64 (ou : Nat), .slice ta tl tc] 69 (0, 0))) := fun y hy => by subst hW; exact (hy.block _ (by omega)).trans (box13 (XR.out w2g (bR)) rfl _ _ _ _ _ _ _ _ _ _ _ _ _)
  replace RW : Hid (∀ y, Below (w2g.heap.size) wB1 y → ThRow (fun b => w.heap.size + 1 + 1 + 1 ≤ b ∧ b < w1.heap.size) y (.slice ta tl tc) T) := fun y hy => by subst hW; exact ((((((((((((((RW.out w2g (bR)).box _ _ nR).box _ _ nR).box _ _ nR).box _ _ nR).box _ _ nR).box _ _ nR).box _ _ nR).box _ _ nR).box _ _ nR).box _ _ nR).box _ _ nR).box _ _ nR).box _ _ nR).later (hy.mono (by simp))
  replace YW : Hid (∀ y, Below (w2g.heap.size) wB1 y → IntsAt (fun b => w.heap.size + 1 + 1 + 1 ≤ b ∧ b < w1.heap.size) y ya yl ty) := fun y hy => by subst hW; exact ((((((((((((((YW.out w2g (bR)).set _ _ nR).set _ _ nR).set _ _ nR).set _ _ nR).set _ _ nR).set _ _ nR).set _ _ nR).set _ _ nR).set _ _ nR).set _ _ nR).set _ _ nR).set _ _ nR).set _ _ nR).later (hy.mono (by simp))
  replace B : Hid (∀ y, Below (w2g.heap.size) wB1 y → Below w.heap.size w y) := fun y hy => by subst hW; exact ((((((((((((((B.out w2g (bR)).setCell hw0 _).setCell hw0 _).setCell hw0 _).setCell hw0 _).setCell hw0 _).setCell hw0 _).setCell hw0 _).setCell hw0 _).setCell hw0 _).setCell hw0 _).setCell hw0 _).setCell hw0 _).setCell hw0 _).trans (hy.mono (by first | omega | exact Nat.le_trans (B.out w2g (bR)).size hz | (have := (B.out w2g (bR)).size; omega)))
  replace hz : w2g.heap.size ≤ wB1.heap.size := by subst hW; first | (simp; done) | simpa using hz
  clear hw0 hW
  replace KS : Hid (∀ x, Below (w2g.heap.size) wB1 x → x.cell? ⟨w1.heap.size, 0, none⟩ = some (.slice ca cn cc) ∧ x.cell? ⟨w1.heap.size, 1, none⟩ = some (.slice (some ⟨wb, wo, none⟩) wl wc) ∧ x.cell? ⟨w1.heap.size, 2, none⟩ = some (.int .i64 (yn : Nat)) ∧ x.cell? ⟨w1.heap.size, 3, none⟩ = some (.int .i64 (tn : Nat)) ∧ x.cell? ⟨w1.heap.size, 4, none⟩ = some (.int .i64 (on : Nat)) ∧ x.cell? ⟨w1.heap.size, 5, none⟩ = some (.slice da dl dc) ∧ x.cell? ⟨w1.heap.size, 6, none⟩ = some (.slice (some ⟨wb, wo, none⟩) yn wc) ∧ x.cell? ⟨w1.heap.size, 7, none⟩ = some (.int .i64 0) ∧ x.cell? ⟨w1.heap.size, 8, none⟩ = some (.int .i64 (tn : Nat)) ∧ x.cell? ⟨w1.heap.size, 9, none⟩ = some (.slice (some ⟨wb, wo + yn, none⟩) (wl - yn) (wc - yn)) ∧ x.cell? ⟨w1.heap.size, 10, none⟩ = some (.int .i64 (yn : Nat)) ∧ x.cell? ⟨w1.heap.size, 11, none⟩ = some (.int .i64 (ou : Nat)) ∧ x.cell? ⟨w1.heap.size, 12, none⟩ = some (.slice ta tl tc) ∧ x.cell? ⟨w2.heap.size, 0, none⟩ = some (.int .i64 v) ∧ x.cell? ⟨w2.heap.size, 1, none⟩ = some (.int .i64 c0) ∧ x.cell? ⟨w2.heap.size, 2, none⟩ = some (.slice ya yl yc)) := fun x hx => ⟨(boxG (XA.out x hx) 0).1, (boxG (XA.out x hx) 1).1, (boxG (XA.out x hx) 2).1, (boxG (XA.out x hx) 3).1, (boxG (XA.out x hx) 4).1, (boxG (XA.out x hx) 5).1, (boxG (XA.out x hx) 6).1, (boxG (XA.out x hx) 7).1, (boxG (XA.out x hx) 8).1, (boxG (XA.out x hx) 9).1, (boxG (XA.out x hx) 10).1, (boxG (XA.out x hx) 11).1, (boxG (XA.out x hx) 12).1, (boxG (XT.out x hx) 0).1, (boxG (XT.out x hx) 1).1, (boxG (XT.out x hx) 2).1⟩
  refine hK.out _ _ (KS.out _ (bdrew (bR))) (fun hHeld3 => ?_)
  clear hK K
  try simp only [Act.put, List.getElem_toArray, List.getElem_cons_zero, List.getElem_cons_succ, List.setIfInBounds_toArray, List.set_cons_zero, List.set_cons_succ]
  refine wpAnyH_ready (rs := [11]) (by kernel_rfl) (by simp) ?_
  refine AllReadyH.cons rfl (fun K hK => ?_) AllReadyH.nil
  have kS0 : wB1.cell? ⟨w.heap.size + 1 + 1, 0, none⟩ = some (.int .i64 0) := (boxG (XS.out wB1 (bR)) 0).1
  have qkS0 : wB1.frozen? ⟨w.heap.size + 1 + 1, 0, none⟩ = false := (boxG (XS.out wB1 (bR)) 0).2
  have kS1 : wB1.cell? ⟨w.heap.size + 1 + 1, 1, none⟩ = some (.int .i64 0) := (boxG (XS.out wB1 (bR)) 1).1
  have qkS1 : wB1.frozen? ⟨w.heap.size + 1 + 1, 1, none⟩ = false := (boxG (XS.out wB1 (bR)) 1).2
  have kS2 : wB1.cell? ⟨w.heap.size + 1 + 1, 2, none⟩ = some (.slice none 0 0) := (boxG (XS.out wB1 (bR)) 2).1
  have qkS2 : wB1.frozen? ⟨w.heap.size + 1 + 1, 2, none⟩ = false := (boxG (XS.out wB1 (bR)) 2).2
  go_simp
  clear kS0 qkS0 kS1 qkS1 kS2 qkS2
  have hw0 : w.heap.size ≤ w.heap.size + 1 + 1 := (by first | omega | (simp; done) | (simp; omega) | (simp at *; omega))
  replace XR : Hid (∀ y, Below (w2g.heap.size) (((wB1.setCell ⟨w.heap.size + 1 + 1, 0, none⟩ (.int .i64 v)).setCell ⟨w.heap.size + 1 + 1, 1, none⟩ (.int .i64 c0)).setCell ⟨w.heap.size + 1 + 1, 2, none⟩ (.slice ya yl yc)) y → y.heap[w.heap.size + 1]? = some (.cells #[.slice ca cn cc, .slice (some ⟨wb, wo, none⟩) wl wc, .int .i64 (yn : Nat), .int .i64 (tn : Nat), .int .i64 (on : Nat), .slice da dl dc, .slice (some ⟨wb, wo, none⟩) yn wc, .int .i64 0, .int .i64 (tn : Nat), .slice (some ⟨wb, wo + yn, none⟩) (wl - yn) (wc - yn), .int .i64 (yn : Nat), .int .i64 (ou : Nat), .slice ta tl tc] 69 (0, 0))) := fun y hy => (hy.block _ (by omega)).trans ((Below.heap_setCell _ _ _ _ (by first | omega | (simp; done) | (simp; omega))).trans ((Below.heap_setCell _ _ _ _ (by first | omega | (simp; done) | (simp; omega))).trans ((Below.heap_setCell _ _ _ _ (by first | omega | (simp; done) | (simp; omega))).trans (XR.out wB1 (bR)))))
  replace XA : Hid (∀ y, Below (w2g.heap.size) (((wB1.setCell ⟨w.heap.size + 1 + 1, 0, none⟩ (.int .i64 v)).setCell ⟨w.heap.size + 1 + 1, 1, none⟩ (.int .i64 c0)).setCell ⟨w.heap.size + 1 + 1, 2, none⟩ (.slice ya yl yc)) y → y.heap[w1.heap.size]? = some (.cells #[.slice ca cn cc, .slice (some ⟨wb, wo, none⟩) wl wc, .int .i64 (yn : Nat), .int .i64 (tn : Nat), .int .i64 (on : Nat), .slice da dl dc, .slice (some ⟨wb, wo, none⟩) yn wc, .int .i64 0, .int .i64 (tn : Nat), .slice (some ⟨wb, wo + yn, none⟩) (wl - yn) (wc - yn), .int .i64 (yn : Nat), .int .i64 (ou : Nat), .slice ta tl tc] 69 (0, 0))) := fun y hy => (hy.block _ (by omega)).trans ((Below.heap_setCell _ _ _ _ (by first | omega | (simp; done) | (simp; omega))).trans ((Below.heap_setCell _ _ _ _ (by first | omega | (simp; done) | (simp; omega))).trans ((Below.heap_setCell _ _ _ _ (by first | omega | (simp; done) | (simp; omega))).trans (XA.out wB1 (bR)))))
  replace XT : Hid (∀ y, Below (w2g.heap.size) (((wB1.setCell ⟨w.heap.size + 1 + 1, 0, none⟩ (.int .i64 v)).setCell ⟨w.heap.size + 1 + 1, 1, none⟩ (.int .i64 c0)).setCell ⟨w.heap.size + 1 + 1, 2, none⟩ (.slice ya yl yc)) y → y.heap[w2.heap.size]? = some (.cells #[.int .i64 v, .int .i64 c0, .slice ya yl yc] 75 (0, 0))) := fun y hy => (hy.block _ (by omega)).trans ((Below.heap_setCell _ _ _ _ (by first | omega | (simp; done) | (simp; omega))).trans ((Below.heap_setCell _ _ _ _ (by first | omega | (simp; done) | (simp; omega))).trans ((Below.heap_setCell _ _ _ _ (by first | omega | (simp; done) | (simp; omega))).trans (XT.out wB1 (bR)))))
  replace XS : Hid (∀ y, Below (w2g.heap.size) (((wB1.setCell ⟨w.heap.size + 1 + 1, 0, none⟩ (.int .i64 v)).setCell ⟨w.heap.size + 1 + 1, 1, none⟩ (.int .i64 c0)).setCell ⟨w.heap.size + 1 + 1, 2, none⟩ (.slice ya yl yc)) y → y.heap[w.heap.size + 1 + 1]? = some (.cells #[.int .i64 v, .int .i64 c0, .slice ya yl yc] 75 (0, 0))) := fun y hy => (hy.block _ (by omega)).trans (boxS (boxS (boxS (XS.out wB1 (bR)) 0 _) 1 _) 2 _)
  replace RW : Hid (∀ y, Below (w2g.heap.size) (((wB1.setCell ⟨w.heap.size + 1 + 1, 0, none⟩ (.int .i64 v)).setCell ⟨w.heap.size + 1 + 1, 1, none⟩ (.int .i64 c0)).setCell ⟨w.heap.size + 1 + 1, 2, none⟩ (.slice ya yl yc)) y → ThRow (fun b => w.heap.size + 1 + 1 + 1 ≤ b ∧ b < w1.heap.size) y (.slice ta tl tc) T) := fun y hy => ((((RW.out wB1 (bR)).box _ _ nS).box _ _ nS).box _ _ nS).later (hy.mono (by first | (simp; done) | (simp; omega)))
  replace YW : Hid (∀ y, Below (w2g.heap.size) (((wB1.setCell ⟨w.heap.size + 1 + 1, 0, none⟩ (.int .i64 v)).setCell ⟨w.heap.size + 1 + 1, 1, none⟩ (.int .i64 c0)).setCell ⟨w.heap.size + 1 + 1, 2, none⟩ (.slice ya yl yc)) y → IntsAt (fun b => w.heap.size + 1 + 1 + 1 ≤ b ∧ b < w1.heap.size) y ya yl ty) := fun y hy => ((((YW.out wB1 (bR)).set _ _ nS).set _ _ nS).set _ _ nS).later (hy.mono (by first | (simp; done) | (simp; omega)))
  replace B : Hid (∀ y, Below (w2g.heap.size) (((wB1.setCell ⟨w.heap.size + 1 + 1, 0, none⟩ (.int .i64 v)).setCell ⟨w.heap.size + 1 + 1, 1, none⟩ (.int .i64 c0)).setCell ⟨w.heap.size + 1 + 1, 2, none⟩ (.slice ya yl yc)) y → Below w.heap.size w y) := fun y hy => ((((B.out wB1 (bR)).setCell hw0 _).setCell hw0 _).setCell hw0 _).trans (hy.mono (by first | omega | exact Nat.le_trans (B.out wB1 (bR)).size hz | (have := (B.out wB1 (bR)).size; omega)))
  replace hz : w2g.heap.size ≤ (((wB1.setCell ⟨w.heap.size + 1 + 1, 0, none⟩ (.int .i64 v)).setCell ⟨w.heap.size + 1 + 1, 1, none⟩ (.int .i64 c0)).setCell ⟨w.heap.size + 1 + 1, 2, none⟩ (.slice ya yl yc)).heap.size := by first | (simp; done) | simpa using hz
  clear hw0
  replace KS : Hid (∀ x, Below (w2g.heap.size) (((wB1.setCell ⟨w.heap.size + 1 + 1, 0, none⟩ (.int .i64 v)).setCell ⟨w.heap.size + 1 + 1, 1, none⟩ (.int .i64 c0)).setCell ⟨w.heap.size + 1 + 1, 2, none⟩ (.slice ya yl yc)) x → x.cell? ⟨w1.heap.size, 0, none⟩ = some (.slice ca cn cc) ∧ x.cell? ⟨w1.heap.size, 1, none⟩ = some (.slice (some ⟨wb, wo, none⟩) wl wc) ∧ x.cell? ⟨w1.heap.size, 2, none⟩ = some (.int .i64 (yn : Nat)) ∧ x.cell? ⟨w1.heap.size, 3, none⟩ = some (.int .i64 (tn : Nat)) ∧ x.cell? ⟨w1.heap.size, 4, none⟩ = some (.int .i64 (on : Nat)) ∧ x.cell? ⟨w1.heap.size, 5, none⟩ = some (.slice da dl dc) ∧ x.cell? ⟨w1.heap.size, 6, none⟩ = some (.slice (some ⟨wb, wo, none⟩) yn wc) ∧ x.cell? ⟨w1.heap.size, 7, none⟩ = some (.int .i64 0) ∧ x.cell? ⟨w1.heap.size, 8, none⟩ = some (.int .i64 (tn : Nat)) ∧ x.cell? ⟨w1.heap.size, 9, none⟩ = some (.slice (some ⟨wb, wo + yn, none⟩) (wl - yn) (wc - yn)) ∧ x.cell? ⟨w1.heap.size, 10, none⟩ = some (.int .i64 (yn : Nat)) ∧ x.cell? ⟨w1.heap.size, 11, none⟩ = some (.int .i64 (ou : Nat)) ∧ x.cell? ⟨w1.heap.size, 12, none⟩ = some (.slice ta tl tc) ∧ x.cell? ⟨w2.heap.size, 0, none⟩ = some (.int .i64 v) ∧ x.cell? ⟨w2.heap.size, 1, none⟩ = some (.int .i64 c0) ∧ x.cell? ⟨w2.heap.size, 2, none⟩ = some (.slice ya yl yc)) := fun x hx => ⟨(boxG (XA.out x hx) 0).1, (boxG (XA.out x hx) 1).1, (boxG (XA.out x hx) 2).1, (boxG (XA.out x hx) 3).1, (boxG (XA.out x hx) 4).1, (boxG (XA.out x hx) 5).1, (boxG (XA.out x hx) 6).1, (boxG (XA.out x hx) 7).1, (boxG (XA.out x hx) 8).1, (boxG (XA.out x hx) 9).1, (boxG (XA.out x hx) 10).1, (boxG (XA.out x hx) 11).1, (boxG (XA.out x hx) 12).1, (boxG (XT.out x hx) 0).1, (boxG (XT.out x hx) 1).1, (boxG (XT.out x hx) 2).1⟩
  refine hK.out _ _ (KS.out _ (bdrew (bR))) (fun hHeld4 => ?_)
  clear hK K
  try simp only [Act.put, List.getElem_toArray, List.getElem_cons_zero, List.getElem_cons_succ, List.setIfInBounds_toArray, List.set_cons_zero, List.set_cons_succ]
  refine wpAnyH_take (i := 12) (v := ?_) rfl (by kernel_rfl) (by kernel_rfl) (by kernel_rfl) (fun _ _ _ h => h) (Or.inl ⟨by kernel_rfl, ?_⟩) (by assumption) ?_
  rotate_left 1
  · intro x hSx
    (try dsimp only at hSx)
    go_simp
    try with_reducible rfl
  try simp only [Act.put, List.getElem_toArray, List.getElem_cons_zero, List.getElem_cons_succ, List.setIfInBounds_toArray, List.set_cons_zero, List.set_cons_succ]
  refine wpAnyH_done (by kernel_rfl) ?_ _
  clear hHeld hHeld2 hHeld3 hHeld4
  clear KS
  replace B : Hid (∀ y, Below (w2g.heap.size) ((((wB1.setCell ⟨w.heap.size + 1 + 1, 0, none⟩ (.int .i64 v)).setCell ⟨w.heap.size + 1 + 1, 1, none⟩ (.int .i64 c0)).setCell ⟨w.heap.size + 1 + 1, 2, none⟩ (.slice ya yl yc)).drew) y → Below w.heap.size w y) := fun y hy => B.out y ((bdrew (bR)).trans hy)
  replace RW : Hid (∀ y, Below (w2g.heap.size) ((((wB1.setCell ⟨w.heap.size + 1 + 1, 0, none⟩ (.int .i64 v)).setCell ⟨w.heap.size + 1 + 1, 1, none⟩ (.int .i64 c0)).setCell ⟨w.heap.size + 1 + 1, 2, none⟩ (.slice ya yl yc)).drew) y → ThRow (fun b => w.heap.size + 1 + 1 + 1 ≤ b ∧ b < w1.heap.size) y (.slice ta tl tc) T) := fun y hy => RW.out y ((bdrew (bR)).trans hy)
  replace YW : Hid (∀ y, Below (w2g.heap.size) ((((wB1.setCell ⟨w.heap.size + 1 + 1, 0, none⟩ (.int .i64 v)).setCell ⟨w.heap.size + 1 + 1, 1, none⟩ (.int .i64 c0)).setCell ⟨w.heap.size + 1 + 1, 2, none⟩ (.slice ya yl yc)).drew) y → IntsAt (fun b => w.heap.size + 1 + 1 + 1 ≤ b ∧ b < w1.heap.size) y ya yl ty) := fun y hy => YW.out y ((bdrew (bR)).trans hy)
  replace XR : Hid (∀ y, Below (w2g.heap.size) ((((wB1.setCell ⟨w.heap.size + 1 + 1, 0, none⟩ (.int .i64 v)).setCell ⟨w.heap.size + 1 + 1, 1, none⟩ (.int .i64 c0)).setCell ⟨w.heap.size + 1 + 1, 2, none⟩ (.slice ya yl yc)).drew) y → y.heap[w.heap.size + 1]? = some (.cells #[.slice ca cn cc, .slice (some ⟨wb, wo, none⟩) wl wc, .int .i64 (yn : Nat), .int .i64 (tn : Nat), .int .i64 (on : Nat), .slice da dl dc, .slice (some ⟨wb, wo, none⟩) yn wc, .int .i64 0, .int .i64 (tn : Nat), .slice (some ⟨wb, wo + yn, none⟩) (wl - yn) (wc - yn), .int .i64 (yn : Nat), .int .i64 (ou : Nat), .slice ta tl tc] 69 (0, 0))) := fun y hy => XR.out y ((bdrew (bR)).trans hy)
  replace XS : Hid (∀ y, Below (w2g.heap.size) ((((wB1.setCell ⟨w.heap.size + 1 + 1, 0, none⟩ (.int .i64 v)).setCell ⟨w.heap.size + 1 + 1, 1, none⟩ (.int .i64 c0)).setCell ⟨w.heap.size + 1 + 1, 2, none⟩ (.slice ya yl yc)).drew) y → y.heap[w.heap.size + 1 + 1]? = some (.cells #[.int .i64 v, .int .i64 c0, .slice ya yl yc] 75 (0, 0))) := fun y hy => XS.out y ((bdrew (bR)).trans hy)
  replace XA : Hid (∀ y, Below (w2g.heap.size) ((((wB1.setCell ⟨w.heap.size + 1 + 1, 0, none⟩ (.int .i64 v)).setCell ⟨w.heap.size + 1 + 1, 1, none⟩ (.int .i64 c0)).setCell ⟨w.heap.size + 1 + 1, 2, none⟩ (.slice ya yl yc)).drew) y → y.heap[w1.heap.size]? = some (.cells #[.slice ca cn cc, .slice (some ⟨wb, wo, none⟩) wl wc, .int .i64 (yn : Nat), .int .i64 (tn : Nat), .int .i64 (on : Nat), .slice da dl dc, .slice (some ⟨wb, wo, none⟩) yn wc, .int .i64 0, .int .i64 (tn : Nat), .slice (some ⟨wb, wo + yn, none⟩) (wl - yn) (wc - yn), .int .i64 (yn : Nat), .int .i64 (ou : Nat), .slice ta tl tc] 69 (0, 0))) := fun y hy => XA.out y ((bdrew (bR)).trans hy)
  replace XT : Hid (∀ y, Below (w2g.heap.size) ((((wB1.setCell ⟨w.heap.size + 1 + 1, 0, none⟩ (.int .i64 v)).setCell ⟨w.heap.size + 1 + 1, 1, none⟩ (.int .i64 c0)).setCell ⟨w.heap.size + 1 + 1, 2, none⟩ (.slice ya yl yc)).drew) y → y.heap[w2.heap.size]? = some (.cells #[.int .i64 v, .int .i64 c0, .slice ya yl yc] 75 (0, 0))) := fun y hy => XT.out y ((bdrew (bR)).trans hy)
  replace hz : w2g.heap.size ≤ ((((wB1.setCell ⟨w.heap.size + 1 + 1, 0, none⟩ (.int .i64 v)).setCell ⟨w.heap.size + 1 + 1, 1, none⟩ (.int .i64 c0)).setCell ⟨w.heap.size + 1 + 1, 2, none⟩ (.slice ya yl yc)).drew).heap.size := Nat.le_trans hz (Below.size (bdrew (Below.refl (w2g.heap.size) (((wB1.setCell ⟨w.heap.size + 1 + 1, 0, none⟩ (.int .i64 v)).setCell ⟨w.heap.size + 1 + 1, 1, none⟩ (.int .i64 c0)).setCell ⟨w.heap.size + 1 + 1, 2, none⟩ (.slice ya yl yc)))))
  have BF : Hid (Below w.heap.size w (((((wB1.setCell ⟨w.heap.size + 1 + 1, 0, none⟩ (.int .i64 v)).setCell ⟨w.heap.size + 1 + 1, 1, none⟩ (.int .i64 c0)).setCell ⟨w.heap.size + 1 + 1, 2, none⟩ (.slice ya yl yc)).drew))) := B.out _ (bR)
  have RF : Hid (ThRow (fun b => w.heap.size ≤ b) (((((wB1.setCell ⟨w.heap.size + 1 + 1, 0, none⟩ (.int .i64 v)).setCell ⟨w.heap.size + 1 + 1, 1, none⟩ (.int .i64 c0)).setCell ⟨w.heap.size + 1 + 1, 2, none⟩ (.slice ya yl yc)).drew)) (.slice ta tl tc) T) := ThRow.mono (RW.out _ (bR)) (fun b hb _ => by have h1 := hb.1; omega)
  have YF : Hid (IntsAt (fun b => w.heap.size ≤ b) (((((wB1.setCell ⟨w.heap.size + 1 + 1, 0, none⟩ (.int .i64 v)).setCell ⟨w.heap.size + 1 + 1, 1, none⟩ (.int .i64 c0)).setCell ⟨w.heap.size + 1 + 1, 2, none⟩ (.slice ya yl yc)).drew)) ya yl ty) := IntsAt.mono (YW.out _ (bR)) (fun b hb _ => by have h1 := hb.1; omega)
  have XC : Hid ((((((wB1.setCell ⟨w.heap.size + 1 + 1, 0, none⟩ (.int .i64 v)).setCell ⟨w.heap.size + 1 + 1, 1, none⟩ (.int .i64 c0)).setCell ⟨w.heap.size + 1 + 1, 2, none⟩ (.slice ya yl yc)).drew)).heap[w.heap.size + 1]? = some (.cells #[.slice ca cn cc, .slice (some ⟨wb, wo, none⟩) wl wc, .int .i64 (yn : Nat), .int .i64 (tn : Nat), .int .i64 (on : Nat), .slice da dl dc, .slice (some ⟨wb, wo, none⟩) yn wc, .int .i64 0, .int .i64 (tn : Nat), .slice (some ⟨wb, wo + yn, none⟩) (wl - yn) (wc - yn), .int .i64 (yn : Nat), .int .i64 (ou : Nat), .slice ta tl tc] 69 (0, 0))) := XR.out _ (bR)
  have XD : Hid ((((((wB1.setCell ⟨w.heap.size + 1 + 1, 0, none⟩ (.int .i64 v)).setCell ⟨w.heap.size + 1 + 1, 1, none⟩ (.int .i64 c0)).setCell ⟨w.heap.size + 1 + 1, 2, none⟩ (.slice ya yl yc)).drew)).heap[w.heap.size + 1 + 1]? = some (.cells #[.int .i64 v, .int .i64 c0, .slice ya yl yc] 75 (0, 0))) := XS.out _ (bR)
  clear B RW YW XR XS XA XT hz
  generalize ((((wB1.setCell ⟨w.heap.size + 1 + 1, 0, none⟩ (.int .i64 v)).setCell ⟨w.heap.size + 1 + 1, 1, none⟩ (.int .i64 c0)).setCell ⟨w.heap.size + 1 + 1, 2, none⟩ (.slice ya yl yc)).drew) = wF at RF YF BF XC XD ⊢
  have kXC0 : wF.cell? ⟨w.heap.size + 1, 0, none⟩ = some (.slice ca cn cc) := (boxG XC.out 0).1
  have kXC1 : wF.cell? ⟨w.heap.size + 1, 1, none⟩ = some (.slice (some ⟨wb, wo, none⟩) wl wc) := (boxG XC.out 1).1
  have kXC2 : wF.cell? ⟨w.heap.size + 1, 2, none⟩ = some (.int .i64 (yn : Nat)) := (boxG XC.out 2).1
  have kXC3 : wF.cell? ⟨w.heap.size + 1, 3, none⟩ = some (.int .i64 (tn : Nat)) := (boxG XC.out 3).1
  have kXC4 : wF.cell? ⟨w.heap.size + 1, 4, none⟩ = some (.int .i64 (on : Nat)) := (boxG XC.out 4).1
  have kXC5 : wF.cell? ⟨w.heap.size + 1, 5, none⟩ = some (.slice da dl dc) := (boxG XC.out 5).1
  have kXC6 : wF.cell? ⟨w.heap.size + 1, 6, none⟩ = some (.slice (some ⟨wb, wo, none⟩) yn wc) := (boxG XC.out 6).1
  have kXC7 : wF.cell? ⟨w.heap.size + 1, 7, none⟩ = some (.int .i64 0) := (boxG XC.out 7).1
  have kXC8 : wF.cell? ⟨w.heap.size + 1, 8, none⟩ = some (.int .i64 (tn : Nat)) := (boxG XC.out 8).1
  have kXC9 : wF.cell? ⟨w.heap.size + 1, 9, none⟩ = some (.slice (some ⟨wb, wo + yn, none⟩) (wl - yn) (wc - yn)) := (boxG XC.out 9).1
  have kXC10 : wF.cell? ⟨w.heap.size + 1, 10, none⟩ = some (.int .i64 (yn : Nat)) := (boxG XC.out 10).1
  have kXC11 : wF.cell? ⟨w.heap.size + 1, 11, none⟩ = some (.int .i64 (ou : Nat)) := (boxG XC.out 11).1
  have kXC12 : wF.cell? ⟨w.heap.size + 1, 12, none⟩ = some (.slice ta tl tc) := (boxG XC.out 12).1
  have kXD0 : wF.cell? ⟨w.heap.size + 1 + 1, 0, none⟩ = some (.int .i64 v) := (boxG XD.out 0).1
  have kXD1 : wF.cell? ⟨w.heap.size + 1 + 1, 1, none⟩ = some (.int .i64 c0) := (boxG XD.out 1).1
  have kXD2 : wF.cell? ⟨w.heap.size + 1 + 1, 2, none⟩ = some (.slice ya yl yc) := (boxG XD.out 2).1
  rename_i K0 hK0
  refine hK0 _ _ (wp_ret ?_)
  refine bodyPost_ret (v := .tuple #[.agg #[.slice ca cn cc, .slice (some ⟨wb, wo, none⟩) wl wc, .int .i64 (yn : Nat), .int .i64 (tn : Nat), .int .i64 (on : Nat), .slice da dl dc, .slice (some ⟨wb, wo, none⟩) yn wc, .int .i64 0, .int .i64 (tn : Nat), .slice (some ⟨wb, wo + yn, none⟩) (wl - yn) (wc - yn), .int .i64 (yn : Nat), .int .i64 (ou : Nat), .slice ta tl tc], .agg #[.int .i64 v, .int .i64 c0, .slice ya yl yc], .bool q0]) ?_ rfl ?_
  · simp [results, Try.results56, go_sem, kXC0, kXC1, kXC2, kXC3, kXC4, kXC5, kXC6, kXC7, kXC8, kXC9, kXC10, kXC11, kXC12, kXD0, kXD1, kXD2]
  · refine ⟨?_, ?_, BF.out⟩
    · intro h
      rw [GT.out] at h
      subst h
      exact ⟨_, _, _, _, _, _, _, _, _, _, _, _, _, _, _, _, _, _, _, _, _, _, _, _, _, _, _, _, _, _, rfl⟩
    · intro h
      rw [GT.out] at h
      subst h
      rw [HT.out]
      exact ⟨wb, wo, yn, tn, on, ou, ta, tl, tc, c0, ty, ya, yl, yc, rfl, rfl, rfl, rfl, OUE.out.symm, HM.out, HI.out, rfl, TLE.out.symm, RF.out, EA.out, YF.out⟩

end Go.Proofs.Ythgnbahbfgljfaa
