/-
  A thing and its memory, by the program: what it says; it writes nothing that was there.
-/
import Derived.Test.YtjbmcdekhhbiaaaGreatMemIk
import Derived.Test.YtjbmcdekhhbiaaaGreatMemSh
import Derived.Deep.Cut
namespace Go.Proofs.YtjbmcdekhhbiaaaGreat
open Go.ChangeShapes Go.WideShapes Go.ChangeAt Go.RowKit
set_option linter.unusedVariables false

theorem atT_of {T : List Th} (hi : Inc T) {j : Nat} {t : Th} (h : T[j]? = some t) : atT T t.1 = t := by
  have ha : isAt T t.1 = true := isAt_iff.2 ⟨t, List.mem_of_getElem? h, rfl⟩
  obtain ⟨hm, hv⟩ := atT_mem ha
  obtain ⟨i, hi0⟩ := List.getElem?_of_mem hm
  rcases Nat.lt_trichotomy i j with h1 | h1 | h1
  · have := hi i j _ _ hi0 h h1; omega
  · subst h1; rw [h] at hi0; exact (Option.some.inj hi0).symm
  · have := hi j i _ _ h hi0 h1; omega

theorem plB_in (k : Int) (n : Nat) : plB k n = inI k 0 ((n : Int) - 1) := by
  unfold plB inI
  rw [show decide (k < (n : Int)) = decide (k ≤ (n : Int) - 1) from decide_eq_decide.2 (by omega)]
/-- What is found at a place of a memory, with it. -/
def HoldP (w : World) (ca : Option Addr) (cn cc : Nat) (wa : Option Addr) (wl wc : Nat) (yg tp od : Int) (da : Option Addr) (dl dc : Nat) (L : List Cl) (ws : List Int) (cd : List Bool) (v k : Int) (e : Ending) (w' : World) : Prop :=
  (getB L (ws, yg, tp, od, cd) v k = false → ∃ x0 y0 z0 x1 y1 z1 x2 x3 x4 x5 y5 z5 x6 y6 z6 x7 x8 x9 y9 z9 x10 x11 x12 y12 z12 u0 u1 u2 u3 u4, e = .returned (.tuple #[.agg #[.slice x0 y0 z0, .slice x1 y1 z1, .int .i64 x2, .int .i64 x3, .int .i64 x4, .slice x5 y5 z5, .slice x6 y6 z6, .int .i64 x7, .int .i64 x8, .slice x9 y9 z9, .int .i64 x10, .int .i64 x11, .slice x12 y12 z12], .agg #[.int .i64 u0, .int .i64 u1, .slice u2 u3 u4], .bool false])) ∧
  (getB L (ws, yg, tp, od, cd) v k = true → ∃ (wb wo yn tn on ou : Nat) (ta : Option Addr) (tl tc : Nat) (c0 : Int) (ty : List Int) (ya : Option Addr) (yl yc : Nat), wa = some ⟨wb, wo, none⟩ ∧ yg = yn ∧ tp = tn ∧ od = on ∧ ou = on - yn ∧ memB L (ws, yg, tp, od, cd) = true ∧ isAt (thT L (ws, yg, tp, od, cd)) v = true ∧ e = .returned (.tuple #[.agg #[.slice ca cn cc, .slice (some ⟨wb, wo, none⟩) wl wc, .int .i64 (yn : Nat), .int .i64 (tn : Nat), .int .i64 (on : Nat), .slice da dl dc, .slice (some ⟨wb, wo, none⟩) yn wc, .int .i64 0, .int .i64 (tn : Nat), .slice (some ⟨wb, wo + yn, none⟩) (wl - yn) (wc - yn), .int .i64 (yn : Nat), .int .i64 (ou : Nat), .slice ta tl tc], .agg #[.int .i64 v, .int .i64 c0, .slice ya yl yc], .bool true]) ∧ tl = (thT L (ws, yg, tp, od, cd)).length ∧ ThRow (fun b => w.heap.size ≤ b) w' (.slice ta tl tc) (thT L (ws, yg, tp, od, cd)) ∧ atT (thT L (ws, yg, tp, od, cd)) v = (v, c0, ty) ∧ IntsAt (fun b => w.heap.size ≤ b) w' ya yl ty) ∧ Below w.heap.size w w'
set_option maxRecDepth 100000 in
set_option maxHeartbeats 16000000 in
theorem holdImpl (ca : Option Addr) (cn cc : Nat) (wa : Option Addr) (wl wc : Nat) (yg tp od : Int) (da : Option Addr) (dl dc : Nat) (v k : Int) (ws : List Int) (cd : List Bool) (L : List Cl) (w : World) {D E G G2 : Nat → Prop} (h : ClsAt D E w ca cn L) (hw : IntsAt G w wa wl ws) (hc : SlAt boolR G2 w da dl cd) (hyg : i64B yg) (hl : wl ≤ 1048576) (hd : dl ≤ 1048576) (hcap : wl ≤ wc) (hv : i64B v) (hk : i64B k) : Calls Tryz.prog 51 #[.slice ca cn cc, .agg #[.slice wa wl wc, .int .i64 yg, .int .i64 tp, .int .i64 od, .slice da dl dc], .int .i64 v, .int .i64 k] w (HoldP w ca cn cc wa wl wc yg tp od da dl dc L ws cd v k) := by
  have H : Hid (ClsAt D E w ca cn L) := h
  have HW : Hid (IntsAt G w wa wl ws) := hw
  have HC : Hid (SlAt boolR G2 w da dl cd) := hc
  have WS : Hid (ws.length = wl) := hw.size
  have CS : Hid (cd.length = dl) := hc.size
  clear h hw hc
  have hk1 := hk.1
  have hk2 := hk.2
  have hz : w.heap.size + 1 + 1 + 1 ≤ (((w.alloc (.cells #[.slice wa wl wc, .int .i64 yg, .int .i64 tp, .int .i64 od, .slice da dl dc] 29)).alloc (.cells #[.slice none 0 0, .slice none 0 0, .int .i64 0, .int .i64 0, .int .i64 0, .slice none 0 0, .slice none 0 0, .int .i64 0, .int .i64 0, .slice none 0 0, .int .i64 0, .int .i64 0, .slice none 0 0] 65)).alloc (.cells #[.int .i64 0, .int .i64 0, .slice none 0 0] 69)).heap.size := by simp
  have B : Hid (∀ y, Below (w.heap.size + 1 + 1 + 1) (((w.alloc (.cells #[.slice wa wl wc, .int .i64 yg, .int .i64 tp, .int .i64 od, .slice da dl dc] 29)).alloc (.cells #[.slice none 0 0, .slice none 0 0, .int .i64 0, .int .i64 0, .int .i64 0, .slice none 0 0, .slice none 0 0, .int .i64 0, .int .i64 0, .slice none 0 0, .int .i64 0, .int .i64 0, .slice none 0 0] 65)).alloc (.cells #[.int .i64 0, .int .i64 0, .slice none 0 0] 69)) y → Below w.heap.size w y) := fun y hy => (((bR.alloc (by first | exact Nat.le_refl _ | (simp; done) | (simp; omega)) _).alloc (by first | exact Nat.le_refl _ | (simp; done) | (simp; omega)) _).alloc (by first | exact Nat.le_refl _ | (simp; done) | (simp; omega)) _).trans (hy.mono (by omega))
  have XM : Hid (∀ y, Below (w.heap.size + 1 + 1 + 1) (((w.alloc (.cells #[.slice wa wl wc, .int .i64 yg, .int .i64 tp, .int .i64 od, .slice da dl dc] 29)).alloc (.cells #[.slice none 0 0, .slice none 0 0, .int .i64 0, .int .i64 0, .int .i64 0, .slice none 0 0, .slice none 0 0, .int .i64 0, .int .i64 0, .slice none 0 0, .int .i64 0, .int .i64 0, .slice none 0 0] 65)).alloc (.cells #[.int .i64 0, .int .i64 0, .slice none 0 0] 69)) y → y.heap[w.heap.size]? = some (.cells #[.slice wa wl wc, .int .i64 yg, .int .i64 tp, .int .i64 od, .slice da dl dc] 29 (0, 0))) := fun y hy => (hy.block _ (by omega)).trans ((Below.heap_alloc _ _ _ (by first | (simp; done) | (simp; omega))).trans ((Below.heap_alloc _ _ _ (by first | (simp; done) | (simp; omega))).trans (boxN _ _ _ _ (by simp))))
  have lM : w.heap.size < w.heap.size + 1 + 1 + 1 := by omega
  have XR : Hid (∀ y, Below (w.heap.size + 1 + 1 + 1) (((w.alloc (.cells #[.slice wa wl wc, .int .i64 yg, .int .i64 tp, .int .i64 od, .slice da dl dc] 29)).alloc (.cells #[.slice none 0 0, .slice none 0 0, .int .i64 0, .int .i64 0, .int .i64 0, .slice none 0 0, .slice none 0 0, .int .i64 0, .int .i64 0, .slice none 0 0, .int .i64 0, .int .i64 0, .slice none 0 0] 65)).alloc (.cells #[.int .i64 0, .int .i64 0, .slice none 0 0] 69)) y → y.heap[w.heap.size + 1]? = some (.cells #[.slice none 0 0, .slice none 0 0, .int .i64 0, .int .i64 0, .int .i64 0, .slice none 0 0, .slice none 0 0, .int .i64 0, .int .i64 0, .slice none 0 0, .int .i64 0, .int .i64 0, .slice none 0 0] 65 (0, 0))) := fun y hy => (hy.block _ (by omega)).trans ((Below.heap_alloc _ _ _ (by first | (simp; done) | (simp; omega))).trans (boxN _ _ _ _ (by simp)))
  have lR : w.heap.size + 1 < w.heap.size + 1 + 1 + 1 := by omega
  have XS : Hid (∀ y, Below (w.heap.size + 1 + 1 + 1) (((w.alloc (.cells #[.slice wa wl wc, .int .i64 yg, .int .i64 tp, .int .i64 od, .slice da dl dc] 29)).alloc (.cells #[.slice none 0 0, .slice none 0 0, .int .i64 0, .int .i64 0, .int .i64 0, .slice none 0 0, .slice none 0 0, .int .i64 0, .int .i64 0, .slice none 0 0, .int .i64 0, .int .i64 0, .slice none 0 0] 65)).alloc (.cells #[.int .i64 0, .int .i64 0, .slice none 0 0] 69)) y → y.heap[w.heap.size + 1 + 1]? = some (.cells #[.int .i64 0, .int .i64 0, .slice none 0 0] 69 (0, 0))) := fun y hy => (hy.block _ (by omega)).trans (boxN _ _ _ _ (by simp))
  have lS : w.heap.size + 1 + 1 < w.heap.size + 1 + 1 + 1 := by omega
  go_enter Tryz.func51, Tryz.ntmps51
  go_wp2_with fail
  have BP : Hid (Below (w.heap.size + 1 + 1 + 1) (((w.alloc (.cells #[.slice wa wl wc, .int .i64 yg, .int .i64 tp, .int .i64 od, .slice da dl dc] 29)).alloc (.cells #[.slice none 0 0, .slice none 0 0, .int .i64 0, .int .i64 0, .int .i64 0, .slice none 0 0, .slice none 0 0, .int .i64 0, .int .i64 0, .slice none 0 0, .int .i64 0, .int .i64 0, .slice none 0 0] 65)).alloc (.cells #[.int .i64 0, .int .i64 0, .slice none 0 0] 69)) (((w.alloc (.cells #[.slice wa wl wc, .int .i64 yg, .int .i64 tp, .int .i64 od, .slice da dl dc] 29)).alloc (.cells #[.slice none 0 0, .slice none 0 0, .int .i64 0, .int .i64 0, .int .i64 0, .slice none 0 0, .slice none 0 0, .int .i64 0, .int .i64 0, .slice none 0 0, .int .i64 0, .int .i64 0, .slice none 0 0] 65)).alloc (.cells #[.int .i64 0, .int .i64 0, .slice none 0 0] 69))) := bR
  refine (memoryImpl _ _ _ _ _ _ yg tp od _ _ _ ws cd L _ (H.out.later (B.out _ BP.out)) (HW.out.later (B.out _ BP.out)) (HC.out.later (B.out _ BP.out)) hyg hl hd hcap).mono ?_
  rintro e w1 ⟨hno, hyes, hb⟩
  have hq : Below (w.heap.size + 1 + 1 + 1) (((w.alloc (.cells #[.slice wa wl wc, .int .i64 yg, .int .i64 tp, .int .i64 od, .slice da dl dc] 29)).alloc (.cells #[.slice none 0 0, .slice none 0 0, .int .i64 0, .int .i64 0, .int .i64 0, .slice none 0 0, .slice none 0 0, .int .i64 0, .int .i64 0, .slice none 0 0, .int .i64 0, .int .i64 0, .slice none 0 0] 65)).alloc (.cells #[.int .i64 0, .int .i64 0, .slice none 0 0] 69)) w1 := BP.out.trans (Below.mono hb (Nat.le_trans hz BP.out.size))
  have hzn : w.heap.size + 1 + 1 + 1 ≤ w1.heap.size := Nat.le_trans hz hq.size
  replace B := lF B hq hzn
  replace XM := lF XM hq hzn
  replace lM := Nat.lt_of_lt_of_le lM hzn
  replace XR := lF XR hq hzn
  replace lR := Nat.lt_of_lt_of_le lR hzn
  replace XS := lF XS hq hzn
  replace lS := Nat.lt_of_lt_of_le lS hzn
  clear hq BP hz
  have hz : w1.heap.size ≤ w1.heap.size := Nat.le_refl _
  clear hb
  cases hq : memB L (ws, yg, tp, od, cd)
  · obtain ⟨x0, y0, z0, x1, y1, z1, x2, x3, x4, x5, y5, z5, x6, y6, z6, x7, x8, x9, y9, z9, x10, x11, x12, y12, z12, rfl⟩ := hno hq
    clear hno hyes
    have GF : Hid (getB L (ws, yg, tp, od, cd) v k = false) := getB_no hq
    obtain ⟨kM0, kM1, kM2, kM3, kM4⟩ := bk5 (XM.out w1 bR)
    go_upto_region 2 with fail
    clear kM0 kM1 kM2 kM3 kM4
    have BP : Hid (Below (w1.heap.size) w1 (w1.alloc (.cells #[.slice x0 y0 z0, .slice x1 y1 z1, .int .i64 x2, .int .i64 x3, .int .i64 x4, .slice x5 y5 z5, .slice x6 y6 z6, .int .i64 x7, .int .i64 x8, .slice x9 y9 z9, .int .i64 x10, .int .i64 x11, .slice x12 y12 z12] 65))) := (bR.alloc (by first | exact hz | (simp; done) | (simp; omega) | (have := hz; simp at this ⊢; omega)) _)
    replace B := lA B BP
    replace XM := lA XM BP
    replace lM := lL lM
    replace XR := lA XR BP
    replace lR := lL lR
    replace XS := lA XS BP
    replace lS := lL lS
    have XA : Hid (∀ y, Below (w1.heap.size + 1) (w1.alloc (.cells #[.slice x0 y0 z0, .slice x1 y1 z1, .int .i64 x2, .int .i64 x3, .int .i64 x4, .slice x5 y5 z5, .slice x6 y6 z6, .int .i64 x7, .int .i64 x8, .slice x9 y9 z9, .int .i64 x10, .int .i64 x11, .slice x12 y12 z12] 65)) y → y.heap[w1.heap.size]? = some (.cells #[.slice x0 y0 z0, .slice x1 y1 z1, .int .i64 x2, .int .i64 x3, .int .i64 x4, .slice x5 y5 z5, .slice x6 y6 z6, .int .i64 x7, .int .i64 x8, .slice x9 y9 z9, .int .i64 x10, .int .i64 x11, .slice x12 y12 z12] 65 (0, 0))) := fun y hy => (hy.block _ (by omega)).trans (boxN _ _ _ _ (by simp))
    have lA : w1.heap.size < w1.heap.size + 1 := by omega
    replace hz : w1.heap.size + 1 ≤ ((w1.alloc (.cells #[.slice x0 y0 z0, .slice x1 y1 z1, .int .i64 x2, .int .i64 x3, .int .i64 x4, .slice x5 y5 z5, .slice x6 y6 z6, .int .i64 x7, .int .i64 x8, .slice x9 y9 z9, .int .i64 x10, .int .i64 x11, .slice x12 y12 z12] 65))).heap.size := by simp
    clear BP
    generalize (w1.alloc (.cells #[.slice x0 y0 z0, .slice x1 y1 z1, .int .i64 x2, .int .i64 x3, .int .i64 x4, .slice x5 y5 z5, .slice x6 y6 z6, .int .i64 x7, .int .i64 x8, .slice x9 y9 z9, .int .i64 x10, .int .i64 x11, .slice x12 y12 z12] 65)) = w1g at B XM XR XS XA hz ⊢
    have hzn : w1.heap.size + 1 ≤ w1g.heap.size := Nat.le_trans hz (Below.size (Below.refl (w1.heap.size + 1) w1g))
    replace B := lF B (Below.refl (w1.heap.size + 1) w1g) hzn
    replace XM := lF XM (Below.refl (w1.heap.size + 1) w1g) hzn
    replace lM := Nat.lt_of_lt_of_le lM hzn
    replace XR := lF XR (Below.refl (w1.heap.size + 1) w1g) hzn
    replace lR := Nat.lt_of_lt_of_le lR hzn
    replace XS := lF XS (Below.refl (w1.heap.size + 1) w1g) hzn
    replace lS := Nat.lt_of_lt_of_le lS hzn
    replace XA := lF XA (Below.refl (w1.heap.size + 1) w1g) hzn
    replace lA := Nat.lt_of_lt_of_le lA hzn
    clear hz
    have hz : w1g.heap.size ≤ w1g.heap.size := Nat.le_refl _
    go_upto_region 3 with fail
    obtain ⟨kR0, kR1, kR2, kR3, kR4, kR5, kR6, kR7, kR8, kR9, kR10, kR11, kR12⟩ := bk13 (XR.out w1g bR)
    obtain ⟨qkR0, qkR1, qkR2, qkR3, qkR4, qkR5, qkR6, qkR7, qkR8, qkR9, qkR10, qkR11, qkR12⟩ := bq13 (XR.out w1g bR)
    obtain ⟨kS0, kS1, kS2⟩ := bk3 (XS.out w1g bR)
    obtain ⟨qkS0, qkS1, qkS2⟩ := bq3 (XS.out w1g bR)
    go_wp2_with fail
    clear kR0 kR1 kR2 kR3 kR4 kR5 kR6 kR7 kR8 kR9 kR10 kR11 kR12 qkR0 qkR1 qkR2 qkR3 qkR4 qkR5 qkR6 qkR7 qkR8 qkR9 qkR10 qkR11 qkR12 kS0 kS1 kS2 qkS0 qkS1 qkS2
    generalize hW : (((((((((((((w1g.setCell ⟨w.heap.size + 1, 0, none⟩ (.slice none 0 0)).setCell ⟨w.heap.size + 1, 1, none⟩ (.slice none 0 0)).setCell ⟨w.heap.size + 1, 2, none⟩ (.int .i64 0)).setCell ⟨w.heap.size + 1, 3, none⟩ (.int .i64 0)).setCell ⟨w.heap.size + 1, 4, none⟩ (.int .i64 0)).setCell ⟨w.heap.size + 1, 5, none⟩ (.slice none 0 0)).setCell ⟨w.heap.size + 1, 6, none⟩ (.slice none 0 0)).setCell ⟨w.heap.size + 1, 7, none⟩ (.int .i64 0)).setCell ⟨w.heap.size + 1, 8, none⟩ (.int .i64 0)).setCell ⟨w.heap.size + 1, 9, none⟩ (.slice none 0 0)).setCell ⟨w.heap.size + 1, 10, none⟩ (.int .i64 0)).setCell ⟨w.heap.size + 1, 11, none⟩ (.int .i64 0)).setCell ⟨w.heap.size + 1, 12, none⟩ (.slice none 0 0)) = wB1
    have hkB : ∀ a, a ≠ w.heap.size + 1 → wB1.heap[a]? = w1g.heap[a]? := by subst hW; exact fun a h => keep13 h
    have hsB : wB1.heap.size = w1g.heap.size := by subst hW; simp
    have hw0 : w.heap.size ≤ w.heap.size + 1 := (by first | omega | (simp; done) | (simp; omega) | (simp at *; omega))
    replace XM := Proofs.YtjbmcdekhhbiaaaGreat.lS XM lM wB1 (hkB _ (by first | omega | (simp; done) | (simp; omega)))
    replace XS := Proofs.YtjbmcdekhhbiaaaGreat.lS XS lS wB1 (hkB _ (by first | omega | (simp; done) | (simp; omega)))
    replace XA := Proofs.YtjbmcdekhhbiaaaGreat.lS XA lA wB1 (hkB _ (by first | omega | (simp; done) | (simp; omega)))
    replace XR : Hid (∀ y, Below (w1g.heap.size) wB1 y → y.heap[w.heap.size + 1]? = some (.cells #[.slice none 0 0, .slice none 0 0, .int .i64 0, .int .i64 0, .int .i64 0, .slice none 0 0, .slice none 0 0, .int .i64 0, .int .i64 0, .slice none 0 0, .int .i64 0, .int .i64 0, .slice none 0 0] 65 (0, 0))) := fun y hy => by subst hW; exact (hy.block _ (by omega)).trans (box13 (XR.out w1g bR) rfl _ _ _ _ _ _ _ _ _ _ _ _ _)
    replace B : Hid (∀ y, Below (w1g.heap.size) wB1 y → Below w.heap.size w y) := fun y hy => by subst hW; exact ((((((((((((((B.out w1g bR).setCell hw0 _).setCell hw0 _).setCell hw0 _).setCell hw0 _).setCell hw0 _).setCell hw0 _).setCell hw0 _).setCell hw0 _).setCell hw0 _).setCell hw0 _).setCell hw0 _).setCell hw0 _).setCell hw0 _).trans (hy.mono (by first | omega | exact Nat.le_trans (B.out w1g bR).size hz | (have := (B.out w1g bR).size; omega)))
    replace hz : w1g.heap.size ≤ wB1.heap.size := by subst hW; first | (simp; done) | simpa using hz
    clear hw0 hW hkB
    have hw0 : w.heap.size ≤ w.heap.size + 1 + 1 := (by first | omega | (simp; done) | (simp; omega) | (simp at *; omega))
    replace XM := Proofs.YtjbmcdekhhbiaaaGreat.lS XM lM ((((wB1.setCell ⟨w.heap.size + 1 + 1, 0, none⟩ (.int .i64 0)).setCell ⟨w.heap.size + 1 + 1, 1, none⟩ (.int .i64 0)).setCell ⟨w.heap.size + 1 + 1, 2, none⟩ (.slice none 0 0))) ((Below.heap_setCell _ _ _ _ (by first | omega | (simp; done) | (simp; omega))).trans ((Below.heap_setCell _ _ _ _ (by first | omega | (simp; done) | (simp; omega))).trans ((Below.heap_setCell _ _ _ _ (by first | omega | (simp; done) | (simp; omega))))))
    replace XR := Proofs.YtjbmcdekhhbiaaaGreat.lS XR lR ((((wB1.setCell ⟨w.heap.size + 1 + 1, 0, none⟩ (.int .i64 0)).setCell ⟨w.heap.size + 1 + 1, 1, none⟩ (.int .i64 0)).setCell ⟨w.heap.size + 1 + 1, 2, none⟩ (.slice none 0 0))) ((Below.heap_setCell _ _ _ _ (by first | omega | (simp; done) | (simp; omega))).trans ((Below.heap_setCell _ _ _ _ (by first | omega | (simp; done) | (simp; omega))).trans ((Below.heap_setCell _ _ _ _ (by first | omega | (simp; done) | (simp; omega))))))
    replace XA := Proofs.YtjbmcdekhhbiaaaGreat.lS XA lA ((((wB1.setCell ⟨w.heap.size + 1 + 1, 0, none⟩ (.int .i64 0)).setCell ⟨w.heap.size + 1 + 1, 1, none⟩ (.int .i64 0)).setCell ⟨w.heap.size + 1 + 1, 2, none⟩ (.slice none 0 0))) ((Below.heap_setCell _ _ _ _ (by first | omega | (simp; done) | (simp; omega))).trans ((Below.heap_setCell _ _ _ _ (by first | omega | (simp; done) | (simp; omega))).trans ((Below.heap_setCell _ _ _ _ (by first | omega | (simp; done) | (simp; omega))))))
    replace XS : Hid (∀ y, Below (w1g.heap.size) (((wB1.setCell ⟨w.heap.size + 1 + 1, 0, none⟩ (.int .i64 0)).setCell ⟨w.heap.size + 1 + 1, 1, none⟩ (.int .i64 0)).setCell ⟨w.heap.size + 1 + 1, 2, none⟩ (.slice none 0 0)) y → y.heap[w.heap.size + 1 + 1]? = some (.cells #[.int .i64 0, .int .i64 0, .slice none 0 0] 69 (0, 0))) := fun y hy => (hy.block _ (by omega)).trans (boxS (boxS (boxS (XS.out wB1 bR) 0 _) 1 _) 2 _)
    replace B : Hid (∀ y, Below (w1g.heap.size) (((wB1.setCell ⟨w.heap.size + 1 + 1, 0, none⟩ (.int .i64 0)).setCell ⟨w.heap.size + 1 + 1, 1, none⟩ (.int .i64 0)).setCell ⟨w.heap.size + 1 + 1, 2, none⟩ (.slice none 0 0)) y → Below w.heap.size w y) := fun y hy => ((((B.out wB1 bR).setCell hw0 _).setCell hw0 _).setCell hw0 _).trans (hy.mono (by first | omega | exact Nat.le_trans (B.out wB1 bR).size hz | (have := (B.out wB1 bR).size; omega)))
    replace hz : w1g.heap.size ≤ (((wB1.setCell ⟨w.heap.size + 1 + 1, 0, none⟩ (.int .i64 0)).setCell ⟨w.heap.size + 1 + 1, 1, none⟩ (.int .i64 0)).setCell ⟨w.heap.size + 1 + 1, 2, none⟩ (.slice none 0 0)).heap.size := by first | (simp; done) | simpa using hz
    clear hw0
    have BF : Hid (Below w.heap.size w ((((wB1.setCell ⟨w.heap.size + 1 + 1, 0, none⟩ (.int .i64 0)).setCell ⟨w.heap.size + 1 + 1, 1, none⟩ (.int .i64 0)).setCell ⟨w.heap.size + 1 + 1, 2, none⟩ (.slice none 0 0)))) := B.out _ (bR)
    have XC : Hid (((((wB1.setCell ⟨w.heap.size + 1 + 1, 0, none⟩ (.int .i64 0)).setCell ⟨w.heap.size + 1 + 1, 1, none⟩ (.int .i64 0)).setCell ⟨w.heap.size + 1 + 1, 2, none⟩ (.slice none 0 0))).heap[w.heap.size + 1]? = some (.cells #[.slice none 0 0, .slice none 0 0, .int .i64 0, .int .i64 0, .int .i64 0, .slice none 0 0, .slice none 0 0, .int .i64 0, .int .i64 0, .slice none 0 0, .int .i64 0, .int .i64 0, .slice none 0 0] 65 (0, 0))) := XR.out _ (bR)
    have XD : Hid (((((wB1.setCell ⟨w.heap.size + 1 + 1, 0, none⟩ (.int .i64 0)).setCell ⟨w.heap.size + 1 + 1, 1, none⟩ (.int .i64 0)).setCell ⟨w.heap.size + 1 + 1, 2, none⟩ (.slice none 0 0))).heap[w.heap.size + 1 + 1]? = some (.cells #[.int .i64 0, .int .i64 0, .slice none 0 0] 69 (0, 0))) := XS.out _ (bR)
    clear B XM XR XS XA hz
    generalize (((wB1.setCell ⟨w.heap.size + 1 + 1, 0, none⟩ (.int .i64 0)).setCell ⟨w.heap.size + 1 + 1, 1, none⟩ (.int .i64 0)).setCell ⟨w.heap.size + 1 + 1, 2, none⟩ (.slice none 0 0)) = wF at  BF XC XD ⊢
    have kXC0 : wF.cell? ⟨w.heap.size + 1, 0, none⟩ = some (.slice none 0 0) := (boxG XC.out 0).1
    have kXC1 : wF.cell? ⟨w.heap.size + 1, 1, none⟩ = some (.slice none 0 0) := (boxG XC.out 1).1
    have kXC2 : wF.cell? ⟨w.heap.size + 1, 2, none⟩ = some (.int .i64 0) := (boxG XC.out 2).1
    have kXC3 : wF.cell? ⟨w.heap.size + 1, 3, none⟩ = some (.int .i64 0) := (boxG XC.out 3).1
    have kXC4 : wF.cell? ⟨w.heap.size + 1, 4, none⟩ = some (.int .i64 0) := (boxG XC.out 4).1
    have kXC5 : wF.cell? ⟨w.heap.size + 1, 5, none⟩ = some (.slice none 0 0) := (boxG XC.out 5).1
    have kXC6 : wF.cell? ⟨w.heap.size + 1, 6, none⟩ = some (.slice none 0 0) := (boxG XC.out 6).1
    have kXC7 : wF.cell? ⟨w.heap.size + 1, 7, none⟩ = some (.int .i64 0) := (boxG XC.out 7).1
    have kXC8 : wF.cell? ⟨w.heap.size + 1, 8, none⟩ = some (.int .i64 0) := (boxG XC.out 8).1
    have kXC9 : wF.cell? ⟨w.heap.size + 1, 9, none⟩ = some (.slice none 0 0) := (boxG XC.out 9).1
    have kXC10 : wF.cell? ⟨w.heap.size + 1, 10, none⟩ = some (.int .i64 0) := (boxG XC.out 10).1
    have kXC11 : wF.cell? ⟨w.heap.size + 1, 11, none⟩ = some (.int .i64 0) := (boxG XC.out 11).1
    have kXC12 : wF.cell? ⟨w.heap.size + 1, 12, none⟩ = some (.slice none 0 0) := (boxG XC.out 12).1
    have kXD0 : wF.cell? ⟨w.heap.size + 1 + 1, 0, none⟩ = some (.int .i64 0) := (boxG XD.out 0).1
    have kXD1 : wF.cell? ⟨w.heap.size + 1 + 1, 1, none⟩ = some (.int .i64 0) := (boxG XD.out 1).1
    have kXD2 : wF.cell? ⟨w.heap.size + 1 + 1, 2, none⟩ = some (.slice none 0 0) := (boxG XD.out 2).1
    refine bodyPost_ret (v := .tuple #[.agg #[.slice none 0 0, .slice none 0 0, .int .i64 0, .int .i64 0, .int .i64 0, .slice none 0 0, .slice none 0 0, .int .i64 0, .int .i64 0, .slice none 0 0, .int .i64 0, .int .i64 0, .slice none 0 0], .agg #[.int .i64 0, .int .i64 0, .slice none 0 0], .bool false]) ?_ rfl ?_
    · simp [results, Tryz.results51, go_sem, kXC0, kXC1, kXC2, kXC3, kXC4, kXC5, kXC6, kXC7, kXC8, kXC9, kXC10, kXC11, kXC12, kXD0, kXD1, kXD2]
    · refine ⟨?_, ?_, BF.out⟩
      · exact fun _ => ⟨_, _, _, _, _, _, _, _, _, _, _, _, _, _, _, _, _, _, _, _, _, _, _, _, _, _, _, _, _, _, rfl⟩
      · intro h
        rw [GF.out] at h
        cases h
  have hB0 := (memB_ok hq).1
  have HB0 : Hid (Bnd L (ws, yg, tp, od, cd)) := hB0
  obtain ⟨wb, wo, yn, tn, on, ta, tc, rfl, rfl, rfl, rfl, rfl, hrow⟩ := hyes hq
  obtain ⟨k0, k1, k2, k3, k4, _⟩ := hB0
  have OK : Hid (clsOk L = true) := k0
  simp only [WS.out] at k1 k2 k3 k4
  have m1 : tn ≤ yn := by omega
  have m2 : yn ≤ on := by omega
  have m3 : on ≤ wl := by omega
  have m4 : wl ≤ 200 := by omega
  have HM : Hid (memB L (ws, (yn : Int), (tn : Int), (on : Int), cd) = true) := hq
  have TL0 : (thT L (ws, (yn : Int), (tn : Int), (on : Int), cd)).length ≤ wl := by have := thT_len HB0.out; simp only [WS.out] at this; exact this
  have TOK0 : Hid (∀ t ∈ thT L (ws, (yn : Int), (tn : Int), (on : Int), cd), TOk L (ws, (yn : Int), (tn : Int), (on : Int), cd) t) := (thT_ok HB0.out).1
  have INC0 : Hid (Inc (thT L (ws, (yn : Int), (tn : Int), (on : Int), cd))) := (thT_ok HB0.out).2.inc
  obtain ⟨T, hT⟩ : ∃ T, thT L (ws, (yn : Int), (tn : Int), (on : Int), cd) = T := ⟨_, rfl⟩
  have HT : Hid (thT L (ws, (yn : Int), (tn : Int), (on : Int), cd) = T) := hT
  rw [hT] at hrow TL0 TOK0 INC0
  rw [hT]
  obtain ⟨tl, htl⟩ : ∃ tl, T.length = tl := ⟨_, rfl⟩
  have TLE : Hid (T.length = tl) := htl
  rw [htl] at hrow TL0
  rw [htl]
  obtain ⟨ou, hou⟩ : ∃ ou, on - yn = ou := ⟨_, rfl⟩
  have OUE : Hid (on - yn = ou) := hou
  rw [hou]
  have ROW0 : Hid (ThRow (fun b => w.heap.size + 1 + 1 + 1 ≤ b ∧ b < w1.heap.size) w1 (.slice ta tl tc) T) := ThRow.mono hrow (fun b hb hl => ⟨by simpa using hb, hl⟩)
  clear hno hyes hrow k0 k1 k2 k3 k4 hyg hq hT htl hou
  have RW : Hid (∀ y, Below (w1.heap.size) w1 y → ThRow (fun b => w.heap.size + 1 + 1 + 1 ≤ b ∧ b < w1.heap.size) y (.slice ta tl tc) T) := fun y hy => ROW0.out.later hy
  obtain ⟨kM0, kM1, kM2, kM3, kM4⟩ := bk5 (XM.out w1 bR)
  go_wp2_with fail
  clear kM0 kM1 kM2 kM3 kM4
  have BP : Hid (Below (w1.heap.size) w1 (w1.alloc (.cells #[.slice ca cn cc, .slice (some ⟨wb, wo, none⟩) wl wc, .int .i64 (yn : Nat), .int .i64 (tn : Nat), .int .i64 (on : Nat), .slice da dl dc, .slice (some ⟨wb, wo, none⟩) yn wc, .int .i64 0, .int .i64 (tn : Nat), .slice (some ⟨wb, wo + yn, none⟩) (wl - yn) (wc - yn), .int .i64 (yn : Nat), .int .i64 (ou : Nat), .slice ta tl tc] 65))) := (bR.alloc (by first | exact hz | (simp; done) | (simp; omega) | (have := hz; simp at this ⊢; omega)) _)
  refine (findImpl ca cn cc wb wo wl wc yn tn on da dl dc wc (wl - yn) (wc - yn) ou ta tl tc T v _ (fun b hb => Nat.lt_of_lt_of_le hb.2 BP.out.size) ((RW.out _ BP.out).sl TLE.out.symm (by omega)) INC0.out (by omega) hv).mono ?_
  rintro e w2 ⟨hfn, hfy, hb⟩
  have hq : Below (w1.heap.size) w1 w2 := BP.out.trans (Below.mono hb (Nat.le_trans hz BP.out.size))
  have hzn : w1.heap.size ≤ w2.heap.size := Nat.le_trans hz hq.size
  replace B := lF B hq hzn
  replace RW := lF RW hq hzn
  replace XM := lF XM hq hzn
  replace lM := Nat.lt_of_lt_of_le lM hzn
  replace XR := lF XR hq hzn
  replace lR := Nat.lt_of_lt_of_le lR hzn
  replace XS := lF XS hq hzn
  replace lS := Nat.lt_of_lt_of_le lS hzn
  have lA : w1.heap.size < w2.heap.size := Nat.lt_of_lt_of_le (by first | (simp; done) | (simp; omega)) (Below.size hb)
  have XA : Hid (∀ y, Below w2.heap.size w2 y → y.heap[w1.heap.size]? = some (.cells #[.slice ca cn cc, .slice (some ⟨wb, wo, none⟩) wl wc, .int .i64 (yn : Nat), .int .i64 (tn : Nat), .int .i64 (on : Nat), .slice da dl dc, .slice (some ⟨wb, wo, none⟩) yn wc, .int .i64 0, .int .i64 (tn : Nat), .slice (some ⟨wb, wo + yn, none⟩) (wl - yn) (wc - yn), .int .i64 (yn : Nat), .int .i64 (ou : Nat), .slice ta tl tc] 65 (0, 0))) := fun y hy => (hy.block _ lA).trans ((Below.block hb _ (by first | (simp; done) | (simp; omega))).trans (boxN _ _ _ _ (by simp)))
  clear hq BP hz
  have hz : w2.heap.size ≤ w2.heap.size := Nat.le_refl _
  clear hb
  cases hi : isAt T v
  · obtain rfl := hfn hi
    clear hfn hfy
    have GF : Hid (getB L (ws, (yn : Int), (tn : Int), (on : Int), cd) v k = false) := getB_none (by rw [HT.out]; exact hi)
    have nR : ¬ (fun b => w.heap.size + 1 + 1 + 1 ≤ b ∧ b < w1.heap.size) (w.heap.size + 1) := by
      intro h
      have h1 : w.heap.size + 1 + 1 + 1 ≤ w.heap.size + 1 := h.1
      omega
    have nS : ¬ (fun b => w.heap.size + 1 + 1 + 1 ≤ b ∧ b < w1.heap.size) (w.heap.size + 1 + 1) := by
      intro h
      have h1 : w.heap.size + 1 + 1 + 1 ≤ w.heap.size + 1 + 1 := h.1
      omega
    obtain ⟨kM0, kM1, kM2, kM3, kM4⟩ := bk5 (XM.out w2 bR)
    obtain ⟨kA0, kA1, kA2, kA3, kA4, kA5, kA6, kA7, kA8, kA9, kA10, kA11, kA12⟩ := bk13 (XA.out w2 bR)
    go_wp2_with fail
    clear kM0 kM1 kM2 kM3 kM4 kA0 kA1 kA2 kA3 kA4 kA5 kA6 kA7 kA8 kA9 kA10 kA11 kA12
    have BP : Hid (Below (w2.heap.size) w2 (w2.alloc (.cells #[.int .i64 0, .int .i64 0, .slice none 0 0] 69))) := (bR.alloc (by first | exact hz | (simp; done) | (simp; omega) | (have := hz; simp at this ⊢; omega)) _)
    replace B := Proofs.YtjbmcdekhhbiaaaGreat.lA B BP
    replace RW := Proofs.YtjbmcdekhhbiaaaGreat.lA RW BP
    replace XM := Proofs.YtjbmcdekhhbiaaaGreat.lA XM BP
    replace lM := lL lM
    replace XR := Proofs.YtjbmcdekhhbiaaaGreat.lA XR BP
    replace lR := lL lR
    replace XS := Proofs.YtjbmcdekhhbiaaaGreat.lA XS BP
    replace lS := lL lS
    replace XA := Proofs.YtjbmcdekhhbiaaaGreat.lA XA BP
    replace lA := lL lA
    have XT : Hid (∀ y, Below (w2.heap.size + 1) (w2.alloc (.cells #[.int .i64 0, .int .i64 0, .slice none 0 0] 69)) y → y.heap[w2.heap.size]? = some (.cells #[.int .i64 0, .int .i64 0, .slice none 0 0] 69 (0, 0))) := fun y hy => (hy.block _ (by omega)).trans (boxN _ _ _ _ (by simp))
    have lT : w2.heap.size < w2.heap.size + 1 := by omega
    replace hz : w2.heap.size + 1 ≤ ((w2.alloc (.cells #[.int .i64 0, .int .i64 0, .slice none 0 0] 69))).heap.size := by simp
    clear BP
    clear XM lM
    generalize (w2.alloc (.cells #[.int .i64 0, .int .i64 0, .slice none 0 0] 69)) = w2g at B RW XR XS XA XT hz ⊢
    have hzn : w2.heap.size + 1 ≤ w2g.heap.size := Nat.le_trans hz (Below.size (Below.refl (w2.heap.size + 1) w2g))
    replace B := lF B (Below.refl (w2.heap.size + 1) w2g) hzn
    replace RW := lF RW (Below.refl (w2.heap.size + 1) w2g) hzn
    replace XR := lF XR (Below.refl (w2.heap.size + 1) w2g) hzn
    replace lR := Nat.lt_of_lt_of_le lR hzn
    replace XS := lF XS (Below.refl (w2.heap.size + 1) w2g) hzn
    replace lS := Nat.lt_of_lt_of_le lS hzn
    replace XA := lF XA (Below.refl (w2.heap.size + 1) w2g) hzn
    replace lA := Nat.lt_of_lt_of_le lA hzn
    replace XT := lF XT (Below.refl (w2.heap.size + 1) w2g) hzn
    replace lT := Nat.lt_of_lt_of_le lT hzn
    clear hz
    have hz : w2g.heap.size ≤ w2g.heap.size := Nat.le_refl _
    have KS : Hid (∀ x, Below (w2g.heap.size) w2g x → x.cell? ⟨w1.heap.size, 0, none⟩ = some (.slice ca cn cc) ∧ x.cell? ⟨w1.heap.size, 1, none⟩ = some (.slice (some ⟨wb, wo, none⟩) wl wc) ∧ x.cell? ⟨w1.heap.size, 2, none⟩ = some (.int .i64 (yn : Nat)) ∧ x.cell? ⟨w1.heap.size, 3, none⟩ = some (.int .i64 (tn : Nat)) ∧ x.cell? ⟨w1.heap.size, 4, none⟩ = some (.int .i64 (on : Nat)) ∧ x.cell? ⟨w1.heap.size, 5, none⟩ = some (.slice da dl dc) ∧ x.cell? ⟨w1.heap.size, 6, none⟩ = some (.slice (some ⟨wb, wo, none⟩) yn wc) ∧ x.cell? ⟨w1.heap.size, 7, none⟩ = some (.int .i64 0) ∧ x.cell? ⟨w1.heap.size, 8, none⟩ = some (.int .i64 (tn : Nat)) ∧ x.cell? ⟨w1.heap.size, 9, none⟩ = some (.slice (some ⟨wb, wo + yn, none⟩) (wl - yn) (wc - yn)) ∧ x.cell? ⟨w1.heap.size, 10, none⟩ = some (.int .i64 (yn : Nat)) ∧ x.cell? ⟨w1.heap.size, 11, none⟩ = some (.int .i64 (ou : Nat)) ∧ x.cell? ⟨w1.heap.size, 12, none⟩ = some (.slice ta tl tc) ∧ x.cell? ⟨w2.heap.size, 0, none⟩ = some (.int .i64 0) ∧ x.cell? ⟨w2.heap.size, 1, none⟩ = some (.int .i64 0) ∧ x.cell? ⟨w2.heap.size, 2, none⟩ = some (.slice none 0 0)) := fun x hx => ⟨(boxG (XA.out x hx) 0).1, (boxG (XA.out x hx) 1).1, (boxG (XA.out x hx) 2).1, (boxG (XA.out x hx) 3).1, (boxG (XA.out x hx) 4).1, (boxG (XA.out x hx) 5).1, (boxG (XA.out x hx) 6).1, (boxG (XA.out x hx) 7).1, (boxG (XA.out x hx) 8).1, (boxG (XA.out x hx) 9).1, (boxG (XA.out x hx) 10).1, (boxG (XA.out x hx) 11).1, (boxG (XA.out x hx) 12).1, (boxG (XT.out x hx) 0).1, (boxG (XT.out x hx) 1).1, (boxG (XT.out x hx) 2).1⟩
    refine wp_region_held_drew (S := fun x => x.cell? ⟨w1.heap.size, 0, none⟩ = some (.slice ca cn cc) ∧ x.cell? ⟨w1.heap.size, 1, none⟩ = some (.slice (some ⟨wb, wo, none⟩) wl wc) ∧ x.cell? ⟨w1.heap.size, 2, none⟩ = some (.int .i64 (yn : Nat)) ∧ x.cell? ⟨w1.heap.size, 3, none⟩ = some (.int .i64 (tn : Nat)) ∧ x.cell? ⟨w1.heap.size, 4, none⟩ = some (.int .i64 (on : Nat)) ∧ x.cell? ⟨w1.heap.size, 5, none⟩ = some (.slice da dl dc) ∧ x.cell? ⟨w1.heap.size, 6, none⟩ = some (.slice (some ⟨wb, wo, none⟩) yn wc) ∧ x.cell? ⟨w1.heap.size, 7, none⟩ = some (.int .i64 0) ∧ x.cell? ⟨w1.heap.size, 8, none⟩ = some (.int .i64 (tn : Nat)) ∧ x.cell? ⟨w1.heap.size, 9, none⟩ = some (.slice (some ⟨wb, wo + yn, none⟩) (wl - yn) (wc - yn)) ∧ x.cell? ⟨w1.heap.size, 10, none⟩ = some (.int .i64 (yn : Nat)) ∧ x.cell? ⟨w1.heap.size, 11, none⟩ = some (.int .i64 (ou : Nat)) ∧ x.cell? ⟨w1.heap.size, 12, none⟩ = some (.slice ta tl tc) ∧ x.cell? ⟨w2.heap.size, 0, none⟩ = some (.int .i64 0) ∧ x.cell? ⟨w2.heap.size, 1, none⟩ = some (.int .i64 0) ∧ x.cell? ⟨w2.heap.size, 2, none⟩ = some (.slice none 0 0)) (by kernel_rfl) ?_ (fun hHeld => ?_)
    · exact KS.out _ (bdrew bR)
    refine tV 0 (v := ?_) rfl (by kernel_rfl) (fun _ _ _ h => h) ?_ (by assumption) ?_
    rotate_left 1
    · (intro x hSx; (try dsimp only at hSx); go_simp; try with_reducible rfl)
    try simp only [Act.put, List.getElem_toArray, List.getElem_cons_zero, List.setIfInBounds_toArray, List.set_cons_zero, List.set_cons_succ]
    refine tV 1 (v := ?_) rfl (by kernel_rfl) (fun _ _ _ h => h) ?_ (by assumption) ?_
    rotate_left 1
    · (intro x hSx; (try dsimp only at hSx); go_simp; try with_reducible rfl)
    try simp only [Act.put, List.getElem_toArray, List.getElem_cons_zero, List.getElem_cons_succ, List.setIfInBounds_toArray, List.set_cons_zero, List.set_cons_succ]
    refine tV 2 (v := ?_) rfl (by kernel_rfl) (fun _ _ _ h => h) ?_ (by assumption) ?_
    rotate_left 1
    · (intro x hSx; (try dsimp only at hSx); go_simp; try with_reducible rfl)
    try simp only [Act.put, List.getElem_toArray, List.getElem_cons_zero, List.getElem_cons_succ, List.setIfInBounds_toArray, List.set_cons_zero, List.set_cons_succ]
    refine tV 3 (v := ?_) rfl (by kernel_rfl) (fun _ _ _ h => h) ?_ (by assumption) ?_
    rotate_left 1
    · (intro x hSx; (try dsimp only at hSx); go_simp; try with_reducible rfl)
    try simp only [Act.put, List.getElem_toArray, List.getElem_cons_zero, List.getElem_cons_succ, List.setIfInBounds_toArray, List.set_cons_zero, List.set_cons_succ]
    refine tU 4 rfl (by kernel_rfl) (fun _ _ _ h => h) (by assumption) ?_
    refine tU 5 rfl (by kernel_rfl) (fun _ _ _ h => h) (by assumption) ?_
    refine tU 6 rfl (by kernel_rfl) (fun _ _ _ h => h) (by assumption) ?_
    refine tU 7 rfl (by kernel_rfl) (fun _ _ _ h => h) (by assumption) ?_
    refine tU 8 rfl (by kernel_rfl) (fun _ _ _ h => h) (by assumption) ?_
    try simp only [Act.put, List.getElem_toArray, List.getElem_cons_zero, List.getElem_cons_succ, List.setIfInBounds_toArray, List.set_cons_zero, List.set_cons_succ]
    refine tV 9 (v := ?_) rfl (by kernel_rfl) (fun _ _ _ h => h) ?_ (by assumption) ?_
    rotate_left 1
    · (intro x hSx; (try dsimp only at hSx); go_simp; try with_reducible rfl)
    try simp only [Act.put, List.getElem_toArray, List.getElem_cons_zero, List.getElem_cons_succ, List.setIfInBounds_toArray, List.set_cons_zero, List.set_cons_succ]
    refine wpAnyH_ready (rs := [10]) (by kernel_rfl) (by simp) ?_
    refine AllReadyH.cons rfl (fun K hK => ?_) AllReadyH.nil
    obtain ⟨kR0, kR1, kR2, kR3, kR4, kR5, kR6, kR7, kR8, kR9, kR10, kR11, kR12⟩ := bk13 (XR.out w2g bR)
    obtain ⟨qkR0, qkR1, qkR2, qkR3, qkR4, qkR5, qkR6, qkR7, qkR8, qkR9, qkR10, qkR11, qkR12⟩ := bq13 (XR.out w2g bR)
    go_simp
    clear kR0 kR1 kR2 kR3 kR4 kR5 kR6 kR7 kR8 kR9 kR10 kR11 kR12 qkR0 qkR1 qkR2 qkR3 qkR4 qkR5 qkR6 qkR7 qkR8 qkR9 qkR10 qkR11 qkR12
    generalize hW : (((((((((((((w2g.setCell ⟨w.heap.size + 1, 0, none⟩ (.slice ca cn cc)).setCell ⟨w.heap.size + 1, 1, none⟩ (.slice (some ⟨wb, wo, none⟩) wl wc)).setCell ⟨w.heap.size + 1, 2, none⟩ (.int .i64 (yn : Nat))).setCell ⟨w.heap.size + 1, 3, none⟩ (.int .i64 (tn : Nat))).setCell ⟨w.heap.size + 1, 4, none⟩ (.int .i64 (on : Nat))).setCell ⟨w.heap.size + 1, 5, none⟩ (.slice da dl dc)).setCell ⟨w.heap.size + 1, 6, none⟩ (.slice (some ⟨wb, wo, none⟩) yn wc)).setCell ⟨w.heap.size + 1, 7, none⟩ (.int .i64 0)).setCell ⟨w.heap.size + 1, 8, none⟩ (.int .i64 (tn : Nat))).setCell ⟨w.heap.size + 1, 9, none⟩ (.slice (some ⟨wb, wo + yn, none⟩) (wl - yn) (wc - yn))).setCell ⟨w.heap.size + 1, 10, none⟩ (.int .i64 (yn : Nat))).setCell ⟨w.heap.size + 1, 11, none⟩ (.int .i64 (ou : Nat))).setCell ⟨w.heap.size + 1, 12, none⟩ (.slice ta tl tc)) = wB1
    have hkB : ∀ a, a ≠ w.heap.size + 1 → wB1.heap[a]? = w2g.heap[a]? := by subst hW; exact fun a h => keep13 h
    have hsB : wB1.heap.size = w2g.heap.size := by subst hW; simp
    have hw0 : w.heap.size ≤ w.heap.size + 1 := (by first | omega | (simp; done) | (simp; omega) | (simp at *; omega))
    replace XS := Proofs.YtjbmcdekhhbiaaaGreat.lS XS lS wB1 (hkB _ (by first | omega | (simp; done) | (simp; omega)))
    replace XA := Proofs.YtjbmcdekhhbiaaaGreat.lS XA lA wB1 (hkB _ (by first | omega | (simp; done) | (simp; omega)))
    replace XT := Proofs.YtjbmcdekhhbiaaaGreat.lS XT lT wB1 (hkB _ (by first | omega | (simp; done) | (simp; omega)))
    replace XR : Hid (∀ y, Below (w2g.heap.size) wB1 y → y.heap[w.heap.size + 1]? = some (.cells #[.slice ca cn cc, .slice (some ⟨wb, wo, none⟩) wl wc, .int .i64 (yn : Nat), .int .i64 (tn : Nat), .int .i64 (on : Nat), .slice da dl dc, .slice (some ⟨wb, wo, none⟩) yn wc, .int .i64 0, .int .i64 (tn : Nat), .slice (some ⟨wb, wo + yn, none⟩) (wl - yn) (wc - yn), .int .i64 (yn : Nat), .int .i64 (ou : Nat), .slice ta tl tc] 65 (0, 0))) := fun y hy => by subst hW; exact (hy.block _ (by omega)).trans (box13 (XR.out w2g bR) rfl _ _ _ _ _ _ _ _ _ _ _ _ _)
    replace RW : Hid (∀ y, Below (w2g.heap.size) wB1 y → ThRow (fun b => w.heap.size + 1 + 1 + 1 ≤ b ∧ b < w1.heap.size) y (.slice ta tl tc) T) := fun y hy => by subst hW; exact ((((((((((((((RW.out w2g (bR)).box _ _ nR).box _ _ nR).box _ _ nR).box _ _ nR).box _ _ nR).box _ _ nR).box _ _ nR).box _ _ nR).box _ _ nR).box _ _ nR).box _ _ nR).box _ _ nR).box _ _ nR).later (hy.mono (by simp))
    clear KS
    replace B : Hid (∀ y, Below (w2g.heap.size) wB1 y → Below w.heap.size w y) := fun y hy => by subst hW; exact ((((((((((((((B.out w2g bR).setCell hw0 _).setCell hw0 _).setCell hw0 _).setCell hw0 _).setCell hw0 _).setCell hw0 _).setCell hw0 _).setCell hw0 _).setCell hw0 _).setCell hw0 _).setCell hw0 _).setCell hw0 _).setCell hw0 _).trans (hy.mono (by first | omega | exact Nat.le_trans (B.out w2g bR).size hz | (have := (B.out w2g bR).size; omega)))
    replace hz : w2g.heap.size ≤ wB1.heap.size := by subst hW; first | (simp; done) | simpa using hz
    clear hw0 hW hkB
    have KS : Hid (∀ x, Below (w2g.heap.size) wB1 x → x.cell? ⟨w1.heap.size, 0, none⟩ = some (.slice ca cn cc) ∧ x.cell? ⟨w1.heap.size, 1, none⟩ = some (.slice (some ⟨wb, wo, none⟩) wl wc) ∧ x.cell? ⟨w1.heap.size, 2, none⟩ = some (.int .i64 (yn : Nat)) ∧ x.cell? ⟨w1.heap.size, 3, none⟩ = some (.int .i64 (tn : Nat)) ∧ x.cell? ⟨w1.heap.size, 4, none⟩ = some (.int .i64 (on : Nat)) ∧ x.cell? ⟨w1.heap.size, 5, none⟩ = some (.slice da dl dc) ∧ x.cell? ⟨w1.heap.size, 6, none⟩ = some (.slice (some ⟨wb, wo, none⟩) yn wc) ∧ x.cell? ⟨w1.heap.size, 7, none⟩ = some (.int .i64 0) ∧ x.cell? ⟨w1.heap.size, 8, none⟩ = some (.int .i64 (tn : Nat)) ∧ x.cell? ⟨w1.heap.size, 9, none⟩ = some (.slice (some ⟨wb, wo + yn, none⟩) (wl - yn) (wc - yn)) ∧ x.cell? ⟨w1.heap.size, 10, none⟩ = some (.int .i64 (yn : Nat)) ∧ x.cell? ⟨w1.heap.size, 11, none⟩ = some (.int .i64 (ou : Nat)) ∧ x.cell? ⟨w1.heap.size, 12, none⟩ = some (.slice ta tl tc) ∧ x.cell? ⟨w2.heap.size, 0, none⟩ = some (.int .i64 0) ∧ x.cell? ⟨w2.heap.size, 1, none⟩ = some (.int .i64 0) ∧ x.cell? ⟨w2.heap.size, 2, none⟩ = some (.slice none 0 0)) := fun x hx => ⟨(boxG (XA.out x hx) 0).1, (boxG (XA.out x hx) 1).1, (boxG (XA.out x hx) 2).1, (boxG (XA.out x hx) 3).1, (boxG (XA.out x hx) 4).1, (boxG (XA.out x hx) 5).1, (boxG (XA.out x hx) 6).1, (boxG (XA.out x hx) 7).1, (boxG (XA.out x hx) 8).1, (boxG (XA.out x hx) 9).1, (boxG (XA.out x hx) 10).1, (boxG (XA.out x hx) 11).1, (boxG (XA.out x hx) 12).1, (boxG (XT.out x hx) 0).1, (boxG (XT.out x hx) 1).1, (boxG (XT.out x hx) 2).1⟩
    refine hK.out _ _ (KS.out _ (bdrew bR)) (fun hHeld2 => ?_)
    clear hK K
    try simp only [Act.put, List.getElem_toArray, List.getElem_cons_zero, List.getElem_cons_succ, List.setIfInBounds_toArray, List.set_cons_zero, List.set_cons_succ]
    refine wpAnyH_ready (rs := [11]) (by kernel_rfl) (by simp) ?_
    refine AllReadyH.cons rfl (fun K hK => ?_) AllReadyH.nil
    obtain ⟨kS0, kS1, kS2⟩ := bk3 (XS.out wB1 bR)
    obtain ⟨qkS0, qkS1, qkS2⟩ := bq3 (XS.out wB1 bR)
    go_simp
    clear kS0 kS1 kS2 qkS0 qkS1 qkS2
    have hw0 : w.heap.size ≤ w.heap.size + 1 + 1 := (by first | omega | (simp; done) | (simp; omega) | (simp at *; omega))
    replace XR := Proofs.YtjbmcdekhhbiaaaGreat.lS XR lR ((((wB1.setCell ⟨w.heap.size + 1 + 1, 0, none⟩ (.int .i64 0)).setCell ⟨w.heap.size + 1 + 1, 1, none⟩ (.int .i64 0)).setCell ⟨w.heap.size + 1 + 1, 2, none⟩ (.slice none 0 0))) ((Below.heap_setCell _ _ _ _ (by first | omega | (simp; done) | (simp; omega))).trans ((Below.heap_setCell _ _ _ _ (by first | omega | (simp; done) | (simp; omega))).trans ((Below.heap_setCell _ _ _ _ (by first | omega | (simp; done) | (simp; omega))))))
    replace XA := Proofs.YtjbmcdekhhbiaaaGreat.lS XA lA ((((wB1.setCell ⟨w.heap.size + 1 + 1, 0, none⟩ (.int .i64 0)).setCell ⟨w.heap.size + 1 + 1, 1, none⟩ (.int .i64 0)).setCell ⟨w.heap.size + 1 + 1, 2, none⟩ (.slice none 0 0))) ((Below.heap_setCell _ _ _ _ (by first | omega | (simp; done) | (simp; omega))).trans ((Below.heap_setCell _ _ _ _ (by first | omega | (simp; done) | (simp; omega))).trans ((Below.heap_setCell _ _ _ _ (by first | omega | (simp; done) | (simp; omega))))))
    replace XT := Proofs.YtjbmcdekhhbiaaaGreat.lS XT lT ((((wB1.setCell ⟨w.heap.size + 1 + 1, 0, none⟩ (.int .i64 0)).setCell ⟨w.heap.size + 1 + 1, 1, none⟩ (.int .i64 0)).setCell ⟨w.heap.size + 1 + 1, 2, none⟩ (.slice none 0 0))) ((Below.heap_setCell _ _ _ _ (by first | omega | (simp; done) | (simp; omega))).trans ((Below.heap_setCell _ _ _ _ (by first | omega | (simp; done) | (simp; omega))).trans ((Below.heap_setCell _ _ _ _ (by first | omega | (simp; done) | (simp; omega))))))
    replace XS : Hid (∀ y, Below (w2g.heap.size) (((wB1.setCell ⟨w.heap.size + 1 + 1, 0, none⟩ (.int .i64 0)).setCell ⟨w.heap.size + 1 + 1, 1, none⟩ (.int .i64 0)).setCell ⟨w.heap.size + 1 + 1, 2, none⟩ (.slice none 0 0)) y → y.heap[w.heap.size + 1 + 1]? = some (.cells #[.int .i64 0, .int .i64 0, .slice none 0 0] 69 (0, 0))) := fun y hy => (hy.block _ (by omega)).trans (boxS (boxS (boxS (XS.out wB1 bR) 0 _) 1 _) 2 _)
    replace RW : Hid (∀ y, Below (w2g.heap.size) (((wB1.setCell ⟨w.heap.size + 1 + 1, 0, none⟩ (.int .i64 0)).setCell ⟨w.heap.size + 1 + 1, 1, none⟩ (.int .i64 0)).setCell ⟨w.heap.size + 1 + 1, 2, none⟩ (.slice none 0 0)) y → ThRow (fun b => w.heap.size + 1 + 1 + 1 ≤ b ∧ b < w1.heap.size) y (.slice ta tl tc) T) := fun y hy => ((((RW.out wB1 (bR)).box _ _ nS).box _ _ nS).box _ _ nS).later (hy.mono (by first | (simp; done) | (simp; omega)))
    clear KS
    replace B : Hid (∀ y, Below (w2g.heap.size) (((wB1.setCell ⟨w.heap.size + 1 + 1, 0, none⟩ (.int .i64 0)).setCell ⟨w.heap.size + 1 + 1, 1, none⟩ (.int .i64 0)).setCell ⟨w.heap.size + 1 + 1, 2, none⟩ (.slice none 0 0)) y → Below w.heap.size w y) := fun y hy => ((((B.out wB1 bR).setCell hw0 _).setCell hw0 _).setCell hw0 _).trans (hy.mono (by first | omega | exact Nat.le_trans (B.out wB1 bR).size hz | (have := (B.out wB1 bR).size; omega)))
    replace hz : w2g.heap.size ≤ (((wB1.setCell ⟨w.heap.size + 1 + 1, 0, none⟩ (.int .i64 0)).setCell ⟨w.heap.size + 1 + 1, 1, none⟩ (.int .i64 0)).setCell ⟨w.heap.size + 1 + 1, 2, none⟩ (.slice none 0 0)).heap.size := by first | (simp; done) | simpa using hz
    clear hw0
    have KS : Hid (∀ x, Below (w2g.heap.size) (((wB1.setCell ⟨w.heap.size + 1 + 1, 0, none⟩ (.int .i64 0)).setCell ⟨w.heap.size + 1 + 1, 1, none⟩ (.int .i64 0)).setCell ⟨w.heap.size + 1 + 1, 2, none⟩ (.slice none 0 0)) x → x.cell? ⟨w1.heap.size, 0, none⟩ = some (.slice ca cn cc) ∧ x.cell? ⟨w1.heap.size, 1, none⟩ = some (.slice (some ⟨wb, wo, none⟩) wl wc) ∧ x.cell? ⟨w1.heap.size, 2, none⟩ = some (.int .i64 (yn : Nat)) ∧ x.cell? ⟨w1.heap.size, 3, none⟩ = some (.int .i64 (tn : Nat)) ∧ x.cell? ⟨w1.heap.size, 4, none⟩ = some (.int .i64 (on : Nat)) ∧ x.cell? ⟨w1.heap.size, 5, none⟩ = some (.slice da dl dc) ∧ x.cell? ⟨w1.heap.size, 6, none⟩ = some (.slice (some ⟨wb, wo, none⟩) yn wc) ∧ x.cell? ⟨w1.heap.size, 7, none⟩ = some (.int .i64 0) ∧ x.cell? ⟨w1.heap.size, 8, none⟩ = some (.int .i64 (tn : Nat)) ∧ x.cell? ⟨w1.heap.size, 9, none⟩ = some (.slice (some ⟨wb, wo + yn, none⟩) (wl - yn) (wc - yn)) ∧ x.cell? ⟨w1.heap.size, 10, none⟩ = some (.int .i64 (yn : Nat)) ∧ x.cell? ⟨w1.heap.size, 11, none⟩ = some (.int .i64 (ou : Nat)) ∧ x.cell? ⟨w1.heap.size, 12, none⟩ = some (.slice ta tl tc) ∧ x.cell? ⟨w2.heap.size, 0, none⟩ = some (.int .i64 0) ∧ x.cell? ⟨w2.heap.size, 1, none⟩ = some (.int .i64 0) ∧ x.cell? ⟨w2.heap.size, 2, none⟩ = some (.slice none 0 0)) := fun x hx => ⟨(boxG (XA.out x hx) 0).1, (boxG (XA.out x hx) 1).1, (boxG (XA.out x hx) 2).1, (boxG (XA.out x hx) 3).1, (boxG (XA.out x hx) 4).1, (boxG (XA.out x hx) 5).1, (boxG (XA.out x hx) 6).1, (boxG (XA.out x hx) 7).1, (boxG (XA.out x hx) 8).1, (boxG (XA.out x hx) 9).1, (boxG (XA.out x hx) 10).1, (boxG (XA.out x hx) 11).1, (boxG (XA.out x hx) 12).1, (boxG (XT.out x hx) 0).1, (boxG (XT.out x hx) 1).1, (boxG (XT.out x hx) 2).1⟩
    refine hK.out _ _ (KS.out _ (bdrew bR)) (fun hHeld3 => ?_)
    clear hK K
    try simp only [Act.put, List.getElem_toArray, List.getElem_cons_zero, List.getElem_cons_succ, List.setIfInBounds_toArray, List.set_cons_zero, List.set_cons_succ]
    refine tV 12 (v := ?_) rfl (by kernel_rfl) (fun _ _ _ h => h) ?_ (by assumption) ?_
    rotate_left 1
    · (intro x hSx; (try dsimp only at hSx); go_simp; try with_reducible rfl)
    try simp only [Act.put, List.getElem_toArray, List.getElem_cons_zero, List.getElem_cons_succ, List.setIfInBounds_toArray, List.set_cons_zero, List.set_cons_succ]
    refine wpAnyH_done (by kernel_rfl) ?_ _
    clear hHeld hHeld2 hHeld3
    clear KS
    replace B := lD B
    replace RW := lD RW
    replace XR := lD XR
    replace XS := lD XS
    replace XA := lD XA
    replace XT := lD XT
    replace hz : w2g.heap.size ≤ ((((wB1.setCell ⟨w.heap.size + 1 + 1, 0, none⟩ (.int .i64 0)).setCell ⟨w.heap.size + 1 + 1, 1, none⟩ (.int .i64 0)).setCell ⟨w.heap.size + 1 + 1, 2, none⟩ (.slice none 0 0)).drew).heap.size := Nat.le_trans hz (Below.size (bdrew (Below.refl (w2g.heap.size) (((wB1.setCell ⟨w.heap.size + 1 + 1, 0, none⟩ (.int .i64 0)).setCell ⟨w.heap.size + 1 + 1, 1, none⟩ (.int .i64 0)).setCell ⟨w.heap.size + 1 + 1, 2, none⟩ (.slice none 0 0)))))
    have BF : Hid (Below w.heap.size w (((((wB1.setCell ⟨w.heap.size + 1 + 1, 0, none⟩ (.int .i64 0)).setCell ⟨w.heap.size + 1 + 1, 1, none⟩ (.int .i64 0)).setCell ⟨w.heap.size + 1 + 1, 2, none⟩ (.slice none 0 0)).drew))) := B.out _ (bR)
    have XC : Hid ((((((wB1.setCell ⟨w.heap.size + 1 + 1, 0, none⟩ (.int .i64 0)).setCell ⟨w.heap.size + 1 + 1, 1, none⟩ (.int .i64 0)).setCell ⟨w.heap.size + 1 + 1, 2, none⟩ (.slice none 0 0)).drew)).heap[w.heap.size + 1]? = some (.cells #[.slice ca cn cc, .slice (some ⟨wb, wo, none⟩) wl wc, .int .i64 (yn : Nat), .int .i64 (tn : Nat), .int .i64 (on : Nat), .slice da dl dc, .slice (some ⟨wb, wo, none⟩) yn wc, .int .i64 0, .int .i64 (tn : Nat), .slice (some ⟨wb, wo + yn, none⟩) (wl - yn) (wc - yn), .int .i64 (yn : Nat), .int .i64 (ou : Nat), .slice ta tl tc] 65 (0, 0))) := XR.out _ (bR)
    have XD : Hid ((((((wB1.setCell ⟨w.heap.size + 1 + 1, 0, none⟩ (.int .i64 0)).setCell ⟨w.heap.size + 1 + 1, 1, none⟩ (.int .i64 0)).setCell ⟨w.heap.size + 1 + 1, 2, none⟩ (.slice none 0 0)).drew)).heap[w.heap.size + 1 + 1]? = some (.cells #[.int .i64 0, .int .i64 0, .slice none 0 0] 69 (0, 0))) := XS.out _ (bR)
    clear B RW XR XS XA XT hz
    generalize ((((wB1.setCell ⟨w.heap.size + 1 + 1, 0, none⟩ (.int .i64 0)).setCell ⟨w.heap.size + 1 + 1, 1, none⟩ (.int .i64 0)).setCell ⟨w.heap.size + 1 + 1, 2, none⟩ (.slice none 0 0)).drew) = wF at  BF XC XD ⊢
    have kXC0 : wF.cell? ⟨w.heap.size + 1, 0, none⟩ = some (.slice ca cn cc) := (boxG XC.out 0).1
    have kXC1 : wF.cell? ⟨w.heap.size + 1, 1, none⟩ = some (.slice (some ⟨wb, wo, none⟩) wl wc) := (boxG XC.out 1).1
    have kXC2 : wF.cell? ⟨w.heap.size + 1, 2, none⟩ = some (.int .i64 (yn : Nat)) := (boxG XC.out 2).1
    have kXC3 : wF.cell? ⟨w.heap.size + 1, 3, none⟩ = some (.int .i64 (tn : Nat)) := (boxG XC.out 3).1
    have kXC4 : wF.cell? ⟨w.heap.size + 1, 4, none⟩ = some (.int .i64 (on : Nat)) := (boxG XC.out 4).1
    have kXC5 : wF.cell? ⟨w.heap.size + 1, 5, none⟩ = some (.slice da dl dc) := (boxG XC.out 5).1
    have kXC6 : wF.cell? ⟨w.heap.size + 1, 6, none⟩ = some (.slice (some ⟨wb, wo, none⟩) yn wc) := (boxG XC.out 6).1
    have kXC7 : wF.cell? ⟨w.heap.size + 1, 7, none⟩ = some (.int .i64 0) := (boxG XC.out 7).1
    have kXC8 : wF.cell? ⟨w.heap.size + 1, 8, none⟩ = some (.int .i64 (tn : Nat)) := (boxG XC.out 8).1
    have kXC9 : wF.cell? ⟨w.heap.size + 1, 9, none⟩ = some (.slice (some ⟨wb, wo + yn, none⟩) (wl - yn) (wc - yn)) := (boxG XC.out 9).1
    have kXC10 : wF.cell? ⟨w.heap.size + 1, 10, none⟩ = some (.int .i64 (yn : Nat)) := (boxG XC.out 10).1
    have kXC11 : wF.cell? ⟨w.heap.size + 1, 11, none⟩ = some (.int .i64 (ou : Nat)) := (boxG XC.out 11).1
    have kXC12 : wF.cell? ⟨w.heap.size + 1, 12, none⟩ = some (.slice ta tl tc) := (boxG XC.out 12).1
    have kXD0 : wF.cell? ⟨w.heap.size + 1 + 1, 0, none⟩ = some (.int .i64 0) := (boxG XD.out 0).1
    have kXD1 : wF.cell? ⟨w.heap.size + 1 + 1, 1, none⟩ = some (.int .i64 0) := (boxG XD.out 1).1
    have kXD2 : wF.cell? ⟨w.heap.size + 1 + 1, 2, none⟩ = some (.slice none 0 0) := (boxG XD.out 2).1
    rename_i K0 hK0
    refine hK0 _ _ (wp_ret ?_)
    refine bodyPost_ret (v := .tuple #[.agg #[.slice ca cn cc, .slice (some ⟨wb, wo, none⟩) wl wc, .int .i64 (yn : Nat), .int .i64 (tn : Nat), .int .i64 (on : Nat), .slice da dl dc, .slice (some ⟨wb, wo, none⟩) yn wc, .int .i64 0, .int .i64 (tn : Nat), .slice (some ⟨wb, wo + yn, none⟩) (wl - yn) (wc - yn), .int .i64 (yn : Nat), .int .i64 (ou : Nat), .slice ta tl tc], .agg #[.int .i64 0, .int .i64 0, .slice none 0 0], .bool false]) ?_ rfl ?_
    · simp [results, Tryz.results51, go_sem, kXC0, kXC1, kXC2, kXC3, kXC4, kXC5, kXC6, kXC7, kXC8, kXC9, kXC10, kXC11, kXC12, kXD0, kXD1, kXD2]
    · refine ⟨?_, ?_, BF.out⟩
      · exact fun _ => ⟨_, _, _, _, _, _, _, _, _, _, _, _, _, _, _, _, _, _, _, _, _, _, _, _, _, _, _, _, _, _, rfl⟩
      · intro h
        rw [GF.out] at h
        cases h
  obtain ⟨j, c0, ty, ya, yl, yc, hj, rfl, hy⟩ := hfy hi
  have HI : Hid (isAt T v = true) := hi
  have EA : Hid (atT T v = (v, c0, ty)) := atT_of INC0.out hj
  have YW0 : Hid (IntsAt (fun b => w.heap.size + 1 + 1 + 1 ≤ b ∧ b < w1.heap.size) w2 ya yl ty) := hy
  obtain ⟨q0, hq0⟩ : ∃ q0, plB k yl = q0 := ⟨_, rfl⟩
  have GT : Hid (getB L (ws, (yn : Int), (tn : Int), (on : Int), cd) v k = q0) := by show _ = _; rw [getB_at HM.out (by rw [HT.out]; exact hi), HT.out, EA.out, ← hq0, plB_in]; simp only; rw [hy.size]
  clear hfn hfy hj hy hi
  have nR : ¬ (fun b => w.heap.size + 1 + 1 + 1 ≤ b ∧ b < w1.heap.size) (w.heap.size + 1) := by
    intro h
    have h1 : w.heap.size + 1 + 1 + 1 ≤ w.heap.size + 1 := h.1
    omega
  have nS : ¬ (fun b => w.heap.size + 1 + 1 + 1 ≤ b ∧ b < w1.heap.size) (w.heap.size + 1 + 1) := by
    intro h
    have h1 : w.heap.size + 1 + 1 + 1 ≤ w.heap.size + 1 + 1 := h.1
    omega
  have YW : Hid (∀ y, Below (w2.heap.size) w2 y → IntsAt (fun b => w.heap.size + 1 + 1 + 1 ≤ b ∧ b < w1.heap.size) y ya yl ty) := fun y hy => YW0.out.later hy
  obtain ⟨kM0, kM1, kM2, kM3, kM4⟩ := bk5 (XM.out w2 bR)
  obtain ⟨kA0, kA1, kA2, kA3, kA4, kA5, kA6, kA7, kA8, kA9, kA10, kA11, kA12⟩ := bk13 (XA.out w2 bR)
  go_wp2_with fail
  clear kM0 kM1 kM2 kM3 kM4 kA0 kA1 kA2 kA3 kA4 kA5 kA6 kA7 kA8 kA9 kA10 kA11 kA12
  have BP : Hid (Below (w2.heap.size) w2 (w2.alloc (.cells #[.int .i64 v, .int .i64 c0, .slice ya yl yc] 69))) := (bR.alloc (by first | exact hz | (simp; done) | (simp; omega) | (have := hz; simp at this ⊢; omega)) _)
  replace B := Proofs.YtjbmcdekhhbiaaaGreat.lA B BP
  replace RW := Proofs.YtjbmcdekhhbiaaaGreat.lA RW BP
  replace YW := Proofs.YtjbmcdekhhbiaaaGreat.lA YW BP
  replace XM := Proofs.YtjbmcdekhhbiaaaGreat.lA XM BP
  replace lM := lL lM
  replace XR := Proofs.YtjbmcdekhhbiaaaGreat.lA XR BP
  replace lR := lL lR
  replace XS := Proofs.YtjbmcdekhhbiaaaGreat.lA XS BP
  replace lS := lL lS
  replace XA := Proofs.YtjbmcdekhhbiaaaGreat.lA XA BP
  replace lA := lL lA
  have XT : Hid (∀ y, Below (w2.heap.size + 1) (w2.alloc (.cells #[.int .i64 v, .int .i64 c0, .slice ya yl yc] 69)) y → y.heap[w2.heap.size]? = some (.cells #[.int .i64 v, .int .i64 c0, .slice ya yl yc] 69 (0, 0))) := fun y hy => (hy.block _ (by omega)).trans (boxN _ _ _ _ (by simp))
  have lT : w2.heap.size < w2.heap.size + 1 := by omega
  replace hz : w2.heap.size + 1 ≤ ((w2.alloc (.cells #[.int .i64 v, .int .i64 c0, .slice ya yl yc] 69))).heap.size := by simp
  clear BP
  clear XM lM
  generalize (w2.alloc (.cells #[.int .i64 v, .int .i64 c0, .slice ya yl yc] 69)) = w2g at B RW YW XR XS XA XT hz ⊢
  have hzn : w2.heap.size + 1 ≤ w2g.heap.size := Nat.le_trans hz (Below.size (Below.refl (w2.heap.size + 1) w2g))
  replace B := lF B (Below.refl (w2.heap.size + 1) w2g) hzn
  replace RW := lF RW (Below.refl (w2.heap.size + 1) w2g) hzn
  replace YW := lF YW (Below.refl (w2.heap.size + 1) w2g) hzn
  replace XR := lF XR (Below.refl (w2.heap.size + 1) w2g) hzn
  replace lR := Nat.lt_of_lt_of_le lR hzn
  replace XS := lF XS (Below.refl (w2.heap.size + 1) w2g) hzn
  replace lS := Nat.lt_of_lt_of_le lS hzn
  replace XA := lF XA (Below.refl (w2.heap.size + 1) w2g) hzn
  replace lA := Nat.lt_of_lt_of_le lA hzn
  replace XT := lF XT (Below.refl (w2.heap.size + 1) w2g) hzn
  replace lT := Nat.lt_of_lt_of_le lT hzn
  clear hz
  have hz : w2g.heap.size ≤ w2g.heap.size := Nat.le_refl _
  have KS : Hid (∀ x, Below (w2g.heap.size) w2g x → x.cell? ⟨w1.heap.size, 0, none⟩ = some (.slice ca cn cc) ∧ x.cell? ⟨w1.heap.size, 1, none⟩ = some (.slice (some ⟨wb, wo, none⟩) wl wc) ∧ x.cell? ⟨w1.heap.size, 2, none⟩ = some (.int .i64 (yn : Nat)) ∧ x.cell? ⟨w1.heap.size, 3, none⟩ = some (.int .i64 (tn : Nat)) ∧ x.cell? ⟨w1.heap.size, 4, none⟩ = some (.int .i64 (on : Nat)) ∧ x.cell? ⟨w1.heap.size, 5, none⟩ = some (.slice da dl dc) ∧ x.cell? ⟨w1.heap.size, 6, none⟩ = some (.slice (some ⟨wb, wo, none⟩) yn wc) ∧ x.cell? ⟨w1.heap.size, 7, none⟩ = some (.int .i64 0) ∧ x.cell? ⟨w1.heap.size, 8, none⟩ = some (.int .i64 (tn : Nat)) ∧ x.cell? ⟨w1.heap.size, 9, none⟩ = some (.slice (some ⟨wb, wo + yn, none⟩) (wl - yn) (wc - yn)) ∧ x.cell? ⟨w1.heap.size, 10, none⟩ = some (.int .i64 (yn : Nat)) ∧ x.cell? ⟨w1.heap.size, 11, none⟩ = some (.int .i64 (ou : Nat)) ∧ x.cell? ⟨w1.heap.size, 12, none⟩ = some (.slice ta tl tc) ∧ x.cell? ⟨w2.heap.size, 0, none⟩ = some (.int .i64 v) ∧ x.cell? ⟨w2.heap.size, 1, none⟩ = some (.int .i64 c0) ∧ x.cell? ⟨w2.heap.size, 2, none⟩ = some (.slice ya yl yc)) := fun x hx => ⟨(boxG (XA.out x hx) 0).1, (boxG (XA.out x hx) 1).1, (boxG (XA.out x hx) 2).1, (boxG (XA.out x hx) 3).1, (boxG (XA.out x hx) 4).1, (boxG (XA.out x hx) 5).1, (boxG (XA.out x hx) 6).1, (boxG (XA.out x hx) 7).1, (boxG (XA.out x hx) 8).1, (boxG (XA.out x hx) 9).1, (boxG (XA.out x hx) 10).1, (boxG (XA.out x hx) 11).1, (boxG (XA.out x hx) 12).1, (boxG (XT.out x hx) 0).1, (boxG (XT.out x hx) 1).1, (boxG (XT.out x hx) 2).1⟩
  refine wp_region_held_drew (S := fun x => x.cell? ⟨w1.heap.size, 0, none⟩ = some (.slice ca cn cc) ∧ x.cell? ⟨w1.heap.size, 1, none⟩ = some (.slice (some ⟨wb, wo, none⟩) wl wc) ∧ x.cell? ⟨w1.heap.size, 2, none⟩ = some (.int .i64 (yn : Nat)) ∧ x.cell? ⟨w1.heap.size, 3, none⟩ = some (.int .i64 (tn : Nat)) ∧ x.cell? ⟨w1.heap.size, 4, none⟩ = some (.int .i64 (on : Nat)) ∧ x.cell? ⟨w1.heap.size, 5, none⟩ = some (.slice da dl dc) ∧ x.cell? ⟨w1.heap.size, 6, none⟩ = some (.slice (some ⟨wb, wo, none⟩) yn wc) ∧ x.cell? ⟨w1.heap.size, 7, none⟩ = some (.int .i64 0) ∧ x.cell? ⟨w1.heap.size, 8, none⟩ = some (.int .i64 (tn : Nat)) ∧ x.cell? ⟨w1.heap.size, 9, none⟩ = some (.slice (some ⟨wb, wo + yn, none⟩) (wl - yn) (wc - yn)) ∧ x.cell? ⟨w1.heap.size, 10, none⟩ = some (.int .i64 (yn : Nat)) ∧ x.cell? ⟨w1.heap.size, 11, none⟩ = some (.int .i64 (ou : Nat)) ∧ x.cell? ⟨w1.heap.size, 12, none⟩ = some (.slice ta tl tc) ∧ x.cell? ⟨w2.heap.size, 0, none⟩ = some (.int .i64 v) ∧ x.cell? ⟨w2.heap.size, 1, none⟩ = some (.int .i64 c0) ∧ x.cell? ⟨w2.heap.size, 2, none⟩ = some (.slice ya yl yc)) (by kernel_rfl) ?_ (fun hHeld => ?_)
  · exact KS.out _ (bdrew bR)
  refine tV 0 (v := ?_) rfl (by kernel_rfl) (fun _ _ _ h => h) ?_ (by assumption) ?_
  rotate_left 1
  · (intro x hSx; (try dsimp only at hSx); go_simp; try with_reducible rfl)
  try simp only [Act.put, List.getElem_toArray, List.getElem_cons_zero, List.setIfInBounds_toArray, List.set_cons_zero, List.set_cons_succ]
  refine tV 1 (v := ?_) rfl (by kernel_rfl) (fun _ _ _ h => h) ?_ (by assumption) ?_
  rotate_left 1
  · (intro x hSx; (try dsimp only at hSx); go_simp; try with_reducible rfl)
  try simp only [Act.put, List.getElem_toArray, List.getElem_cons_zero, List.getElem_cons_succ, List.setIfInBounds_toArray, List.set_cons_zero, List.set_cons_succ]
  refine tV 2 (v := ?_) rfl (by kernel_rfl) (fun _ _ _ h => h) ?_ (by assumption) ?_
  rotate_left 1
  · (intro x hSx; (try dsimp only at hSx); go_simp; try with_reducible rfl)
  try simp only [Act.put, List.getElem_toArray, List.getElem_cons_zero, List.getElem_cons_succ, List.setIfInBounds_toArray, List.set_cons_zero, List.set_cons_succ]
  refine tV 3 (v := ?_) rfl (by kernel_rfl) (fun _ _ _ h => h) ?_ (by assumption) ?_
  rotate_left 1
  · (intro x hSx; (try dsimp only at hSx); go_simp; try with_reducible rfl)
  try simp only [Act.put, List.getElem_toArray, List.getElem_cons_zero, List.getElem_cons_succ, List.setIfInBounds_toArray, List.set_cons_zero, List.set_cons_succ]
  refine tV 4 (v := ?_) rfl (by kernel_rfl) (fun _ _ _ h => h) ?_ (by assumption) ?_
  rotate_left 1
  · (intro x hSx; (try dsimp only at hSx); go_simp; try with_reducible rfl)
  try simp only [Act.put, List.getElem_toArray, List.getElem_cons_zero, List.getElem_cons_succ, List.setIfInBounds_toArray, List.set_cons_zero, List.set_cons_succ]
  refine tV 5 (v := ?_) rfl (by kernel_rfl) (fun _ _ _ h => h) ?_ (by assumption) ?_
  rotate_left 1
  · (intro x hSx; (try dsimp only at hSx); go_simp; try with_reducible rfl)
  try simp only [Act.put, List.getElem_toArray, List.getElem_cons_zero, List.getElem_cons_succ, List.setIfInBounds_toArray, List.set_cons_zero, List.set_cons_succ]
  refine tV 6 (v := ?_) rfl (by kernel_rfl) (fun _ _ _ h => h) ?_ (by assumption) ?_
  rotate_left 1
  · (intro x hSx; (try dsimp only at hSx); go_simp; try with_reducible rfl)
  try simp only [Act.put, List.getElem_toArray, List.getElem_cons_zero, List.getElem_cons_succ, List.setIfInBounds_toArray, List.set_cons_zero, List.set_cons_succ]
  refine tV 7 (v := ?_) rfl (by kernel_rfl) (fun _ _ _ h => h) ?_ (by assumption) ?_
  rotate_left 1
  · (intro x hSx; (try dsimp only at hSx); go_simp; try with_reducible rfl)
  try simp only [Act.put, List.getElem_toArray, List.getElem_cons_zero, List.getElem_cons_succ, List.setIfInBounds_toArray, List.set_cons_zero, List.set_cons_succ]
  refine wpAnyH_ready (rs := [8]) (by kernel_rfl) (by simp) ?_
  refine AllReadyH.cons rfl (fun K hK => ?_) AllReadyH.nil
  go_simp
  go_at_call 83
  refine (placeImpl' k yl q0 hq0 _).mono ?_
  rintro e w9 ⟨rfl, rfl⟩
  go_wp2_with fail
  refine hK.out _ _ (KS.out _ (bdrew bR)) (fun hHeld2 => ?_)
  clear hK K
  try simp only [Act.put, List.getElem_toArray, List.getElem_cons_zero, List.getElem_cons_succ, List.setIfInBounds_toArray, List.set_cons_zero, List.set_cons_succ]
  refine tV 9 (v := ?_) rfl (by kernel_rfl) (fun _ _ _ h => h) ?_ (by assumption) ?_
  rotate_left 1
  · (intro x hSx; (try dsimp only at hSx); go_simp; try with_reducible rfl)
  try simp only [Act.put, List.getElem_toArray, List.getElem_cons_zero, List.getElem_cons_succ, List.setIfInBounds_toArray, List.set_cons_zero, List.set_cons_succ]
  refine wpAnyH_ready (rs := [10]) (by kernel_rfl) (by simp) ?_
  refine AllReadyH.cons rfl (fun K hK => ?_) AllReadyH.nil
  obtain ⟨kR0, kR1, kR2, kR3, kR4, kR5, kR6, kR7, kR8, kR9, kR10, kR11, kR12⟩ := bk13 (XR.out w2g bR)
  obtain ⟨qkR0, qkR1, qkR2, qkR3, qkR4, qkR5, qkR6, qkR7, qkR8, qkR9, qkR10, qkR11, qkR12⟩ := bq13 (XR.out w2g bR)
  go_simp
  clear kR0 kR1 kR2 kR3 kR4 kR5 kR6 kR7 kR8 kR9 kR10 kR11 kR12 qkR0 qkR1 qkR2 qkR3 qkR4 qkR5 qkR6 qkR7 qkR8 qkR9 qkR10 qkR11 qkR12
  generalize hW : (((((((((((((w2g.setCell ⟨w.heap.size + 1, 0, none⟩ (.slice ca cn cc)).setCell ⟨w.heap.size + 1, 1, none⟩ (.slice (some ⟨wb, wo, none⟩) wl wc)).setCell ⟨w.heap.size + 1, 2, none⟩ (.int .i64 (yn : Nat))).setCell ⟨w.heap.size + 1, 3, none⟩ (.int .i64 (tn : Nat))).setCell ⟨w.heap.size + 1, 4, none⟩ (.int .i64 (on : Nat))).setCell ⟨w.heap.size + 1, 5, none⟩ (.slice da dl dc)).setCell ⟨w.heap.size + 1, 6, none⟩ (.slice (some ⟨wb, wo, none⟩) yn wc)).setCell ⟨w.heap.size + 1, 7, none⟩ (.int .i64 0)).setCell ⟨w.heap.size + 1, 8, none⟩ (.int .i64 (tn : Nat))).setCell ⟨w.heap.size + 1, 9, none⟩ (.slice (some ⟨wb, wo + yn, none⟩) (wl - yn) (wc - yn))).setCell ⟨w.heap.size + 1, 10, none⟩ (.int .i64 (yn : Nat))).setCell ⟨w.heap.size + 1, 11, none⟩ (.int .i64 (ou : Nat))).setCell ⟨w.heap.size + 1, 12, none⟩ (.slice ta tl tc)) = wB1
  have hkB : ∀ a, a ≠ w.heap.size + 1 → wB1.heap[a]? = w2g.heap[a]? := by subst hW; exact fun a h => keep13 h
  have hsB : wB1.heap.size = w2g.heap.size := by subst hW; simp
  have hw0 : w.heap.size ≤ w.heap.size + 1 := (by first | omega | (simp; done) | (simp; omega) | (simp at *; omega))
  replace XS := Proofs.YtjbmcdekhhbiaaaGreat.lS XS lS wB1 (hkB _ (by first | omega | (simp; done) | (simp; omega)))
  replace XA := Proofs.YtjbmcdekhhbiaaaGreat.lS XA lA wB1 (hkB _ (by first | omega | (simp; done) | (simp; omega)))
  replace XT := Proofs.YtjbmcdekhhbiaaaGreat.lS XT lT wB1 (hkB _ (by first | omega | (simp; done) | (simp; omega)))
  replace XR : Hid (∀ y, Below (w2g.heap.size) wB1 y → y.heap[w.heap.size + 1]? = some (.cells #[.slice ca cn cc, .slice (some ⟨wb, wo, none⟩) wl wc, .int .i64 (yn : Nat), .int .i64 (tn : Nat), .int .i64 (on : Nat), .slice da dl dc, .slice (some ⟨wb, wo, none⟩) yn wc, .int .i64 0, .int .i64 (tn : Nat), .slice (some ⟨wb, wo + yn, none⟩) (wl - yn) (wc - yn), .int .i64 (yn : Nat), .int .i64 (ou : Nat), .slice ta tl tc] 65 (0, 0))) := fun y hy => by subst hW; exact (hy.block _ (by omega)).trans (box13 (XR.out w2g bR) rfl _ _ _ _ _ _ _ _ _ _ _ _ _)
  replace RW : Hid (∀ y, Below (w2g.heap.size) wB1 y → ThRow (fun b => w.heap.size + 1 + 1 + 1 ≤ b ∧ b < w1.heap.size) y (.slice ta tl tc) T) := fun y hy => by subst hW; exact ((((((((((((((RW.out w2g (bR)).box _ _ nR).box _ _ nR).box _ _ nR).box _ _ nR).box _ _ nR).box _ _ nR).box _ _ nR).box _ _ nR).box _ _ nR).box _ _ nR).box _ _ nR).box _ _ nR).box _ _ nR).later (hy.mono (by simp))
  replace YW : Hid (∀ y, Below (w2g.heap.size) wB1 y → IntsAt (fun b => w.heap.size + 1 + 1 + 1 ≤ b ∧ b < w1.heap.size) y ya yl ty) := fun y hy => by subst hW; exact ((((((((((((((YW.out w2g (bR)).set _ _ nR).set _ _ nR).set _ _ nR).set _ _ nR).set _ _ nR).set _ _ nR).set _ _ nR).set _ _ nR).set _ _ nR).set _ _ nR).set _ _ nR).set _ _ nR).set _ _ nR).later (hy.mono (by simp))
  clear KS
  replace B : Hid (∀ y, Below (w2g.heap.size) wB1 y → Below w.heap.size w y) := fun y hy => by subst hW; exact ((((((((((((((B.out w2g bR).setCell hw0 _).setCell hw0 _).setCell hw0 _).setCell hw0 _).setCell hw0 _).setCell hw0 _).setCell hw0 _).setCell hw0 _).setCell hw0 _).setCell hw0 _).setCell hw0 _).setCell hw0 _).setCell hw0 _).trans (hy.mono (by first | omega | exact Nat.le_trans (B.out w2g bR).size hz | (have := (B.out w2g bR).size; omega)))
  replace hz : w2g.heap.size ≤ wB1.heap.size := by subst hW; first | (simp; done) | simpa using hz
  clear hw0 hW hkB
  have KS : Hid (∀ x, Below (w2g.heap.size) wB1 x → x.cell? ⟨w1.heap.size, 0, none⟩ = some (.slice ca cn cc) ∧ x.cell? ⟨w1.heap.size, 1, none⟩ = some (.slice (some ⟨wb, wo, none⟩) wl wc) ∧ x.cell? ⟨w1.heap.size, 2, none⟩ = some (.int .i64 (yn : Nat)) ∧ x.cell? ⟨w1.heap.size, 3, none⟩ = some (.int .i64 (tn : Nat)) ∧ x.cell? ⟨w1.heap.size, 4, none⟩ = some (.int .i64 (on : Nat)) ∧ x.cell? ⟨w1.heap.size, 5, none⟩ = some (.slice da dl dc) ∧ x.cell? ⟨w1.heap.size, 6, none⟩ = some (.slice (some ⟨wb, wo, none⟩) yn wc) ∧ x.cell? ⟨w1.heap.size, 7, none⟩ = some (.int .i64 0) ∧ x.cell? ⟨w1.heap.size, 8, none⟩ = some (.int .i64 (tn : Nat)) ∧ x.cell? ⟨w1.heap.size, 9, none⟩ = some (.slice (some ⟨wb, wo + yn, none⟩) (wl - yn) (wc - yn)) ∧ x.cell? ⟨w1.heap.size, 10, none⟩ = some (.int .i64 (yn : Nat)) ∧ x.cell? ⟨w1.heap.size, 11, none⟩ = some (.int .i64 (ou : Nat)) ∧ x.cell? ⟨w1.heap.size, 12, none⟩ = some (.slice ta tl tc) ∧ x.cell? ⟨w2.heap.size, 0, none⟩ = some (.int .i64 v) ∧ x.cell? ⟨w2.heap.size, 1, none⟩ = some (.int .i64 c0) ∧ x.cell? ⟨w2.heap.size, 2, none⟩ = some (.slice ya yl yc)) := fun x hx => ⟨(boxG (XA.out x hx) 0).1, (boxG (XA.out x hx) 1).1, (boxG (XA.out x hx) 2).1, (boxG (XA.out x hx) 3).1, (boxG (XA.out x hx) 4).1, (boxG (XA.out x hx) 5).1, (boxG (XA.out x hx) 6).1, (boxG (XA.out x hx) 7).1, (boxG (XA.out x hx) 8).1, (boxG (XA.out x hx) 9).1, (boxG (XA.out x hx) 10).1, (boxG (XA.out x hx) 11).1, (boxG (XA.out x hx) 12).1, (boxG (XT.out x hx) 0).1, (boxG (XT.out x hx) 1).1, (boxG (XT.out x hx) 2).1⟩
  refine hK.out _ _ (KS.out _ (bdrew bR)) (fun hHeld3 => ?_)
  clear hK K
  try simp only [Act.put, List.getElem_toArray, List.getElem_cons_zero, List.getElem_cons_succ, List.setIfInBounds_toArray, List.set_cons_zero, List.set_cons_succ]
  refine wpAnyH_ready (rs := [11]) (by kernel_rfl) (by simp) ?_
  refine AllReadyH.cons rfl (fun K hK => ?_) AllReadyH.nil
  obtain ⟨kS0, kS1, kS2⟩ := bk3 (XS.out wB1 bR)
  obtain ⟨qkS0, qkS1, qkS2⟩ := bq3 (XS.out wB1 bR)
  go_simp
  clear kS0 kS1 kS2 qkS0 qkS1 qkS2
  have hw0 : w.heap.size ≤ w.heap.size + 1 + 1 := (by first | omega | (simp; done) | (simp; omega) | (simp at *; omega))
  replace XR := Proofs.YtjbmcdekhhbiaaaGreat.lS XR lR ((((wB1.setCell ⟨w.heap.size + 1 + 1, 0, none⟩ (.int .i64 v)).setCell ⟨w.heap.size + 1 + 1, 1, none⟩ (.int .i64 c0)).setCell ⟨w.heap.size + 1 + 1, 2, none⟩ (.slice ya yl yc))) ((Below.heap_setCell _ _ _ _ (by first | omega | (simp; done) | (simp; omega))).trans ((Below.heap_setCell _ _ _ _ (by first | omega | (simp; done) | (simp; omega))).trans ((Below.heap_setCell _ _ _ _ (by first | omega | (simp; done) | (simp; omega))))))
  replace XA := Proofs.YtjbmcdekhhbiaaaGreat.lS XA lA ((((wB1.setCell ⟨w.heap.size + 1 + 1, 0, none⟩ (.int .i64 v)).setCell ⟨w.heap.size + 1 + 1, 1, none⟩ (.int .i64 c0)).setCell ⟨w.heap.size + 1 + 1, 2, none⟩ (.slice ya yl yc))) ((Below.heap_setCell _ _ _ _ (by first | omega | (simp; done) | (simp; omega))).trans ((Below.heap_setCell _ _ _ _ (by first | omega | (simp; done) | (simp; omega))).trans ((Below.heap_setCell _ _ _ _ (by first | omega | (simp; done) | (simp; omega))))))
  replace XT := Proofs.YtjbmcdekhhbiaaaGreat.lS XT lT ((((wB1.setCell ⟨w.heap.size + 1 + 1, 0, none⟩ (.int .i64 v)).setCell ⟨w.heap.size + 1 + 1, 1, none⟩ (.int .i64 c0)).setCell ⟨w.heap.size + 1 + 1, 2, none⟩ (.slice ya yl yc))) ((Below.heap_setCell _ _ _ _ (by first | omega | (simp; done) | (simp; omega))).trans ((Below.heap_setCell _ _ _ _ (by first | omega | (simp; done) | (simp; omega))).trans ((Below.heap_setCell _ _ _ _ (by first | omega | (simp; done) | (simp; omega))))))
  replace XS : Hid (∀ y, Below (w2g.heap.size) (((wB1.setCell ⟨w.heap.size + 1 + 1, 0, none⟩ (.int .i64 v)).setCell ⟨w.heap.size + 1 + 1, 1, none⟩ (.int .i64 c0)).setCell ⟨w.heap.size + 1 + 1, 2, none⟩ (.slice ya yl yc)) y → y.heap[w.heap.size + 1 + 1]? = some (.cells #[.int .i64 v, .int .i64 c0, .slice ya yl yc] 69 (0, 0))) := fun y hy => (hy.block _ (by omega)).trans (boxS (boxS (boxS (XS.out wB1 bR) 0 _) 1 _) 2 _)
  replace RW : Hid (∀ y, Below (w2g.heap.size) (((wB1.setCell ⟨w.heap.size + 1 + 1, 0, none⟩ (.int .i64 v)).setCell ⟨w.heap.size + 1 + 1, 1, none⟩ (.int .i64 c0)).setCell ⟨w.heap.size + 1 + 1, 2, none⟩ (.slice ya yl yc)) y → ThRow (fun b => w.heap.size + 1 + 1 + 1 ≤ b ∧ b < w1.heap.size) y (.slice ta tl tc) T) := fun y hy => ((((RW.out wB1 (bR)).box _ _ nS).box _ _ nS).box _ _ nS).later (hy.mono (by first | (simp; done) | (simp; omega)))
  replace YW : Hid (∀ y, Below (w2g.heap.size) (((wB1.setCell ⟨w.heap.size + 1 + 1, 0, none⟩ (.int .i64 v)).setCell ⟨w.heap.size + 1 + 1, 1, none⟩ (.int .i64 c0)).setCell ⟨w.heap.size + 1 + 1, 2, none⟩ (.slice ya yl yc)) y → IntsAt (fun b => w.heap.size + 1 + 1 + 1 ≤ b ∧ b < w1.heap.size) y ya yl ty) := fun y hy => ((((YW.out wB1 (bR)).set _ _ nS).set _ _ nS).set _ _ nS).later (hy.mono (by first | (simp; done) | (simp; omega)))
  clear KS
  replace B : Hid (∀ y, Below (w2g.heap.size) (((wB1.setCell ⟨w.heap.size + 1 + 1, 0, none⟩ (.int .i64 v)).setCell ⟨w.heap.size + 1 + 1, 1, none⟩ (.int .i64 c0)).setCell ⟨w.heap.size + 1 + 1, 2, none⟩ (.slice ya yl yc)) y → Below w.heap.size w y) := fun y hy => ((((B.out wB1 bR).setCell hw0 _).setCell hw0 _).setCell hw0 _).trans (hy.mono (by first | omega | exact Nat.le_trans (B.out wB1 bR).size hz | (have := (B.out wB1 bR).size; omega)))
  replace hz : w2g.heap.size ≤ (((wB1.setCell ⟨w.heap.size + 1 + 1, 0, none⟩ (.int .i64 v)).setCell ⟨w.heap.size + 1 + 1, 1, none⟩ (.int .i64 c0)).setCell ⟨w.heap.size + 1 + 1, 2, none⟩ (.slice ya yl yc)).heap.size := by first | (simp; done) | simpa using hz
  clear hw0
  have KS : Hid (∀ x, Below (w2g.heap.size) (((wB1.setCell ⟨w.heap.size + 1 + 1, 0, none⟩ (.int .i64 v)).setCell ⟨w.heap.size + 1 + 1, 1, none⟩ (.int .i64 c0)).setCell ⟨w.heap.size + 1 + 1, 2, none⟩ (.slice ya yl yc)) x → x.cell? ⟨w1.heap.size, 0, none⟩ = some (.slice ca cn cc) ∧ x.cell? ⟨w1.heap.size, 1, none⟩ = some (.slice (some ⟨wb, wo, none⟩) wl wc) ∧ x.cell? ⟨w1.heap.size, 2, none⟩ = some (.int .i64 (yn : Nat)) ∧ x.cell? ⟨w1.heap.size, 3, none⟩ = some (.int .i64 (tn : Nat)) ∧ x.cell? ⟨w1.heap.size, 4, none⟩ = some (.int .i64 (on : Nat)) ∧ x.cell? ⟨w1.heap.size, 5, none⟩ = some (.slice da dl dc) ∧ x.cell? ⟨w1.heap.size, 6, none⟩ = some (.slice (some ⟨wb, wo, none⟩) yn wc) ∧ x.cell? ⟨w1.heap.size, 7, none⟩ = some (.int .i64 0) ∧ x.cell? ⟨w1.heap.size, 8, none⟩ = some (.int .i64 (tn : Nat)) ∧ x.cell? ⟨w1.heap.size, 9, none⟩ = some (.slice (some ⟨wb, wo + yn, none⟩) (wl - yn) (wc - yn)) ∧ x.cell? ⟨w1.heap.size, 10, none⟩ = some (.int .i64 (yn : Nat)) ∧ x.cell? ⟨w1.heap.size, 11, none⟩ = some (.int .i64 (ou : Nat)) ∧ x.cell? ⟨w1.heap.size, 12, none⟩ = some (.slice ta tl tc) ∧ x.cell? ⟨w2.heap.size, 0, none⟩ = some (.int .i64 v) ∧ x.cell? ⟨w2.heap.size, 1, none⟩ = some (.int .i64 c0) ∧ x.cell? ⟨w2.heap.size, 2, none⟩ = some (.slice ya yl yc)) := fun x hx => ⟨(boxG (XA.out x hx) 0).1, (boxG (XA.out x hx) 1).1, (boxG (XA.out x hx) 2).1, (boxG (XA.out x hx) 3).1, (boxG (XA.out x hx) 4).1, (boxG (XA.out x hx) 5).1, (boxG (XA.out x hx) 6).1, (boxG (XA.out x hx) 7).1, (boxG (XA.out x hx) 8).1, (boxG (XA.out x hx) 9).1, (boxG (XA.out x hx) 10).1, (boxG (XA.out x hx) 11).1, (boxG (XA.out x hx) 12).1, (boxG (XT.out x hx) 0).1, (boxG (XT.out x hx) 1).1, (boxG (XT.out x hx) 2).1⟩
  refine hK.out _ _ (KS.out _ (bdrew bR)) (fun hHeld4 => ?_)
  clear hK K
  try simp only [Act.put, List.getElem_toArray, List.getElem_cons_zero, List.getElem_cons_succ, List.setIfInBounds_toArray, List.set_cons_zero, List.set_cons_succ]
  refine tV 12 (v := ?_) rfl (by kernel_rfl) (fun _ _ _ h => h) ?_ (by assumption) ?_
  rotate_left 1
  · (intro x hSx; (try dsimp only at hSx); go_simp; try with_reducible rfl)
  try simp only [Act.put, List.getElem_toArray, List.getElem_cons_zero, List.getElem_cons_succ, List.setIfInBounds_toArray, List.set_cons_zero, List.set_cons_succ]
  refine wpAnyH_done (by kernel_rfl) ?_ _
  clear hHeld hHeld2 hHeld3 hHeld4
  clear KS
  replace B := lD B
  replace RW := lD RW
  replace YW := lD YW
  replace XR := lD XR
  replace XS := lD XS
  replace XA := lD XA
  replace XT := lD XT
  replace hz : w2g.heap.size ≤ ((((wB1.setCell ⟨w.heap.size + 1 + 1, 0, none⟩ (.int .i64 v)).setCell ⟨w.heap.size + 1 + 1, 1, none⟩ (.int .i64 c0)).setCell ⟨w.heap.size + 1 + 1, 2, none⟩ (.slice ya yl yc)).drew).heap.size := Nat.le_trans hz (Below.size (bdrew (Below.refl (w2g.heap.size) (((wB1.setCell ⟨w.heap.size + 1 + 1, 0, none⟩ (.int .i64 v)).setCell ⟨w.heap.size + 1 + 1, 1, none⟩ (.int .i64 c0)).setCell ⟨w.heap.size + 1 + 1, 2, none⟩ (.slice ya yl yc)))))
  have BF : Hid (Below w.heap.size w (((((wB1.setCell ⟨w.heap.size + 1 + 1, 0, none⟩ (.int .i64 v)).setCell ⟨w.heap.size + 1 + 1, 1, none⟩ (.int .i64 c0)).setCell ⟨w.heap.size + 1 + 1, 2, none⟩ (.slice ya yl yc)).drew))) := B.out _ (bR)
  have RF : Hid (ThRow (fun b => w.heap.size ≤ b) (((((wB1.setCell ⟨w.heap.size + 1 + 1, 0, none⟩ (.int .i64 v)).setCell ⟨w.heap.size + 1 + 1, 1, none⟩ (.int .i64 c0)).setCell ⟨w.heap.size + 1 + 1, 2, none⟩ (.slice ya yl yc)).drew)) (.slice ta tl tc) T) := ThRow.mono (RW.out _ (bR)) (fun b hb _ => by have h1 := hb.1; omega)
  have YF : Hid (IntsAt (fun b => w.heap.size ≤ b) (((((wB1.setCell ⟨w.heap.size + 1 + 1, 0, none⟩ (.int .i64 v)).setCell ⟨w.heap.size + 1 + 1, 1, none⟩ (.int .i64 c0)).setCell ⟨w.heap.size + 1 + 1, 2, none⟩ (.slice ya yl yc)).drew)) ya yl ty) := IntsAt.mono (YW.out _ (bR)) (fun b hb _ => by have h1 := hb.1; omega)
  have XC : Hid ((((((wB1.setCell ⟨w.heap.size + 1 + 1, 0, none⟩ (.int .i64 v)).setCell ⟨w.heap.size + 1 + 1, 1, none⟩ (.int .i64 c0)).setCell ⟨w.heap.size + 1 + 1, 2, none⟩ (.slice ya yl yc)).drew)).heap[w.heap.size + 1]? = some (.cells #[.slice ca cn cc, .slice (some ⟨wb, wo, none⟩) wl wc, .int .i64 (yn : Nat), .int .i64 (tn : Nat), .int .i64 (on : Nat), .slice da dl dc, .slice (some ⟨wb, wo, none⟩) yn wc, .int .i64 0, .int .i64 (tn : Nat), .slice (some ⟨wb, wo + yn, none⟩) (wl - yn) (wc - yn), .int .i64 (yn : Nat), .int .i64 (ou : Nat), .slice ta tl tc] 65 (0, 0))) := XR.out _ (bR)
  have XD : Hid ((((((wB1.setCell ⟨w.heap.size + 1 + 1, 0, none⟩ (.int .i64 v)).setCell ⟨w.heap.size + 1 + 1, 1, none⟩ (.int .i64 c0)).setCell ⟨w.heap.size + 1 + 1, 2, none⟩ (.slice ya yl yc)).drew)).heap[w.heap.size + 1 + 1]? = some (.cells #[.int .i64 v, .int .i64 c0, .slice ya yl yc] 69 (0, 0))) := XS.out _ (bR)
  clear B RW YW XR XS XA XT hz
  generalize ((((wB1.setCell ⟨w.heap.size + 1 + 1, 0, none⟩ (.int .i64 v)).setCell ⟨w.heap.size + 1 + 1, 1, none⟩ (.int .i64 c0)).setCell ⟨w.heap.size + 1 + 1, 2, none⟩ (.slice ya yl yc)).drew) = wF at RF YF BF XC XD ⊢
  have kXC0 : wF.cell? ⟨w.heap.size + 1, 0, none⟩ = some (.slice ca cn cc) := (boxG XC.out 0).1
  have kXC1 : wF.cell? ⟨w.heap.size + 1, 1, none⟩ = some (.slice (some ⟨wb, wo, none⟩) wl wc) := (boxG XC.out 1).1
  have kXC2 : wF.cell? ⟨w.heap.size + 1, 2, none⟩ = some (.int .i64 (yn : Nat)) := (boxG XC.out 2).1
  have kXC3 : wF.cell? ⟨w.heap.size + 1, 3, none⟩ = some (.int .i64 (tn : Nat)) := (boxG XC.out 3).1
  have kXC4 : wF.cell? ⟨w.heap.size + 1, 4, none⟩ = some (.int .i64 (on : Nat)) := (boxG XC.out 4).1
  have kXC5 : wF.cell? ⟨w.heap.size + 1, 5, none⟩ = some (.slice da dl dc) := (boxG XC.out 5).1
  have kXC6 : wF.cell? ⟨w.heap.size + 1, 6, none⟩ = some (.slice (some ⟨wb, wo, none⟩) yn wc) := (boxG XC.out 6).1
  have kXC7 : wF.cell? ⟨w.heap.size + 1, 7, none⟩ = some (.int .i64 0) := (boxG XC.out 7).1
  have kXC8 : wF.cell? ⟨w.heap.size + 1, 8, none⟩ = some (.int .i64 (tn : Nat)) := (boxG XC.out 8).1
  have kXC9 : wF.cell? ⟨w.heap.size + 1, 9, none⟩ = some (.slice (some ⟨wb, wo + yn, none⟩) (wl - yn) (wc - yn)) := (boxG XC.out 9).1
  have kXC10 : wF.cell? ⟨w.heap.size + 1, 10, none⟩ = some (.int .i64 (yn : Nat)) := (boxG XC.out 10).1
  have kXC11 : wF.cell? ⟨w.heap.size + 1, 11, none⟩ = some (.int .i64 (ou : Nat)) := (boxG XC.out 11).1
  have kXC12 : wF.cell? ⟨w.heap.size + 1, 12, none⟩ = some (.slice ta tl tc) := (boxG XC.out 12).1
  have kXD0 : wF.cell? ⟨w.heap.size + 1 + 1, 0, none⟩ = some (.int .i64 v) := (boxG XD.out 0).1
  have kXD1 : wF.cell? ⟨w.heap.size + 1 + 1, 1, none⟩ = some (.int .i64 c0) := (boxG XD.out 1).1
  have kXD2 : wF.cell? ⟨w.heap.size + 1 + 1, 2, none⟩ = some (.slice ya yl yc) := (boxG XD.out 2).1
  rename_i K0 hK0
  refine hK0 _ _ (wp_ret ?_)
  refine bodyPost_ret (v := .tuple #[.agg #[.slice ca cn cc, .slice (some ⟨wb, wo, none⟩) wl wc, .int .i64 (yn : Nat), .int .i64 (tn : Nat), .int .i64 (on : Nat), .slice da dl dc, .slice (some ⟨wb, wo, none⟩) yn wc, .int .i64 0, .int .i64 (tn : Nat), .slice (some ⟨wb, wo + yn, none⟩) (wl - yn) (wc - yn), .int .i64 (yn : Nat), .int .i64 (ou : Nat), .slice ta tl tc], .agg #[.int .i64 v, .int .i64 c0, .slice ya yl yc], .bool q0]) ?_ rfl ?_
  · simp [results, Tryz.results51, go_sem, kXC0, kXC1, kXC2, kXC3, kXC4, kXC5, kXC6, kXC7, kXC8, kXC9, kXC10, kXC11, kXC12, kXD0, kXD1, kXD2]
  · refine ⟨?_, ?_, BF.out⟩
    · intro h
      rw [GT.out] at h
      subst h
      exact ⟨_, _, _, _, _, _, _, _, _, _, _, _, _, _, _, _, _, _, _, _, _, _, _, _, _, _, _, _, _, _, rfl⟩
    · intro h
      rw [GT.out] at h
      subst h
      rw [HT.out]
      exact ⟨wb, wo, yn, tn, on, ou, ta, tl, tc, c0, ty, ya, yl, yc, rfl, rfl, rfl, rfl, OUE.out.symm, HM.out, HI.out, rfl, TLE.out.symm, RF.out, EA.out, YF.out⟩

end Go.Proofs.YtjbmcdekhhbiaaaGreat
