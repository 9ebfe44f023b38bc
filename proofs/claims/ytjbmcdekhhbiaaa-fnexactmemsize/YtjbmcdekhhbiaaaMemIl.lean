/-
  What is in things, by the program: what it says; it writes nothing that was there.
-/
import Derived.Test.YtjbmcdekhhbiaaaMemIk
import Derived.Test.YtjbmcdekhhbiaaaMemSh
namespace Go.Proofs.Ytjbmcdekhhbiaaa
open Go.ChangeShapes Go.WideShapes Go.ChangeAt Go.RowKit
set_option linter.unusedVariables false

theorem atT_of {T : List Th} (hi : Inc T) {j : Nat} {t : Th} (h : T[j]? = some t) : atT T t.1 = t := by
  have ha : isAt T t.1 = true := isAt_iff.2 ⟨t, List.mem_of_getElem? h, rfl⟩
  obtain ⟨hm, hv⟩ := atT_mem ha
  obtain ⟨i, hi0⟩ := List.getElem?_of_mem hm
  rcases Nat.lt_trichotomy i j with h1 | h1 | h1
  · have := hi i j _ _ hi0 h h1; omega
  · subst h1; rw [h] at hi0; exact (Option.some.inj hi0).symm
  · have := hi j i _ _ h hi0 h1; omega
set_option maxRecDepth 100000 in
set_option maxHeartbeats 4000000 in
theorem sizeOfImpl (ca : Option Addr) (cn cc : Nat) (wa : Option Addr) (wl wc : Nat) (yg tp od : Int) (da : Option Addr) (dl dc : Nat) (v : Int) (ws : List Int) (cd : List Bool) (L : List Cl) (w : World) {D E G G2 : Nat → Prop} (h : ClsAt D E w ca cn L) (hw : IntsAt G w wa wl ws) (hc : SlAt boolR G2 w da dl cd) (hyg : i64B yg) (hl : wl ≤ 1048576) (hd : dl ≤ 1048576) (hcap : wl ≤ wc) (hv : i64B v) : Calls Try.prog 27 #[.slice ca cn cc, .agg #[.slice wa wl wc, .int .i64 yg, .int .i64 tp, .int .i64 od, .slice da dl dc], .int .i64 v] w fun e w' => e = .returned (.int .i64 (sizV L (ws, yg, tp, od, cd) v)) ∧ Below w.heap.size w w' := by
  have H : Hid (ClsAt D E w ca cn L) := h
  have HW : Hid (IntsAt G w wa wl ws) := hw
  have HC : Hid (SlAt boolR G2 w da dl cd) := hc
  have WS : Hid (ws.length = wl) := hw.size
  have CS : Hid (cd.length = dl) := hc.size
  clear h hw hc
  have hz : w.heap.size + 1 ≤ (w.alloc (.cells #[.slice wa wl wc, .int .i64 yg, .int .i64 tp, .int .i64 od, .slice da dl dc] 25)).heap.size := by simp
  have B : Hid (∀ y, Below (w.heap.size + 1) (w.alloc (.cells #[.slice wa wl wc, .int .i64 yg, .int .i64 tp, .int .i64 od, .slice da dl dc] 25)) y → Below w.heap.size w y) := fun y hy => (bR.alloc (by first | exact Nat.le_refl _ | (simp; done) | (simp; omega)) _).trans (hy.mono (by omega))
  have XM : Hid (∀ y, Below (w.heap.size + 1) (w.alloc (.cells #[.slice wa wl wc, .int .i64 yg, .int .i64 tp, .int .i64 od, .slice da dl dc] 25)) y → y.heap[w.heap.size]? = some (.cells #[.slice wa wl wc, .int .i64 yg, .int .i64 tp, .int .i64 od, .slice da dl dc] 25 (0, 0))) := fun y hy => (hy.block _ (by omega)).trans (boxN _ _ _ _ (by simp))
  have lM : w.heap.size < w.heap.size + 1 := by omega
  go_enter Try.func27, Try.ntmps27
  go_wp2_with fail
  have BP : Hid (Below (w.heap.size + 1) (w.alloc (.cells #[.slice wa wl wc, .int .i64 yg, .int .i64 tp, .int .i64 od, .slice da dl dc] 25)) (w.alloc (.cells #[.slice wa wl wc, .int .i64 yg, .int .i64 tp, .int .i64 od, .slice da dl dc] 25))) := bR
  refine (memoryImpl _ _ _ _ _ _ yg tp od _ _ _ ws cd L _ (H.out.later (B.out _ BP.out)) (HW.out.later (B.out _ BP.out)) (HC.out.later (B.out _ BP.out)) hyg hl hd hcap).mono ?_
  rintro e w1 ⟨hno, hyes, hb⟩
  have hq : Below (w.heap.size + 1) (w.alloc (.cells #[.slice wa wl wc, .int .i64 yg, .int .i64 tp, .int .i64 od, .slice da dl dc] 25)) w1 := BP.out.trans (Below.mono hb (Nat.le_trans hz BP.out.size))
  have hzn : w.heap.size + 1 ≤ w1.heap.size := Nat.le_trans hz hq.size
  replace B := lF B hq hzn
  replace XM := lF XM hq hzn
  replace lM := Nat.lt_of_lt_of_le lM hzn
  clear hq BP hz
  have hz : w1.heap.size ≤ w1.heap.size := Nat.le_refl _
  clear hb
  cases hq : memB L (ws, yg, tp, od, cd)
  · obtain ⟨x0, y0, z0, x1, y1, z1, x2, x3, x4, x5, y5, z5, x6, y6, z6, x7, x8, x9, y9, z9, x10, x11, x12, y12, z12, rfl⟩ := hno hq
    clear hno hyes
    obtain ⟨kM0, kM1, kM2, kM3, kM4⟩ := bk5 (XM.out w1 bR)
    go_wp2_with fail
    go_ret
    exact ⟨by rw [sizV_no hq]; rfl, by first | exact B.out w1 (Below.refl _ _) | exact (B.out w1 (Below.refl _ _)).alloc (B.out w1 (Below.refl _ _)).size _⟩
  have hB0 := (memB_ok hq).1
  have HB0 : Hid (Bnd L (ws, yg, tp, od, cd)) := hB0
  obtain ⟨wb, wo, yn, tn, on, ta, tc, rfl, rfl, rfl, rfl, rfl, hrow⟩ := hyes hq
  obtain ⟨k0, k1, k2, k3, k4, _⟩ := hB0
  have OK : Hid (clsOk L = true) := k0
  simp only [WS.out] at k1 k2 k3 k4
  have m1 : tn ≤ yn := by omega
  have m2 : yn ≤ on := by omega
  have m3 : on ≤ wl := by omega
  have m4 : wl ≤ 200 := by omega
  have HM : Hid (memB L (ws, (yn : Int), (tn : Int), (on : Int), cd) = true) := hq
  have TL0 : (thT L (ws, (yn : Int), (tn : Int), (on : Int), cd)).length ≤ wl := by have := thT_len HB0.out; simp only [WS.out] at this; exact this
  have TOK0 : Hid (∀ t ∈ thT L (ws, (yn : Int), (tn : Int), (on : Int), cd), TOk L (ws, (yn : Int), (tn : Int), (on : Int), cd) t) := (thT_ok HB0.out).1
  have INC0 : Hid (Inc (thT L (ws, (yn : Int), (tn : Int), (on : Int), cd))) := (thT_ok HB0.out).2.inc
  obtain ⟨T, hT⟩ : ∃ T, thT L (ws, (yn : Int), (tn : Int), (on : Int), cd) = T := ⟨_, rfl⟩
  have HT : Hid (thT L (ws, (yn : Int), (tn : Int), (on : Int), cd) = T) := hT
  rw [hT] at hrow TL0 TOK0 INC0
  rw [hT]
  obtain ⟨tl, htl⟩ : ∃ tl, T.length = tl := ⟨_, rfl⟩
  have TLE : Hid (T.length = tl) := htl
  rw [htl] at hrow TL0
  rw [htl]
  obtain ⟨ou, hou⟩ : ∃ ou, on - yn = ou := ⟨_, rfl⟩
  have OUE : Hid (on - yn = ou) := hou
  rw [hou]
  have ROW0 : Hid (ThRow (fun b => w.heap.size + 1 ≤ b ∧ b < w1.heap.size) w1 (.slice ta tl tc) T) := ThRow.mono hrow (fun b hb hl => ⟨by simpa using hb, hl⟩)
  clear hno hyes hrow k0 k1 k2 k3 k4 hyg hq hT htl hou
  have RW : Hid (∀ y, Below (w1.heap.size) w1 y → ThRow (fun b => w.heap.size + 1 ≤ b ∧ b < w1.heap.size) y (.slice ta tl tc) T) := fun y hy => ROW0.out.later hy
  obtain ⟨kM0, kM1, kM2, kM3, kM4⟩ := bk5 (XM.out w1 bR)
  go_wp2_with fail
  clear kM0 kM1 kM2 kM3 kM4
  have BP : Hid (Below (w1.heap.size) w1 (w1.alloc (.cells #[.slice ca cn cc, .slice (some ⟨wb, wo, none⟩) wl wc, .int .i64 (yn : Nat), .int .i64 (tn : Nat), .int .i64 (on : Nat), .slice da dl dc, .slice (some ⟨wb, wo, none⟩) yn wc, .int .i64 0, .int .i64 (tn : Nat), .slice (some ⟨wb, wo + yn, none⟩) (wl - yn) (wc - yn), .int .i64 (yn : Nat), .int .i64 (ou : Nat), .slice ta tl tc] 69))) := (bR.alloc (by first | exact hz | (simp; done) | (simp; omega) | (have := hz; simp at this ⊢; omega)) _)
  refine (findImpl ca cn cc wb wo wl wc yn tn on da dl dc wc (wl - yn) (wc - yn) ou ta tl tc T v _ (fun b hb => Nat.lt_of_lt_of_le hb.2 BP.out.size) ((RW.out _ BP.out).sl TLE.out.symm (by omega)) INC0.out (by omega) hv).mono ?_
  rintro e w2 ⟨hfn, hfy, hb⟩
  have hq : Below (w1.heap.size) w1 w2 := BP.out.trans (Below.mono hb (Nat.le_trans hz BP.out.size))
  have hzn : w1.heap.size ≤ w2.heap.size := Nat.le_trans hz hq.size
  replace B := lF B hq hzn
  replace RW := lF RW hq hzn
  replace XM := lF XM hq hzn
  replace lM := Nat.lt_of_lt_of_le lM hzn
  have lA : w1.heap.size < w2.heap.size := Nat.lt_of_lt_of_le (by first | (simp; done) | (simp; omega)) (Below.size hb)
  have XA : Hid (∀ y, Below w2.heap.size w2 y → y.heap[w1.heap.size]? = some (.cells #[.slice ca cn cc, .slice (some ⟨wb, wo, none⟩) wl wc, .int .i64 (yn : Nat), .int .i64 (tn : Nat), .int .i64 (on : Nat), .slice da dl dc, .slice (some ⟨wb, wo, none⟩) yn wc, .int .i64 0, .int .i64 (tn : Nat), .slice (some ⟨wb, wo + yn, none⟩) (wl - yn) (wc - yn), .int .i64 (yn : Nat), .int .i64 (ou : Nat), .slice ta tl tc] 69 (0, 0))) := fun y hy => (hy.block _ lA).trans ((Below.block hb _ (by first | (simp; done) | (simp; omega))).trans (boxN _ _ _ _ (by simp)))
  clear hq BP hz
  have hz : w2.heap.size ≤ w2.heap.size := Nat.le_refl _
  clear hb
  cases hi : isAt T v
  · obtain rfl := hfn hi
    clear hfn hfy
    obtain ⟨kM0, kM1, kM2, kM3, kM4⟩ := bk5 (XM.out w2 bR)
    obtain ⟨kA0, kA1, kA2, kA3, kA4, kA5, kA6, kA7, kA8, kA9, kA10, kA11, kA12⟩ := bk13 (XA.out w2 bR)
    go_wp2_with fail
    go_ret
    exact ⟨by rw [sizV_none (by rw [HT.out]; exact hi)]; rfl, by first | exact B.out w2 (Below.refl _ _) | exact (B.out w2 (Below.refl _ _)).alloc (B.out w2 (Below.refl _ _)).size _⟩
  obtain ⟨j, c0, ty, ya, yl, yc, hj, rfl, hy⟩ := hfy hi
  have EA : Hid (atT T v = (v, c0, ty)) := atT_of INC0.out hj
  have SV : Hid (sizV L (ws, (yn : Int), (tn : Int), (on : Int), cd) v = ((hdN c0 + yl : Nat) : Int)) := by show _ = _; rw [sizV_at HM.out (by rw [HT.out]; exact hi), HT.out, EA.out]; simp only [tSz]; rw [hy.size]
  have hyl : yl ≤ 1000000 := by rw [← hy.size]; have := (TOK0.out _ (List.mem_of_getElem? hj)).hi; simp only [tSz, WS.out] at this; omega
  clear hfn hfy hj hy hi
  obtain ⟨kM0, kM1, kM2, kM3, kM4⟩ := bk5 (XM.out w2 bR)
  obtain ⟨kA0, kA1, kA2, kA3, kA4, kA5, kA6, kA7, kA8, kA9, kA10, kA11, kA12⟩ := bk13 (XA.out w2 bR)
  go_wp2_with fail
  clear kM0 kM1 kM2 kM3 kM4 kA0 kA1 kA2 kA3 kA4 kA5 kA6 kA7 kA8 kA9 kA10 kA11 kA12
  have BP : Hid (Below (w2.heap.size) w2 (w2.alloc (.cells #[.int .i64 v, .int .i64 c0, .slice ya yl yc] 75))) := (bR.alloc (by first | exact hz | (simp; done) | (simp; omega) | (have := hz; simp at this ⊢; omega)) _)
  refine (sizeImpl v c0 ya yl yc _ hyl).mono ?_
  rintro e w3 ⟨rfl, hb⟩
  have hq : Below (w2.heap.size) w2 w3 := BP.out.trans (Below.mono hb (Nat.le_trans hz BP.out.size))
  have hzn : w2.heap.size ≤ w3.heap.size := Nat.le_trans hz hq.size
  replace B := lF B hq hzn
  replace RW := lF RW hq hzn
  replace XM := lF XM hq hzn
  replace lM := Nat.lt_of_lt_of_le lM hzn
  replace XA := lF XA hq hzn
  replace lA := Nat.lt_of_lt_of_le lA hzn
  have lT : w2.heap.size < w3.heap.size := Nat.lt_of_lt_of_le (by first | (simp; done) | (simp; omega)) (Below.size hb)
  have XT : Hid (∀ y, Below w3.heap.size w3 y → y.heap[w2.heap.size]? = some (.cells #[.int .i64 v, .int .i64 c0, .slice ya yl yc] 75 (0, 0))) := fun y hy => (hy.block _ lT).trans ((Below.block hb _ (by first | (simp; done) | (simp; omega))).trans (boxN _ _ _ _ (by simp)))
  clear hq BP hz
  have hz : w3.heap.size ≤ w3.heap.size := Nat.le_refl _
  clear hb
  go_wp2_with fail
  go_ret
  exact ⟨by rw [SV.out]; rfl, B.out w3 (Below.refl _ _)⟩

end Go.Proofs.Ytjbmcdekhhbiaaa
