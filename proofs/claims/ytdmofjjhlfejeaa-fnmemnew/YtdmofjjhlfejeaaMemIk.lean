/-
  Whether a memory is ok, and things by their places: the program says so; it writes nothing that was there.
-/
import Derived.Test.YtdmofjjhlfejeaaMemIj
namespace Go.Proofs.Ytdmofjjhlfejeaa
open Go.ChangeShapes Go.WideShapes Go.ChangeAt Go.RowKit
set_option linter.unusedVariables false

set_option maxRecDepth 100000 in
set_option maxHeartbeats 4000000 in
theorem memOkImpl (ca : Option Addr) (cn cc : Nat) (wa : Option Addr) (wl wc : Nat) (yg tp od : Int) (da : Option Addr) (dl dc : Nat) (ws : List Int) (cd : List Bool) (L : List Cl) (w : World) {D E G G2 : Nat → Prop} (h : ClsAt D E w ca cn L) (hw : IntsAt G w wa wl ws) (hc : SlAt boolR G2 w da dl cd) (hyg : i64B yg) (hl : wl ≤ 1048576) (hd : dl ≤ 1048576) (hcap : wl ≤ wc) : Calls Try.prog 10 #[.slice ca cn cc, .agg #[.slice wa wl wc, .int .i64 yg, .int .i64 tp, .int .i64 od, .slice da dl dc]] w fun e w' => e = .returned (.bool (memB L (ws, yg, tp, od, cd))) ∧ Below w.heap.size w w' := by
  have H : Hid (ClsAt D E w ca cn L) := h
  have HW : Hid (IntsAt G w wa wl ws) := hw
  have HC : Hid (SlAt boolR G2 w da dl cd) := hc
  clear h hw hc
  have hz : w.heap.size + 1 ≤ (w.alloc (.cells #[.slice wa wl wc, .int .i64 yg, .int .i64 tp, .int .i64 od, .slice da dl dc] 28)).heap.size := by simp
  have B : Hid (∀ y, Below (w.heap.size + 1) (w.alloc (.cells #[.slice wa wl wc, .int .i64 yg, .int .i64 tp, .int .i64 od, .slice da dl dc] 28)) y → Below w.heap.size w y) := fun y hy => ((Below.refl _ _).alloc (by first | exact Nat.le_refl _ | (simp; done) | (simp; omega)) _).trans (hy.mono (by omega))
  have XM : Hid (∀ y, Below (w.heap.size + 1) (w.alloc (.cells #[.slice wa wl wc, .int .i64 yg, .int .i64 tp, .int .i64 od, .slice da dl dc] 28)) y → y.heap[w.heap.size]? = some (.cells #[.slice wa wl wc, .int .i64 yg, .int .i64 tp, .int .i64 od, .slice da dl dc] 28 (0, 0))) := fun y hy => (hy.block _ (by omega)).trans (boxN _ _ _ _ (by simp))
  have lM : w.heap.size < w.heap.size + 1 := by omega
  go_enter Try.func10, Try.ntmps10
  go_wp2_with fail
  have BP : Hid (Below (w.heap.size + 1) (w.alloc (.cells #[.slice wa wl wc, .int .i64 yg, .int .i64 tp, .int .i64 od, .slice da dl dc] 28)) (w.alloc (.cells #[.slice wa wl wc, .int .i64 yg, .int .i64 tp, .int .i64 od, .slice da dl dc] 28))) := (Below.refl _ _)
  refine (memoryImpl _ _ _ _ _ _ yg tp od _ _ _ ws cd L _ (H.out.later (B.out _ BP.out)) (HW.out.later (B.out _ BP.out)) (HC.out.later (B.out _ BP.out)) hyg hl hd hcap).mono ?_
  rintro e w1 ⟨hno, hyes, hb⟩
  have hq : Below (w.heap.size + 1) (w.alloc (.cells #[.slice wa wl wc, .int .i64 yg, .int .i64 tp, .int .i64 od, .slice da dl dc] 28)) w1 := BP.out.trans (Below.mono hb (Nat.le_trans hz BP.out.size))
  have hzn : w.heap.size + 1 ≤ w1.heap.size := Nat.le_trans hz hq.size
  replace B : Hid (∀ y, Below w1.heap.size w1 y → Below w.heap.size w y) := fun y hy => B.out y (hq.trans (hy.mono hzn))
  replace XM : Hid (∀ y, Below w1.heap.size w1 y → y.heap[w.heap.size]? = some (.cells #[.slice wa wl wc, .int .i64 yg, .int .i64 tp, .int .i64 od, .slice da dl dc] 28 (0, 0))) := fun y hy => (hy.block _ (by omega)).trans ((hq.block _ (by omega)).trans (XM.out (w.alloc (.cells #[.slice wa wl wc, .int .i64 yg, .int .i64 tp, .int .i64 od, .slice da dl dc] 28)) (Below.refl _ _)))
  replace lM : w.heap.size < w1.heap.size := by omega
  clear hq BP hz
  have hz : w1.heap.size ≤ w1.heap.size := Nat.le_refl _
  clear hb
  cases hq : memB L (ws, yg, tp, od, cd)
  · obtain ⟨x0, y0, z0, x1, y1, z1, x2, x3, x4, x5, y5, z5, x6, y6, z6, x7, x8, x9, y9, z9, x10, x11, x12, y12, z12, rfl⟩ := hno hq
    clear hno hyes
    have kM0 : w1.cell? ⟨w.heap.size, 0, none⟩ = some (.slice wa wl wc) := (boxG (XM.out w1 (Below.refl _ _)) 0).1
    have kM1 : w1.cell? ⟨w.heap.size, 1, none⟩ = some (.int .i64 yg) := (boxG (XM.out w1 (Below.refl _ _)) 1).1
    have kM2 : w1.cell? ⟨w.heap.size, 2, none⟩ = some (.int .i64 tp) := (boxG (XM.out w1 (Below.refl _ _)) 2).1
    have kM3 : w1.cell? ⟨w.heap.size, 3, none⟩ = some (.int .i64 od) := (boxG (XM.out w1 (Below.refl _ _)) 3).1
    have kM4 : w1.cell? ⟨w.heap.size, 4, none⟩ = some (.slice da dl dc) := (boxG (XM.out w1 (Below.refl _ _)) 4).1
    go_wp2_with fail
    go_ret
    exact ⟨by rw [hq]; rfl, by first | exact B.out w1 (Below.refl _ _) | exact (B.out w1 (Below.refl _ _)).alloc (B.out w1 (Below.refl _ _)).size _⟩
  · obtain ⟨wb, wo, yn, tn, on, ta, tc, rfl, rfl, rfl, rfl, rfl, hrow⟩ := hyes hq
    clear hno hyes hrow
    have kM0 : w1.cell? ⟨w.heap.size, 0, none⟩ = some (.slice (some ⟨wb, wo, none⟩) wl wc) := (boxG (XM.out w1 (Below.refl _ _)) 0).1
    have kM1 : w1.cell? ⟨w.heap.size, 1, none⟩ = some (.int .i64 (yn : Nat)) := (boxG (XM.out w1 (Below.refl _ _)) 1).1
    have kM2 : w1.cell? ⟨w.heap.size, 2, none⟩ = some (.int .i64 (tn : Nat)) := (boxG (XM.out w1 (Below.refl _ _)) 2).1
    have kM3 : w1.cell? ⟨w.heap.size, 3, none⟩ = some (.int .i64 (on : Nat)) := (boxG (XM.out w1 (Below.refl _ _)) 3).1
    have kM4 : w1.cell? ⟨w.heap.size, 4, none⟩ = some (.slice da dl dc) := (boxG (XM.out w1 (Below.refl _ _)) 4).1
    go_wp2_with fail
    go_ret
    exact ⟨by rw [hq]; rfl, by first | exact B.out w1 (Below.refl _ _) | exact (B.out w1 (Below.refl _ _)).alloc (B.out w1 (Below.refl _ _)).size _⟩

/-- What is found at a place. -/
def FindP (D : Nat → Prop) (w : World) (T : List Th) (v : Int) (e : Ending) (w' : World) : Prop :=
  (isAt T v = false → e = .returned (.tuple #[.agg #[.int .i64 0, .int .i64 0, .slice none 0 0], .bool false])) ∧ (isAt T v = true → ∃ (j : Nat) (c0 : Int) (ty : List Int) (ya : Option Addr) (yl yc : Nat), T[j]? = some (v, c0, ty) ∧ e = .returned (.tuple #[.agg #[.int .i64 v, .int .i64 c0, .slice ya yl yc], .bool true]) ∧ IntsAt D w' ya yl ty) ∧ Below w.heap.size w w'
set_option maxRecDepth 100000 in
set_option maxHeartbeats 4000000 in
theorem findImpl (ca : Option Addr) (cn cc wb wo wl wc yg tp od : Nat) (da : Option Addr) (dl dc pc ol oc ou : Nat) (ta : Option Addr) (tl tc : Nat) (T : List Th) (v : Int) (w : World) {D : Nat → Prop} (hD : ∀ b, D b → b < w.heap.size) (h : SlAt thR D w ta tl T) (hi : Inc T) (hl : tl ≤ 1000) (hv : i64B v) : Calls Try.prog 32 #[.agg #[.slice ca cn cc, .slice (some ⟨wb, wo, none⟩) wl wc, .int .i64 (yg : Nat), .int .i64 (tp : Nat), .int .i64 (od : Nat), .slice da dl dc, .slice (some ⟨wb, wo, none⟩) yg pc, .int .i64 0, .int .i64 (tp : Nat), .slice (some ⟨wb, wo + yg, none⟩) ol oc, .int .i64 (yg : Nat), .int .i64 (ou : Nat), .slice ta tl tc], .int .i64 v] w (FindP D w T v) := by
  have H : Hid (SlAt thR D w ta tl T) := h
  have IN : Hid (Inc T) := hi
  clear h hi
  have hv1 := hv.1
  have hv2 := hv.2
  have hz : w.heap.size + 1 + 1 ≤ ((w.alloc (.cells #[.slice ca cn cc, .slice (some ⟨wb, wo, none⟩) wl wc, .int .i64 (yg : Nat), .int .i64 (tp : Nat), .int .i64 (od : Nat), .slice da dl dc, .slice (some ⟨wb, wo, none⟩) yg pc, .int .i64 0, .int .i64 (tp : Nat), .slice (some ⟨wb, wo + yg, none⟩) ol oc, .int .i64 (yg : Nat), .int .i64 (ou : Nat), .slice ta tl tc] 52)).alloc (.cells #[.int .i64 0, .int .i64 0, .slice none 0 0] 57)).heap.size := by simp
  have B : Hid (∀ y, Below (w.heap.size + 1 + 1) ((w.alloc (.cells #[.slice ca cn cc, .slice (some ⟨wb, wo, none⟩) wl wc, .int .i64 (yg : Nat), .int .i64 (tp : Nat), .int .i64 (od : Nat), .slice da dl dc, .slice (some ⟨wb, wo, none⟩) yg pc, .int .i64 0, .int .i64 (tp : Nat), .slice (some ⟨wb, wo + yg, none⟩) ol oc, .int .i64 (yg : Nat), .int .i64 (ou : Nat), .slice ta tl tc] 52)).alloc (.cells #[.int .i64 0, .int .i64 0, .slice none 0 0] 57)) y → Below w.heap.size w y) := fun y hy => (((Below.refl _ _).alloc (by first | exact Nat.le_refl _ | (simp; done) | (simp; omega)) _).alloc (by first | exact Nat.le_refl _ | (simp; done) | (simp; omega)) _).trans (hy.mono (by omega))
  have XM : Hid (∀ y, Below (w.heap.size + 1 + 1) ((w.alloc (.cells #[.slice ca cn cc, .slice (some ⟨wb, wo, none⟩) wl wc, .int .i64 (yg : Nat), .int .i64 (tp : Nat), .int .i64 (od : Nat), .slice da dl dc, .slice (some ⟨wb, wo, none⟩) yg pc, .int .i64 0, .int .i64 (tp : Nat), .slice (some ⟨wb, wo + yg, none⟩) ol oc, .int .i64 (yg : Nat), .int .i64 (ou : Nat), .slice ta tl tc] 52)).alloc (.cells #[.int .i64 0, .int .i64 0, .slice none 0 0] 57)) y → y.heap[w.heap.size]? = some (.cells #[.slice ca cn cc, .slice (some ⟨wb, wo, none⟩) wl wc, .int .i64 (yg : Nat), .int .i64 (tp : Nat), .int .i64 (od : Nat), .slice da dl dc, .slice (some ⟨wb, wo, none⟩) yg pc, .int .i64 0, .int .i64 (tp : Nat), .slice (some ⟨wb, wo + yg, none⟩) ol oc, .int .i64 (yg : Nat), .int .i64 (ou : Nat), .slice ta tl tc] 52 (0, 0))) := fun y hy => (hy.block _ (by omega)).trans ((Below.heap_alloc _ _ _ (by first | (simp; done) | (simp; omega))).trans (boxN _ _ _ _ (by simp)))
  have lM : w.heap.size < w.heap.size + 1 + 1 := by omega
  have XR : Hid (∀ y, Below (w.heap.size + 1 + 1) ((w.alloc (.cells #[.slice ca cn cc, .slice (some ⟨wb, wo, none⟩) wl wc, .int .i64 (yg : Nat), .int .i64 (tp : Nat), .int .i64 (od : Nat), .slice da dl dc, .slice (some ⟨wb, wo, none⟩) yg pc, .int .i64 0, .int .i64 (tp : Nat), .slice (some ⟨wb, wo + yg, none⟩) ol oc, .int .i64 (yg : Nat), .int .i64 (ou : Nat), .slice ta tl tc] 52)).alloc (.cells #[.int .i64 0, .int .i64 0, .slice none 0 0] 57)) y → y.heap[w.heap.size + 1]? = some (.cells #[.int .i64 0, .int .i64 0, .slice none 0 0] 57 (0, 0))) := fun y hy => (hy.block _ (by omega)).trans (boxN _ _ _ _ (by simp))
  have lR : w.heap.size + 1 < w.heap.size + 1 + 1 := by omega
  go_enter Try.func32, Try.ntmps32
  go_wp2_with fail
  have BP : Hid (Below (w.heap.size + 1 + 1) ((w.alloc (.cells #[.slice ca cn cc, .slice (some ⟨wb, wo, none⟩) wl wc, .int .i64 (yg : Nat), .int .i64 (tp : Nat), .int .i64 (od : Nat), .slice da dl dc, .slice (some ⟨wb, wo, none⟩) yg pc, .int .i64 0, .int .i64 (tp : Nat), .slice (some ⟨wb, wo + yg, none⟩) ol oc, .int .i64 (yg : Nat), .int .i64 (ou : Nat), .slice ta tl tc] 52)).alloc (.cells #[.int .i64 0, .int .i64 0, .slice none 0 0] 57)) ((w.alloc (.cells #[.slice ca cn cc, .slice (some ⟨wb, wo, none⟩) wl wc, .int .i64 (yg : Nat), .int .i64 (tp : Nat), .int .i64 (od : Nat), .slice da dl dc, .slice (some ⟨wb, wo, none⟩) yg pc, .int .i64 0, .int .i64 (tp : Nat), .slice (some ⟨wb, wo + yg, none⟩) ol oc, .int .i64 (yg : Nat), .int .i64 (ou : Nat), .slice ta tl tc] 52)).alloc (.cells #[.int .i64 0, .int .i64 0, .slice none 0 0] 57))) := (Below.refl _ _)
  refine (numberImpl ca cn cc wb wo wl wc yg tp od da dl dc pc ol oc ou ta tl tc T v _ (H.out.later (B.out _ BP.out)) IN.out hl hv).mono ?_
  rintro e w1 ⟨n, rfl, hn, hn2, hb⟩
  have hq : Below (w.heap.size + 1 + 1) ((w.alloc (.cells #[.slice ca cn cc, .slice (some ⟨wb, wo, none⟩) wl wc, .int .i64 (yg : Nat), .int .i64 (tp : Nat), .int .i64 (od : Nat), .slice da dl dc, .slice (some ⟨wb, wo, none⟩) yg pc, .int .i64 0, .int .i64 (tp : Nat), .slice (some ⟨wb, wo + yg, none⟩) ol oc, .int .i64 (yg : Nat), .int .i64 (ou : Nat), .slice ta tl tc] 52)).alloc (.cells #[.int .i64 0, .int .i64 0, .slice none 0 0] 57)) w1 := BP.out.trans (Below.mono hb (Nat.le_trans hz BP.out.size))
  have hzn : w.heap.size + 1 + 1 ≤ w1.heap.size := Nat.le_trans hz hq.size
  replace B : Hid (∀ y, Below w1.heap.size w1 y → Below w.heap.size w y) := fun y hy => B.out y (hq.trans (hy.mono hzn))
  replace XM : Hid (∀ y, Below w1.heap.size w1 y → y.heap[w.heap.size]? = some (.cells #[.slice ca cn cc, .slice (some ⟨wb, wo, none⟩) wl wc, .int .i64 (yg : Nat), .int .i64 (tp : Nat), .int .i64 (od : Nat), .slice da dl dc, .slice (some ⟨wb, wo, none⟩) yg pc, .int .i64 0, .int .i64 (tp : Nat), .slice (some ⟨wb, wo + yg, none⟩) ol oc, .int .i64 (yg : Nat), .int .i64 (ou : Nat), .slice ta tl tc] 52 (0, 0))) := fun y hy => (hy.block _ (by omega)).trans ((hq.block _ (by omega)).trans (XM.out ((w.alloc (.cells #[.slice ca cn cc, .slice (some ⟨wb, wo, none⟩) wl wc, .int .i64 (yg : Nat), .int .i64 (tp : Nat), .int .i64 (od : Nat), .slice da dl dc, .slice (some ⟨wb, wo, none⟩) yg pc, .int .i64 0, .int .i64 (tp : Nat), .slice (some ⟨wb, wo + yg, none⟩) ol oc, .int .i64 (yg : Nat), .int .i64 (ou : Nat), .slice ta tl tc] 52)).alloc (.cells #[.int .i64 0, .int .i64 0, .slice none 0 0] 57)) (Below.refl _ _)))
  replace lM : w.heap.size < w1.heap.size := by omega
  replace XR : Hid (∀ y, Below w1.heap.size w1 y → y.heap[w.heap.size + 1]? = some (.cells #[.int .i64 0, .int .i64 0, .slice none 0 0] 57 (0, 0))) := fun y hy => (hy.block _ (by omega)).trans ((hq.block _ (by omega)).trans (XR.out ((w.alloc (.cells #[.slice ca cn cc, .slice (some ⟨wb, wo, none⟩) wl wc, .int .i64 (yg : Nat), .int .i64 (tp : Nat), .int .i64 (od : Nat), .slice da dl dc, .slice (some ⟨wb, wo, none⟩) yg pc, .int .i64 0, .int .i64 (tp : Nat), .slice (some ⟨wb, wo + yg, none⟩) ol oc, .int .i64 (yg : Nat), .int .i64 (ou : Nat), .slice ta tl tc] 52)).alloc (.cells #[.int .i64 0, .int .i64 0, .slice none 0 0] 57)) (Below.refl _ _)))
  replace lR : w.heap.size + 1 < w1.heap.size := by omega
  clear hq BP hz
  have hz : w1.heap.size ≤ w1.heap.size := Nat.le_refl _
  clear hb
  rcases hn with ⟨hn0, rfl⟩ | ⟨hn0, j, t, rfl, ht, htv⟩
  · have HN : Hid (isAt T v = false) := hn0
    clear hn0
    have kM0 : w1.cell? ⟨w.heap.size, 0, none⟩ = some (.slice ca cn cc) := (boxG (XM.out w1 (Below.refl _ _)) 0).1
    have kM1 : w1.cell? ⟨w.heap.size, 1, none⟩ = some (.slice (some ⟨wb, wo, none⟩) wl wc) := (boxG (XM.out w1 (Below.refl _ _)) 1).1
    have kM2 : w1.cell? ⟨w.heap.size, 2, none⟩ = some (.int .i64 (yg : Nat)) := (boxG (XM.out w1 (Below.refl _ _)) 2).1
    have kM3 : w1.cell? ⟨w.heap.size, 3, none⟩ = some (.int .i64 (tp : Nat)) := (boxG (XM.out w1 (Below.refl _ _)) 3).1
    have kM4 : w1.cell? ⟨w.heap.size, 4, none⟩ = some (.int .i64 (od : Nat)) := (boxG (XM.out w1 (Below.refl _ _)) 4).1
    have kM5 : w1.cell? ⟨w.heap.size, 5, none⟩ = some (.slice da dl dc) := (boxG (XM.out w1 (Below.refl _ _)) 5).1
    have kM6 : w1.cell? ⟨w.heap.size, 6, none⟩ = some (.slice (some ⟨wb, wo, none⟩) yg pc) := (boxG (XM.out w1 (Below.refl _ _)) 6).1
    have kM7 : w1.cell? ⟨w.heap.size, 7, none⟩ = some (.int .i64 0) := (boxG (XM.out w1 (Below.refl _ _)) 7).1
    have kM8 : w1.cell? ⟨w.heap.size, 8, none⟩ = some (.int .i64 (tp : Nat)) := (boxG (XM.out w1 (Below.refl _ _)) 8).1
    have kM9 : w1.cell? ⟨w.heap.size, 9, none⟩ = some (.slice (some ⟨wb, wo + yg, none⟩) ol oc) := (boxG (XM.out w1 (Below.refl _ _)) 9).1
    have kM10 : w1.cell? ⟨w.heap.size, 10, none⟩ = some (.int .i64 (yg : Nat)) := (boxG (XM.out w1 (Below.refl _ _)) 10).1
    have kM11 : w1.cell? ⟨w.heap.size, 11, none⟩ = some (.int .i64 (ou : Nat)) := (boxG (XM.out w1 (Below.refl _ _)) 11).1
    have kM12 : w1.cell? ⟨w.heap.size, 12, none⟩ = some (.slice ta tl tc) := (boxG (XM.out w1 (Below.refl _ _)) 12).1
    have kR0 : w1.cell? ⟨w.heap.size + 1, 0, none⟩ = some (.int .i64 0) := (boxG (XR.out w1 (Below.refl _ _)) 0).1
    have qkR0 : w1.frozen? ⟨w.heap.size + 1, 0, none⟩ = false := (boxG (XR.out w1 (Below.refl _ _)) 0).2
    have kR1 : w1.cell? ⟨w.heap.size + 1, 1, none⟩ = some (.int .i64 0) := (boxG (XR.out w1 (Below.refl _ _)) 1).1
    have qkR1 : w1.frozen? ⟨w.heap.size + 1, 1, none⟩ = false := (boxG (XR.out w1 (Below.refl _ _)) 1).2
    have kR2 : w1.cell? ⟨w.heap.size + 1, 2, none⟩ = some (.slice none 0 0) := (boxG (XR.out w1 (Below.refl _ _)) 2).1
    have qkR2 : w1.frozen? ⟨w.heap.size + 1, 2, none⟩ = false := (boxG (XR.out w1 (Below.refl _ _)) 2).2
    go_wp2_with fail
    refine bodyPost_ret (v := .tuple #[.agg #[.int .i64 0, .int .i64 0, .slice none 0 0], .bool false]) ?_ rfl ?_
    · simp [results, Try.results32, go_sem, *]
    · exact ⟨fun _ => rfl, (fun h => by rw [HN.out] at h; cases h), by (repeat (refine Below.setCell ?_ (by first | omega | (simp; done) | (simp; omega)) _)); exact B.out w1 (Below.refl _ _)⟩
  · have HN : Hid (isAt T v = true) := hn0
    have HT : Hid (T[j]? = some t) := ht
    have hjl : j < tl := by rw [← H.out.size]; exact (List.getElem?_eq_some_iff.1 ht).1
    obtain ⟨b, off, rfl, hDb, us, hvv, hc⟩ := (H.out.later (B.out w1 (Below.refl _ _))).at j t ht
    obtain ⟨x0, x1, ty⟩ := t
    obtain ⟨_, _, rfl, ⟨rfl, hx0⟩, _, _, rfl, ⟨rfl, hx1⟩, ya, yl, yc, rfl, hy⟩ := hvv
    simp only at htv
    subst htv
    have HY : Hid (IntsAt D w1 ya yl ty) := hy.ints
    have c0x : w1.cell? ⟨b, off + j * 3, none⟩ = some (.int .i64 x0) := hc 0 _ rfl
    have c1x : w1.cell? ⟨b, off + j * 3 + 1, none⟩ = some (.int .i64 x1) := hc 1 _ rfl
    have c2x : w1.cell? ⟨b, off + j * 3 + 2, none⟩ = some (.slice ya yl yc) := hc 2 _ rfl
    have hsub : IntKind.i64.wrap (((j + 1 : Nat) : Int) - 1) = (j : Int) := by rw [IntKind.wrap_i64] <;> omega
    have hne : ((j + 1 : Nat) : Int) ≠ 0 := by omega
    clear hn0 ht hc hy hx0 hx1
    have kM0 : w1.cell? ⟨w.heap.size, 0, none⟩ = some (.slice ca cn cc) := (boxG (XM.out w1 (Below.refl _ _)) 0).1
    have kM1 : w1.cell? ⟨w.heap.size, 1, none⟩ = some (.slice (some ⟨wb, wo, none⟩) wl wc) := (boxG (XM.out w1 (Below.refl _ _)) 1).1
    have kM2 : w1.cell? ⟨w.heap.size, 2, none⟩ = some (.int .i64 (yg : Nat)) := (boxG (XM.out w1 (Below.refl _ _)) 2).1
    have kM3 : w1.cell? ⟨w.heap.size, 3, none⟩ = some (.int .i64 (tp : Nat)) := (boxG (XM.out w1 (Below.refl _ _)) 3).1
    have kM4 : w1.cell? ⟨w.heap.size, 4, none⟩ = some (.int .i64 (od : Nat)) := (boxG (XM.out w1 (Below.refl _ _)) 4).1
    have kM5 : w1.cell? ⟨w.heap.size, 5, none⟩ = some (.slice da dl dc) := (boxG (XM.out w1 (Below.refl _ _)) 5).1
    have kM6 : w1.cell? ⟨w.heap.size, 6, none⟩ = some (.slice (some ⟨wb, wo, none⟩) yg pc) := (boxG (XM.out w1 (Below.refl _ _)) 6).1
    have kM7 : w1.cell? ⟨w.heap.size, 7, none⟩ = some (.int .i64 0) := (boxG (XM.out w1 (Below.refl _ _)) 7).1
    have kM8 : w1.cell? ⟨w.heap.size, 8, none⟩ = some (.int .i64 (tp : Nat)) := (boxG (XM.out w1 (Below.refl _ _)) 8).1
    have kM9 : w1.cell? ⟨w.heap.size, 9, none⟩ = some (.slice (some ⟨wb, wo + yg, none⟩) ol oc) := (boxG (XM.out w1 (Below.refl _ _)) 9).1
    have kM10 : w1.cell? ⟨w.heap.size, 10, none⟩ = some (.int .i64 (yg : Nat)) := (boxG (XM.out w1 (Below.refl _ _)) 10).1
    have kM11 : w1.cell? ⟨w.heap.size, 11, none⟩ = some (.int .i64 (ou : Nat)) := (boxG (XM.out w1 (Below.refl _ _)) 11).1
    have kM12 : w1.cell? ⟨w.heap.size, 12, none⟩ = some (.slice (some ⟨b, off, none⟩) tl tc) := (boxG (XM.out w1 (Below.refl _ _)) 12).1
    have kR0 : w1.cell? ⟨w.heap.size + 1, 0, none⟩ = some (.int .i64 0) := (boxG (XR.out w1 (Below.refl _ _)) 0).1
    have qkR0 : w1.frozen? ⟨w.heap.size + 1, 0, none⟩ = false := (boxG (XR.out w1 (Below.refl _ _)) 0).2
    have kR1 : w1.cell? ⟨w.heap.size + 1, 1, none⟩ = some (.int .i64 0) := (boxG (XR.out w1 (Below.refl _ _)) 1).1
    have qkR1 : w1.frozen? ⟨w.heap.size + 1, 1, none⟩ = false := (boxG (XR.out w1 (Below.refl _ _)) 1).2
    have kR2 : w1.cell? ⟨w.heap.size + 1, 2, none⟩ = some (.slice none 0 0) := (boxG (XR.out w1 (Below.refl _ _)) 2).1
    have qkR2 : w1.frozen? ⟨w.heap.size + 1, 2, none⟩ = false := (boxG (XR.out w1 (Below.refl _ _)) 2).2
    go_wp2_with fail
    refine bodyPost_ret (v := .tuple #[.agg #[.int .i64 x0, .int .i64 x1, .slice ya yl yc], .bool true]) ?_ rfl ?_
    · simp [results, Try.results32, go_sem, *]
    · exact ⟨(fun h => by rw [HN.out] at h; cases h), fun _ => ⟨j, x1, ty, ya, yl, yc, HT.out, rfl, by (repeat (refine IntsAt.set ?_ _ _ (fun hd => by have := hD _ hd; simp only at this; omega))); exact HY.out⟩, by (repeat (refine Below.setCell ?_ (by first | omega | (simp; done) | (simp; omega)) _)); exact B.out w1 (Below.refl _ _)⟩

end Go.Proofs.Ytdmofjjhlfejeaa
