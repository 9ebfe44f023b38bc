/-
  Whether what is in a thing is ok, by the program: what it says; it writes nothing that was there.
-/
import Derived.Test.YtdmofjjhlfejeaaMemIf
import Derived.Test.YtdmofjjhlfejeaaMemSf
namespace Go.Proofs.Ytdmofjjhlfejeaa
open Go.ChangeShapes Go.WideShapes Go.ChangeAt Go.RowKit
set_option linter.unusedVariables false

set_option maxRecDepth 100000 in
set_option maxHeartbeats 8000000 in
theorem valuesImpl (ca : Option Addr) (cn cc wb wo wl wc yg tp od : Nat) (da : Option Addr) (dl dc pc ol oc ou : Nat) (ta : Option Addr) (tl tc : Nat) (p : Nat) (c0 : Int) (ya : Option Addr) (yl yc : Nat) (T : List Th) (ty ws : List Int) (cd : List Bool) (w : World) {D D2 G G2 : Nat → Prop} (h : SlAt thR D w ta tl T) (hi : Inc T) (hl : tl ≤ 1000) (hw : IntsAt G w (some ⟨wb, wo, none⟩) wl ws) (hty : IntsAt D2 w ya yl ty) (hc : SlAt boolR G2 w da dl cd) (h1 : p + hdN c0 + yl ≤ wl) (h2 : wl ≤ wc) (h3 : wl ≤ 1000) (hdl : wl ≤ yg + dl * 4) :
    Calls Try.prog 61 #[.agg #[.slice ca cn cc, .slice (some ⟨wb, wo, none⟩) wl wc, .int .i64 (yg : Nat), .int .i64 (tp : Nat), .int .i64 (od : Nat), .slice da dl dc, .slice (some ⟨wb, wo, none⟩) yg pc, .int .i64 0, .int .i64 (tp : Nat), .slice (some ⟨wb, wo + yg, none⟩) ol oc, .int .i64 (yg : Nat), .int .i64 (ou : Nat), .slice ta tl tc], .agg #[.int .i64 ((p : Int) + 1), .int .i64 c0, .slice ya yl yc]] w fun e w' => e = .returned (.bool ((List.range yl).all (fun k => mayV T (ty.getD k 0) (ws.getD (p + hdN c0 + k) 0)))) ∧ Below w.heap.size w w' := by
  have HW : Hid (IntsAt G w (some ⟨wb, wo, none⟩) wl ws) := hw
  have HT : Hid (IntsAt D2 w ya yl ty) := hty
  have H : Hid (SlAt thR D w ta tl T) := h
  have IN : Hid (Inc T) := hi
  have HC : Hid (SlAt boolR G2 w da dl cd) := hc
  have hdp := hdN_pos c0
  obtain ⟨Q, hQ⟩ : ∃ Q : Nat → Bool, Q = (fun k => mayV T (ty.getD k 0) (ws.getD (p + hdN c0 + k) 0)) := ⟨_, rfl⟩
  have HQ : Hid (Q = (fun k => mayV T (ty.getD k 0) (ws.getD (p + hdN c0 + k) 0))) := hQ
  rw [← hQ]
  clear hw hty h hi hc hQ
  have hz : w.heap.size + 1 + 1 ≤ ((w.alloc (.cells #[.slice ca cn cc, .slice (some ⟨wb, wo, none⟩) wl wc, .int .i64 (yg : Nat), .int .i64 (tp : Nat), .int .i64 (od : Nat), .slice da dl dc, .slice (some ⟨wb, wo, none⟩) yg pc, .int .i64 0, .int .i64 (tp : Nat), .slice (some ⟨wb, wo + yg, none⟩) ol oc, .int .i64 (yg : Nat), .int .i64 (ou : Nat), .slice ta tl tc] 52)).alloc (.cells #[.int .i64 ((p : Int) + 1), .int .i64 c0, .slice ya yl yc] 57)).heap.size := by simp
  have B : Hid (∀ y, Below (w.heap.size + 1 + 1) ((w.alloc (.cells #[.slice ca cn cc, .slice (some ⟨wb, wo, none⟩) wl wc, .int .i64 (yg : Nat), .int .i64 (tp : Nat), .int .i64 (od : Nat), .slice da dl dc, .slice (some ⟨wb, wo, none⟩) yg pc, .int .i64 0, .int .i64 (tp : Nat), .slice (some ⟨wb, wo + yg, none⟩) ol oc, .int .i64 (yg : Nat), .int .i64 (ou : Nat), .slice ta tl tc] 52)).alloc (.cells #[.int .i64 ((p : Int) + 1), .int .i64 c0, .slice ya yl yc] 57)) y → Below w.heap.size w y) := fun y hy => (((Below.refl _ _).alloc (by first | exact Nat.le_refl _ | (simp; done) | (simp; omega)) _).alloc (by first | exact Nat.le_refl _ | (simp; done) | (simp; omega)) _).trans (hy.mono (by omega))
  have XM : Hid (∀ y, Below (w.heap.size + 1 + 1) ((w.alloc (.cells #[.slice ca cn cc, .slice (some ⟨wb, wo, none⟩) wl wc, .int .i64 (yg : Nat), .int .i64 (tp : Nat), .int .i64 (od : Nat), .slice da dl dc, .slice (some ⟨wb, wo, none⟩) yg pc, .int .i64 0, .int .i64 (tp : Nat), .slice (some ⟨wb, wo + yg, none⟩) ol oc, .int .i64 (yg : Nat), .int .i64 (ou : Nat), .slice ta tl tc] 52)).alloc (.cells #[.int .i64 ((p : Int) + 1), .int .i64 c0, .slice ya yl yc] 57)) y → y.heap[w.heap.size]? = some (.cells #[.slice ca cn cc, .slice (some ⟨wb, wo, none⟩) wl wc, .int .i64 (yg : Nat), .int .i64 (tp : Nat), .int .i64 (od : Nat), .slice da dl dc, .slice (some ⟨wb, wo, none⟩) yg pc, .int .i64 0, .int .i64 (tp : Nat), .slice (some ⟨wb, wo + yg, none⟩) ol oc, .int .i64 (yg : Nat), .int .i64 (ou : Nat), .slice ta tl tc] 52 (0, 0))) := fun y hy => (hy.block _ (by omega)).trans ((Below.heap_alloc _ _ _ (by first | (simp; done) | (simp; omega))).trans (boxN _ _ _ _ (by simp)))
  have lM : w.heap.size < w.heap.size + 1 + 1 := by omega
  have XT : Hid (∀ y, Below (w.heap.size + 1 + 1) ((w.alloc (.cells #[.slice ca cn cc, .slice (some ⟨wb, wo, none⟩) wl wc, .int .i64 (yg : Nat), .int .i64 (tp : Nat), .int .i64 (od : Nat), .slice da dl dc, .slice (some ⟨wb, wo, none⟩) yg pc, .int .i64 0, .int .i64 (tp : Nat), .slice (some ⟨wb, wo + yg, none⟩) ol oc, .int .i64 (yg : Nat), .int .i64 (ou : Nat), .slice ta tl tc] 52)).alloc (.cells #[.int .i64 ((p : Int) + 1), .int .i64 c0, .slice ya yl yc] 57)) y → y.heap[w.heap.size + 1]? = some (.cells #[.int .i64 ((p : Int) + 1), .int .i64 c0, .slice ya yl yc] 57 (0, 0))) := fun y hy => (hy.block _ (by omega)).trans (boxN _ _ _ _ (by simp))
  have lT : w.heap.size + 1 < w.heap.size + 1 + 1 := by omega
  go_enter Try.func61, Try.ntmps61
  go_wp2_with fail
  have BP : Hid (Below (w.heap.size + 1 + 1) ((w.alloc (.cells #[.slice ca cn cc, .slice (some ⟨wb, wo, none⟩) wl wc, .int .i64 (yg : Nat), .int .i64 (tp : Nat), .int .i64 (od : Nat), .slice da dl dc, .slice (some ⟨wb, wo, none⟩) yg pc, .int .i64 0, .int .i64 (tp : Nat), .slice (some ⟨wb, wo + yg, none⟩) ol oc, .int .i64 (yg : Nat), .int .i64 (ou : Nat), .slice ta tl tc] 52)).alloc (.cells #[.int .i64 ((p : Int) + 1), .int .i64 c0, .slice ya yl yc] 57)) ((w.alloc (.cells #[.slice ca cn cc, .slice (some ⟨wb, wo, none⟩) wl wc, .int .i64 (yg : Nat), .int .i64 (tp : Nat), .int .i64 (od : Nat), .slice da dl dc, .slice (some ⟨wb, wo, none⟩) yg pc, .int .i64 0, .int .i64 (tp : Nat), .slice (some ⟨wb, wo + yg, none⟩) ol oc, .int .i64 (yg : Nat), .int .i64 (ou : Nat), .slice ta tl tc] 52)).alloc (.cells #[.int .i64 ((p : Int) + 1), .int .i64 c0, .slice ya yl yc] 57))) := (Below.refl _ _)
  refine (insideImpl ca cn cc wb wo wl wc yg tp od da dl dc pc ol oc ou ta tl tc p c0 ya yl yc _ h1 h2 h3).mono ?_
  rintro e w1 ⟨ra, rc, rfl, hra, hb⟩
  have hq : Below (w.heap.size + 1 + 1) ((w.alloc (.cells #[.slice ca cn cc, .slice (some ⟨wb, wo, none⟩) wl wc, .int .i64 (yg : Nat), .int .i64 (tp : Nat), .int .i64 (od : Nat), .slice da dl dc, .slice (some ⟨wb, wo, none⟩) yg pc, .int .i64 0, .int .i64 (tp : Nat), .slice (some ⟨wb, wo + yg, none⟩) ol oc, .int .i64 (yg : Nat), .int .i64 (ou : Nat), .slice ta tl tc] 52)).alloc (.cells #[.int .i64 ((p : Int) + 1), .int .i64 c0, .slice ya yl yc] 57)) w1 := BP.out.trans (Below.mono hb (Nat.le_trans hz BP.out.size))
  have hzn : w.heap.size + 1 + 1 ≤ w1.heap.size := Nat.le_trans hz hq.size
  replace B : Hid (∀ y, Below w1.heap.size w1 y → Below w.heap.size w y) := fun y hy => B.out y (hq.trans (hy.mono hzn))
  replace XM : Hid (∀ y, Below w1.heap.size w1 y → y.heap[w.heap.size]? = some (.cells #[.slice ca cn cc, .slice (some ⟨wb, wo, none⟩) wl wc, .int .i64 (yg : Nat), .int .i64 (tp : Nat), .int .i64 (od : Nat), .slice da dl dc, .slice (some ⟨wb, wo, none⟩) yg pc, .int .i64 0, .int .i64 (tp : Nat), .slice (some ⟨wb, wo + yg, none⟩) ol oc, .int .i64 (yg : Nat), .int .i64 (ou : Nat), .slice ta tl tc] 52 (0, 0))) := fun y hy => (hy.block _ (by omega)).trans ((hq.block _ (by omega)).trans (XM.out ((w.alloc (.cells #[.slice ca cn cc, .slice (some ⟨wb, wo, none⟩) wl wc, .int .i64 (yg : Nat), .int .i64 (tp : Nat), .int .i64 (od : Nat), .slice da dl dc, .slice (some ⟨wb, wo, none⟩) yg pc, .int .i64 0, .int .i64 (tp : Nat), .slice (some ⟨wb, wo + yg, none⟩) ol oc, .int .i64 (yg : Nat), .int .i64 (ou : Nat), .slice ta tl tc] 52)).alloc (.cells #[.int .i64 ((p : Int) + 1), .int .i64 c0, .slice ya yl yc] 57)) (Below.refl _ _)))
  replace lM : w.heap.size < w1.heap.size := by omega
  replace XT : Hid (∀ y, Below w1.heap.size w1 y → y.heap[w.heap.size + 1]? = some (.cells #[.int .i64 ((p : Int) + 1), .int .i64 c0, .slice ya yl yc] 57 (0, 0))) := fun y hy => (hy.block _ (by omega)).trans ((hq.block _ (by omega)).trans (XT.out ((w.alloc (.cells #[.slice ca cn cc, .slice (some ⟨wb, wo, none⟩) wl wc, .int .i64 (yg : Nat), .int .i64 (tp : Nat), .int .i64 (od : Nat), .slice da dl dc, .slice (some ⟨wb, wo, none⟩) yg pc, .int .i64 0, .int .i64 (tp : Nat), .slice (some ⟨wb, wo + yg, none⟩) ol oc, .int .i64 (yg : Nat), .int .i64 (ou : Nat), .slice ta tl tc] 52)).alloc (.cells #[.int .i64 ((p : Int) + 1), .int .i64 c0, .slice ya yl yc] 57)) (Below.refl _ _)))
  replace lT : w.heap.size + 1 < w1.heap.size := by omega
  clear hq BP hz
  have hz : w1.heap.size ≤ w1.heap.size := Nat.le_refl _
  clear hb
  obtain ⟨lo, hlo⟩ : ∃ q, p + hdN c0 = q := ⟨_, rfl⟩
  rw [hlo] at hra h1 HQ
  have kM0 : w1.cell? ⟨w.heap.size, 0, none⟩ = some (.slice ca cn cc) := (boxG (XM.out w1 (Below.refl _ _)) 0).1
  have kM1 : w1.cell? ⟨w.heap.size, 1, none⟩ = some (.slice (some ⟨wb, wo, none⟩) wl wc) := (boxG (XM.out w1 (Below.refl _ _)) 1).1
  have kM2 : w1.cell? ⟨w.heap.size, 2, none⟩ = some (.int .i64 (yg : Nat)) := (boxG (XM.out w1 (Below.refl _ _)) 2).1
  have kM3 : w1.cell? ⟨w.heap.size, 3, none⟩ = some (.int .i64 (tp : Nat)) := (boxG (XM.out w1 (Below.refl _ _)) 3).1
  have kM4 : w1.cell? ⟨w.heap.size, 4, none⟩ = some (.int .i64 (od : Nat)) := (boxG (XM.out w1 (Below.refl _ _)) 4).1
  have kM5 : w1.cell? ⟨w.heap.size, 5, none⟩ = some (.slice da dl dc) := (boxG (XM.out w1 (Below.refl _ _)) 5).1
  have kM6 : w1.cell? ⟨w.heap.size, 6, none⟩ = some (.slice (some ⟨wb, wo, none⟩) yg pc) := (boxG (XM.out w1 (Below.refl _ _)) 6).1
  have kM7 : w1.cell? ⟨w.heap.size, 7, none⟩ = some (.int .i64 0) := (boxG (XM.out w1 (Below.refl _ _)) 7).1
  have kM8 : w1.cell? ⟨w.heap.size, 8, none⟩ = some (.int .i64 (tp : Nat)) := (boxG (XM.out w1 (Below.refl _ _)) 8).1
  have kM9 : w1.cell? ⟨w.heap.size, 9, none⟩ = some (.slice (some ⟨wb, wo + yg, none⟩) ol oc) := (boxG (XM.out w1 (Below.refl _ _)) 9).1
  have kM10 : w1.cell? ⟨w.heap.size, 10, none⟩ = some (.int .i64 (yg : Nat)) := (boxG (XM.out w1 (Below.refl _ _)) 10).1
  have kM11 : w1.cell? ⟨w.heap.size, 11, none⟩ = some (.int .i64 (ou : Nat)) := (boxG (XM.out w1 (Below.refl _ _)) 11).1
  have kM12 : w1.cell? ⟨w.heap.size, 12, none⟩ = some (.slice ta tl tc) := (boxG (XM.out w1 (Below.refl _ _)) 12).1
  have kT0 : w1.cell? ⟨w.heap.size + 1, 0, none⟩ = some (.int .i64 ((p : Int) + 1)) := (boxG (XT.out w1 (Below.refl _ _)) 0).1
  have kT1 : w1.cell? ⟨w.heap.size + 1, 1, none⟩ = some (.int .i64 c0) := (boxG (XT.out w1 (Below.refl _ _)) 1).1
  have kT2 : w1.cell? ⟨w.heap.size + 1, 2, none⟩ = some (.slice ya yl yc) := (boxG (XT.out w1 (Below.refl _ _)) 2).1
  go_wp2_with fail
  clear kM0 kM1 kM2 kM3 kM4 kM5 kM6 kM7 kM8 kM9 kM10 kM11 kM12 kT0 kT1 kT2
  go_loopw [11] (fun t wr => ∃ k : Nat, k ≤ yl ∧ t = .int .i64 k ∧ (List.range k).all Q = true ∧ Below w1.heap.size w1 wr) (fun t _ => yl - (intOf t).toNat)
  case atStart => exact ⟨0, Nat.zero_le _, rfl, rfl, Below.refl _ _⟩
  case round =>
    obtain ⟨k, hk, rfl, hall, hr⟩ := hrel
    have HA : Hid ((List.range k).all Q = true) := hall
    have HR1 : Hid (Below w1.heap.size w1 wr) := hr
    clear hall
    have hzn : w1.heap.size ≤ wr.heap.size := Nat.le_trans hz (Below.size hr)
    replace B : Hid (∀ y, Below wr.heap.size wr y → Below w.heap.size w y) := fun y hy => B.out y (Below.trans hr (hy.mono hzn))
    replace XM : Hid (∀ y, Below wr.heap.size wr y → y.heap[w.heap.size]? = some (.cells #[.slice ca cn cc, .slice (some ⟨wb, wo, none⟩) wl wc, .int .i64 (yg : Nat), .int .i64 (tp : Nat), .int .i64 (od : Nat), .slice da dl dc, .slice (some ⟨wb, wo, none⟩) yg pc, .int .i64 0, .int .i64 (tp : Nat), .slice (some ⟨wb, wo + yg, none⟩) ol oc, .int .i64 (yg : Nat), .int .i64 (ou : Nat), .slice ta tl tc] 52 (0, 0))) := fun y hy => XM.out y (Below.trans hr (hy.mono hzn))
    replace lM : w.heap.size < wr.heap.size := by omega
    replace XT : Hid (∀ y, Below wr.heap.size wr y → y.heap[w.heap.size + 1]? = some (.cells #[.int .i64 ((p : Int) + 1), .int .i64 c0, .slice ya yl yc] 57 (0, 0))) := fun y hy => XT.out y (Below.trans hr (hy.mono hzn))
    replace lT : w.heap.size + 1 < wr.heap.size := by omega
    clear hz
    have hz : wr.heap.size ≤ wr.heap.size := Nat.le_refl _
    clear hr
    by_cases hlt : k < yl
    · obtain rfl := hra (by omega)
      obtain ⟨_, _, e0, _, hcs⟩ := (HW.out.later (B.out wr (Below.refl _ _))).one (lo + k) (by omega)
      cases e0
      have cW := hcs (lo + k) (by omega)
      rw [← Nat.add_assoc] at cW
      obtain ⟨v, hv⟩ : ∃ v, ws.getD (lo + k) 0 = v := ⟨_, rfl⟩
      rw [hv] at cW
      have hvf := HW.out.fits (lo + k)
      rw [hv] at hvf
      obtain ⟨yb, yo, rfl, _, hct⟩ := (HT.out.later (B.out wr (Below.refl _ _))).one k hlt
      have cT := hct k hlt
      obtain ⟨t1, ht1⟩ : ∃ t1, ty.getD k 0 = t1 := ⟨_, rfl⟩
      rw [ht1] at cT
      have hyb := World.block_lt_of_cell? wr _ cT
      simp only at hyb
      have HT1 : Hid (ty.getD k 0 = t1) := ht1
      have KT : Hid (∀ y, Below wr.heap.size wr y → y.cell? ⟨yb, yo + k, none⟩ = some (.int .i64 t1)) := fun y hy => (hy.cell (p := ⟨yb, yo + k, none⟩) hyb).trans cT
      have hlk : lo + k ≤ 1000 := by omega
      clear hcs hct
      have QK : Hid (Q k = mayV T t1 v) := by show _ = _; rw [HQ.out]; show mayV T (ty.getD k 0) (ws.getD (lo + k) 0) = _; rw [ht1, hv]
      clear hv ht1
      have kM0 : wr.cell? ⟨w.heap.size, 0, none⟩ = some (.slice ca cn cc) := (boxG (XM.out wr (Below.refl _ _)) 0).1
      have kM1 : wr.cell? ⟨w.heap.size, 1, none⟩ = some (.slice (some ⟨wb, wo, none⟩) wl wc) := (boxG (XM.out wr (Below.refl _ _)) 1).1
      have kM2 : wr.cell? ⟨w.heap.size, 2, none⟩ = some (.int .i64 (yg : Nat)) := (boxG (XM.out wr (Below.refl _ _)) 2).1
      have kM3 : wr.cell? ⟨w.heap.size, 3, none⟩ = some (.int .i64 (tp : Nat)) := (boxG (XM.out wr (Below.refl _ _)) 3).1
      have kM4 : wr.cell? ⟨w.heap.size, 4, none⟩ = some (.int .i64 (od : Nat)) := (boxG (XM.out wr (Below.refl _ _)) 4).1
      have kM5 : wr.cell? ⟨w.heap.size, 5, none⟩ = some (.slice da dl dc) := (boxG (XM.out wr (Below.refl _ _)) 5).1
      have kM6 : wr.cell? ⟨w.heap.size, 6, none⟩ = some (.slice (some ⟨wb, wo, none⟩) yg pc) := (boxG (XM.out wr (Below.refl _ _)) 6).1
      have kM7 : wr.cell? ⟨w.heap.size, 7, none⟩ = some (.int .i64 0) := (boxG (XM.out wr (Below.refl _ _)) 7).1
      have kM8 : wr.cell? ⟨w.heap.size, 8, none⟩ = some (.int .i64 (tp : Nat)) := (boxG (XM.out wr (Below.refl _ _)) 8).1
      have kM9 : wr.cell? ⟨w.heap.size, 9, none⟩ = some (.slice (some ⟨wb, wo + yg, none⟩) ol oc) := (boxG (XM.out wr (Below.refl _ _)) 9).1
      have kM10 : wr.cell? ⟨w.heap.size, 10, none⟩ = some (.int .i64 (yg : Nat)) := (boxG (XM.out wr (Below.refl _ _)) 10).1
      have kM11 : wr.cell? ⟨w.heap.size, 11, none⟩ = some (.int .i64 (ou : Nat)) := (boxG (XM.out wr (Below.refl _ _)) 11).1
      have kM12 : wr.cell? ⟨w.heap.size, 12, none⟩ = some (.slice ta tl tc) := (boxG (XM.out wr (Below.refl _ _)) 12).1
      have kT0 : wr.cell? ⟨w.heap.size + 1, 0, none⟩ = some (.int .i64 ((p : Int) + 1)) := (boxG (XT.out wr (Below.refl _ _)) 0).1
      have kT1 : wr.cell? ⟨w.heap.size + 1, 1, none⟩ = some (.int .i64 c0) := (boxG (XT.out wr (Below.refl _ _)) 1).1
      have kT2 : wr.cell? ⟨w.heap.size + 1, 2, none⟩ = some (.slice (some ⟨yb, yo, none⟩) yl yc) := (boxG (XT.out wr (Below.refl _ _)) 2).1
      go_wp2_with fail
      clear kM0 kM1 kM2 kM3 kM4 kM5 kM6 kM7 kM8 kM9 kM10 kM11 kM12 kT0 kT1 kT2
      clear cW cT
      have KS : Hid (∀ x, Below (wr.heap.size) wr x → x.cell? ⟨w.heap.size, 0, none⟩ = some (.slice ca cn cc) ∧ x.cell? ⟨w.heap.size, 1, none⟩ = some (.slice (some ⟨wb, wo, none⟩) wl wc) ∧ x.cell? ⟨w.heap.size, 2, none⟩ = some (.int .i64 (yg : Nat)) ∧ x.cell? ⟨w.heap.size, 3, none⟩ = some (.int .i64 (tp : Nat)) ∧ x.cell? ⟨w.heap.size, 4, none⟩ = some (.int .i64 (od : Nat)) ∧ x.cell? ⟨w.heap.size, 5, none⟩ = some (.slice da dl dc) ∧ x.cell? ⟨w.heap.size, 6, none⟩ = some (.slice (some ⟨wb, wo, none⟩) yg pc) ∧ x.cell? ⟨w.heap.size, 7, none⟩ = some (.int .i64 0) ∧ x.cell? ⟨w.heap.size, 8, none⟩ = some (.int .i64 (tp : Nat)) ∧ x.cell? ⟨w.heap.size, 9, none⟩ = some (.slice (some ⟨wb, wo + yg, none⟩) ol oc) ∧ x.cell? ⟨w.heap.size, 10, none⟩ = some (.int .i64 (yg : Nat)) ∧ x.cell? ⟨w.heap.size, 11, none⟩ = some (.int .i64 (ou : Nat)) ∧ x.cell? ⟨w.heap.size, 12, none⟩ = some (.slice ta tl tc) ∧ x.cell? ⟨w.heap.size + 1, 0, none⟩ = some (.int .i64 ((p : Int) + 1)) ∧ x.cell? ⟨w.heap.size + 1, 1, none⟩ = some (.int .i64 c0) ∧ x.cell? ⟨w.heap.size + 1, 2, none⟩ = some (.slice (some ⟨yb, yo, none⟩) yl yc) ∧ x.cell? ⟨yb, yo + k, none⟩ = some (.int .i64 t1)) := fun x hx => ⟨(boxG (XM.out x hx) 0).1, (boxG (XM.out x hx) 1).1, (boxG (XM.out x hx) 2).1, (boxG (XM.out x hx) 3).1, (boxG (XM.out x hx) 4).1, (boxG (XM.out x hx) 5).1, (boxG (XM.out x hx) 6).1, (boxG (XM.out x hx) 7).1, (boxG (XM.out x hx) 8).1, (boxG (XM.out x hx) 9).1, (boxG (XM.out x hx) 10).1, (boxG (XM.out x hx) 11).1, (boxG (XM.out x hx) 12).1, (boxG (XT.out x hx) 0).1, (boxG (XT.out x hx) 1).1, (boxG (XT.out x hx) 2).1, KT.out x hx⟩
      refine wp_region_held_drew (S := fun x => x.cell? ⟨w.heap.size, 0, none⟩ = some (.slice ca cn cc) ∧ x.cell? ⟨w.heap.size, 1, none⟩ = some (.slice (some ⟨wb, wo, none⟩) wl wc) ∧ x.cell? ⟨w.heap.size, 2, none⟩ = some (.int .i64 (yg : Nat)) ∧ x.cell? ⟨w.heap.size, 3, none⟩ = some (.int .i64 (tp : Nat)) ∧ x.cell? ⟨w.heap.size, 4, none⟩ = some (.int .i64 (od : Nat)) ∧ x.cell? ⟨w.heap.size, 5, none⟩ = some (.slice da dl dc) ∧ x.cell? ⟨w.heap.size, 6, none⟩ = some (.slice (some ⟨wb, wo, none⟩) yg pc) ∧ x.cell? ⟨w.heap.size, 7, none⟩ = some (.int .i64 0) ∧ x.cell? ⟨w.heap.size, 8, none⟩ = some (.int .i64 (tp : Nat)) ∧ x.cell? ⟨w.heap.size, 9, none⟩ = some (.slice (some ⟨wb, wo + yg, none⟩) ol oc) ∧ x.cell? ⟨w.heap.size, 10, none⟩ = some (.int .i64 (yg : Nat)) ∧ x.cell? ⟨w.heap.size, 11, none⟩ = some (.int .i64 (ou : Nat)) ∧ x.cell? ⟨w.heap.size, 12, none⟩ = some (.slice ta tl tc) ∧ x.cell? ⟨w.heap.size + 1, 0, none⟩ = some (.int .i64 ((p : Int) + 1)) ∧ x.cell? ⟨w.heap.size + 1, 1, none⟩ = some (.int .i64 c0) ∧ x.cell? ⟨w.heap.size + 1, 2, none⟩ = some (.slice (some ⟨yb, yo, none⟩) yl yc) ∧ x.cell? ⟨yb, yo + k, none⟩ = some (.int .i64 t1)) (by kernel_rfl) ?_ (fun hHeld => ?_)
      · exact KS.out _ (bdrew (Below.refl _ _))
      refine wpAnyH_take (i := 0) (v := ?_) rfl (by kernel_rfl) (by kernel_rfl) (by kernel_rfl) (fun _ _ _ h => h) (Or.inl ⟨by kernel_rfl, ?_⟩) (by assumption) ?_
      rotate_left 1
      · intro x hSx
        (try dsimp only at hSx)
        go_simp
        try with_reducible rfl
      try simp only [Act.put, List.getElem_toArray, List.getElem_cons_zero, List.setIfInBounds_toArray, List.set_cons_zero, List.set_cons_succ]
      refine wpAnyH_take (i := 1) (v := ?_) rfl (by kernel_rfl) (by kernel_rfl) (by kernel_rfl) (fun _ _ _ h => h) (Or.inl ⟨by kernel_rfl, ?_⟩) (by assumption) ?_
      rotate_left 1
      · intro x hSx
        (try dsimp only at hSx)
        go_simp
        try with_reducible rfl
      try simp only [Act.put, List.getElem_toArray, List.getElem_cons_zero, List.getElem_cons_succ, List.setIfInBounds_toArray, List.set_cons_zero, List.set_cons_succ]
      refine wpAnyH_take (i := 2) (v := ?_) rfl (by kernel_rfl) (by kernel_rfl) (by kernel_rfl) (fun _ _ _ h => h) (Or.inl ⟨by kernel_rfl, ?_⟩) (by assumption) ?_
      rotate_left 1
      · intro x hSx
        (try dsimp only at hSx)
        go_simp
        try with_reducible rfl
      try simp only [Act.put, List.getElem_toArray, List.getElem_cons_zero, List.getElem_cons_succ, List.setIfInBounds_toArray, List.set_cons_zero, List.set_cons_succ]
      refine wpAnyH_take (i := 3) (v := ?_) rfl (by kernel_rfl) (by kernel_rfl) (by kernel_rfl) (fun _ _ _ h => h) (Or.inl ⟨by kernel_rfl, ?_⟩) (by assumption) ?_
      rotate_left 1
      · intro x hSx
        (try dsimp only at hSx)
        go_simp
        try with_reducible rfl
      try simp only [Act.put, List.getElem_toArray, List.getElem_cons_zero, List.getElem_cons_succ, List.setIfInBounds_toArray, List.set_cons_zero, List.set_cons_succ]
      refine wpAnyH_take (i := 4) (v := ?_) rfl (by kernel_rfl) (by kernel_rfl) (by kernel_rfl) (fun _ _ _ h => h) (Or.inl ⟨by kernel_rfl, ?_⟩) (by assumption) ?_
      rotate_left 1
      · intro x hSx
        (try dsimp only at hSx)
        go_simp
        try with_reducible rfl
      try simp only [Act.put, List.getElem_toArray, List.getElem_cons_zero, List.getElem_cons_succ, List.setIfInBounds_toArray, List.set_cons_zero, List.set_cons_succ]
      refine wpAnyH_take (i := 5) (v := ?_) rfl (by kernel_rfl) (by kernel_rfl) (by kernel_rfl) (fun _ _ _ h => h) (Or.inl ⟨by kernel_rfl, ?_⟩) (by assumption) ?_
      rotate_left 1
      · intro x hSx
        (try dsimp only at hSx)
        go_simp
        try with_reducible rfl
      try simp only [Act.put, List.getElem_toArray, List.getElem_cons_zero, List.getElem_cons_succ, List.setIfInBounds_toArray, List.set_cons_zero, List.set_cons_succ]
      refine wpAnyH_take (i := 6) (v := ?_) rfl (by kernel_rfl) (by kernel_rfl) (by kernel_rfl) (fun _ _ _ h => h) (Or.inl ⟨by kernel_rfl, ?_⟩) (by assumption) ?_
      rotate_left 1
      · intro x hSx
        (try dsimp only at hSx)
        go_simp
        try with_reducible rfl
      try simp only [Act.put, List.getElem_toArray, List.getElem_cons_zero, List.getElem_cons_succ, List.setIfInBounds_toArray, List.set_cons_zero, List.set_cons_succ]
      refine wpAnyH_ready (rs := [7]) (by kernel_rfl) (by simp) ?_
      refine AllReadyH.cons rfl (fun K hK => ?_) AllReadyH.nil
      go_simp
      go_at_call 75
      have BP : Hid (Below (wr.heap.size) wr wr.drew) := (bdrew (Below.refl _ _))
      refine (mayImpl ca cn cc wb wo wl wc yg tp od da dl dc pc ol oc ou ta tl tc T v t1 _ (H.out.later (B.out _ BP.out)) IN.out hl hvf).mono ?_
      rintro e w2 ⟨rfl, hb⟩
      have HR2 : Hid (Below w1.heap.size w1 w2) := HR1.out.trans ((BP.out.trans (hb.mono BP.out.size)).mono HR1.out.size)
      obtain ⟨q, hq⟩ : ∃ q, mayV T t1 v = q := ⟨_, rfl⟩
      have QQ : Hid (Q k = q) := QK.out.trans hq
      rw [hq]
      clear hq
      replace KT : Hid (∀ y, Below w2.heap.size w2 y → y.cell? ⟨yb, yo + k, none⟩ = some (.int .i64 t1)) := fun y hy => KT.out y (BP.out.trans ((hb.mono BP.out.size).trans (hy.mono (Nat.le_trans BP.out.size hb.size))))
      have hq : Below (wr.heap.size) wr w2 := BP.out.trans (Below.mono hb (Nat.le_trans hz BP.out.size))
      have hzn : wr.heap.size ≤ w2.heap.size := Nat.le_trans hz hq.size
      replace B : Hid (∀ y, Below w2.heap.size w2 y → Below w.heap.size w y) := fun y hy => B.out y (hq.trans (hy.mono hzn))
      replace XM : Hid (∀ y, Below w2.heap.size w2 y → y.heap[w.heap.size]? = some (.cells #[.slice ca cn cc, .slice (some ⟨wb, wo, none⟩) wl wc, .int .i64 (yg : Nat), .int .i64 (tp : Nat), .int .i64 (od : Nat), .slice da dl dc, .slice (some ⟨wb, wo, none⟩) yg pc, .int .i64 0, .int .i64 (tp : Nat), .slice (some ⟨wb, wo + yg, none⟩) ol oc, .int .i64 (yg : Nat), .int .i64 (ou : Nat), .slice ta tl tc] 52 (0, 0))) := fun y hy => (hy.block _ (by omega)).trans ((hq.block _ (by omega)).trans (XM.out wr (Below.refl _ _)))
      replace lM : w.heap.size < w2.heap.size := by omega
      replace XT : Hid (∀ y, Below w2.heap.size w2 y → y.heap[w.heap.size + 1]? = some (.cells #[.int .i64 ((p : Int) + 1), .int .i64 c0, .slice (some ⟨yb, yo, none⟩) yl yc] 57 (0, 0))) := fun y hy => (hy.block _ (by omega)).trans ((hq.block _ (by omega)).trans (XT.out wr (Below.refl _ _)))
      replace lT : w.heap.size + 1 < w2.heap.size := by omega
      clear hq BP hz
      have hz : w2.heap.size ≤ w2.heap.size := Nat.le_refl _
      clear hb
      go_wp2_with fail
      replace KS : Hid (∀ x, Below (w2.heap.size) w2 x → x.cell? ⟨w.heap.size, 0, none⟩ = some (.slice ca cn cc) ∧ x.cell? ⟨w.heap.size, 1, none⟩ = some (.slice (some ⟨wb, wo, none⟩) wl wc) ∧ x.cell? ⟨w.heap.size, 2, none⟩ = some (.int .i64 (yg : Nat)) ∧ x.cell? ⟨w.heap.size, 3, none⟩ = some (.int .i64 (tp : Nat)) ∧ x.cell? ⟨w.heap.size, 4, none⟩ = some (.int .i64 (od : Nat)) ∧ x.cell? ⟨w.heap.size, 5, none⟩ = some (.slice da dl dc) ∧ x.cell? ⟨w.heap.size, 6, none⟩ = some (.slice (some ⟨wb, wo, none⟩) yg pc) ∧ x.cell? ⟨w.heap.size, 7, none⟩ = some (.int .i64 0) ∧ x.cell? ⟨w.heap.size, 8, none⟩ = some (.int .i64 (tp : Nat)) ∧ x.cell? ⟨w.heap.size, 9, none⟩ = some (.slice (some ⟨wb, wo + yg, none⟩) ol oc) ∧ x.cell? ⟨w.heap.size, 10, none⟩ = some (.int .i64 (yg : Nat)) ∧ x.cell? ⟨w.heap.size, 11, none⟩ = some (.int .i64 (ou : Nat)) ∧ x.cell? ⟨w.heap.size, 12, none⟩ = some (.slice ta tl tc) ∧ x.cell? ⟨w.heap.size + 1, 0, none⟩ = some (.int .i64 ((p : Int) + 1)) ∧ x.cell? ⟨w.heap.size + 1, 1, none⟩ = some (.int .i64 c0) ∧ x.cell? ⟨w.heap.size + 1, 2, none⟩ = some (.slice (some ⟨yb, yo, none⟩) yl yc) ∧ x.cell? ⟨yb, yo + k, none⟩ = some (.int .i64 t1)) := fun x hx => ⟨(boxG (XM.out x hx) 0).1, (boxG (XM.out x hx) 1).1, (boxG (XM.out x hx) 2).1, (boxG (XM.out x hx) 3).1, (boxG (XM.out x hx) 4).1, (boxG (XM.out x hx) 5).1, (boxG (XM.out x hx) 6).1, (boxG (XM.out x hx) 7).1, (boxG (XM.out x hx) 8).1, (boxG (XM.out x hx) 9).1, (boxG (XM.out x hx) 10).1, (boxG (XM.out x hx) 11).1, (boxG (XM.out x hx) 12).1, (boxG (XT.out x hx) 0).1, (boxG (XT.out x hx) 1).1, (boxG (XT.out x hx) 2).1, KT.out x hx⟩
      refine hK.out _ _ (KS.out _ (Below.refl _ _)) (fun hHeld2 => ?_)
      clear hK K
      try simp only [Act.put, List.getElem_toArray, List.getElem_cons_zero, List.getElem_cons_succ, List.setIfInBounds_toArray, List.set_cons_zero, List.set_cons_succ]
      refine wpAnyH_take (i := 8) (v := ?_) rfl (by kernel_rfl) (by kernel_rfl) (by kernel_rfl) (fun _ _ _ h => h) (Or.inl ⟨by kernel_rfl, ?_⟩) (by assumption) ?_
      rotate_left 1
      · intro x hSx
        (try dsimp only at hSx)
        go_simp
        try with_reducible rfl
      try simp only [Act.put, List.getElem_toArray, List.getElem_cons_zero, List.getElem_cons_succ, List.setIfInBounds_toArray, List.set_cons_zero, List.set_cons_succ]
      refine wpAnyH_done (by kernel_rfl) ?_ _
      clear hHeld hHeld2
      clear KS
      cases q
      · have kM0 : w2.cell? ⟨w.heap.size, 0, none⟩ = some (.slice ca cn cc) := (boxG (XM.out w2 (Below.refl _ _)) 0).1
        have kM1 : w2.cell? ⟨w.heap.size, 1, none⟩ = some (.slice (some ⟨wb, wo, none⟩) wl wc) := (boxG (XM.out w2 (Below.refl _ _)) 1).1
        have kM2 : w2.cell? ⟨w.heap.size, 2, none⟩ = some (.int .i64 (yg : Nat)) := (boxG (XM.out w2 (Below.refl _ _)) 2).1
        have kM3 : w2.cell? ⟨w.heap.size, 3, none⟩ = some (.int .i64 (tp : Nat)) := (boxG (XM.out w2 (Below.refl _ _)) 3).1
        have kM4 : w2.cell? ⟨w.heap.size, 4, none⟩ = some (.int .i64 (od : Nat)) := (boxG (XM.out w2 (Below.refl _ _)) 4).1
        have kM5 : w2.cell? ⟨w.heap.size, 5, none⟩ = some (.slice da dl dc) := (boxG (XM.out w2 (Below.refl _ _)) 5).1
        have kM6 : w2.cell? ⟨w.heap.size, 6, none⟩ = some (.slice (some ⟨wb, wo, none⟩) yg pc) := (boxG (XM.out w2 (Below.refl _ _)) 6).1
        have kM7 : w2.cell? ⟨w.heap.size, 7, none⟩ = some (.int .i64 0) := (boxG (XM.out w2 (Below.refl _ _)) 7).1
        have kM8 : w2.cell? ⟨w.heap.size, 8, none⟩ = some (.int .i64 (tp : Nat)) := (boxG (XM.out w2 (Below.refl _ _)) 8).1
        have kM9 : w2.cell? ⟨w.heap.size, 9, none⟩ = some (.slice (some ⟨wb, wo + yg, none⟩) ol oc) := (boxG (XM.out w2 (Below.refl _ _)) 9).1
        have kM10 : w2.cell? ⟨w.heap.size, 10, none⟩ = some (.int .i64 (yg : Nat)) := (boxG (XM.out w2 (Below.refl _ _)) 10).1
        have kM11 : w2.cell? ⟨w.heap.size, 11, none⟩ = some (.int .i64 (ou : Nat)) := (boxG (XM.out w2 (Below.refl _ _)) 11).1
        have kM12 : w2.cell? ⟨w.heap.size, 12, none⟩ = some (.slice ta tl tc) := (boxG (XM.out w2 (Below.refl _ _)) 12).1
        have kT0 : w2.cell? ⟨w.heap.size + 1, 0, none⟩ = some (.int .i64 ((p : Int) + 1)) := (boxG (XT.out w2 (Below.refl _ _)) 0).1
        have kT1 : w2.cell? ⟨w.heap.size + 1, 1, none⟩ = some (.int .i64 c0) := (boxG (XT.out w2 (Below.refl _ _)) 1).1
        have kT2 : w2.cell? ⟨w.heap.size + 1, 2, none⟩ = some (.slice (some ⟨yb, yo, none⟩) yl yc) := (boxG (XT.out w2 (Below.refl _ _)) 2).1
        go_wp2_with fail
        go_ret
        exact ⟨by rw [rng_no' hlt QQ.out]; rfl, B.out w2 (Below.refl _ _)⟩
      have kM0 : w2.cell? ⟨w.heap.size, 0, none⟩ = some (.slice ca cn cc) := (boxG (XM.out w2 (Below.refl _ _)) 0).1
      have kM1 : w2.cell? ⟨w.heap.size, 1, none⟩ = some (.slice (some ⟨wb, wo, none⟩) wl wc) := (boxG (XM.out w2 (Below.refl _ _)) 1).1
      have kM2 : w2.cell? ⟨w.heap.size, 2, none⟩ = some (.int .i64 (yg : Nat)) := (boxG (XM.out w2 (Below.refl _ _)) 2).1
      have kM3 : w2.cell? ⟨w.heap.size, 3, none⟩ = some (.int .i64 (tp : Nat)) := (boxG (XM.out w2 (Below.refl _ _)) 3).1
      have kM4 : w2.cell? ⟨w.heap.size, 4, none⟩ = some (.int .i64 (od : Nat)) := (boxG (XM.out w2 (Below.refl _ _)) 4).1
      have kM5 : w2.cell? ⟨w.heap.size, 5, none⟩ = some (.slice da dl dc) := (boxG (XM.out w2 (Below.refl _ _)) 5).1
      have kM6 : w2.cell? ⟨w.heap.size, 6, none⟩ = some (.slice (some ⟨wb, wo, none⟩) yg pc) := (boxG (XM.out w2 (Below.refl _ _)) 6).1
      have kM7 : w2.cell? ⟨w.heap.size, 7, none⟩ = some (.int .i64 0) := (boxG (XM.out w2 (Below.refl _ _)) 7).1
      have kM8 : w2.cell? ⟨w.heap.size, 8, none⟩ = some (.int .i64 (tp : Nat)) := (boxG (XM.out w2 (Below.refl _ _)) 8).1
      have kM9 : w2.cell? ⟨w.heap.size, 9, none⟩ = some (.slice (some ⟨wb, wo + yg, none⟩) ol oc) := (boxG (XM.out w2 (Below.refl _ _)) 9).1
      have kM10 : w2.cell? ⟨w.heap.size, 10, none⟩ = some (.int .i64 (yg : Nat)) := (boxG (XM.out w2 (Below.refl _ _)) 10).1
      have kM11 : w2.cell? ⟨w.heap.size, 11, none⟩ = some (.int .i64 (ou : Nat)) := (boxG (XM.out w2 (Below.refl _ _)) 11).1
      have kM12 : w2.cell? ⟨w.heap.size, 12, none⟩ = some (.slice ta tl tc) := (boxG (XM.out w2 (Below.refl _ _)) 12).1
      have kT0 : w2.cell? ⟨w.heap.size + 1, 0, none⟩ = some (.int .i64 ((p : Int) + 1)) := (boxG (XT.out w2 (Below.refl _ _)) 0).1
      have kT1 : w2.cell? ⟨w.heap.size + 1, 1, none⟩ = some (.int .i64 c0) := (boxG (XT.out w2 (Below.refl _ _)) 1).1
      have kT2 : w2.cell? ⟨w.heap.size + 1, 2, none⟩ = some (.slice (some ⟨yb, yo, none⟩) yl yc) := (boxG (XT.out w2 (Below.refl _ _)) 2).1
      go_wp2_with fail
      exact ⟨⟨k + 1, by omega, by go_num, by rw [rng_on', HA.out, QQ.out]; rfl, HR2.out⟩, by simp [intOf]; omega⟩
    · have ek : yl = k := by omega
      subst ek
      have kM0 : wr.cell? ⟨w.heap.size, 0, none⟩ = some (.slice ca cn cc) := (boxG (XM.out wr (Below.refl _ _)) 0).1
      have kM1 : wr.cell? ⟨w.heap.size, 1, none⟩ = some (.slice (some ⟨wb, wo, none⟩) wl wc) := (boxG (XM.out wr (Below.refl _ _)) 1).1
      have kM2 : wr.cell? ⟨w.heap.size, 2, none⟩ = some (.int .i64 (yg : Nat)) := (boxG (XM.out wr (Below.refl _ _)) 2).1
      have kM3 : wr.cell? ⟨w.heap.size, 3, none⟩ = some (.int .i64 (tp : Nat)) := (boxG (XM.out wr (Below.refl _ _)) 3).1
      have kM4 : wr.cell? ⟨w.heap.size, 4, none⟩ = some (.int .i64 (od : Nat)) := (boxG (XM.out wr (Below.refl _ _)) 4).1
      have kM5 : wr.cell? ⟨w.heap.size, 5, none⟩ = some (.slice da dl dc) := (boxG (XM.out wr (Below.refl _ _)) 5).1
      have kM6 : wr.cell? ⟨w.heap.size, 6, none⟩ = some (.slice (some ⟨wb, wo, none⟩) yg pc) := (boxG (XM.out wr (Below.refl _ _)) 6).1
      have kM7 : wr.cell? ⟨w.heap.size, 7, none⟩ = some (.int .i64 0) := (boxG (XM.out wr (Below.refl _ _)) 7).1
      have kM8 : wr.cell? ⟨w.heap.size, 8, none⟩ = some (.int .i64 (tp : Nat)) := (boxG (XM.out wr (Below.refl _ _)) 8).1
      have kM9 : wr.cell? ⟨w.heap.size, 9, none⟩ = some (.slice (some ⟨wb, wo + yg, none⟩) ol oc) := (boxG (XM.out wr (Below.refl _ _)) 9).1
      have kM10 : wr.cell? ⟨w.heap.size, 10, none⟩ = some (.int .i64 (yg : Nat)) := (boxG (XM.out wr (Below.refl _ _)) 10).1
      have kM11 : wr.cell? ⟨w.heap.size, 11, none⟩ = some (.int .i64 (ou : Nat)) := (boxG (XM.out wr (Below.refl _ _)) 11).1
      have kM12 : wr.cell? ⟨w.heap.size, 12, none⟩ = some (.slice ta tl tc) := (boxG (XM.out wr (Below.refl _ _)) 12).1
      have kT0 : wr.cell? ⟨w.heap.size + 1, 0, none⟩ = some (.int .i64 ((p : Int) + 1)) := (boxG (XT.out wr (Below.refl _ _)) 0).1
      have kT1 : wr.cell? ⟨w.heap.size + 1, 1, none⟩ = some (.int .i64 c0) := (boxG (XT.out wr (Below.refl _ _)) 1).1
      have kT2 : wr.cell? ⟨w.heap.size + 1, 2, none⟩ = some (.slice ya yl yc) := (boxG (XT.out wr (Below.refl _ _)) 2).1
      go_wp2_with fail
      go_ret
      exact ⟨by rw [HA.out]; rfl, B.out wr (Below.refl _ _)⟩

set_option maxRecDepth 100000 in
set_option maxHeartbeats 8000000 in
theorem cardsImpl (ca : Option Addr) (cn cc wb wo wl wc yg tp od : Nat) (da : Option Addr) (dl dc pc ol oc ou : Nat) (ta : Option Addr) (tl tc : Nat) (p : Nat) (c0 : Int) (ya : Option Addr) (yl yc : Nat) (T : List Th) (ty ws : List Int) (cd : List Bool) (w : World) {D D2 G G2 : Nat → Prop} (h : SlAt thR D w ta tl T) (hi : Inc T) (hl : tl ≤ 1000) (hw : IntsAt G w (some ⟨wb, wo, none⟩) wl ws) (hty : IntsAt D2 w ya yl ty) (hc : SlAt boolR G2 w da dl cd) (h1 : p + hdN c0 + yl ≤ wl) (h2 : wl ≤ wc) (h3 : wl ≤ 1000) (hdl : wl ≤ yg + dl * 4) :
    Calls Try.prog 62 #[.agg #[.slice ca cn cc, .slice (some ⟨wb, wo, none⟩) wl wc, .int .i64 (yg : Nat), .int .i64 (tp : Nat), .int .i64 (od : Nat), .slice da dl dc, .slice (some ⟨wb, wo, none⟩) yg pc, .int .i64 0, .int .i64 (tp : Nat), .slice (some ⟨wb, wo + yg, none⟩) ol oc, .int .i64 (yg : Nat), .int .i64 (ou : Nat), .slice ta tl tc], .agg #[.int .i64 ((p : Int) + 1), .int .i64 c0, .slice ya yl yc]] w fun e w' => e = .returned (.bool ((List.range yl).all (fun k => !(!(inI ((p : Int) + 1) 1 yg) && (ty.getD k 0 != 1 && inI (ws.getD (p + hdN c0 + k) 0) 1 yg)) || cd.getD ((p + hdN c0 + k - yg) / 4) false))) ∧ Below w.heap.size w w' := by
  have HW : Hid (IntsAt G w (some ⟨wb, wo, none⟩) wl ws) := hw
  have HT : Hid (IntsAt D2 w ya yl ty) := hty
  have H : Hid (SlAt thR D w ta tl T) := h
  have IN : Hid (Inc T) := hi
  have HC : Hid (SlAt boolR G2 w da dl cd) := hc
  have hdp := hdN_pos c0
  obtain ⟨Q, hQ⟩ : ∃ Q : Nat → Bool, Q = (fun k => !(!(inI ((p : Int) + 1) 1 yg) && (ty.getD k 0 != 1 && inI (ws.getD (p + hdN c0 + k) 0) 1 yg)) || cd.getD ((p + hdN c0 + k - yg) / 4) false) := ⟨_, rfl⟩
  have HQ : Hid (Q = (fun k => !(!(inI ((p : Int) + 1) 1 yg) && (ty.getD k 0 != 1 && inI (ws.getD (p + hdN c0 + k) 0) 1 yg)) || cd.getD ((p + hdN c0 + k - yg) / 4) false)) := hQ
  rw [← hQ]
  clear hw hty h hi hc hQ
  have hz : w.heap.size + 1 + 1 ≤ ((w.alloc (.cells #[.slice ca cn cc, .slice (some ⟨wb, wo, none⟩) wl wc, .int .i64 (yg : Nat), .int .i64 (tp : Nat), .int .i64 (od : Nat), .slice da dl dc, .slice (some ⟨wb, wo, none⟩) yg pc, .int .i64 0, .int .i64 (tp : Nat), .slice (some ⟨wb, wo + yg, none⟩) ol oc, .int .i64 (yg : Nat), .int .i64 (ou : Nat), .slice ta tl tc] 52)).alloc (.cells #[.int .i64 ((p : Int) + 1), .int .i64 c0, .slice ya yl yc] 57)).heap.size := by simp
  have B : Hid (∀ y, Below (w.heap.size + 1 + 1) ((w.alloc (.cells #[.slice ca cn cc, .slice (some ⟨wb, wo, none⟩) wl wc, .int .i64 (yg : Nat), .int .i64 (tp : Nat), .int .i64 (od : Nat), .slice da dl dc, .slice (some ⟨wb, wo, none⟩) yg pc, .int .i64 0, .int .i64 (tp : Nat), .slice (some ⟨wb, wo + yg, none⟩) ol oc, .int .i64 (yg : Nat), .int .i64 (ou : Nat), .slice ta tl tc] 52)).alloc (.cells #[.int .i64 ((p : Int) + 1), .int .i64 c0, .slice ya yl yc] 57)) y → Below w.heap.size w y) := fun y hy => (((Below.refl _ _).alloc (by first | exact Nat.le_refl _ | (simp; done) | (simp; omega)) _).alloc (by first | exact Nat.le_refl _ | (simp; done) | (simp; omega)) _).trans (hy.mono (by omega))
  have XM : Hid (∀ y, Below (w.heap.size + 1 + 1) ((w.alloc (.cells #[.slice ca cn cc, .slice (some ⟨wb, wo, none⟩) wl wc, .int .i64 (yg : Nat), .int .i64 (tp : Nat), .int .i64 (od : Nat), .slice da dl dc, .slice (some ⟨wb, wo, none⟩) yg pc, .int .i64 0, .int .i64 (tp : Nat), .slice (some ⟨wb, wo + yg, none⟩) ol oc, .int .i64 (yg : Nat), .int .i64 (ou : Nat), .slice ta tl tc] 52)).alloc (.cells #[.int .i64 ((p : Int) + 1), .int .i64 c0, .slice ya yl yc] 57)) y → y.heap[w.heap.size]? = some (.cells #[.slice ca cn cc, .slice (some ⟨wb, wo, none⟩) wl wc, .int .i64 (yg : Nat), .int .i64 (tp : Nat), .int .i64 (od : Nat), .slice da dl dc, .slice (some ⟨wb, wo, none⟩) yg pc, .int .i64 0, .int .i64 (tp : Nat), .slice (some ⟨wb, wo + yg, none⟩) ol oc, .int .i64 (yg : Nat), .int .i64 (ou : Nat), .slice ta tl tc] 52 (0, 0))) := fun y hy => (hy.block _ (by omega)).trans ((Below.heap_alloc _ _ _ (by first | (simp; done) | (simp; omega))).trans (boxN _ _ _ _ (by simp)))
  have lM : w.heap.size < w.heap.size + 1 + 1 := by omega
  have XT : Hid (∀ y, Below (w.heap.size + 1 + 1) ((w.alloc (.cells #[.slice ca cn cc, .slice (some ⟨wb, wo, none⟩) wl wc, .int .i64 (yg : Nat), .int .i64 (tp : Nat), .int .i64 (od : Nat), .slice da dl dc, .slice (some ⟨wb, wo, none⟩) yg pc, .int .i64 0, .int .i64 (tp : Nat), .slice (some ⟨wb, wo + yg, none⟩) ol oc, .int .i64 (yg : Nat), .int .i64 (ou : Nat), .slice ta tl tc] 52)).alloc (.cells #[.int .i64 ((p : Int) + 1), .int .i64 c0, .slice ya yl yc] 57)) y → y.heap[w.heap.size + 1]? = some (.cells #[.int .i64 ((p : Int) + 1), .int .i64 c0, .slice ya yl yc] 57 (0, 0))) := fun y hy => (hy.block _ (by omega)).trans (boxN _ _ _ _ (by simp))
  have lT : w.heap.size + 1 < w.heap.size + 1 + 1 := by omega
  go_enter Try.func62, Try.ntmps62
  go_wp2_with fail
  have BP : Hid (Below (w.heap.size + 1 + 1) ((w.alloc (.cells #[.slice ca cn cc, .slice (some ⟨wb, wo, none⟩) wl wc, .int .i64 (yg : Nat), .int .i64 (tp : Nat), .int .i64 (od : Nat), .slice da dl dc, .slice (some ⟨wb, wo, none⟩) yg pc, .int .i64 0, .int .i64 (tp : Nat), .slice (some ⟨wb, wo + yg, none⟩) ol oc, .int .i64 (yg : Nat), .int .i64 (ou : Nat), .slice ta tl tc] 52)).alloc (.cells #[.int .i64 ((p : Int) + 1), .int .i64 c0, .slice ya yl yc] 57)) ((w.alloc (.cells #[.slice ca cn cc, .slice (some ⟨wb, wo, none⟩) wl wc, .int .i64 (yg : Nat), .int .i64 (tp : Nat), .int .i64 (od : Nat), .slice da dl dc, .slice (some ⟨wb, wo, none⟩) yg pc, .int .i64 0, .int .i64 (tp : Nat), .slice (some ⟨wb, wo + yg, none⟩) ol oc, .int .i64 (yg : Nat), .int .i64 (ou : Nat), .slice ta tl tc] 52)).alloc (.cells #[.int .i64 ((p : Int) + 1), .int .i64 c0, .slice ya yl yc] 57))) := (Below.refl _ _)
  refine (insideImpl ca cn cc wb wo wl wc yg tp od da dl dc pc ol oc ou ta tl tc p c0 ya yl yc _ h1 h2 h3).mono ?_
  rintro e w1 ⟨ra, rc, rfl, hra, hb⟩
  have hq : Below (w.heap.size + 1 + 1) ((w.alloc (.cells #[.slice ca cn cc, .slice (some ⟨wb, wo, none⟩) wl wc, .int .i64 (yg : Nat), .int .i64 (tp : Nat), .int .i64 (od : Nat), .slice da dl dc, .slice (some ⟨wb, wo, none⟩) yg pc, .int .i64 0, .int .i64 (tp : Nat), .slice (some ⟨wb, wo + yg, none⟩) ol oc, .int .i64 (yg : Nat), .int .i64 (ou : Nat), .slice ta tl tc] 52)).alloc (.cells #[.int .i64 ((p : Int) + 1), .int .i64 c0, .slice ya yl yc] 57)) w1 := BP.out.trans (Below.mono hb (Nat.le_trans hz BP.out.size))
  have hzn : w.heap.size + 1 + 1 ≤ w1.heap.size := Nat.le_trans hz hq.size
  replace B : Hid (∀ y, Below w1.heap.size w1 y → Below w.heap.size w y) := fun y hy => B.out y (hq.trans (hy.mono hzn))
  replace XM : Hid (∀ y, Below w1.heap.size w1 y → y.heap[w.heap.size]? = some (.cells #[.slice ca cn cc, .slice (some ⟨wb, wo, none⟩) wl wc, .int .i64 (yg : Nat), .int .i64 (tp : Nat), .int .i64 (od : Nat), .slice da dl dc, .slice (some ⟨wb, wo, none⟩) yg pc, .int .i64 0, .int .i64 (tp : Nat), .slice (some ⟨wb, wo + yg, none⟩) ol oc, .int .i64 (yg : Nat), .int .i64 (ou : Nat), .slice ta tl tc] 52 (0, 0))) := fun y hy => (hy.block _ (by omega)).trans ((hq.block _ (by omega)).trans (XM.out ((w.alloc (.cells #[.slice ca cn cc, .slice (some ⟨wb, wo, none⟩) wl wc, .int .i64 (yg : Nat), .int .i64 (tp : Nat), .int .i64 (od : Nat), .slice da dl dc, .slice (some ⟨wb, wo, none⟩) yg pc, .int .i64 0, .int .i64 (tp : Nat), .slice (some ⟨wb, wo + yg, none⟩) ol oc, .int .i64 (yg : Nat), .int .i64 (ou : Nat), .slice ta tl tc] 52)).alloc (.cells #[.int .i64 ((p : Int) + 1), .int .i64 c0, .slice ya yl yc] 57)) (Below.refl _ _)))
  replace lM : w.heap.size < w1.heap.size := by omega
  replace XT : Hid (∀ y, Below w1.heap.size w1 y → y.heap[w.heap.size + 1]? = some (.cells #[.int .i64 ((p : Int) + 1), .int .i64 c0, .slice ya yl yc] 57 (0, 0))) := fun y hy => (hy.block _ (by omega)).trans ((hq.block _ (by omega)).trans (XT.out ((w.alloc (.cells #[.slice ca cn cc, .slice (some ⟨wb, wo, none⟩) wl wc, .int .i64 (yg : Nat), .int .i64 (tp : Nat), .int .i64 (od : Nat), .slice da dl dc, .slice (some ⟨wb, wo, none⟩) yg pc, .int .i64 0, .int .i64 (tp : Nat), .slice (some ⟨wb, wo + yg, none⟩) ol oc, .int .i64 (yg : Nat), .int .i64 (ou : Nat), .slice ta tl tc] 52)).alloc (.cells #[.int .i64 ((p : Int) + 1), .int .i64 c0, .slice ya yl yc] 57)) (Below.refl _ _)))
  replace lT : w.heap.size + 1 < w1.heap.size := by omega
  clear hq BP hz
  have hz : w1.heap.size ≤ w1.heap.size := Nat.le_refl _
  clear hb
  obtain ⟨lo, hlo⟩ : ∃ q, p + hdN c0 = q := ⟨_, rfl⟩
  rw [hlo] at hra h1 HQ
  have kM0 : w1.cell? ⟨w.heap.size, 0, none⟩ = some (.slice ca cn cc) := (boxG (XM.out w1 (Below.refl _ _)) 0).1
  have kM1 : w1.cell? ⟨w.heap.size, 1, none⟩ = some (.slice (some ⟨wb, wo, none⟩) wl wc) := (boxG (XM.out w1 (Below.refl _ _)) 1).1
  have kM2 : w1.cell? ⟨w.heap.size, 2, none⟩ = some (.int .i64 (yg : Nat)) := (boxG (XM.out w1 (Below.refl _ _)) 2).1
  have kM3 : w1.cell? ⟨w.heap.size, 3, none⟩ = some (.int .i64 (tp : Nat)) := (boxG (XM.out w1 (Below.refl _ _)) 3).1
  have kM4 : w1.cell? ⟨w.heap.size, 4, none⟩ = some (.int .i64 (od : Nat)) := (boxG (XM.out w1 (Below.refl _ _)) 4).1
  have kM5 : w1.cell? ⟨w.heap.size, 5, none⟩ = some (.slice da dl dc) := (boxG (XM.out w1 (Below.refl _ _)) 5).1
  have kM6 : w1.cell? ⟨w.heap.size, 6, none⟩ = some (.slice (some ⟨wb, wo, none⟩) yg pc) := (boxG (XM.out w1 (Below.refl _ _)) 6).1
  have kM7 : w1.cell? ⟨w.heap.size, 7, none⟩ = some (.int .i64 0) := (boxG (XM.out w1 (Below.refl _ _)) 7).1
  have kM8 : w1.cell? ⟨w.heap.size, 8, none⟩ = some (.int .i64 (tp : Nat)) := (boxG (XM.out w1 (Below.refl _ _)) 8).1
  have kM9 : w1.cell? ⟨w.heap.size, 9, none⟩ = some (.slice (some ⟨wb, wo + yg, none⟩) ol oc) := (boxG (XM.out w1 (Below.refl _ _)) 9).1
  have kM10 : w1.cell? ⟨w.heap.size, 10, none⟩ = some (.int .i64 (yg : Nat)) := (boxG (XM.out w1 (Below.refl _ _)) 10).1
  have kM11 : w1.cell? ⟨w.heap.size, 11, none⟩ = some (.int .i64 (ou : Nat)) := (boxG (XM.out w1 (Below.refl _ _)) 11).1
  have kM12 : w1.cell? ⟨w.heap.size, 12, none⟩ = some (.slice ta tl tc) := (boxG (XM.out w1 (Below.refl _ _)) 12).1
  have kT0 : w1.cell? ⟨w.heap.size + 1, 0, none⟩ = some (.int .i64 ((p : Int) + 1)) := (boxG (XT.out w1 (Below.refl _ _)) 0).1
  have kT1 : w1.cell? ⟨w.heap.size + 1, 1, none⟩ = some (.int .i64 c0) := (boxG (XT.out w1 (Below.refl _ _)) 1).1
  have kT2 : w1.cell? ⟨w.heap.size + 1, 2, none⟩ = some (.slice ya yl yc) := (boxG (XT.out w1 (Below.refl _ _)) 2).1
  go_wp2_with fail
  clear kM0 kM1 kM2 kM3 kM4 kM5 kM6 kM7 kM8 kM9 kM10 kM11 kM12 kT0 kT1 kT2
  go_loopw [11] (fun t wr => ∃ k : Nat, k ≤ yl ∧ t = .int .i64 k ∧ (List.range k).all Q = true ∧ Below w1.heap.size w1 wr) (fun t _ => yl - (intOf t).toNat)
  case atStart => exact ⟨0, Nat.zero_le _, rfl, rfl, Below.refl _ _⟩
  case round =>
    obtain ⟨k, hk, rfl, hall, hr⟩ := hrel
    have HA : Hid ((List.range k).all Q = true) := hall
    have HR1 : Hid (Below w1.heap.size w1 wr) := hr
    clear hall
    have hzn : w1.heap.size ≤ wr.heap.size := Nat.le_trans hz (Below.size hr)
    replace B : Hid (∀ y, Below wr.heap.size wr y → Below w.heap.size w y) := fun y hy => B.out y (Below.trans hr (hy.mono hzn))
    replace XM : Hid (∀ y, Below wr.heap.size wr y → y.heap[w.heap.size]? = some (.cells #[.slice ca cn cc, .slice (some ⟨wb, wo, none⟩) wl wc, .int .i64 (yg : Nat), .int .i64 (tp : Nat), .int .i64 (od : Nat), .slice da dl dc, .slice (some ⟨wb, wo, none⟩) yg pc, .int .i64 0, .int .i64 (tp : Nat), .slice (some ⟨wb, wo + yg, none⟩) ol oc, .int .i64 (yg : Nat), .int .i64 (ou : Nat), .slice ta tl tc] 52 (0, 0))) := fun y hy => XM.out y (Below.trans hr (hy.mono hzn))
    replace lM : w.heap.size < wr.heap.size := by omega
    replace XT : Hid (∀ y, Below wr.heap.size wr y → y.heap[w.heap.size + 1]? = some (.cells #[.int .i64 ((p : Int) + 1), .int .i64 c0, .slice ya yl yc] 57 (0, 0))) := fun y hy => XT.out y (Below.trans hr (hy.mono hzn))
    replace lT : w.heap.size + 1 < wr.heap.size := by omega
    clear hz
    have hz : wr.heap.size ≤ wr.heap.size := Nat.le_refl _
    clear hr
    by_cases hlt : k < yl
    · obtain rfl := hra (by omega)
      obtain ⟨_, _, e0, _, hcs⟩ := (HW.out.later (B.out wr (Below.refl _ _))).one (lo + k) (by omega)
      cases e0
      have cW := hcs (lo + k) (by omega)
      rw [← Nat.add_assoc] at cW
      obtain ⟨v, hv⟩ : ∃ v, ws.getD (lo + k) 0 = v := ⟨_, rfl⟩
      rw [hv] at cW
      have hvf := HW.out.fits (lo + k)
      rw [hv] at hvf
      obtain ⟨yb, yo, rfl, _, hct⟩ := (HT.out.later (B.out wr (Below.refl _ _))).one k hlt
      have cT := hct k hlt
      obtain ⟨t1, ht1⟩ : ∃ t1, ty.getD k 0 = t1 := ⟨_, rfl⟩
      rw [ht1] at cT
      have hyb := World.block_lt_of_cell? wr _ cT
      simp only at hyb
      have HT1 : Hid (ty.getD k 0 = t1) := ht1
      have KT : Hid (∀ y, Below wr.heap.size wr y → y.cell? ⟨yb, yo + k, none⟩ = some (.int .i64 t1)) := fun y hy => (hy.cell (p := ⟨yb, yo + k, none⟩) hyb).trans cT
      have hlk : lo + k ≤ 1000 := by omega
      clear hcs hct
      skip
      have QK : Hid (Q k = (!(!(inI ((p : Int) + 1) 1 yg) && (t1 != 1 && inI v 1 yg)) || cd.getD ((lo + k - yg) / 4) false)) := by show _ = _; rw [HQ.out]; show (!(!(inI ((p : Int) + 1) 1 yg) && (ty.getD k 0 != 1 && inI (ws.getD (lo + k) 0) 1 yg)) || cd.getD ((lo + k - yg) / 4) false) = _; rw [ht1, hv]
      clear hv ht1
      obtain ⟨nd, hnd⟩ : ∃ q, (!(inI ((p : Int) + 1) 1 yg) && (t1 != 1 && inI v 1 yg)) = q := ⟨_, rfl⟩
      have ND : Hid ((!(inI ((p : Int) + 1) 1 yg) && (t1 != 1 && inI v 1 yg)) = nd) := hnd
      have NY : nd = true → yg ≤ p := fun h => by
        rw [h, Bool.and_eq_true] at hnd
        rcases Nat.lt_or_ge p yg with h2 | h2
        · have : inI ((p : Int) + 1) 1 yg = true := inI_iff.2 (by omega)
          rw [this] at hnd
          simp at hnd
        · exact h2
      rw [hnd] at QK
      clear hnd
      cases nd
      · clear NY cT
        have QQ : Hid (Q k = true) := QK.out
        have kM0 : wr.cell? ⟨w.heap.size, 0, none⟩ = some (.slice ca cn cc) := (boxG (XM.out wr (Below.refl _ _)) 0).1
        have kM1 : wr.cell? ⟨w.heap.size, 1, none⟩ = some (.slice (some ⟨wb, wo, none⟩) wl wc) := (boxG (XM.out wr (Below.refl _ _)) 1).1
        have kM2 : wr.cell? ⟨w.heap.size, 2, none⟩ = some (.int .i64 (yg : Nat)) := (boxG (XM.out wr (Below.refl _ _)) 2).1
        have kM3 : wr.cell? ⟨w.heap.size, 3, none⟩ = some (.int .i64 (tp : Nat)) := (boxG (XM.out wr (Below.refl _ _)) 3).1
        have kM4 : wr.cell? ⟨w.heap.size, 4, none⟩ = some (.int .i64 (od : Nat)) := (boxG (XM.out wr (Below.refl _ _)) 4).1
        have kM5 : wr.cell? ⟨w.heap.size, 5, none⟩ = some (.slice da dl dc) := (boxG (XM.out wr (Below.refl _ _)) 5).1
        have kM6 : wr.cell? ⟨w.heap.size, 6, none⟩ = some (.slice (some ⟨wb, wo, none⟩) yg pc) := (boxG (XM.out wr (Below.refl _ _)) 6).1
        have kM7 : wr.cell? ⟨w.heap.size, 7, none⟩ = some (.int .i64 0) := (boxG (XM.out wr (Below.refl _ _)) 7).1
        have kM8 : wr.cell? ⟨w.heap.size, 8, none⟩ = some (.int .i64 (tp : Nat)) := (boxG (XM.out wr (Below.refl _ _)) 8).1
        have kM9 : wr.cell? ⟨w.heap.size, 9, none⟩ = some (.slice (some ⟨wb, wo + yg, none⟩) ol oc) := (boxG (XM.out wr (Below.refl _ _)) 9).1
        have kM10 : wr.cell? ⟨w.heap.size, 10, none⟩ = some (.int .i64 (yg : Nat)) := (boxG (XM.out wr (Below.refl _ _)) 10).1
        have kM11 : wr.cell? ⟨w.heap.size, 11, none⟩ = some (.int .i64 (ou : Nat)) := (boxG (XM.out wr (Below.refl _ _)) 11).1
        have kM12 : wr.cell? ⟨w.heap.size, 12, none⟩ = some (.slice ta tl tc) := (boxG (XM.out wr (Below.refl _ _)) 12).1
        have kT0 : wr.cell? ⟨w.heap.size + 1, 0, none⟩ = some (.int .i64 ((p : Int) + 1)) := (boxG (XT.out wr (Below.refl _ _)) 0).1
        have kT1 : wr.cell? ⟨w.heap.size + 1, 1, none⟩ = some (.int .i64 c0) := (boxG (XT.out wr (Below.refl _ _)) 1).1
        have kT2 : wr.cell? ⟨w.heap.size + 1, 2, none⟩ = some (.slice (some ⟨yb, yo, none⟩) yl yc) := (boxG (XT.out wr (Below.refl _ _)) 2).1
        go_wp2_with fail
        clear kM0 kM1 kM2 kM3 kM4 kM5 kM6 kM7 kM8 kM9 kM10 kM11 kM12 kT0 kT1 kT2
        clear cW
        have KS : Hid (∀ x, Below (wr.heap.size) wr x → x.cell? ⟨w.heap.size, 0, none⟩ = some (.slice ca cn cc) ∧ x.cell? ⟨w.heap.size, 1, none⟩ = some (.slice (some ⟨wb, wo, none⟩) wl wc) ∧ x.cell? ⟨w.heap.size, 2, none⟩ = some (.int .i64 (yg : Nat)) ∧ x.cell? ⟨w.heap.size, 3, none⟩ = some (.int .i64 (tp : Nat)) ∧ x.cell? ⟨w.heap.size, 4, none⟩ = some (.int .i64 (od : Nat)) ∧ x.cell? ⟨w.heap.size, 5, none⟩ = some (.slice da dl dc) ∧ x.cell? ⟨w.heap.size, 6, none⟩ = some (.slice (some ⟨wb, wo, none⟩) yg pc) ∧ x.cell? ⟨w.heap.size, 7, none⟩ = some (.int .i64 0) ∧ x.cell? ⟨w.heap.size, 8, none⟩ = some (.int .i64 (tp : Nat)) ∧ x.cell? ⟨w.heap.size, 9, none⟩ = some (.slice (some ⟨wb, wo + yg, none⟩) ol oc) ∧ x.cell? ⟨w.heap.size, 10, none⟩ = some (.int .i64 (yg : Nat)) ∧ x.cell? ⟨w.heap.size, 11, none⟩ = some (.int .i64 (ou : Nat)) ∧ x.cell? ⟨w.heap.size, 12, none⟩ = some (.slice ta tl tc) ∧ x.cell? ⟨w.heap.size + 1, 0, none⟩ = some (.int .i64 ((p : Int) + 1)) ∧ x.cell? ⟨w.heap.size + 1, 1, none⟩ = some (.int .i64 c0) ∧ x.cell? ⟨w.heap.size + 1, 2, none⟩ = some (.slice (some ⟨yb, yo, none⟩) yl yc)) := fun x hx => ⟨(boxG (XM.out x hx) 0).1, (boxG (XM.out x hx) 1).1, (boxG (XM.out x hx) 2).1, (boxG (XM.out x hx) 3).1, (boxG (XM.out x hx) 4).1, (boxG (XM.out x hx) 5).1, (boxG (XM.out x hx) 6).1, (boxG (XM.out x hx) 7).1, (boxG (XM.out x hx) 8).1, (boxG (XM.out x hx) 9).1, (boxG (XM.out x hx) 10).1, (boxG (XM.out x hx) 11).1, (boxG (XM.out x hx) 12).1, (boxG (XT.out x hx) 0).1, (boxG (XT.out x hx) 1).1, (boxG (XT.out x hx) 2).1⟩
        refine wp_region_held_drew (S := fun x => x.cell? ⟨w.heap.size, 0, none⟩ = some (.slice ca cn cc) ∧ x.cell? ⟨w.heap.size, 1, none⟩ = some (.slice (some ⟨wb, wo, none⟩) wl wc) ∧ x.cell? ⟨w.heap.size, 2, none⟩ = some (.int .i64 (yg : Nat)) ∧ x.cell? ⟨w.heap.size, 3, none⟩ = some (.int .i64 (tp : Nat)) ∧ x.cell? ⟨w.heap.size, 4, none⟩ = some (.int .i64 (od : Nat)) ∧ x.cell? ⟨w.heap.size, 5, none⟩ = some (.slice da dl dc) ∧ x.cell? ⟨w.heap.size, 6, none⟩ = some (.slice (some ⟨wb, wo, none⟩) yg pc) ∧ x.cell? ⟨w.heap.size, 7, none⟩ = some (.int .i64 0) ∧ x.cell? ⟨w.heap.size, 8, none⟩ = some (.int .i64 (tp : Nat)) ∧ x.cell? ⟨w.heap.size, 9, none⟩ = some (.slice (some ⟨wb, wo + yg, none⟩) ol oc) ∧ x.cell? ⟨w.heap.size, 10, none⟩ = some (.int .i64 (yg : Nat)) ∧ x.cell? ⟨w.heap.size, 11, none⟩ = some (.int .i64 (ou : Nat)) ∧ x.cell? ⟨w.heap.size, 12, none⟩ = some (.slice ta tl tc) ∧ x.cell? ⟨w.heap.size + 1, 0, none⟩ = some (.int .i64 ((p : Int) + 1)) ∧ x.cell? ⟨w.heap.size + 1, 1, none⟩ = some (.int .i64 c0) ∧ x.cell? ⟨w.heap.size + 1, 2, none⟩ = some (.slice (some ⟨yb, yo, none⟩) yl yc)) (by kernel_rfl) ?_ (fun hHeld => ?_)
        · exact KS.out _ (bdrew (Below.refl _ _))
        refine wpAnyH_take (i := 0) (v := ?_) rfl (by kernel_rfl) (by kernel_rfl) (by kernel_rfl) (fun _ _ _ h => h) (Or.inl ⟨by kernel_rfl, ?_⟩) (by assumption) ?_
        rotate_left 1
        · intro x hSx
          (try dsimp only at hSx)
          go_simp
          try with_reducible rfl
        try simp only [Act.put, List.getElem_toArray, List.getElem_cons_zero, List.setIfInBounds_toArray, List.set_cons_zero, List.set_cons_succ]
        refine wpAnyH_take (i := 1) (v := ?_) rfl (by kernel_rfl) (by kernel_rfl) (by kernel_rfl) (fun _ _ _ h => h) (Or.inl ⟨by kernel_rfl, ?_⟩) (by assumption) ?_
        rotate_left 1
        · intro x hSx
          (try dsimp only at hSx)
          go_simp
          try with_reducible rfl
        try simp only [Act.put, List.getElem_toArray, List.getElem_cons_zero, List.getElem_cons_succ, List.setIfInBounds_toArray, List.set_cons_zero, List.set_cons_succ]
        refine wpAnyH_take (i := 2) (v := ?_) rfl (by kernel_rfl) (by kernel_rfl) (by kernel_rfl) (fun _ _ _ h => h) (Or.inl ⟨by kernel_rfl, ?_⟩) (by assumption) ?_
        rotate_left 1
        · intro x hSx
          (try dsimp only at hSx)
          go_simp
          try with_reducible rfl
        try simp only [Act.put, List.getElem_toArray, List.getElem_cons_zero, List.getElem_cons_succ, List.setIfInBounds_toArray, List.set_cons_zero, List.set_cons_succ]
        refine wpAnyH_take (i := 3) (v := ?_) rfl (by kernel_rfl) (by kernel_rfl) (by kernel_rfl) (fun _ _ _ h => h) (Or.inl ⟨by kernel_rfl, ?_⟩) (by assumption) ?_
        rotate_left 1
        · intro x hSx
          (try dsimp only at hSx)
          go_simp
          try with_reducible rfl
        try simp only [Act.put, List.getElem_toArray, List.getElem_cons_zero, List.getElem_cons_succ, List.setIfInBounds_toArray, List.set_cons_zero, List.set_cons_succ]
        refine wpAnyH_ready (rs := [4]) (by kernel_rfl) (by simp) ?_
        refine AllReadyH.cons rfl (fun K hK => ?_) AllReadyH.nil
        go_simp
        go_at_call 76
        have BP : Hid (Below (wr.heap.size) wr wr.drew) := (bdrew (Below.refl _ _))
        refine (needsImpl ca cn cc wb wo wl wc yg tp od da dl dc pc ol oc ou ta tl tc p c0 (some ⟨yb, yo, none⟩) yl yc k v ty _ (HT.out.later (B.out _ BP.out)) hlt).mono ?_
        rintro e w2 ⟨rfl, hb⟩
        have HR2 : Hid (Below w1.heap.size w1 w2) := HR1.out.trans ((BP.out.trans (hb.mono BP.out.size)).mono HR1.out.size)
        rw [HT1.out, ND.out]
        have hq : Below (wr.heap.size) wr w2 := BP.out.trans (Below.mono hb (Nat.le_trans hz BP.out.size))
        have hzn : wr.heap.size ≤ w2.heap.size := Nat.le_trans hz hq.size
        replace B : Hid (∀ y, Below w2.heap.size w2 y → Below w.heap.size w y) := fun y hy => B.out y (hq.trans (hy.mono hzn))
        replace XM : Hid (∀ y, Below w2.heap.size w2 y → y.heap[w.heap.size]? = some (.cells #[.slice ca cn cc, .slice (some ⟨wb, wo, none⟩) wl wc, .int .i64 (yg : Nat), .int .i64 (tp : Nat), .int .i64 (od : Nat), .slice da dl dc, .slice (some ⟨wb, wo, none⟩) yg pc, .int .i64 0, .int .i64 (tp : Nat), .slice (some ⟨wb, wo + yg, none⟩) ol oc, .int .i64 (yg : Nat), .int .i64 (ou : Nat), .slice ta tl tc] 52 (0, 0))) := fun y hy => (hy.block _ (by omega)).trans ((hq.block _ (by omega)).trans (XM.out wr (Below.refl _ _)))
        replace lM : w.heap.size < w2.heap.size := by omega
        replace XT : Hid (∀ y, Below w2.heap.size w2 y → y.heap[w.heap.size + 1]? = some (.cells #[.int .i64 ((p : Int) + 1), .int .i64 c0, .slice (some ⟨yb, yo, none⟩) yl yc] 57 (0, 0))) := fun y hy => (hy.block _ (by omega)).trans ((hq.block _ (by omega)).trans (XT.out wr (Below.refl _ _)))
        replace lT : w.heap.size + 1 < w2.heap.size := by omega
        clear hq BP hz
        have hz : w2.heap.size ≤ w2.heap.size := Nat.le_refl _
        clear hb
        go_wp2_with fail
        replace KS : Hid (∀ x, Below (w2.heap.size) w2 x → x.cell? ⟨w.heap.size, 0, none⟩ = some (.slice ca cn cc) ∧ x.cell? ⟨w.heap.size, 1, none⟩ = some (.slice (some ⟨wb, wo, none⟩) wl wc) ∧ x.cell? ⟨w.heap.size, 2, none⟩ = some (.int .i64 (yg : Nat)) ∧ x.cell? ⟨w.heap.size, 3, none⟩ = some (.int .i64 (tp : Nat)) ∧ x.cell? ⟨w.heap.size, 4, none⟩ = some (.int .i64 (od : Nat)) ∧ x.cell? ⟨w.heap.size, 5, none⟩ = some (.slice da dl dc) ∧ x.cell? ⟨w.heap.size, 6, none⟩ = some (.slice (some ⟨wb, wo, none⟩) yg pc) ∧ x.cell? ⟨w.heap.size, 7, none⟩ = some (.int .i64 0) ∧ x.cell? ⟨w.heap.size, 8, none⟩ = some (.int .i64 (tp : Nat)) ∧ x.cell? ⟨w.heap.size, 9, none⟩ = some (.slice (some ⟨wb, wo + yg, none⟩) ol oc) ∧ x.cell? ⟨w.heap.size, 10, none⟩ = some (.int .i64 (yg : Nat)) ∧ x.cell? ⟨w.heap.size, 11, none⟩ = some (.int .i64 (ou : Nat)) ∧ x.cell? ⟨w.heap.size, 12, none⟩ = some (.slice ta tl tc) ∧ x.cell? ⟨w.heap.size + 1, 0, none⟩ = some (.int .i64 ((p : Int) + 1)) ∧ x.cell? ⟨w.heap.size + 1, 1, none⟩ = some (.int .i64 c0) ∧ x.cell? ⟨w.heap.size + 1, 2, none⟩ = some (.slice (some ⟨yb, yo, none⟩) yl yc)) := fun x hx => ⟨(boxG (XM.out x hx) 0).1, (boxG (XM.out x hx) 1).1, (boxG (XM.out x hx) 2).1, (boxG (XM.out x hx) 3).1, (boxG (XM.out x hx) 4).1, (boxG (XM.out x hx) 5).1, (boxG (XM.out x hx) 6).1, (boxG (XM.out x hx) 7).1, (boxG (XM.out x hx) 8).1, (boxG (XM.out x hx) 9).1, (boxG (XM.out x hx) 10).1, (boxG (XM.out x hx) 11).1, (boxG (XM.out x hx) 12).1, (boxG (XT.out x hx) 0).1, (boxG (XT.out x hx) 1).1, (boxG (XT.out x hx) 2).1⟩
        refine hK.out _ _ (KS.out _ (Below.refl _ _)) (fun hHeld2 => ?_)
        clear hK K
        try simp only [Act.put, List.getElem_toArray, List.getElem_cons_zero, List.getElem_cons_succ, List.setIfInBounds_toArray, List.set_cons_zero, List.set_cons_succ]
        refine wpAnyH_take (i := 5) (v := ?_) rfl (by kernel_rfl) (by kernel_rfl) (by kernel_rfl) (fun _ _ _ h => h) (Or.inl ⟨by kernel_rfl, ?_⟩) (by assumption) ?_
        rotate_left 1
        · intro x hSx
          (try dsimp only at hSx)
          go_simp
          try with_reducible rfl
        try simp only [Act.put, List.getElem_toArray, List.getElem_cons_zero, List.getElem_cons_succ, List.setIfInBounds_toArray, List.set_cons_zero, List.set_cons_succ]
        refine wpAnyH_take (i := 6) (v := undef) rfl (by kernel_rfl) (by kernel_rfl) (by kernel_rfl) (fun _ _ _ h => h) (Or.inr ⟨by kernel_rfl, rfl⟩) (by assumption) ?_
        try simp only [Act.put, List.getElem_toArray, List.getElem_cons_zero, List.getElem_cons_succ, List.setIfInBounds_toArray, List.set_cons_zero, List.set_cons_succ]
        refine wpAnyH_take (i := 7) (v := undef) rfl (by kernel_rfl) (by kernel_rfl) (by kernel_rfl) (fun _ _ _ h => h) (Or.inr ⟨by kernel_rfl, rfl⟩) (by assumption) ?_
        try simp only [Act.put, List.getElem_toArray, List.getElem_cons_zero, List.getElem_cons_succ, List.setIfInBounds_toArray, List.set_cons_zero, List.set_cons_succ]
        refine wpAnyH_take (i := 8) (v := undef) rfl (by kernel_rfl) (by kernel_rfl) (by kernel_rfl) (fun _ _ _ h => h) (Or.inr ⟨by kernel_rfl, rfl⟩) (by assumption) ?_
        try simp only [Act.put, List.getElem_toArray, List.getElem_cons_zero, List.getElem_cons_succ, List.setIfInBounds_toArray, List.set_cons_zero, List.set_cons_succ]
        refine wpAnyH_take (i := 9) (v := undef) rfl (by kernel_rfl) (by kernel_rfl) (by kernel_rfl) (fun _ _ _ h => h) (Or.inr ⟨by kernel_rfl, rfl⟩) (by assumption) ?_
        try simp only [Act.put, List.getElem_toArray, List.getElem_cons_zero, List.getElem_cons_succ, List.setIfInBounds_toArray, List.set_cons_zero, List.set_cons_succ]
        refine wpAnyH_take (i := 10) (v := undef) rfl (by kernel_rfl) (by kernel_rfl) (by kernel_rfl) (fun _ _ _ h => h) (Or.inr ⟨by kernel_rfl, rfl⟩) (by assumption) ?_
        try simp only [Act.put, List.getElem_toArray, List.getElem_cons_zero, List.getElem_cons_succ, List.setIfInBounds_toArray, List.set_cons_zero, List.set_cons_succ]
        refine wpAnyH_take (i := 11) (v := undef) rfl (by kernel_rfl) (by kernel_rfl) (by kernel_rfl) (fun _ _ _ h => h) (Or.inr ⟨by kernel_rfl, rfl⟩) (by assumption) ?_
        try simp only [Act.put, List.getElem_toArray, List.getElem_cons_zero, List.getElem_cons_succ, List.setIfInBounds_toArray, List.set_cons_zero, List.set_cons_succ]
        refine wpAnyH_take (i := 12) (v := undef) rfl (by kernel_rfl) (by kernel_rfl) (by kernel_rfl) (fun _ _ _ h => h) (Or.inr ⟨by kernel_rfl, rfl⟩) (by assumption) ?_
        try simp only [Act.put, List.getElem_toArray, List.getElem_cons_zero, List.getElem_cons_succ, List.setIfInBounds_toArray, List.set_cons_zero, List.set_cons_succ]
        refine wpAnyH_take (i := 13) (v := undef) rfl (by kernel_rfl) (by kernel_rfl) (by kernel_rfl) (fun _ _ _ h => h) (Or.inr ⟨by kernel_rfl, rfl⟩) (by assumption) ?_
        try simp only [Act.put, List.getElem_toArray, List.getElem_cons_zero, List.getElem_cons_succ, List.setIfInBounds_toArray, List.set_cons_zero, List.set_cons_succ]
        refine wpAnyH_take (i := 14) (v := undef) rfl (by kernel_rfl) (by kernel_rfl) (by kernel_rfl) (fun _ _ _ h => h) (Or.inr ⟨by kernel_rfl, rfl⟩) (by assumption) ?_
        try simp only [Act.put, List.getElem_toArray, List.getElem_cons_zero, List.getElem_cons_succ, List.setIfInBounds_toArray, List.set_cons_zero, List.set_cons_succ]
        refine wpAnyH_take (i := 15) (v := undef) rfl (by kernel_rfl) (by kernel_rfl) (by kernel_rfl) (fun _ _ _ h => h) (Or.inr ⟨by kernel_rfl, rfl⟩) (by assumption) ?_
        try simp only [Act.put, List.getElem_toArray, List.getElem_cons_zero, List.getElem_cons_succ, List.setIfInBounds_toArray, List.set_cons_zero, List.set_cons_succ]
        refine wpAnyH_take (i := 16) (v := undef) rfl (by kernel_rfl) (by kernel_rfl) (by kernel_rfl) (fun _ _ _ h => h) (Or.inr ⟨by kernel_rfl, rfl⟩) (by assumption) ?_
        try simp only [Act.put, List.getElem_toArray, List.getElem_cons_zero, List.getElem_cons_succ, List.setIfInBounds_toArray, List.set_cons_zero, List.set_cons_succ]
        refine wpAnyH_take (i := 17) (v := ?_) rfl (by kernel_rfl) (by kernel_rfl) (by kernel_rfl) (fun _ _ _ h => h) (Or.inl ⟨by kernel_rfl, ?_⟩) (by assumption) ?_
        rotate_left 1
        · intro x hSx
          (try dsimp only at hSx)
          go_simp
          try with_reducible rfl
        try simp only [Act.put, List.getElem_toArray, List.getElem_cons_zero, List.getElem_cons_succ, List.setIfInBounds_toArray, List.set_cons_zero, List.set_cons_succ]
        refine wpAnyH_done (by kernel_rfl) ?_ _
        clear hHeld hHeld2
        clear KS
        have kM0 : w2.cell? ⟨w.heap.size, 0, none⟩ = some (.slice ca cn cc) := (boxG (XM.out w2 (Below.refl _ _)) 0).1
        have kM1 : w2.cell? ⟨w.heap.size, 1, none⟩ = some (.slice (some ⟨wb, wo, none⟩) wl wc) := (boxG (XM.out w2 (Below.refl _ _)) 1).1
        have kM2 : w2.cell? ⟨w.heap.size, 2, none⟩ = some (.int .i64 (yg : Nat)) := (boxG (XM.out w2 (Below.refl _ _)) 2).1
        have kM3 : w2.cell? ⟨w.heap.size, 3, none⟩ = some (.int .i64 (tp : Nat)) := (boxG (XM.out w2 (Below.refl _ _)) 3).1
        have kM4 : w2.cell? ⟨w.heap.size, 4, none⟩ = some (.int .i64 (od : Nat)) := (boxG (XM.out w2 (Below.refl _ _)) 4).1
        have kM5 : w2.cell? ⟨w.heap.size, 5, none⟩ = some (.slice da dl dc) := (boxG (XM.out w2 (Below.refl _ _)) 5).1
        have kM6 : w2.cell? ⟨w.heap.size, 6, none⟩ = some (.slice (some ⟨wb, wo, none⟩) yg pc) := (boxG (XM.out w2 (Below.refl _ _)) 6).1
        have kM7 : w2.cell? ⟨w.heap.size, 7, none⟩ = some (.int .i64 0) := (boxG (XM.out w2 (Below.refl _ _)) 7).1
        have kM8 : w2.cell? ⟨w.heap.size, 8, none⟩ = some (.int .i64 (tp : Nat)) := (boxG (XM.out w2 (Below.refl _ _)) 8).1
        have kM9 : w2.cell? ⟨w.heap.size, 9, none⟩ = some (.slice (some ⟨wb, wo + yg, none⟩) ol oc) := (boxG (XM.out w2 (Below.refl _ _)) 9).1
        have kM10 : w2.cell? ⟨w.heap.size, 10, none⟩ = some (.int .i64 (yg : Nat)) := (boxG (XM.out w2 (Below.refl _ _)) 10).1
        have kM11 : w2.cell? ⟨w.heap.size, 11, none⟩ = some (.int .i64 (ou : Nat)) := (boxG (XM.out w2 (Below.refl _ _)) 11).1
        have kM12 : w2.cell? ⟨w.heap.size, 12, none⟩ = some (.slice ta tl tc) := (boxG (XM.out w2 (Below.refl _ _)) 12).1
        have kT0 : w2.cell? ⟨w.heap.size + 1, 0, none⟩ = some (.int .i64 ((p : Int) + 1)) := (boxG (XT.out w2 (Below.refl _ _)) 0).1
        have kT1 : w2.cell? ⟨w.heap.size + 1, 1, none⟩ = some (.int .i64 c0) := (boxG (XT.out w2 (Below.refl _ _)) 1).1
        have kT2 : w2.cell? ⟨w.heap.size + 1, 2, none⟩ = some (.slice (some ⟨yb, yo, none⟩) yl yc) := (boxG (XT.out w2 (Below.refl _ _)) 2).1
        go_wp2_with fail
        exact ⟨⟨k + 1, by omega, by go_num, by rw [rng_on', HA.out, QQ.out]; rfl, HR2.out⟩, by simp [intOf]; omega⟩
      · have ny := NY rfl
        clear NY cT
        obtain ⟨ci, hci⟩ : ∃ q, (lo + k - yg) / 4 = q := ⟨_, rfl⟩
        have hcl : ci < dl := by omega
        obtain ⟨db, dof, rfl, _, d0⟩ := (HC.out.later (B.out wr (Below.refl _ _))).tru ci hcl
        obtain ⟨cv, hcv⟩ : ∃ q, cd.getD ci false = q := ⟨_, rfl⟩
        rw [hcv] at d0
        have hdb := World.block_lt_of_cell? wr _ d0
        simp only at hdb
        have QQ : Hid (Q k = cv) := by show _ = _; rw [QK.out, hci, hcv]; rfl
        have KD : Hid (∀ y, Below wr.heap.size wr y → y.cell? ⟨db, dof + ci, none⟩ = some (.bool cv)) := fun y hy => (hy.cell (p := ⟨db, dof + ci, none⟩) hdb).trans d0
        clear hcv d0
        have kM0 : wr.cell? ⟨w.heap.size, 0, none⟩ = some (.slice ca cn cc) := (boxG (XM.out wr (Below.refl _ _)) 0).1
        have kM1 : wr.cell? ⟨w.heap.size, 1, none⟩ = some (.slice (some ⟨wb, wo, none⟩) wl wc) := (boxG (XM.out wr (Below.refl _ _)) 1).1
        have kM2 : wr.cell? ⟨w.heap.size, 2, none⟩ = some (.int .i64 (yg : Nat)) := (boxG (XM.out wr (Below.refl _ _)) 2).1
        have kM3 : wr.cell? ⟨w.heap.size, 3, none⟩ = some (.int .i64 (tp : Nat)) := (boxG (XM.out wr (Below.refl _ _)) 3).1
        have kM4 : wr.cell? ⟨w.heap.size, 4, none⟩ = some (.int .i64 (od : Nat)) := (boxG (XM.out wr (Below.refl _ _)) 4).1
        have kM5 : wr.cell? ⟨w.heap.size, 5, none⟩ = some (.slice (some ⟨db, dof, none⟩) dl dc) := (boxG (XM.out wr (Below.refl _ _)) 5).1
        have kM6 : wr.cell? ⟨w.heap.size, 6, none⟩ = some (.slice (some ⟨wb, wo, none⟩) yg pc) := (boxG (XM.out wr (Below.refl _ _)) 6).1
        have kM7 : wr.cell? ⟨w.heap.size, 7, none⟩ = some (.int .i64 0) := (boxG (XM.out wr (Below.refl _ _)) 7).1
        have kM8 : wr.cell? ⟨w.heap.size, 8, none⟩ = some (.int .i64 (tp : Nat)) := (boxG (XM.out wr (Below.refl _ _)) 8).1
        have kM9 : wr.cell? ⟨w.heap.size, 9, none⟩ = some (.slice (some ⟨wb, wo + yg, none⟩) ol oc) := (boxG (XM.out wr (Below.refl _ _)) 9).1
        have kM10 : wr.cell? ⟨w.heap.size, 10, none⟩ = some (.int .i64 (yg : Nat)) := (boxG (XM.out wr (Below.refl _ _)) 10).1
        have kM11 : wr.cell? ⟨w.heap.size, 11, none⟩ = some (.int .i64 (ou : Nat)) := (boxG (XM.out wr (Below.refl _ _)) 11).1
        have kM12 : wr.cell? ⟨w.heap.size, 12, none⟩ = some (.slice ta tl tc) := (boxG (XM.out wr (Below.refl _ _)) 12).1
        have kT0 : wr.cell? ⟨w.heap.size + 1, 0, none⟩ = some (.int .i64 ((p : Int) + 1)) := (boxG (XT.out wr (Below.refl _ _)) 0).1
        have kT1 : wr.cell? ⟨w.heap.size + 1, 1, none⟩ = some (.int .i64 c0) := (boxG (XT.out wr (Below.refl _ _)) 1).1
        have kT2 : wr.cell? ⟨w.heap.size + 1, 2, none⟩ = some (.slice (some ⟨yb, yo, none⟩) yl yc) := (boxG (XT.out wr (Below.refl _ _)) 2).1
        go_wp2_with fail
        clear kM0 kM1 kM2 kM3 kM4 kM5 kM6 kM7 kM8 kM9 kM10 kM11 kM12 kT0 kT1 kT2
        clear cW
        have KS : Hid (∀ x, Below (wr.heap.size) wr x → x.cell? ⟨w.heap.size, 0, none⟩ = some (.slice ca cn cc) ∧ x.cell? ⟨w.heap.size, 1, none⟩ = some (.slice (some ⟨wb, wo, none⟩) wl wc) ∧ x.cell? ⟨w.heap.size, 2, none⟩ = some (.int .i64 (yg : Nat)) ∧ x.cell? ⟨w.heap.size, 3, none⟩ = some (.int .i64 (tp : Nat)) ∧ x.cell? ⟨w.heap.size, 4, none⟩ = some (.int .i64 (od : Nat)) ∧ x.cell? ⟨w.heap.size, 5, none⟩ = some (.slice (some ⟨db, dof, none⟩) dl dc) ∧ x.cell? ⟨w.heap.size, 6, none⟩ = some (.slice (some ⟨wb, wo, none⟩) yg pc) ∧ x.cell? ⟨w.heap.size, 7, none⟩ = some (.int .i64 0) ∧ x.cell? ⟨w.heap.size, 8, none⟩ = some (.int .i64 (tp : Nat)) ∧ x.cell? ⟨w.heap.size, 9, none⟩ = some (.slice (some ⟨wb, wo + yg, none⟩) ol oc) ∧ x.cell? ⟨w.heap.size, 10, none⟩ = some (.int .i64 (yg : Nat)) ∧ x.cell? ⟨w.heap.size, 11, none⟩ = some (.int .i64 (ou : Nat)) ∧ x.cell? ⟨w.heap.size, 12, none⟩ = some (.slice ta tl tc) ∧ x.cell? ⟨w.heap.size + 1, 0, none⟩ = some (.int .i64 ((p : Int) + 1)) ∧ x.cell? ⟨w.heap.size + 1, 1, none⟩ = some (.int .i64 c0) ∧ x.cell? ⟨w.heap.size + 1, 2, none⟩ = some (.slice (some ⟨yb, yo, none⟩) yl yc) ∧ x.cell? ⟨db, dof + ci, none⟩ = some (.bool cv)) := fun x hx => ⟨(boxG (XM.out x hx) 0).1, (boxG (XM.out x hx) 1).1, (boxG (XM.out x hx) 2).1, (boxG (XM.out x hx) 3).1, (boxG (XM.out x hx) 4).1, (boxG (XM.out x hx) 5).1, (boxG (XM.out x hx) 6).1, (boxG (XM.out x hx) 7).1, (boxG (XM.out x hx) 8).1, (boxG (XM.out x hx) 9).1, (boxG (XM.out x hx) 10).1, (boxG (XM.out x hx) 11).1, (boxG (XM.out x hx) 12).1, (boxG (XT.out x hx) 0).1, (boxG (XT.out x hx) 1).1, (boxG (XT.out x hx) 2).1, KD.out x hx⟩
        refine wp_region_held_drew (S := fun x => x.cell? ⟨w.heap.size, 0, none⟩ = some (.slice ca cn cc) ∧ x.cell? ⟨w.heap.size, 1, none⟩ = some (.slice (some ⟨wb, wo, none⟩) wl wc) ∧ x.cell? ⟨w.heap.size, 2, none⟩ = some (.int .i64 (yg : Nat)) ∧ x.cell? ⟨w.heap.size, 3, none⟩ = some (.int .i64 (tp : Nat)) ∧ x.cell? ⟨w.heap.size, 4, none⟩ = some (.int .i64 (od : Nat)) ∧ x.cell? ⟨w.heap.size, 5, none⟩ = some (.slice (some ⟨db, dof, none⟩) dl dc) ∧ x.cell? ⟨w.heap.size, 6, none⟩ = some (.slice (some ⟨wb, wo, none⟩) yg pc) ∧ x.cell? ⟨w.heap.size, 7, none⟩ = some (.int .i64 0) ∧ x.cell? ⟨w.heap.size, 8, none⟩ = some (.int .i64 (tp : Nat)) ∧ x.cell? ⟨w.heap.size, 9, none⟩ = some (.slice (some ⟨wb, wo + yg, none⟩) ol oc) ∧ x.cell? ⟨w.heap.size, 10, none⟩ = some (.int .i64 (yg : Nat)) ∧ x.cell? ⟨w.heap.size, 11, none⟩ = some (.int .i64 (ou : Nat)) ∧ x.cell? ⟨w.heap.size, 12, none⟩ = some (.slice ta tl tc) ∧ x.cell? ⟨w.heap.size + 1, 0, none⟩ = some (.int .i64 ((p : Int) + 1)) ∧ x.cell? ⟨w.heap.size + 1, 1, none⟩ = some (.int .i64 c0) ∧ x.cell? ⟨w.heap.size + 1, 2, none⟩ = some (.slice (some ⟨yb, yo, none⟩) yl yc) ∧ x.cell? ⟨db, dof + ci, none⟩ = some (.bool cv)) (by kernel_rfl) ?_ (fun hHeld => ?_)
        · exact KS.out _ (bdrew (Below.refl _ _))
        refine wpAnyH_take (i := 0) (v := ?_) rfl (by kernel_rfl) (by kernel_rfl) (by kernel_rfl) (fun _ _ _ h => h) (Or.inl ⟨by kernel_rfl, ?_⟩) (by assumption) ?_
        rotate_left 1
        · intro x hSx
          (try dsimp only at hSx)
          go_simp
          try with_reducible rfl
        try simp only [Act.put, List.getElem_toArray, List.getElem_cons_zero, List.setIfInBounds_toArray, List.set_cons_zero, List.set_cons_succ]
        refine wpAnyH_take (i := 1) (v := ?_) rfl (by kernel_rfl) (by kernel_rfl) (by kernel_rfl) (fun _ _ _ h => h) (Or.inl ⟨by kernel_rfl, ?_⟩) (by assumption) ?_
        rotate_left 1
        · intro x hSx
          (try dsimp only at hSx)
          go_simp
          try with_reducible rfl
        try simp only [Act.put, List.getElem_toArray, List.getElem_cons_zero, List.getElem_cons_succ, List.setIfInBounds_toArray, List.set_cons_zero, List.set_cons_succ]
        refine wpAnyH_take (i := 2) (v := ?_) rfl (by kernel_rfl) (by kernel_rfl) (by kernel_rfl) (fun _ _ _ h => h) (Or.inl ⟨by kernel_rfl, ?_⟩) (by assumption) ?_
        rotate_left 1
        · intro x hSx
          (try dsimp only at hSx)
          go_simp
          try with_reducible rfl
        try simp only [Act.put, List.getElem_toArray, List.getElem_cons_zero, List.getElem_cons_succ, List.setIfInBounds_toArray, List.set_cons_zero, List.set_cons_succ]
        refine wpAnyH_take (i := 3) (v := ?_) rfl (by kernel_rfl) (by kernel_rfl) (by kernel_rfl) (fun _ _ _ h => h) (Or.inl ⟨by kernel_rfl, ?_⟩) (by assumption) ?_
        rotate_left 1
        · intro x hSx
          (try dsimp only at hSx)
          go_simp
          try with_reducible rfl
        try simp only [Act.put, List.getElem_toArray, List.getElem_cons_zero, List.getElem_cons_succ, List.setIfInBounds_toArray, List.set_cons_zero, List.set_cons_succ]
        refine wpAnyH_ready (rs := [4]) (by kernel_rfl) (by simp) ?_
        refine AllReadyH.cons rfl (fun K hK => ?_) AllReadyH.nil
        go_simp
        go_at_call 76
        have BP : Hid (Below (wr.heap.size) wr wr.drew) := (bdrew (Below.refl _ _))
        refine (needsImpl ca cn cc wb wo wl wc yg tp od (some ⟨db, dof, none⟩) dl dc pc ol oc ou ta tl tc p c0 (some ⟨yb, yo, none⟩) yl yc k v ty _ (HT.out.later (B.out _ BP.out)) hlt).mono ?_
        rintro e w2 ⟨rfl, hb⟩
        have HR2 : Hid (Below w1.heap.size w1 w2) := HR1.out.trans ((BP.out.trans (hb.mono BP.out.size)).mono HR1.out.size)
        rw [HT1.out, ND.out]
        replace KD : Hid (∀ y, Below w2.heap.size w2 y → y.cell? ⟨db, dof + ci, none⟩ = some (.bool cv)) := fun y hy => KD.out y (BP.out.trans ((hb.mono BP.out.size).trans (hy.mono (Nat.le_trans BP.out.size hb.size))))
        have hq : Below (wr.heap.size) wr w2 := BP.out.trans (Below.mono hb (Nat.le_trans hz BP.out.size))
        have hzn : wr.heap.size ≤ w2.heap.size := Nat.le_trans hz hq.size
        replace B : Hid (∀ y, Below w2.heap.size w2 y → Below w.heap.size w y) := fun y hy => B.out y (hq.trans (hy.mono hzn))
        replace XM : Hid (∀ y, Below w2.heap.size w2 y → y.heap[w.heap.size]? = some (.cells #[.slice ca cn cc, .slice (some ⟨wb, wo, none⟩) wl wc, .int .i64 (yg : Nat), .int .i64 (tp : Nat), .int .i64 (od : Nat), .slice (some ⟨db, dof, none⟩) dl dc, .slice (some ⟨wb, wo, none⟩) yg pc, .int .i64 0, .int .i64 (tp : Nat), .slice (some ⟨wb, wo + yg, none⟩) ol oc, .int .i64 (yg : Nat), .int .i64 (ou : Nat), .slice ta tl tc] 52 (0, 0))) := fun y hy => (hy.block _ (by omega)).trans ((hq.block _ (by omega)).trans (XM.out wr (Below.refl _ _)))
        replace lM : w.heap.size < w2.heap.size := by omega
        replace XT : Hid (∀ y, Below w2.heap.size w2 y → y.heap[w.heap.size + 1]? = some (.cells #[.int .i64 ((p : Int) + 1), .int .i64 c0, .slice (some ⟨yb, yo, none⟩) yl yc] 57 (0, 0))) := fun y hy => (hy.block _ (by omega)).trans ((hq.block _ (by omega)).trans (XT.out wr (Below.refl _ _)))
        replace lT : w.heap.size + 1 < w2.heap.size := by omega
        clear hq BP hz
        have hz : w2.heap.size ≤ w2.heap.size := Nat.le_refl _
        clear hb
        go_wp2_with fail
        replace KS : Hid (∀ x, Below (w2.heap.size) w2 x → x.cell? ⟨w.heap.size, 0, none⟩ = some (.slice ca cn cc) ∧ x.cell? ⟨w.heap.size, 1, none⟩ = some (.slice (some ⟨wb, wo, none⟩) wl wc) ∧ x.cell? ⟨w.heap.size, 2, none⟩ = some (.int .i64 (yg : Nat)) ∧ x.cell? ⟨w.heap.size, 3, none⟩ = some (.int .i64 (tp : Nat)) ∧ x.cell? ⟨w.heap.size, 4, none⟩ = some (.int .i64 (od : Nat)) ∧ x.cell? ⟨w.heap.size, 5, none⟩ = some (.slice (some ⟨db, dof, none⟩) dl dc) ∧ x.cell? ⟨w.heap.size, 6, none⟩ = some (.slice (some ⟨wb, wo, none⟩) yg pc) ∧ x.cell? ⟨w.heap.size, 7, none⟩ = some (.int .i64 0) ∧ x.cell? ⟨w.heap.size, 8, none⟩ = some (.int .i64 (tp : Nat)) ∧ x.cell? ⟨w.heap.size, 9, none⟩ = some (.slice (some ⟨wb, wo + yg, none⟩) ol oc) ∧ x.cell? ⟨w.heap.size, 10, none⟩ = some (.int .i64 (yg : Nat)) ∧ x.cell? ⟨w.heap.size, 11, none⟩ = some (.int .i64 (ou : Nat)) ∧ x.cell? ⟨w.heap.size, 12, none⟩ = some (.slice ta tl tc) ∧ x.cell? ⟨w.heap.size + 1, 0, none⟩ = some (.int .i64 ((p : Int) + 1)) ∧ x.cell? ⟨w.heap.size + 1, 1, none⟩ = some (.int .i64 c0) ∧ x.cell? ⟨w.heap.size + 1, 2, none⟩ = some (.slice (some ⟨yb, yo, none⟩) yl yc) ∧ x.cell? ⟨db, dof + ci, none⟩ = some (.bool cv)) := fun x hx => ⟨(boxG (XM.out x hx) 0).1, (boxG (XM.out x hx) 1).1, (boxG (XM.out x hx) 2).1, (boxG (XM.out x hx) 3).1, (boxG (XM.out x hx) 4).1, (boxG (XM.out x hx) 5).1, (boxG (XM.out x hx) 6).1, (boxG (XM.out x hx) 7).1, (boxG (XM.out x hx) 8).1, (boxG (XM.out x hx) 9).1, (boxG (XM.out x hx) 10).1, (boxG (XM.out x hx) 11).1, (boxG (XM.out x hx) 12).1, (boxG (XT.out x hx) 0).1, (boxG (XT.out x hx) 1).1, (boxG (XT.out x hx) 2).1, KD.out x hx⟩
        refine hK.out _ _ (KS.out _ (Below.refl _ _)) (fun hHeld2 => ?_)
        clear hK K
        try simp only [Act.put, List.getElem_toArray, List.getElem_cons_zero, List.getElem_cons_succ, List.setIfInBounds_toArray, List.set_cons_zero, List.set_cons_succ]
        refine wpAnyH_take (i := 5) (v := ?_) rfl (by kernel_rfl) (by kernel_rfl) (by kernel_rfl) (fun _ _ _ h => h) (Or.inl ⟨by kernel_rfl, ?_⟩) (by assumption) ?_
        rotate_left 1
        · intro x hSx
          (try dsimp only at hSx)
          go_simp
          try with_reducible rfl
        try simp only [Act.put, List.getElem_toArray, List.getElem_cons_zero, List.getElem_cons_succ, List.setIfInBounds_toArray, List.set_cons_zero, List.set_cons_succ]
        refine wpAnyH_take (i := 6) (v := ?_) rfl (by kernel_rfl) (by kernel_rfl) (by kernel_rfl) (fun _ _ _ h => h) (Or.inl ⟨by kernel_rfl, ?_⟩) (by assumption) ?_
        rotate_left 1
        · intro x hSx
          (try dsimp only at hSx)
          go_simp
          try with_reducible rfl
        try simp only [Act.put, List.getElem_toArray, List.getElem_cons_zero, List.getElem_cons_succ, List.setIfInBounds_toArray, List.set_cons_zero, List.set_cons_succ]
        refine wpAnyH_take (i := 7) (v := ?_) rfl (by kernel_rfl) (by kernel_rfl) (by kernel_rfl) (fun _ _ _ h => h) (Or.inl ⟨by kernel_rfl, ?_⟩) (by assumption) ?_
        rotate_left 1
        · intro x hSx
          (try dsimp only at hSx)
          go_simp
          try with_reducible rfl
        try simp only [Act.put, List.getElem_toArray, List.getElem_cons_zero, List.getElem_cons_succ, List.setIfInBounds_toArray, List.set_cons_zero, List.set_cons_succ]
        refine wpAnyH_take (i := 8) (v := ?_) rfl (by kernel_rfl) (by kernel_rfl) (by kernel_rfl) (fun _ _ _ h => h) (Or.inl ⟨by kernel_rfl, ?_⟩) (by assumption) ?_
        rotate_left 1
        · intro x hSx
          (try dsimp only at hSx)
          go_simp
          try with_reducible rfl
        try simp only [Act.put, List.getElem_toArray, List.getElem_cons_zero, List.getElem_cons_succ, List.setIfInBounds_toArray, List.set_cons_zero, List.set_cons_succ]
        refine wpAnyH_take (i := 9) (v := ?_) rfl (by kernel_rfl) (by kernel_rfl) (by kernel_rfl) (fun _ _ _ h => h) (Or.inl ⟨by kernel_rfl, ?_⟩) (by assumption) ?_
        rotate_left 1
        · intro x hSx
          (try dsimp only at hSx)
          go_simp
          try with_reducible rfl
        try simp only [Act.put, List.getElem_toArray, List.getElem_cons_zero, List.getElem_cons_succ, List.setIfInBounds_toArray, List.set_cons_zero, List.set_cons_succ]
        refine wpAnyH_take (i := 10) (v := ?_) rfl (by kernel_rfl) (by kernel_rfl) (by kernel_rfl) (fun _ _ _ h => h) (Or.inl ⟨by kernel_rfl, ?_⟩) (by assumption) ?_
        rotate_left 1
        · intro x hSx
          (try dsimp only at hSx)
          go_simp
          try with_reducible rfl
        try simp only [Act.put, List.getElem_toArray, List.getElem_cons_zero, List.getElem_cons_succ, List.setIfInBounds_toArray, List.set_cons_zero, List.set_cons_succ]
        refine wpAnyH_take (i := 11) (v := ?_) rfl (by kernel_rfl) (by kernel_rfl) (by kernel_rfl) (fun _ _ _ h => h) (Or.inl ⟨by kernel_rfl, ?_⟩) (by assumption) ?_
        rotate_left 1
        · intro x hSx
          (try dsimp only at hSx)
          go_simp
          try with_reducible rfl
        try simp only [Act.put, List.getElem_toArray, List.getElem_cons_zero, List.getElem_cons_succ, List.setIfInBounds_toArray, List.set_cons_zero, List.set_cons_succ]
        refine wpAnyH_ready (rs := [12]) (by kernel_rfl) (by simp) ?_
        refine AllReadyH.cons rfl (fun K hK => ?_) AllReadyH.nil
        go_simp
        go_at_call 78
        have BP : Hid (Below (w2.heap.size) w2 w2) := (Below.refl _ _)
        refine (placeImpl21 _ c0 (some ⟨yb, yo, none⟩) yl yc k _ (by omega) (by omega) (by omega)).mono ?_
        rintro e w3 ⟨rfl, hb⟩
        replace HR2 : Hid (Below w1.heap.size w1 w3) := HR2.out.trans ((BP.out.trans (hb.mono BP.out.size)).mono HR2.out.size)
        obtain ⟨pl, hpl⟩ : ∃ q, lo + k + 1 = q := ⟨_, rfl⟩
        rw [show (p : Int) + 1 + ((hdN c0 : Nat) : Int) + (k : Nat) = (pl : Int) by omega]
        replace KD : Hid (∀ y, Below w3.heap.size w3 y → y.cell? ⟨db, dof + ci, none⟩ = some (.bool cv)) := fun y hy => KD.out y (BP.out.trans ((hb.mono BP.out.size).trans (hy.mono (Nat.le_trans BP.out.size hb.size))))
        have hq : Below (w2.heap.size) w2 w3 := BP.out.trans (Below.mono hb (Nat.le_trans hz BP.out.size))
        have hzn : w2.heap.size ≤ w3.heap.size := Nat.le_trans hz hq.size
        replace B : Hid (∀ y, Below w3.heap.size w3 y → Below w.heap.size w y) := fun y hy => B.out y (hq.trans (hy.mono hzn))
        replace XM : Hid (∀ y, Below w3.heap.size w3 y → y.heap[w.heap.size]? = some (.cells #[.slice ca cn cc, .slice (some ⟨wb, wo, none⟩) wl wc, .int .i64 (yg : Nat), .int .i64 (tp : Nat), .int .i64 (od : Nat), .slice (some ⟨db, dof, none⟩) dl dc, .slice (some ⟨wb, wo, none⟩) yg pc, .int .i64 0, .int .i64 (tp : Nat), .slice (some ⟨wb, wo + yg, none⟩) ol oc, .int .i64 (yg : Nat), .int .i64 (ou : Nat), .slice ta tl tc] 52 (0, 0))) := fun y hy => (hy.block _ (by omega)).trans ((hq.block _ (by omega)).trans (XM.out w2 (Below.refl _ _)))
        replace lM : w.heap.size < w3.heap.size := by omega
        replace XT : Hid (∀ y, Below w3.heap.size w3 y → y.heap[w.heap.size + 1]? = some (.cells #[.int .i64 ((p : Int) + 1), .int .i64 c0, .slice (some ⟨yb, yo, none⟩) yl yc] 57 (0, 0))) := fun y hy => (hy.block _ (by omega)).trans ((hq.block _ (by omega)).trans (XT.out w2 (Below.refl _ _)))
        replace lT : w.heap.size + 1 < w3.heap.size := by omega
        clear hq BP hz
        have hz : w3.heap.size ≤ w3.heap.size := Nat.le_refl _
        clear hb
        go_wp2_with fail
        replace KS : Hid (∀ x, Below (w3.heap.size) w3 x → x.cell? ⟨w.heap.size, 0, none⟩ = some (.slice ca cn cc) ∧ x.cell? ⟨w.heap.size, 1, none⟩ = some (.slice (some ⟨wb, wo, none⟩) wl wc) ∧ x.cell? ⟨w.heap.size, 2, none⟩ = some (.int .i64 (yg : Nat)) ∧ x.cell? ⟨w.heap.size, 3, none⟩ = some (.int .i64 (tp : Nat)) ∧ x.cell? ⟨w.heap.size, 4, none⟩ = some (.int .i64 (od : Nat)) ∧ x.cell? ⟨w.heap.size, 5, none⟩ = some (.slice (some ⟨db, dof, none⟩) dl dc) ∧ x.cell? ⟨w.heap.size, 6, none⟩ = some (.slice (some ⟨wb, wo, none⟩) yg pc) ∧ x.cell? ⟨w.heap.size, 7, none⟩ = some (.int .i64 0) ∧ x.cell? ⟨w.heap.size, 8, none⟩ = some (.int .i64 (tp : Nat)) ∧ x.cell? ⟨w.heap.size, 9, none⟩ = some (.slice (some ⟨wb, wo + yg, none⟩) ol oc) ∧ x.cell? ⟨w.heap.size, 10, none⟩ = some (.int .i64 (yg : Nat)) ∧ x.cell? ⟨w.heap.size, 11, none⟩ = some (.int .i64 (ou : Nat)) ∧ x.cell? ⟨w.heap.size, 12, none⟩ = some (.slice ta tl tc) ∧ x.cell? ⟨w.heap.size + 1, 0, none⟩ = some (.int .i64 ((p : Int) + 1)) ∧ x.cell? ⟨w.heap.size + 1, 1, none⟩ = some (.int .i64 c0) ∧ x.cell? ⟨w.heap.size + 1, 2, none⟩ = some (.slice (some ⟨yb, yo, none⟩) yl yc) ∧ x.cell? ⟨db, dof + ci, none⟩ = some (.bool cv)) := fun x hx => ⟨(boxG (XM.out x hx) 0).1, (boxG (XM.out x hx) 1).1, (boxG (XM.out x hx) 2).1, (boxG (XM.out x hx) 3).1, (boxG (XM.out x hx) 4).1, (boxG (XM.out x hx) 5).1, (boxG (XM.out x hx) 6).1, (boxG (XM.out x hx) 7).1, (boxG (XM.out x hx) 8).1, (boxG (XM.out x hx) 9).1, (boxG (XM.out x hx) 10).1, (boxG (XM.out x hx) 11).1, (boxG (XM.out x hx) 12).1, (boxG (XT.out x hx) 0).1, (boxG (XT.out x hx) 1).1, (boxG (XT.out x hx) 2).1, KD.out x hx⟩
        refine hK.out _ _ (KS.out _ (Below.refl _ _)) (fun hHeld3 => ?_)
        clear hK K
        try simp only [Act.put, List.getElem_toArray, List.getElem_cons_zero, List.getElem_cons_succ, List.setIfInBounds_toArray, List.set_cons_zero, List.set_cons_succ]
        refine wpAnyH_ready (rs := [13]) (by kernel_rfl) (by simp) ?_
        refine AllReadyH.cons rfl (fun K hK => ?_) AllReadyH.nil
        go_simp
        go_at_call 77
        have BP : Hid (Below (w3.heap.size) w3 w3) := (Below.refl _ _)
        refine (cardOfImpl ca cn cc wb wo wl wc yg tp od (some ⟨db, dof, none⟩) dl dc pc ol oc ou ta tl tc pl (by omega) (by omega) _).mono ?_
        rintro e w4 ⟨rfl, hb⟩
        replace HR2 : Hid (Below w1.heap.size w1 w4) := HR2.out.trans ((BP.out.trans (hb.mono BP.out.size)).mono HR2.out.size)
        rw [show (pl - yg - 1) / 4 = ci by omega]
        replace KD : Hid (∀ y, Below w4.heap.size w4 y → y.cell? ⟨db, dof + ci, none⟩ = some (.bool cv)) := fun y hy => KD.out y (BP.out.trans ((hb.mono BP.out.size).trans (hy.mono (Nat.le_trans BP.out.size hb.size))))
        have hq : Below (w3.heap.size) w3 w4 := BP.out.trans (Below.mono hb (Nat.le_trans hz BP.out.size))
        have hzn : w3.heap.size ≤ w4.heap.size := Nat.le_trans hz hq.size
        replace B : Hid (∀ y, Below w4.heap.size w4 y → Below w.heap.size w y) := fun y hy => B.out y (hq.trans (hy.mono hzn))
        replace XM : Hid (∀ y, Below w4.heap.size w4 y → y.heap[w.heap.size]? = some (.cells #[.slice ca cn cc, .slice (some ⟨wb, wo, none⟩) wl wc, .int .i64 (yg : Nat), .int .i64 (tp : Nat), .int .i64 (od : Nat), .slice (some ⟨db, dof, none⟩) dl dc, .slice (some ⟨wb, wo, none⟩) yg pc, .int .i64 0, .int .i64 (tp : Nat), .slice (some ⟨wb, wo + yg, none⟩) ol oc, .int .i64 (yg : Nat), .int .i64 (ou : Nat), .slice ta tl tc] 52 (0, 0))) := fun y hy => (hy.block _ (by omega)).trans ((hq.block _ (by omega)).trans (XM.out w3 (Below.refl _ _)))
        replace lM : w.heap.size < w4.heap.size := by omega
        replace XT : Hid (∀ y, Below w4.heap.size w4 y → y.heap[w.heap.size + 1]? = some (.cells #[.int .i64 ((p : Int) + 1), .int .i64 c0, .slice (some ⟨yb, yo, none⟩) yl yc] 57 (0, 0))) := fun y hy => (hy.block _ (by omega)).trans ((hq.block _ (by omega)).trans (XT.out w3 (Below.refl _ _)))
        replace lT : w.heap.size + 1 < w4.heap.size := by omega
        clear hq BP hz
        have hz : w4.heap.size ≤ w4.heap.size := Nat.le_refl _
        clear hb
        go_wp2_with fail
        replace KS : Hid (∀ x, Below (w4.heap.size) w4 x → x.cell? ⟨w.heap.size, 0, none⟩ = some (.slice ca cn cc) ∧ x.cell? ⟨w.heap.size, 1, none⟩ = some (.slice (some ⟨wb, wo, none⟩) wl wc) ∧ x.cell? ⟨w.heap.size, 2, none⟩ = some (.int .i64 (yg : Nat)) ∧ x.cell? ⟨w.heap.size, 3, none⟩ = some (.int .i64 (tp : Nat)) ∧ x.cell? ⟨w.heap.size, 4, none⟩ = some (.int .i64 (od : Nat)) ∧ x.cell? ⟨w.heap.size, 5, none⟩ = some (.slice (some ⟨db, dof, none⟩) dl dc) ∧ x.cell? ⟨w.heap.size, 6, none⟩ = some (.slice (some ⟨wb, wo, none⟩) yg pc) ∧ x.cell? ⟨w.heap.size, 7, none⟩ = some (.int .i64 0) ∧ x.cell? ⟨w.heap.size, 8, none⟩ = some (.int .i64 (tp : Nat)) ∧ x.cell? ⟨w.heap.size, 9, none⟩ = some (.slice (some ⟨wb, wo + yg, none⟩) ol oc) ∧ x.cell? ⟨w.heap.size, 10, none⟩ = some (.int .i64 (yg : Nat)) ∧ x.cell? ⟨w.heap.size, 11, none⟩ = some (.int .i64 (ou : Nat)) ∧ x.cell? ⟨w.heap.size, 12, none⟩ = some (.slice ta tl tc) ∧ x.cell? ⟨w.heap.size + 1, 0, none⟩ = some (.int .i64 ((p : Int) + 1)) ∧ x.cell? ⟨w.heap.size + 1, 1, none⟩ = some (.int .i64 c0) ∧ x.cell? ⟨w.heap.size + 1, 2, none⟩ = some (.slice (some ⟨yb, yo, none⟩) yl yc) ∧ x.cell? ⟨db, dof + ci, none⟩ = some (.bool cv)) := fun x hx => ⟨(boxG (XM.out x hx) 0).1, (boxG (XM.out x hx) 1).1, (boxG (XM.out x hx) 2).1, (boxG (XM.out x hx) 3).1, (boxG (XM.out x hx) 4).1, (boxG (XM.out x hx) 5).1, (boxG (XM.out x hx) 6).1, (boxG (XM.out x hx) 7).1, (boxG (XM.out x hx) 8).1, (boxG (XM.out x hx) 9).1, (boxG (XM.out x hx) 10).1, (boxG (XM.out x hx) 11).1, (boxG (XM.out x hx) 12).1, (boxG (XT.out x hx) 0).1, (boxG (XT.out x hx) 1).1, (boxG (XT.out x hx) 2).1, KD.out x hx⟩
        refine hK.out _ _ (KS.out _ (Below.refl _ _)) (fun hHeld4 => ?_)
        clear hK K
        try simp only [Act.put, List.getElem_toArray, List.getElem_cons_zero, List.getElem_cons_succ, List.setIfInBounds_toArray, List.set_cons_zero, List.set_cons_succ]
        refine wpAnyH_take (i := 14) (v := ?_) rfl (by kernel_rfl) (by kernel_rfl) (by kernel_rfl) (fun _ _ _ h => h) (Or.inl ⟨by kernel_rfl, ?_⟩) (by assumption) ?_
        rotate_left 1
        · intro x hSx
          (try dsimp only at hSx)
          go_simp
          try with_reducible rfl
        try simp only [Act.put, List.getElem_toArray, List.getElem_cons_zero, List.getElem_cons_succ, List.setIfInBounds_toArray, List.set_cons_zero, List.set_cons_succ]
        refine wpAnyH_take (i := 15) (v := ?_) rfl (by kernel_rfl) (by kernel_rfl) (by kernel_rfl) (fun _ _ _ h => h) (Or.inl ⟨by kernel_rfl, ?_⟩) (by assumption) ?_
        rotate_left 1
        · intro x hSx
          (try dsimp only at hSx)
          go_simp
          try with_reducible rfl
        try simp only [Act.put, List.getElem_toArray, List.getElem_cons_zero, List.getElem_cons_succ, List.setIfInBounds_toArray, List.set_cons_zero, List.set_cons_succ]
        refine wpAnyH_take (i := 16) (v := ?_) rfl (by kernel_rfl) (by kernel_rfl) (by kernel_rfl) (fun _ _ _ h => h) (Or.inl ⟨by kernel_rfl, ?_⟩) (by assumption) ?_
        rotate_left 1
        · intro x hSx
          (try dsimp only at hSx)
          go_simp
          try with_reducible rfl
        try simp only [Act.put, List.getElem_toArray, List.getElem_cons_zero, List.getElem_cons_succ, List.setIfInBounds_toArray, List.set_cons_zero, List.set_cons_succ]
        refine wpAnyH_take (i := 17) (v := ?_) rfl (by kernel_rfl) (by kernel_rfl) (by kernel_rfl) (fun _ _ _ h => h) (Or.inl ⟨by kernel_rfl, ?_⟩) (by assumption) ?_
        rotate_left 1
        · intro x hSx
          (try dsimp only at hSx)
          go_simp
          try with_reducible rfl
        try simp only [Act.put, List.getElem_toArray, List.getElem_cons_zero, List.getElem_cons_succ, List.setIfInBounds_toArray, List.set_cons_zero, List.set_cons_succ]
        refine wpAnyH_done (by kernel_rfl) ?_ _
        clear hHeld hHeld2 hHeld3 hHeld4
        clear KS
        cases cv
        · have kM0 : w4.cell? ⟨w.heap.size, 0, none⟩ = some (.slice ca cn cc) := (boxG (XM.out w4 (Below.refl _ _)) 0).1
          have kM1 : w4.cell? ⟨w.heap.size, 1, none⟩ = some (.slice (some ⟨wb, wo, none⟩) wl wc) := (boxG (XM.out w4 (Below.refl _ _)) 1).1
          have kM2 : w4.cell? ⟨w.heap.size, 2, none⟩ = some (.int .i64 (yg : Nat)) := (boxG (XM.out w4 (Below.refl _ _)) 2).1
          have kM3 : w4.cell? ⟨w.heap.size, 3, none⟩ = some (.int .i64 (tp : Nat)) := (boxG (XM.out w4 (Below.refl _ _)) 3).1
          have kM4 : w4.cell? ⟨w.heap.size, 4, none⟩ = some (.int .i64 (od : Nat)) := (boxG (XM.out w4 (Below.refl _ _)) 4).1
          have kM5 : w4.cell? ⟨w.heap.size, 5, none⟩ = some (.slice (some ⟨db, dof, none⟩) dl dc) := (boxG (XM.out w4 (Below.refl _ _)) 5).1
          have kM6 : w4.cell? ⟨w.heap.size, 6, none⟩ = some (.slice (some ⟨wb, wo, none⟩) yg pc) := (boxG (XM.out w4 (Below.refl _ _)) 6).1
          have kM7 : w4.cell? ⟨w.heap.size, 7, none⟩ = some (.int .i64 0) := (boxG (XM.out w4 (Below.refl _ _)) 7).1
          have kM8 : w4.cell? ⟨w.heap.size, 8, none⟩ = some (.int .i64 (tp : Nat)) := (boxG (XM.out w4 (Below.refl _ _)) 8).1
          have kM9 : w4.cell? ⟨w.heap.size, 9, none⟩ = some (.slice (some ⟨wb, wo + yg, none⟩) ol oc) := (boxG (XM.out w4 (Below.refl _ _)) 9).1
          have kM10 : w4.cell? ⟨w.heap.size, 10, none⟩ = some (.int .i64 (yg : Nat)) := (boxG (XM.out w4 (Below.refl _ _)) 10).1
          have kM11 : w4.cell? ⟨w.heap.size, 11, none⟩ = some (.int .i64 (ou : Nat)) := (boxG (XM.out w4 (Below.refl _ _)) 11).1
          have kM12 : w4.cell? ⟨w.heap.size, 12, none⟩ = some (.slice ta tl tc) := (boxG (XM.out w4 (Below.refl _ _)) 12).1
          have kT0 : w4.cell? ⟨w.heap.size + 1, 0, none⟩ = some (.int .i64 ((p : Int) + 1)) := (boxG (XT.out w4 (Below.refl _ _)) 0).1
          have kT1 : w4.cell? ⟨w.heap.size + 1, 1, none⟩ = some (.int .i64 c0) := (boxG (XT.out w4 (Below.refl _ _)) 1).1
          have kT2 : w4.cell? ⟨w.heap.size + 1, 2, none⟩ = some (.slice (some ⟨yb, yo, none⟩) yl yc) := (boxG (XT.out w4 (Below.refl _ _)) 2).1
          go_wp2_with fail
          go_ret
          exact ⟨by rw [rng_no' hlt QQ.out]; rfl, B.out w4 (Below.refl _ _)⟩
        have kM0 : w4.cell? ⟨w.heap.size, 0, none⟩ = some (.slice ca cn cc) := (boxG (XM.out w4 (Below.refl _ _)) 0).1
        have kM1 : w4.cell? ⟨w.heap.size, 1, none⟩ = some (.slice (some ⟨wb, wo, none⟩) wl wc) := (boxG (XM.out w4 (Below.refl _ _)) 1).1
        have kM2 : w4.cell? ⟨w.heap.size, 2, none⟩ = some (.int .i64 (yg : Nat)) := (boxG (XM.out w4 (Below.refl _ _)) 2).1
        have kM3 : w4.cell? ⟨w.heap.size, 3, none⟩ = some (.int .i64 (tp : Nat)) := (boxG (XM.out w4 (Below.refl _ _)) 3).1
        have kM4 : w4.cell? ⟨w.heap.size, 4, none⟩ = some (.int .i64 (od : Nat)) := (boxG (XM.out w4 (Below.refl _ _)) 4).1
        have kM5 : w4.cell? ⟨w.heap.size, 5, none⟩ = some (.slice (some ⟨db, dof, none⟩) dl dc) := (boxG (XM.out w4 (Below.refl _ _)) 5).1
        have kM6 : w4.cell? ⟨w.heap.size, 6, none⟩ = some (.slice (some ⟨wb, wo, none⟩) yg pc) := (boxG (XM.out w4 (Below.refl _ _)) 6).1
        have kM7 : w4.cell? ⟨w.heap.size, 7, none⟩ = some (.int .i64 0) := (boxG (XM.out w4 (Below.refl _ _)) 7).1
        have kM8 : w4.cell? ⟨w.heap.size, 8, none⟩ = some (.int .i64 (tp : Nat)) := (boxG (XM.out w4 (Below.refl _ _)) 8).1
        have kM9 : w4.cell? ⟨w.heap.size, 9, none⟩ = some (.slice (some ⟨wb, wo + yg, none⟩) ol oc) := (boxG (XM.out w4 (Below.refl _ _)) 9).1
        have kM10 : w4.cell? ⟨w.heap.size, 10, none⟩ = some (.int .i64 (yg : Nat)) := (boxG (XM.out w4 (Below.refl _ _)) 10).1
        have kM11 : w4.cell? ⟨w.heap.size, 11, none⟩ = some (.int .i64 (ou : Nat)) := (boxG (XM.out w4 (Below.refl _ _)) 11).1
        have kM12 : w4.cell? ⟨w.heap.size, 12, none⟩ = some (.slice ta tl tc) := (boxG (XM.out w4 (Below.refl _ _)) 12).1
        have kT0 : w4.cell? ⟨w.heap.size + 1, 0, none⟩ = some (.int .i64 ((p : Int) + 1)) := (boxG (XT.out w4 (Below.refl _ _)) 0).1
        have kT1 : w4.cell? ⟨w.heap.size + 1, 1, none⟩ = some (.int .i64 c0) := (boxG (XT.out w4 (Below.refl _ _)) 1).1
        have kT2 : w4.cell? ⟨w.heap.size + 1, 2, none⟩ = some (.slice (some ⟨yb, yo, none⟩) yl yc) := (boxG (XT.out w4 (Below.refl _ _)) 2).1
        go_wp2_with fail
        exact ⟨⟨k + 1, by omega, by go_num, by rw [rng_on', HA.out, QQ.out]; rfl, HR2.out⟩, by simp [intOf]; omega⟩
    · have ek : yl = k := by omega
      subst ek
      have kM0 : wr.cell? ⟨w.heap.size, 0, none⟩ = some (.slice ca cn cc) := (boxG (XM.out wr (Below.refl _ _)) 0).1
      have kM1 : wr.cell? ⟨w.heap.size, 1, none⟩ = some (.slice (some ⟨wb, wo, none⟩) wl wc) := (boxG (XM.out wr (Below.refl _ _)) 1).1
      have kM2 : wr.cell? ⟨w.heap.size, 2, none⟩ = some (.int .i64 (yg : Nat)) := (boxG (XM.out wr (Below.refl _ _)) 2).1
      have kM3 : wr.cell? ⟨w.heap.size, 3, none⟩ = some (.int .i64 (tp : Nat)) := (boxG (XM.out wr (Below.refl _ _)) 3).1
      have kM4 : wr.cell? ⟨w.heap.size, 4, none⟩ = some (.int .i64 (od : Nat)) := (boxG (XM.out wr (Below.refl _ _)) 4).1
      have kM5 : wr.cell? ⟨w.heap.size, 5, none⟩ = some (.slice da dl dc) := (boxG (XM.out wr (Below.refl _ _)) 5).1
      have kM6 : wr.cell? ⟨w.heap.size, 6, none⟩ = some (.slice (some ⟨wb, wo, none⟩) yg pc) := (boxG (XM.out wr (Below.refl _ _)) 6).1
      have kM7 : wr.cell? ⟨w.heap.size, 7, none⟩ = some (.int .i64 0) := (boxG (XM.out wr (Below.refl _ _)) 7).1
      have kM8 : wr.cell? ⟨w.heap.size, 8, none⟩ = some (.int .i64 (tp : Nat)) := (boxG (XM.out wr (Below.refl _ _)) 8).1
      have kM9 : wr.cell? ⟨w.heap.size, 9, none⟩ = some (.slice (some ⟨wb, wo + yg, none⟩) ol oc) := (boxG (XM.out wr (Below.refl _ _)) 9).1
      have kM10 : wr.cell? ⟨w.heap.size, 10, none⟩ = some (.int .i64 (yg : Nat)) := (boxG (XM.out wr (Below.refl _ _)) 10).1
      have kM11 : wr.cell? ⟨w.heap.size, 11, none⟩ = some (.int .i64 (ou : Nat)) := (boxG (XM.out wr (Below.refl _ _)) 11).1
      have kM12 : wr.cell? ⟨w.heap.size, 12, none⟩ = some (.slice ta tl tc) := (boxG (XM.out wr (Below.refl _ _)) 12).1
      have kT0 : wr.cell? ⟨w.heap.size + 1, 0, none⟩ = some (.int .i64 ((p : Int) + 1)) := (boxG (XT.out wr (Below.refl _ _)) 0).1
      have kT1 : wr.cell? ⟨w.heap.size + 1, 1, none⟩ = some (.int .i64 c0) := (boxG (XT.out wr (Below.refl _ _)) 1).1
      have kT2 : wr.cell? ⟨w.heap.size + 1, 2, none⟩ = some (.slice ya yl yc) := (boxG (XT.out wr (Below.refl _ _)) 2).1
      go_wp2_with fail
      go_ret
      exact ⟨by rw [HA.out]; rfl, B.out wr (Below.refl _ _)⟩


end Go.Proofs.Ytdmofjjhlfejeaa
