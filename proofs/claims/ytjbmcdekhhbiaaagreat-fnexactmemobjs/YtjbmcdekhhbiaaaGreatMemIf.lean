/-
  The program's questions of a memory: what they say; they write nothing that was there.
-/
import Derived.Test.YtjbmcdekhhbiaaaGreatMemIe
namespace Go.Proofs.YtjbmcdekhhbiaaaGreat
open Go.ChangeShapes Go.WideShapes Go.ChangeAt Go.RowKit
set_option linter.unusedVariables false

def NumP (T : List Th) (v : Int) (n : Nat) : Prop := (isAt T v = false ∧ n = 0) ∨ (isAt T v = true ∧ ∃ j t, n = j + 1 ∧ T[j]? = some t ∧ t.1 = v)
theorem NumP.zero {T : List Th} {v : Int} {n : Nat} (h : NumP T v n) : ((n : Int) != 0) = isAt T v := by
  rcases h with ⟨h1, rfl⟩ | ⟨h1, j, t, rfl, _, _⟩
  · rw [h1]; rfl
  · rw [h1]; simp; omega

set_option maxRecDepth 100000 in
set_option maxHeartbeats 4000000 in
theorem youngImpl (ca : Option Addr) (cn cc wb wo wl wc yg tp od : Nat) (da : Option Addr) (dl dc pc ol oc ou : Nat) (ta : Option Addr) (tl tc : Nat) (v : Int) (w : World) : Calls Tryz.prog 115 #[.agg #[.slice ca cn cc, .slice (some ⟨wb, wo, none⟩) wl wc, .int .i64 (yg : Nat), .int .i64 (tp : Nat), .int .i64 (od : Nat), .slice da dl dc, .slice (some ⟨wb, wo, none⟩) yg pc, .int .i64 0, .int .i64 (tp : Nat), .slice (some ⟨wb, wo + yg, none⟩) ol oc, .int .i64 (yg : Nat), .int .i64 (ou : Nat), .slice ta tl tc], .int .i64 v] w fun e w' => e = .returned (.bool (inI v 1 yg)) ∧ Below w.heap.size w w' := by
  have hz : w.heap.size + 1 ≤ (w.alloc (.cells #[.slice ca cn cc, .slice (some ⟨wb, wo, none⟩) wl wc, .int .i64 (yg : Nat), .int .i64 (tp : Nat), .int .i64 (od : Nat), .slice da dl dc, .slice (some ⟨wb, wo, none⟩) yg pc, .int .i64 0, .int .i64 (tp : Nat), .slice (some ⟨wb, wo + yg, none⟩) ol oc, .int .i64 (yg : Nat), .int .i64 (ou : Nat), .slice ta tl tc] 65)).heap.size := by simp
  have B : Hid (∀ y, Below (w.heap.size + 1) (w.alloc (.cells #[.slice ca cn cc, .slice (some ⟨wb, wo, none⟩) wl wc, .int .i64 (yg : Nat), .int .i64 (tp : Nat), .int .i64 (od : Nat), .slice da dl dc, .slice (some ⟨wb, wo, none⟩) yg pc, .int .i64 0, .int .i64 (tp : Nat), .slice (some ⟨wb, wo + yg, none⟩) ol oc, .int .i64 (yg : Nat), .int .i64 (ou : Nat), .slice ta tl tc] 65)) y → Below w.heap.size w y) := fun y hy => (bR.alloc (by first | exact Nat.le_refl _ | (simp; done) | (simp; omega)) _).trans (hy.mono (by omega))
  have XM : Hid (∀ y, Below (w.heap.size + 1) (w.alloc (.cells #[.slice ca cn cc, .slice (some ⟨wb, wo, none⟩) wl wc, .int .i64 (yg : Nat), .int .i64 (tp : Nat), .int .i64 (od : Nat), .slice da dl dc, .slice (some ⟨wb, wo, none⟩) yg pc, .int .i64 0, .int .i64 (tp : Nat), .slice (some ⟨wb, wo + yg, none⟩) ol oc, .int .i64 (yg : Nat), .int .i64 (ou : Nat), .slice ta tl tc] 65)) y → y.heap[w.heap.size]? = some (.cells #[.slice ca cn cc, .slice (some ⟨wb, wo, none⟩) wl wc, .int .i64 (yg : Nat), .int .i64 (tp : Nat), .int .i64 (od : Nat), .slice da dl dc, .slice (some ⟨wb, wo, none⟩) yg pc, .int .i64 0, .int .i64 (tp : Nat), .slice (some ⟨wb, wo + yg, none⟩) ol oc, .int .i64 (yg : Nat), .int .i64 (ou : Nat), .slice ta tl tc] 65 (0, 0))) := fun y hy => (hy.block _ (by omega)).trans (boxN _ _ _ _ (by simp))
  have lM : w.heap.size < w.heap.size + 1 := by omega
  go_enter Tryz.func115, Tryz.ntmps115
  go_wp2_with fail
  refine (isAmongImpl v 1 yg _).mono ?_
  rintro e w1 ⟨rfl, rfl⟩
  go_wp2_with fail
  go_ret
  exact ⟨rfl, B.out _ (Below.refl _ _)⟩

set_option maxRecDepth 100000 in
set_option maxHeartbeats 4000000 in
theorem cardOfImpl (ca : Option Addr) (cn cc wb wo wl wc yg tp od : Nat) (da : Option Addr) (dl dc pc ol oc ou : Nat) (ta : Option Addr) (tl tc : Nat) (pl : Nat) (h1 : yg + 1 ≤ pl) (h2 : pl ≤ 100000) (w : World) : Calls Tryz.prog 88 #[.agg #[.slice ca cn cc, .slice (some ⟨wb, wo, none⟩) wl wc, .int .i64 (yg : Nat), .int .i64 (tp : Nat), .int .i64 (od : Nat), .slice da dl dc, .slice (some ⟨wb, wo, none⟩) yg pc, .int .i64 0, .int .i64 (tp : Nat), .slice (some ⟨wb, wo + yg, none⟩) ol oc, .int .i64 (yg : Nat), .int .i64 (ou : Nat), .slice ta tl tc], .int .i64 pl] w fun e w' => e = .returned (.int .i64 (((pl - yg - 1) / 4 : Nat) : Int)) ∧ Below w.heap.size w w' := by
  have hq : ((pl : Int) - (yg : Int) - 1).tdiv 4 = (((pl - yg - 1) / 4 : Nat) : Int) := by rw [Int.tdiv_eq_ediv_of_nonneg (by omega)]; omega
  have hz : w.heap.size + 1 ≤ (w.alloc (.cells #[.slice ca cn cc, .slice (some ⟨wb, wo, none⟩) wl wc, .int .i64 (yg : Nat), .int .i64 (tp : Nat), .int .i64 (od : Nat), .slice da dl dc, .slice (some ⟨wb, wo, none⟩) yg pc, .int .i64 0, .int .i64 (tp : Nat), .slice (some ⟨wb, wo + yg, none⟩) ol oc, .int .i64 (yg : Nat), .int .i64 (ou : Nat), .slice ta tl tc] 65)).heap.size := by simp
  have B : Hid (∀ y, Below (w.heap.size + 1) (w.alloc (.cells #[.slice ca cn cc, .slice (some ⟨wb, wo, none⟩) wl wc, .int .i64 (yg : Nat), .int .i64 (tp : Nat), .int .i64 (od : Nat), .slice da dl dc, .slice (some ⟨wb, wo, none⟩) yg pc, .int .i64 0, .int .i64 (tp : Nat), .slice (some ⟨wb, wo + yg, none⟩) ol oc, .int .i64 (yg : Nat), .int .i64 (ou : Nat), .slice ta tl tc] 65)) y → Below w.heap.size w y) := fun y hy => (bR.alloc (by first | exact Nat.le_refl _ | (simp; done) | (simp; omega)) _).trans (hy.mono (by omega))
  have XM : Hid (∀ y, Below (w.heap.size + 1) (w.alloc (.cells #[.slice ca cn cc, .slice (some ⟨wb, wo, none⟩) wl wc, .int .i64 (yg : Nat), .int .i64 (tp : Nat), .int .i64 (od : Nat), .slice da dl dc, .slice (some ⟨wb, wo, none⟩) yg pc, .int .i64 0, .int .i64 (tp : Nat), .slice (some ⟨wb, wo + yg, none⟩) ol oc, .int .i64 (yg : Nat), .int .i64 (ou : Nat), .slice ta tl tc] 65)) y → y.heap[w.heap.size]? = some (.cells #[.slice ca cn cc, .slice (some ⟨wb, wo, none⟩) wl wc, .int .i64 (yg : Nat), .int .i64 (tp : Nat), .int .i64 (od : Nat), .slice da dl dc, .slice (some ⟨wb, wo, none⟩) yg pc, .int .i64 0, .int .i64 (tp : Nat), .slice (some ⟨wb, wo + yg, none⟩) ol oc, .int .i64 (yg : Nat), .int .i64 (ou : Nat), .slice ta tl tc] 65 (0, 0))) := fun y hy => (hy.block _ (by omega)).trans (boxN _ _ _ _ (by simp))
  have lM : w.heap.size < w.heap.size + 1 := by omega
  go_enter Tryz.func88, Tryz.ntmps88
  go_wp2_with fail
  go_ret
  exact ⟨rfl, B.out _ (Below.refl _ _)⟩

set_option maxRecDepth 100000 in
set_option maxHeartbeats 4000000 in
theorem numberImpl (ca : Option Addr) (cn cc wb wo wl wc yg tp od : Nat) (da : Option Addr) (dl dc pc ol oc ou : Nat) (ta : Option Addr) (tl tc : Nat) (T : List Th) (v : Int) (w : World) {D : Nat → Prop} (h : SlAt thR D w ta tl T) (hi : Inc T) (hl : tl ≤ 1000) (hv : i64B v) : Calls Tryz.prog 114 #[.agg #[.slice ca cn cc, .slice (some ⟨wb, wo, none⟩) wl wc, .int .i64 (yg : Nat), .int .i64 (tp : Nat), .int .i64 (od : Nat), .slice da dl dc, .slice (some ⟨wb, wo, none⟩) yg pc, .int .i64 0, .int .i64 (tp : Nat), .slice (some ⟨wb, wo + yg, none⟩) ol oc, .int .i64 (yg : Nat), .int .i64 (ou : Nat), .slice ta tl tc], .int .i64 v] w fun e w' => ∃ n : Nat, e = .returned (.int .i64 n) ∧ NumP T v n ∧ n ≤ 1001 ∧ Below w.heap.size w w' := by
  have H : Hid (SlAt thR D w ta tl T) := h
  have IN : Hid (Inc T) := hi
  clear h hi
  have hz : w.heap.size + 1 ≤ (w.alloc (.cells #[.slice ca cn cc, .slice (some ⟨wb, wo, none⟩) wl wc, .int .i64 (yg : Nat), .int .i64 (tp : Nat), .int .i64 (od : Nat), .slice da dl dc, .slice (some ⟨wb, wo, none⟩) yg pc, .int .i64 0, .int .i64 (tp : Nat), .slice (some ⟨wb, wo + yg, none⟩) ol oc, .int .i64 (yg : Nat), .int .i64 (ou : Nat), .slice ta tl tc] 65)).heap.size := by simp
  have B : Hid (∀ y, Below (w.heap.size + 1) (w.alloc (.cells #[.slice ca cn cc, .slice (some ⟨wb, wo, none⟩) wl wc, .int .i64 (yg : Nat), .int .i64 (tp : Nat), .int .i64 (od : Nat), .slice da dl dc, .slice (some ⟨wb, wo, none⟩) yg pc, .int .i64 0, .int .i64 (tp : Nat), .slice (some ⟨wb, wo + yg, none⟩) ol oc, .int .i64 (yg : Nat), .int .i64 (ou : Nat), .slice ta tl tc] 65)) y → Below w.heap.size w y) := fun y hy => (bR.alloc (by first | exact Nat.le_refl _ | (simp; done) | (simp; omega)) _).trans (hy.mono (by omega))
  have XM : Hid (∀ y, Below (w.heap.size + 1) (w.alloc (.cells #[.slice ca cn cc, .slice (some ⟨wb, wo, none⟩) wl wc, .int .i64 (yg : Nat), .int .i64 (tp : Nat), .int .i64 (od : Nat), .slice da dl dc, .slice (some ⟨wb, wo, none⟩) yg pc, .int .i64 0, .int .i64 (tp : Nat), .slice (some ⟨wb, wo + yg, none⟩) ol oc, .int .i64 (yg : Nat), .int .i64 (ou : Nat), .slice ta tl tc] 65)) y → y.heap[w.heap.size]? = some (.cells #[.slice ca cn cc, .slice (some ⟨wb, wo, none⟩) wl wc, .int .i64 (yg : Nat), .int .i64 (tp : Nat), .int .i64 (od : Nat), .slice da dl dc, .slice (some ⟨wb, wo, none⟩) yg pc, .int .i64 0, .int .i64 (tp : Nat), .slice (some ⟨wb, wo + yg, none⟩) ol oc, .int .i64 (yg : Nat), .int .i64 (ou : Nat), .slice ta tl tc] 65 (0, 0))) := fun y hy => (hy.block _ (by omega)).trans (boxN _ _ _ _ (by simp))
  have lM : w.heap.size < w.heap.size + 1 := by omega
  go_enter Tryz.func114, Tryz.ntmps114
  go_wp2_with fail
  have BP : Hid (Below (w.heap.size + 1) (w.alloc (.cells #[.slice ca cn cc, .slice (some ⟨wb, wo, none⟩) wl wc, .int .i64 (yg : Nat), .int .i64 (tp : Nat), .int .i64 (od : Nat), .slice da dl dc, .slice (some ⟨wb, wo, none⟩) yg pc, .int .i64 0, .int .i64 (tp : Nat), .slice (some ⟨wb, wo + yg, none⟩) ol oc, .int .i64 (yg : Nat), .int .i64 (ou : Nat), .slice ta tl tc] 65)) (w.alloc (.cells #[.slice ca cn cc, .slice (some ⟨wb, wo, none⟩) wl wc, .int .i64 (yg : Nat), .int .i64 (tp : Nat), .int .i64 (od : Nat), .slice da dl dc, .slice (some ⟨wb, wo, none⟩) yg pc, .int .i64 0, .int .i64 (tp : Nat), .slice (some ⟨wb, wo + yg, none⟩) ol oc, .int .i64 (yg : Nat), .int .i64 (ou : Nat), .slice ta tl tc] 65))) := bR
  refine (searchImpl ta tl tc T v _ (H.out.later (B.out _ BP.out)) IN.out hl hv).mono ?_
  rintro e w1 ⟨j, rfl, hj, hat, hb⟩
  have hq : Below (w.heap.size + 1) (w.alloc (.cells #[.slice ca cn cc, .slice (some ⟨wb, wo, none⟩) wl wc, .int .i64 (yg : Nat), .int .i64 (tp : Nat), .int .i64 (od : Nat), .slice da dl dc, .slice (some ⟨wb, wo, none⟩) yg pc, .int .i64 0, .int .i64 (tp : Nat), .slice (some ⟨wb, wo + yg, none⟩) ol oc, .int .i64 (yg : Nat), .int .i64 (ou : Nat), .slice ta tl tc] 65)) w1 := BP.out.trans (Below.mono hb (Nat.le_trans hz BP.out.size))
  have hzn : w.heap.size + 1 ≤ w1.heap.size := Nat.le_trans hz hq.size
  replace B := lF B hq hzn
  replace XM := lF XM hq hzn
  replace lM := Nat.lt_of_lt_of_le lM hzn
  clear hq BP hz
  have hz : w1.heap.size ≤ w1.heap.size := Nat.le_refl _
  clear hb
  have HA : Hid (isAt T v = true → ∃ t, T[j]? = some t ∧ t.1 = v) := hat
  clear hat
  obtain ⟨q, hq⟩ : ∃ q, isAt T v = q := ⟨_, rfl⟩
  have HQ : Hid (isAt T v = q) := hq
  rw [hq]
  clear hq
  cases q
  · obtain ⟨kM0, kM1, kM2, kM3, kM4, kM5, kM6, kM7, kM8, kM9, kM10, kM11, kM12⟩ := bk13 (XM.out w1 bR)
    go_wp2_with fail
    go_ret
    exact ⟨0, rfl, .inl ⟨HQ.out, rfl⟩, by omega, B.out w1 (Below.refl _ _)⟩
  · obtain ⟨kM0, kM1, kM2, kM3, kM4, kM5, kM6, kM7, kM8, kM9, kM10, kM11, kM12⟩ := bk13 (XM.out w1 bR)
    go_wp2_with fail
    go_ret
    exact ⟨j + 1, rfl, .inr ⟨HQ.out, by obtain ⟨t, ht, htv⟩ := HA.out HQ.out; exact ⟨j, t, rfl, ht, htv⟩⟩, by omega, B.out w1 (Below.refl _ _)⟩

set_option maxRecDepth 100000 in
set_option maxHeartbeats 4000000 in
theorem mayLeadImpl (ca : Option Addr) (cn cc wb wo wl wc yg tp od : Nat) (da : Option Addr) (dl dc pc ol oc ou : Nat) (ta : Option Addr) (tl tc : Nat) (T : List Th) (v : Int) (w : World) {D : Nat → Prop} (h : SlAt thR D w ta tl T) (hi : Inc T) (hl : tl ≤ 1000) (hv : i64B v) : Calls Tryz.prog 85 #[.agg #[.slice ca cn cc, .slice (some ⟨wb, wo, none⟩) wl wc, .int .i64 (yg : Nat), .int .i64 (tp : Nat), .int .i64 (od : Nat), .slice da dl dc, .slice (some ⟨wb, wo, none⟩) yg pc, .int .i64 0, .int .i64 (tp : Nat), .slice (some ⟨wb, wo + yg, none⟩) ol oc, .int .i64 (yg : Nat), .int .i64 (ou : Nat), .slice ta tl tc], .int .i64 v] w fun e w' => e = .returned (.bool (v == 0 || isAt T v)) ∧ Below w.heap.size w w' := by
  have H : Hid (SlAt thR D w ta tl T) := h
  have IN : Hid (Inc T) := hi
  clear h hi
  have hv1 := hv.1
  have hv2 := hv.2
  have hz : w.heap.size + 1 ≤ (w.alloc (.cells #[.slice ca cn cc, .slice (some ⟨wb, wo, none⟩) wl wc, .int .i64 (yg : Nat), .int .i64 (tp : Nat), .int .i64 (od : Nat), .slice da dl dc, .slice (some ⟨wb, wo, none⟩) yg pc, .int .i64 0, .int .i64 (tp : Nat), .slice (some ⟨wb, wo + yg, none⟩) ol oc, .int .i64 (yg : Nat), .int .i64 (ou : Nat), .slice ta tl tc] 65)).heap.size := by simp
  have B : Hid (∀ y, Below (w.heap.size + 1) (w.alloc (.cells #[.slice ca cn cc, .slice (some ⟨wb, wo, none⟩) wl wc, .int .i64 (yg : Nat), .int .i64 (tp : Nat), .int .i64 (od : Nat), .slice da dl dc, .slice (some ⟨wb, wo, none⟩) yg pc, .int .i64 0, .int .i64 (tp : Nat), .slice (some ⟨wb, wo + yg, none⟩) ol oc, .int .i64 (yg : Nat), .int .i64 (ou : Nat), .slice ta tl tc] 65)) y → Below w.heap.size w y) := fun y hy => (bR.alloc (by first | exact Nat.le_refl _ | (simp; done) | (simp; omega)) _).trans (hy.mono (by omega))
  have XM : Hid (∀ y, Below (w.heap.size + 1) (w.alloc (.cells #[.slice ca cn cc, .slice (some ⟨wb, wo, none⟩) wl wc, .int .i64 (yg : Nat), .int .i64 (tp : Nat), .int .i64 (od : Nat), .slice da dl dc, .slice (some ⟨wb, wo, none⟩) yg pc, .int .i64 0, .int .i64 (tp : Nat), .slice (some ⟨wb, wo + yg, none⟩) ol oc, .int .i64 (yg : Nat), .int .i64 (ou : Nat), .slice ta tl tc] 65)) y → y.heap[w.heap.size]? = some (.cells #[.slice ca cn cc, .slice (some ⟨wb, wo, none⟩) wl wc, .int .i64 (yg : Nat), .int .i64 (tp : Nat), .int .i64 (od : Nat), .slice da dl dc, .slice (some ⟨wb, wo, none⟩) yg pc, .int .i64 0, .int .i64 (tp : Nat), .slice (some ⟨wb, wo + yg, none⟩) ol oc, .int .i64 (yg : Nat), .int .i64 (ou : Nat), .slice ta tl tc] 65 (0, 0))) := fun y hy => (hy.block _ (by omega)).trans (boxN _ _ _ _ (by simp))
  have lM : w.heap.size < w.heap.size + 1 := by omega
  by_cases e2 : v = 0
  · have e2b : (v == 0) = true := by simp [e2]
    go_enter Tryz.func85, Tryz.ntmps85
    go_wp2_with fail
    go_ret
    exact ⟨by rw [e2b]; rfl, B.out _ (Below.refl _ _)⟩
  have e2b : (v == 0) = false := by simp [e2]
  go_enter Tryz.func85, Tryz.ntmps85
  go_wp2_with fail
  have BP : Hid (Below (w.heap.size + 1) (w.alloc (.cells #[.slice ca cn cc, .slice (some ⟨wb, wo, none⟩) wl wc, .int .i64 (yg : Nat), .int .i64 (tp : Nat), .int .i64 (od : Nat), .slice da dl dc, .slice (some ⟨wb, wo, none⟩) yg pc, .int .i64 0, .int .i64 (tp : Nat), .slice (some ⟨wb, wo + yg, none⟩) ol oc, .int .i64 (yg : Nat), .int .i64 (ou : Nat), .slice ta tl tc] 65)) (w.alloc (.cells #[.slice ca cn cc, .slice (some ⟨wb, wo, none⟩) wl wc, .int .i64 (yg : Nat), .int .i64 (tp : Nat), .int .i64 (od : Nat), .slice da dl dc, .slice (some ⟨wb, wo, none⟩) yg pc, .int .i64 0, .int .i64 (tp : Nat), .slice (some ⟨wb, wo + yg, none⟩) ol oc, .int .i64 (yg : Nat), .int .i64 (ou : Nat), .slice ta tl tc] 65))) := bR
  refine (numberImpl ca cn cc wb wo wl wc yg tp od da dl dc pc ol oc ou ta tl tc T v _ (H.out.later (B.out _ BP.out)) IN.out hl hv).mono ?_
  rintro e w1 ⟨n, rfl, hn, hn2, hb⟩
  have HZ : Hid (((n : Int) != 0) = isAt T v) := hn.zero
  have hq : Below (w.heap.size + 1) (w.alloc (.cells #[.slice ca cn cc, .slice (some ⟨wb, wo, none⟩) wl wc, .int .i64 (yg : Nat), .int .i64 (tp : Nat), .int .i64 (od : Nat), .slice da dl dc, .slice (some ⟨wb, wo, none⟩) yg pc, .int .i64 0, .int .i64 (tp : Nat), .slice (some ⟨wb, wo + yg, none⟩) ol oc, .int .i64 (yg : Nat), .int .i64 (ou : Nat), .slice ta tl tc] 65)) w1 := BP.out.trans (Below.mono hb (Nat.le_trans hz BP.out.size))
  have hzn : w.heap.size + 1 ≤ w1.heap.size := Nat.le_trans hz hq.size
  replace B := lF B hq hzn
  replace XM := lF XM hq hzn
  replace lM := Nat.lt_of_lt_of_le lM hzn
  clear hq BP hz
  have hz : w1.heap.size ≤ w1.heap.size := Nat.le_refl _
  clear hb
  obtain ⟨kM0, kM1, kM2, kM3, kM4, kM5, kM6, kM7, kM8, kM9, kM10, kM11, kM12⟩ := bk13 (XM.out w1 bR)
  go_wp2_with fail
  go_ret
  exact ⟨by rw [e2b, ← HZ.out]; rfl, B.out w1 (Below.refl _ _)⟩

/-- Whether a value may be where a type is told, which may be none. -/
def mayA (T : List Th) (ty v : Int) : Bool := ty == 0 || mayV T ty v
set_option maxRecDepth 100000 in
set_option maxHeartbeats 4000000 in
theorem mayImpl (ca : Option Addr) (cn cc wb wo wl wc yg tp od : Nat) (da : Option Addr) (dl dc pc ol oc ou : Nat) (ta : Option Addr) (tl tc : Nat) (T : List Th) (v ty : Int) (w : World) {D : Nat → Prop} (h : SlAt thR D w ta tl T) (hi : Inc T) (hl : tl ≤ 1000) (hv : i64B v) : Calls Tryz.prog 52 #[.agg #[.slice ca cn cc, .slice (some ⟨wb, wo, none⟩) wl wc, .int .i64 (yg : Nat), .int .i64 (tp : Nat), .int .i64 (od : Nat), .slice da dl dc, .slice (some ⟨wb, wo, none⟩) yg pc, .int .i64 0, .int .i64 (tp : Nat), .slice (some ⟨wb, wo + yg, none⟩) ol oc, .int .i64 (yg : Nat), .int .i64 (ou : Nat), .slice ta tl tc], .int .i64 v, .int .i64 ty] w fun e w' => e = .returned (.bool (mayA T ty v)) ∧ Below w.heap.size w w' := by
  have H : Hid (SlAt thR D w ta tl T) := h
  have IN : Hid (Inc T) := hi
  clear h hi
  have hv1 := hv.1
  have hv2 := hv.2
  have hz : w.heap.size + 1 ≤ (w.alloc (.cells #[.slice ca cn cc, .slice (some ⟨wb, wo, none⟩) wl wc, .int .i64 (yg : Nat), .int .i64 (tp : Nat), .int .i64 (od : Nat), .slice da dl dc, .slice (some ⟨wb, wo, none⟩) yg pc, .int .i64 0, .int .i64 (tp : Nat), .slice (some ⟨wb, wo + yg, none⟩) ol oc, .int .i64 (yg : Nat), .int .i64 (ou : Nat), .slice ta tl tc] 65)).heap.size := by simp
  have B : Hid (∀ y, Below (w.heap.size + 1) (w.alloc (.cells #[.slice ca cn cc, .slice (some ⟨wb, wo, none⟩) wl wc, .int .i64 (yg : Nat), .int .i64 (tp : Nat), .int .i64 (od : Nat), .slice da dl dc, .slice (some ⟨wb, wo, none⟩) yg pc, .int .i64 0, .int .i64 (tp : Nat), .slice (some ⟨wb, wo + yg, none⟩) ol oc, .int .i64 (yg : Nat), .int .i64 (ou : Nat), .slice ta tl tc] 65)) y → Below w.heap.size w y) := fun y hy => (bR.alloc (by first | exact Nat.le_refl _ | (simp; done) | (simp; omega)) _).trans (hy.mono (by omega))
  have XM : Hid (∀ y, Below (w.heap.size + 1) (w.alloc (.cells #[.slice ca cn cc, .slice (some ⟨wb, wo, none⟩) wl wc, .int .i64 (yg : Nat), .int .i64 (tp : Nat), .int .i64 (od : Nat), .slice da dl dc, .slice (some ⟨wb, wo, none⟩) yg pc, .int .i64 0, .int .i64 (tp : Nat), .slice (some ⟨wb, wo + yg, none⟩) ol oc, .int .i64 (yg : Nat), .int .i64 (ou : Nat), .slice ta tl tc] 65)) y → y.heap[w.heap.size]? = some (.cells #[.slice ca cn cc, .slice (some ⟨wb, wo, none⟩) wl wc, .int .i64 (yg : Nat), .int .i64 (tp : Nat), .int .i64 (od : Nat), .slice da dl dc, .slice (some ⟨wb, wo, none⟩) yg pc, .int .i64 0, .int .i64 (tp : Nat), .slice (some ⟨wb, wo + yg, none⟩) ol oc, .int .i64 (yg : Nat), .int .i64 (ou : Nat), .slice ta tl tc] 65 (0, 0))) := fun y hy => (hy.block _ (by omega)).trans (boxN _ _ _ _ (by simp))
  have lM : w.heap.size < w.heap.size + 1 := by omega
  by_cases e0 : ty = 0
  · have e0b : (ty == 0) = true := by simp [e0]
    go_enter Tryz.func52, Tryz.ntmps52
    go_wp2_with fail
    go_ret
    exact ⟨by unfold mayA; rw [e0b]; rfl, B.out _ bR⟩
  have e0b : (ty == 0) = false := by simp [e0]
  have MA : Hid (mayA T ty v = mayV T ty v) := by show _ = _; unfold mayA; rw [e0b]; rfl
  by_cases e1 : ty = 1
  · have MV : Hid (mayV T ty v = inI v (-128) 127) := if_pos e1
    have e1b : (ty == 1) = true := by simp [e1]
    go_enter Tryz.func52, Tryz.ntmps52
    go_wp2_with fail
    refine (wordImpl v _).mono ?_
    rintro e w1 ⟨rfl, rfl⟩
    go_wp2_with fail
    go_ret
    exact ⟨by rw [MA.out, MV.out]; rfl, B.out _ bR⟩
  have MV : Hid (mayV T ty v = (v == 0 || isAt T v)) := if_neg e1
  have e1b : (ty == 1) = false := by simp [e1]
  go_enter Tryz.func52, Tryz.ntmps52
  go_wp2_with fail
  have BP : Hid (Below (w.heap.size + 1) (w.alloc (.cells #[.slice ca cn cc, .slice (some ⟨wb, wo, none⟩) wl wc, .int .i64 (yg : Nat), .int .i64 (tp : Nat), .int .i64 (od : Nat), .slice da dl dc, .slice (some ⟨wb, wo, none⟩) yg pc, .int .i64 0, .int .i64 (tp : Nat), .slice (some ⟨wb, wo + yg, none⟩) ol oc, .int .i64 (yg : Nat), .int .i64 (ou : Nat), .slice ta tl tc] 65)) (w.alloc (.cells #[.slice ca cn cc, .slice (some ⟨wb, wo, none⟩) wl wc, .int .i64 (yg : Nat), .int .i64 (tp : Nat), .int .i64 (od : Nat), .slice da dl dc, .slice (some ⟨wb, wo, none⟩) yg pc, .int .i64 0, .int .i64 (tp : Nat), .slice (some ⟨wb, wo + yg, none⟩) ol oc, .int .i64 (yg : Nat), .int .i64 (ou : Nat), .slice ta tl tc] 65))) := bR
  refine (mayLeadImpl ca cn cc wb wo wl wc yg tp od da dl dc pc ol oc ou ta tl tc T v _ (H.out.later (B.out _ BP.out)) IN.out hl hv).mono ?_
  rintro e w1 ⟨rfl, hb⟩
  have hq : Below (w.heap.size + 1) (w.alloc (.cells #[.slice ca cn cc, .slice (some ⟨wb, wo, none⟩) wl wc, .int .i64 (yg : Nat), .int .i64 (tp : Nat), .int .i64 (od : Nat), .slice da dl dc, .slice (some ⟨wb, wo, none⟩) yg pc, .int .i64 0, .int .i64 (tp : Nat), .slice (some ⟨wb, wo + yg, none⟩) ol oc, .int .i64 (yg : Nat), .int .i64 (ou : Nat), .slice ta tl tc] 65)) w1 := BP.out.trans (Below.mono hb (Nat.le_trans hz BP.out.size))
  have hzn : w.heap.size + 1 ≤ w1.heap.size := Nat.le_trans hz hq.size
  replace B := lF B hq hzn
  replace XM := lF XM hq hzn
  replace lM := Nat.lt_of_lt_of_le lM hzn
  clear hq BP hz
  have hz : w1.heap.size ≤ w1.heap.size := Nat.le_refl _
  clear hb
  obtain ⟨kM0, kM1, kM2, kM3, kM4, kM5, kM6, kM7, kM8, kM9, kM10, kM11, kM12⟩ := bk13 (XM.out w1 bR)
  go_wp2_with fail
  go_ret
  exact ⟨by rw [MA.out, MV.out]; rfl, B.out w1 bR⟩

set_option maxRecDepth 100000 in
set_option maxHeartbeats 4000000 in
theorem needsImpl (ca : Option Addr) (cn cc wb wo wl wc yg tp od : Nat) (da : Option Addr) (dl dc pc ol oc ou : Nat) (ta : Option Addr) (tl tc : Nat) (p : Nat) (c0 : Int) (ya : Option Addr) (yl yc : Nat) (k : Nat) (v : Int) (ty : List Int) (w : World) {D : Nat → Prop} (h : IntsAt D w ya yl ty) (hk : k < yl) (hz0 : ty.getD k 0 ≠ 0) : Calls Tryz.prog 87 #[.agg #[.slice ca cn cc, .slice (some ⟨wb, wo, none⟩) wl wc, .int .i64 (yg : Nat), .int .i64 (tp : Nat), .int .i64 (od : Nat), .slice da dl dc, .slice (some ⟨wb, wo, none⟩) yg pc, .int .i64 0, .int .i64 (tp : Nat), .slice (some ⟨wb, wo + yg, none⟩) ol oc, .int .i64 (yg : Nat), .int .i64 (ou : Nat), .slice ta tl tc], .agg #[.int .i64 ((p : Int) + 1), .int .i64 c0, .slice ya yl yc], .int .i64 k, .int .i64 v] w fun e w' => e = .returned (.bool (!(inI ((p : Int) + 1) 1 yg) && (ty.getD k 0 != 1 && inI v 1 yg))) ∧ Below w.heap.size w w' := by
  have H : Hid (IntsAt D w ya yl ty) := h
  clear h
  have hz : w.heap.size + 1 + 1 ≤ ((w.alloc (.cells #[.slice ca cn cc, .slice (some ⟨wb, wo, none⟩) wl wc, .int .i64 (yg : Nat), .int .i64 (tp : Nat), .int .i64 (od : Nat), .slice da dl dc, .slice (some ⟨wb, wo, none⟩) yg pc, .int .i64 0, .int .i64 (tp : Nat), .slice (some ⟨wb, wo + yg, none⟩) ol oc, .int .i64 (yg : Nat), .int .i64 (ou : Nat), .slice ta tl tc] 65)).alloc (.cells #[.int .i64 ((p : Int) + 1), .int .i64 c0, .slice ya yl yc] 69)).heap.size := by simp
  have B : Hid (∀ y, Below (w.heap.size + 1 + 1) ((w.alloc (.cells #[.slice ca cn cc, .slice (some ⟨wb, wo, none⟩) wl wc, .int .i64 (yg : Nat), .int .i64 (tp : Nat), .int .i64 (od : Nat), .slice da dl dc, .slice (some ⟨wb, wo, none⟩) yg pc, .int .i64 0, .int .i64 (tp : Nat), .slice (some ⟨wb, wo + yg, none⟩) ol oc, .int .i64 (yg : Nat), .int .i64 (ou : Nat), .slice ta tl tc] 65)).alloc (.cells #[.int .i64 ((p : Int) + 1), .int .i64 c0, .slice ya yl yc] 69)) y → Below w.heap.size w y) := fun y hy => ((bR.alloc (by first | exact Nat.le_refl _ | (simp; done) | (simp; omega)) _).alloc (by first | exact Nat.le_refl _ | (simp; done) | (simp; omega)) _).trans (hy.mono (by omega))
  have XM : Hid (∀ y, Below (w.heap.size + 1 + 1) ((w.alloc (.cells #[.slice ca cn cc, .slice (some ⟨wb, wo, none⟩) wl wc, .int .i64 (yg : Nat), .int .i64 (tp : Nat), .int .i64 (od : Nat), .slice da dl dc, .slice (some ⟨wb, wo, none⟩) yg pc, .int .i64 0, .int .i64 (tp : Nat), .slice (some ⟨wb, wo + yg, none⟩) ol oc, .int .i64 (yg : Nat), .int .i64 (ou : Nat), .slice ta tl tc] 65)).alloc (.cells #[.int .i64 ((p : Int) + 1), .int .i64 c0, .slice ya yl yc] 69)) y → y.heap[w.heap.size]? = some (.cells #[.slice ca cn cc, .slice (some ⟨wb, wo, none⟩) wl wc, .int .i64 (yg : Nat), .int .i64 (tp : Nat), .int .i64 (od : Nat), .slice da dl dc, .slice (some ⟨wb, wo, none⟩) yg pc, .int .i64 0, .int .i64 (tp : Nat), .slice (some ⟨wb, wo + yg, none⟩) ol oc, .int .i64 (yg : Nat), .int .i64 (ou : Nat), .slice ta tl tc] 65 (0, 0))) := fun y hy => (hy.block _ (by omega)).trans ((Below.heap_alloc _ _ _ (by first | (simp; done) | (simp; omega))).trans (boxN _ _ _ _ (by simp)))
  have lM : w.heap.size < w.heap.size + 1 + 1 := by omega
  have XT : Hid (∀ y, Below (w.heap.size + 1 + 1) ((w.alloc (.cells #[.slice ca cn cc, .slice (some ⟨wb, wo, none⟩) wl wc, .int .i64 (yg : Nat), .int .i64 (tp : Nat), .int .i64 (od : Nat), .slice da dl dc, .slice (some ⟨wb, wo, none⟩) yg pc, .int .i64 0, .int .i64 (tp : Nat), .slice (some ⟨wb, wo + yg, none⟩) ol oc, .int .i64 (yg : Nat), .int .i64 (ou : Nat), .slice ta tl tc] 65)).alloc (.cells #[.int .i64 ((p : Int) + 1), .int .i64 c0, .slice ya yl yc] 69)) y → y.heap[w.heap.size + 1]? = some (.cells #[.int .i64 ((p : Int) + 1), .int .i64 c0, .slice ya yl yc] 69 (0, 0))) := fun y hy => (hy.block _ (by omega)).trans (boxN _ _ _ _ (by simp))
  have lT : w.heap.size + 1 < w.heap.size + 1 + 1 := by omega
  cases q1 : inI ((p : Int) + 1) 1 yg
  · cases q2 : (ty.getD k 0 != 1)
    · go_enter Tryz.func87, Tryz.ntmps87
      go_wp2_with fail
      have BP : Hid (Below (w.heap.size + 1 + 1) ((w.alloc (.cells #[.slice ca cn cc, .slice (some ⟨wb, wo, none⟩) wl wc, .int .i64 (yg : Nat), .int .i64 (tp : Nat), .int .i64 (od : Nat), .slice da dl dc, .slice (some ⟨wb, wo, none⟩) yg pc, .int .i64 0, .int .i64 (tp : Nat), .slice (some ⟨wb, wo + yg, none⟩) ol oc, .int .i64 (yg : Nat), .int .i64 (ou : Nat), .slice ta tl tc] 65)).alloc (.cells #[.int .i64 ((p : Int) + 1), .int .i64 c0, .slice ya yl yc] 69)) ((w.alloc (.cells #[.slice ca cn cc, .slice (some ⟨wb, wo, none⟩) wl wc, .int .i64 (yg : Nat), .int .i64 (tp : Nat), .int .i64 (od : Nat), .slice da dl dc, .slice (some ⟨wb, wo, none⟩) yg pc, .int .i64 0, .int .i64 (tp : Nat), .slice (some ⟨wb, wo + yg, none⟩) ol oc, .int .i64 (yg : Nat), .int .i64 (ou : Nat), .slice ta tl tc] 65)).alloc (.cells #[.int .i64 ((p : Int) + 1), .int .i64 c0, .slice ya yl yc] 69))) := bR
      refine (youngImpl ca cn cc wb wo wl wc yg tp od da dl dc pc ol oc ou ta tl tc ((p : Int) + 1) _).mono ?_
      rintro e w1 ⟨rfl, hb⟩
      have hq : Below (w.heap.size + 1 + 1) ((w.alloc (.cells #[.slice ca cn cc, .slice (some ⟨wb, wo, none⟩) wl wc, .int .i64 (yg : Nat), .int .i64 (tp : Nat), .int .i64 (od : Nat), .slice da dl dc, .slice (some ⟨wb, wo, none⟩) yg pc, .int .i64 0, .int .i64 (tp : Nat), .slice (some ⟨wb, wo + yg, none⟩) ol oc, .int .i64 (yg : Nat), .int .i64 (ou : Nat), .slice ta tl tc] 65)).alloc (.cells #[.int .i64 ((p : Int) + 1), .int .i64 c0, .slice ya yl yc] 69)) w1 := BP.out.trans (Below.mono hb (Nat.le_trans hz BP.out.size))
      have hzn : w.heap.size + 1 + 1 ≤ w1.heap.size := Nat.le_trans hz hq.size
      replace B := lF B hq hzn
      replace XM := lF XM hq hzn
      replace lM := Nat.lt_of_lt_of_le lM hzn
      replace XT := lF XT hq hzn
      replace lT := Nat.lt_of_lt_of_le lT hzn
      clear hq BP hz
      have hz : w1.heap.size ≤ w1.heap.size := Nat.le_refl _
      clear hb
      rw [q1]
      obtain ⟨kM0, kM1, kM2, kM3, kM4, kM5, kM6, kM7, kM8, kM9, kM10, kM11, kM12⟩ := bk13 (XM.out w1 bR)
      obtain ⟨kT0, kT1, kT2⟩ := bk3 (XT.out w1 bR)
      go_wp2_with fail
      clear kM0 kM1 kM2 kM3 kM4 kM5 kM6 kM7 kM8 kM9 kM10 kM11 kM12 kT0 kT1 kT2
      have BP : Hid (Below (w1.heap.size) w1 w1) := bR
      refine (leadsImpl _ c0 ya yl yc k ty _ (H.out.later (B.out _ BP.out)) hk hz0).mono ?_
      rintro e w2 ⟨rfl, hb⟩
      have hq : Below (w1.heap.size) w1 w2 := BP.out.trans (Below.mono hb (Nat.le_trans hz BP.out.size))
      have hzn : w1.heap.size ≤ w2.heap.size := Nat.le_trans hz hq.size
      replace B := lF B hq hzn
      replace XM := lF XM hq hzn
      replace lM := Nat.lt_of_lt_of_le lM hzn
      replace XT := lF XT hq hzn
      replace lT := Nat.lt_of_lt_of_le lT hzn
      clear hq BP hz
      have hz : w2.heap.size ≤ w2.heap.size := Nat.le_refl _
      clear hb
      rw [q2]
      obtain ⟨kM0, kM1, kM2, kM3, kM4, kM5, kM6, kM7, kM8, kM9, kM10, kM11, kM12⟩ := bk13 (XM.out w2 bR)
      obtain ⟨kT0, kT1, kT2⟩ := bk3 (XT.out w2 bR)
      go_wp2_with fail
      clear kM0 kM1 kM2 kM3 kM4 kM5 kM6 kM7 kM8 kM9 kM10 kM11 kM12 kT0 kT1 kT2
      go_ret
      exact ⟨rfl, B.out w2 (Below.refl _ _)⟩
    · go_enter Tryz.func87, Tryz.ntmps87
      go_wp2_with fail
      have BP : Hid (Below (w.heap.size + 1 + 1) ((w.alloc (.cells #[.slice ca cn cc, .slice (some ⟨wb, wo, none⟩) wl wc, .int .i64 (yg : Nat), .int .i64 (tp : Nat), .int .i64 (od : Nat), .slice da dl dc, .slice (some ⟨wb, wo, none⟩) yg pc, .int .i64 0, .int .i64 (tp : Nat), .slice (some ⟨wb, wo + yg, none⟩) ol oc, .int .i64 (yg : Nat), .int .i64 (ou : Nat), .slice ta tl tc] 65)).alloc (.cells #[.int .i64 ((p : Int) + 1), .int .i64 c0, .slice ya yl yc] 69)) ((w.alloc (.cells #[.slice ca cn cc, .slice (some ⟨wb, wo, none⟩) wl wc, .int .i64 (yg : Nat), .int .i64 (tp : Nat), .int .i64 (od : Nat), .slice da dl dc, .slice (some ⟨wb, wo, none⟩) yg pc, .int .i64 0, .int .i64 (tp : Nat), .slice (some ⟨wb, wo + yg, none⟩) ol oc, .int .i64 (yg : Nat), .int .i64 (ou : Nat), .slice ta tl tc] 65)).alloc (.cells #[.int .i64 ((p : Int) + 1), .int .i64 c0, .slice ya yl yc] 69))) := bR
      refine (youngImpl ca cn cc wb wo wl wc yg tp od da dl dc pc ol oc ou ta tl tc ((p : Int) + 1) _).mono ?_
      rintro e w1 ⟨rfl, hb⟩
      have hq : Below (w.heap.size + 1 + 1) ((w.alloc (.cells #[.slice ca cn cc, .slice (some ⟨wb, wo, none⟩) wl wc, .int .i64 (yg : Nat), .int .i64 (tp : Nat), .int .i64 (od : Nat), .slice da dl dc, .slice (some ⟨wb, wo, none⟩) yg pc, .int .i64 0, .int .i64 (tp : Nat), .slice (some ⟨wb, wo + yg, none⟩) ol oc, .int .i64 (yg : Nat), .int .i64 (ou : Nat), .slice ta tl tc] 65)).alloc (.cells #[.int .i64 ((p : Int) + 1), .int .i64 c0, .slice ya yl yc] 69)) w1 := BP.out.trans (Below.mono hb (Nat.le_trans hz BP.out.size))
      have hzn : w.heap.size + 1 + 1 ≤ w1.heap.size := Nat.le_trans hz hq.size
      replace B := lF B hq hzn
      replace XM := lF XM hq hzn
      replace lM := Nat.lt_of_lt_of_le lM hzn
      replace XT := lF XT hq hzn
      replace lT := Nat.lt_of_lt_of_le lT hzn
      clear hq BP hz
      have hz : w1.heap.size ≤ w1.heap.size := Nat.le_refl _
      clear hb
      rw [q1]
      obtain ⟨kM0, kM1, kM2, kM3, kM4, kM5, kM6, kM7, kM8, kM9, kM10, kM11, kM12⟩ := bk13 (XM.out w1 bR)
      obtain ⟨kT0, kT1, kT2⟩ := bk3 (XT.out w1 bR)
      go_wp2_with fail
      clear kM0 kM1 kM2 kM3 kM4 kM5 kM6 kM7 kM8 kM9 kM10 kM11 kM12 kT0 kT1 kT2
      have BP : Hid (Below (w1.heap.size) w1 w1) := bR
      refine (leadsImpl _ c0 ya yl yc k ty _ (H.out.later (B.out _ BP.out)) hk hz0).mono ?_
      rintro e w2 ⟨rfl, hb⟩
      have hq : Below (w1.heap.size) w1 w2 := BP.out.trans (Below.mono hb (Nat.le_trans hz BP.out.size))
      have hzn : w1.heap.size ≤ w2.heap.size := Nat.le_trans hz hq.size
      replace B := lF B hq hzn
      replace XM := lF XM hq hzn
      replace lM := Nat.lt_of_lt_of_le lM hzn
      replace XT := lF XT hq hzn
      replace lT := Nat.lt_of_lt_of_le lT hzn
      clear hq BP hz
      have hz : w2.heap.size ≤ w2.heap.size := Nat.le_refl _
      clear hb
      rw [q2]
      obtain ⟨kM0, kM1, kM2, kM3, kM4, kM5, kM6, kM7, kM8, kM9, kM10, kM11, kM12⟩ := bk13 (XM.out w2 bR)
      obtain ⟨kT0, kT1, kT2⟩ := bk3 (XT.out w2 bR)
      go_wp2_with fail
      clear kM0 kM1 kM2 kM3 kM4 kM5 kM6 kM7 kM8 kM9 kM10 kM11 kM12 kT0 kT1 kT2
      have BP : Hid (Below (w2.heap.size) w2 w2) := bR
      refine (youngImpl ca cn cc wb wo wl wc yg tp od da dl dc pc ol oc ou ta tl tc v _).mono ?_
      rintro e w3 ⟨rfl, hb⟩
      have hq : Below (w2.heap.size) w2 w3 := BP.out.trans (Below.mono hb (Nat.le_trans hz BP.out.size))
      have hzn : w2.heap.size ≤ w3.heap.size := Nat.le_trans hz hq.size
      replace B := lF B hq hzn
      replace XM := lF XM hq hzn
      replace lM := Nat.lt_of_lt_of_le lM hzn
      replace XT := lF XT hq hzn
      replace lT := Nat.lt_of_lt_of_le lT hzn
      clear hq BP hz
      have hz : w3.heap.size ≤ w3.heap.size := Nat.le_refl _
      clear hb
      obtain ⟨kM0, kM1, kM2, kM3, kM4, kM5, kM6, kM7, kM8, kM9, kM10, kM11, kM12⟩ := bk13 (XM.out w3 bR)
      obtain ⟨kT0, kT1, kT2⟩ := bk3 (XT.out w3 bR)
      go_wp2_with fail
      go_ret
      exact ⟨by first | rfl | simp, B.out w3 (Below.refl _ _)⟩
  · go_enter Tryz.func87, Tryz.ntmps87
    go_wp2_with fail
    have BP : Hid (Below (w.heap.size + 1 + 1) ((w.alloc (.cells #[.slice ca cn cc, .slice (some ⟨wb, wo, none⟩) wl wc, .int .i64 (yg : Nat), .int .i64 (tp : Nat), .int .i64 (od : Nat), .slice da dl dc, .slice (some ⟨wb, wo, none⟩) yg pc, .int .i64 0, .int .i64 (tp : Nat), .slice (some ⟨wb, wo + yg, none⟩) ol oc, .int .i64 (yg : Nat), .int .i64 (ou : Nat), .slice ta tl tc] 65)).alloc (.cells #[.int .i64 ((p : Int) + 1), .int .i64 c0, .slice ya yl yc] 69)) ((w.alloc (.cells #[.slice ca cn cc, .slice (some ⟨wb, wo, none⟩) wl wc, .int .i64 (yg : Nat), .int .i64 (tp : Nat), .int .i64 (od : Nat), .slice da dl dc, .slice (some ⟨wb, wo, none⟩) yg pc, .int .i64 0, .int .i64 (tp : Nat), .slice (some ⟨wb, wo + yg, none⟩) ol oc, .int .i64 (yg : Nat), .int .i64 (ou : Nat), .slice ta tl tc] 65)).alloc (.cells #[.int .i64 ((p : Int) + 1), .int .i64 c0, .slice ya yl yc] 69))) := bR
    refine (youngImpl ca cn cc wb wo wl wc yg tp od da dl dc pc ol oc ou ta tl tc ((p : Int) + 1) _).mono ?_
    rintro e w1 ⟨rfl, hb⟩
    have hq : Below (w.heap.size + 1 + 1) ((w.alloc (.cells #[.slice ca cn cc, .slice (some ⟨wb, wo, none⟩) wl wc, .int .i64 (yg : Nat), .int .i64 (tp : Nat), .int .i64 (od : Nat), .slice da dl dc, .slice (some ⟨wb, wo, none⟩) yg pc, .int .i64 0, .int .i64 (tp : Nat), .slice (some ⟨wb, wo + yg, none⟩) ol oc, .int .i64 (yg : Nat), .int .i64 (ou : Nat), .slice ta tl tc] 65)).alloc (.cells #[.int .i64 ((p : Int) + 1), .int .i64 c0, .slice ya yl yc] 69)) w1 := BP.out.trans (Below.mono hb (Nat.le_trans hz BP.out.size))
    have hzn : w.heap.size + 1 + 1 ≤ w1.heap.size := Nat.le_trans hz hq.size
    replace B := lF B hq hzn
    replace XM := lF XM hq hzn
    replace lM := Nat.lt_of_lt_of_le lM hzn
    replace XT := lF XT hq hzn
    replace lT := Nat.lt_of_lt_of_le lT hzn
    clear hq BP hz
    have hz : w1.heap.size ≤ w1.heap.size := Nat.le_refl _
    clear hb
    rw [q1]
    obtain ⟨kM0, kM1, kM2, kM3, kM4, kM5, kM6, kM7, kM8, kM9, kM10, kM11, kM12⟩ := bk13 (XM.out w1 bR)
    obtain ⟨kT0, kT1, kT2⟩ := bk3 (XT.out w1 bR)
    go_wp2_with fail
    clear kM0 kM1 kM2 kM3 kM4 kM5 kM6 kM7 kM8 kM9 kM10 kM11 kM12 kT0 kT1 kT2
    go_ret
    exact ⟨rfl, B.out w1 (Below.refl _ _)⟩

set_option maxRecDepth 100000 in
set_option maxHeartbeats 4000000 in
theorem insideImpl (ca : Option Addr) (cn cc wb wo wl wc yg tp od : Nat) (da : Option Addr) (dl dc pc ol oc ou : Nat) (ta : Option Addr) (tl tc : Nat) (p : Nat) (c0 : Int) (ya : Option Addr) (yl yc : Nat) (w : World) (h1 : p + hdN c0 + yl ≤ wl) (h2 : wl ≤ wc) (h3 : wl ≤ 1000) : Calls Tryz.prog 118 #[.agg #[.slice ca cn cc, .slice (some ⟨wb, wo, none⟩) wl wc, .int .i64 (yg : Nat), .int .i64 (tp : Nat), .int .i64 (od : Nat), .slice da dl dc, .slice (some ⟨wb, wo, none⟩) yg pc, .int .i64 0, .int .i64 (tp : Nat), .slice (some ⟨wb, wo + yg, none⟩) ol oc, .int .i64 (yg : Nat), .int .i64 (ou : Nat), .slice ta tl tc], .agg #[.int .i64 ((p : Int) + 1), .int .i64 c0, .slice ya yl yc]] w fun e w' => ∃ ra rc, e = .returned (.slice ra yl rc) ∧ (0 < yl → ra = some ⟨wb, wo + (p + hdN c0), none⟩) ∧ Below w.heap.size w w' := by
  have hd0 := hdN_pos c0
  obtain ⟨hd, hhd⟩ : ∃ hd, hdN c0 = hd := ⟨_, rfl⟩
  have HH : Hid (hdN c0 = hd) := hhd
  rw [hhd] at hd0 h1 ⊢
  clear hhd
  obtain ⟨lo, hlo⟩ : ∃ q, p + hd = q := ⟨_, rfl⟩
  obtain ⟨hi, hhi⟩ : ∃ q, p + hd + yl = q := ⟨_, rfl⟩
  have L1 : Hid ((p : Int) + 1 + (hd : Nat) + ((0 : Nat) : Int) = ((lo + 1 : Nat) : Int)) := by show _ = _; omega
  have L2 : Hid ((p : Int) + 1 + ((hd + yl : Nat) : Int) = ((hi + 1 : Nat) : Int)) := by show _ = _; omega
  obtain ⟨l1, hl1⟩ : ∃ q, lo + 1 = q := ⟨_, rfl⟩
  obtain ⟨u1, hu1⟩ : ∃ q, hi + 1 = q := ⟨_, rfl⟩
  have hw1 : IntKind.i64.wrap ((l1 : Int) - 1) = (lo : Int) := by rw [IntKind.wrap_i64] <;> omega
  have hw2 : IntKind.i64.wrap ((u1 : Int) - 1) = (hi : Int) := by rw [IntKind.wrap_i64] <;> omega
  have hll : lo ≤ hi := by omega
  have hhw : hi ≤ wc := by omega
  have HY : Hid (hi - lo = yl) := by show _ = _; omega
  have LT : Hid (0 < yl → ¬ wc = lo) := fun h => by omega
  rw [hlo]
  rw [hl1] at L1
  rw [hu1] at L2
  have hz : w.heap.size + 1 + 1 ≤ ((w.alloc (.cells #[.slice ca cn cc, .slice (some ⟨wb, wo, none⟩) wl wc, .int .i64 (yg : Nat), .int .i64 (tp : Nat), .int .i64 (od : Nat), .slice da dl dc, .slice (some ⟨wb, wo, none⟩) yg pc, .int .i64 0, .int .i64 (tp : Nat), .slice (some ⟨wb, wo + yg, none⟩) ol oc, .int .i64 (yg : Nat), .int .i64 (ou : Nat), .slice ta tl tc] 65)).alloc (.cells #[.int .i64 ((p : Int) + 1), .int .i64 c0, .slice ya yl yc] 69)).heap.size := by simp
  have B : Hid (∀ y, Below (w.heap.size + 1 + 1) ((w.alloc (.cells #[.slice ca cn cc, .slice (some ⟨wb, wo, none⟩) wl wc, .int .i64 (yg : Nat), .int .i64 (tp : Nat), .int .i64 (od : Nat), .slice da dl dc, .slice (some ⟨wb, wo, none⟩) yg pc, .int .i64 0, .int .i64 (tp : Nat), .slice (some ⟨wb, wo + yg, none⟩) ol oc, .int .i64 (yg : Nat), .int .i64 (ou : Nat), .slice ta tl tc] 65)).alloc (.cells #[.int .i64 ((p : Int) + 1), .int .i64 c0, .slice ya yl yc] 69)) y → Below w.heap.size w y) := fun y hy => ((bR.alloc (by first | exact Nat.le_refl _ | (simp; done) | (simp; omega)) _).alloc (by first | exact Nat.le_refl _ | (simp; done) | (simp; omega)) _).trans (hy.mono (by omega))
  have XM : Hid (∀ y, Below (w.heap.size + 1 + 1) ((w.alloc (.cells #[.slice ca cn cc, .slice (some ⟨wb, wo, none⟩) wl wc, .int .i64 (yg : Nat), .int .i64 (tp : Nat), .int .i64 (od : Nat), .slice da dl dc, .slice (some ⟨wb, wo, none⟩) yg pc, .int .i64 0, .int .i64 (tp : Nat), .slice (some ⟨wb, wo + yg, none⟩) ol oc, .int .i64 (yg : Nat), .int .i64 (ou : Nat), .slice ta tl tc] 65)).alloc (.cells #[.int .i64 ((p : Int) + 1), .int .i64 c0, .slice ya yl yc] 69)) y → y.heap[w.heap.size]? = some (.cells #[.slice ca cn cc, .slice (some ⟨wb, wo, none⟩) wl wc, .int .i64 (yg : Nat), .int .i64 (tp : Nat), .int .i64 (od : Nat), .slice da dl dc, .slice (some ⟨wb, wo, none⟩) yg pc, .int .i64 0, .int .i64 (tp : Nat), .slice (some ⟨wb, wo + yg, none⟩) ol oc, .int .i64 (yg : Nat), .int .i64 (ou : Nat), .slice ta tl tc] 65 (0, 0))) := fun y hy => (hy.block _ (by omega)).trans ((Below.heap_alloc _ _ _ (by first | (simp; done) | (simp; omega))).trans (boxN _ _ _ _ (by simp)))
  have lM : w.heap.size < w.heap.size + 1 + 1 := by omega
  have XT : Hid (∀ y, Below (w.heap.size + 1 + 1) ((w.alloc (.cells #[.slice ca cn cc, .slice (some ⟨wb, wo, none⟩) wl wc, .int .i64 (yg : Nat), .int .i64 (tp : Nat), .int .i64 (od : Nat), .slice da dl dc, .slice (some ⟨wb, wo, none⟩) yg pc, .int .i64 0, .int .i64 (tp : Nat), .slice (some ⟨wb, wo + yg, none⟩) ol oc, .int .i64 (yg : Nat), .int .i64 (ou : Nat), .slice ta tl tc] 65)).alloc (.cells #[.int .i64 ((p : Int) + 1), .int .i64 c0, .slice ya yl yc] 69)) y → y.heap[w.heap.size + 1]? = some (.cells #[.int .i64 ((p : Int) + 1), .int .i64 c0, .slice ya yl yc] 69 (0, 0))) := fun y hy => (hy.block _ (by omega)).trans (boxN _ _ _ _ (by simp))
  have lT : w.heap.size + 1 < w.heap.size + 1 + 1 := by omega
  go_enter Tryz.func118, Tryz.ntmps118
  go_wp2_with fail
  have KS : Hid (∀ x, Below (w.heap.size + 1 + 1) ((w.alloc (.cells #[.slice ca cn cc, .slice (some ⟨wb, wo, none⟩) wl wc, .int .i64 (yg : Nat), .int .i64 (tp : Nat), .int .i64 (od : Nat), .slice da dl dc, .slice (some ⟨wb, wo, none⟩) yg pc, .int .i64 0, .int .i64 (tp : Nat), .slice (some ⟨wb, wo + yg, none⟩) ol oc, .int .i64 (yg : Nat), .int .i64 (ou : Nat), .slice ta tl tc] 65)).alloc (.cells #[.int .i64 ((p : Int) + 1), .int .i64 c0, .slice ya yl yc] 69)) x → x.cell? ⟨w.heap.size, 0, none⟩ = some (.slice ca cn cc) ∧ x.cell? ⟨w.heap.size, 1, none⟩ = some (.slice (some ⟨wb, wo, none⟩) wl wc) ∧ x.cell? ⟨w.heap.size, 2, none⟩ = some (.int .i64 (yg : Nat)) ∧ x.cell? ⟨w.heap.size, 3, none⟩ = some (.int .i64 (tp : Nat)) ∧ x.cell? ⟨w.heap.size, 4, none⟩ = some (.int .i64 (od : Nat)) ∧ x.cell? ⟨w.heap.size, 5, none⟩ = some (.slice da dl dc) ∧ x.cell? ⟨w.heap.size, 6, none⟩ = some (.slice (some ⟨wb, wo, none⟩) yg pc) ∧ x.cell? ⟨w.heap.size, 7, none⟩ = some (.int .i64 0) ∧ x.cell? ⟨w.heap.size, 8, none⟩ = some (.int .i64 (tp : Nat)) ∧ x.cell? ⟨w.heap.size, 9, none⟩ = some (.slice (some ⟨wb, wo + yg, none⟩) ol oc) ∧ x.cell? ⟨w.heap.size, 10, none⟩ = some (.int .i64 (yg : Nat)) ∧ x.cell? ⟨w.heap.size, 11, none⟩ = some (.int .i64 (ou : Nat)) ∧ x.cell? ⟨w.heap.size, 12, none⟩ = some (.slice ta tl tc) ∧ x.cell? ⟨w.heap.size + 1, 0, none⟩ = some (.int .i64 ((p : Int) + 1)) ∧ x.cell? ⟨w.heap.size + 1, 1, none⟩ = some (.int .i64 c0) ∧ x.cell? ⟨w.heap.size + 1, 2, none⟩ = some (.slice ya yl yc)) := fun x hx => ⟨(boxG (XM.out x hx) 0).1, (boxG (XM.out x hx) 1).1, (boxG (XM.out x hx) 2).1, (boxG (XM.out x hx) 3).1, (boxG (XM.out x hx) 4).1, (boxG (XM.out x hx) 5).1, (boxG (XM.out x hx) 6).1, (boxG (XM.out x hx) 7).1, (boxG (XM.out x hx) 8).1, (boxG (XM.out x hx) 9).1, (boxG (XM.out x hx) 10).1, (boxG (XM.out x hx) 11).1, (boxG (XM.out x hx) 12).1, (boxG (XT.out x hx) 0).1, (boxG (XT.out x hx) 1).1, (boxG (XT.out x hx) 2).1⟩
  refine wp_region_held_drew (S := fun x => x.cell? ⟨w.heap.size, 0, none⟩ = some (.slice ca cn cc) ∧ x.cell? ⟨w.heap.size, 1, none⟩ = some (.slice (some ⟨wb, wo, none⟩) wl wc) ∧ x.cell? ⟨w.heap.size, 2, none⟩ = some (.int .i64 (yg : Nat)) ∧ x.cell? ⟨w.heap.size, 3, none⟩ = some (.int .i64 (tp : Nat)) ∧ x.cell? ⟨w.heap.size, 4, none⟩ = some (.int .i64 (od : Nat)) ∧ x.cell? ⟨w.heap.size, 5, none⟩ = some (.slice da dl dc) ∧ x.cell? ⟨w.heap.size, 6, none⟩ = some (.slice (some ⟨wb, wo, none⟩) yg pc) ∧ x.cell? ⟨w.heap.size, 7, none⟩ = some (.int .i64 0) ∧ x.cell? ⟨w.heap.size, 8, none⟩ = some (.int .i64 (tp : Nat)) ∧ x.cell? ⟨w.heap.size, 9, none⟩ = some (.slice (some ⟨wb, wo + yg, none⟩) ol oc) ∧ x.cell? ⟨w.heap.size, 10, none⟩ = some (.int .i64 (yg : Nat)) ∧ x.cell? ⟨w.heap.size, 11, none⟩ = some (.int .i64 (ou : Nat)) ∧ x.cell? ⟨w.heap.size, 12, none⟩ = some (.slice ta tl tc) ∧ x.cell? ⟨w.heap.size + 1, 0, none⟩ = some (.int .i64 ((p : Int) + 1)) ∧ x.cell? ⟨w.heap.size + 1, 1, none⟩ = some (.int .i64 c0) ∧ x.cell? ⟨w.heap.size + 1, 2, none⟩ = some (.slice ya yl yc)) (by kernel_rfl) ?_ (fun hHeld => ?_)
  · exact KS.out _ (bdrew bR)
  refine tV 0 (v := ?_) rfl (by kernel_rfl) (fun _ _ _ h => h) ?_ (by assumption) ?_
  rotate_left 1
  · (intro x hSx; (try dsimp only at hSx); go_simp; try with_reducible rfl)
  try simp only [Act.put, zgT, zg0, zsT, zs0, zsS]
  refine tV 1 (v := ?_) rfl (by kernel_rfl) (fun _ _ _ h => h) ?_ (by assumption) ?_
  rotate_left 1
  · (intro x hSx; (try dsimp only at hSx); go_simp; try with_reducible rfl)
  try simp only [Act.put, zgT, zg0, zgS, zsT, zs0, zsS]
  refine tV 2 (v := ?_) rfl (by kernel_rfl) (fun _ _ _ h => h) ?_ (by assumption) ?_
  rotate_left 1
  · (intro x hSx; (try dsimp only at hSx); go_simp; try with_reducible rfl)
  try simp only [Act.put, zgT, zg0, zgS, zsT, zs0, zsS]
  refine tV 3 (v := ?_) rfl (by kernel_rfl) (fun _ _ _ h => h) ?_ (by assumption) ?_
  rotate_left 1
  · (intro x hSx; (try dsimp only at hSx); go_simp; try with_reducible rfl)
  try simp only [Act.put, zgT, zg0, zgS, zsT, zs0, zsS]
  refine tV 6 (v := ?_) rfl (by kernel_rfl) (fun _ _ _ h => h) ?_ (by assumption) ?_
  rotate_left 1
  · (intro x hSx; (try dsimp only at hSx); go_simp; try with_reducible rfl)
  try simp only [Act.put, zgT, zg0, zgS, zsT, zs0, zsS]
  refine wpAnyH_ready (rs := [4]) (by kernel_rfl) (by simp) ?_
  refine AllReadyH.cons rfl (fun K hK => ?_) AllReadyH.nil
  go_simp
  go_at_call 86
  have BP : Hid (Below (w.heap.size + 1 + 1) ((w.alloc (.cells #[.slice ca cn cc, .slice (some ⟨wb, wo, none⟩) wl wc, .int .i64 (yg : Nat), .int .i64 (tp : Nat), .int .i64 (od : Nat), .slice da dl dc, .slice (some ⟨wb, wo, none⟩) yg pc, .int .i64 0, .int .i64 (tp : Nat), .slice (some ⟨wb, wo + yg, none⟩) ol oc, .int .i64 (yg : Nat), .int .i64 (ou : Nat), .slice ta tl tc] 65)).alloc (.cells #[.int .i64 ((p : Int) + 1), .int .i64 c0, .slice ya yl yc] 69)) ((w.alloc (.cells #[.slice ca cn cc, .slice (some ⟨wb, wo, none⟩) wl wc, .int .i64 (yg : Nat), .int .i64 (tp : Nat), .int .i64 (od : Nat), .slice da dl dc, .slice (some ⟨wb, wo, none⟩) yg pc, .int .i64 0, .int .i64 (tp : Nat), .slice (some ⟨wb, wo + yg, none⟩) ol oc, .int .i64 (yg : Nat), .int .i64 (ou : Nat), .slice ta tl tc] 65)).alloc (.cells #[.int .i64 ((p : Int) + 1), .int .i64 c0, .slice ya yl yc] 69)).drew) := (bdrew bR)
  refine (placeImpl21 _ c0 ya yl yc 0 _ (by omega) (by omega) (by omega)).mono ?_
  rintro e w1 ⟨rfl, hb⟩
  have hq : Below (w.heap.size + 1 + 1) ((w.alloc (.cells #[.slice ca cn cc, .slice (some ⟨wb, wo, none⟩) wl wc, .int .i64 (yg : Nat), .int .i64 (tp : Nat), .int .i64 (od : Nat), .slice da dl dc, .slice (some ⟨wb, wo, none⟩) yg pc, .int .i64 0, .int .i64 (tp : Nat), .slice (some ⟨wb, wo + yg, none⟩) ol oc, .int .i64 (yg : Nat), .int .i64 (ou : Nat), .slice ta tl tc] 65)).alloc (.cells #[.int .i64 ((p : Int) + 1), .int .i64 c0, .slice ya yl yc] 69)) w1 := BP.out.trans (Below.mono hb (Nat.le_trans hz BP.out.size))
  have hzn : w.heap.size + 1 + 1 ≤ w1.heap.size := Nat.le_trans hz hq.size
  replace B := lF B hq hzn
  replace KS := lF KS hq hzn
  replace XM := lF XM hq hzn
  replace lM := Nat.lt_of_lt_of_le lM hzn
  replace XT := lF XT hq hzn
  replace lT := Nat.lt_of_lt_of_le lT hzn
  clear hq BP hz
  have hz : w1.heap.size ≤ w1.heap.size := Nat.le_refl _
  clear hb
  rw [HH.out, L1.out]
  go_wp2_with fail
  refine hK.out _ _ (KS.out _ bR) (fun hHeld2 => ?_)
  clear hK K
  try simp only [Act.put, zgT, zg0, zgS, zsT, zs0, zsS]
  refine tV 5 (v := ?_) rfl (by kernel_rfl) (fun _ _ _ h => h) ?_ (by assumption) ?_
  rotate_left 1
  · (intro x hSx; (try dsimp only at hSx); go_simp; try with_reducible rfl)
  try simp only [Act.put, zgT, zg0, zgS, zsT, zs0, zsS]
  refine wpAnyH_ready (rs := [7]) (by kernel_rfl) (by simp) ?_
  refine AllReadyH.cons rfl (fun K hK => ?_) AllReadyH.nil
  go_simp
  go_at_call 128
  have BP : Hid (Below (w1.heap.size) w1 w1) := bR
  refine (behindImpl _ c0 ya yl yc _ (by omega) (by omega) (by omega)).mono ?_
  rintro e w2 ⟨rfl, hb⟩
  have hq : Below (w1.heap.size) w1 w2 := BP.out.trans (Below.mono hb (Nat.le_trans hz BP.out.size))
  have hzn : w1.heap.size ≤ w2.heap.size := Nat.le_trans hz hq.size
  replace B := lF B hq hzn
  replace KS := lF KS hq hzn
  replace XM := lF XM hq hzn
  replace lM := Nat.lt_of_lt_of_le lM hzn
  replace XT := lF XT hq hzn
  replace lT := Nat.lt_of_lt_of_le lT hzn
  clear hq BP hz
  have hz : w2.heap.size ≤ w2.heap.size := Nat.le_refl _
  clear hb
  rw [HH.out, L2.out]
  go_wp2_with fail
  refine hK.out _ _ (KS.out _ bR) (fun hHeld3 => ?_)
  clear hK K
  try simp only [Act.put, zgT, zg0, zgS, zsT, zs0, zsS]
  refine tV 8 (v := ?_) rfl (by kernel_rfl) (fun _ _ _ h => h) ?_ (by assumption) ?_
  rotate_left 1
  · (intro x hSx; (try dsimp only at hSx); go_simp; try with_reducible rfl)
  try simp only [Act.put, zgT, zg0, zgS, zsT, zs0, zsS]
  refine wpAnyH_take (i := 9) (v := .slice (if wc = lo then some ⟨wb, wo, none⟩ else some ⟨wb, wo + lo, none⟩) (hi - lo) (wc - lo)) rfl (by kernel_rfl) (by kernel_rfl) (by kernel_rfl) (fun _ _ _ h => h) (Or.inl ⟨by kernel_rfl, by (intro x hSx; (try dsimp only at hSx); go_simp)⟩) (by assumption) ?_
  try simp only [Act.put, List.getElem_toArray, List.getElem_cons_zero, List.getElem_cons_succ, List.setIfInBounds_toArray, List.set_cons_zero, List.set_cons_succ]
  refine tV 10 (v := ?_) rfl (by kernel_rfl) (fun _ _ _ h => h) ?_ (by assumption) ?_
  rotate_left 1
  · (intro x hSx; (try dsimp only at hSx); go_simp; try with_reducible rfl)
  try simp only [Act.put, zgT, zg0, zgS, zsT, zs0, zsS]
  refine wpAnyH_done (by kernel_rfl) ?_ _
  clear hHeld hHeld2 hHeld3
  clear KS
  have BF : Hid (Below w.heap.size w w2) := B.out w2 (Below.refl _ _)
  have YY := HY.out
  by_cases hq : wc = lo
  · have LT2 := LT.out
    clear LT
    simp only [if_pos hq]
    obtain ⟨kM0, kM1, kM2, kM3, kM4, kM5, kM6, kM7, kM8, kM9, kM10, kM11, kM12⟩ := bk13 (XM.out w2 bR)
    obtain ⟨kT0, kT1, kT2⟩ := bk3 (XT.out w2 bR)
    go_wp2_with fail
    go_ret
    rw [YY]
    exact ⟨_, _, rfl, (fun hy => absurd hq (LT2 hy)), BF.out⟩
  · have LT2 := LT.out
    clear LT
    simp only [if_neg hq]
    obtain ⟨kM0, kM1, kM2, kM3, kM4, kM5, kM6, kM7, kM8, kM9, kM10, kM11, kM12⟩ := bk13 (XM.out w2 bR)
    obtain ⟨kT0, kT1, kT2⟩ := bk3 (XT.out w2 bR)
    go_wp2_with fail
    go_ret
    rw [YY]
    exact ⟨_, _, rfl, (fun hy => rfl), BF.out⟩

end Go.Proofs.YtjbmcdekhhbiaaaGreat
