/-
  Whether the parts of a memory are ok: the specification says so; it writes nothing that was there.
-/
import Derived.Test.YtjbmcdekhhbiaaaGreatMemSd
namespace Go.Proofs.YtjbmcdekhhbiaaaGreat
open Go.ChangeShapes Go.WideShapes Go.ChangeAt Go.RowKit
set_option linter.unusedVariables false

theorem rng_on {p : Nat → Bool} (k : Nat) : (List.range (k + 1)).all p = ((List.range k).all p && p k) := by
  rw [List.range_succ, List.all_append]; simp
theorem rng_no {p : Nat → Bool} {n k : Nat} (hk : k < n) (h : p k = false) : (List.range n).all p = false := by
  rw [List.all_eq_false]; exact ⟨k, List.mem_range.2 hk, by simp [h]⟩
theorem bnd_if (L : List Cl) (m : Mm) : bndB L m = (clsOk L && (inI m.2.1 0 40 && (inI ((m.1.length : Int) - m.2.1) 14 120 && (inI m.2.2.1 0 m.2.1 && (inI m.2.2.2.1 m.2.1 m.1.length && ((m.2.2.2.2.length : Int) == crd ((m.1.length : Int) - m.2.1))))))) := rfl

set_option maxRecDepth 100000 in
set_option maxHeartbeats 16000000 in
theorem boundsSpec (ca : Option Addr) (cn cc : Nat) (wa : Option Addr) (wl wc : Nat) (yg tp od : Int) (da : Option Addr) (dl dc : Nat) (ws : List Int) (cd : List Bool) (L : List Cl) (w : World) {D E G : Nat → Prop} (h : ClsAt D E w ca cn L) (hw : IntsAt G w wa wl ws) (hcd : cd.length = dl) (hyg : i64B yg) (htp : i64B tp) (hod : i64B od) (hl : wl ≤ 1048576) (hd : dl ≤ 1048576) :
    Calls Tryz.prog 59 #[.slice ca cn cc, .agg #[.slice wa wl wc, .int .i64 yg, .int .i64 tp, .int .i64 od, .slice da dl dc]] w fun e w' => e = .returned (.bool (bndB L (ws, yg, tp, od, cd) && zerB (ws, yg, tp, od, cd))) ∧ Below w.heap.size w w' := by
  have H : Hid (ClsAt D E w ca cn L) := h
  have HW : Hid (IntsAt G w wa wl ws) := hw
  have WS : Hid (ws.length = wl) := hw.size
  have CS : Hid (cd.length = dl) := hcd
  have HF : Hid (bndB L (ws, yg, tp, od, cd) = (clsOk L && (inI yg 0 40 && (inI ((wl : Int) - yg) 14 120 && (inI tp 0 yg && (inI od yg wl && ((dl : Int) == crd ((wl : Int) - yg)))))))) := by show _ = _; rw [bnd_if]; simp only [hw.size, hcd]
  obtain ⟨y0, y1⟩ := hyg
  obtain ⟨t0, t1⟩ := htp
  obtain ⟨o0, o1⟩ := hod
  clear h hw hcd
  have hz : w.heap.size + 1 ≤ (w.alloc (.cells #[.slice wa wl wc, .int .i64 yg, .int .i64 tp, .int .i64 od, .slice da dl dc] 29)).heap.size := by simp
  have B : Hid (∀ y, Below (w.heap.size + 1) (w.alloc (.cells #[.slice wa wl wc, .int .i64 yg, .int .i64 tp, .int .i64 od, .slice da dl dc] 29)) y → Below w.heap.size w y) := fun y hy => (bR.alloc (by first | exact Nat.le_refl _ | (simp; done) | (simp; omega)) _).trans (hy.mono (by omega))
  have XM : Hid (∀ y, Below (w.heap.size + 1) (w.alloc (.cells #[.slice wa wl wc, .int .i64 yg, .int .i64 tp, .int .i64 od, .slice da dl dc] 29)) y → y.heap[w.heap.size]? = some (.cells #[.slice wa wl wc, .int .i64 yg, .int .i64 tp, .int .i64 od, .slice da dl dc] 29 (0, 0))) := fun y hy => (hy.block _ (by omega)).trans (boxN _ _ _ _ (by simp))
  have lM : w.heap.size < w.heap.size + 1 := by omega
  have hwr : 0 ≤ yg → yg ≤ 40 → IntKind.i64.wrap ((wl : Int) - yg) = (wl : Int) - yg := fun a b => by rw [IntKind.wrap_i64] <;> omega
  cases g0 : clsOk L
  · go_enter Tryz.func59, Tryz.ntmps59
    go_wp2_with fail
    have KS : Hid (∀ x, Below (w.heap.size + 1) (w.alloc (.cells #[.slice wa wl wc, .int .i64 yg, .int .i64 tp, .int .i64 od, .slice da dl dc] 29)) x → x.cell? ⟨w.heap.size, 0, none⟩ = some (.slice wa wl wc) ∧ x.cell? ⟨w.heap.size, 1, none⟩ = some (.int .i64 yg) ∧ x.cell? ⟨w.heap.size, 2, none⟩ = some (.int .i64 tp) ∧ x.cell? ⟨w.heap.size, 3, none⟩ = some (.int .i64 od) ∧ x.cell? ⟨w.heap.size, 4, none⟩ = some (.slice da dl dc)) := fun x hx => bk5 (XM.out x hx)
    refine wp_region_held_drew (S := fun x => x.cell? ⟨w.heap.size, 0, none⟩ = some (.slice wa wl wc) ∧ x.cell? ⟨w.heap.size, 1, none⟩ = some (.int .i64 yg) ∧ x.cell? ⟨w.heap.size, 2, none⟩ = some (.int .i64 tp) ∧ x.cell? ⟨w.heap.size, 3, none⟩ = some (.int .i64 od) ∧ x.cell? ⟨w.heap.size, 4, none⟩ = some (.slice da dl dc)) (by kernel_rfl) ?_ (fun hHeld => ?_)
    · exact KS.out _ (bdrew bR)
    refine tV 0 (v := ?_) rfl (by kernel_rfl) (fun _ _ _ h => h) ?_ (by assumption) ?_
    rotate_left 1
    · (intro x hSx; (try dsimp only at hSx); go_simp; try with_reducible rfl)
    try simp only [Act.put, zgT, zg0, zsT, zs0, zsS]
    refine wpAnyH_ready (rs := [1]) (by kernel_rfl) (by simp) ?_
    refine AllReadyH.cons rfl (fun K hK => ?_) AllReadyH.nil
    go_simp
    go_at_call 94
    have BP : Hid (Below (w.heap.size + 1) (w.alloc (.cells #[.slice wa wl wc, .int .i64 yg, .int .i64 tp, .int .i64 od, .slice da dl dc] 29)) (w.alloc (.cells #[.slice wa wl wc, .int .i64 yg, .int .i64 tp, .int .i64 od, .slice da dl dc] 29)).drew) := (bdrew bR)
    refine (okSpec _ _ _ L _ (H.out.later (B.out _ BP.out))).mono ?_
    rintro e w1 ⟨rfl, hb⟩
    have hq : Below (w.heap.size + 1) (w.alloc (.cells #[.slice wa wl wc, .int .i64 yg, .int .i64 tp, .int .i64 od, .slice da dl dc] 29)) w1 := BP.out.trans (Below.mono hb (Nat.le_trans hz BP.out.size))
    have hzn : w.heap.size + 1 ≤ w1.heap.size := Nat.le_trans hz hq.size
    replace B := lF B hq hzn
    replace KS := lF KS hq hzn
    replace XM := lF XM hq hzn
    replace lM := Nat.lt_of_lt_of_le lM hzn
    clear hq BP hz
    have hz : w1.heap.size ≤ w1.heap.size := Nat.le_refl _
    clear hb
    rw [g0]
    go_wp2_with fail
    refine hK.out _ _ (KS.out _ bR) (fun hHeld2 => ?_)
    clear hK K
    try simp only [Act.put, zgT, zg0, zgS, zsT, zs0, zsS]
    refine tV 2 (v := ?_) rfl (by kernel_rfl) (fun _ _ _ h => h) ?_ (by assumption) ?_
    rotate_left 1
    · (intro x hSx; (try dsimp only at hSx); go_simp; try with_reducible rfl)
    try simp only [Act.put, zgT, zg0, zgS, zsT, zs0, zsS]
    refine tV 3 (v := ?_) rfl (by kernel_rfl) (fun _ _ _ h => h) ?_ (by assumption) ?_
    rotate_left 1
    · (intro x hSx; (try dsimp only at hSx); go_simp; try with_reducible rfl)
    try simp only [Act.put, zgT, zg0, zgS, zsT, zs0, zsS]
    refine tU 4 rfl (by kernel_rfl) (fun _ _ _ h => h) (by assumption) ?_
    refine tU 5 rfl (by kernel_rfl) (fun _ _ _ h => h) (by assumption) ?_
    refine tU 6 rfl (by kernel_rfl) (fun _ _ _ h => h) (by assumption) ?_
    refine tU 7 rfl (by kernel_rfl) (fun _ _ _ h => h) (by assumption) ?_
    try simp only [Act.put, zgT, zg0, zgS, zsT, zs0, zsS]
    refine tV 8 (v := ?_) rfl (by kernel_rfl) (fun _ _ _ h => h) ?_ (by assumption) ?_
    rotate_left 1
    · (intro x hSx; (try dsimp only at hSx); go_simp; try with_reducible rfl)
    try simp only [Act.put, zgT, zg0, zgS, zsT, zs0, zsS]
    refine tV 9 (v := ?_) rfl (by kernel_rfl) (fun _ _ _ h => h) ?_ (by assumption) ?_
    rotate_left 1
    · (intro x hSx; (try dsimp only at hSx); go_simp; try with_reducible rfl)
    try simp only [Act.put, zgT, zg0, zgS, zsT, zs0, zsS]
    refine tU 10 rfl (by kernel_rfl) (fun _ _ _ h => h) (by assumption) ?_
    refine tU 11 rfl (by kernel_rfl) (fun _ _ _ h => h) (by assumption) ?_
    refine tU 12 rfl (by kernel_rfl) (fun _ _ _ h => h) (by assumption) ?_
    refine tU 13 rfl (by kernel_rfl) (fun _ _ _ h => h) (by assumption) ?_
    refine tU 14 rfl (by kernel_rfl) (fun _ _ _ h => h) (by assumption) ?_
    refine tU 15 rfl (by kernel_rfl) (fun _ _ _ h => h) (by assumption) ?_
    try simp only [Act.put, zgT, zg0, zgS, zsT, zs0, zsS]
    refine tV 16 (v := ?_) rfl (by kernel_rfl) (fun _ _ _ h => h) ?_ (by assumption) ?_
    rotate_left 1
    · (intro x hSx; (try dsimp only at hSx); go_simp; try with_reducible rfl)
    try simp only [Act.put, zgT, zg0, zgS, zsT, zs0, zsS]
    refine tV 17 (v := ?_) rfl (by kernel_rfl) (fun _ _ _ h => h) ?_ (by assumption) ?_
    rotate_left 1
    · (intro x hSx; (try dsimp only at hSx); go_simp; try with_reducible rfl)
    try simp only [Act.put, zgT, zg0, zgS, zsT, zs0, zsS]
    refine tU 18 rfl (by kernel_rfl) (fun _ _ _ h => h) (by assumption) ?_
    refine tU 19 rfl (by kernel_rfl) (fun _ _ _ h => h) (by assumption) ?_
    refine tU 20 rfl (by kernel_rfl) (fun _ _ _ h => h) (by assumption) ?_
    refine tU 21 rfl (by kernel_rfl) (fun _ _ _ h => h) (by assumption) ?_
    refine tU 22 rfl (by kernel_rfl) (fun _ _ _ h => h) (by assumption) ?_
    refine tU 23 rfl (by kernel_rfl) (fun _ _ _ h => h) (by assumption) ?_
    try simp only [Act.put, zgT, zg0, zgS, zsT, zs0, zsS]
    refine tV 24 (v := ?_) rfl (by kernel_rfl) (fun _ _ _ h => h) ?_ (by assumption) ?_
    rotate_left 1
    · (intro x hSx; (try dsimp only at hSx); go_simp; try with_reducible rfl)
    try simp only [Act.put, zgT, zg0, zgS, zsT, zs0, zsS]
    refine tV 25 (v := ?_) rfl (by kernel_rfl) (fun _ _ _ h => h) ?_ (by assumption) ?_
    rotate_left 1
    · (intro x hSx; (try dsimp only at hSx); go_simp; try with_reducible rfl)
    try simp only [Act.put, zgT, zg0, zgS, zsT, zs0, zsS]
    refine tU 26 rfl (by kernel_rfl) (fun _ _ _ h => h) (by assumption) ?_
    refine tU 27 rfl (by kernel_rfl) (fun _ _ _ h => h) (by assumption) ?_
    refine tU 28 rfl (by kernel_rfl) (fun _ _ _ h => h) (by assumption) ?_
    refine tU 29 rfl (by kernel_rfl) (fun _ _ _ h => h) (by assumption) ?_
    refine tU 30 rfl (by kernel_rfl) (fun _ _ _ h => h) (by assumption) ?_
    refine tU 31 rfl (by kernel_rfl) (fun _ _ _ h => h) (by assumption) ?_
    refine tU 32 rfl (by kernel_rfl) (fun _ _ _ h => h) (by assumption) ?_
    try simp only [Act.put, zgT, zg0, zgS, zsT, zs0, zsS]
    refine tV 33 (v := ?_) rfl (by kernel_rfl) (fun _ _ _ h => h) ?_ (by assumption) ?_
    rotate_left 1
    · (intro x hSx; (try dsimp only at hSx); go_simp; try with_reducible rfl)
    try simp only [Act.put, zgT, zg0, zgS, zsT, zs0, zsS]
    refine tV 34 (v := ?_) rfl (by kernel_rfl) (fun _ _ _ h => h) ?_ (by assumption) ?_
    rotate_left 1
    · (intro x hSx; (try dsimp only at hSx); go_simp; try with_reducible rfl)
    try simp only [Act.put, zgT, zg0, zgS, zsT, zs0, zsS]
    refine tU 35 rfl (by kernel_rfl) (fun _ _ _ h => h) (by assumption) ?_
    refine tU 36 rfl (by kernel_rfl) (fun _ _ _ h => h) (by assumption) ?_
    refine tU 37 rfl (by kernel_rfl) (fun _ _ _ h => h) (by assumption) ?_
    refine tU 38 rfl (by kernel_rfl) (fun _ _ _ h => h) (by assumption) ?_
    refine tU 39 rfl (by kernel_rfl) (fun _ _ _ h => h) (by assumption) ?_
    refine tU 40 rfl (by kernel_rfl) (fun _ _ _ h => h) (by assumption) ?_
    refine tU 41 rfl (by kernel_rfl) (fun _ _ _ h => h) (by assumption) ?_
    refine tU 42 rfl (by kernel_rfl) (fun _ _ _ h => h) (by assumption) ?_
    refine tU 43 rfl (by kernel_rfl) (fun _ _ _ h => h) (by assumption) ?_
    try simp only [Act.put, zgT, zg0, zgS, zsT, zs0, zsS]
    refine tV 44 (v := ?_) rfl (by kernel_rfl) (fun _ _ _ h => h) ?_ (by assumption) ?_
    rotate_left 1
    · (intro x hSx; (try dsimp only at hSx); go_simp; try with_reducible rfl)
    try simp only [Act.put, zgT, zg0, zgS, zsT, zs0, zsS]
    refine wpAnyH_done (by kernel_rfl) ?_ _
    clear hHeld hHeld2
    clear KS
    obtain ⟨kM0, kM1, kM2, kM3, kM4⟩ := bk5 (XM.out w1 bR)
    go_wp2_with fail
    go_ret
    exact ⟨by rw [HF.out, g0]; rfl, B.out w1 (Below.refl _ _)⟩
  cases g1 : inI yg 0 40
  · go_enter Tryz.func59, Tryz.ntmps59
    go_wp2_with fail
    have KS : Hid (∀ x, Below (w.heap.size + 1) (w.alloc (.cells #[.slice wa wl wc, .int .i64 yg, .int .i64 tp, .int .i64 od, .slice da dl dc] 29)) x → x.cell? ⟨w.heap.size, 0, none⟩ = some (.slice wa wl wc) ∧ x.cell? ⟨w.heap.size, 1, none⟩ = some (.int .i64 yg) ∧ x.cell? ⟨w.heap.size, 2, none⟩ = some (.int .i64 tp) ∧ x.cell? ⟨w.heap.size, 3, none⟩ = some (.int .i64 od) ∧ x.cell? ⟨w.heap.size, 4, none⟩ = some (.slice da dl dc)) := fun x hx => bk5 (XM.out x hx)
    refine wp_region_held_drew (S := fun x => x.cell? ⟨w.heap.size, 0, none⟩ = some (.slice wa wl wc) ∧ x.cell? ⟨w.heap.size, 1, none⟩ = some (.int .i64 yg) ∧ x.cell? ⟨w.heap.size, 2, none⟩ = some (.int .i64 tp) ∧ x.cell? ⟨w.heap.size, 3, none⟩ = some (.int .i64 od) ∧ x.cell? ⟨w.heap.size, 4, none⟩ = some (.slice da dl dc)) (by kernel_rfl) ?_ (fun hHeld => ?_)
    · exact KS.out _ (bdrew bR)
    refine tV 0 (v := ?_) rfl (by kernel_rfl) (fun _ _ _ h => h) ?_ (by assumption) ?_
    rotate_left 1
    · (intro x hSx; (try dsimp only at hSx); go_simp; try with_reducible rfl)
    try simp only [Act.put, zgT, zg0, zsT, zs0, zsS]
    refine wpAnyH_ready (rs := [1]) (by kernel_rfl) (by simp) ?_
    refine AllReadyH.cons rfl (fun K hK => ?_) AllReadyH.nil
    go_simp
    go_at_call 94
    have BP : Hid (Below (w.heap.size + 1) (w.alloc (.cells #[.slice wa wl wc, .int .i64 yg, .int .i64 tp, .int .i64 od, .slice da dl dc] 29)) (w.alloc (.cells #[.slice wa wl wc, .int .i64 yg, .int .i64 tp, .int .i64 od, .slice da dl dc] 29)).drew) := (bdrew bR)
    refine (okSpec _ _ _ L _ (H.out.later (B.out _ BP.out))).mono ?_
    rintro e w1 ⟨rfl, hb⟩
    have hq : Below (w.heap.size + 1) (w.alloc (.cells #[.slice wa wl wc, .int .i64 yg, .int .i64 tp, .int .i64 od, .slice da dl dc] 29)) w1 := BP.out.trans (Below.mono hb (Nat.le_trans hz BP.out.size))
    have hzn : w.heap.size + 1 ≤ w1.heap.size := Nat.le_trans hz hq.size
    replace B := lF B hq hzn
    replace KS := lF KS hq hzn
    replace XM := lF XM hq hzn
    replace lM := Nat.lt_of_lt_of_le lM hzn
    clear hq BP hz
    have hz : w1.heap.size ≤ w1.heap.size := Nat.le_refl _
    clear hb
    rw [g0]
    go_wp2_with fail
    refine hK.out _ _ (KS.out _ bR) (fun hHeld2 => ?_)
    clear hK K
    try simp only [Act.put, zgT, zg0, zgS, zsT, zs0, zsS]
    refine tV 2 (v := ?_) rfl (by kernel_rfl) (fun _ _ _ h => h) ?_ (by assumption) ?_
    rotate_left 1
    · (intro x hSx; (try dsimp only at hSx); go_simp; try with_reducible rfl)
    try simp only [Act.put, zgT, zg0, zgS, zsT, zs0, zsS]
    refine tV 3 (v := ?_) rfl (by kernel_rfl) (fun _ _ _ h => h) ?_ (by assumption) ?_
    rotate_left 1
    · (intro x hSx; (try dsimp only at hSx); go_simp; try with_reducible rfl)
    try simp only [Act.put, zgT, zg0, zgS, zsT, zs0, zsS]
    refine tV 4 (v := ?_) rfl (by kernel_rfl) (fun _ _ _ h => h) ?_ (by assumption) ?_
    rotate_left 1
    · (intro x hSx; (try dsimp only at hSx); go_simp; try with_reducible rfl)
    try simp only [Act.put, zgT, zg0, zgS, zsT, zs0, zsS]
    refine tV 5 (v := ?_) rfl (by kernel_rfl) (fun _ _ _ h => h) ?_ (by assumption) ?_
    rotate_left 1
    · (intro x hSx; (try dsimp only at hSx); go_simp; try with_reducible rfl)
    try simp only [Act.put, zgT, zg0, zgS, zsT, zs0, zsS]
    refine wpAnyH_ready (rs := [6]) (by kernel_rfl) (by simp) ?_
    refine AllReadyH.cons rfl (fun K hK => ?_) AllReadyH.nil
    go_simp
    go_at_call 61
    refine (inSpec' _ _ _ _ g1 _).mono ?_
    rintro e wz ⟨rfl, rfl⟩
    go_wp2_with fail
    refine hK.out _ _ (KS.out _ bR) (fun hHeld3 => ?_)
    clear hK K
    try simp only [Act.put, zgT, zg0, zgS, zsT, zs0, zsS]
    refine tV 7 (v := ?_) rfl (by kernel_rfl) (fun _ _ _ h => h) ?_ (by assumption) ?_
    rotate_left 1
    · (intro x hSx; (try dsimp only at hSx); go_simp; try with_reducible rfl)
    try simp only [Act.put, zgT, zg0, zgS, zsT, zs0, zsS]
    refine tV 8 (v := ?_) rfl (by kernel_rfl) (fun _ _ _ h => h) ?_ (by assumption) ?_
    rotate_left 1
    · (intro x hSx; (try dsimp only at hSx); go_simp; try with_reducible rfl)
    try simp only [Act.put, zgT, zg0, zgS, zsT, zs0, zsS]
    refine tV 9 (v := ?_) rfl (by kernel_rfl) (fun _ _ _ h => h) ?_ (by assumption) ?_
    rotate_left 1
    · (intro x hSx; (try dsimp only at hSx); go_simp; try with_reducible rfl)
    try simp only [Act.put, zgT, zg0, zgS, zsT, zs0, zsS]
    refine tU 10 rfl (by kernel_rfl) (fun _ _ _ h => h) (by assumption) ?_
    refine tU 11 rfl (by kernel_rfl) (fun _ _ _ h => h) (by assumption) ?_
    refine tU 12 rfl (by kernel_rfl) (fun _ _ _ h => h) (by assumption) ?_
    refine tU 13 rfl (by kernel_rfl) (fun _ _ _ h => h) (by assumption) ?_
    refine tU 14 rfl (by kernel_rfl) (fun _ _ _ h => h) (by assumption) ?_
    refine tU 15 rfl (by kernel_rfl) (fun _ _ _ h => h) (by assumption) ?_
    try simp only [Act.put, zgT, zg0, zgS, zsT, zs0, zsS]
    refine tV 16 (v := ?_) rfl (by kernel_rfl) (fun _ _ _ h => h) ?_ (by assumption) ?_
    rotate_left 1
    · (intro x hSx; (try dsimp only at hSx); go_simp; try with_reducible rfl)
    try simp only [Act.put, zgT, zg0, zgS, zsT, zs0, zsS]
    refine tV 17 (v := ?_) rfl (by kernel_rfl) (fun _ _ _ h => h) ?_ (by assumption) ?_
    rotate_left 1
    · (intro x hSx; (try dsimp only at hSx); go_simp; try with_reducible rfl)
    try simp only [Act.put, zgT, zg0, zgS, zsT, zs0, zsS]
    refine tU 18 rfl (by kernel_rfl) (fun _ _ _ h => h) (by assumption) ?_
    refine tU 19 rfl (by kernel_rfl) (fun _ _ _ h => h) (by assumption) ?_
    refine tU 20 rfl (by kernel_rfl) (fun _ _ _ h => h) (by assumption) ?_
    refine tU 21 rfl (by kernel_rfl) (fun _ _ _ h => h) (by assumption) ?_
    refine tU 22 rfl (by kernel_rfl) (fun _ _ _ h => h) (by assumption) ?_
    refine tU 23 rfl (by kernel_rfl) (fun _ _ _ h => h) (by assumption) ?_
    try simp only [Act.put, zgT, zg0, zgS, zsT, zs0, zsS]
    refine tV 24 (v := ?_) rfl (by kernel_rfl) (fun _ _ _ h => h) ?_ (by assumption) ?_
    rotate_left 1
    · (intro x hSx; (try dsimp only at hSx); go_simp; try with_reducible rfl)
    try simp only [Act.put, zgT, zg0, zgS, zsT, zs0, zsS]
    refine tV 25 (v := ?_) rfl (by kernel_rfl) (fun _ _ _ h => h) ?_ (by assumption) ?_
    rotate_left 1
    · (intro x hSx; (try dsimp only at hSx); go_simp; try with_reducible rfl)
    try simp only [Act.put, zgT, zg0, zgS, zsT, zs0, zsS]
    refine tU 26 rfl (by kernel_rfl) (fun _ _ _ h => h) (by assumption) ?_
    refine tU 27 rfl (by kernel_rfl) (fun _ _ _ h => h) (by assumption) ?_
    refine tU 28 rfl (by kernel_rfl) (fun _ _ _ h => h) (by assumption) ?_
    refine tU 29 rfl (by kernel_rfl) (fun _ _ _ h => h) (by assumption) ?_
    refine tU 30 rfl (by kernel_rfl) (fun _ _ _ h => h) (by assumption) ?_
    refine tU 31 rfl (by kernel_rfl) (fun _ _ _ h => h) (by assumption) ?_
    refine tU 32 rfl (by kernel_rfl) (fun _ _ _ h => h) (by assumption) ?_
    try simp only [Act.put, zgT, zg0, zgS, zsT, zs0, zsS]
    refine tV 33 (v := ?_) rfl (by kernel_rfl) (fun _ _ _ h => h) ?_ (by assumption) ?_
    rotate_left 1
    · (intro x hSx; (try dsimp only at hSx); go_simp; try with_reducible rfl)
    try simp only [Act.put, zgT, zg0, zgS, zsT, zs0, zsS]
    refine tV 34 (v := ?_) rfl (by kernel_rfl) (fun _ _ _ h => h) ?_ (by assumption) ?_
    rotate_left 1
    · (intro x hSx; (try dsimp only at hSx); go_simp; try with_reducible rfl)
    try simp only [Act.put, zgT, zg0, zgS, zsT, zs0, zsS]
    refine tU 35 rfl (by kernel_rfl) (fun _ _ _ h => h) (by assumption) ?_
    refine tU 36 rfl (by kernel_rfl) (fun _ _ _ h => h) (by assumption) ?_
    refine tU 37 rfl (by kernel_rfl) (fun _ _ _ h => h) (by assumption) ?_
    refine tU 38 rfl (by kernel_rfl) (fun _ _ _ h => h) (by assumption) ?_
    refine tU 39 rfl (by kernel_rfl) (fun _ _ _ h => h) (by assumption) ?_
    refine tU 40 rfl (by kernel_rfl) (fun _ _ _ h => h) (by assumption) ?_
    refine tU 41 rfl (by kernel_rfl) (fun _ _ _ h => h) (by assumption) ?_
    refine tU 42 rfl (by kernel_rfl) (fun _ _ _ h => h) (by assumption) ?_
    refine tU 43 rfl (by kernel_rfl) (fun _ _ _ h => h) (by assumption) ?_
    try simp only [Act.put, zgT, zg0, zgS, zsT, zs0, zsS]
    refine tV 44 (v := ?_) rfl (by kernel_rfl) (fun _ _ _ h => h) ?_ (by assumption) ?_
    rotate_left 1
    · (intro x hSx; (try dsimp only at hSx); go_simp; try with_reducible rfl)
    try simp only [Act.put, zgT, zg0, zgS, zsT, zs0, zsS]
    refine wpAnyH_done (by kernel_rfl) ?_ _
    clear hHeld hHeld2 hHeld3
    clear KS
    obtain ⟨kM0, kM1, kM2, kM3, kM4⟩ := bk5 (XM.out w1 bR)
    go_wp2_with fail
    go_ret
    exact ⟨by rw [HF.out, g0, g1]; rfl, B.out w1 (Below.refl _ _)⟩
  have q1 := inI_iff.1 g1
  have hwr := hwr q1.1 q1.2
  cases g2 : inI ((wl : Int) - yg) 14 120
  · go_enter Tryz.func59, Tryz.ntmps59
    go_wp2_with fail
    have KS : Hid (∀ x, Below (w.heap.size + 1) (w.alloc (.cells #[.slice wa wl wc, .int .i64 yg, .int .i64 tp, .int .i64 od, .slice da dl dc] 29)) x → x.cell? ⟨w.heap.size, 0, none⟩ = some (.slice wa wl wc) ∧ x.cell? ⟨w.heap.size, 1, none⟩ = some (.int .i64 yg) ∧ x.cell? ⟨w.heap.size, 2, none⟩ = some (.int .i64 tp) ∧ x.cell? ⟨w.heap.size, 3, none⟩ = some (.int .i64 od) ∧ x.cell? ⟨w.heap.size, 4, none⟩ = some (.slice da dl dc)) := fun x hx => bk5 (XM.out x hx)
    refine wp_region_held_drew (S := fun x => x.cell? ⟨w.heap.size, 0, none⟩ = some (.slice wa wl wc) ∧ x.cell? ⟨w.heap.size, 1, none⟩ = some (.int .i64 yg) ∧ x.cell? ⟨w.heap.size, 2, none⟩ = some (.int .i64 tp) ∧ x.cell? ⟨w.heap.size, 3, none⟩ = some (.int .i64 od) ∧ x.cell? ⟨w.heap.size, 4, none⟩ = some (.slice da dl dc)) (by kernel_rfl) ?_ (fun hHeld => ?_)
    · exact KS.out _ (bdrew bR)
    refine tV 0 (v := ?_) rfl (by kernel_rfl) (fun _ _ _ h => h) ?_ (by assumption) ?_
    rotate_left 1
    · (intro x hSx; (try dsimp only at hSx); go_simp; try with_reducible rfl)
    try simp only [Act.put, zgT, zg0, zsT, zs0, zsS]
    refine wpAnyH_ready (rs := [1]) (by kernel_rfl) (by simp) ?_
    refine AllReadyH.cons rfl (fun K hK => ?_) AllReadyH.nil
    go_simp
    go_at_call 94
    have BP : Hid (Below (w.heap.size + 1) (w.alloc (.cells #[.slice wa wl wc, .int .i64 yg, .int .i64 tp, .int .i64 od, .slice da dl dc] 29)) (w.alloc (.cells #[.slice wa wl wc, .int .i64 yg, .int .i64 tp, .int .i64 od, .slice da dl dc] 29)).drew) := (bdrew bR)
    refine (okSpec _ _ _ L _ (H.out.later (B.out _ BP.out))).mono ?_
    rintro e w1 ⟨rfl, hb⟩
    have hq : Below (w.heap.size + 1) (w.alloc (.cells #[.slice wa wl wc, .int .i64 yg, .int .i64 tp, .int .i64 od, .slice da dl dc] 29)) w1 := BP.out.trans (Below.mono hb (Nat.le_trans hz BP.out.size))
    have hzn : w.heap.size + 1 ≤ w1.heap.size := Nat.le_trans hz hq.size
    replace B := lF B hq hzn
    replace KS := lF KS hq hzn
    replace XM := lF XM hq hzn
    replace lM := Nat.lt_of_lt_of_le lM hzn
    clear hq BP hz
    have hz : w1.heap.size ≤ w1.heap.size := Nat.le_refl _
    clear hb
    rw [g0]
    go_wp2_with fail
    refine hK.out _ _ (KS.out _ bR) (fun hHeld2 => ?_)
    clear hK K
    try simp only [Act.put, zgT, zg0, zgS, zsT, zs0, zsS]
    refine tV 2 (v := ?_) rfl (by kernel_rfl) (fun _ _ _ h => h) ?_ (by assumption) ?_
    rotate_left 1
    · (intro x hSx; (try dsimp only at hSx); go_simp; try with_reducible rfl)
    try simp only [Act.put, zgT, zg0, zgS, zsT, zs0, zsS]
    refine tV 3 (v := ?_) rfl (by kernel_rfl) (fun _ _ _ h => h) ?_ (by assumption) ?_
    rotate_left 1
    · (intro x hSx; (try dsimp only at hSx); go_simp; try with_reducible rfl)
    try simp only [Act.put, zgT, zg0, zgS, zsT, zs0, zsS]
    refine tV 4 (v := ?_) rfl (by kernel_rfl) (fun _ _ _ h => h) ?_ (by assumption) ?_
    rotate_left 1
    · (intro x hSx; (try dsimp only at hSx); go_simp; try with_reducible rfl)
    try simp only [Act.put, zgT, zg0, zgS, zsT, zs0, zsS]
    refine tV 5 (v := ?_) rfl (by kernel_rfl) (fun _ _ _ h => h) ?_ (by assumption) ?_
    rotate_left 1
    · (intro x hSx; (try dsimp only at hSx); go_simp; try with_reducible rfl)
    try simp only [Act.put, zgT, zg0, zgS, zsT, zs0, zsS]
    refine wpAnyH_ready (rs := [6]) (by kernel_rfl) (by simp) ?_
    refine AllReadyH.cons rfl (fun K hK => ?_) AllReadyH.nil
    go_simp
    go_at_call 61
    refine (inSpec' _ _ _ _ g1 _).mono ?_
    rintro e wz ⟨rfl, rfl⟩
    go_wp2_with fail
    refine hK.out _ _ (KS.out _ bR) (fun hHeld3 => ?_)
    clear hK K
    try simp only [Act.put, zgT, zg0, zgS, zsT, zs0, zsS]
    refine tV 7 (v := ?_) rfl (by kernel_rfl) (fun _ _ _ h => h) ?_ (by assumption) ?_
    rotate_left 1
    · (intro x hSx; (try dsimp only at hSx); go_simp; try with_reducible rfl)
    try simp only [Act.put, zgT, zg0, zgS, zsT, zs0, zsS]
    refine tV 8 (v := ?_) rfl (by kernel_rfl) (fun _ _ _ h => h) ?_ (by assumption) ?_
    rotate_left 1
    · (intro x hSx; (try dsimp only at hSx); go_simp; try with_reducible rfl)
    try simp only [Act.put, zgT, zg0, zgS, zsT, zs0, zsS]
    refine tV 9 (v := ?_) rfl (by kernel_rfl) (fun _ _ _ h => h) ?_ (by assumption) ?_
    rotate_left 1
    · (intro x hSx; (try dsimp only at hSx); go_simp; try with_reducible rfl)
    try simp only [Act.put, zgT, zg0, zgS, zsT, zs0, zsS]
    refine tV 10 (v := ?_) rfl (by kernel_rfl) (fun _ _ _ h => h) ?_ (by assumption) ?_
    rotate_left 1
    · (intro x hSx; (try dsimp only at hSx); go_simp; try with_reducible rfl)
    try simp only [Act.put, zgT, zg0, zgS, zsT, zs0, zsS]
    refine tV 11 (v := ?_) rfl (by kernel_rfl) (fun _ _ _ h => h) ?_ (by assumption) ?_
    rotate_left 1
    · (intro x hSx; (try dsimp only at hSx); go_simp; try with_reducible rfl)
    try simp only [Act.put, zgT, zg0, zgS, zsT, zs0, zsS]
    refine tV 12 (v := ?_) rfl (by kernel_rfl) (fun _ _ _ h => h) ?_ (by assumption) ?_
    rotate_left 1
    · (intro x hSx; (try dsimp only at hSx); go_simp; try with_reducible rfl)
    try simp only [Act.put, zgT, zg0, zgS, zsT, zs0, zsS]
    refine tV 13 (v := ?_) rfl (by kernel_rfl) (fun _ _ _ h => h) ?_ (by assumption) ?_
    rotate_left 1
    · (intro x hSx; (try dsimp only at hSx); go_simp; try with_reducible rfl)
    try simp only [Act.put, zgT, zg0, zgS, zsT, zs0, zsS]
    refine wpAnyH_ready (rs := [14]) (by kernel_rfl) (by simp) ?_
    refine AllReadyH.cons rfl (fun K hK => ?_) AllReadyH.nil
    go_simp
    go_at_call 61
    refine (inSpec' _ _ _ _ g2 _).mono ?_
    rintro e wz ⟨rfl, rfl⟩
    go_wp2_with fail
    refine hK.out _ _ (KS.out _ bR) (fun hHeld4 => ?_)
    clear hK K
    try simp only [Act.put, zgT, zg0, zgS, zsT, zs0, zsS]
    refine tV 15 (v := ?_) rfl (by kernel_rfl) (fun _ _ _ h => h) ?_ (by assumption) ?_
    rotate_left 1
    · (intro x hSx; (try dsimp only at hSx); go_simp; try with_reducible rfl)
    try simp only [Act.put, zgT, zg0, zgS, zsT, zs0, zsS]
    refine tV 16 (v := ?_) rfl (by kernel_rfl) (fun _ _ _ h => h) ?_ (by assumption) ?_
    rotate_left 1
    · (intro x hSx; (try dsimp only at hSx); go_simp; try with_reducible rfl)
    try simp only [Act.put, zgT, zg0, zgS, zsT, zs0, zsS]
    refine tV 17 (v := ?_) rfl (by kernel_rfl) (fun _ _ _ h => h) ?_ (by assumption) ?_
    rotate_left 1
    · (intro x hSx; (try dsimp only at hSx); go_simp; try with_reducible rfl)
    try simp only [Act.put, zgT, zg0, zgS, zsT, zs0, zsS]
    refine tU 18 rfl (by kernel_rfl) (fun _ _ _ h => h) (by assumption) ?_
    refine tU 19 rfl (by kernel_rfl) (fun _ _ _ h => h) (by assumption) ?_
    refine tU 20 rfl (by kernel_rfl) (fun _ _ _ h => h) (by assumption) ?_
    refine tU 21 rfl (by kernel_rfl) (fun _ _ _ h => h) (by assumption) ?_
    refine tU 22 rfl (by kernel_rfl) (fun _ _ _ h => h) (by assumption) ?_
    refine tU 23 rfl (by kernel_rfl) (fun _ _ _ h => h) (by assumption) ?_
    try simp only [Act.put, zgT, zg0, zgS, zsT, zs0, zsS]
    refine tV 24 (v := ?_) rfl (by kernel_rfl) (fun _ _ _ h => h) ?_ (by assumption) ?_
    rotate_left 1
    · (intro x hSx; (try dsimp only at hSx); go_simp; try with_reducible rfl)
    try simp only [Act.put, zgT, zg0, zgS, zsT, zs0, zsS]
    refine tV 25 (v := ?_) rfl (by kernel_rfl) (fun _ _ _ h => h) ?_ (by assumption) ?_
    rotate_left 1
    · (intro x hSx; (try dsimp only at hSx); go_simp; try with_reducible rfl)
    try simp only [Act.put, zgT, zg0, zgS, zsT, zs0, zsS]
    refine tU 26 rfl (by kernel_rfl) (fun _ _ _ h => h) (by assumption) ?_
    refine tU 27 rfl (by kernel_rfl) (fun _ _ _ h => h) (by assumption) ?_
    refine tU 28 rfl (by kernel_rfl) (fun _ _ _ h => h) (by assumption) ?_
    refine tU 29 rfl (by kernel_rfl) (fun _ _ _ h => h) (by assumption) ?_
    refine tU 30 rfl (by kernel_rfl) (fun _ _ _ h => h) (by assumption) ?_
    refine tU 31 rfl (by kernel_rfl) (fun _ _ _ h => h) (by assumption) ?_
    refine tU 32 rfl (by kernel_rfl) (fun _ _ _ h => h) (by assumption) ?_
    try simp only [Act.put, zgT, zg0, zgS, zsT, zs0, zsS]
    refine tV 33 (v := ?_) rfl (by kernel_rfl) (fun _ _ _ h => h) ?_ (by assumption) ?_
    rotate_left 1
    · (intro x hSx; (try dsimp only at hSx); go_simp; try with_reducible rfl)
    try simp only [Act.put, zgT, zg0, zgS, zsT, zs0, zsS]
    refine tV 34 (v := ?_) rfl (by kernel_rfl) (fun _ _ _ h => h) ?_ (by assumption) ?_
    rotate_left 1
    · (intro x hSx; (try dsimp only at hSx); go_simp; try with_reducible rfl)
    try simp only [Act.put, zgT, zg0, zgS, zsT, zs0, zsS]
    refine tU 35 rfl (by kernel_rfl) (fun _ _ _ h => h) (by assumption) ?_
    refine tU 36 rfl (by kernel_rfl) (fun _ _ _ h => h) (by assumption) ?_
    refine tU 37 rfl (by kernel_rfl) (fun _ _ _ h => h) (by assumption) ?_
    refine tU 38 rfl (by kernel_rfl) (fun _ _ _ h => h) (by assumption) ?_
    refine tU 39 rfl (by kernel_rfl) (fun _ _ _ h => h) (by assumption) ?_
    refine tU 40 rfl (by kernel_rfl) (fun _ _ _ h => h) (by assumption) ?_
    refine tU 41 rfl (by kernel_rfl) (fun _ _ _ h => h) (by assumption) ?_
    refine tU 42 rfl (by kernel_rfl) (fun _ _ _ h => h) (by assumption) ?_
    refine tU 43 rfl (by kernel_rfl) (fun _ _ _ h => h) (by assumption) ?_
    try simp only [Act.put, zgT, zg0, zgS, zsT, zs0, zsS]
    refine tV 44 (v := ?_) rfl (by kernel_rfl) (fun _ _ _ h => h) ?_ (by assumption) ?_
    rotate_left 1
    · (intro x hSx; (try dsimp only at hSx); go_simp; try with_reducible rfl)
    try simp only [Act.put, zgT, zg0, zgS, zsT, zs0, zsS]
    refine wpAnyH_done (by kernel_rfl) ?_ _
    clear hHeld hHeld2 hHeld3 hHeld4
    clear KS
    obtain ⟨kM0, kM1, kM2, kM3, kM4⟩ := bk5 (XM.out w1 bR)
    go_wp2_with fail
    go_ret
    exact ⟨by rw [HF.out, g0, g1, g2]; rfl, B.out w1 (Below.refl _ _)⟩
  cases g3 : inI tp 0 yg
  · go_enter Tryz.func59, Tryz.ntmps59
    go_wp2_with fail
    have KS : Hid (∀ x, Below (w.heap.size + 1) (w.alloc (.cells #[.slice wa wl wc, .int .i64 yg, .int .i64 tp, .int .i64 od, .slice da dl dc] 29)) x → x.cell? ⟨w.heap.size, 0, none⟩ = some (.slice wa wl wc) ∧ x.cell? ⟨w.heap.size, 1, none⟩ = some (.int .i64 yg) ∧ x.cell? ⟨w.heap.size, 2, none⟩ = some (.int .i64 tp) ∧ x.cell? ⟨w.heap.size, 3, none⟩ = some (.int .i64 od) ∧ x.cell? ⟨w.heap.size, 4, none⟩ = some (.slice da dl dc)) := fun x hx => bk5 (XM.out x hx)
    refine wp_region_held_drew (S := fun x => x.cell? ⟨w.heap.size, 0, none⟩ = some (.slice wa wl wc) ∧ x.cell? ⟨w.heap.size, 1, none⟩ = some (.int .i64 yg) ∧ x.cell? ⟨w.heap.size, 2, none⟩ = some (.int .i64 tp) ∧ x.cell? ⟨w.heap.size, 3, none⟩ = some (.int .i64 od) ∧ x.cell? ⟨w.heap.size, 4, none⟩ = some (.slice da dl dc)) (by kernel_rfl) ?_ (fun hHeld => ?_)
    · exact KS.out _ (bdrew bR)
    refine tV 0 (v := ?_) rfl (by kernel_rfl) (fun _ _ _ h => h) ?_ (by assumption) ?_
    rotate_left 1
    · (intro x hSx; (try dsimp only at hSx); go_simp; try with_reducible rfl)
    try simp only [Act.put, zgT, zg0, zsT, zs0, zsS]
    refine wpAnyH_ready (rs := [1]) (by kernel_rfl) (by simp) ?_
    refine AllReadyH.cons rfl (fun K hK => ?_) AllReadyH.nil
    go_simp
    go_at_call 94
    have BP : Hid (Below (w.heap.size + 1) (w.alloc (.cells #[.slice wa wl wc, .int .i64 yg, .int .i64 tp, .int .i64 od, .slice da dl dc] 29)) (w.alloc (.cells #[.slice wa wl wc, .int .i64 yg, .int .i64 tp, .int .i64 od, .slice da dl dc] 29)).drew) := (bdrew bR)
    refine (okSpec _ _ _ L _ (H.out.later (B.out _ BP.out))).mono ?_
    rintro e w1 ⟨rfl, hb⟩
    have hq : Below (w.heap.size + 1) (w.alloc (.cells #[.slice wa wl wc, .int .i64 yg, .int .i64 tp, .int .i64 od, .slice da dl dc] 29)) w1 := BP.out.trans (Below.mono hb (Nat.le_trans hz BP.out.size))
    have hzn : w.heap.size + 1 ≤ w1.heap.size := Nat.le_trans hz hq.size
    replace B := lF B hq hzn
    replace KS := lF KS hq hzn
    replace XM := lF XM hq hzn
    replace lM := Nat.lt_of_lt_of_le lM hzn
    clear hq BP hz
    have hz : w1.heap.size ≤ w1.heap.size := Nat.le_refl _
    clear hb
    rw [g0]
    go_wp2_with fail
    refine hK.out _ _ (KS.out _ bR) (fun hHeld2 => ?_)
    clear hK K
    try simp only [Act.put, zgT, zg0, zgS, zsT, zs0, zsS]
    refine tV 2 (v := ?_) rfl (by kernel_rfl) (fun _ _ _ h => h) ?_ (by assumption) ?_
    rotate_left 1
    · (intro x hSx; (try dsimp only at hSx); go_simp; try with_reducible rfl)
    try simp only [Act.put, zgT, zg0, zgS, zsT, zs0, zsS]
    refine tV 3 (v := ?_) rfl (by kernel_rfl) (fun _ _ _ h => h) ?_ (by assumption) ?_
    rotate_left 1
    · (intro x hSx; (try dsimp only at hSx); go_simp; try with_reducible rfl)
    try simp only [Act.put, zgT, zg0, zgS, zsT, zs0, zsS]
    refine tV 4 (v := ?_) rfl (by kernel_rfl) (fun _ _ _ h => h) ?_ (by assumption) ?_
    rotate_left 1
    · (intro x hSx; (try dsimp only at hSx); go_simp; try with_reducible rfl)
    try simp only [Act.put, zgT, zg0, zgS, zsT, zs0, zsS]
    refine tV 5 (v := ?_) rfl (by kernel_rfl) (fun _ _ _ h => h) ?_ (by assumption) ?_
    rotate_left 1
    · (intro x hSx; (try dsimp only at hSx); go_simp; try with_reducible rfl)
    try simp only [Act.put, zgT, zg0, zgS, zsT, zs0, zsS]
    refine wpAnyH_ready (rs := [6]) (by kernel_rfl) (by simp) ?_
    refine AllReadyH.cons rfl (fun K hK => ?_) AllReadyH.nil
    go_simp
    go_at_call 61
    refine (inSpec' _ _ _ _ g1 _).mono ?_
    rintro e wz ⟨rfl, rfl⟩
    go_wp2_with fail
    refine hK.out _ _ (KS.out _ bR) (fun hHeld3 => ?_)
    clear hK K
    try simp only [Act.put, zgT, zg0, zgS, zsT, zs0, zsS]
    refine tV 7 (v := ?_) rfl (by kernel_rfl) (fun _ _ _ h => h) ?_ (by assumption) ?_
    rotate_left 1
    · (intro x hSx; (try dsimp only at hSx); go_simp; try with_reducible rfl)
    try simp only [Act.put, zgT, zg0, zgS, zsT, zs0, zsS]
    refine tV 8 (v := ?_) rfl (by kernel_rfl) (fun _ _ _ h => h) ?_ (by assumption) ?_
    rotate_left 1
    · (intro x hSx; (try dsimp only at hSx); go_simp; try with_reducible rfl)
    try simp only [Act.put, zgT, zg0, zgS, zsT, zs0, zsS]
    refine tV 9 (v := ?_) rfl (by kernel_rfl) (fun _ _ _ h => h) ?_ (by assumption) ?_
    rotate_left 1
    · (intro x hSx; (try dsimp only at hSx); go_simp; try with_reducible rfl)
    try simp only [Act.put, zgT, zg0, zgS, zsT, zs0, zsS]
    refine tV 10 (v := ?_) rfl (by kernel_rfl) (fun _ _ _ h => h) ?_ (by assumption) ?_
    rotate_left 1
    · (intro x hSx; (try dsimp only at hSx); go_simp; try with_reducible rfl)
    try simp only [Act.put, zgT, zg0, zgS, zsT, zs0, zsS]
    refine tV 11 (v := ?_) rfl (by kernel_rfl) (fun _ _ _ h => h) ?_ (by assumption) ?_
    rotate_left 1
    · (intro x hSx; (try dsimp only at hSx); go_simp; try with_reducible rfl)
    try simp only [Act.put, zgT, zg0, zgS, zsT, zs0, zsS]
    refine tV 12 (v := ?_) rfl (by kernel_rfl) (fun _ _ _ h => h) ?_ (by assumption) ?_
    rotate_left 1
    · (intro x hSx; (try dsimp only at hSx); go_simp; try with_reducible rfl)
    try simp only [Act.put, zgT, zg0, zgS, zsT, zs0, zsS]
    refine tV 13 (v := ?_) rfl (by kernel_rfl) (fun _ _ _ h => h) ?_ (by assumption) ?_
    rotate_left 1
    · (intro x hSx; (try dsimp only at hSx); go_simp; try with_reducible rfl)
    try simp only [Act.put, zgT, zg0, zgS, zsT, zs0, zsS]
    refine wpAnyH_ready (rs := [14]) (by kernel_rfl) (by simp) ?_
    refine AllReadyH.cons rfl (fun K hK => ?_) AllReadyH.nil
    go_simp
    go_at_call 61
    refine (inSpec' _ _ _ _ g2 _).mono ?_
    rintro e wz ⟨rfl, rfl⟩
    go_wp2_with fail
    refine hK.out _ _ (KS.out _ bR) (fun hHeld4 => ?_)
    clear hK K
    try simp only [Act.put, zgT, zg0, zgS, zsT, zs0, zsS]
    refine tV 15 (v := ?_) rfl (by kernel_rfl) (fun _ _ _ h => h) ?_ (by assumption) ?_
    rotate_left 1
    · (intro x hSx; (try dsimp only at hSx); go_simp; try with_reducible rfl)
    try simp only [Act.put, zgT, zg0, zgS, zsT, zs0, zsS]
    refine tV 16 (v := ?_) rfl (by kernel_rfl) (fun _ _ _ h => h) ?_ (by assumption) ?_
    rotate_left 1
    · (intro x hSx; (try dsimp only at hSx); go_simp; try with_reducible rfl)
    try simp only [Act.put, zgT, zg0, zgS, zsT, zs0, zsS]
    refine tV 17 (v := ?_) rfl (by kernel_rfl) (fun _ _ _ h => h) ?_ (by assumption) ?_
    rotate_left 1
    · (intro x hSx; (try dsimp only at hSx); go_simp; try with_reducible rfl)
    try simp only [Act.put, zgT, zg0, zgS, zsT, zs0, zsS]
    refine tV 18 (v := ?_) rfl (by kernel_rfl) (fun _ _ _ h => h) ?_ (by assumption) ?_
    rotate_left 1
    · (intro x hSx; (try dsimp only at hSx); go_simp; try with_reducible rfl)
    try simp only [Act.put, zgT, zg0, zgS, zsT, zs0, zsS]
    refine tV 19 (v := ?_) rfl (by kernel_rfl) (fun _ _ _ h => h) ?_ (by assumption) ?_
    rotate_left 1
    · (intro x hSx; (try dsimp only at hSx); go_simp; try with_reducible rfl)
    try simp only [Act.put, zgT, zg0, zgS, zsT, zs0, zsS]
    refine tV 20 (v := ?_) rfl (by kernel_rfl) (fun _ _ _ h => h) ?_ (by assumption) ?_
    rotate_left 1
    · (intro x hSx; (try dsimp only at hSx); go_simp; try with_reducible rfl)
    try simp only [Act.put, zgT, zg0, zgS, zsT, zs0, zsS]
    refine tV 21 (v := ?_) rfl (by kernel_rfl) (fun _ _ _ h => h) ?_ (by assumption) ?_
    rotate_left 1
    · (intro x hSx; (try dsimp only at hSx); go_simp; try with_reducible rfl)
    try simp only [Act.put, zgT, zg0, zgS, zsT, zs0, zsS]
    refine wpAnyH_ready (rs := [22]) (by kernel_rfl) (by simp) ?_
    refine AllReadyH.cons rfl (fun K hK => ?_) AllReadyH.nil
    go_simp
    go_at_call 61
    refine (inSpec' _ _ _ _ g3 _).mono ?_
    rintro e wz ⟨rfl, rfl⟩
    go_wp2_with fail
    refine hK.out _ _ (KS.out _ bR) (fun hHeld5 => ?_)
    clear hK K
    try simp only [Act.put, zgT, zg0, zgS, zsT, zs0, zsS]
    refine tV 23 (v := ?_) rfl (by kernel_rfl) (fun _ _ _ h => h) ?_ (by assumption) ?_
    rotate_left 1
    · (intro x hSx; (try dsimp only at hSx); go_simp; try with_reducible rfl)
    try simp only [Act.put, zgT, zg0, zgS, zsT, zs0, zsS]
    refine tV 24 (v := ?_) rfl (by kernel_rfl) (fun _ _ _ h => h) ?_ (by assumption) ?_
    rotate_left 1
    · (intro x hSx; (try dsimp only at hSx); go_simp; try with_reducible rfl)
    try simp only [Act.put, zgT, zg0, zgS, zsT, zs0, zsS]
    refine tV 25 (v := ?_) rfl (by kernel_rfl) (fun _ _ _ h => h) ?_ (by assumption) ?_
    rotate_left 1
    · (intro x hSx; (try dsimp only at hSx); go_simp; try with_reducible rfl)
    try simp only [Act.put, zgT, zg0, zgS, zsT, zs0, zsS]
    refine tU 26 rfl (by kernel_rfl) (fun _ _ _ h => h) (by assumption) ?_
    refine tU 27 rfl (by kernel_rfl) (fun _ _ _ h => h) (by assumption) ?_
    refine tU 28 rfl (by kernel_rfl) (fun _ _ _ h => h) (by assumption) ?_
    refine tU 29 rfl (by kernel_rfl) (fun _ _ _ h => h) (by assumption) ?_
    refine tU 30 rfl (by kernel_rfl) (fun _ _ _ h => h) (by assumption) ?_
    refine tU 31 rfl (by kernel_rfl) (fun _ _ _ h => h) (by assumption) ?_
    refine tU 32 rfl (by kernel_rfl) (fun _ _ _ h => h) (by assumption) ?_
    try simp only [Act.put, zgT, zg0, zgS, zsT, zs0, zsS]
    refine tV 33 (v := ?_) rfl (by kernel_rfl) (fun _ _ _ h => h) ?_ (by assumption) ?_
    rotate_left 1
    · (intro x hSx; (try dsimp only at hSx); go_simp; try with_reducible rfl)
    try simp only [Act.put, zgT, zg0, zgS, zsT, zs0, zsS]
    refine tV 34 (v := ?_) rfl (by kernel_rfl) (fun _ _ _ h => h) ?_ (by assumption) ?_
    rotate_left 1
    · (intro x hSx; (try dsimp only at hSx); go_simp; try with_reducible rfl)
    try simp only [Act.put, zgT, zg0, zgS, zsT, zs0, zsS]
    refine tU 35 rfl (by kernel_rfl) (fun _ _ _ h => h) (by assumption) ?_
    refine tU 36 rfl (by kernel_rfl) (fun _ _ _ h => h) (by assumption) ?_
    refine tU 37 rfl (by kernel_rfl) (fun _ _ _ h => h) (by assumption) ?_
    refine tU 38 rfl (by kernel_rfl) (fun _ _ _ h => h) (by assumption) ?_
    refine tU 39 rfl (by kernel_rfl) (fun _ _ _ h => h) (by assumption) ?_
    refine tU 40 rfl (by kernel_rfl) (fun _ _ _ h => h) (by assumption) ?_
    refine tU 41 rfl (by kernel_rfl) (fun _ _ _ h => h) (by assumption) ?_
    refine tU 42 rfl (by kernel_rfl) (fun _ _ _ h => h) (by assumption) ?_
    refine tU 43 rfl (by kernel_rfl) (fun _ _ _ h => h) (by assumption) ?_
    try simp only [Act.put, zgT, zg0, zgS, zsT, zs0, zsS]
    refine tV 44 (v := ?_) rfl (by kernel_rfl) (fun _ _ _ h => h) ?_ (by assumption) ?_
    rotate_left 1
    · (intro x hSx; (try dsimp only at hSx); go_simp; try with_reducible rfl)
    try simp only [Act.put, zgT, zg0, zgS, zsT, zs0, zsS]
    refine wpAnyH_done (by kernel_rfl) ?_ _
    clear hHeld hHeld2 hHeld3 hHeld4 hHeld5
    clear KS
    obtain ⟨kM0, kM1, kM2, kM3, kM4⟩ := bk5 (XM.out w1 bR)
    go_wp2_with fail
    go_ret
    exact ⟨by rw [HF.out, g0, g1, g2, g3]; rfl, B.out w1 (Below.refl _ _)⟩
  cases g4 : inI od yg wl
  · go_enter Tryz.func59, Tryz.ntmps59
    go_wp2_with fail
    have KS : Hid (∀ x, Below (w.heap.size + 1) (w.alloc (.cells #[.slice wa wl wc, .int .i64 yg, .int .i64 tp, .int .i64 od, .slice da dl dc] 29)) x → x.cell? ⟨w.heap.size, 0, none⟩ = some (.slice wa wl wc) ∧ x.cell? ⟨w.heap.size, 1, none⟩ = some (.int .i64 yg) ∧ x.cell? ⟨w.heap.size, 2, none⟩ = some (.int .i64 tp) ∧ x.cell? ⟨w.heap.size, 3, none⟩ = some (.int .i64 od) ∧ x.cell? ⟨w.heap.size, 4, none⟩ = some (.slice da dl dc)) := fun x hx => bk5 (XM.out x hx)
    refine wp_region_held_drew (S := fun x => x.cell? ⟨w.heap.size, 0, none⟩ = some (.slice wa wl wc) ∧ x.cell? ⟨w.heap.size, 1, none⟩ = some (.int .i64 yg) ∧ x.cell? ⟨w.heap.size, 2, none⟩ = some (.int .i64 tp) ∧ x.cell? ⟨w.heap.size, 3, none⟩ = some (.int .i64 od) ∧ x.cell? ⟨w.heap.size, 4, none⟩ = some (.slice da dl dc)) (by kernel_rfl) ?_ (fun hHeld => ?_)
    · exact KS.out _ (bdrew bR)
    refine tV 0 (v := ?_) rfl (by kernel_rfl) (fun _ _ _ h => h) ?_ (by assumption) ?_
    rotate_left 1
    · (intro x hSx; (try dsimp only at hSx); go_simp; try with_reducible rfl)
    try simp only [Act.put, zgT, zg0, zsT, zs0, zsS]
    refine wpAnyH_ready (rs := [1]) (by kernel_rfl) (by simp) ?_
    refine AllReadyH.cons rfl (fun K hK => ?_) AllReadyH.nil
    go_simp
    go_at_call 94
    have BP : Hid (Below (w.heap.size + 1) (w.alloc (.cells #[.slice wa wl wc, .int .i64 yg, .int .i64 tp, .int .i64 od, .slice da dl dc] 29)) (w.alloc (.cells #[.slice wa wl wc, .int .i64 yg, .int .i64 tp, .int .i64 od, .slice da dl dc] 29)).drew) := (bdrew bR)
    refine (okSpec _ _ _ L _ (H.out.later (B.out _ BP.out))).mono ?_
    rintro e w1 ⟨rfl, hb⟩
    have hq : Below (w.heap.size + 1) (w.alloc (.cells #[.slice wa wl wc, .int .i64 yg, .int .i64 tp, .int .i64 od, .slice da dl dc] 29)) w1 := BP.out.trans (Below.mono hb (Nat.le_trans hz BP.out.size))
    have hzn : w.heap.size + 1 ≤ w1.heap.size := Nat.le_trans hz hq.size
    replace B := lF B hq hzn
    replace KS := lF KS hq hzn
    replace XM := lF XM hq hzn
    replace lM := Nat.lt_of_lt_of_le lM hzn
    clear hq BP hz
    have hz : w1.heap.size ≤ w1.heap.size := Nat.le_refl _
    clear hb
    rw [g0]
    go_wp2_with fail
    refine hK.out _ _ (KS.out _ bR) (fun hHeld2 => ?_)
    clear hK K
    try simp only [Act.put, zgT, zg0, zgS, zsT, zs0, zsS]
    refine tV 2 (v := ?_) rfl (by kernel_rfl) (fun _ _ _ h => h) ?_ (by assumption) ?_
    rotate_left 1
    · (intro x hSx; (try dsimp only at hSx); go_simp; try with_reducible rfl)
    try simp only [Act.put, zgT, zg0, zgS, zsT, zs0, zsS]
    refine tV 3 (v := ?_) rfl (by kernel_rfl) (fun _ _ _ h => h) ?_ (by assumption) ?_
    rotate_left 1
    · (intro x hSx; (try dsimp only at hSx); go_simp; try with_reducible rfl)
    try simp only [Act.put, zgT, zg0, zgS, zsT, zs0, zsS]
    refine tV 4 (v := ?_) rfl (by kernel_rfl) (fun _ _ _ h => h) ?_ (by assumption) ?_
    rotate_left 1
    · (intro x hSx; (try dsimp only at hSx); go_simp; try with_reducible rfl)
    try simp only [Act.put, zgT, zg0, zgS, zsT, zs0, zsS]
    refine tV 5 (v := ?_) rfl (by kernel_rfl) (fun _ _ _ h => h) ?_ (by assumption) ?_
    rotate_left 1
    · (intro x hSx; (try dsimp only at hSx); go_simp; try with_reducible rfl)
    try simp only [Act.put, zgT, zg0, zgS, zsT, zs0, zsS]
    refine wpAnyH_ready (rs := [6]) (by kernel_rfl) (by simp) ?_
    refine AllReadyH.cons rfl (fun K hK => ?_) AllReadyH.nil
    go_simp
    go_at_call 61
    refine (inSpec' _ _ _ _ g1 _).mono ?_
    rintro e wz ⟨rfl, rfl⟩
    go_wp2_with fail
    refine hK.out _ _ (KS.out _ bR) (fun hHeld3 => ?_)
    clear hK K
    try simp only [Act.put, zgT, zg0, zgS, zsT, zs0, zsS]
    refine tV 7 (v := ?_) rfl (by kernel_rfl) (fun _ _ _ h => h) ?_ (by assumption) ?_
    rotate_left 1
    · (intro x hSx; (try dsimp only at hSx); go_simp; try with_reducible rfl)
    try simp only [Act.put, zgT, zg0, zgS, zsT, zs0, zsS]
    refine tV 8 (v := ?_) rfl (by kernel_rfl) (fun _ _ _ h => h) ?_ (by assumption) ?_
    rotate_left 1
    · (intro x hSx; (try dsimp only at hSx); go_simp; try with_reducible rfl)
    try simp only [Act.put, zgT, zg0, zgS, zsT, zs0, zsS]
    refine tV 9 (v := ?_) rfl (by kernel_rfl) (fun _ _ _ h => h) ?_ (by assumption) ?_
    rotate_left 1
    · (intro x hSx; (try dsimp only at hSx); go_simp; try with_reducible rfl)
    try simp only [Act.put, zgT, zg0, zgS, zsT, zs0, zsS]
    refine tV 10 (v := ?_) rfl (by kernel_rfl) (fun _ _ _ h => h) ?_ (by assumption) ?_
    rotate_left 1
    · (intro x hSx; (try dsimp only at hSx); go_simp; try with_reducible rfl)
    try simp only [Act.put, zgT, zg0, zgS, zsT, zs0, zsS]
    refine tV 11 (v := ?_) rfl (by kernel_rfl) (fun _ _ _ h => h) ?_ (by assumption) ?_
    rotate_left 1
    · (intro x hSx; (try dsimp only at hSx); go_simp; try with_reducible rfl)
    try simp only [Act.put, zgT, zg0, zgS, zsT, zs0, zsS]
    refine tV 12 (v := ?_) rfl (by kernel_rfl) (fun _ _ _ h => h) ?_ (by assumption) ?_
    rotate_left 1
    · (intro x hSx; (try dsimp only at hSx); go_simp; try with_reducible rfl)
    try simp only [Act.put, zgT, zg0, zgS, zsT, zs0, zsS]
    refine tV 13 (v := ?_) rfl (by kernel_rfl) (fun _ _ _ h => h) ?_ (by assumption) ?_
    rotate_left 1
    · (intro x hSx; (try dsimp only at hSx); go_simp; try with_reducible rfl)
    try simp only [Act.put, zgT, zg0, zgS, zsT, zs0, zsS]
    refine wpAnyH_ready (rs := [14]) (by kernel_rfl) (by simp) ?_
    refine AllReadyH.cons rfl (fun K hK => ?_) AllReadyH.nil
    go_simp
    go_at_call 61
    refine (inSpec' _ _ _ _ g2 _).mono ?_
    rintro e wz ⟨rfl, rfl⟩
    go_wp2_with fail
    refine hK.out _ _ (KS.out _ bR) (fun hHeld4 => ?_)
    clear hK K
    try simp only [Act.put, zgT, zg0, zgS, zsT, zs0, zsS]
    refine tV 15 (v := ?_) rfl (by kernel_rfl) (fun _ _ _ h => h) ?_ (by assumption) ?_
    rotate_left 1
    · (intro x hSx; (try dsimp only at hSx); go_simp; try with_reducible rfl)
    try simp only [Act.put, zgT, zg0, zgS, zsT, zs0, zsS]
    refine tV 16 (v := ?_) rfl (by kernel_rfl) (fun _ _ _ h => h) ?_ (by assumption) ?_
    rotate_left 1
    · (intro x hSx; (try dsimp only at hSx); go_simp; try with_reducible rfl)
    try simp only [Act.put, zgT, zg0, zgS, zsT, zs0, zsS]
    refine tV 17 (v := ?_) rfl (by kernel_rfl) (fun _ _ _ h => h) ?_ (by assumption) ?_
    rotate_left 1
    · (intro x hSx; (try dsimp only at hSx); go_simp; try with_reducible rfl)
    try simp only [Act.put, zgT, zg0, zgS, zsT, zs0, zsS]
    refine tV 18 (v := ?_) rfl (by kernel_rfl) (fun _ _ _ h => h) ?_ (by assumption) ?_
    rotate_left 1
    · (intro x hSx; (try dsimp only at hSx); go_simp; try with_reducible rfl)
    try simp only [Act.put, zgT, zg0, zgS, zsT, zs0, zsS]
    refine tV 19 (v := ?_) rfl (by kernel_rfl) (fun _ _ _ h => h) ?_ (by assumption) ?_
    rotate_left 1
    · (intro x hSx; (try dsimp only at hSx); go_simp; try with_reducible rfl)
    try simp only [Act.put, zgT, zg0, zgS, zsT, zs0, zsS]
    refine tV 20 (v := ?_) rfl (by kernel_rfl) (fun _ _ _ h => h) ?_ (by assumption) ?_
    rotate_left 1
    · (intro x hSx; (try dsimp only at hSx); go_simp; try with_reducible rfl)
    try simp only [Act.put, zgT, zg0, zgS, zsT, zs0, zsS]
    refine tV 21 (v := ?_) rfl (by kernel_rfl) (fun _ _ _ h => h) ?_ (by assumption) ?_
    rotate_left 1
    · (intro x hSx; (try dsimp only at hSx); go_simp; try with_reducible rfl)
    try simp only [Act.put, zgT, zg0, zgS, zsT, zs0, zsS]
    refine wpAnyH_ready (rs := [22]) (by kernel_rfl) (by simp) ?_
    refine AllReadyH.cons rfl (fun K hK => ?_) AllReadyH.nil
    go_simp
    go_at_call 61
    refine (inSpec' _ _ _ _ g3 _).mono ?_
    rintro e wz ⟨rfl, rfl⟩
    go_wp2_with fail
    refine hK.out _ _ (KS.out _ bR) (fun hHeld5 => ?_)
    clear hK K
    try simp only [Act.put, zgT, zg0, zgS, zsT, zs0, zsS]
    refine tV 23 (v := ?_) rfl (by kernel_rfl) (fun _ _ _ h => h) ?_ (by assumption) ?_
    rotate_left 1
    · (intro x hSx; (try dsimp only at hSx); go_simp; try with_reducible rfl)
    try simp only [Act.put, zgT, zg0, zgS, zsT, zs0, zsS]
    refine tV 24 (v := ?_) rfl (by kernel_rfl) (fun _ _ _ h => h) ?_ (by assumption) ?_
    rotate_left 1
    · (intro x hSx; (try dsimp only at hSx); go_simp; try with_reducible rfl)
    try simp only [Act.put, zgT, zg0, zgS, zsT, zs0, zsS]
    refine tV 25 (v := ?_) rfl (by kernel_rfl) (fun _ _ _ h => h) ?_ (by assumption) ?_
    rotate_left 1
    · (intro x hSx; (try dsimp only at hSx); go_simp; try with_reducible rfl)
    try simp only [Act.put, zgT, zg0, zgS, zsT, zs0, zsS]
    refine tV 26 (v := ?_) rfl (by kernel_rfl) (fun _ _ _ h => h) ?_ (by assumption) ?_
    rotate_left 1
    · (intro x hSx; (try dsimp only at hSx); go_simp; try with_reducible rfl)
    try simp only [Act.put, zgT, zg0, zgS, zsT, zs0, zsS]
    refine tV 27 (v := ?_) rfl (by kernel_rfl) (fun _ _ _ h => h) ?_ (by assumption) ?_
    rotate_left 1
    · (intro x hSx; (try dsimp only at hSx); go_simp; try with_reducible rfl)
    try simp only [Act.put, zgT, zg0, zgS, zsT, zs0, zsS]
    refine tV 28 (v := ?_) rfl (by kernel_rfl) (fun _ _ _ h => h) ?_ (by assumption) ?_
    rotate_left 1
    · (intro x hSx; (try dsimp only at hSx); go_simp; try with_reducible rfl)
    try simp only [Act.put, zgT, zg0, zgS, zsT, zs0, zsS]
    refine tV 29 (v := ?_) rfl (by kernel_rfl) (fun _ _ _ h => h) ?_ (by assumption) ?_
    rotate_left 1
    · (intro x hSx; (try dsimp only at hSx); go_simp; try with_reducible rfl)
    try simp only [Act.put, zgT, zg0, zgS, zsT, zs0, zsS]
    refine tV 30 (v := ?_) rfl (by kernel_rfl) (fun _ _ _ h => h) ?_ (by assumption) ?_
    rotate_left 1
    · (intro x hSx; (try dsimp only at hSx); go_simp; try with_reducible rfl)
    try simp only [Act.put, zgT, zg0, zgS, zsT, zs0, zsS]
    refine wpAnyH_ready (rs := [31]) (by kernel_rfl) (by simp) ?_
    refine AllReadyH.cons rfl (fun K hK => ?_) AllReadyH.nil
    go_simp
    go_at_call 61
    refine (inSpec' _ _ _ _ g4 _).mono ?_
    rintro e wz ⟨rfl, rfl⟩
    go_wp2_with fail
    refine hK.out _ _ (KS.out _ bR) (fun hHeld6 => ?_)
    clear hK K
    try simp only [Act.put, zgT, zg0, zgS, zsT, zs0, zsS]
    refine tV 32 (v := ?_) rfl (by kernel_rfl) (fun _ _ _ h => h) ?_ (by assumption) ?_
    rotate_left 1
    · (intro x hSx; (try dsimp only at hSx); go_simp; try with_reducible rfl)
    try simp only [Act.put, zgT, zg0, zgS, zsT, zs0, zsS]
    refine tV 33 (v := ?_) rfl (by kernel_rfl) (fun _ _ _ h => h) ?_ (by assumption) ?_
    rotate_left 1
    · (intro x hSx; (try dsimp only at hSx); go_simp; try with_reducible rfl)
    try simp only [Act.put, zgT, zg0, zgS, zsT, zs0, zsS]
    refine tV 34 (v := ?_) rfl (by kernel_rfl) (fun _ _ _ h => h) ?_ (by assumption) ?_
    rotate_left 1
    · (intro x hSx; (try dsimp only at hSx); go_simp; try with_reducible rfl)
    try simp only [Act.put, zgT, zg0, zgS, zsT, zs0, zsS]
    refine tU 35 rfl (by kernel_rfl) (fun _ _ _ h => h) (by assumption) ?_
    refine tU 36 rfl (by kernel_rfl) (fun _ _ _ h => h) (by assumption) ?_
    refine tU 37 rfl (by kernel_rfl) (fun _ _ _ h => h) (by assumption) ?_
    refine tU 38 rfl (by kernel_rfl) (fun _ _ _ h => h) (by assumption) ?_
    refine tU 39 rfl (by kernel_rfl) (fun _ _ _ h => h) (by assumption) ?_
    refine tU 40 rfl (by kernel_rfl) (fun _ _ _ h => h) (by assumption) ?_
    refine tU 41 rfl (by kernel_rfl) (fun _ _ _ h => h) (by assumption) ?_
    refine tU 42 rfl (by kernel_rfl) (fun _ _ _ h => h) (by assumption) ?_
    refine tU 43 rfl (by kernel_rfl) (fun _ _ _ h => h) (by assumption) ?_
    try simp only [Act.put, zgT, zg0, zgS, zsT, zs0, zsS]
    refine tV 44 (v := ?_) rfl (by kernel_rfl) (fun _ _ _ h => h) ?_ (by assumption) ?_
    rotate_left 1
    · (intro x hSx; (try dsimp only at hSx); go_simp; try with_reducible rfl)
    try simp only [Act.put, zgT, zg0, zgS, zsT, zs0, zsS]
    refine wpAnyH_done (by kernel_rfl) ?_ _
    clear hHeld hHeld2 hHeld3 hHeld4 hHeld5 hHeld6
    clear KS
    obtain ⟨kM0, kM1, kM2, kM3, kM4⟩ := bk5 (XM.out w1 bR)
    go_wp2_with fail
    go_ret
    exact ⟨by rw [HF.out, g0, g1, g2, g3, g4]; rfl, B.out w1 (Below.refl _ _)⟩
  have q2 := inI_iff.1 g2
  have q3 := inI_iff.1 g3
  have q4 := inI_iff.1 g4
  cases g5 : ((dl : Int) == crd ((wl : Int) - yg))
  · have g5n : ((dl : Int) != crd ((wl : Int) - yg)) = true := by rw [bne, g5]; rfl
    go_enter Tryz.func59, Tryz.ntmps59
    go_wp2_with fail
    have KS : Hid (∀ x, Below (w.heap.size + 1) (w.alloc (.cells #[.slice wa wl wc, .int .i64 yg, .int .i64 tp, .int .i64 od, .slice da dl dc] 29)) x → x.cell? ⟨w.heap.size, 0, none⟩ = some (.slice wa wl wc) ∧ x.cell? ⟨w.heap.size, 1, none⟩ = some (.int .i64 yg) ∧ x.cell? ⟨w.heap.size, 2, none⟩ = some (.int .i64 tp) ∧ x.cell? ⟨w.heap.size, 3, none⟩ = some (.int .i64 od) ∧ x.cell? ⟨w.heap.size, 4, none⟩ = some (.slice da dl dc)) := fun x hx => bk5 (XM.out x hx)
    refine wp_region_held_drew (S := fun x => x.cell? ⟨w.heap.size, 0, none⟩ = some (.slice wa wl wc) ∧ x.cell? ⟨w.heap.size, 1, none⟩ = some (.int .i64 yg) ∧ x.cell? ⟨w.heap.size, 2, none⟩ = some (.int .i64 tp) ∧ x.cell? ⟨w.heap.size, 3, none⟩ = some (.int .i64 od) ∧ x.cell? ⟨w.heap.size, 4, none⟩ = some (.slice da dl dc)) (by kernel_rfl) ?_ (fun hHeld => ?_)
    · exact KS.out _ (bdrew bR)
    refine tV 0 (v := ?_) rfl (by kernel_rfl) (fun _ _ _ h => h) ?_ (by assumption) ?_
    rotate_left 1
    · (intro x hSx; (try dsimp only at hSx); go_simp; try with_reducible rfl)
    try simp only [Act.put, zgT, zg0, zsT, zs0, zsS]
    refine wpAnyH_ready (rs := [1]) (by kernel_rfl) (by simp) ?_
    refine AllReadyH.cons rfl (fun K hK => ?_) AllReadyH.nil
    go_simp
    go_at_call 94
    have BP : Hid (Below (w.heap.size + 1) (w.alloc (.cells #[.slice wa wl wc, .int .i64 yg, .int .i64 tp, .int .i64 od, .slice da dl dc] 29)) (w.alloc (.cells #[.slice wa wl wc, .int .i64 yg, .int .i64 tp, .int .i64 od, .slice da dl dc] 29)).drew) := (bdrew bR)
    refine (okSpec _ _ _ L _ (H.out.later (B.out _ BP.out))).mono ?_
    rintro e w1 ⟨rfl, hb⟩
    have hq : Below (w.heap.size + 1) (w.alloc (.cells #[.slice wa wl wc, .int .i64 yg, .int .i64 tp, .int .i64 od, .slice da dl dc] 29)) w1 := BP.out.trans (Below.mono hb (Nat.le_trans hz BP.out.size))
    have hzn : w.heap.size + 1 ≤ w1.heap.size := Nat.le_trans hz hq.size
    replace B := lF B hq hzn
    replace KS := lF KS hq hzn
    replace XM := lF XM hq hzn
    replace lM := Nat.lt_of_lt_of_le lM hzn
    clear hq BP hz
    have hz : w1.heap.size ≤ w1.heap.size := Nat.le_refl _
    clear hb
    rw [g0]
    go_wp2_with fail
    refine hK.out _ _ (KS.out _ bR) (fun hHeld2 => ?_)
    clear hK K
    try simp only [Act.put, zgT, zg0, zgS, zsT, zs0, zsS]
    refine tV 2 (v := ?_) rfl (by kernel_rfl) (fun _ _ _ h => h) ?_ (by assumption) ?_
    rotate_left 1
    · (intro x hSx; (try dsimp only at hSx); go_simp; try with_reducible rfl)
    try simp only [Act.put, zgT, zg0, zgS, zsT, zs0, zsS]
    refine tV 3 (v := ?_) rfl (by kernel_rfl) (fun _ _ _ h => h) ?_ (by assumption) ?_
    rotate_left 1
    · (intro x hSx; (try dsimp only at hSx); go_simp; try with_reducible rfl)
    try simp only [Act.put, zgT, zg0, zgS, zsT, zs0, zsS]
    refine tV 4 (v := ?_) rfl (by kernel_rfl) (fun _ _ _ h => h) ?_ (by assumption) ?_
    rotate_left 1
    · (intro x hSx; (try dsimp only at hSx); go_simp; try with_reducible rfl)
    try simp only [Act.put, zgT, zg0, zgS, zsT, zs0, zsS]
    refine tV 5 (v := ?_) rfl (by kernel_rfl) (fun _ _ _ h => h) ?_ (by assumption) ?_
    rotate_left 1
    · (intro x hSx; (try dsimp only at hSx); go_simp; try with_reducible rfl)
    try simp only [Act.put, zgT, zg0, zgS, zsT, zs0, zsS]
    refine wpAnyH_ready (rs := [6]) (by kernel_rfl) (by simp) ?_
    refine AllReadyH.cons rfl (fun K hK => ?_) AllReadyH.nil
    go_simp
    go_at_call 61
    refine (inSpec' _ _ _ _ g1 _).mono ?_
    rintro e wz ⟨rfl, rfl⟩
    go_wp2_with fail
    refine hK.out _ _ (KS.out _ bR) (fun hHeld3 => ?_)
    clear hK K
    try simp only [Act.put, zgT, zg0, zgS, zsT, zs0, zsS]
    refine tV 7 (v := ?_) rfl (by kernel_rfl) (fun _ _ _ h => h) ?_ (by assumption) ?_
    rotate_left 1
    · (intro x hSx; (try dsimp only at hSx); go_simp; try with_reducible rfl)
    try simp only [Act.put, zgT, zg0, zgS, zsT, zs0, zsS]
    refine tV 8 (v := ?_) rfl (by kernel_rfl) (fun _ _ _ h => h) ?_ (by assumption) ?_
    rotate_left 1
    · (intro x hSx; (try dsimp only at hSx); go_simp; try with_reducible rfl)
    try simp only [Act.put, zgT, zg0, zgS, zsT, zs0, zsS]
    refine tV 9 (v := ?_) rfl (by kernel_rfl) (fun _ _ _ h => h) ?_ (by assumption) ?_
    rotate_left 1
    · (intro x hSx; (try dsimp only at hSx); go_simp; try with_reducible rfl)
    try simp only [Act.put, zgT, zg0, zgS, zsT, zs0, zsS]
    refine tV 10 (v := ?_) rfl (by kernel_rfl) (fun _ _ _ h => h) ?_ (by assumption) ?_
    rotate_left 1
    · (intro x hSx; (try dsimp only at hSx); go_simp; try with_reducible rfl)
    try simp only [Act.put, zgT, zg0, zgS, zsT, zs0, zsS]
    refine tV 11 (v := ?_) rfl (by kernel_rfl) (fun _ _ _ h => h) ?_ (by assumption) ?_
    rotate_left 1
    · (intro x hSx; (try dsimp only at hSx); go_simp; try with_reducible rfl)
    try simp only [Act.put, zgT, zg0, zgS, zsT, zs0, zsS]
    refine tV 12 (v := ?_) rfl (by kernel_rfl) (fun _ _ _ h => h) ?_ (by assumption) ?_
    rotate_left 1
    · (intro x hSx; (try dsimp only at hSx); go_simp; try with_reducible rfl)
    try simp only [Act.put, zgT, zg0, zgS, zsT, zs0, zsS]
    refine tV 13 (v := ?_) rfl (by kernel_rfl) (fun _ _ _ h => h) ?_ (by assumption) ?_
    rotate_left 1
    · (intro x hSx; (try dsimp only at hSx); go_simp; try with_reducible rfl)
    try simp only [Act.put, zgT, zg0, zgS, zsT, zs0, zsS]
    refine wpAnyH_ready (rs := [14]) (by kernel_rfl) (by simp) ?_
    refine AllReadyH.cons rfl (fun K hK => ?_) AllReadyH.nil
    go_simp
    go_at_call 61
    refine (inSpec' _ _ _ _ g2 _).mono ?_
    rintro e wz ⟨rfl, rfl⟩
    go_wp2_with fail
    refine hK.out _ _ (KS.out _ bR) (fun hHeld4 => ?_)
    clear hK K
    try simp only [Act.put, zgT, zg0, zgS, zsT, zs0, zsS]
    refine tV 15 (v := ?_) rfl (by kernel_rfl) (fun _ _ _ h => h) ?_ (by assumption) ?_
    rotate_left 1
    · (intro x hSx; (try dsimp only at hSx); go_simp; try with_reducible rfl)
    try simp only [Act.put, zgT, zg0, zgS, zsT, zs0, zsS]
    refine tV 16 (v := ?_) rfl (by kernel_rfl) (fun _ _ _ h => h) ?_ (by assumption) ?_
    rotate_left 1
    · (intro x hSx; (try dsimp only at hSx); go_simp; try with_reducible rfl)
    try simp only [Act.put, zgT, zg0, zgS, zsT, zs0, zsS]
    refine tV 17 (v := ?_) rfl (by kernel_rfl) (fun _ _ _ h => h) ?_ (by assumption) ?_
    rotate_left 1
    · (intro x hSx; (try dsimp only at hSx); go_simp; try with_reducible rfl)
    try simp only [Act.put, zgT, zg0, zgS, zsT, zs0, zsS]
    refine tV 18 (v := ?_) rfl (by kernel_rfl) (fun _ _ _ h => h) ?_ (by assumption) ?_
    rotate_left 1
    · (intro x hSx; (try dsimp only at hSx); go_simp; try with_reducible rfl)
    try simp only [Act.put, zgT, zg0, zgS, zsT, zs0, zsS]
    refine tV 19 (v := ?_) rfl (by kernel_rfl) (fun _ _ _ h => h) ?_ (by assumption) ?_
    rotate_left 1
    · (intro x hSx; (try dsimp only at hSx); go_simp; try with_reducible rfl)
    try simp only [Act.put, zgT, zg0, zgS, zsT, zs0, zsS]
    refine tV 20 (v := ?_) rfl (by kernel_rfl) (fun _ _ _ h => h) ?_ (by assumption) ?_
    rotate_left 1
    · (intro x hSx; (try dsimp only at hSx); go_simp; try with_reducible rfl)
    try simp only [Act.put, zgT, zg0, zgS, zsT, zs0, zsS]
    refine tV 21 (v := ?_) rfl (by kernel_rfl) (fun _ _ _ h => h) ?_ (by assumption) ?_
    rotate_left 1
    · (intro x hSx; (try dsimp only at hSx); go_simp; try with_reducible rfl)
    try simp only [Act.put, zgT, zg0, zgS, zsT, zs0, zsS]
    refine wpAnyH_ready (rs := [22]) (by kernel_rfl) (by simp) ?_
    refine AllReadyH.cons rfl (fun K hK => ?_) AllReadyH.nil
    go_simp
    go_at_call 61
    refine (inSpec' _ _ _ _ g3 _).mono ?_
    rintro e wz ⟨rfl, rfl⟩
    go_wp2_with fail
    refine hK.out _ _ (KS.out _ bR) (fun hHeld5 => ?_)
    clear hK K
    try simp only [Act.put, zgT, zg0, zgS, zsT, zs0, zsS]
    refine tV 23 (v := ?_) rfl (by kernel_rfl) (fun _ _ _ h => h) ?_ (by assumption) ?_
    rotate_left 1
    · (intro x hSx; (try dsimp only at hSx); go_simp; try with_reducible rfl)
    try simp only [Act.put, zgT, zg0, zgS, zsT, zs0, zsS]
    refine tV 24 (v := ?_) rfl (by kernel_rfl) (fun _ _ _ h => h) ?_ (by assumption) ?_
    rotate_left 1
    · (intro x hSx; (try dsimp only at hSx); go_simp; try with_reducible rfl)
    try simp only [Act.put, zgT, zg0, zgS, zsT, zs0, zsS]
    refine tV 25 (v := ?_) rfl (by kernel_rfl) (fun _ _ _ h => h) ?_ (by assumption) ?_
    rotate_left 1
    · (intro x hSx; (try dsimp only at hSx); go_simp; try with_reducible rfl)
    try simp only [Act.put, zgT, zg0, zgS, zsT, zs0, zsS]
    refine tV 26 (v := ?_) rfl (by kernel_rfl) (fun _ _ _ h => h) ?_ (by assumption) ?_
    rotate_left 1
    · (intro x hSx; (try dsimp only at hSx); go_simp; try with_reducible rfl)
    try simp only [Act.put, zgT, zg0, zgS, zsT, zs0, zsS]
    refine tV 27 (v := ?_) rfl (by kernel_rfl) (fun _ _ _ h => h) ?_ (by assumption) ?_
    rotate_left 1
    · (intro x hSx; (try dsimp only at hSx); go_simp; try with_reducible rfl)
    try simp only [Act.put, zgT, zg0, zgS, zsT, zs0, zsS]
    refine tV 28 (v := ?_) rfl (by kernel_rfl) (fun _ _ _ h => h) ?_ (by assumption) ?_
    rotate_left 1
    · (intro x hSx; (try dsimp only at hSx); go_simp; try with_reducible rfl)
    try simp only [Act.put, zgT, zg0, zgS, zsT, zs0, zsS]
    refine tV 29 (v := ?_) rfl (by kernel_rfl) (fun _ _ _ h => h) ?_ (by assumption) ?_
    rotate_left 1
    · (intro x hSx; (try dsimp only at hSx); go_simp; try with_reducible rfl)
    try simp only [Act.put, zgT, zg0, zgS, zsT, zs0, zsS]
    refine tV 30 (v := ?_) rfl (by kernel_rfl) (fun _ _ _ h => h) ?_ (by assumption) ?_
    rotate_left 1
    · (intro x hSx; (try dsimp only at hSx); go_simp; try with_reducible rfl)
    try simp only [Act.put, zgT, zg0, zgS, zsT, zs0, zsS]
    refine wpAnyH_ready (rs := [31]) (by kernel_rfl) (by simp) ?_
    refine AllReadyH.cons rfl (fun K hK => ?_) AllReadyH.nil
    go_simp
    go_at_call 61
    refine (inSpec' _ _ _ _ g4 _).mono ?_
    rintro e wz ⟨rfl, rfl⟩
    go_wp2_with fail
    refine hK.out _ _ (KS.out _ bR) (fun hHeld6 => ?_)
    clear hK K
    try simp only [Act.put, zgT, zg0, zgS, zsT, zs0, zsS]
    refine tV 32 (v := ?_) rfl (by kernel_rfl) (fun _ _ _ h => h) ?_ (by assumption) ?_
    rotate_left 1
    · (intro x hSx; (try dsimp only at hSx); go_simp; try with_reducible rfl)
    try simp only [Act.put, zgT, zg0, zgS, zsT, zs0, zsS]
    refine tV 33 (v := ?_) rfl (by kernel_rfl) (fun _ _ _ h => h) ?_ (by assumption) ?_
    rotate_left 1
    · (intro x hSx; (try dsimp only at hSx); go_simp; try with_reducible rfl)
    try simp only [Act.put, zgT, zg0, zgS, zsT, zs0, zsS]
    refine tV 34 (v := ?_) rfl (by kernel_rfl) (fun _ _ _ h => h) ?_ (by assumption) ?_
    rotate_left 1
    · (intro x hSx; (try dsimp only at hSx); go_simp; try with_reducible rfl)
    try simp only [Act.put, zgT, zg0, zgS, zsT, zs0, zsS]
    refine tV 35 (v := ?_) rfl (by kernel_rfl) (fun _ _ _ h => h) ?_ (by assumption) ?_
    rotate_left 1
    · (intro x hSx; (try dsimp only at hSx); go_simp; try with_reducible rfl)
    try simp only [Act.put, zgT, zg0, zgS, zsT, zs0, zsS]
    refine tV 36 (v := ?_) rfl (by kernel_rfl) (fun _ _ _ h => h) ?_ (by assumption) ?_
    rotate_left 1
    · (intro x hSx; (try dsimp only at hSx); go_simp; try with_reducible rfl)
    try simp only [Act.put, zgT, zg0, zgS, zsT, zs0, zsS]
    refine tV 37 (v := ?_) rfl (by kernel_rfl) (fun _ _ _ h => h) ?_ (by assumption) ?_
    rotate_left 1
    · (intro x hSx; (try dsimp only at hSx); go_simp; try with_reducible rfl)
    try simp only [Act.put, zgT, zg0, zgS, zsT, zs0, zsS]
    refine tV 38 (v := ?_) rfl (by kernel_rfl) (fun _ _ _ h => h) ?_ (by assumption) ?_
    rotate_left 1
    · (intro x hSx; (try dsimp only at hSx); go_simp; try with_reducible rfl)
    try simp only [Act.put, zgT, zg0, zgS, zsT, zs0, zsS]
    refine tV 39 (v := ?_) rfl (by kernel_rfl) (fun _ _ _ h => h) ?_ (by assumption) ?_
    rotate_left 1
    · (intro x hSx; (try dsimp only at hSx); go_simp; try with_reducible rfl)
    try simp only [Act.put, zgT, zg0, zgS, zsT, zs0, zsS]
    refine tV 40 (v := ?_) rfl (by kernel_rfl) (fun _ _ _ h => h) ?_ (by assumption) ?_
    rotate_left 1
    · (intro x hSx; (try dsimp only at hSx); go_simp; try with_reducible rfl)
    try simp only [Act.put, zgT, zg0, zgS, zsT, zs0, zsS]
    refine tV 41 (v := ?_) rfl (by kernel_rfl) (fun _ _ _ h => h) ?_ (by assumption) ?_
    rotate_left 1
    · (intro x hSx; (try dsimp only at hSx); go_simp; try with_reducible rfl)
    try simp only [Act.put, zgT, zg0, zgS, zsT, zs0, zsS]
    refine wpAnyH_ready (rs := [42]) (by kernel_rfl) (by simp) ?_
    refine AllReadyH.cons rfl (fun K hK => ?_) AllReadyH.nil
    go_simp
    go_at_call 95
    refine (cardsSpec _ (by omega) (by omega) _).mono ?_
    rintro e wz ⟨rfl, rfl⟩
    go_wp2_with fail
    refine hK.out _ _ (KS.out _ bR) (fun hHeld7 => ?_)
    clear hK K
    try simp only [Act.put, zgT, zg0, zgS, zsT, zs0, zsS]
    refine tV 43 (v := ?_) rfl (by kernel_rfl) (fun _ _ _ h => h) ?_ (by assumption) ?_
    rotate_left 1
    · (intro x hSx; (try dsimp only at hSx); go_simp; try with_reducible rfl)
    try simp only [Act.put, zgT, zg0, zgS, zsT, zs0, zsS]
    refine tV 44 (v := ?_) rfl (by kernel_rfl) (fun _ _ _ h => h) ?_ (by assumption) ?_
    rotate_left 1
    · (intro x hSx; (try dsimp only at hSx); go_simp; try with_reducible rfl)
    try simp only [Act.put, zgT, zg0, zgS, zsT, zs0, zsS]
    refine wpAnyH_done (by kernel_rfl) ?_ _
    clear hHeld hHeld2 hHeld3 hHeld4 hHeld5 hHeld6 hHeld7
    clear KS
    obtain ⟨kM0, kM1, kM2, kM3, kM4⟩ := bk5 (XM.out w1 bR)
    go_wp2_with fail
    go_ret
    exact ⟨by rw [HF.out, g0, g1, g2, g3, g4, g5]; rfl, B.out w1 (Below.refl _ _)⟩
  · have g5n : ((dl : Int) != crd ((wl : Int) - yg)) = false := by rw [bne, g5]; rfl
    go_enter Tryz.func59, Tryz.ntmps59
    go_wp2_with fail
    have KS : Hid (∀ x, Below (w.heap.size + 1) (w.alloc (.cells #[.slice wa wl wc, .int .i64 yg, .int .i64 tp, .int .i64 od, .slice da dl dc] 29)) x → x.cell? ⟨w.heap.size, 0, none⟩ = some (.slice wa wl wc) ∧ x.cell? ⟨w.heap.size, 1, none⟩ = some (.int .i64 yg) ∧ x.cell? ⟨w.heap.size, 2, none⟩ = some (.int .i64 tp) ∧ x.cell? ⟨w.heap.size, 3, none⟩ = some (.int .i64 od) ∧ x.cell? ⟨w.heap.size, 4, none⟩ = some (.slice da dl dc)) := fun x hx => bk5 (XM.out x hx)
    refine wp_region_held_drew (S := fun x => x.cell? ⟨w.heap.size, 0, none⟩ = some (.slice wa wl wc) ∧ x.cell? ⟨w.heap.size, 1, none⟩ = some (.int .i64 yg) ∧ x.cell? ⟨w.heap.size, 2, none⟩ = some (.int .i64 tp) ∧ x.cell? ⟨w.heap.size, 3, none⟩ = some (.int .i64 od) ∧ x.cell? ⟨w.heap.size, 4, none⟩ = some (.slice da dl dc)) (by kernel_rfl) ?_ (fun hHeld => ?_)
    · exact KS.out _ (bdrew bR)
    refine tV 0 (v := ?_) rfl (by kernel_rfl) (fun _ _ _ h => h) ?_ (by assumption) ?_
    rotate_left 1
    · (intro x hSx; (try dsimp only at hSx); go_simp; try with_reducible rfl)
    try simp only [Act.put, zgT, zg0, zsT, zs0, zsS]
    refine wpAnyH_ready (rs := [1]) (by kernel_rfl) (by simp) ?_
    refine AllReadyH.cons rfl (fun K hK => ?_) AllReadyH.nil
    go_simp
    go_at_call 94
    have BP : Hid (Below (w.heap.size + 1) (w.alloc (.cells #[.slice wa wl wc, .int .i64 yg, .int .i64 tp, .int .i64 od, .slice da dl dc] 29)) (w.alloc (.cells #[.slice wa wl wc, .int .i64 yg, .int .i64 tp, .int .i64 od, .slice da dl dc] 29)).drew) := (bdrew bR)
    refine (okSpec _ _ _ L _ (H.out.later (B.out _ BP.out))).mono ?_
    rintro e w1 ⟨rfl, hb⟩
    have hq : Below (w.heap.size + 1) (w.alloc (.cells #[.slice wa wl wc, .int .i64 yg, .int .i64 tp, .int .i64 od, .slice da dl dc] 29)) w1 := BP.out.trans (Below.mono hb (Nat.le_trans hz BP.out.size))
    have hzn : w.heap.size + 1 ≤ w1.heap.size := Nat.le_trans hz hq.size
    replace B := lF B hq hzn
    replace KS := lF KS hq hzn
    replace XM := lF XM hq hzn
    replace lM := Nat.lt_of_lt_of_le lM hzn
    clear hq BP hz
    have hz : w1.heap.size ≤ w1.heap.size := Nat.le_refl _
    clear hb
    rw [g0]
    go_wp2_with fail
    refine hK.out _ _ (KS.out _ bR) (fun hHeld2 => ?_)
    clear hK K
    try simp only [Act.put, zgT, zg0, zgS, zsT, zs0, zsS]
    refine tV 2 (v := ?_) rfl (by kernel_rfl) (fun _ _ _ h => h) ?_ (by assumption) ?_
    rotate_left 1
    · (intro x hSx; (try dsimp only at hSx); go_simp; try with_reducible rfl)
    try simp only [Act.put, zgT, zg0, zgS, zsT, zs0, zsS]
    refine tV 3 (v := ?_) rfl (by kernel_rfl) (fun _ _ _ h => h) ?_ (by assumption) ?_
    rotate_left 1
    · (intro x hSx; (try dsimp only at hSx); go_simp; try with_reducible rfl)
    try simp only [Act.put, zgT, zg0, zgS, zsT, zs0, zsS]
    refine tV 4 (v := ?_) rfl (by kernel_rfl) (fun _ _ _ h => h) ?_ (by assumption) ?_
    rotate_left 1
    · (intro x hSx; (try dsimp only at hSx); go_simp; try with_reducible rfl)
    try simp only [Act.put, zgT, zg0, zgS, zsT, zs0, zsS]
    refine tV 5 (v := ?_) rfl (by kernel_rfl) (fun _ _ _ h => h) ?_ (by assumption) ?_
    rotate_left 1
    · (intro x hSx; (try dsimp only at hSx); go_simp; try with_reducible rfl)
    try simp only [Act.put, zgT, zg0, zgS, zsT, zs0, zsS]
    refine wpAnyH_ready (rs := [6]) (by kernel_rfl) (by simp) ?_
    refine AllReadyH.cons rfl (fun K hK => ?_) AllReadyH.nil
    go_simp
    go_at_call 61
    refine (inSpec' _ _ _ _ g1 _).mono ?_
    rintro e wz ⟨rfl, rfl⟩
    go_wp2_with fail
    refine hK.out _ _ (KS.out _ bR) (fun hHeld3 => ?_)
    clear hK K
    try simp only [Act.put, zgT, zg0, zgS, zsT, zs0, zsS]
    refine tV 7 (v := ?_) rfl (by kernel_rfl) (fun _ _ _ h => h) ?_ (by assumption) ?_
    rotate_left 1
    · (intro x hSx; (try dsimp only at hSx); go_simp; try with_reducible rfl)
    try simp only [Act.put, zgT, zg0, zgS, zsT, zs0, zsS]
    refine tV 8 (v := ?_) rfl (by kernel_rfl) (fun _ _ _ h => h) ?_ (by assumption) ?_
    rotate_left 1
    · (intro x hSx; (try dsimp only at hSx); go_simp; try with_reducible rfl)
    try simp only [Act.put, zgT, zg0, zgS, zsT, zs0, zsS]
    refine tV 9 (v := ?_) rfl (by kernel_rfl) (fun _ _ _ h => h) ?_ (by assumption) ?_
    rotate_left 1
    · (intro x hSx; (try dsimp only at hSx); go_simp; try with_reducible rfl)
    try simp only [Act.put, zgT, zg0, zgS, zsT, zs0, zsS]
    refine tV 10 (v := ?_) rfl (by kernel_rfl) (fun _ _ _ h => h) ?_ (by assumption) ?_
    rotate_left 1
    · (intro x hSx; (try dsimp only at hSx); go_simp; try with_reducible rfl)
    try simp only [Act.put, zgT, zg0, zgS, zsT, zs0, zsS]
    refine tV 11 (v := ?_) rfl (by kernel_rfl) (fun _ _ _ h => h) ?_ (by assumption) ?_
    rotate_left 1
    · (intro x hSx; (try dsimp only at hSx); go_simp; try with_reducible rfl)
    try simp only [Act.put, zgT, zg0, zgS, zsT, zs0, zsS]
    refine tV 12 (v := ?_) rfl (by kernel_rfl) (fun _ _ _ h => h) ?_ (by assumption) ?_
    rotate_left 1
    · (intro x hSx; (try dsimp only at hSx); go_simp; try with_reducible rfl)
    try simp only [Act.put, zgT, zg0, zgS, zsT, zs0, zsS]
    refine tV 13 (v := ?_) rfl (by kernel_rfl) (fun _ _ _ h => h) ?_ (by assumption) ?_
    rotate_left 1
    · (intro x hSx; (try dsimp only at hSx); go_simp; try with_reducible rfl)
    try simp only [Act.put, zgT, zg0, zgS, zsT, zs0, zsS]
    refine wpAnyH_ready (rs := [14]) (by kernel_rfl) (by simp) ?_
    refine AllReadyH.cons rfl (fun K hK => ?_) AllReadyH.nil
    go_simp
    go_at_call 61
    refine (inSpec' _ _ _ _ g2 _).mono ?_
    rintro e wz ⟨rfl, rfl⟩
    go_wp2_with fail
    refine hK.out _ _ (KS.out _ bR) (fun hHeld4 => ?_)
    clear hK K
    try simp only [Act.put, zgT, zg0, zgS, zsT, zs0, zsS]
    refine tV 15 (v := ?_) rfl (by kernel_rfl) (fun _ _ _ h => h) ?_ (by assumption) ?_
    rotate_left 1
    · (intro x hSx; (try dsimp only at hSx); go_simp; try with_reducible rfl)
    try simp only [Act.put, zgT, zg0, zgS, zsT, zs0, zsS]
    refine tV 16 (v := ?_) rfl (by kernel_rfl) (fun _ _ _ h => h) ?_ (by assumption) ?_
    rotate_left 1
    · (intro x hSx; (try dsimp only at hSx); go_simp; try with_reducible rfl)
    try simp only [Act.put, zgT, zg0, zgS, zsT, zs0, zsS]
    refine tV 17 (v := ?_) rfl (by kernel_rfl) (fun _ _ _ h => h) ?_ (by assumption) ?_
    rotate_left 1
    · (intro x hSx; (try dsimp only at hSx); go_simp; try with_reducible rfl)
    try simp only [Act.put, zgT, zg0, zgS, zsT, zs0, zsS]
    refine tV 18 (v := ?_) rfl (by kernel_rfl) (fun _ _ _ h => h) ?_ (by assumption) ?_
    rotate_left 1
    · (intro x hSx; (try dsimp only at hSx); go_simp; try with_reducible rfl)
    try simp only [Act.put, zgT, zg0, zgS, zsT, zs0, zsS]
    refine tV 19 (v := ?_) rfl (by kernel_rfl) (fun _ _ _ h => h) ?_ (by assumption) ?_
    rotate_left 1
    · (intro x hSx; (try dsimp only at hSx); go_simp; try with_reducible rfl)
    try simp only [Act.put, zgT, zg0, zgS, zsT, zs0, zsS]
    refine tV 20 (v := ?_) rfl (by kernel_rfl) (fun _ _ _ h => h) ?_ (by assumption) ?_
    rotate_left 1
    · (intro x hSx; (try dsimp only at hSx); go_simp; try with_reducible rfl)
    try simp only [Act.put, zgT, zg0, zgS, zsT, zs0, zsS]
    refine tV 21 (v := ?_) rfl (by kernel_rfl) (fun _ _ _ h => h) ?_ (by assumption) ?_
    rotate_left 1
    · (intro x hSx; (try dsimp only at hSx); go_simp; try with_reducible rfl)
    try simp only [Act.put, zgT, zg0, zgS, zsT, zs0, zsS]
    refine wpAnyH_ready (rs := [22]) (by kernel_rfl) (by simp) ?_
    refine AllReadyH.cons rfl (fun K hK => ?_) AllReadyH.nil
    go_simp
    go_at_call 61
    refine (inSpec' _ _ _ _ g3 _).mono ?_
    rintro e wz ⟨rfl, rfl⟩
    go_wp2_with fail
    refine hK.out _ _ (KS.out _ bR) (fun hHeld5 => ?_)
    clear hK K
    try simp only [Act.put, zgT, zg0, zgS, zsT, zs0, zsS]
    refine tV 23 (v := ?_) rfl (by kernel_rfl) (fun _ _ _ h => h) ?_ (by assumption) ?_
    rotate_left 1
    · (intro x hSx; (try dsimp only at hSx); go_simp; try with_reducible rfl)
    try simp only [Act.put, zgT, zg0, zgS, zsT, zs0, zsS]
    refine tV 24 (v := ?_) rfl (by kernel_rfl) (fun _ _ _ h => h) ?_ (by assumption) ?_
    rotate_left 1
    · (intro x hSx; (try dsimp only at hSx); go_simp; try with_reducible rfl)
    try simp only [Act.put, zgT, zg0, zgS, zsT, zs0, zsS]
    refine tV 25 (v := ?_) rfl (by kernel_rfl) (fun _ _ _ h => h) ?_ (by assumption) ?_
    rotate_left 1
    · (intro x hSx; (try dsimp only at hSx); go_simp; try with_reducible rfl)
    try simp only [Act.put, zgT, zg0, zgS, zsT, zs0, zsS]
    refine tV 26 (v := ?_) rfl (by kernel_rfl) (fun _ _ _ h => h) ?_ (by assumption) ?_
    rotate_left 1
    · (intro x hSx; (try dsimp only at hSx); go_simp; try with_reducible rfl)
    try simp only [Act.put, zgT, zg0, zgS, zsT, zs0, zsS]
    refine tV 27 (v := ?_) rfl (by kernel_rfl) (fun _ _ _ h => h) ?_ (by assumption) ?_
    rotate_left 1
    · (intro x hSx; (try dsimp only at hSx); go_simp; try with_reducible rfl)
    try simp only [Act.put, zgT, zg0, zgS, zsT, zs0, zsS]
    refine tV 28 (v := ?_) rfl (by kernel_rfl) (fun _ _ _ h => h) ?_ (by assumption) ?_
    rotate_left 1
    · (intro x hSx; (try dsimp only at hSx); go_simp; try with_reducible rfl)
    try simp only [Act.put, zgT, zg0, zgS, zsT, zs0, zsS]
    refine tV 29 (v := ?_) rfl (by kernel_rfl) (fun _ _ _ h => h) ?_ (by assumption) ?_
    rotate_left 1
    · (intro x hSx; (try dsimp only at hSx); go_simp; try with_reducible rfl)
    try simp only [Act.put, zgT, zg0, zgS, zsT, zs0, zsS]
    refine tV 30 (v := ?_) rfl (by kernel_rfl) (fun _ _ _ h => h) ?_ (by assumption) ?_
    rotate_left 1
    · (intro x hSx; (try dsimp only at hSx); go_simp; try with_reducible rfl)
    try simp only [Act.put, zgT, zg0, zgS, zsT, zs0, zsS]
    refine wpAnyH_ready (rs := [31]) (by kernel_rfl) (by simp) ?_
    refine AllReadyH.cons rfl (fun K hK => ?_) AllReadyH.nil
    go_simp
    go_at_call 61
    refine (inSpec' _ _ _ _ g4 _).mono ?_
    rintro e wz ⟨rfl, rfl⟩
    go_wp2_with fail
    refine hK.out _ _ (KS.out _ bR) (fun hHeld6 => ?_)
    clear hK K
    try simp only [Act.put, zgT, zg0, zgS, zsT, zs0, zsS]
    refine tV 32 (v := ?_) rfl (by kernel_rfl) (fun _ _ _ h => h) ?_ (by assumption) ?_
    rotate_left 1
    · (intro x hSx; (try dsimp only at hSx); go_simp; try with_reducible rfl)
    try simp only [Act.put, zgT, zg0, zgS, zsT, zs0, zsS]
    refine tV 33 (v := ?_) rfl (by kernel_rfl) (fun _ _ _ h => h) ?_ (by assumption) ?_
    rotate_left 1
    · (intro x hSx; (try dsimp only at hSx); go_simp; try with_reducible rfl)
    try simp only [Act.put, zgT, zg0, zgS, zsT, zs0, zsS]
    refine tV 34 (v := ?_) rfl (by kernel_rfl) (fun _ _ _ h => h) ?_ (by assumption) ?_
    rotate_left 1
    · (intro x hSx; (try dsimp only at hSx); go_simp; try with_reducible rfl)
    try simp only [Act.put, zgT, zg0, zgS, zsT, zs0, zsS]
    refine tV 35 (v := ?_) rfl (by kernel_rfl) (fun _ _ _ h => h) ?_ (by assumption) ?_
    rotate_left 1
    · (intro x hSx; (try dsimp only at hSx); go_simp; try with_reducible rfl)
    try simp only [Act.put, zgT, zg0, zgS, zsT, zs0, zsS]
    refine tV 36 (v := ?_) rfl (by kernel_rfl) (fun _ _ _ h => h) ?_ (by assumption) ?_
    rotate_left 1
    · (intro x hSx; (try dsimp only at hSx); go_simp; try with_reducible rfl)
    try simp only [Act.put, zgT, zg0, zgS, zsT, zs0, zsS]
    refine tV 37 (v := ?_) rfl (by kernel_rfl) (fun _ _ _ h => h) ?_ (by assumption) ?_
    rotate_left 1
    · (intro x hSx; (try dsimp only at hSx); go_simp; try with_reducible rfl)
    try simp only [Act.put, zgT, zg0, zgS, zsT, zs0, zsS]
    refine tV 38 (v := ?_) rfl (by kernel_rfl) (fun _ _ _ h => h) ?_ (by assumption) ?_
    rotate_left 1
    · (intro x hSx; (try dsimp only at hSx); go_simp; try with_reducible rfl)
    try simp only [Act.put, zgT, zg0, zgS, zsT, zs0, zsS]
    refine tV 39 (v := ?_) rfl (by kernel_rfl) (fun _ _ _ h => h) ?_ (by assumption) ?_
    rotate_left 1
    · (intro x hSx; (try dsimp only at hSx); go_simp; try with_reducible rfl)
    try simp only [Act.put, zgT, zg0, zgS, zsT, zs0, zsS]
    refine tV 40 (v := ?_) rfl (by kernel_rfl) (fun _ _ _ h => h) ?_ (by assumption) ?_
    rotate_left 1
    · (intro x hSx; (try dsimp only at hSx); go_simp; try with_reducible rfl)
    try simp only [Act.put, zgT, zg0, zgS, zsT, zs0, zsS]
    refine tV 41 (v := ?_) rfl (by kernel_rfl) (fun _ _ _ h => h) ?_ (by assumption) ?_
    rotate_left 1
    · (intro x hSx; (try dsimp only at hSx); go_simp; try with_reducible rfl)
    try simp only [Act.put, zgT, zg0, zgS, zsT, zs0, zsS]
    refine wpAnyH_ready (rs := [42]) (by kernel_rfl) (by simp) ?_
    refine AllReadyH.cons rfl (fun K hK => ?_) AllReadyH.nil
    go_simp
    go_at_call 95
    refine (cardsSpec _ (by omega) (by omega) _).mono ?_
    rintro e wz ⟨rfl, rfl⟩
    go_wp2_with fail
    refine hK.out _ _ (KS.out _ bR) (fun hHeld7 => ?_)
    clear hK K
    try simp only [Act.put, zgT, zg0, zgS, zsT, zs0, zsS]
    refine tV 43 (v := ?_) rfl (by kernel_rfl) (fun _ _ _ h => h) ?_ (by assumption) ?_
    rotate_left 1
    · (intro x hSx; (try dsimp only at hSx); go_simp; try with_reducible rfl)
    try simp only [Act.put, zgT, zg0, zgS, zsT, zs0, zsS]
    refine tV 44 (v := ?_) rfl (by kernel_rfl) (fun _ _ _ h => h) ?_ (by assumption) ?_
    rotate_left 1
    · (intro x hSx; (try dsimp only at hSx); go_simp; try with_reducible rfl)
    try simp only [Act.put, zgT, zg0, zgS, zsT, zs0, zsS]
    refine wpAnyH_done (by kernel_rfl) ?_ _
    clear hHeld hHeld2 hHeld3 hHeld4 hHeld5 hHeld6 hHeld7
    clear KS
    obtain ⟨kM0, kM1, kM2, kM3, kM4⟩ := bk5 (XM.out w1 bR)
    go_wp2_with fail
    clear kM0 kM1 kM2 kM3 kM4
    have HB : Hid (bndB L (ws, yg, tp, od, cd) = true) := by show _ = _; rw [HF.out, g0, g1, g2, g3, g4, g5]; rfl
    have ZF : Hid (zerB (ws, yg, tp, od, cd) = (List.range wl).all (fun i => !idle (ws, yg, tp, od, cd) i || ws.getD i 0 == 0)) := by show _ = _; rw [zerB]; simp only [WS.out]
    have IDL : Hid (∀ i : Nat, idle (ws, yg, tp, od, cd) i = (inI i tp (yg - 1) || decide (od ≤ i))) := fun i => rfl
    go_loopw [6] (fun t wr => ∃ k : Nat, k ≤ wl ∧ t = .int .i64 k ∧ (List.range k).all (fun i => !idle (ws, yg, tp, od, cd) i || ws.getD i 0 == 0) = true ∧ Below w1.heap.size w1 wr) (fun t _ => wl - (intOf t).toNat)
    case atStart => exact ⟨0, Nat.zero_le _, rfl, rfl, Below.refl _ _⟩
    case round =>
      obtain ⟨k, hk, rfl, hall, hr⟩ := hrel
      have HA : Hid ((List.range k).all (fun i => !idle (ws, yg, tp, od, cd) i || ws.getD i 0 == 0) = true) := hall
      have HR1 : Hid (Below w1.heap.size w1 wr) := hr
      clear hall
      have hzn : w1.heap.size ≤ wr.heap.size := Nat.le_trans hz (Below.size hr)
      replace B := lF B hr hzn
      replace XM := lF XM hr hzn
      replace lM := Nat.lt_of_lt_of_le lM hzn
      clear hz
      have hz : wr.heap.size ≤ wr.heap.size := Nat.le_refl _
      clear hr
      by_cases hlt : k < wl
      · obtain ⟨b, off, rfl, _, hcs⟩ := (HW.out.later (B.out wr (Below.refl _ _))).one k hlt
        have c0 := hcs k hlt
        obtain ⟨x, hx⟩ : ∃ x, ws.getD k 0 = x := ⟨_, rfl⟩
        rw [hx] at c0
        have NX : Hid ((List.range (k + 1)).all (fun i => !idle (ws, yg, tp, od, cd) i || ws.getD i 0 == 0) = (!(inI k tp (yg - 1) || decide (od ≤ (k : Int))) || x == 0)) := by show _ = _; rw [rng_on, HA.out, IDL.out, hx]; rfl
        have NO : Hid ((!(inI k tp (yg - 1) || decide (od ≤ (k : Int))) || x == 0) = false → zerB (ws, yg, tp, od, cd) = false) := fun h => by rw [ZF.out]; exact rng_no hlt (by show (!idle _ k || _) = _; rw [IDL.out, hx]; exact h)
        clear hcs hx
        cases e1 : inI (k : Int) tp (yg - 1)
        · obtain ⟨kM0, kM1, kM2, kM3, kM4⟩ := bk5 (XM.out wr bR)
          go_wp2_with fail
          refine (inSpec' _ _ _ _ e1 _).mono ?_
          rintro e wz ⟨rfl, rfl⟩
          by_cases e2 : od ≤ (k : Int)
          · by_cases hx0 : x = 0
            · subst hx0
              go_wp2_with fail
              exact ⟨⟨k + 1, by omega, by go_num, by rw [NX.out]; simp, HR1.out⟩, by simp [intOf]; omega⟩
            · have ex : (x != 0) = true := by simp [hx0]
              go_wp2_with fail
              go_ret
              exact ⟨by rw [HB.out, NO.out (by rw [e1, decide_eq_true (show od ≤ (k : Int) by omega)]; simp [hx0])]; rfl, B.out wr (Below.refl _ _)⟩
          · go_wp2_with fail
            exact ⟨⟨k + 1, by omega, by go_num, by rw [NX.out, e1, decide_eq_false (show ¬ od ≤ (k : Int) by omega)]; rfl, HR1.out⟩, by simp [intOf]; omega⟩
        · obtain ⟨kM0, kM1, kM2, kM3, kM4⟩ := bk5 (XM.out wr bR)
          go_wp2_with fail
          refine (inSpec' _ _ _ _ e1 _).mono ?_
          rintro e wz ⟨rfl, rfl⟩
          by_cases hx0 : x = 0
          · subst hx0
            go_wp2_with fail
            exact ⟨⟨k + 1, by omega, by go_num, by rw [NX.out]; simp, HR1.out⟩, by simp [intOf]; omega⟩
          · have ex : (x != 0) = true := by simp [hx0]
            go_wp2_with fail
            go_ret
            exact ⟨by rw [HB.out, NO.out (by rw [e1]; simp [hx0])]; rfl, B.out wr (Below.refl _ _)⟩
      · have ek : wl = k := by omega
        subst ek
        obtain ⟨kM0, kM1, kM2, kM3, kM4⟩ := bk5 (XM.out wr bR)
        go_wp2_with fail
        go_ret
        exact ⟨by rw [HB.out, ZF.out, HA.out]; rfl, B.out wr (Below.refl _ _)⟩

end Go.Proofs.YtjbmcdekhhbiaaaGreat
