/-
  A memory with its parts and its things, by the program: what it says; it writes nothing that was there.
-/
import Derived.Test.YtjbmcdekhhbiaaaGreatMemIi
namespace Go.Proofs.YtjbmcdekhhbiaaaGreat
open Go.ChangeShapes Go.WideShapes Go.ChangeAt Go.RowKit
set_option linter.unusedVariables false


set_option maxRecDepth 100000 in
set_option maxHeartbeats 16000000 in
theorem memoryImpl (ca : Option Addr) (cn cc : Nat) (wa : Option Addr) (wl wc : Nat) (yg tp od : Int) (da : Option Addr) (dl dc : Nat) (ws : List Int) (cd : List Bool) (L : List Cl) (w : World) {D E G G2 : Nat → Prop} (h : ClsAt D E w ca cn L) (hw : IntsAt G w wa wl ws) (hc : SlAt boolR G2 w da dl cd) (hyg : i64B yg) (hl : wl ≤ 1048576) (hd : dl ≤ 1048576) (hcap : wl ≤ wc) :
    Calls Tryz.prog 34 #[.slice ca cn cc, .agg #[.slice wa wl wc, .int .i64 yg, .int .i64 tp, .int .i64 od, .slice da dl dc]] w (MoP w ca cn cc wa wl wc yg tp od da dl dc L ws cd) := by
  have H : Hid (ClsAt D E w ca cn L) := h
  have HW : Hid (IntsAt G w wa wl ws) := hw
  have HC : Hid (SlAt boolR G2 w da dl cd) := hc
  have WS : Hid (ws.length = wl) := hw.size
  have CS : Hid (cd.length = dl) := hc.size
  have BE : Hid (bndB L (ws, yg, tp, od, cd) = (clsOk L && (p1B wl yg && (p2B wl yg tp od && p3B wl dl yg)))) := bnd_parts L ws yg tp od cd wl dl hw.size hc.size
  obtain ⟨mq, hmq⟩ : ∃ q, memB L (ws, yg, tp, od, cd) = q := ⟨_, rfl⟩
  have MQ : Hid (memB L (ws, yg, tp, od, cd) = mq) := hmq
  clear h hw hc hmq
  have hz : w.heap.size + 1 + 1 ≤ ((w.alloc (.cells #[.slice wa wl wc, .int .i64 yg, .int .i64 tp, .int .i64 od, .slice da dl dc] 29)).alloc (.cells #[.slice none 0 0, .slice none 0 0, .int .i64 0, .int .i64 0, .int .i64 0, .slice none 0 0, .slice none 0 0, .int .i64 0, .int .i64 0, .slice none 0 0, .int .i64 0, .int .i64 0, .slice none 0 0] 65)).heap.size := by simp
  have B : Hid (∀ y, Below (w.heap.size + 1 + 1) ((w.alloc (.cells #[.slice wa wl wc, .int .i64 yg, .int .i64 tp, .int .i64 od, .slice da dl dc] 29)).alloc (.cells #[.slice none 0 0, .slice none 0 0, .int .i64 0, .int .i64 0, .int .i64 0, .slice none 0 0, .slice none 0 0, .int .i64 0, .int .i64 0, .slice none 0 0, .int .i64 0, .int .i64 0, .slice none 0 0] 65)) y → Below w.heap.size w y) := fun y hy => ((bR.alloc (by first | exact Nat.le_refl _ | (simp; done) | (simp; omega)) _).alloc (by first | exact Nat.le_refl _ | (simp; done) | (simp; omega)) _).trans (hy.mono (by omega))
  have XM : Hid (∀ y, Below (w.heap.size + 1 + 1) ((w.alloc (.cells #[.slice wa wl wc, .int .i64 yg, .int .i64 tp, .int .i64 od, .slice da dl dc] 29)).alloc (.cells #[.slice none 0 0, .slice none 0 0, .int .i64 0, .int .i64 0, .int .i64 0, .slice none 0 0, .slice none 0 0, .int .i64 0, .int .i64 0, .slice none 0 0, .int .i64 0, .int .i64 0, .slice none 0 0] 65)) y → y.heap[w.heap.size]? = some (.cells #[.slice wa wl wc, .int .i64 yg, .int .i64 tp, .int .i64 od, .slice da dl dc] 29 (0, 0))) := fun y hy => (hy.block _ (by omega)).trans ((Below.heap_alloc _ _ _ (by first | (simp; done) | (simp; omega))).trans (boxN _ _ _ _ (by simp)))
  have lM : w.heap.size < w.heap.size + 1 + 1 := by omega
  have XR : Hid (∀ y, Below (w.heap.size + 1 + 1) ((w.alloc (.cells #[.slice wa wl wc, .int .i64 yg, .int .i64 tp, .int .i64 od, .slice da dl dc] 29)).alloc (.cells #[.slice none 0 0, .slice none 0 0, .int .i64 0, .int .i64 0, .int .i64 0, .slice none 0 0, .slice none 0 0, .int .i64 0, .int .i64 0, .slice none 0 0, .int .i64 0, .int .i64 0, .slice none 0 0] 65)) y → y.heap[w.heap.size + 1]? = some (.cells #[.slice none 0 0, .slice none 0 0, .int .i64 0, .int .i64 0, .int .i64 0, .slice none 0 0, .slice none 0 0, .int .i64 0, .int .i64 0, .slice none 0 0, .int .i64 0, .int .i64 0, .slice none 0 0] 65 (0, 0))) := fun y hy => (hy.block _ (by omega)).trans (boxN _ _ _ _ (by simp))
  have lR : w.heap.size + 1 < w.heap.size + 1 + 1 := by omega
  go_enter Tryz.func34, Tryz.ntmps34
  go_wp2_with fail
  have BP : Hid (Below (w.heap.size + 1 + 1) ((w.alloc (.cells #[.slice wa wl wc, .int .i64 yg, .int .i64 tp, .int .i64 od, .slice da dl dc] 29)).alloc (.cells #[.slice none 0 0, .slice none 0 0, .int .i64 0, .int .i64 0, .int .i64 0, .slice none 0 0, .slice none 0 0, .int .i64 0, .int .i64 0, .slice none 0 0, .int .i64 0, .int .i64 0, .slice none 0 0] 65)) ((w.alloc (.cells #[.slice wa wl wc, .int .i64 yg, .int .i64 tp, .int .i64 od, .slice da dl dc] 29)).alloc (.cells #[.slice none 0 0, .slice none 0 0, .int .i64 0, .int .i64 0, .int .i64 0, .slice none 0 0, .slice none 0 0, .int .i64 0, .int .i64 0, .slice none 0 0, .int .i64 0, .int .i64 0, .slice none 0 0] 65))) := bR
  refine (okImpl _ _ _ L _ (H.out.later (B.out _ BP.out))).mono ?_
  rintro e w1 ⟨rfl, hb⟩
  have hq : Below (w.heap.size + 1 + 1) ((w.alloc (.cells #[.slice wa wl wc, .int .i64 yg, .int .i64 tp, .int .i64 od, .slice da dl dc] 29)).alloc (.cells #[.slice none 0 0, .slice none 0 0, .int .i64 0, .int .i64 0, .int .i64 0, .slice none 0 0, .slice none 0 0, .int .i64 0, .int .i64 0, .slice none 0 0, .int .i64 0, .int .i64 0, .slice none 0 0] 65)) w1 := BP.out.trans (Below.mono hb (Nat.le_trans hz BP.out.size))
  have hzn : w.heap.size + 1 + 1 ≤ w1.heap.size := Nat.le_trans hz hq.size
  replace B := lF B hq hzn
  replace XM := lF XM hq hzn
  replace lM := Nat.lt_of_lt_of_le lM hzn
  replace XR := lF XR hq hzn
  replace lR := Nat.lt_of_lt_of_le lR hzn
  clear hq BP hz
  have hz : w1.heap.size ≤ w1.heap.size := Nat.le_refl _
  clear hb
  cases k0 : clsOk L
  · have MF : Hid (memB L (ws, yg, tp, od, cd) = false) := memB_bnd (by rw [BE.out, k0]; rfl)
    obtain ⟨kM0, kM1, kM2, kM3, kM4⟩ := bk5 (XM.out w1 bR)
    obtain ⟨kR0, kR1, kR2, kR3, kR4, kR5, kR6, kR7, kR8, kR9, kR10, kR11, kR12⟩ := bk13 (XR.out w1 bR)
    obtain ⟨qkR0, qkR1, qkR2, qkR3, qkR4, qkR5, qkR6, qkR7, qkR8, qkR9, qkR10, qkR11, qkR12⟩ := bq13 (XR.out w1 bR)
    go_wp2_with fail
    refine bodyPost_ret (v := .tuple #[.agg #[.slice none 0 0, .slice none 0 0, .int .i64 0, .int .i64 0, .int .i64 0, .slice none 0 0, .slice none 0 0, .int .i64 0, .int .i64 0, .slice none 0 0, .int .i64 0, .int .i64 0, .slice none 0 0], .bool false]) ?_ rfl ?_
    · simp [results, Tryz.results34, go_sem, *]
    · exact ⟨fun _ => ⟨_, _, _, _, _, _, _, _, _, _, _, _, _, _, _, _, _, _, _, _, _, _, _, _, _, rfl⟩, (fun h => by rw [MF.out] at h; cases h), by (repeat (refine Below.setCell ?_ (by first | omega | (simp <;> omega)) _)); exact B.out _ (bR)⟩
  obtain ⟨kM0, kM1, kM2, kM3, kM4⟩ := bk5 (XM.out w1 bR)
  obtain ⟨kR0, kR1, kR2, kR3, kR4, kR5, kR6, kR7, kR8, kR9, kR10, kR11, kR12⟩ := bk13 (XR.out w1 bR)
  go_wp2_with fail
  clear kM0 kM1 kM2 kM3 kM4 kR0 kR1 kR2 kR3 kR4 kR5 kR6 kR7 kR8 kR9 kR10 kR11 kR12
  have BP : Hid (Below (w1.heap.size) w1 w1) := bR
  refine (partsImpl _ _ _ yg tp od _ _ _ _ hl hd hyg).mono ?_
  rintro e w2 ⟨rfl, hb⟩
  have hq : Below (w1.heap.size) w1 w2 := BP.out.trans (Below.mono hb (Nat.le_trans hz BP.out.size))
  have hzn : w1.heap.size ≤ w2.heap.size := Nat.le_trans hz hq.size
  replace B := lF B hq hzn
  replace XM := lF XM hq hzn
  replace lM := Nat.lt_of_lt_of_le lM hzn
  replace XR := lF XR hq hzn
  replace lR := Nat.lt_of_lt_of_le lR hzn
  clear hq BP hz
  have hz : w2.heap.size ≤ w2.heap.size := Nat.le_refl _
  clear hb
  cases k1 : (p1B wl yg && (p2B wl yg tp od && p3B wl dl yg))
  · have MF : Hid (memB L (ws, yg, tp, od, cd) = false) := memB_bnd (by rw [BE.out, k0, k1]; rfl)
    obtain ⟨kM0, kM1, kM2, kM3, kM4⟩ := bk5 (XM.out w2 bR)
    obtain ⟨kR0, kR1, kR2, kR3, kR4, kR5, kR6, kR7, kR8, kR9, kR10, kR11, kR12⟩ := bk13 (XR.out w2 bR)
    obtain ⟨qkR0, qkR1, qkR2, qkR3, qkR4, qkR5, qkR6, qkR7, qkR8, qkR9, qkR10, qkR11, qkR12⟩ := bq13 (XR.out w2 bR)
    go_wp2_with fail
    refine bodyPost_ret (v := .tuple #[.agg #[.slice none 0 0, .slice none 0 0, .int .i64 0, .int .i64 0, .int .i64 0, .slice none 0 0, .slice none 0 0, .int .i64 0, .int .i64 0, .slice none 0 0, .int .i64 0, .int .i64 0, .slice none 0 0], .bool false]) ?_ rfl ?_
    · simp [results, Tryz.results34, go_sem, *]
    · exact ⟨fun _ => ⟨_, _, _, _, _, _, _, _, _, _, _, _, _, _, _, _, _, _, _, _, _, _, _, _, _, rfl⟩, (fun h => by rw [MF.out] at h; cases h), by (repeat (refine Below.setCell ?_ (by first | omega | (simp <;> omega)) _)); exact B.out _ (bR)⟩
  have HB0 : Hid (Bnd L (ws, yg, tp, od, cd)) := Bnd.of (by rw [BE.out, k0, k1]; rfl)
  have OK : Hid (clsOk L = true) := k0
  have BT : Hid (bndB L (ws, yg, tp, od, cd) = true) := by show _ = _; rw [BE.out, k0, k1]; rfl
  obtain ⟨_, z1, z2, z3, z4, _⟩ := HB0.out
  have hcards := HB0.out.cards
  simp only [WS.out, CS.out] at z1 z2 z3 z4 hcards
  obtain ⟨yn, rfl⟩ : ∃ n : Nat, yg = n := ⟨yg.toNat, by omega⟩
  obtain ⟨tn, rfl⟩ : ∃ n : Nat, tp = n := ⟨tp.toNat, by omega⟩
  obtain ⟨on, rfl⟩ : ∃ n : Nat, od = n := ⟨od.toNat, by omega⟩
  have m1 : tn ≤ yn := by omega
  have m2 : yn ≤ on := by omega
  have m3 : on ≤ wl := by omega
  have m4 : wl ≤ 200 := by omega
  have m5 : wl ≤ yn + dl * 4 := by omega
  have m6 : dl ≤ 31 := by omega
  have m7 : yn + 14 ≤ wl := by omega
  clear z1 z2 z3 z4 hcards k0 k1 hyg
  obtain ⟨wb, wo, rfl, _, _⟩ := HW.out.one 0 (by omega)
  have nq : ¬ wc = yn := by omega
  have hw22 : w.heap.size ≤ w2.heap.size := (B.out w2 (bR)).size
  have hyw : yn ≤ wc := by omega
  have hyl : yn ≤ wl := by omega
  obtain ⟨ou, hou⟩ : ∃ q, on - yn = q := ⟨_, rfl⟩
  have hsub : IntKind.i64.wrap ((on : Int) - (yn : Int)) = (ou : Int) := by rw [IntKind.wrap_i64] <;> omega
  have HOU : Hid (on - yn = ou) := hou
  have ou1 : ou ≤ wl - yn := by omega
  clear hou
  obtain ⟨kM0, kM1, kM2, kM3, kM4⟩ := bk5 (XM.out w2 bR)
  obtain ⟨kR0, kR1, kR2, kR3, kR4, kR5, kR6, kR7, kR8, kR9, kR10, kR11, kR12⟩ := bk13 (XR.out w2 bR)
  go_wp2_with fail
  clear kM0 kM1 kM2 kM3 kM4 kR0 kR1 kR2 kR3 kR4 kR5 kR6 kR7 kR8 kR9 kR10 kR11 kR12
  have KS : Hid (∀ x, Below (w2.heap.size) w2 x → x.cell? ⟨w.heap.size, 0, none⟩ = some (.slice (some ⟨wb, wo, none⟩) wl wc) ∧ x.cell? ⟨w.heap.size, 1, none⟩ = some (.int .i64 (yn : Nat)) ∧ x.cell? ⟨w.heap.size, 2, none⟩ = some (.int .i64 (tn : Nat)) ∧ x.cell? ⟨w.heap.size, 3, none⟩ = some (.int .i64 (on : Nat)) ∧ x.cell? ⟨w.heap.size, 4, none⟩ = some (.slice da dl dc)) := fun x hx => bk5 (XM.out x hx)
  refine wp_region_held_drew (S := fun x => x.cell? ⟨w.heap.size, 0, none⟩ = some (.slice (some ⟨wb, wo, none⟩) wl wc) ∧ x.cell? ⟨w.heap.size, 1, none⟩ = some (.int .i64 (yn : Nat)) ∧ x.cell? ⟨w.heap.size, 2, none⟩ = some (.int .i64 (tn : Nat)) ∧ x.cell? ⟨w.heap.size, 3, none⟩ = some (.int .i64 (on : Nat)) ∧ x.cell? ⟨w.heap.size, 4, none⟩ = some (.slice da dl dc)) (by kernel_rfl) ?_ (fun hHeld => ?_)
  · exact KS.out _ (bdrew bR)
  refine tV 0 (v := ?_) rfl (by kernel_rfl) (fun _ _ _ h => h) ?_ (by assumption) ?_
  rotate_left 1
  · (intro x hSx; (try dsimp only at hSx); go_simp; try with_reducible rfl)
  try simp only [Act.put, zgT, zg0, zsT, zs0, zsS]
  refine tV 1 (v := ?_) rfl (by kernel_rfl) (fun _ _ _ h => h) ?_ (by assumption) ?_
  rotate_left 1
  · (intro x hSx; (try dsimp only at hSx); go_simp; try with_reducible rfl)
  try simp only [Act.put, zgT, zg0, zgS, zsT, zs0, zsS]
  refine tV 2 (v := ?_) rfl (by kernel_rfl) (fun _ _ _ h => h) ?_ (by assumption) ?_
  rotate_left 1
  · (intro x hSx; (try dsimp only at hSx); go_simp; try with_reducible rfl)
  try simp only [Act.put, zgT, zg0, zgS, zsT, zs0, zsS]
  refine tV 3 (v := ?_) rfl (by kernel_rfl) (fun _ _ _ h => h) ?_ (by assumption) ?_
  rotate_left 1
  · (intro x hSx; (try dsimp only at hSx); go_simp; try with_reducible rfl)
  try simp only [Act.put, zgT, zg0, zgS, zsT, zs0, zsS]
  refine wpAnyH_take (i := 4) (v := .slice (some ⟨wb, wo, none⟩) yn wc) rfl (by kernel_rfl) (by kernel_rfl) (by kernel_rfl) (fun _ _ _ h => h) (Or.inl ⟨by kernel_rfl, by (intro x hSx; (try dsimp only at hSx); go_simp)⟩) (by assumption) ?_
  try simp only [Act.put, List.getElem_toArray, List.getElem_cons_zero, List.getElem_cons_succ, List.setIfInBounds_toArray, List.set_cons_zero, List.set_cons_succ]
  refine tV 5 (v := ?_) rfl (by kernel_rfl) (fun _ _ _ h => h) ?_ (by assumption) ?_
  rotate_left 1
  · (intro x hSx; (try dsimp only at hSx); go_simp; try with_reducible rfl)
  try simp only [Act.put, zgT, zg0, zgS, zsT, zs0, zsS]
  refine tV 6 (v := ?_) rfl (by kernel_rfl) (fun _ _ _ h => h) ?_ (by assumption) ?_
  rotate_left 1
  · (intro x hSx; (try dsimp only at hSx); go_simp; try with_reducible rfl)
  try simp only [Act.put, zgT, zg0, zgS, zsT, zs0, zsS]
  refine tV 7 (v := ?_) rfl (by kernel_rfl) (fun _ _ _ h => h) ?_ (by assumption) ?_
  rotate_left 1
  · (intro x hSx; (try dsimp only at hSx); go_simp; try with_reducible rfl)
  try simp only [Act.put, zgT, zg0, zgS, zsT, zs0, zsS]
  refine wpAnyH_ready (rs := [8]) (by kernel_rfl) (by simp) ?_
  refine AllReadyH.cons rfl (fun K hK => ?_) AllReadyH.nil
  go_simp
  refine hK.out _ _ (KS.out _ ((bdrew (bR)).alloc (by first | exact hz | (simp; done) | (simp; omega) | (have := hz; simp at this ⊢; omega)) _)) (fun hHeld2 => ?_)
  clear hK K
  try simp only [Act.put, zgT, zg0, zgS, zsT, zs0, zsS]
  refine wpAnyH_ready (rs := [9]) (by kernel_rfl) (by simp) ?_
  refine AllReadyH.cons rfl (fun K hK => ?_) AllReadyH.nil
  go_simp
  refine hK.out _ _ (KS.out _ (bdrew ((bR).alloc (by first | exact hz | (simp; done) | (simp; omega) | (have := hz; simp at this ⊢; omega)) _))) (fun hHeld3 => ?_)
  clear hK K
  try simp only [Act.put, zgT, zg0, zgS, zsT, zs0, zsS]
  refine wpAnyH_done (by kernel_rfl) ?_ _
  clear hHeld hHeld2 hHeld3
  clear KS
  have BP : Hid (Below (w2.heap.size) w2 (w2.alloc (.cells #[.slice (some ⟨wb, wo, none⟩) yn wc, .int .i64 0, .int .i64 (tn : Nat)] 62))) := (bR.alloc (by first | exact hz | (simp; done) | (simp; omega) | (have := hz; simp at this ⊢; omega)) _)
  replace B := lA B BP
  replace XM := lA XM BP
  replace lM := lL lM
  replace XR := lA XR BP
  replace lR := lL lR
  have XY : Hid (∀ y, Below (w2.heap.size + 1) (w2.alloc (.cells #[.slice (some ⟨wb, wo, none⟩) yn wc, .int .i64 0, .int .i64 (tn : Nat)] 62)) y → y.heap[w2.heap.size]? = some (.cells #[.slice (some ⟨wb, wo, none⟩) yn wc, .int .i64 0, .int .i64 (tn : Nat)] 62 (0, 0))) := fun y hy => (hy.block _ (by omega)).trans (boxN _ _ _ _ (by simp))
  have lY : w2.heap.size < w2.heap.size + 1 := by omega
  replace hz : w2.heap.size + 1 ≤ ((w2.alloc (.cells #[.slice (some ⟨wb, wo, none⟩) yn wc, .int .i64 0, .int .i64 (tn : Nat)] 62))).heap.size := by simp
  clear BP
  replace B := lD B
  replace XM := lD XM
  replace XR := lD XR
  replace XY := lD XY
  replace hz : w2.heap.size + 1 ≤ ((w2.alloc (.cells #[.slice (some ⟨wb, wo, none⟩) yn wc, .int .i64 0, .int .i64 (tn : Nat)] 62)).drew).heap.size := Nat.le_trans hz (Below.size (bdrew (Below.refl (w2.heap.size + 1) (w2.alloc (.cells #[.slice (some ⟨wb, wo, none⟩) yn wc, .int .i64 0, .int .i64 (tn : Nat)] 62)))))
  go_wp2_with fail
  have KS : Hid (∀ x, Below (w2.heap.size + 1) ((w2.alloc (.cells #[.slice (some ⟨wb, wo, none⟩) yn wc, .int .i64 0, .int .i64 (tn : Nat)] 62)).drew) x → x.cell? ⟨w.heap.size, 0, none⟩ = some (.slice (some ⟨wb, wo, none⟩) wl wc) ∧ x.cell? ⟨w.heap.size, 1, none⟩ = some (.int .i64 (yn : Nat)) ∧ x.cell? ⟨w.heap.size, 2, none⟩ = some (.int .i64 (tn : Nat)) ∧ x.cell? ⟨w.heap.size, 3, none⟩ = some (.int .i64 (on : Nat)) ∧ x.cell? ⟨w.heap.size, 4, none⟩ = some (.slice da dl dc)) := fun x hx => bk5 (XM.out x hx)
  refine wp_region_held_drew (S := fun x => x.cell? ⟨w.heap.size, 0, none⟩ = some (.slice (some ⟨wb, wo, none⟩) wl wc) ∧ x.cell? ⟨w.heap.size, 1, none⟩ = some (.int .i64 (yn : Nat)) ∧ x.cell? ⟨w.heap.size, 2, none⟩ = some (.int .i64 (tn : Nat)) ∧ x.cell? ⟨w.heap.size, 3, none⟩ = some (.int .i64 (on : Nat)) ∧ x.cell? ⟨w.heap.size, 4, none⟩ = some (.slice da dl dc)) (by kernel_rfl) ?_ (fun hHeld => ?_)
  · exact KS.out _ (bdrew bR)
  refine tV 0 (v := ?_) rfl (by kernel_rfl) (fun _ _ _ h => h) ?_ (by assumption) ?_
  rotate_left 1
  · (intro x hSx; (try dsimp only at hSx); go_simp; try with_reducible rfl)
  try simp only [Act.put, zgT, zg0, zsT, zs0, zsS]
  refine tV 1 (v := ?_) rfl (by kernel_rfl) (fun _ _ _ h => h) ?_ (by assumption) ?_
  rotate_left 1
  · (intro x hSx; (try dsimp only at hSx); go_simp; try with_reducible rfl)
  try simp only [Act.put, zgT, zg0, zgS, zsT, zs0, zsS]
  refine tV 2 (v := ?_) rfl (by kernel_rfl) (fun _ _ _ h => h) ?_ (by assumption) ?_
  rotate_left 1
  · (intro x hSx; (try dsimp only at hSx); go_simp; try with_reducible rfl)
  try simp only [Act.put, zgT, zg0, zgS, zsT, zs0, zsS]
  refine tV 3 (v := ?_) rfl (by kernel_rfl) (fun _ _ _ h => h) ?_ (by assumption) ?_
  rotate_left 1
  · (intro x hSx; (try dsimp only at hSx); go_simp; try with_reducible rfl)
  try simp only [Act.put, zgT, zg0, zgS, zsT, zs0, zsS]
  refine wpAnyH_take (i := 4) (v := .slice (some ⟨wb, wo + yn, none⟩) (wl - yn) (wc - yn)) rfl (by kernel_rfl) (by kernel_rfl) (by kernel_rfl) (fun _ _ _ h => h) (Or.inl ⟨by kernel_rfl, by (intro x hSx; (try dsimp only at hSx); go_simp)⟩) (by assumption) ?_
  try simp only [Act.put, List.getElem_toArray, List.getElem_cons_zero, List.getElem_cons_succ, List.setIfInBounds_toArray, List.set_cons_zero, List.set_cons_succ]
  refine tV 5 (v := ?_) rfl (by kernel_rfl) (fun _ _ _ h => h) ?_ (by assumption) ?_
  rotate_left 1
  · (intro x hSx; (try dsimp only at hSx); go_simp; try with_reducible rfl)
  try simp only [Act.put, zgT, zg0, zgS, zsT, zs0, zsS]
  refine tV 6 (v := ?_) rfl (by kernel_rfl) (fun _ _ _ h => h) ?_ (by assumption) ?_
  rotate_left 1
  · (intro x hSx; (try dsimp only at hSx); go_simp; try with_reducible rfl)
  try simp only [Act.put, zgT, zg0, zgS, zsT, zs0, zsS]
  refine tV 7 (v := ?_) rfl (by kernel_rfl) (fun _ _ _ h => h) ?_ (by assumption) ?_
  rotate_left 1
  · (intro x hSx; (try dsimp only at hSx); go_simp; try with_reducible rfl)
  try simp only [Act.put, zgT, zg0, zgS, zsT, zs0, zsS]
  refine tV 8 (v := ?_) rfl (by kernel_rfl) (fun _ _ _ h => h) ?_ (by assumption) ?_
  rotate_left 1
  · (intro x hSx; (try dsimp only at hSx); go_simp; try with_reducible rfl)
  try simp only [Act.put, zgT, zg0, zgS, zsT, zs0, zsS]
  refine tV 9 (v := ?_) rfl (by kernel_rfl) (fun _ _ _ h => h) ?_ (by assumption) ?_
  rotate_left 1
  · (intro x hSx; (try dsimp only at hSx); go_simp; try with_reducible rfl)
  try simp only [Act.put, zgT, zg0, zgS, zsT, zs0, zsS]
  refine tV 10 (v := ?_) rfl (by kernel_rfl) (fun _ _ _ h => h) ?_ (by assumption) ?_
  rotate_left 1
  · (intro x hSx; (try dsimp only at hSx); go_simp; try with_reducible rfl)
  try simp only [Act.put, zgT, zg0, zgS, zsT, zs0, zsS]
  refine wpAnyH_take (i := 11) (v := .int .i64 (ou : Nat)) rfl (by kernel_rfl) (by kernel_rfl) (by kernel_rfl) (fun _ _ _ h => h) (Or.inl ⟨by kernel_rfl, by (intro x hSx; (try dsimp only at hSx); go_simp)⟩) (by assumption) ?_
  try simp only [Act.put, List.getElem_toArray, List.getElem_cons_zero, List.getElem_cons_succ, List.setIfInBounds_toArray, List.set_cons_zero, List.set_cons_succ]
  refine tV 12 (v := ?_) rfl (by kernel_rfl) (fun _ _ _ h => h) ?_ (by assumption) ?_
  rotate_left 1
  · (intro x hSx; (try dsimp only at hSx); go_simp; try with_reducible rfl)
  try simp only [Act.put, zgT, zg0, zgS, zsT, zs0, zsS]
  refine wpAnyH_ready (rs := [13]) (by kernel_rfl) (by simp) ?_
  refine AllReadyH.cons rfl (fun K hK => ?_) AllReadyH.nil
  go_simp
  refine hK.out _ _ (KS.out _ ((bdrew (bR)).alloc (by first | exact hz | (simp; done) | (simp; omega) | (have := hz; simp at this ⊢; omega)) _)) (fun hHeld2 => ?_)
  clear hK K
  try simp only [Act.put, zgT, zg0, zgS, zsT, zs0, zsS]
  refine wpAnyH_ready (rs := [14]) (by kernel_rfl) (by simp) ?_
  refine AllReadyH.cons rfl (fun K hK => ?_) AllReadyH.nil
  go_simp
  refine hK.out _ _ (KS.out _ (bdrew ((bR).alloc (by first | exact hz | (simp; done) | (simp; omega) | (have := hz; simp at this ⊢; omega)) _))) (fun hHeld3 => ?_)
  clear hK K
  try simp only [Act.put, zgT, zg0, zgS, zsT, zs0, zsS]
  refine wpAnyH_done (by kernel_rfl) ?_ _
  clear hHeld hHeld2 hHeld3
  clear KS
  have BP : Hid (Below (w2.heap.size + 1) ((w2.alloc (.cells #[.slice (some ⟨wb, wo, none⟩) yn wc, .int .i64 0, .int .i64 (tn : Nat)] 62)).drew) (((w2.alloc (.cells #[.slice (some ⟨wb, wo, none⟩) yn wc, .int .i64 0, .int .i64 (tn : Nat)] 62)).drew).alloc (.cells #[.slice (some ⟨wb, wo + yn, none⟩) (wl - yn) (wc - yn), .int .i64 (yn : Nat), .int .i64 (ou : Nat)] 62))) := (bR.alloc (by first | exact hz | (simp; done) | (simp; omega) | (have := hz; simp at this ⊢; omega)) _)
  replace B := lA B BP
  replace XM := lA XM BP
  replace lM := lL lM
  replace XR := lA XR BP
  replace lR := lL lR
  replace XY := lA XY BP
  replace lY := lL lY
  have XO : Hid (∀ y, Below (w2.heap.size + 1 + 1) (((w2.alloc (.cells #[.slice (some ⟨wb, wo, none⟩) yn wc, .int .i64 0, .int .i64 (tn : Nat)] 62)).drew).alloc (.cells #[.slice (some ⟨wb, wo + yn, none⟩) (wl - yn) (wc - yn), .int .i64 (yn : Nat), .int .i64 (ou : Nat)] 62)) y → y.heap[w2.heap.size + 1]? = some (.cells #[.slice (some ⟨wb, wo + yn, none⟩) (wl - yn) (wc - yn), .int .i64 (yn : Nat), .int .i64 (ou : Nat)] 62 (0, 0))) := fun y hy => (hy.block _ (by omega)).trans (boxN _ _ _ _ (by simp))
  have lO : w2.heap.size + 1 < w2.heap.size + 1 + 1 := by omega
  replace hz : w2.heap.size + 1 + 1 ≤ ((((w2.alloc (.cells #[.slice (some ⟨wb, wo, none⟩) yn wc, .int .i64 0, .int .i64 (tn : Nat)] 62)).drew).alloc (.cells #[.slice (some ⟨wb, wo + yn, none⟩) (wl - yn) (wc - yn), .int .i64 (yn : Nat), .int .i64 (ou : Nat)] 62))).heap.size := by simp
  clear BP
  replace B := lD B
  replace XM := lD XM
  replace XR := lD XR
  replace XY := lD XY
  replace XO := lD XO
  replace hz : w2.heap.size + 1 + 1 ≤ ((((w2.alloc (.cells #[.slice (some ⟨wb, wo, none⟩) yn wc, .int .i64 0, .int .i64 (tn : Nat)] 62)).drew).alloc (.cells #[.slice (some ⟨wb, wo + yn, none⟩) (wl - yn) (wc - yn), .int .i64 (yn : Nat), .int .i64 (ou : Nat)] 62)).drew).heap.size := Nat.le_trans hz (Below.size (bdrew (Below.refl (w2.heap.size + 1 + 1) (((w2.alloc (.cells #[.slice (some ⟨wb, wo, none⟩) yn wc, .int .i64 0, .int .i64 (tn : Nat)] 62)).drew).alloc (.cells #[.slice (some ⟨wb, wo + yn, none⟩) (wl - yn) (wc - yn), .int .i64 (yn : Nat), .int .i64 (ou : Nat)] 62)))))
  obtain ⟨kM0, kM1, kM2, kM3, kM4⟩ := bk5 (XM.out ((((w2.alloc (.cells #[.slice (some ⟨wb, wo, none⟩) yn wc, .int .i64 0, .int .i64 (tn : Nat)] 62)).drew).alloc (.cells #[.slice (some ⟨wb, wo + yn, none⟩) (wl - yn) (wc - yn), .int .i64 (yn : Nat), .int .i64 (ou : Nat)] 62)).drew) bR)
  obtain ⟨kR0, kR1, kR2, kR3, kR4, kR5, kR6, kR7, kR8, kR9, kR10, kR11, kR12⟩ := bk13 (XR.out ((((w2.alloc (.cells #[.slice (some ⟨wb, wo, none⟩) yn wc, .int .i64 0, .int .i64 (tn : Nat)] 62)).drew).alloc (.cells #[.slice (some ⟨wb, wo + yn, none⟩) (wl - yn) (wc - yn), .int .i64 (yn : Nat), .int .i64 (ou : Nat)] 62)).drew) bR)
  obtain ⟨kY0, kY1, kY2⟩ := bk3 (XY.out ((((w2.alloc (.cells #[.slice (some ⟨wb, wo, none⟩) yn wc, .int .i64 0, .int .i64 (tn : Nat)] 62)).drew).alloc (.cells #[.slice (some ⟨wb, wo + yn, none⟩) (wl - yn) (wc - yn), .int .i64 (yn : Nat), .int .i64 (ou : Nat)] 62)).drew) bR)
  obtain ⟨kO0, kO1, kO2⟩ := bk3 (XO.out ((((w2.alloc (.cells #[.slice (some ⟨wb, wo, none⟩) yn wc, .int .i64 0, .int .i64 (tn : Nat)] 62)).drew).alloc (.cells #[.slice (some ⟨wb, wo + yn, none⟩) (wl - yn) (wc - yn), .int .i64 (yn : Nat), .int .i64 (ou : Nat)] 62)).drew) bR)
  go_wp2_with fail
  clear kM0 kM1 kM2 kM3 kM4 kR0 kR1 kR2 kR3 kR4 kR5 kR6 kR7 kR8 kR9 kR10 kR11 kR12 kY0 kY1 kY2 kO0 kO1 kO2
  have BP : Hid (Below (w2.heap.size + 1 + 1) ((((w2.alloc (.cells #[.slice (some ⟨wb, wo, none⟩) yn wc, .int .i64 0, .int .i64 (tn : Nat)] 62)).drew).alloc (.cells #[.slice (some ⟨wb, wo + yn, none⟩) (wl - yn) (wc - yn), .int .i64 (yn : Nat), .int .i64 (ou : Nat)] 62)).drew) ((((w2.alloc (.cells #[.slice (some ⟨wb, wo, none⟩) yn wc, .int .i64 0, .int .i64 (tn : Nat)] 62)).drew).alloc (.cells #[.slice (some ⟨wb, wo + yn, none⟩) (wl - yn) (wc - yn), .int .i64 (yn : Nat), .int .i64 (ou : Nat)] 62)).drew)) := bR
  refine (partImpl ca cn cc wb wo yn wc 0 tn (ws.take yn) L _ (H.out.later (B.out _ BP.out)) OK.out (IntsAt.sub (HW.out.later (B.out _ BP.out)) 0 yn (Nat.zero_le _) (by omega)) m1 (by omega) (by omega) (by omega)).mono ?_
  rintro e w3 hP
  rw [yPs_of (on := on) (cd := cd) m1] at hP
  obtain ⟨fa, fc, rfl, frow, flen, hb⟩ := Prt.row hP
  have R1h : ThRow (fun b => w2.heap.size + 1 + 1 ≤ b ∧ b < w3.heap.size) w3 (.slice fa ((yPs L (ws, (yn : Int), (tn : Int), (on : Int), cd)).getD []).length fc) ((yPs L (ws, (yn : Int), (tn : Int), (on : Int), cd)).getD []) := ThRow.mono frow (fun b hb hl => ⟨by simpa using hb, hl⟩)
  have hq : Below (w2.heap.size + 1 + 1) ((((w2.alloc (.cells #[.slice (some ⟨wb, wo, none⟩) yn wc, .int .i64 0, .int .i64 (tn : Nat)] 62)).drew).alloc (.cells #[.slice (some ⟨wb, wo + yn, none⟩) (wl - yn) (wc - yn), .int .i64 (yn : Nat), .int .i64 (ou : Nat)] 62)).drew) w3 := BP.out.trans (Below.mono hb (Nat.le_trans hz BP.out.size))
  have hzn : w2.heap.size + 1 + 1 ≤ w3.heap.size := Nat.le_trans hz hq.size
  replace B := lF B hq hzn
  replace XM := lF XM hq hzn
  replace lM := Nat.lt_of_lt_of_le lM hzn
  replace XR := lF XR hq hzn
  replace lR := Nat.lt_of_lt_of_le lR hzn
  replace XY := lF XY hq hzn
  replace lY := Nat.lt_of_lt_of_le lY hzn
  replace XO := lF XO hq hzn
  replace lO := Nat.lt_of_lt_of_le lO hzn
  clear hq BP hz
  have hz : w3.heap.size ≤ w3.heap.size := Nat.le_refl _
  have hs30 : w2.heap.size + 1 + 1 ≤ w3.heap.size := by have := lO; omega
  clear hb hP frow
  obtain ⟨b1, hb1⟩ : ∃ q, (yPs L (ws, (yn : Int), (tn : Int), (on : Int), cd)).isSome = q := ⟨_, rfl⟩
  have B1 : Hid ((yPs L (ws, (yn : Int), (tn : Int), (on : Int), cd)).isSome = b1) := hb1
  obtain ⟨T1, hT1⟩ : ∃ q, (yPs L (ws, (yn : Int), (tn : Int), (on : Int), cd)).getD [] = q := ⟨_, rfl⟩
  have E1 : Hid ((yPs L (ws, (yn : Int), (tn : Int), (on : Int), cd)).getD [] = T1) := hT1
  rw [hb1, hT1]
  rw [hT1] at R1h flen
  clear hb1 hT1
  have R1 : Hid (∀ y, Below (w3.heap.size) w3 y → ThRow (fun b => w2.heap.size + 1 + 1 ≤ b ∧ b < w3.heap.size) y (.slice fa T1.length fc) T1) := fun y hy => R1h.later hy
  clear R1h
  obtain ⟨kM0, kM1, kM2, kM3, kM4⟩ := bk5 (XM.out w3 bR)
  obtain ⟨kR0, kR1, kR2, kR3, kR4, kR5, kR6, kR7, kR8, kR9, kR10, kR11, kR12⟩ := bk13 (XR.out w3 bR)
  obtain ⟨kY0, kY1, kY2⟩ := bk3 (XY.out w3 bR)
  obtain ⟨kO0, kO1, kO2⟩ := bk3 (XO.out w3 bR)
  go_wp2_with fail
  clear kM0 kM1 kM2 kM3 kM4 kR0 kR1 kR2 kR3 kR4 kR5 kR6 kR7 kR8 kR9 kR10 kR11 kR12 kY0 kY1 kY2 kO0 kO1 kO2
  have BP : Hid (Below (w3.heap.size) w3 w3) := bR
  refine (partImpl ca cn cc wb (wo + yn) (wl - yn) (wc - yn) yn ou ((ws.take wl).drop yn) L _ (H.out.later (B.out _ BP.out)) OK.out (IntsAt.sub (HW.out.later (B.out _ BP.out)) yn wl hyl (Nat.le_refl _)) ou1 (by omega) (by omega) (by omega)).mono ?_
  rintro e w4 hP
  rw [← HOU.out, oPs_of (tn := tn) (cd := cd) m2 m3] at hP
  obtain ⟨ga, gc, rfl, grow, glen, hb⟩ := Prt.row hP
  have R2h : ThRow (fun b => w3.heap.size ≤ b ∧ b < w4.heap.size) w4 (.slice ga ((oPs L (ws, (yn : Int), (tn : Int), (on : Int), cd)).getD []).length gc) ((oPs L (ws, (yn : Int), (tn : Int), (on : Int), cd)).getD []) := ThRow.mono grow (fun b hb hl => ⟨hb, hl⟩)
  have hq : Below (w3.heap.size) w3 w4 := BP.out.trans (Below.mono hb (Nat.le_trans hz BP.out.size))
  have hzn : w3.heap.size ≤ w4.heap.size := Nat.le_trans hz hq.size
  replace B := lF B hq hzn
  replace R1 := lF R1 hq hzn
  replace XM := lF XM hq hzn
  replace lM := Nat.lt_of_lt_of_le lM hzn
  replace XR := lF XR hq hzn
  replace lR := Nat.lt_of_lt_of_le lR hzn
  replace XY := lF XY hq hzn
  replace lY := Nat.lt_of_lt_of_le lY hzn
  replace XO := lF XO hq hzn
  replace lO := Nat.lt_of_lt_of_le lO hzn
  clear hq BP hz
  have hz : w4.heap.size ≤ w4.heap.size := Nat.le_refl _
  clear hb hP grow
  obtain ⟨b2, hb2⟩ : ∃ q, (oPs L (ws, (yn : Int), (tn : Int), (on : Int), cd)).isSome = q := ⟨_, rfl⟩
  have B2 : Hid ((oPs L (ws, (yn : Int), (tn : Int), (on : Int), cd)).isSome = b2) := hb2
  obtain ⟨T2, hT2⟩ : ∃ q, (oPs L (ws, (yn : Int), (tn : Int), (on : Int), cd)).getD [] = q := ⟨_, rfl⟩
  have E2 : Hid ((oPs L (ws, (yn : Int), (tn : Int), (on : Int), cd)).getD [] = T2) := hT2
  rw [hb2, hT2]
  rw [hT2] at R2h glen
  clear hb2 hT2
  have R2 : Hid (∀ y, Below (w4.heap.size) w4 y → ThRow (fun b => w3.heap.size ≤ b ∧ b < w4.heap.size) y (.slice ga T2.length gc) T2) := fun y hy => R2h.later hy
  clear R2h
  have TT : Hid (thT L (ws, (yn : Int), (tn : Int), (on : Int), cd) = T1 ++ T2) := by show _ = _; rw [← E1.out, ← E2.out]; rfl
  have T12 : T1.length + T2.length ≤ 1000 := by
    have h9 := thT_len HB0.out
    rw [TT.out, List.length_append] at h9
    simp only [WS.out] at h9
    omega
  have hs4 : w2.heap.size + 1 < w4.heap.size := lO
  obtain ⟨kM0, kM1, kM2, kM3, kM4⟩ := bk5 (XM.out w4 bR)
  obtain ⟨kR0, kR1, kR2, kR3, kR4, kR5, kR6, kR7, kR8, kR9, kR10, kR11, kR12⟩ := bk13 (XR.out w4 bR)
  obtain ⟨kY0, kY1, kY2⟩ := bk3 (XY.out w4 bR)
  obtain ⟨kO0, kO1, kO2⟩ := bk3 (XO.out w4 bR)
  go_wp2_with fail
  clear kM0 kM1 kM2 kM3 kM4 kR0 kR1 kR2 kR3 kR4 kR5 kR6 kR7 kR8 kR9 kR10 kR11 kR12 kY0 kY1 kY2 kO0 kO1 kO2
  have hs3 : w2.heap.size + 1 + 1 ≤ w3.heap.size := hs30
  have hw24 : w.heap.size ≤ w2.heap.size := hw22
  have KS : Hid (∀ x, Below (w4.heap.size) w4 x → x.cell? ⟨w.heap.size, 0, none⟩ = some (.slice (some ⟨wb, wo, none⟩) wl wc) ∧ x.cell? ⟨w.heap.size, 1, none⟩ = some (.int .i64 (yn : Nat)) ∧ x.cell? ⟨w.heap.size, 2, none⟩ = some (.int .i64 (tn : Nat)) ∧ x.cell? ⟨w.heap.size, 3, none⟩ = some (.int .i64 (on : Nat)) ∧ x.cell? ⟨w.heap.size, 4, none⟩ = some (.slice da dl dc) ∧ x.cell? ⟨w2.heap.size, 0, none⟩ = some (.slice (some ⟨wb, wo, none⟩) yn wc) ∧ x.cell? ⟨w2.heap.size, 1, none⟩ = some (.int .i64 0) ∧ x.cell? ⟨w2.heap.size, 2, none⟩ = some (.int .i64 (tn : Nat)) ∧ x.cell? ⟨w2.heap.size + 1, 0, none⟩ = some (.slice (some ⟨wb, wo + yn, none⟩) (wl - yn) (wc - yn)) ∧ x.cell? ⟨w2.heap.size + 1, 1, none⟩ = some (.int .i64 (yn : Nat)) ∧ x.cell? ⟨w2.heap.size + 1, 2, none⟩ = some (.int .i64 (ou : Nat))) := fun x hx => ⟨(boxG (XM.out x hx) 0).1, (boxG (XM.out x hx) 1).1, (boxG (XM.out x hx) 2).1, (boxG (XM.out x hx) 3).1, (boxG (XM.out x hx) 4).1, (boxG (XY.out x hx) 0).1, (boxG (XY.out x hx) 1).1, (boxG (XY.out x hx) 2).1, (boxG (XO.out x hx) 0).1, (boxG (XO.out x hx) 1).1, (boxG (XO.out x hx) 2).1⟩
  refine wp_region_held_drew (S := fun x => x.cell? ⟨w.heap.size, 0, none⟩ = some (.slice (some ⟨wb, wo, none⟩) wl wc) ∧ x.cell? ⟨w.heap.size, 1, none⟩ = some (.int .i64 (yn : Nat)) ∧ x.cell? ⟨w.heap.size, 2, none⟩ = some (.int .i64 (tn : Nat)) ∧ x.cell? ⟨w.heap.size, 3, none⟩ = some (.int .i64 (on : Nat)) ∧ x.cell? ⟨w.heap.size, 4, none⟩ = some (.slice da dl dc) ∧ x.cell? ⟨w2.heap.size, 0, none⟩ = some (.slice (some ⟨wb, wo, none⟩) yn wc) ∧ x.cell? ⟨w2.heap.size, 1, none⟩ = some (.int .i64 0) ∧ x.cell? ⟨w2.heap.size, 2, none⟩ = some (.int .i64 (tn : Nat)) ∧ x.cell? ⟨w2.heap.size + 1, 0, none⟩ = some (.slice (some ⟨wb, wo + yn, none⟩) (wl - yn) (wc - yn)) ∧ x.cell? ⟨w2.heap.size + 1, 1, none⟩ = some (.int .i64 (yn : Nat)) ∧ x.cell? ⟨w2.heap.size + 1, 2, none⟩ = some (.int .i64 (ou : Nat))) (by kernel_rfl) ?_ (fun hHeld => ?_)
  · exact KS.out _ (bdrew bR)
  refine tV 0 (v := ?_) rfl (by kernel_rfl) (fun _ _ _ h => h) ?_ (by assumption) ?_
  rotate_left 1
  · (intro x hSx; (try dsimp only at hSx); go_simp; try with_reducible rfl)
  try simp only [Act.put, zgT, zg0, zsT, zs0, zsS]
  refine tV 1 (v := ?_) rfl (by kernel_rfl) (fun _ _ _ h => h) ?_ (by assumption) ?_
  rotate_left 1
  · (intro x hSx; (try dsimp only at hSx); go_simp; try with_reducible rfl)
  try simp only [Act.put, zgT, zg0, zgS, zsT, zs0, zsS]
  refine tV 2 (v := ?_) rfl (by kernel_rfl) (fun _ _ _ h => h) ?_ (by assumption) ?_
  rotate_left 1
  · (intro x hSx; (try dsimp only at hSx); go_simp; try with_reducible rfl)
  try simp only [Act.put, zgT, zg0, zgS, zsT, zs0, zsS]
  refine tV 3 (v := ?_) rfl (by kernel_rfl) (fun _ _ _ h => h) ?_ (by assumption) ?_
  rotate_left 1
  · (intro x hSx; (try dsimp only at hSx); go_simp; try with_reducible rfl)
  try simp only [Act.put, zgT, zg0, zgS, zsT, zs0, zsS]
  refine tV 4 (v := ?_) rfl (by kernel_rfl) (fun _ _ _ h => h) ?_ (by assumption) ?_
  rotate_left 1
  · (intro x hSx; (try dsimp only at hSx); go_simp; try with_reducible rfl)
  try simp only [Act.put, zgT, zg0, zgS, zsT, zs0, zsS]
  refine tV 5 (v := ?_) rfl (by kernel_rfl) (fun _ _ _ h => h) ?_ (by assumption) ?_
  rotate_left 1
  · (intro x hSx; (try dsimp only at hSx); go_simp; try with_reducible rfl)
  try simp only [Act.put, zgT, zg0, zgS, zsT, zs0, zsS]
  refine wpAnyH_ready (rs := [6, 8]) (by kernel_rfl) (by simp) ?_
  refine AllReadyH.cons rfl (fun K hK => ?_) (AllReadyH.cons rfl (fun K hK => ?_) AllReadyH.nil)
  · have hR1 := R1.out _ ((bdrew (bR)) : Below (w4.heap.size) w4 (w4.drew))
    have hR2 := R2.out _ ((bdrew (bR)) : Below (w4.heap.size) w4 (w4.drew))
    have hO1 : ∀ b, (Value.slice fa T1.length fc).ownBlock = some b → w2.heap.size + 1 + 1 ≤ b ∧ b < w3.heap.size := fun b hb => (hR1.lt b hb).1
    obtain ⟨va, vc, w5, hrun, hrow, hgrow⟩ := ThRow.cat (D := fun b => w2.heap.size + 1 + 1 ≤ b ∧ True) (ThRow.mono hR1 (fun b hb _ => ⟨hb.1, trivial⟩)) (ThRow.mono hR2 (fun b hb _ => ⟨⟨by omega, trivial⟩, fun e => by have := hO1 b e; omega⟩)) rfl ⟨by simp; omega, trivial⟩ (by omega) (by omega) 63
    have BP : Hid (Below (w4.heap.size) w4 w4.drew) := (bdrew bR)
    refine op_appP (by rfl) _ _ _ (by rfl) _ _ _ (by rfl) (by rfl) hrun ?_
    have hb : Below (w2.heap.size + 1 + 1) (w4.drew) w5 := (bR).grown hgrow (by simp; omega) (fun j e => (hO1 j e).1)
    have ROW5 : Hid (ThRow (fun b => w2.heap.size + 1 + 1 ≤ b ∧ True) w5 (.slice va (T1.length + T2.length) vc) (T1 ++ T2)) := hrow
    have hq : Below (w2.heap.size + 1 + 1) w4 w5 := (BP.out.mono (by omega)).trans (Below.mono hb (by omega))
    have hzn : w4.heap.size ≤ w5.heap.size := Nat.le_trans hz hq.size
    replace B : Hid (∀ y, Below w5.heap.size w5 y → Below w.heap.size w y) := fun y hy => ((B.out w4 bR).trans (hq.mono (by omega))).trans (hy.mono (Nat.le_trans (B.out w4 bR).size hq.size))
    clear R1
    clear R2
    clear KS
    replace XM : Hid (∀ y, Below w5.heap.size w5 y → y.heap[w.heap.size]? = some (.cells #[.slice (some ⟨wb, wo, none⟩) wl wc, .int .i64 (yn : Nat), .int .i64 (tn : Nat), .int .i64 (on : Nat), .slice da dl dc] 29 (0, 0))) := fun y hy => (hy.block _ (by omega)).trans ((hq.block _ (by omega)).trans (XM.out w4 bR))
    replace lM : w.heap.size < w5.heap.size := by omega
    replace XR : Hid (∀ y, Below w5.heap.size w5 y → y.heap[w.heap.size + 1]? = some (.cells #[.slice none 0 0, .slice none 0 0, .int .i64 0, .int .i64 0, .int .i64 0, .slice none 0 0, .slice none 0 0, .int .i64 0, .int .i64 0, .slice none 0 0, .int .i64 0, .int .i64 0, .slice none 0 0] 65 (0, 0))) := fun y hy => (hy.block _ (by omega)).trans ((hq.block _ (by omega)).trans (XR.out w4 bR))
    replace lR : w.heap.size + 1 < w5.heap.size := by omega
    replace XY : Hid (∀ y, Below w5.heap.size w5 y → y.heap[w2.heap.size]? = some (.cells #[.slice (some ⟨wb, wo, none⟩) yn wc, .int .i64 0, .int .i64 (tn : Nat)] 62 (0, 0))) := fun y hy => (hy.block _ (by omega)).trans ((hq.block _ (by omega)).trans (XY.out w4 bR))
    replace lY : w2.heap.size < w5.heap.size := by omega
    replace XO : Hid (∀ y, Below w5.heap.size w5 y → y.heap[w2.heap.size + 1]? = some (.cells #[.slice (some ⟨wb, wo + yn, none⟩) (wl - yn) (wc - yn), .int .i64 (yn : Nat), .int .i64 (ou : Nat)] 62 (0, 0))) := fun y hy => (hy.block _ (by omega)).trans ((hq.block _ (by omega)).trans (XO.out w4 bR))
    replace lO : w2.heap.size + 1 < w5.heap.size := by omega
    clear hq BP hz
    have hz : w5.heap.size ≤ w5.heap.size := Nat.le_refl _
    clear hb hrow hrun hgrow hR1 hR2 hO1
    have RW : Hid (∀ y, Below (w5.heap.size) w5 y → ThRow (fun b => w2.heap.size + 1 + 1 ≤ b ∧ True) y (.slice va (T1.length + T2.length) vc) (T1 ++ T2)) := fun y hy => ROW5.out.later hy
    clear ROW5
    have KS : Hid (∀ x, Below (w5.heap.size) w5 x → x.cell? ⟨w.heap.size, 0, none⟩ = some (.slice (some ⟨wb, wo, none⟩) wl wc) ∧ x.cell? ⟨w.heap.size, 1, none⟩ = some (.int .i64 (yn : Nat)) ∧ x.cell? ⟨w.heap.size, 2, none⟩ = some (.int .i64 (tn : Nat)) ∧ x.cell? ⟨w.heap.size, 3, none⟩ = some (.int .i64 (on : Nat)) ∧ x.cell? ⟨w.heap.size, 4, none⟩ = some (.slice da dl dc) ∧ x.cell? ⟨w2.heap.size, 0, none⟩ = some (.slice (some ⟨wb, wo, none⟩) yn wc) ∧ x.cell? ⟨w2.heap.size, 1, none⟩ = some (.int .i64 0) ∧ x.cell? ⟨w2.heap.size, 2, none⟩ = some (.int .i64 (tn : Nat)) ∧ x.cell? ⟨w2.heap.size + 1, 0, none⟩ = some (.slice (some ⟨wb, wo + yn, none⟩) (wl - yn) (wc - yn)) ∧ x.cell? ⟨w2.heap.size + 1, 1, none⟩ = some (.int .i64 (yn : Nat)) ∧ x.cell? ⟨w2.heap.size + 1, 2, none⟩ = some (.int .i64 (ou : Nat))) := fun x hx => ⟨(boxG (XM.out x hx) 0).1, (boxG (XM.out x hx) 1).1, (boxG (XM.out x hx) 2).1, (boxG (XM.out x hx) 3).1, (boxG (XM.out x hx) 4).1, (boxG (XY.out x hx) 0).1, (boxG (XY.out x hx) 1).1, (boxG (XY.out x hx) 2).1, (boxG (XO.out x hx) 0).1, (boxG (XO.out x hx) 1).1, (boxG (XO.out x hx) 2).1⟩
    refine hK.out _ _ (KS.out _ bR) (fun hHeld2 => ?_)
    clear hK K
    try simp only [Act.put, zgT, zg0, zgS, zsT, zs0, zsS]
    refine tV 7 (v := ?_) rfl (by kernel_rfl) (fun _ _ _ h => h) ?_ (by assumption) ?_
    rotate_left 1
    · (intro x hSx; (try dsimp only at hSx); go_simp; try with_reducible rfl)
    try simp only [Act.put, zgT, zg0, zgS, zsT, zs0, zsS]
    refine wpAnyH_ready (rs := [8]) (by kernel_rfl) (by simp) ?_
    refine AllReadyH.cons rfl (fun K hK => ?_) AllReadyH.nil
    go_simp
    refine hK.out _ _ (KS.out _ ((bR).alloc (by first | exact hz | (simp; done) | (simp; omega)) _)) (fun hHeld3 => ?_)
    clear hK K
    try simp only [Act.put, zgT, zg0, zgS, zsT, zs0, zsS]
    refine wpAnyH_ready (rs := [9]) (by kernel_rfl) (by simp) ?_
    refine AllReadyH.cons rfl (fun K hK => ?_) AllReadyH.nil
    go_simp
    refine hK.out _ _ (KS.out _ ((bR).alloc (by first | exact hz | (simp; done) | (simp; omega)) _)) (fun hHeld4 => ?_)
    clear hK K
    try simp only [Act.put, zgT, zg0, zgS, zsT, zs0, zsS]
    refine wpAnyH_done (by kernel_rfl) ?_ _
    clear hHeld hHeld2 hHeld3 hHeld4
    clear KS
    have BP : Hid (Below (w5.heap.size) w5 (w5.alloc (.cells #[.slice ca cn cc, .slice (some ⟨wb, wo, none⟩) wl wc, .int .i64 (yn : Nat), .int .i64 (tn : Nat), .int .i64 (on : Nat), .slice da dl dc, .slice (some ⟨wb, wo, none⟩) yn wc, .int .i64 0, .int .i64 (tn : Nat), .slice (some ⟨wb, wo + yn, none⟩) (wl - yn) (wc - yn), .int .i64 (yn : Nat), .int .i64 (ou : Nat), .slice va (T1.length + T2.length) vc] 65))) := (bR.alloc (by first | exact hz | (simp; done) | (simp; omega) | (have := hz; simp at this ⊢; omega)) _)
    replace B := lA B BP
    replace RW := lA RW BP
    replace XM := lA XM BP
    replace lM := lL lM
    replace XR := lA XR BP
    replace lR := lL lR
    replace XY := lA XY BP
    replace lY := lL lY
    replace XO := lA XO BP
    replace lO := lL lO
    have XA : Hid (∀ y, Below (w5.heap.size + 1) (w5.alloc (.cells #[.slice ca cn cc, .slice (some ⟨wb, wo, none⟩) wl wc, .int .i64 (yn : Nat), .int .i64 (tn : Nat), .int .i64 (on : Nat), .slice da dl dc, .slice (some ⟨wb, wo, none⟩) yn wc, .int .i64 0, .int .i64 (tn : Nat), .slice (some ⟨wb, wo + yn, none⟩) (wl - yn) (wc - yn), .int .i64 (yn : Nat), .int .i64 (ou : Nat), .slice va (T1.length + T2.length) vc] 65)) y → y.heap[w5.heap.size]? = some (.cells #[.slice ca cn cc, .slice (some ⟨wb, wo, none⟩) wl wc, .int .i64 (yn : Nat), .int .i64 (tn : Nat), .int .i64 (on : Nat), .slice da dl dc, .slice (some ⟨wb, wo, none⟩) yn wc, .int .i64 0, .int .i64 (tn : Nat), .slice (some ⟨wb, wo + yn, none⟩) (wl - yn) (wc - yn), .int .i64 (yn : Nat), .int .i64 (ou : Nat), .slice va (T1.length + T2.length) vc] 65 (0, 0))) := fun y hy => (hy.block _ (by omega)).trans (boxN _ _ _ _ (by simp))
    have lA : w5.heap.size < w5.heap.size + 1 := by omega
    replace hz : w5.heap.size + 1 ≤ ((w5.alloc (.cells #[.slice ca cn cc, .slice (some ⟨wb, wo, none⟩) wl wc, .int .i64 (yn : Nat), .int .i64 (tn : Nat), .int .i64 (on : Nat), .slice da dl dc, .slice (some ⟨wb, wo, none⟩) yn wc, .int .i64 0, .int .i64 (tn : Nat), .slice (some ⟨wb, wo + yn, none⟩) (wl - yn) (wc - yn), .int .i64 (yn : Nat), .int .i64 (ou : Nat), .slice va (T1.length + T2.length) vc] 65))).heap.size := by simp
    clear BP
    clear XM lM XY lY XO lO
    generalize (w5.alloc (.cells #[.slice ca cn cc, .slice (some ⟨wb, wo, none⟩) wl wc, .int .i64 (yn : Nat), .int .i64 (tn : Nat), .int .i64 (on : Nat), .slice da dl dc, .slice (some ⟨wb, wo, none⟩) yn wc, .int .i64 0, .int .i64 (tn : Nat), .slice (some ⟨wb, wo + yn, none⟩) (wl - yn) (wc - yn), .int .i64 (yn : Nat), .int .i64 (ou : Nat), .slice va (T1.length + T2.length) vc] 65)) = w5g at B RW XR XA hz ⊢
    have hzn : w5.heap.size + 1 ≤ w5g.heap.size := Nat.le_trans hz (Below.size (Below.refl (w5.heap.size + 1) w5g))
    replace B := lF B (Below.refl (w5.heap.size + 1) w5g) hzn
    replace RW := lF RW (Below.refl (w5.heap.size + 1) w5g) hzn
    replace XR := lF XR (Below.refl (w5.heap.size + 1) w5g) hzn
    replace lR := Nat.lt_of_lt_of_le lR hzn
    replace XA := lF XA (Below.refl (w5.heap.size + 1) w5g) hzn
    replace lA := Nat.lt_of_lt_of_le lA hzn
    clear hz
    have hz : w5g.heap.size ≤ w5g.heap.size := Nat.le_refl _
    obtain ⟨kR0, kR1, kR2, kR3, kR4, kR5, kR6, kR7, kR8, kR9, kR10, kR11, kR12⟩ := bk13 (XR.out w5g bR)
    obtain ⟨kA0, kA1, kA2, kA3, kA4, kA5, kA6, kA7, kA8, kA9, kA10, kA11, kA12⟩ := bk13 (XA.out w5g bR)
    go_wp2_with fail
    clear kR0 kR1 kR2 kR3 kR4 kR5 kR6 kR7 kR8 kR9 kR10 kR11 kR12 kA0 kA1 kA2 kA3 kA4 kA5 kA6 kA7 kA8 kA9 kA10 kA11 kA12
    have nR : ¬ (fun b => w2.heap.size + 1 + 1 ≤ b ∧ True) (w.heap.size + 1) := by
      intro h
      have h1 : w2.heap.size + 1 + 1 ≤ w.heap.size + 1 := h.1
      have := hw24
      omega
    cases b1
    · have KS : Hid (∀ x, Below (w5g.heap.size) w5g x → x.cell? ⟨w5.heap.size, 0, none⟩ = some (.slice ca cn cc) ∧ x.cell? ⟨w5.heap.size, 1, none⟩ = some (.slice (some ⟨wb, wo, none⟩) wl wc) ∧ x.cell? ⟨w5.heap.size, 2, none⟩ = some (.int .i64 (yn : Nat)) ∧ x.cell? ⟨w5.heap.size, 3, none⟩ = some (.int .i64 (tn : Nat)) ∧ x.cell? ⟨w5.heap.size, 4, none⟩ = some (.int .i64 (on : Nat)) ∧ x.cell? ⟨w5.heap.size, 5, none⟩ = some (.slice da dl dc) ∧ x.cell? ⟨w5.heap.size, 6, none⟩ = some (.slice (some ⟨wb, wo, none⟩) yn wc) ∧ x.cell? ⟨w5.heap.size, 7, none⟩ = some (.int .i64 0) ∧ x.cell? ⟨w5.heap.size, 8, none⟩ = some (.int .i64 (tn : Nat)) ∧ x.cell? ⟨w5.heap.size, 9, none⟩ = some (.slice (some ⟨wb, wo + yn, none⟩) (wl - yn) (wc - yn)) ∧ x.cell? ⟨w5.heap.size, 10, none⟩ = some (.int .i64 (yn : Nat)) ∧ x.cell? ⟨w5.heap.size, 11, none⟩ = some (.int .i64 (ou : Nat)) ∧ x.cell? ⟨w5.heap.size, 12, none⟩ = some (.slice va (T1.length + T2.length) vc)) := fun x hx => bk13 (XA.out x hx)
      refine wp_region_held_drew (S := fun x => x.cell? ⟨w5.heap.size, 0, none⟩ = some (.slice ca cn cc) ∧ x.cell? ⟨w5.heap.size, 1, none⟩ = some (.slice (some ⟨wb, wo, none⟩) wl wc) ∧ x.cell? ⟨w5.heap.size, 2, none⟩ = some (.int .i64 (yn : Nat)) ∧ x.cell? ⟨w5.heap.size, 3, none⟩ = some (.int .i64 (tn : Nat)) ∧ x.cell? ⟨w5.heap.size, 4, none⟩ = some (.int .i64 (on : Nat)) ∧ x.cell? ⟨w5.heap.size, 5, none⟩ = some (.slice da dl dc) ∧ x.cell? ⟨w5.heap.size, 6, none⟩ = some (.slice (some ⟨wb, wo, none⟩) yn wc) ∧ x.cell? ⟨w5.heap.size, 7, none⟩ = some (.int .i64 0) ∧ x.cell? ⟨w5.heap.size, 8, none⟩ = some (.int .i64 (tn : Nat)) ∧ x.cell? ⟨w5.heap.size, 9, none⟩ = some (.slice (some ⟨wb, wo + yn, none⟩) (wl - yn) (wc - yn)) ∧ x.cell? ⟨w5.heap.size, 10, none⟩ = some (.int .i64 (yn : Nat)) ∧ x.cell? ⟨w5.heap.size, 11, none⟩ = some (.int .i64 (ou : Nat)) ∧ x.cell? ⟨w5.heap.size, 12, none⟩ = some (.slice va (T1.length + T2.length) vc)) (by kernel_rfl) ?_ (fun hHeld => ?_)
      · exact KS.out _ (bdrew bR)
      refine tV 0 (v := ?_) rfl (by kernel_rfl) (fun _ _ _ h => h) ?_ (by assumption) ?_
      rotate_left 1
      · (intro x hSx; (try dsimp only at hSx); go_simp; try with_reducible rfl)
      try simp only [Act.put, zgT, zg0, zsT, zs0, zsS]
      refine tV 1 (v := ?_) rfl (by kernel_rfl) (fun _ _ _ h => h) ?_ (by assumption) ?_
      rotate_left 1
      · (intro x hSx; (try dsimp only at hSx); go_simp; try with_reducible rfl)
      try simp only [Act.put, zgT, zg0, zgS, zsT, zs0, zsS]
      refine tV 2 (v := ?_) rfl (by kernel_rfl) (fun _ _ _ h => h) ?_ (by assumption) ?_
      rotate_left 1
      · (intro x hSx; (try dsimp only at hSx); go_simp; try with_reducible rfl)
      try simp only [Act.put, zgT, zg0, zgS, zsT, zs0, zsS]
      refine tU 3 rfl (by kernel_rfl) (fun _ _ _ h => h) (by assumption) ?_
      try simp only [Act.put, zgT, zg0, zgS, zsT, zs0, zsS]
      refine tV 4 (v := ?_) rfl (by kernel_rfl) (fun _ _ _ h => h) ?_ (by assumption) ?_
      rotate_left 1
      · (intro x hSx; (try dsimp only at hSx); go_simp; try with_reducible rfl)
      try simp only [Act.put, zgT, zg0, zgS, zsT, zs0, zsS]
      refine tV 5 (v := ?_) rfl (by kernel_rfl) (fun _ _ _ h => h) ?_ (by assumption) ?_
      rotate_left 1
      · (intro x hSx; (try dsimp only at hSx); go_simp; try with_reducible rfl)
      try simp only [Act.put, zgT, zg0, zgS, zsT, zs0, zsS]
      refine tU 6 rfl (by kernel_rfl) (fun _ _ _ h => h) (by assumption) ?_
      refine tU 7 rfl (by kernel_rfl) (fun _ _ _ h => h) (by assumption) ?_
      refine tU 8 rfl (by kernel_rfl) (fun _ _ _ h => h) (by assumption) ?_
      refine tU 9 rfl (by kernel_rfl) (fun _ _ _ h => h) (by assumption) ?_
      refine tU 10 rfl (by kernel_rfl) (fun _ _ _ h => h) (by assumption) ?_
      refine tU 11 rfl (by kernel_rfl) (fun _ _ _ h => h) (by assumption) ?_
      try simp only [Act.put, zgT, zg0, zgS, zsT, zs0, zsS]
      refine tV 12 (v := ?_) rfl (by kernel_rfl) (fun _ _ _ h => h) ?_ (by assumption) ?_
      rotate_left 1
      · (intro x hSx; (try dsimp only at hSx); go_simp; try with_reducible rfl)
      try simp only [Act.put, zgT, zg0, zgS, zsT, zs0, zsS]
      refine wpAnyH_ready (rs := [13]) (by kernel_rfl) (by simp) ?_
      refine AllReadyH.cons rfl (fun K hK => ?_) AllReadyH.nil
      obtain ⟨kR0, kR1, kR2, kR3, kR4, kR5, kR6, kR7, kR8, kR9, kR10, kR11, kR12⟩ := bk13 (XR.out w5g bR)
      obtain ⟨qkR0, qkR1, qkR2, qkR3, qkR4, qkR5, qkR6, qkR7, qkR8, qkR9, qkR10, qkR11, qkR12⟩ := bq13 (XR.out w5g bR)
      go_simp
      clear kR0 kR1 kR2 kR3 kR4 kR5 kR6 kR7 kR8 kR9 kR10 kR11 kR12 qkR0 qkR1 qkR2 qkR3 qkR4 qkR5 qkR6 qkR7 qkR8 qkR9 qkR10 qkR11 qkR12
      generalize hW : (((((((((((((w5g.setCell ⟨w.heap.size + 1, 0, none⟩ (.slice ca cn cc)).setCell ⟨w.heap.size + 1, 1, none⟩ (.slice (some ⟨wb, wo, none⟩) wl wc)).setCell ⟨w.heap.size + 1, 2, none⟩ (.int .i64 (yn : Nat))).setCell ⟨w.heap.size + 1, 3, none⟩ (.int .i64 (tn : Nat))).setCell ⟨w.heap.size + 1, 4, none⟩ (.int .i64 (on : Nat))).setCell ⟨w.heap.size + 1, 5, none⟩ (.slice da dl dc)).setCell ⟨w.heap.size + 1, 6, none⟩ (.slice (some ⟨wb, wo, none⟩) yn wc)).setCell ⟨w.heap.size + 1, 7, none⟩ (.int .i64 0)).setCell ⟨w.heap.size + 1, 8, none⟩ (.int .i64 (tn : Nat))).setCell ⟨w.heap.size + 1, 9, none⟩ (.slice (some ⟨wb, wo + yn, none⟩) (wl - yn) (wc - yn))).setCell ⟨w.heap.size + 1, 10, none⟩ (.int .i64 (yn : Nat))).setCell ⟨w.heap.size + 1, 11, none⟩ (.int .i64 (ou : Nat))).setCell ⟨w.heap.size + 1, 12, none⟩ (.slice va (T1.length + T2.length) vc)) = wB1
      have hkB : ∀ a, a ≠ w.heap.size + 1 → wB1.heap[a]? = w5g.heap[a]? := by subst hW; exact fun a h => keep13 h
      have hw0 : w.heap.size ≤ w.heap.size + 1 := (by first | omega | (simp; done) | (simp; omega) | (simp at *; omega))
      replace XA := lS XA lA wB1 (hkB _ (by first | omega | (simp; done) | (simp; omega)))
      replace XR : Hid (∀ y, Below (w5g.heap.size) wB1 y → y.heap[w.heap.size + 1]? = some (.cells #[.slice ca cn cc, .slice (some ⟨wb, wo, none⟩) wl wc, .int .i64 (yn : Nat), .int .i64 (tn : Nat), .int .i64 (on : Nat), .slice da dl dc, .slice (some ⟨wb, wo, none⟩) yn wc, .int .i64 0, .int .i64 (tn : Nat), .slice (some ⟨wb, wo + yn, none⟩) (wl - yn) (wc - yn), .int .i64 (yn : Nat), .int .i64 (ou : Nat), .slice va (T1.length + T2.length) vc] 65 (0, 0))) := fun y hy => by subst hW; exact (hy.block _ (by omega)).trans (box13 (XR.out w5g bR) rfl _ _ _ _ _ _ _ _ _ _ _ _ _)
      replace RW : Hid (∀ y, Below (w5g.heap.size) wB1 y → ThRow (fun b => w2.heap.size + 1 + 1 ≤ b ∧ True) y (.slice va (T1.length + T2.length) vc) (T1 ++ T2)) := fun y hy => by subst hW; exact ((((((((((((((RW.out w5g (bR)).box _ _ nR).box _ _ nR).box _ _ nR).box _ _ nR).box _ _ nR).box _ _ nR).box _ _ nR).box _ _ nR).box _ _ nR).box _ _ nR).box _ _ nR).box _ _ nR).box _ _ nR).later (hy.mono (by simp))
      clear KS
      replace B : Hid (∀ y, Below (w5g.heap.size) wB1 y → Below w.heap.size w y) := fun y hy => by subst hW; exact ((((((((((((((B.out w5g bR).setCell hw0 _).setCell hw0 _).setCell hw0 _).setCell hw0 _).setCell hw0 _).setCell hw0 _).setCell hw0 _).setCell hw0 _).setCell hw0 _).setCell hw0 _).setCell hw0 _).setCell hw0 _).setCell hw0 _).trans (hy.mono (by first | omega | exact Nat.le_trans (B.out w5g bR).size hz | (have := (B.out w5g bR).size; omega)))
      replace hz : w5g.heap.size ≤ wB1.heap.size := by subst hW; first | (simp; done) | simpa using hz
      clear hw0 hW hkB
      replace B := lD B
      replace RW := lD RW
      replace XR := lD XR
      replace XA := lD XA
      replace hz : w5g.heap.size ≤ (wB1.drew).heap.size := Nat.le_trans hz (Below.size (bdrew (Below.refl (w5g.heap.size) wB1)))
      have KS : Hid (∀ x, Below (w5g.heap.size) (wB1.drew) x → x.cell? ⟨w5.heap.size, 0, none⟩ = some (.slice ca cn cc) ∧ x.cell? ⟨w5.heap.size, 1, none⟩ = some (.slice (some ⟨wb, wo, none⟩) wl wc) ∧ x.cell? ⟨w5.heap.size, 2, none⟩ = some (.int .i64 (yn : Nat)) ∧ x.cell? ⟨w5.heap.size, 3, none⟩ = some (.int .i64 (tn : Nat)) ∧ x.cell? ⟨w5.heap.size, 4, none⟩ = some (.int .i64 (on : Nat)) ∧ x.cell? ⟨w5.heap.size, 5, none⟩ = some (.slice da dl dc) ∧ x.cell? ⟨w5.heap.size, 6, none⟩ = some (.slice (some ⟨wb, wo, none⟩) yn wc) ∧ x.cell? ⟨w5.heap.size, 7, none⟩ = some (.int .i64 0) ∧ x.cell? ⟨w5.heap.size, 8, none⟩ = some (.int .i64 (tn : Nat)) ∧ x.cell? ⟨w5.heap.size, 9, none⟩ = some (.slice (some ⟨wb, wo + yn, none⟩) (wl - yn) (wc - yn)) ∧ x.cell? ⟨w5.heap.size, 10, none⟩ = some (.int .i64 (yn : Nat)) ∧ x.cell? ⟨w5.heap.size, 11, none⟩ = some (.int .i64 (ou : Nat)) ∧ x.cell? ⟨w5.heap.size, 12, none⟩ = some (.slice va (T1.length + T2.length) vc)) := fun x hx => bk13 (XA.out x hx)
      refine hK.out _ _ (KS.out _ bR) (fun hHeld2 => ?_)
      clear hK K
      try simp only [Act.put, zgT, zg0, zgS, zsT, zs0, zsS]
      refine tV 14 (v := ?_) rfl (by kernel_rfl) (fun _ _ _ h => h) ?_ (by assumption) ?_
      rotate_left 1
      · (intro x hSx; (try dsimp only at hSx); go_simp; try with_reducible rfl)
      try simp only [Act.put, zgT, zg0, zgS, zsT, zs0, zsS]
      refine wpAnyH_done (by kernel_rfl) ?_ _
      clear hHeld hHeld2
      clear KS
      have RF : Hid (ThRow (fun b => w.heap.size ≤ b) ((wB1.drew)) (.slice va (T1.length + T2.length) vc) (T1 ++ T2)) := ThRow.mono (RW.out _ (bR)) (fun b hb _ => by have h1 := hb.1; omega)
      have BF : Hid (Below w.heap.size w ((wB1.drew))) := B.out _ (bR)
      have XC : Hid (((wB1.drew)).heap[w.heap.size + 1]? = some (.cells #[.slice ca cn cc, .slice (some ⟨wb, wo, none⟩) wl wc, .int .i64 (yn : Nat), .int .i64 (tn : Nat), .int .i64 (on : Nat), .slice da dl dc, .slice (some ⟨wb, wo, none⟩) yn wc, .int .i64 0, .int .i64 (tn : Nat), .slice (some ⟨wb, wo + yn, none⟩) (wl - yn) (wc - yn), .int .i64 (yn : Nat), .int .i64 (ou : Nat), .slice va (T1.length + T2.length) vc] 65 (0, 0))) := XR.out _ (bR)
      clear B RW XR XA hz
      generalize (wB1.drew) = wF at RF BF XC ⊢
      have kR0 : wF.cell? ⟨w.heap.size + 1, 0, none⟩ = some (.slice ca cn cc) := (boxG XC.out 0).1
      have kR1 : wF.cell? ⟨w.heap.size + 1, 1, none⟩ = some (.slice (some ⟨wb, wo, none⟩) wl wc) := (boxG XC.out 1).1
      have kR2 : wF.cell? ⟨w.heap.size + 1, 2, none⟩ = some (.int .i64 (yn : Nat)) := (boxG XC.out 2).1
      have kR3 : wF.cell? ⟨w.heap.size + 1, 3, none⟩ = some (.int .i64 (tn : Nat)) := (boxG XC.out 3).1
      have kR4 : wF.cell? ⟨w.heap.size + 1, 4, none⟩ = some (.int .i64 (on : Nat)) := (boxG XC.out 4).1
      have kR5 : wF.cell? ⟨w.heap.size + 1, 5, none⟩ = some (.slice da dl dc) := (boxG XC.out 5).1
      have kR6 : wF.cell? ⟨w.heap.size + 1, 6, none⟩ = some (.slice (some ⟨wb, wo, none⟩) yn wc) := (boxG XC.out 6).1
      have kR7 : wF.cell? ⟨w.heap.size + 1, 7, none⟩ = some (.int .i64 0) := (boxG XC.out 7).1
      have kR8 : wF.cell? ⟨w.heap.size + 1, 8, none⟩ = some (.int .i64 (tn : Nat)) := (boxG XC.out 8).1
      have kR9 : wF.cell? ⟨w.heap.size + 1, 9, none⟩ = some (.slice (some ⟨wb, wo + yn, none⟩) (wl - yn) (wc - yn)) := (boxG XC.out 9).1
      have kR10 : wF.cell? ⟨w.heap.size + 1, 10, none⟩ = some (.int .i64 (yn : Nat)) := (boxG XC.out 10).1
      have kR11 : wF.cell? ⟨w.heap.size + 1, 11, none⟩ = some (.int .i64 (ou : Nat)) := (boxG XC.out 11).1
      have kR12 : wF.cell? ⟨w.heap.size + 1, 12, none⟩ = some (.slice va (T1.length + T2.length) vc) := (boxG XC.out 12).1
      rename_i K0 hK0
      refine hK0 _ _ (wp_ret ?_)
      refine bodyPost_ret (v := .tuple #[.agg #[.slice ca cn cc, .slice (some ⟨wb, wo, none⟩) wl wc, .int .i64 (yn : Nat), .int .i64 (tn : Nat), .int .i64 (on : Nat), .slice da dl dc, .slice (some ⟨wb, wo, none⟩) yn wc, .int .i64 0, .int .i64 (tn : Nat), .slice (some ⟨wb, wo + yn, none⟩) (wl - yn) (wc - yn), .int .i64 (yn : Nat), .int .i64 (ou : Nat), .slice va (T1.length + T2.length) vc], .bool false]) ?_ rfl ?_
      · simp [results, Tryz.results34, go_sem, kR0, kR1, kR2, kR3, kR4, kR5, kR6, kR7, kR8, kR9, kR10, kR11, kR12]
      · refine ⟨?_, ?_, BF.out⟩
        · intro _
          exact ⟨_, _, _, _, _, _, _, _, _, _, _, _, _, _, _, _, _, _, _, _, _, _, _, _, _, rfl⟩
        · intro h
          rw [memB_walk (by rw [B1.out]; rfl)] at h
          cases h
    cases b2
    · have KS : Hid (∀ x, Below (w5g.heap.size) w5g x → x.cell? ⟨w5.heap.size, 0, none⟩ = some (.slice ca cn cc) ∧ x.cell? ⟨w5.heap.size, 1, none⟩ = some (.slice (some ⟨wb, wo, none⟩) wl wc) ∧ x.cell? ⟨w5.heap.size, 2, none⟩ = some (.int .i64 (yn : Nat)) ∧ x.cell? ⟨w5.heap.size, 3, none⟩ = some (.int .i64 (tn : Nat)) ∧ x.cell? ⟨w5.heap.size, 4, none⟩ = some (.int .i64 (on : Nat)) ∧ x.cell? ⟨w5.heap.size, 5, none⟩ = some (.slice da dl dc) ∧ x.cell? ⟨w5.heap.size, 6, none⟩ = some (.slice (some ⟨wb, wo, none⟩) yn wc) ∧ x.cell? ⟨w5.heap.size, 7, none⟩ = some (.int .i64 0) ∧ x.cell? ⟨w5.heap.size, 8, none⟩ = some (.int .i64 (tn : Nat)) ∧ x.cell? ⟨w5.heap.size, 9, none⟩ = some (.slice (some ⟨wb, wo + yn, none⟩) (wl - yn) (wc - yn)) ∧ x.cell? ⟨w5.heap.size, 10, none⟩ = some (.int .i64 (yn : Nat)) ∧ x.cell? ⟨w5.heap.size, 11, none⟩ = some (.int .i64 (ou : Nat)) ∧ x.cell? ⟨w5.heap.size, 12, none⟩ = some (.slice va (T1.length + T2.length) vc)) := fun x hx => bk13 (XA.out x hx)
      refine wp_region_held_drew (S := fun x => x.cell? ⟨w5.heap.size, 0, none⟩ = some (.slice ca cn cc) ∧ x.cell? ⟨w5.heap.size, 1, none⟩ = some (.slice (some ⟨wb, wo, none⟩) wl wc) ∧ x.cell? ⟨w5.heap.size, 2, none⟩ = some (.int .i64 (yn : Nat)) ∧ x.cell? ⟨w5.heap.size, 3, none⟩ = some (.int .i64 (tn : Nat)) ∧ x.cell? ⟨w5.heap.size, 4, none⟩ = some (.int .i64 (on : Nat)) ∧ x.cell? ⟨w5.heap.size, 5, none⟩ = some (.slice da dl dc) ∧ x.cell? ⟨w5.heap.size, 6, none⟩ = some (.slice (some ⟨wb, wo, none⟩) yn wc) ∧ x.cell? ⟨w5.heap.size, 7, none⟩ = some (.int .i64 0) ∧ x.cell? ⟨w5.heap.size, 8, none⟩ = some (.int .i64 (tn : Nat)) ∧ x.cell? ⟨w5.heap.size, 9, none⟩ = some (.slice (some ⟨wb, wo + yn, none⟩) (wl - yn) (wc - yn)) ∧ x.cell? ⟨w5.heap.size, 10, none⟩ = some (.int .i64 (yn : Nat)) ∧ x.cell? ⟨w5.heap.size, 11, none⟩ = some (.int .i64 (ou : Nat)) ∧ x.cell? ⟨w5.heap.size, 12, none⟩ = some (.slice va (T1.length + T2.length) vc)) (by kernel_rfl) ?_ (fun hHeld => ?_)
      · exact KS.out _ (bdrew bR)
      refine tV 0 (v := ?_) rfl (by kernel_rfl) (fun _ _ _ h => h) ?_ (by assumption) ?_
      rotate_left 1
      · (intro x hSx; (try dsimp only at hSx); go_simp; try with_reducible rfl)
      try simp only [Act.put, zgT, zg0, zsT, zs0, zsS]
      refine tV 1 (v := ?_) rfl (by kernel_rfl) (fun _ _ _ h => h) ?_ (by assumption) ?_
      rotate_left 1
      · (intro x hSx; (try dsimp only at hSx); go_simp; try with_reducible rfl)
      try simp only [Act.put, zgT, zg0, zgS, zsT, zs0, zsS]
      refine tV 2 (v := ?_) rfl (by kernel_rfl) (fun _ _ _ h => h) ?_ (by assumption) ?_
      rotate_left 1
      · (intro x hSx; (try dsimp only at hSx); go_simp; try with_reducible rfl)
      try simp only [Act.put, zgT, zg0, zgS, zsT, zs0, zsS]
      refine tV 3 (v := ?_) rfl (by kernel_rfl) (fun _ _ _ h => h) ?_ (by assumption) ?_
      rotate_left 1
      · (intro x hSx; (try dsimp only at hSx); go_simp; try with_reducible rfl)
      try simp only [Act.put, zgT, zg0, zgS, zsT, zs0, zsS]
      refine tV 4 (v := ?_) rfl (by kernel_rfl) (fun _ _ _ h => h) ?_ (by assumption) ?_
      rotate_left 1
      · (intro x hSx; (try dsimp only at hSx); go_simp; try with_reducible rfl)
      try simp only [Act.put, zgT, zg0, zgS, zsT, zs0, zsS]
      refine tV 5 (v := ?_) rfl (by kernel_rfl) (fun _ _ _ h => h) ?_ (by assumption) ?_
      rotate_left 1
      · (intro x hSx; (try dsimp only at hSx); go_simp; try with_reducible rfl)
      try simp only [Act.put, zgT, zg0, zgS, zsT, zs0, zsS]
      refine tU 6 rfl (by kernel_rfl) (fun _ _ _ h => h) (by assumption) ?_
      refine tU 7 rfl (by kernel_rfl) (fun _ _ _ h => h) (by assumption) ?_
      refine tU 8 rfl (by kernel_rfl) (fun _ _ _ h => h) (by assumption) ?_
      refine tU 9 rfl (by kernel_rfl) (fun _ _ _ h => h) (by assumption) ?_
      refine tU 10 rfl (by kernel_rfl) (fun _ _ _ h => h) (by assumption) ?_
      refine tU 11 rfl (by kernel_rfl) (fun _ _ _ h => h) (by assumption) ?_
      try simp only [Act.put, zgT, zg0, zgS, zsT, zs0, zsS]
      refine tV 12 (v := ?_) rfl (by kernel_rfl) (fun _ _ _ h => h) ?_ (by assumption) ?_
      rotate_left 1
      · (intro x hSx; (try dsimp only at hSx); go_simp; try with_reducible rfl)
      try simp only [Act.put, zgT, zg0, zgS, zsT, zs0, zsS]
      refine wpAnyH_ready (rs := [13]) (by kernel_rfl) (by simp) ?_
      refine AllReadyH.cons rfl (fun K hK => ?_) AllReadyH.nil
      obtain ⟨kR0, kR1, kR2, kR3, kR4, kR5, kR6, kR7, kR8, kR9, kR10, kR11, kR12⟩ := bk13 (XR.out w5g bR)
      obtain ⟨qkR0, qkR1, qkR2, qkR3, qkR4, qkR5, qkR6, qkR7, qkR8, qkR9, qkR10, qkR11, qkR12⟩ := bq13 (XR.out w5g bR)
      go_simp
      clear kR0 kR1 kR2 kR3 kR4 kR5 kR6 kR7 kR8 kR9 kR10 kR11 kR12 qkR0 qkR1 qkR2 qkR3 qkR4 qkR5 qkR6 qkR7 qkR8 qkR9 qkR10 qkR11 qkR12
      generalize hW : (((((((((((((w5g.setCell ⟨w.heap.size + 1, 0, none⟩ (.slice ca cn cc)).setCell ⟨w.heap.size + 1, 1, none⟩ (.slice (some ⟨wb, wo, none⟩) wl wc)).setCell ⟨w.heap.size + 1, 2, none⟩ (.int .i64 (yn : Nat))).setCell ⟨w.heap.size + 1, 3, none⟩ (.int .i64 (tn : Nat))).setCell ⟨w.heap.size + 1, 4, none⟩ (.int .i64 (on : Nat))).setCell ⟨w.heap.size + 1, 5, none⟩ (.slice da dl dc)).setCell ⟨w.heap.size + 1, 6, none⟩ (.slice (some ⟨wb, wo, none⟩) yn wc)).setCell ⟨w.heap.size + 1, 7, none⟩ (.int .i64 0)).setCell ⟨w.heap.size + 1, 8, none⟩ (.int .i64 (tn : Nat))).setCell ⟨w.heap.size + 1, 9, none⟩ (.slice (some ⟨wb, wo + yn, none⟩) (wl - yn) (wc - yn))).setCell ⟨w.heap.size + 1, 10, none⟩ (.int .i64 (yn : Nat))).setCell ⟨w.heap.size + 1, 11, none⟩ (.int .i64 (ou : Nat))).setCell ⟨w.heap.size + 1, 12, none⟩ (.slice va (T1.length + T2.length) vc)) = wB1
      have hkB : ∀ a, a ≠ w.heap.size + 1 → wB1.heap[a]? = w5g.heap[a]? := by subst hW; exact fun a h => keep13 h
      have hw0 : w.heap.size ≤ w.heap.size + 1 := (by first | omega | (simp; done) | (simp; omega) | (simp at *; omega))
      replace XA := lS XA lA wB1 (hkB _ (by first | omega | (simp; done) | (simp; omega)))
      replace XR : Hid (∀ y, Below (w5g.heap.size) wB1 y → y.heap[w.heap.size + 1]? = some (.cells #[.slice ca cn cc, .slice (some ⟨wb, wo, none⟩) wl wc, .int .i64 (yn : Nat), .int .i64 (tn : Nat), .int .i64 (on : Nat), .slice da dl dc, .slice (some ⟨wb, wo, none⟩) yn wc, .int .i64 0, .int .i64 (tn : Nat), .slice (some ⟨wb, wo + yn, none⟩) (wl - yn) (wc - yn), .int .i64 (yn : Nat), .int .i64 (ou : Nat), .slice va (T1.length + T2.length) vc] 65 (0, 0))) := fun y hy => by subst hW; exact (hy.block _ (by omega)).trans (box13 (XR.out w5g bR) rfl _ _ _ _ _ _ _ _ _ _ _ _ _)
      replace RW : Hid (∀ y, Below (w5g.heap.size) wB1 y → ThRow (fun b => w2.heap.size + 1 + 1 ≤ b ∧ True) y (.slice va (T1.length + T2.length) vc) (T1 ++ T2)) := fun y hy => by subst hW; exact ((((((((((((((RW.out w5g (bR)).box _ _ nR).box _ _ nR).box _ _ nR).box _ _ nR).box _ _ nR).box _ _ nR).box _ _ nR).box _ _ nR).box _ _ nR).box _ _ nR).box _ _ nR).box _ _ nR).box _ _ nR).later (hy.mono (by simp))
      clear KS
      replace B : Hid (∀ y, Below (w5g.heap.size) wB1 y → Below w.heap.size w y) := fun y hy => by subst hW; exact ((((((((((((((B.out w5g bR).setCell hw0 _).setCell hw0 _).setCell hw0 _).setCell hw0 _).setCell hw0 _).setCell hw0 _).setCell hw0 _).setCell hw0 _).setCell hw0 _).setCell hw0 _).setCell hw0 _).setCell hw0 _).setCell hw0 _).trans (hy.mono (by first | omega | exact Nat.le_trans (B.out w5g bR).size hz | (have := (B.out w5g bR).size; omega)))
      replace hz : w5g.heap.size ≤ wB1.heap.size := by subst hW; first | (simp; done) | simpa using hz
      clear hw0 hW hkB
      replace B := lD B
      replace RW := lD RW
      replace XR := lD XR
      replace XA := lD XA
      replace hz : w5g.heap.size ≤ (wB1.drew).heap.size := Nat.le_trans hz (Below.size (bdrew (Below.refl (w5g.heap.size) wB1)))
      have KS : Hid (∀ x, Below (w5g.heap.size) (wB1.drew) x → x.cell? ⟨w5.heap.size, 0, none⟩ = some (.slice ca cn cc) ∧ x.cell? ⟨w5.heap.size, 1, none⟩ = some (.slice (some ⟨wb, wo, none⟩) wl wc) ∧ x.cell? ⟨w5.heap.size, 2, none⟩ = some (.int .i64 (yn : Nat)) ∧ x.cell? ⟨w5.heap.size, 3, none⟩ = some (.int .i64 (tn : Nat)) ∧ x.cell? ⟨w5.heap.size, 4, none⟩ = some (.int .i64 (on : Nat)) ∧ x.cell? ⟨w5.heap.size, 5, none⟩ = some (.slice da dl dc) ∧ x.cell? ⟨w5.heap.size, 6, none⟩ = some (.slice (some ⟨wb, wo, none⟩) yn wc) ∧ x.cell? ⟨w5.heap.size, 7, none⟩ = some (.int .i64 0) ∧ x.cell? ⟨w5.heap.size, 8, none⟩ = some (.int .i64 (tn : Nat)) ∧ x.cell? ⟨w5.heap.size, 9, none⟩ = some (.slice (some ⟨wb, wo + yn, none⟩) (wl - yn) (wc - yn)) ∧ x.cell? ⟨w5.heap.size, 10, none⟩ = some (.int .i64 (yn : Nat)) ∧ x.cell? ⟨w5.heap.size, 11, none⟩ = some (.int .i64 (ou : Nat)) ∧ x.cell? ⟨w5.heap.size, 12, none⟩ = some (.slice va (T1.length + T2.length) vc)) := fun x hx => bk13 (XA.out x hx)
      refine hK.out _ _ (KS.out _ bR) (fun hHeld2 => ?_)
      clear hK K
      try simp only [Act.put, zgT, zg0, zgS, zsT, zs0, zsS]
      refine tV 14 (v := ?_) rfl (by kernel_rfl) (fun _ _ _ h => h) ?_ (by assumption) ?_
      rotate_left 1
      · (intro x hSx; (try dsimp only at hSx); go_simp; try with_reducible rfl)
      try simp only [Act.put, zgT, zg0, zgS, zsT, zs0, zsS]
      refine wpAnyH_done (by kernel_rfl) ?_ _
      clear hHeld hHeld2
      clear KS
      have RF : Hid (ThRow (fun b => w.heap.size ≤ b) ((wB1.drew)) (.slice va (T1.length + T2.length) vc) (T1 ++ T2)) := ThRow.mono (RW.out _ (bR)) (fun b hb _ => by have h1 := hb.1; omega)
      have BF : Hid (Below w.heap.size w ((wB1.drew))) := B.out _ (bR)
      have XC : Hid (((wB1.drew)).heap[w.heap.size + 1]? = some (.cells #[.slice ca cn cc, .slice (some ⟨wb, wo, none⟩) wl wc, .int .i64 (yn : Nat), .int .i64 (tn : Nat), .int .i64 (on : Nat), .slice da dl dc, .slice (some ⟨wb, wo, none⟩) yn wc, .int .i64 0, .int .i64 (tn : Nat), .slice (some ⟨wb, wo + yn, none⟩) (wl - yn) (wc - yn), .int .i64 (yn : Nat), .int .i64 (ou : Nat), .slice va (T1.length + T2.length) vc] 65 (0, 0))) := XR.out _ (bR)
      clear B RW XR XA hz
      generalize (wB1.drew) = wF at RF BF XC ⊢
      have kR0 : wF.cell? ⟨w.heap.size + 1, 0, none⟩ = some (.slice ca cn cc) := (boxG XC.out 0).1
      have kR1 : wF.cell? ⟨w.heap.size + 1, 1, none⟩ = some (.slice (some ⟨wb, wo, none⟩) wl wc) := (boxG XC.out 1).1
      have kR2 : wF.cell? ⟨w.heap.size + 1, 2, none⟩ = some (.int .i64 (yn : Nat)) := (boxG XC.out 2).1
      have kR3 : wF.cell? ⟨w.heap.size + 1, 3, none⟩ = some (.int .i64 (tn : Nat)) := (boxG XC.out 3).1
      have kR4 : wF.cell? ⟨w.heap.size + 1, 4, none⟩ = some (.int .i64 (on : Nat)) := (boxG XC.out 4).1
      have kR5 : wF.cell? ⟨w.heap.size + 1, 5, none⟩ = some (.slice da dl dc) := (boxG XC.out 5).1
      have kR6 : wF.cell? ⟨w.heap.size + 1, 6, none⟩ = some (.slice (some ⟨wb, wo, none⟩) yn wc) := (boxG XC.out 6).1
      have kR7 : wF.cell? ⟨w.heap.size + 1, 7, none⟩ = some (.int .i64 0) := (boxG XC.out 7).1
      have kR8 : wF.cell? ⟨w.heap.size + 1, 8, none⟩ = some (.int .i64 (tn : Nat)) := (boxG XC.out 8).1
      have kR9 : wF.cell? ⟨w.heap.size + 1, 9, none⟩ = some (.slice (some ⟨wb, wo + yn, none⟩) (wl - yn) (wc - yn)) := (boxG XC.out 9).1
      have kR10 : wF.cell? ⟨w.heap.size + 1, 10, none⟩ = some (.int .i64 (yn : Nat)) := (boxG XC.out 10).1
      have kR11 : wF.cell? ⟨w.heap.size + 1, 11, none⟩ = some (.int .i64 (ou : Nat)) := (boxG XC.out 11).1
      have kR12 : wF.cell? ⟨w.heap.size + 1, 12, none⟩ = some (.slice va (T1.length + T2.length) vc) := (boxG XC.out 12).1
      rename_i K0 hK0
      refine hK0 _ _ (wp_ret ?_)
      refine bodyPost_ret (v := .tuple #[.agg #[.slice ca cn cc, .slice (some ⟨wb, wo, none⟩) wl wc, .int .i64 (yn : Nat), .int .i64 (tn : Nat), .int .i64 (on : Nat), .slice da dl dc, .slice (some ⟨wb, wo, none⟩) yn wc, .int .i64 0, .int .i64 (tn : Nat), .slice (some ⟨wb, wo + yn, none⟩) (wl - yn) (wc - yn), .int .i64 (yn : Nat), .int .i64 (ou : Nat), .slice va (T1.length + T2.length) vc], .bool false]) ?_ rfl ?_
      · simp [results, Tryz.results34, go_sem, kR0, kR1, kR2, kR3, kR4, kR5, kR6, kR7, kR8, kR9, kR10, kR11, kR12]
      · refine ⟨?_, ?_, BF.out⟩
        · intro _
          exact ⟨_, _, _, _, _, _, _, _, _, _, _, _, _, _, _, _, _, _, _, _, _, _, _, _, _, rfl⟩
        · intro h
          rw [memB_walk (by rw [B1.out, B2.out]; rfl)] at h
          cases h
    have KS : Hid (∀ x, Below (w5g.heap.size) w5g x → x.cell? ⟨w5.heap.size, 0, none⟩ = some (.slice ca cn cc) ∧ x.cell? ⟨w5.heap.size, 1, none⟩ = some (.slice (some ⟨wb, wo, none⟩) wl wc) ∧ x.cell? ⟨w5.heap.size, 2, none⟩ = some (.int .i64 (yn : Nat)) ∧ x.cell? ⟨w5.heap.size, 3, none⟩ = some (.int .i64 (tn : Nat)) ∧ x.cell? ⟨w5.heap.size, 4, none⟩ = some (.int .i64 (on : Nat)) ∧ x.cell? ⟨w5.heap.size, 5, none⟩ = some (.slice da dl dc) ∧ x.cell? ⟨w5.heap.size, 6, none⟩ = some (.slice (some ⟨wb, wo, none⟩) yn wc) ∧ x.cell? ⟨w5.heap.size, 7, none⟩ = some (.int .i64 0) ∧ x.cell? ⟨w5.heap.size, 8, none⟩ = some (.int .i64 (tn : Nat)) ∧ x.cell? ⟨w5.heap.size, 9, none⟩ = some (.slice (some ⟨wb, wo + yn, none⟩) (wl - yn) (wc - yn)) ∧ x.cell? ⟨w5.heap.size, 10, none⟩ = some (.int .i64 (yn : Nat)) ∧ x.cell? ⟨w5.heap.size, 11, none⟩ = some (.int .i64 (ou : Nat)) ∧ x.cell? ⟨w5.heap.size, 12, none⟩ = some (.slice va (T1.length + T2.length) vc)) := fun x hx => bk13 (XA.out x hx)
    refine wp_region_held_drew (S := fun x => x.cell? ⟨w5.heap.size, 0, none⟩ = some (.slice ca cn cc) ∧ x.cell? ⟨w5.heap.size, 1, none⟩ = some (.slice (some ⟨wb, wo, none⟩) wl wc) ∧ x.cell? ⟨w5.heap.size, 2, none⟩ = some (.int .i64 (yn : Nat)) ∧ x.cell? ⟨w5.heap.size, 3, none⟩ = some (.int .i64 (tn : Nat)) ∧ x.cell? ⟨w5.heap.size, 4, none⟩ = some (.int .i64 (on : Nat)) ∧ x.cell? ⟨w5.heap.size, 5, none⟩ = some (.slice da dl dc) ∧ x.cell? ⟨w5.heap.size, 6, none⟩ = some (.slice (some ⟨wb, wo, none⟩) yn wc) ∧ x.cell? ⟨w5.heap.size, 7, none⟩ = some (.int .i64 0) ∧ x.cell? ⟨w5.heap.size, 8, none⟩ = some (.int .i64 (tn : Nat)) ∧ x.cell? ⟨w5.heap.size, 9, none⟩ = some (.slice (some ⟨wb, wo + yn, none⟩) (wl - yn) (wc - yn)) ∧ x.cell? ⟨w5.heap.size, 10, none⟩ = some (.int .i64 (yn : Nat)) ∧ x.cell? ⟨w5.heap.size, 11, none⟩ = some (.int .i64 (ou : Nat)) ∧ x.cell? ⟨w5.heap.size, 12, none⟩ = some (.slice va (T1.length + T2.length) vc)) (by kernel_rfl) ?_ (fun hHeld => ?_)
    · exact KS.out _ (bdrew bR)
    refine tV 0 (v := ?_) rfl (by kernel_rfl) (fun _ _ _ h => h) ?_ (by assumption) ?_
    rotate_left 1
    · (intro x hSx; (try dsimp only at hSx); go_simp; try with_reducible rfl)
    try simp only [Act.put, zgT, zg0, zsT, zs0, zsS]
    refine tV 1 (v := ?_) rfl (by kernel_rfl) (fun _ _ _ h => h) ?_ (by assumption) ?_
    rotate_left 1
    · (intro x hSx; (try dsimp only at hSx); go_simp; try with_reducible rfl)
    try simp only [Act.put, zgT, zg0, zgS, zsT, zs0, zsS]
    refine tV 2 (v := ?_) rfl (by kernel_rfl) (fun _ _ _ h => h) ?_ (by assumption) ?_
    rotate_left 1
    · (intro x hSx; (try dsimp only at hSx); go_simp; try with_reducible rfl)
    try simp only [Act.put, zgT, zg0, zgS, zsT, zs0, zsS]
    refine tV 3 (v := ?_) rfl (by kernel_rfl) (fun _ _ _ h => h) ?_ (by assumption) ?_
    rotate_left 1
    · (intro x hSx; (try dsimp only at hSx); go_simp; try with_reducible rfl)
    try simp only [Act.put, zgT, zg0, zgS, zsT, zs0, zsS]
    refine tV 4 (v := ?_) rfl (by kernel_rfl) (fun _ _ _ h => h) ?_ (by assumption) ?_
    rotate_left 1
    · (intro x hSx; (try dsimp only at hSx); go_simp; try with_reducible rfl)
    try simp only [Act.put, zgT, zg0, zgS, zsT, zs0, zsS]
    refine tV 5 (v := ?_) rfl (by kernel_rfl) (fun _ _ _ h => h) ?_ (by assumption) ?_
    rotate_left 1
    · (intro x hSx; (try dsimp only at hSx); go_simp; try with_reducible rfl)
    try simp only [Act.put, zgT, zg0, zgS, zsT, zs0, zsS]
    refine tV 6 (v := ?_) rfl (by kernel_rfl) (fun _ _ _ h => h) ?_ (by assumption) ?_
    rotate_left 1
    · (intro x hSx; (try dsimp only at hSx); go_simp; try with_reducible rfl)
    try simp only [Act.put, zgT, zg0, zgS, zsT, zs0, zsS]
    refine tV 7 (v := ?_) rfl (by kernel_rfl) (fun _ _ _ h => h) ?_ (by assumption) ?_
    rotate_left 1
    · (intro x hSx; (try dsimp only at hSx); go_simp; try with_reducible rfl)
    try simp only [Act.put, zgT, zg0, zgS, zsT, zs0, zsS]
    refine tV 8 (v := ?_) rfl (by kernel_rfl) (fun _ _ _ h => h) ?_ (by assumption) ?_
    rotate_left 1
    · (intro x hSx; (try dsimp only at hSx); go_simp; try with_reducible rfl)
    try simp only [Act.put, zgT, zg0, zgS, zsT, zs0, zsS]
    refine tV 9 (v := ?_) rfl (by kernel_rfl) (fun _ _ _ h => h) ?_ (by assumption) ?_
    rotate_left 1
    · (intro x hSx; (try dsimp only at hSx); go_simp; try with_reducible rfl)
    try simp only [Act.put, zgT, zg0, zgS, zsT, zs0, zsS]
    refine wpAnyH_ready (rs := [10]) (by kernel_rfl) (by simp) ?_
    refine AllReadyH.cons rfl (fun K hK => ?_) AllReadyH.nil
    go_simp
    have BP : Hid (Below (w5g.heap.size) w5g (w5g.drew.alloc (.cells #[.func (.func 68) #[.agg #[.slice ca cn cc, .slice (some ⟨wb, wo, none⟩) wl wc, .int .i64 (yn : Nat), .int .i64 (tn : Nat), .int .i64 (on : Nat), .slice da dl dc, .slice (some ⟨wb, wo, none⟩) yn wc, .int .i64 0, .int .i64 (tn : Nat), .slice (some ⟨wb, wo + yn, none⟩) (wl - yn) (wc - yn), .int .i64 (yn : Nat), .int .i64 (ou : Nat), .slice va (T1.length + T2.length) vc]] #[], .func (.func 69) #[.agg #[.slice ca cn cc, .slice (some ⟨wb, wo, none⟩) wl wc, .int .i64 (yn : Nat), .int .i64 (tn : Nat), .int .i64 (on : Nat), .slice da dl dc, .slice (some ⟨wb, wo, none⟩) yn wc, .int .i64 0, .int .i64 (tn : Nat), .slice (some ⟨wb, wo + yn, none⟩) (wl - yn) (wc - yn), .int .i64 (yn : Nat), .int .i64 (ou : Nat), .slice va (T1.length + T2.length) vc]] #[]] 104))) := ((bdrew bR).alloc (by first | exact hz | (simp; done) | (simp; omega) | (have := hz; simp at this ⊢; omega)) _)
    replace B := Proofs.YtjbmcdekhhbiaaaGreat.lA B BP
    replace RW := Proofs.YtjbmcdekhhbiaaaGreat.lA RW BP
    replace KS := Proofs.YtjbmcdekhhbiaaaGreat.lA KS BP
    replace XR := Proofs.YtjbmcdekhhbiaaaGreat.lA XR BP
    replace lR := lL lR
    replace XA := Proofs.YtjbmcdekhhbiaaaGreat.lA XA BP
    replace lA := lL lA
    have XF : Hid (∀ y, Below (w5g.heap.size + 1) (w5g.drew.alloc (.cells #[.func (.func 68) #[.agg #[.slice ca cn cc, .slice (some ⟨wb, wo, none⟩) wl wc, .int .i64 (yn : Nat), .int .i64 (tn : Nat), .int .i64 (on : Nat), .slice da dl dc, .slice (some ⟨wb, wo, none⟩) yn wc, .int .i64 0, .int .i64 (tn : Nat), .slice (some ⟨wb, wo + yn, none⟩) (wl - yn) (wc - yn), .int .i64 (yn : Nat), .int .i64 (ou : Nat), .slice va (T1.length + T2.length) vc]] #[], .func (.func 69) #[.agg #[.slice ca cn cc, .slice (some ⟨wb, wo, none⟩) wl wc, .int .i64 (yn : Nat), .int .i64 (tn : Nat), .int .i64 (on : Nat), .slice da dl dc, .slice (some ⟨wb, wo, none⟩) yn wc, .int .i64 0, .int .i64 (tn : Nat), .slice (some ⟨wb, wo + yn, none⟩) (wl - yn) (wc - yn), .int .i64 (yn : Nat), .int .i64 (ou : Nat), .slice va (T1.length + T2.length) vc]] #[]] 104)) y → y.heap[w5g.heap.size]? = some (.cells #[.func (.func 68) #[.agg #[.slice ca cn cc, .slice (some ⟨wb, wo, none⟩) wl wc, .int .i64 (yn : Nat), .int .i64 (tn : Nat), .int .i64 (on : Nat), .slice da dl dc, .slice (some ⟨wb, wo, none⟩) yn wc, .int .i64 0, .int .i64 (tn : Nat), .slice (some ⟨wb, wo + yn, none⟩) (wl - yn) (wc - yn), .int .i64 (yn : Nat), .int .i64 (ou : Nat), .slice va (T1.length + T2.length) vc]] #[], .func (.func 69) #[.agg #[.slice ca cn cc, .slice (some ⟨wb, wo, none⟩) wl wc, .int .i64 (yn : Nat), .int .i64 (tn : Nat), .int .i64 (on : Nat), .slice da dl dc, .slice (some ⟨wb, wo, none⟩) yn wc, .int .i64 0, .int .i64 (tn : Nat), .slice (some ⟨wb, wo + yn, none⟩) (wl - yn) (wc - yn), .int .i64 (yn : Nat), .int .i64 (ou : Nat), .slice va (T1.length + T2.length) vc]] #[]] 104 (0, 0))) := fun y hy => (hy.block _ (by omega)).trans (boxN _ _ _ _ (by simp))
    have lF : w5g.heap.size < w5g.heap.size + 1 := by omega
    replace hz : w5g.heap.size + 1 ≤ ((w5g.drew.alloc (.cells #[.func (.func 68) #[.agg #[.slice ca cn cc, .slice (some ⟨wb, wo, none⟩) wl wc, .int .i64 (yn : Nat), .int .i64 (tn : Nat), .int .i64 (on : Nat), .slice da dl dc, .slice (some ⟨wb, wo, none⟩) yn wc, .int .i64 0, .int .i64 (tn : Nat), .slice (some ⟨wb, wo + yn, none⟩) (wl - yn) (wc - yn), .int .i64 (yn : Nat), .int .i64 (ou : Nat), .slice va (T1.length + T2.length) vc]] #[], .func (.func 69) #[.agg #[.slice ca cn cc, .slice (some ⟨wb, wo, none⟩) wl wc, .int .i64 (yn : Nat), .int .i64 (tn : Nat), .int .i64 (on : Nat), .slice da dl dc, .slice (some ⟨wb, wo, none⟩) yn wc, .int .i64 0, .int .i64 (tn : Nat), .slice (some ⟨wb, wo + yn, none⟩) (wl - yn) (wc - yn), .int .i64 (yn : Nat), .int .i64 (ou : Nat), .slice va (T1.length + T2.length) vc]] #[]] 104))).heap.size := by simp
    clear BP
    refine hK.out _ _ (KS.out _ bR) (fun hHeld2 => ?_)
    clear hK K
    try simp only [Act.put, zgT, zg0, zgS, zsT, zs0, zsS]
    refine wpAnyH_ready (rs := [11]) (by kernel_rfl) (by simp) ?_
    refine AllReadyH.cons rfl (fun K hK => ?_) AllReadyH.nil
    go_simp
    go_at_call 67
    have BP : Hid (Below (w5g.heap.size + 1) (w5g.drew.alloc (.cells #[.func (.func 68) #[.agg #[.slice ca cn cc, .slice (some ⟨wb, wo, none⟩) wl wc, .int .i64 (yn : Nat), .int .i64 (tn : Nat), .int .i64 (on : Nat), .slice da dl dc, .slice (some ⟨wb, wo, none⟩) yn wc, .int .i64 0, .int .i64 (tn : Nat), .slice (some ⟨wb, wo + yn, none⟩) (wl - yn) (wc - yn), .int .i64 (yn : Nat), .int .i64 (ou : Nat), .slice va (T1.length + T2.length) vc]] #[], .func (.func 69) #[.agg #[.slice ca cn cc, .slice (some ⟨wb, wo, none⟩) wl wc, .int .i64 (yn : Nat), .int .i64 (tn : Nat), .int .i64 (on : Nat), .slice da dl dc, .slice (some ⟨wb, wo, none⟩) yn wc, .int .i64 0, .int .i64 (tn : Nat), .slice (some ⟨wb, wo + yn, none⟩) (wl - yn) (wc - yn), .int .i64 (yn : Nat), .int .i64 (ou : Nat), .slice va (T1.length + T2.length) vc]] #[]] 104)) (w5g.drew.alloc (.cells #[.func (.func 68) #[.agg #[.slice ca cn cc, .slice (some ⟨wb, wo, none⟩) wl wc, .int .i64 (yn : Nat), .int .i64 (tn : Nat), .int .i64 (on : Nat), .slice da dl dc, .slice (some ⟨wb, wo, none⟩) yn wc, .int .i64 0, .int .i64 (tn : Nat), .slice (some ⟨wb, wo + yn, none⟩) (wl - yn) (wc - yn), .int .i64 (yn : Nat), .int .i64 (ou : Nat), .slice va (T1.length + T2.length) vc]] #[], .func (.func 69) #[.agg #[.slice ca cn cc, .slice (some ⟨wb, wo, none⟩) wl wc, .int .i64 (yn : Nat), .int .i64 (tn : Nat), .int .i64 (on : Nat), .slice da dl dc, .slice (some ⟨wb, wo, none⟩) yn wc, .int .i64 0, .int .i64 (tn : Nat), .slice (some ⟨wb, wo + yn, none⟩) (wl - yn) (wc - yn), .int .i64 (yn : Nat), .int .i64 (ou : Nat), .slice va (T1.length + T2.length) vc]] #[]] 104))) := bR
    refine (allTwo ca cn cc wb wo wl wc yn tn on da dl dc wc (wl - yn) (wc - yn) ou va (T1.length + T2.length) vc (T1 ++ T2) ws cd L (w5g.heap.size) _ _ ((RW.out _ BP.out).sl (by simp) (by omega)) (by rw [← TT.out]; exact (thT_ok HB0.out).2.inc) (by omega) (HW.out.later (B.out _ BP.out)) (HC.out.later (B.out _ BP.out)) (by rw [← TT.out]; exact (thT_ok HB0.out).1) hcap (by omega) m5 m1 m2 m3 hyw rfl (by omega) HOU.out.symm (XF.out _ BP.out)).mono ?_
    rintro e w6 ⟨rfl, hb⟩
    have ME : Hid (memB L (ws, (yn : Int), (tn : Int), (on : Int), cd) = (zerB (ws, (yn : Int), (tn : Int), (on : Int), cd) && ((T1 ++ T2).all (valB' (ws, (yn : Int), (tn : Int), (on : Int), cd) (T1 ++ T2)) && (T1 ++ T2).all (crdB (ws, (yn : Int), (tn : Int), (on : Int), cd))))) := by show _ = _; rw [memB_eq BT.out B1.out B2.out, TT.out]
    rw [← ME.out, MQ.out]
    clear ME
    have hq : Below (w5g.heap.size + 1) (w5g.drew.alloc (.cells #[.func (.func 68) #[.agg #[.slice ca cn cc, .slice (some ⟨wb, wo, none⟩) wl wc, .int .i64 (yn : Nat), .int .i64 (tn : Nat), .int .i64 (on : Nat), .slice da dl dc, .slice (some ⟨wb, wo, none⟩) yn wc, .int .i64 0, .int .i64 (tn : Nat), .slice (some ⟨wb, wo + yn, none⟩) (wl - yn) (wc - yn), .int .i64 (yn : Nat), .int .i64 (ou : Nat), .slice va (T1.length + T2.length) vc]] #[], .func (.func 69) #[.agg #[.slice ca cn cc, .slice (some ⟨wb, wo, none⟩) wl wc, .int .i64 (yn : Nat), .int .i64 (tn : Nat), .int .i64 (on : Nat), .slice da dl dc, .slice (some ⟨wb, wo, none⟩) yn wc, .int .i64 0, .int .i64 (tn : Nat), .slice (some ⟨wb, wo + yn, none⟩) (wl - yn) (wc - yn), .int .i64 (yn : Nat), .int .i64 (ou : Nat), .slice va (T1.length + T2.length) vc]] #[]] 104)) w6 := BP.out.trans (Below.mono hb (Nat.le_trans hz BP.out.size))
    have hzn : w5g.heap.size + 1 ≤ w6.heap.size := Nat.le_trans hz hq.size
    replace B := Proofs.YtjbmcdekhhbiaaaGreat.lF B hq hzn
    replace RW := Proofs.YtjbmcdekhhbiaaaGreat.lF RW hq hzn
    replace KS := Proofs.YtjbmcdekhhbiaaaGreat.lF KS hq hzn
    replace XR := Proofs.YtjbmcdekhhbiaaaGreat.lF XR hq hzn
    replace lR := Nat.lt_of_lt_of_le lR hzn
    replace XA := Proofs.YtjbmcdekhhbiaaaGreat.lF XA hq hzn
    replace lA := Nat.lt_of_lt_of_le lA hzn
    replace XF := Proofs.YtjbmcdekhhbiaaaGreat.lF XF hq hzn
    replace lF := Nat.lt_of_lt_of_le lF hzn
    clear hq BP hz
    have hz : w6.heap.size ≤ w6.heap.size := Nat.le_refl _
    clear hb
    go_wp2_with fail
    refine hK.out _ _ (KS.out _ bR) (fun hHeld3 => ?_)
    clear hK K
    try simp only [Act.put, zgT, zg0, zgS, zsT, zs0, zsS]
    refine tV 12 (v := ?_) rfl (by kernel_rfl) (fun _ _ _ h => h) ?_ (by assumption) ?_
    rotate_left 1
    · (intro x hSx; (try dsimp only at hSx); go_simp; try with_reducible rfl)
    try simp only [Act.put, zgT, zg0, zgS, zsT, zs0, zsS]
    refine wpAnyH_ready (rs := [13]) (by kernel_rfl) (by simp) ?_
    refine AllReadyH.cons rfl (fun K hK => ?_) AllReadyH.nil
    clear XF lF
    obtain ⟨kR0, kR1, kR2, kR3, kR4, kR5, kR6, kR7, kR8, kR9, kR10, kR11, kR12⟩ := bk13 (XR.out w6 bR)
    obtain ⟨qkR0, qkR1, qkR2, qkR3, qkR4, qkR5, qkR6, qkR7, qkR8, qkR9, qkR10, qkR11, qkR12⟩ := bq13 (XR.out w6 bR)
    go_simp
    clear kR0 kR1 kR2 kR3 kR4 kR5 kR6 kR7 kR8 kR9 kR10 kR11 kR12 qkR0 qkR1 qkR2 qkR3 qkR4 qkR5 qkR6 qkR7 qkR8 qkR9 qkR10 qkR11 qkR12
    generalize hW : (((((((((((((w6.setCell ⟨w.heap.size + 1, 0, none⟩ (.slice ca cn cc)).setCell ⟨w.heap.size + 1, 1, none⟩ (.slice (some ⟨wb, wo, none⟩) wl wc)).setCell ⟨w.heap.size + 1, 2, none⟩ (.int .i64 (yn : Nat))).setCell ⟨w.heap.size + 1, 3, none⟩ (.int .i64 (tn : Nat))).setCell ⟨w.heap.size + 1, 4, none⟩ (.int .i64 (on : Nat))).setCell ⟨w.heap.size + 1, 5, none⟩ (.slice da dl dc)).setCell ⟨w.heap.size + 1, 6, none⟩ (.slice (some ⟨wb, wo, none⟩) yn wc)).setCell ⟨w.heap.size + 1, 7, none⟩ (.int .i64 0)).setCell ⟨w.heap.size + 1, 8, none⟩ (.int .i64 (tn : Nat))).setCell ⟨w.heap.size + 1, 9, none⟩ (.slice (some ⟨wb, wo + yn, none⟩) (wl - yn) (wc - yn))).setCell ⟨w.heap.size + 1, 10, none⟩ (.int .i64 (yn : Nat))).setCell ⟨w.heap.size + 1, 11, none⟩ (.int .i64 (ou : Nat))).setCell ⟨w.heap.size + 1, 12, none⟩ (.slice va (T1.length + T2.length) vc)) = wB1
    have hkB : ∀ a, a ≠ w.heap.size + 1 → wB1.heap[a]? = w6.heap[a]? := by subst hW; exact fun a h => keep13 h
    have hw0 : w.heap.size ≤ w.heap.size + 1 := (by first | omega | (simp; done) | (simp; omega) | (simp at *; omega))
    replace XA := lS XA lA wB1 (hkB _ (by first | omega | (simp; done) | (simp; omega)))
    replace XR : Hid (∀ y, Below (w6.heap.size) wB1 y → y.heap[w.heap.size + 1]? = some (.cells #[.slice ca cn cc, .slice (some ⟨wb, wo, none⟩) wl wc, .int .i64 (yn : Nat), .int .i64 (tn : Nat), .int .i64 (on : Nat), .slice da dl dc, .slice (some ⟨wb, wo, none⟩) yn wc, .int .i64 0, .int .i64 (tn : Nat), .slice (some ⟨wb, wo + yn, none⟩) (wl - yn) (wc - yn), .int .i64 (yn : Nat), .int .i64 (ou : Nat), .slice va (T1.length + T2.length) vc] 65 (0, 0))) := fun y hy => by subst hW; exact (hy.block _ (by omega)).trans (box13 (XR.out w6 bR) rfl _ _ _ _ _ _ _ _ _ _ _ _ _)
    replace RW : Hid (∀ y, Below (w6.heap.size) wB1 y → ThRow (fun b => w2.heap.size + 1 + 1 ≤ b ∧ True) y (.slice va (T1.length + T2.length) vc) (T1 ++ T2)) := fun y hy => by subst hW; exact ((((((((((((((RW.out w6 (bR)).box _ _ nR).box _ _ nR).box _ _ nR).box _ _ nR).box _ _ nR).box _ _ nR).box _ _ nR).box _ _ nR).box _ _ nR).box _ _ nR).box _ _ nR).box _ _ nR).box _ _ nR).later (hy.mono (by simp))
    clear KS
    replace B : Hid (∀ y, Below (w6.heap.size) wB1 y → Below w.heap.size w y) := fun y hy => by subst hW; exact ((((((((((((((B.out w6 bR).setCell hw0 _).setCell hw0 _).setCell hw0 _).setCell hw0 _).setCell hw0 _).setCell hw0 _).setCell hw0 _).setCell hw0 _).setCell hw0 _).setCell hw0 _).setCell hw0 _).setCell hw0 _).setCell hw0 _).trans (hy.mono (by first | omega | exact Nat.le_trans (B.out w6 bR).size hz | (have := (B.out w6 bR).size; omega)))
    replace hz : w6.heap.size ≤ wB1.heap.size := by subst hW; first | (simp; done) | simpa using hz
    clear hw0 hW hkB
    have KS : Hid (∀ x, Below (w6.heap.size) wB1 x → x.cell? ⟨w5.heap.size, 0, none⟩ = some (.slice ca cn cc) ∧ x.cell? ⟨w5.heap.size, 1, none⟩ = some (.slice (some ⟨wb, wo, none⟩) wl wc) ∧ x.cell? ⟨w5.heap.size, 2, none⟩ = some (.int .i64 (yn : Nat)) ∧ x.cell? ⟨w5.heap.size, 3, none⟩ = some (.int .i64 (tn : Nat)) ∧ x.cell? ⟨w5.heap.size, 4, none⟩ = some (.int .i64 (on : Nat)) ∧ x.cell? ⟨w5.heap.size, 5, none⟩ = some (.slice da dl dc) ∧ x.cell? ⟨w5.heap.size, 6, none⟩ = some (.slice (some ⟨wb, wo, none⟩) yn wc) ∧ x.cell? ⟨w5.heap.size, 7, none⟩ = some (.int .i64 0) ∧ x.cell? ⟨w5.heap.size, 8, none⟩ = some (.int .i64 (tn : Nat)) ∧ x.cell? ⟨w5.heap.size, 9, none⟩ = some (.slice (some ⟨wb, wo + yn, none⟩) (wl - yn) (wc - yn)) ∧ x.cell? ⟨w5.heap.size, 10, none⟩ = some (.int .i64 (yn : Nat)) ∧ x.cell? ⟨w5.heap.size, 11, none⟩ = some (.int .i64 (ou : Nat)) ∧ x.cell? ⟨w5.heap.size, 12, none⟩ = some (.slice va (T1.length + T2.length) vc)) := fun x hx => bk13 (XA.out x hx)
    refine hK.out _ _ (KS.out _ bR) (fun hHeld4 => ?_)
    clear hK K
    try simp only [Act.put, zgT, zg0, zgS, zsT, zs0, zsS]
    refine tV 14 (v := ?_) rfl (by kernel_rfl) (fun _ _ _ h => h) ?_ (by assumption) ?_
    rotate_left 1
    · (intro x hSx; (try dsimp only at hSx); go_simp; try with_reducible rfl)
    try simp only [Act.put, zgT, zg0, zgS, zsT, zs0, zsS]
    refine wpAnyH_done (by kernel_rfl) ?_ _
    clear hHeld hHeld2 hHeld3 hHeld4
    clear KS
    have RF : Hid (ThRow (fun b => w.heap.size ≤ b) (wB1) (.slice va (T1.length + T2.length) vc) (T1 ++ T2)) := ThRow.mono (RW.out _ (bR)) (fun b hb _ => by have h1 := hb.1; omega)
    have BF : Hid (Below w.heap.size w (wB1)) := B.out _ (bR)
    have XC : Hid ((wB1).heap[w.heap.size + 1]? = some (.cells #[.slice ca cn cc, .slice (some ⟨wb, wo, none⟩) wl wc, .int .i64 (yn : Nat), .int .i64 (tn : Nat), .int .i64 (on : Nat), .slice da dl dc, .slice (some ⟨wb, wo, none⟩) yn wc, .int .i64 0, .int .i64 (tn : Nat), .slice (some ⟨wb, wo + yn, none⟩) (wl - yn) (wc - yn), .int .i64 (yn : Nat), .int .i64 (ou : Nat), .slice va (T1.length + T2.length) vc] 65 (0, 0))) := XR.out _ (bR)
    clear B RW XR XA hz
    generalize wB1 = wF at RF BF XC ⊢
    have kR0 : wF.cell? ⟨w.heap.size + 1, 0, none⟩ = some (.slice ca cn cc) := (boxG XC.out 0).1
    have kR1 : wF.cell? ⟨w.heap.size + 1, 1, none⟩ = some (.slice (some ⟨wb, wo, none⟩) wl wc) := (boxG XC.out 1).1
    have kR2 : wF.cell? ⟨w.heap.size + 1, 2, none⟩ = some (.int .i64 (yn : Nat)) := (boxG XC.out 2).1
    have kR3 : wF.cell? ⟨w.heap.size + 1, 3, none⟩ = some (.int .i64 (tn : Nat)) := (boxG XC.out 3).1
    have kR4 : wF.cell? ⟨w.heap.size + 1, 4, none⟩ = some (.int .i64 (on : Nat)) := (boxG XC.out 4).1
    have kR5 : wF.cell? ⟨w.heap.size + 1, 5, none⟩ = some (.slice da dl dc) := (boxG XC.out 5).1
    have kR6 : wF.cell? ⟨w.heap.size + 1, 6, none⟩ = some (.slice (some ⟨wb, wo, none⟩) yn wc) := (boxG XC.out 6).1
    have kR7 : wF.cell? ⟨w.heap.size + 1, 7, none⟩ = some (.int .i64 0) := (boxG XC.out 7).1
    have kR8 : wF.cell? ⟨w.heap.size + 1, 8, none⟩ = some (.int .i64 (tn : Nat)) := (boxG XC.out 8).1
    have kR9 : wF.cell? ⟨w.heap.size + 1, 9, none⟩ = some (.slice (some ⟨wb, wo + yn, none⟩) (wl - yn) (wc - yn)) := (boxG XC.out 9).1
    have kR10 : wF.cell? ⟨w.heap.size + 1, 10, none⟩ = some (.int .i64 (yn : Nat)) := (boxG XC.out 10).1
    have kR11 : wF.cell? ⟨w.heap.size + 1, 11, none⟩ = some (.int .i64 (ou : Nat)) := (boxG XC.out 11).1
    have kR12 : wF.cell? ⟨w.heap.size + 1, 12, none⟩ = some (.slice va (T1.length + T2.length) vc) := (boxG XC.out 12).1
    rename_i K0 hK0
    refine hK0 _ _ (wp_ret ?_)
    refine bodyPost_ret (v := .tuple #[.agg #[.slice ca cn cc, .slice (some ⟨wb, wo, none⟩) wl wc, .int .i64 (yn : Nat), .int .i64 (tn : Nat), .int .i64 (on : Nat), .slice da dl dc, .slice (some ⟨wb, wo, none⟩) yn wc, .int .i64 0, .int .i64 (tn : Nat), .slice (some ⟨wb, wo + yn, none⟩) (wl - yn) (wc - yn), .int .i64 (yn : Nat), .int .i64 (ou : Nat), .slice va (T1.length + T2.length) vc], .bool mq]) ?_ rfl ?_
    · simp [results, Tryz.results34, go_sem, kR0, kR1, kR2, kR3, kR4, kR5, kR6, kR7, kR8, kR9, kR10, kR11, kR12]
    · refine ⟨?_, ?_, BF.out⟩
      · intro h
        rw [MQ.out] at h
        subst h
        exact ⟨_, _, _, _, _, _, _, _, _, _, _, _, _, _, _, _, _, _, _, _, _, _, _, _, _, rfl⟩
      · intro h
        rw [MQ.out] at h
        subst h
        refine ⟨wb, wo, yn, tn, on, va, vc, rfl, rfl, rfl, rfl, ?_, ?_⟩
        · rw [TT.out, List.length_append, HOU.out]
        · rw [TT.out, List.length_append]; exact RF.out
  · go_simp
    have BP : Hid (Below (w4.heap.size) w4 (w4.drew.alloc (.cells #[.slice none 0 0, .slice none 0 0, .int .i64 0, .int .i64 0, .int .i64 0, .slice none 0 0, .slice none 0 0, .int .i64 0, .int .i64 0, .slice none 0 0, .int .i64 0, .int .i64 0, .slice none 0 0] 65))) := ((bdrew bR).alloc (by first | exact hz | (simp; done) | (simp; omega) | (have := hz; simp at this ⊢; omega)) _)
    replace B := lA B BP
    replace R1 := lA R1 BP
    replace R2 := lA R2 BP
    replace KS := lA KS BP
    replace XM := lA XM BP
    replace lM := lL lM
    replace XR := lA XR BP
    replace lR := lL lR
    replace XY := lA XY BP
    replace lY := lL lY
    replace XO := lA XO BP
    replace lO := lL lO
    have XA : Hid (∀ y, Below (w4.heap.size + 1) (w4.drew.alloc (.cells #[.slice none 0 0, .slice none 0 0, .int .i64 0, .int .i64 0, .int .i64 0, .slice none 0 0, .slice none 0 0, .int .i64 0, .int .i64 0, .slice none 0 0, .int .i64 0, .int .i64 0, .slice none 0 0] 65)) y → y.heap[w4.heap.size]? = some (.cells #[.slice none 0 0, .slice none 0 0, .int .i64 0, .int .i64 0, .int .i64 0, .slice none 0 0, .slice none 0 0, .int .i64 0, .int .i64 0, .slice none 0 0, .int .i64 0, .int .i64 0, .slice none 0 0] 65 (0, 0))) := fun y hy => (hy.block _ (by omega)).trans (boxN _ _ _ _ (by simp))
    have lA : w4.heap.size < w4.heap.size + 1 := by omega
    replace hz : w4.heap.size + 1 ≤ ((w4.drew.alloc (.cells #[.slice none 0 0, .slice none 0 0, .int .i64 0, .int .i64 0, .int .i64 0, .slice none 0 0, .slice none 0 0, .int .i64 0, .int .i64 0, .slice none 0 0, .int .i64 0, .int .i64 0, .slice none 0 0] 65))).heap.size := by simp
    clear BP
    refine hK.out _ _ (KS.out _ bR) (fun hHeld2 => ?_)
    clear hK K
    try simp only [Act.put, zgT, zg0, zgS, zsT, zs0, zsS]
    refine wpAnyH_ready (rs := [6]) (by kernel_rfl) (by simp) ?_
    refine AllReadyH.cons rfl (fun K hK => ?_) AllReadyH.nil
    have hR1 := R1.out _ ((bR) : Below (w4.heap.size + 1) (w4.drew.alloc (.cells #[.slice none 0 0, .slice none 0 0, .int .i64 0, .int .i64 0, .int .i64 0, .slice none 0 0, .slice none 0 0, .int .i64 0, .int .i64 0, .slice none 0 0, .int .i64 0, .int .i64 0, .slice none 0 0] 65)) ((w4.drew.alloc (.cells #[.slice none 0 0, .slice none 0 0, .int .i64 0, .int .i64 0, .int .i64 0, .slice none 0 0, .slice none 0 0, .int .i64 0, .int .i64 0, .slice none 0 0, .int .i64 0, .int .i64 0, .slice none 0 0] 65))))
    have hR2 := R2.out _ ((bR) : Below (w4.heap.size + 1) (w4.drew.alloc (.cells #[.slice none 0 0, .slice none 0 0, .int .i64 0, .int .i64 0, .int .i64 0, .slice none 0 0, .slice none 0 0, .int .i64 0, .int .i64 0, .slice none 0 0, .int .i64 0, .int .i64 0, .slice none 0 0] 65)) ((w4.drew.alloc (.cells #[.slice none 0 0, .slice none 0 0, .int .i64 0, .int .i64 0, .int .i64 0, .slice none 0 0, .slice none 0 0, .int .i64 0, .int .i64 0, .slice none 0 0, .int .i64 0, .int .i64 0, .slice none 0 0] 65))))
    have hO1 : ∀ b, (Value.slice fa T1.length fc).ownBlock = some b → w2.heap.size + 1 + 1 ≤ b ∧ b < w3.heap.size := fun b hb => (hR1.lt b hb).1
    obtain ⟨va, vc, w5, hrun, hrow, hgrow⟩ := ThRow.cat (D := fun b => w2.heap.size + 1 + 1 ≤ b ∧ b ≠ w4.heap.size) (ThRow.mono hR1 (fun b hb _ => ⟨hb.1, by omega⟩)) (ThRow.mono hR2 (fun b hb _ => ⟨⟨by omega, by omega⟩, fun e => by have := hO1 b e; omega⟩)) rfl ⟨by simp; omega, by simp⟩ (by omega) (by omega) 63
    have BP : Hid (Below (w4.heap.size + 1) (w4.drew.alloc (.cells #[.slice none 0 0, .slice none 0 0, .int .i64 0, .int .i64 0, .int .i64 0, .slice none 0 0, .slice none 0 0, .int .i64 0, .int .i64 0, .slice none 0 0, .int .i64 0, .int .i64 0, .slice none 0 0] 65)) (w4.drew.alloc (.cells #[.slice none 0 0, .slice none 0 0, .int .i64 0, .int .i64 0, .int .i64 0, .slice none 0 0, .slice none 0 0, .int .i64 0, .int .i64 0, .slice none 0 0, .int .i64 0, .int .i64 0, .slice none 0 0] 65))) := bR
    refine op_appP (by rfl) _ _ _ (by rfl) _ _ _ (by rfl) (by rfl) hrun ?_
    have hb : Below (w2.heap.size + 1 + 1) ((w4.drew.alloc (.cells #[.slice none 0 0, .slice none 0 0, .int .i64 0, .int .i64 0, .int .i64 0, .slice none 0 0, .slice none 0 0, .int .i64 0, .int .i64 0, .slice none 0 0, .int .i64 0, .int .i64 0, .slice none 0 0] 65))) w5 := (bR).grown hgrow (by simp; omega) (fun j e => (hO1 j e).1)
    have hAf : w5.heap[w4.heap.size]? = ((w4.drew.alloc (.cells #[.slice none 0 0, .slice none 0 0, .int .i64 0, .int .i64 0, .int .i64 0, .slice none 0 0, .slice none 0 0, .int .i64 0, .int .i64 0, .slice none 0 0, .int .i64 0, .int .i64 0, .slice none 0 0] 65))).heap[w4.heap.size]? := hgrow.block _ (by simp) (fun e => by have := hO1 _ e.symm; omega)
    have ROW5 : Hid (ThRow (fun b => w2.heap.size + 1 + 1 ≤ b ∧ b ≠ w4.heap.size) w5 (.slice va (T1.length + T2.length) vc) (T1 ++ T2)) := hrow
    have hq : Below (w2.heap.size + 1 + 1) (w4.drew.alloc (.cells #[.slice none 0 0, .slice none 0 0, .int .i64 0, .int .i64 0, .int .i64 0, .slice none 0 0, .slice none 0 0, .int .i64 0, .int .i64 0, .slice none 0 0, .int .i64 0, .int .i64 0, .slice none 0 0] 65)) w5 := (BP.out.mono (by omega)).trans (Below.mono hb (by omega))
    have hzn : w4.heap.size + 1 ≤ w5.heap.size := Nat.le_trans hz hq.size
    replace B : Hid (∀ y, Below w5.heap.size w5 y → Below w.heap.size w y) := fun y hy => ((B.out (w4.drew.alloc (.cells #[.slice none 0 0, .slice none 0 0, .int .i64 0, .int .i64 0, .int .i64 0, .slice none 0 0, .slice none 0 0, .int .i64 0, .int .i64 0, .slice none 0 0, .int .i64 0, .int .i64 0, .slice none 0 0] 65)) bR).trans (hq.mono (by omega))).trans (hy.mono (Nat.le_trans (B.out (w4.drew.alloc (.cells #[.slice none 0 0, .slice none 0 0, .int .i64 0, .int .i64 0, .int .i64 0, .slice none 0 0, .slice none 0 0, .int .i64 0, .int .i64 0, .slice none 0 0, .int .i64 0, .int .i64 0, .slice none 0 0] 65)) bR).size hq.size))
    clear R1
    clear R2
    clear KS
    replace XM : Hid (∀ y, Below w5.heap.size w5 y → y.heap[w.heap.size]? = some (.cells #[.slice (some ⟨wb, wo, none⟩) wl wc, .int .i64 (yn : Nat), .int .i64 (tn : Nat), .int .i64 (on : Nat), .slice da dl dc] 29 (0, 0))) := fun y hy => (hy.block _ (by omega)).trans ((hq.block _ (by omega)).trans (XM.out (w4.drew.alloc (.cells #[.slice none 0 0, .slice none 0 0, .int .i64 0, .int .i64 0, .int .i64 0, .slice none 0 0, .slice none 0 0, .int .i64 0, .int .i64 0, .slice none 0 0, .int .i64 0, .int .i64 0, .slice none 0 0] 65)) bR))
    replace lM : w.heap.size < w5.heap.size := by omega
    replace XR : Hid (∀ y, Below w5.heap.size w5 y → y.heap[w.heap.size + 1]? = some (.cells #[.slice none 0 0, .slice none 0 0, .int .i64 0, .int .i64 0, .int .i64 0, .slice none 0 0, .slice none 0 0, .int .i64 0, .int .i64 0, .slice none 0 0, .int .i64 0, .int .i64 0, .slice none 0 0] 65 (0, 0))) := fun y hy => (hy.block _ (by omega)).trans ((hq.block _ (by omega)).trans (XR.out (w4.drew.alloc (.cells #[.slice none 0 0, .slice none 0 0, .int .i64 0, .int .i64 0, .int .i64 0, .slice none 0 0, .slice none 0 0, .int .i64 0, .int .i64 0, .slice none 0 0, .int .i64 0, .int .i64 0, .slice none 0 0] 65)) bR))
    replace lR : w.heap.size + 1 < w5.heap.size := by omega
    replace XY : Hid (∀ y, Below w5.heap.size w5 y → y.heap[w2.heap.size]? = some (.cells #[.slice (some ⟨wb, wo, none⟩) yn wc, .int .i64 0, .int .i64 (tn : Nat)] 62 (0, 0))) := fun y hy => (hy.block _ (by omega)).trans ((hq.block _ (by omega)).trans (XY.out (w4.drew.alloc (.cells #[.slice none 0 0, .slice none 0 0, .int .i64 0, .int .i64 0, .int .i64 0, .slice none 0 0, .slice none 0 0, .int .i64 0, .int .i64 0, .slice none 0 0, .int .i64 0, .int .i64 0, .slice none 0 0] 65)) bR))
    replace lY : w2.heap.size < w5.heap.size := by omega
    replace XO : Hid (∀ y, Below w5.heap.size w5 y → y.heap[w2.heap.size + 1]? = some (.cells #[.slice (some ⟨wb, wo + yn, none⟩) (wl - yn) (wc - yn), .int .i64 (yn : Nat), .int .i64 (ou : Nat)] 62 (0, 0))) := fun y hy => (hy.block _ (by omega)).trans ((hq.block _ (by omega)).trans (XO.out (w4.drew.alloc (.cells #[.slice none 0 0, .slice none 0 0, .int .i64 0, .int .i64 0, .int .i64 0, .slice none 0 0, .slice none 0 0, .int .i64 0, .int .i64 0, .slice none 0 0, .int .i64 0, .int .i64 0, .slice none 0 0] 65)) bR))
    replace lO : w2.heap.size + 1 < w5.heap.size := by omega
    replace XA : Hid (∀ y, Below w5.heap.size w5 y → y.heap[w4.heap.size]? = some (.cells #[.slice none 0 0, .slice none 0 0, .int .i64 0, .int .i64 0, .int .i64 0, .slice none 0 0, .slice none 0 0, .int .i64 0, .int .i64 0, .slice none 0 0, .int .i64 0, .int .i64 0, .slice none 0 0] 65 (0, 0))) := fun y hy => (hy.block _ (by omega)).trans ((hAf).trans ((BP.out.block _ (by omega)).trans (XA.out (w4.drew.alloc (.cells #[.slice none 0 0, .slice none 0 0, .int .i64 0, .int .i64 0, .int .i64 0, .slice none 0 0, .slice none 0 0, .int .i64 0, .int .i64 0, .slice none 0 0, .int .i64 0, .int .i64 0, .slice none 0 0] 65)) bR)))
    replace lA : w4.heap.size < w5.heap.size := by omega
    clear hq BP hz
    have hz : w5.heap.size ≤ w5.heap.size := Nat.le_refl _
    clear hb hrow hrun hgrow hR1 hR2 hO1 hAf
    have RW : Hid (∀ y, Below (w5.heap.size) w5 y → ThRow (fun b => w2.heap.size + 1 + 1 ≤ b ∧ b ≠ w4.heap.size) y (.slice va (T1.length + T2.length) vc) (T1 ++ T2)) := fun y hy => ROW5.out.later hy
    clear ROW5
    have KS : Hid (∀ x, Below (w5.heap.size) w5 x → x.cell? ⟨w.heap.size, 0, none⟩ = some (.slice (some ⟨wb, wo, none⟩) wl wc) ∧ x.cell? ⟨w.heap.size, 1, none⟩ = some (.int .i64 (yn : Nat)) ∧ x.cell? ⟨w.heap.size, 2, none⟩ = some (.int .i64 (tn : Nat)) ∧ x.cell? ⟨w.heap.size, 3, none⟩ = some (.int .i64 (on : Nat)) ∧ x.cell? ⟨w.heap.size, 4, none⟩ = some (.slice da dl dc) ∧ x.cell? ⟨w2.heap.size, 0, none⟩ = some (.slice (some ⟨wb, wo, none⟩) yn wc) ∧ x.cell? ⟨w2.heap.size, 1, none⟩ = some (.int .i64 0) ∧ x.cell? ⟨w2.heap.size, 2, none⟩ = some (.int .i64 (tn : Nat)) ∧ x.cell? ⟨w2.heap.size + 1, 0, none⟩ = some (.slice (some ⟨wb, wo + yn, none⟩) (wl - yn) (wc - yn)) ∧ x.cell? ⟨w2.heap.size + 1, 1, none⟩ = some (.int .i64 (yn : Nat)) ∧ x.cell? ⟨w2.heap.size + 1, 2, none⟩ = some (.int .i64 (ou : Nat))) := fun x hx => ⟨(boxG (XM.out x hx) 0).1, (boxG (XM.out x hx) 1).1, (boxG (XM.out x hx) 2).1, (boxG (XM.out x hx) 3).1, (boxG (XM.out x hx) 4).1, (boxG (XY.out x hx) 0).1, (boxG (XY.out x hx) 1).1, (boxG (XY.out x hx) 2).1, (boxG (XO.out x hx) 0).1, (boxG (XO.out x hx) 1).1, (boxG (XO.out x hx) 2).1⟩
    refine hK.out _ _ (KS.out _ bR) (fun hHeld3 => ?_)
    clear hK K
    try simp only [Act.put, zgT, zg0, zgS, zsT, zs0, zsS]
    refine tV 7 (v := ?_) rfl (by kernel_rfl) (fun _ _ _ h => h) ?_ (by assumption) ?_
    rotate_left 1
    · (intro x hSx; (try dsimp only at hSx); go_simp; try with_reducible rfl)
    try simp only [Act.put, zgT, zg0, zgS, zsT, zs0, zsS]
    refine wpAnyH_ready (rs := [9]) (by kernel_rfl) (by simp) ?_
    refine AllReadyH.cons rfl (fun K hK => ?_) AllReadyH.nil
    obtain ⟨kA0, kA1, kA2, kA3, kA4, kA5, kA6, kA7, kA8, kA9, kA10, kA11, kA12⟩ := bk13 (XA.out w5 bR)
    obtain ⟨qkA0, qkA1, qkA2, qkA3, qkA4, qkA5, qkA6, qkA7, qkA8, qkA9, qkA10, qkA11, qkA12⟩ := bq13 (XA.out w5 bR)
    go_simp
    clear kA0 kA1 kA2 kA3 kA4 kA5 kA6 kA7 kA8 kA9 kA10 kA11 kA12 qkA0 qkA1 qkA2 qkA3 qkA4 qkA5 qkA6 qkA7 qkA8 qkA9 qkA10 qkA11 qkA12
    generalize hW : (((((((((((((w5.setCell ⟨w4.heap.size, 0, none⟩ (.slice ca cn cc)).setCell ⟨w4.heap.size, 1, none⟩ (.slice (some ⟨wb, wo, none⟩) wl wc)).setCell ⟨w4.heap.size, 2, none⟩ (.int .i64 (yn : Nat))).setCell ⟨w4.heap.size, 3, none⟩ (.int .i64 (tn : Nat))).setCell ⟨w4.heap.size, 4, none⟩ (.int .i64 (on : Nat))).setCell ⟨w4.heap.size, 5, none⟩ (.slice da dl dc)).setCell ⟨w4.heap.size, 6, none⟩ (.slice (some ⟨wb, wo, none⟩) yn wc)).setCell ⟨w4.heap.size, 7, none⟩ (.int .i64 0)).setCell ⟨w4.heap.size, 8, none⟩ (.int .i64 (tn : Nat))).setCell ⟨w4.heap.size, 9, none⟩ (.slice (some ⟨wb, wo + yn, none⟩) (wl - yn) (wc - yn))).setCell ⟨w4.heap.size, 10, none⟩ (.int .i64 (yn : Nat))).setCell ⟨w4.heap.size, 11, none⟩ (.int .i64 (ou : Nat))).setCell ⟨w4.heap.size, 12, none⟩ (.slice va (T1.length + T2.length) vc)) = wB1
    have hkB : ∀ a, a ≠ w4.heap.size → wB1.heap[a]? = w5.heap[a]? := by subst hW; exact fun a h => keep13 h
    have hw0 : w.heap.size ≤ w4.heap.size := (by first | omega | (simp; done) | (simp; omega) | (simp at *; omega))
    replace XM := lS XM lM wB1 (hkB _ (by first | omega | (simp; done) | (simp; omega)))
    replace XR := lS XR lR wB1 (hkB _ (by first | omega | (simp; done) | (simp; omega)))
    replace XY := lS XY lY wB1 (hkB _ (by first | omega | (simp; done) | (simp; omega)))
    replace XO := lS XO lO wB1 (hkB _ (by first | omega | (simp; done) | (simp; omega)))
    replace XA : Hid (∀ y, Below (w5.heap.size) wB1 y → y.heap[w4.heap.size]? = some (.cells #[.slice ca cn cc, .slice (some ⟨wb, wo, none⟩) wl wc, .int .i64 (yn : Nat), .int .i64 (tn : Nat), .int .i64 (on : Nat), .slice da dl dc, .slice (some ⟨wb, wo, none⟩) yn wc, .int .i64 0, .int .i64 (tn : Nat), .slice (some ⟨wb, wo + yn, none⟩) (wl - yn) (wc - yn), .int .i64 (yn : Nat), .int .i64 (ou : Nat), .slice va (T1.length + T2.length) vc] 65 (0, 0))) := fun y hy => by subst hW; exact (hy.block _ (by omega)).trans (box13 (XA.out w5 bR) rfl _ _ _ _ _ _ _ _ _ _ _ _ _)
    replace RW : Hid (∀ y, Below (w5.heap.size) wB1 y → ThRow (fun b => w2.heap.size + 1 + 1 ≤ b ∧ b ≠ w4.heap.size) y (.slice va (T1.length + T2.length) vc) (T1 ++ T2)) := fun y hy => by subst hW; exact ((((((((((((((RW.out w5 (bR)).box _ _ (fun h => h.2 rfl)).box _ _ (fun h => h.2 rfl)).box _ _ (fun h => h.2 rfl)).box _ _ (fun h => h.2 rfl)).box _ _ (fun h => h.2 rfl)).box _ _ (fun h => h.2 rfl)).box _ _ (fun h => h.2 rfl)).box _ _ (fun h => h.2 rfl)).box _ _ (fun h => h.2 rfl)).box _ _ (fun h => h.2 rfl)).box _ _ (fun h => h.2 rfl)).box _ _ (fun h => h.2 rfl)).box _ _ (fun h => h.2 rfl)).later (hy.mono (by simp))
    clear KS
    replace B : Hid (∀ y, Below (w5.heap.size) wB1 y → Below w.heap.size w y) := fun y hy => by subst hW; exact ((((((((((((((B.out w5 bR).setCell hw0 _).setCell hw0 _).setCell hw0 _).setCell hw0 _).setCell hw0 _).setCell hw0 _).setCell hw0 _).setCell hw0 _).setCell hw0 _).setCell hw0 _).setCell hw0 _).setCell hw0 _).setCell hw0 _).trans (hy.mono (by first | omega | exact Nat.le_trans (B.out w5 bR).size hz | (have := (B.out w5 bR).size; omega)))
    replace hz : w5.heap.size ≤ wB1.heap.size := by subst hW; first | (simp; done) | simpa using hz
    clear hw0 hW hkB
    have KS : Hid (∀ x, Below (w5.heap.size) wB1 x → x.cell? ⟨w.heap.size, 0, none⟩ = some (.slice (some ⟨wb, wo, none⟩) wl wc) ∧ x.cell? ⟨w.heap.size, 1, none⟩ = some (.int .i64 (yn : Nat)) ∧ x.cell? ⟨w.heap.size, 2, none⟩ = some (.int .i64 (tn : Nat)) ∧ x.cell? ⟨w.heap.size, 3, none⟩ = some (.int .i64 (on : Nat)) ∧ x.cell? ⟨w.heap.size, 4, none⟩ = some (.slice da dl dc) ∧ x.cell? ⟨w2.heap.size, 0, none⟩ = some (.slice (some ⟨wb, wo, none⟩) yn wc) ∧ x.cell? ⟨w2.heap.size, 1, none⟩ = some (.int .i64 0) ∧ x.cell? ⟨w2.heap.size, 2, none⟩ = some (.int .i64 (tn : Nat)) ∧ x.cell? ⟨w2.heap.size + 1, 0, none⟩ = some (.slice (some ⟨wb, wo + yn, none⟩) (wl - yn) (wc - yn)) ∧ x.cell? ⟨w2.heap.size + 1, 1, none⟩ = some (.int .i64 (yn : Nat)) ∧ x.cell? ⟨w2.heap.size + 1, 2, none⟩ = some (.int .i64 (ou : Nat))) := fun x hx => ⟨(boxG (XM.out x hx) 0).1, (boxG (XM.out x hx) 1).1, (boxG (XM.out x hx) 2).1, (boxG (XM.out x hx) 3).1, (boxG (XM.out x hx) 4).1, (boxG (XY.out x hx) 0).1, (boxG (XY.out x hx) 1).1, (boxG (XY.out x hx) 2).1, (boxG (XO.out x hx) 0).1, (boxG (XO.out x hx) 1).1, (boxG (XO.out x hx) 2).1⟩
    refine hK.out _ _ (KS.out _ bR) (fun hHeld4 => ?_)
    clear hK K
    try simp only [Act.put, zgT, zg0, zgS, zsT, zs0, zsS]
    refine wpAnyH_done (by kernel_rfl) ?_ _
    clear hHeld hHeld2 hHeld3 hHeld4
    clear KS
    clear XM lM XY lY XO lO
    generalize wB1 = w5g at B RW XR XA hz ⊢
    have hzn : w5.heap.size ≤ w5g.heap.size := Nat.le_trans hz (Below.size (Below.refl (w5.heap.size) w5g))
    replace B := lF B (Below.refl (w5.heap.size) w5g) hzn
    replace RW := lF RW (Below.refl (w5.heap.size) w5g) hzn
    replace XR := lF XR (Below.refl (w5.heap.size) w5g) hzn
    replace lR := Nat.lt_of_lt_of_le lR hzn
    replace XA := lF XA (Below.refl (w5.heap.size) w5g) hzn
    replace lA := Nat.lt_of_lt_of_le lA hzn
    clear hz
    have hz : w5g.heap.size ≤ w5g.heap.size := Nat.le_refl _
    obtain ⟨kR0, kR1, kR2, kR3, kR4, kR5, kR6, kR7, kR8, kR9, kR10, kR11, kR12⟩ := bk13 (XR.out w5g bR)
    obtain ⟨kA0, kA1, kA2, kA3, kA4, kA5, kA6, kA7, kA8, kA9, kA10, kA11, kA12⟩ := bk13 (XA.out w5g bR)
    go_wp2_with fail
    clear kR0 kR1 kR2 kR3 kR4 kR5 kR6 kR7 kR8 kR9 kR10 kR11 kR12 kA0 kA1 kA2 kA3 kA4 kA5 kA6 kA7 kA8 kA9 kA10 kA11 kA12
    have nR : ¬ (fun b => w2.heap.size + 1 + 1 ≤ b ∧ b ≠ w4.heap.size) (w.heap.size + 1) := by
      intro h
      have h1 : w2.heap.size + 1 + 1 ≤ w.heap.size + 1 := h.1
      have := hw24
      omega
    cases b1
    · have KS : Hid (∀ x, Below (w5g.heap.size) w5g x → x.cell? ⟨w4.heap.size, 0, none⟩ = some (.slice ca cn cc) ∧ x.cell? ⟨w4.heap.size, 1, none⟩ = some (.slice (some ⟨wb, wo, none⟩) wl wc) ∧ x.cell? ⟨w4.heap.size, 2, none⟩ = some (.int .i64 (yn : Nat)) ∧ x.cell? ⟨w4.heap.size, 3, none⟩ = some (.int .i64 (tn : Nat)) ∧ x.cell? ⟨w4.heap.size, 4, none⟩ = some (.int .i64 (on : Nat)) ∧ x.cell? ⟨w4.heap.size, 5, none⟩ = some (.slice da dl dc) ∧ x.cell? ⟨w4.heap.size, 6, none⟩ = some (.slice (some ⟨wb, wo, none⟩) yn wc) ∧ x.cell? ⟨w4.heap.size, 7, none⟩ = some (.int .i64 0) ∧ x.cell? ⟨w4.heap.size, 8, none⟩ = some (.int .i64 (tn : Nat)) ∧ x.cell? ⟨w4.heap.size, 9, none⟩ = some (.slice (some ⟨wb, wo + yn, none⟩) (wl - yn) (wc - yn)) ∧ x.cell? ⟨w4.heap.size, 10, none⟩ = some (.int .i64 (yn : Nat)) ∧ x.cell? ⟨w4.heap.size, 11, none⟩ = some (.int .i64 (ou : Nat)) ∧ x.cell? ⟨w4.heap.size, 12, none⟩ = some (.slice va (T1.length + T2.length) vc)) := fun x hx => bk13 (XA.out x hx)
      refine wp_region_held_drew (S := fun x => x.cell? ⟨w4.heap.size, 0, none⟩ = some (.slice ca cn cc) ∧ x.cell? ⟨w4.heap.size, 1, none⟩ = some (.slice (some ⟨wb, wo, none⟩) wl wc) ∧ x.cell? ⟨w4.heap.size, 2, none⟩ = some (.int .i64 (yn : Nat)) ∧ x.cell? ⟨w4.heap.size, 3, none⟩ = some (.int .i64 (tn : Nat)) ∧ x.cell? ⟨w4.heap.size, 4, none⟩ = some (.int .i64 (on : Nat)) ∧ x.cell? ⟨w4.heap.size, 5, none⟩ = some (.slice da dl dc) ∧ x.cell? ⟨w4.heap.size, 6, none⟩ = some (.slice (some ⟨wb, wo, none⟩) yn wc) ∧ x.cell? ⟨w4.heap.size, 7, none⟩ = some (.int .i64 0) ∧ x.cell? ⟨w4.heap.size, 8, none⟩ = some (.int .i64 (tn : Nat)) ∧ x.cell? ⟨w4.heap.size, 9, none⟩ = some (.slice (some ⟨wb, wo + yn, none⟩) (wl - yn) (wc - yn)) ∧ x.cell? ⟨w4.heap.size, 10, none⟩ = some (.int .i64 (yn : Nat)) ∧ x.cell? ⟨w4.heap.size, 11, none⟩ = some (.int .i64 (ou : Nat)) ∧ x.cell? ⟨w4.heap.size, 12, none⟩ = some (.slice va (T1.length + T2.length) vc)) (by kernel_rfl) ?_ (fun hHeld => ?_)
      · exact KS.out _ (bdrew bR)
      refine tV 0 (v := ?_) rfl (by kernel_rfl) (fun _ _ _ h => h) ?_ (by assumption) ?_
      rotate_left 1
      · (intro x hSx; (try dsimp only at hSx); go_simp; try with_reducible rfl)
      try simp only [Act.put, zgT, zg0, zsT, zs0, zsS]
      refine tV 1 (v := ?_) rfl (by kernel_rfl) (fun _ _ _ h => h) ?_ (by assumption) ?_
      rotate_left 1
      · (intro x hSx; (try dsimp only at hSx); go_simp; try with_reducible rfl)
      try simp only [Act.put, zgT, zg0, zgS, zsT, zs0, zsS]
      refine tV 2 (v := ?_) rfl (by kernel_rfl) (fun _ _ _ h => h) ?_ (by assumption) ?_
      rotate_left 1
      · (intro x hSx; (try dsimp only at hSx); go_simp; try with_reducible rfl)
      try simp only [Act.put, zgT, zg0, zgS, zsT, zs0, zsS]
      refine tU 3 rfl (by kernel_rfl) (fun _ _ _ h => h) (by assumption) ?_
      try simp only [Act.put, zgT, zg0, zgS, zsT, zs0, zsS]
      refine tV 4 (v := ?_) rfl (by kernel_rfl) (fun _ _ _ h => h) ?_ (by assumption) ?_
      rotate_left 1
      · (intro x hSx; (try dsimp only at hSx); go_simp; try with_reducible rfl)
      try simp only [Act.put, zgT, zg0, zgS, zsT, zs0, zsS]
      refine tV 5 (v := ?_) rfl (by kernel_rfl) (fun _ _ _ h => h) ?_ (by assumption) ?_
      rotate_left 1
      · (intro x hSx; (try dsimp only at hSx); go_simp; try with_reducible rfl)
      try simp only [Act.put, zgT, zg0, zgS, zsT, zs0, zsS]
      refine tU 6 rfl (by kernel_rfl) (fun _ _ _ h => h) (by assumption) ?_
      refine tU 7 rfl (by kernel_rfl) (fun _ _ _ h => h) (by assumption) ?_
      refine tU 8 rfl (by kernel_rfl) (fun _ _ _ h => h) (by assumption) ?_
      refine tU 9 rfl (by kernel_rfl) (fun _ _ _ h => h) (by assumption) ?_
      refine tU 10 rfl (by kernel_rfl) (fun _ _ _ h => h) (by assumption) ?_
      refine tU 11 rfl (by kernel_rfl) (fun _ _ _ h => h) (by assumption) ?_
      try simp only [Act.put, zgT, zg0, zgS, zsT, zs0, zsS]
      refine tV 12 (v := ?_) rfl (by kernel_rfl) (fun _ _ _ h => h) ?_ (by assumption) ?_
      rotate_left 1
      · (intro x hSx; (try dsimp only at hSx); go_simp; try with_reducible rfl)
      try simp only [Act.put, zgT, zg0, zgS, zsT, zs0, zsS]
      refine wpAnyH_ready (rs := [13]) (by kernel_rfl) (by simp) ?_
      refine AllReadyH.cons rfl (fun K hK => ?_) AllReadyH.nil
      obtain ⟨kR0, kR1, kR2, kR3, kR4, kR5, kR6, kR7, kR8, kR9, kR10, kR11, kR12⟩ := bk13 (XR.out w5g bR)
      obtain ⟨qkR0, qkR1, qkR2, qkR3, qkR4, qkR5, qkR6, qkR7, qkR8, qkR9, qkR10, qkR11, qkR12⟩ := bq13 (XR.out w5g bR)
      go_simp
      clear kR0 kR1 kR2 kR3 kR4 kR5 kR6 kR7 kR8 kR9 kR10 kR11 kR12 qkR0 qkR1 qkR2 qkR3 qkR4 qkR5 qkR6 qkR7 qkR8 qkR9 qkR10 qkR11 qkR12
      generalize hW : (((((((((((((w5g.setCell ⟨w.heap.size + 1, 0, none⟩ (.slice ca cn cc)).setCell ⟨w.heap.size + 1, 1, none⟩ (.slice (some ⟨wb, wo, none⟩) wl wc)).setCell ⟨w.heap.size + 1, 2, none⟩ (.int .i64 (yn : Nat))).setCell ⟨w.heap.size + 1, 3, none⟩ (.int .i64 (tn : Nat))).setCell ⟨w.heap.size + 1, 4, none⟩ (.int .i64 (on : Nat))).setCell ⟨w.heap.size + 1, 5, none⟩ (.slice da dl dc)).setCell ⟨w.heap.size + 1, 6, none⟩ (.slice (some ⟨wb, wo, none⟩) yn wc)).setCell ⟨w.heap.size + 1, 7, none⟩ (.int .i64 0)).setCell ⟨w.heap.size + 1, 8, none⟩ (.int .i64 (tn : Nat))).setCell ⟨w.heap.size + 1, 9, none⟩ (.slice (some ⟨wb, wo + yn, none⟩) (wl - yn) (wc - yn))).setCell ⟨w.heap.size + 1, 10, none⟩ (.int .i64 (yn : Nat))).setCell ⟨w.heap.size + 1, 11, none⟩ (.int .i64 (ou : Nat))).setCell ⟨w.heap.size + 1, 12, none⟩ (.slice va (T1.length + T2.length) vc)) = wB2
      have hkB : ∀ a, a ≠ w.heap.size + 1 → wB2.heap[a]? = w5g.heap[a]? := by subst hW; exact fun a h => keep13 h
      have hw0 : w.heap.size ≤ w.heap.size + 1 := (by first | omega | (simp; done) | (simp; omega) | (simp at *; omega))
      replace XA := lS XA lA wB2 (hkB _ (by first | omega | (simp; done) | (simp; omega)))
      replace XR : Hid (∀ y, Below (w5g.heap.size) wB2 y → y.heap[w.heap.size + 1]? = some (.cells #[.slice ca cn cc, .slice (some ⟨wb, wo, none⟩) wl wc, .int .i64 (yn : Nat), .int .i64 (tn : Nat), .int .i64 (on : Nat), .slice da dl dc, .slice (some ⟨wb, wo, none⟩) yn wc, .int .i64 0, .int .i64 (tn : Nat), .slice (some ⟨wb, wo + yn, none⟩) (wl - yn) (wc - yn), .int .i64 (yn : Nat), .int .i64 (ou : Nat), .slice va (T1.length + T2.length) vc] 65 (0, 0))) := fun y hy => by subst hW; exact (hy.block _ (by omega)).trans (box13 (XR.out w5g bR) rfl _ _ _ _ _ _ _ _ _ _ _ _ _)
      replace RW : Hid (∀ y, Below (w5g.heap.size) wB2 y → ThRow (fun b => w2.heap.size + 1 + 1 ≤ b ∧ b ≠ w4.heap.size) y (.slice va (T1.length + T2.length) vc) (T1 ++ T2)) := fun y hy => by subst hW; exact ((((((((((((((RW.out w5g (bR)).box _ _ nR).box _ _ nR).box _ _ nR).box _ _ nR).box _ _ nR).box _ _ nR).box _ _ nR).box _ _ nR).box _ _ nR).box _ _ nR).box _ _ nR).box _ _ nR).box _ _ nR).later (hy.mono (by simp))
      clear KS
      replace B : Hid (∀ y, Below (w5g.heap.size) wB2 y → Below w.heap.size w y) := fun y hy => by subst hW; exact ((((((((((((((B.out w5g bR).setCell hw0 _).setCell hw0 _).setCell hw0 _).setCell hw0 _).setCell hw0 _).setCell hw0 _).setCell hw0 _).setCell hw0 _).setCell hw0 _).setCell hw0 _).setCell hw0 _).setCell hw0 _).setCell hw0 _).trans (hy.mono (by first | omega | exact Nat.le_trans (B.out w5g bR).size hz | (have := (B.out w5g bR).size; omega)))
      replace hz : w5g.heap.size ≤ wB2.heap.size := by subst hW; first | (simp; done) | simpa using hz
      clear hw0 hW hkB
      replace B := lD B
      replace RW := lD RW
      replace XR := lD XR
      replace XA := lD XA
      replace hz : w5g.heap.size ≤ (wB2.drew).heap.size := Nat.le_trans hz (Below.size (bdrew (Below.refl (w5g.heap.size) wB2)))
      have KS : Hid (∀ x, Below (w5g.heap.size) (wB2.drew) x → x.cell? ⟨w4.heap.size, 0, none⟩ = some (.slice ca cn cc) ∧ x.cell? ⟨w4.heap.size, 1, none⟩ = some (.slice (some ⟨wb, wo, none⟩) wl wc) ∧ x.cell? ⟨w4.heap.size, 2, none⟩ = some (.int .i64 (yn : Nat)) ∧ x.cell? ⟨w4.heap.size, 3, none⟩ = some (.int .i64 (tn : Nat)) ∧ x.cell? ⟨w4.heap.size, 4, none⟩ = some (.int .i64 (on : Nat)) ∧ x.cell? ⟨w4.heap.size, 5, none⟩ = some (.slice da dl dc) ∧ x.cell? ⟨w4.heap.size, 6, none⟩ = some (.slice (some ⟨wb, wo, none⟩) yn wc) ∧ x.cell? ⟨w4.heap.size, 7, none⟩ = some (.int .i64 0) ∧ x.cell? ⟨w4.heap.size, 8, none⟩ = some (.int .i64 (tn : Nat)) ∧ x.cell? ⟨w4.heap.size, 9, none⟩ = some (.slice (some ⟨wb, wo + yn, none⟩) (wl - yn) (wc - yn)) ∧ x.cell? ⟨w4.heap.size, 10, none⟩ = some (.int .i64 (yn : Nat)) ∧ x.cell? ⟨w4.heap.size, 11, none⟩ = some (.int .i64 (ou : Nat)) ∧ x.cell? ⟨w4.heap.size, 12, none⟩ = some (.slice va (T1.length + T2.length) vc)) := fun x hx => bk13 (XA.out x hx)
      refine hK.out _ _ (KS.out _ bR) (fun hHeld2 => ?_)
      clear hK K
      try simp only [Act.put, zgT, zg0, zgS, zsT, zs0, zsS]
      refine tV 14 (v := ?_) rfl (by kernel_rfl) (fun _ _ _ h => h) ?_ (by assumption) ?_
      rotate_left 1
      · (intro x hSx; (try dsimp only at hSx); go_simp; try with_reducible rfl)
      try simp only [Act.put, zgT, zg0, zgS, zsT, zs0, zsS]
      refine wpAnyH_done (by kernel_rfl) ?_ _
      clear hHeld hHeld2
      clear KS
      have RF : Hid (ThRow (fun b => w.heap.size ≤ b) ((wB2.drew)) (.slice va (T1.length + T2.length) vc) (T1 ++ T2)) := ThRow.mono (RW.out _ (bR)) (fun b hb _ => by have h1 := hb.1; omega)
      have BF : Hid (Below w.heap.size w ((wB2.drew))) := B.out _ (bR)
      have XC : Hid (((wB2.drew)).heap[w.heap.size + 1]? = some (.cells #[.slice ca cn cc, .slice (some ⟨wb, wo, none⟩) wl wc, .int .i64 (yn : Nat), .int .i64 (tn : Nat), .int .i64 (on : Nat), .slice da dl dc, .slice (some ⟨wb, wo, none⟩) yn wc, .int .i64 0, .int .i64 (tn : Nat), .slice (some ⟨wb, wo + yn, none⟩) (wl - yn) (wc - yn), .int .i64 (yn : Nat), .int .i64 (ou : Nat), .slice va (T1.length + T2.length) vc] 65 (0, 0))) := XR.out _ (bR)
      clear B RW XR XA hz
      generalize (wB2.drew) = wF at RF BF XC ⊢
      have kR0 : wF.cell? ⟨w.heap.size + 1, 0, none⟩ = some (.slice ca cn cc) := (boxG XC.out 0).1
      have kR1 : wF.cell? ⟨w.heap.size + 1, 1, none⟩ = some (.slice (some ⟨wb, wo, none⟩) wl wc) := (boxG XC.out 1).1
      have kR2 : wF.cell? ⟨w.heap.size + 1, 2, none⟩ = some (.int .i64 (yn : Nat)) := (boxG XC.out 2).1
      have kR3 : wF.cell? ⟨w.heap.size + 1, 3, none⟩ = some (.int .i64 (tn : Nat)) := (boxG XC.out 3).1
      have kR4 : wF.cell? ⟨w.heap.size + 1, 4, none⟩ = some (.int .i64 (on : Nat)) := (boxG XC.out 4).1
      have kR5 : wF.cell? ⟨w.heap.size + 1, 5, none⟩ = some (.slice da dl dc) := (boxG XC.out 5).1
      have kR6 : wF.cell? ⟨w.heap.size + 1, 6, none⟩ = some (.slice (some ⟨wb, wo, none⟩) yn wc) := (boxG XC.out 6).1
      have kR7 : wF.cell? ⟨w.heap.size + 1, 7, none⟩ = some (.int .i64 0) := (boxG XC.out 7).1
      have kR8 : wF.cell? ⟨w.heap.size + 1, 8, none⟩ = some (.int .i64 (tn : Nat)) := (boxG XC.out 8).1
      have kR9 : wF.cell? ⟨w.heap.size + 1, 9, none⟩ = some (.slice (some ⟨wb, wo + yn, none⟩) (wl - yn) (wc - yn)) := (boxG XC.out 9).1
      have kR10 : wF.cell? ⟨w.heap.size + 1, 10, none⟩ = some (.int .i64 (yn : Nat)) := (boxG XC.out 10).1
      have kR11 : wF.cell? ⟨w.heap.size + 1, 11, none⟩ = some (.int .i64 (ou : Nat)) := (boxG XC.out 11).1
      have kR12 : wF.cell? ⟨w.heap.size + 1, 12, none⟩ = some (.slice va (T1.length + T2.length) vc) := (boxG XC.out 12).1
      rename_i K0 hK0
      refine hK0 _ _ (wp_ret ?_)
      refine bodyPost_ret (v := .tuple #[.agg #[.slice ca cn cc, .slice (some ⟨wb, wo, none⟩) wl wc, .int .i64 (yn : Nat), .int .i64 (tn : Nat), .int .i64 (on : Nat), .slice da dl dc, .slice (some ⟨wb, wo, none⟩) yn wc, .int .i64 0, .int .i64 (tn : Nat), .slice (some ⟨wb, wo + yn, none⟩) (wl - yn) (wc - yn), .int .i64 (yn : Nat), .int .i64 (ou : Nat), .slice va (T1.length + T2.length) vc], .bool false]) ?_ rfl ?_
      · simp [results, Tryz.results34, go_sem, kR0, kR1, kR2, kR3, kR4, kR5, kR6, kR7, kR8, kR9, kR10, kR11, kR12]
      · refine ⟨?_, ?_, BF.out⟩
        · intro _
          exact ⟨_, _, _, _, _, _, _, _, _, _, _, _, _, _, _, _, _, _, _, _, _, _, _, _, _, rfl⟩
        · intro h
          rw [memB_walk (by rw [B1.out]; rfl)] at h
          cases h
    cases b2
    · have KS : Hid (∀ x, Below (w5g.heap.size) w5g x → x.cell? ⟨w4.heap.size, 0, none⟩ = some (.slice ca cn cc) ∧ x.cell? ⟨w4.heap.size, 1, none⟩ = some (.slice (some ⟨wb, wo, none⟩) wl wc) ∧ x.cell? ⟨w4.heap.size, 2, none⟩ = some (.int .i64 (yn : Nat)) ∧ x.cell? ⟨w4.heap.size, 3, none⟩ = some (.int .i64 (tn : Nat)) ∧ x.cell? ⟨w4.heap.size, 4, none⟩ = some (.int .i64 (on : Nat)) ∧ x.cell? ⟨w4.heap.size, 5, none⟩ = some (.slice da dl dc) ∧ x.cell? ⟨w4.heap.size, 6, none⟩ = some (.slice (some ⟨wb, wo, none⟩) yn wc) ∧ x.cell? ⟨w4.heap.size, 7, none⟩ = some (.int .i64 0) ∧ x.cell? ⟨w4.heap.size, 8, none⟩ = some (.int .i64 (tn : Nat)) ∧ x.cell? ⟨w4.heap.size, 9, none⟩ = some (.slice (some ⟨wb, wo + yn, none⟩) (wl - yn) (wc - yn)) ∧ x.cell? ⟨w4.heap.size, 10, none⟩ = some (.int .i64 (yn : Nat)) ∧ x.cell? ⟨w4.heap.size, 11, none⟩ = some (.int .i64 (ou : Nat)) ∧ x.cell? ⟨w4.heap.size, 12, none⟩ = some (.slice va (T1.length + T2.length) vc)) := fun x hx => bk13 (XA.out x hx)
      refine wp_region_held_drew (S := fun x => x.cell? ⟨w4.heap.size, 0, none⟩ = some (.slice ca cn cc) ∧ x.cell? ⟨w4.heap.size, 1, none⟩ = some (.slice (some ⟨wb, wo, none⟩) wl wc) ∧ x.cell? ⟨w4.heap.size, 2, none⟩ = some (.int .i64 (yn : Nat)) ∧ x.cell? ⟨w4.heap.size, 3, none⟩ = some (.int .i64 (tn : Nat)) ∧ x.cell? ⟨w4.heap.size, 4, none⟩ = some (.int .i64 (on : Nat)) ∧ x.cell? ⟨w4.heap.size, 5, none⟩ = some (.slice da dl dc) ∧ x.cell? ⟨w4.heap.size, 6, none⟩ = some (.slice (some ⟨wb, wo, none⟩) yn wc) ∧ x.cell? ⟨w4.heap.size, 7, none⟩ = some (.int .i64 0) ∧ x.cell? ⟨w4.heap.size, 8, none⟩ = some (.int .i64 (tn : Nat)) ∧ x.cell? ⟨w4.heap.size, 9, none⟩ = some (.slice (some ⟨wb, wo + yn, none⟩) (wl - yn) (wc - yn)) ∧ x.cell? ⟨w4.heap.size, 10, none⟩ = some (.int .i64 (yn : Nat)) ∧ x.cell? ⟨w4.heap.size, 11, none⟩ = some (.int .i64 (ou : Nat)) ∧ x.cell? ⟨w4.heap.size, 12, none⟩ = some (.slice va (T1.length + T2.length) vc)) (by kernel_rfl) ?_ (fun hHeld => ?_)
      · exact KS.out _ (bdrew bR)
      refine tV 0 (v := ?_) rfl (by kernel_rfl) (fun _ _ _ h => h) ?_ (by assumption) ?_
      rotate_left 1
      · (intro x hSx; (try dsimp only at hSx); go_simp; try with_reducible rfl)
      try simp only [Act.put, zgT, zg0, zsT, zs0, zsS]
      refine tV 1 (v := ?_) rfl (by kernel_rfl) (fun _ _ _ h => h) ?_ (by assumption) ?_
      rotate_left 1
      · (intro x hSx; (try dsimp only at hSx); go_simp; try with_reducible rfl)
      try simp only [Act.put, zgT, zg0, zgS, zsT, zs0, zsS]
      refine tV 2 (v := ?_) rfl (by kernel_rfl) (fun _ _ _ h => h) ?_ (by assumption) ?_
      rotate_left 1
      · (intro x hSx; (try dsimp only at hSx); go_simp; try with_reducible rfl)
      try simp only [Act.put, zgT, zg0, zgS, zsT, zs0, zsS]
      refine tV 3 (v := ?_) rfl (by kernel_rfl) (fun _ _ _ h => h) ?_ (by assumption) ?_
      rotate_left 1
      · (intro x hSx; (try dsimp only at hSx); go_simp; try with_reducible rfl)
      try simp only [Act.put, zgT, zg0, zgS, zsT, zs0, zsS]
      refine tV 4 (v := ?_) rfl (by kernel_rfl) (fun _ _ _ h => h) ?_ (by assumption) ?_
      rotate_left 1
      · (intro x hSx; (try dsimp only at hSx); go_simp; try with_reducible rfl)
      try simp only [Act.put, zgT, zg0, zgS, zsT, zs0, zsS]
      refine tV 5 (v := ?_) rfl (by kernel_rfl) (fun _ _ _ h => h) ?_ (by assumption) ?_
      rotate_left 1
      · (intro x hSx; (try dsimp only at hSx); go_simp; try with_reducible rfl)
      try simp only [Act.put, zgT, zg0, zgS, zsT, zs0, zsS]
      refine tU 6 rfl (by kernel_rfl) (fun _ _ _ h => h) (by assumption) ?_
      refine tU 7 rfl (by kernel_rfl) (fun _ _ _ h => h) (by assumption) ?_
      refine tU 8 rfl (by kernel_rfl) (fun _ _ _ h => h) (by assumption) ?_
      refine tU 9 rfl (by kernel_rfl) (fun _ _ _ h => h) (by assumption) ?_
      refine tU 10 rfl (by kernel_rfl) (fun _ _ _ h => h) (by assumption) ?_
      refine tU 11 rfl (by kernel_rfl) (fun _ _ _ h => h) (by assumption) ?_
      try simp only [Act.put, zgT, zg0, zgS, zsT, zs0, zsS]
      refine tV 12 (v := ?_) rfl (by kernel_rfl) (fun _ _ _ h => h) ?_ (by assumption) ?_
      rotate_left 1
      · (intro x hSx; (try dsimp only at hSx); go_simp; try with_reducible rfl)
      try simp only [Act.put, zgT, zg0, zgS, zsT, zs0, zsS]
      refine wpAnyH_ready (rs := [13]) (by kernel_rfl) (by simp) ?_
      refine AllReadyH.cons rfl (fun K hK => ?_) AllReadyH.nil
      obtain ⟨kR0, kR1, kR2, kR3, kR4, kR5, kR6, kR7, kR8, kR9, kR10, kR11, kR12⟩ := bk13 (XR.out w5g bR)
      obtain ⟨qkR0, qkR1, qkR2, qkR3, qkR4, qkR5, qkR6, qkR7, qkR8, qkR9, qkR10, qkR11, qkR12⟩ := bq13 (XR.out w5g bR)
      go_simp
      clear kR0 kR1 kR2 kR3 kR4 kR5 kR6 kR7 kR8 kR9 kR10 kR11 kR12 qkR0 qkR1 qkR2 qkR3 qkR4 qkR5 qkR6 qkR7 qkR8 qkR9 qkR10 qkR11 qkR12
      generalize hW : (((((((((((((w5g.setCell ⟨w.heap.size + 1, 0, none⟩ (.slice ca cn cc)).setCell ⟨w.heap.size + 1, 1, none⟩ (.slice (some ⟨wb, wo, none⟩) wl wc)).setCell ⟨w.heap.size + 1, 2, none⟩ (.int .i64 (yn : Nat))).setCell ⟨w.heap.size + 1, 3, none⟩ (.int .i64 (tn : Nat))).setCell ⟨w.heap.size + 1, 4, none⟩ (.int .i64 (on : Nat))).setCell ⟨w.heap.size + 1, 5, none⟩ (.slice da dl dc)).setCell ⟨w.heap.size + 1, 6, none⟩ (.slice (some ⟨wb, wo, none⟩) yn wc)).setCell ⟨w.heap.size + 1, 7, none⟩ (.int .i64 0)).setCell ⟨w.heap.size + 1, 8, none⟩ (.int .i64 (tn : Nat))).setCell ⟨w.heap.size + 1, 9, none⟩ (.slice (some ⟨wb, wo + yn, none⟩) (wl - yn) (wc - yn))).setCell ⟨w.heap.size + 1, 10, none⟩ (.int .i64 (yn : Nat))).setCell ⟨w.heap.size + 1, 11, none⟩ (.int .i64 (ou : Nat))).setCell ⟨w.heap.size + 1, 12, none⟩ (.slice va (T1.length + T2.length) vc)) = wB2
      have hkB : ∀ a, a ≠ w.heap.size + 1 → wB2.heap[a]? = w5g.heap[a]? := by subst hW; exact fun a h => keep13 h
      have hw0 : w.heap.size ≤ w.heap.size + 1 := (by first | omega | (simp; done) | (simp; omega) | (simp at *; omega))
      replace XA := lS XA lA wB2 (hkB _ (by first | omega | (simp; done) | (simp; omega)))
      replace XR : Hid (∀ y, Below (w5g.heap.size) wB2 y → y.heap[w.heap.size + 1]? = some (.cells #[.slice ca cn cc, .slice (some ⟨wb, wo, none⟩) wl wc, .int .i64 (yn : Nat), .int .i64 (tn : Nat), .int .i64 (on : Nat), .slice da dl dc, .slice (some ⟨wb, wo, none⟩) yn wc, .int .i64 0, .int .i64 (tn : Nat), .slice (some ⟨wb, wo + yn, none⟩) (wl - yn) (wc - yn), .int .i64 (yn : Nat), .int .i64 (ou : Nat), .slice va (T1.length + T2.length) vc] 65 (0, 0))) := fun y hy => by subst hW; exact (hy.block _ (by omega)).trans (box13 (XR.out w5g bR) rfl _ _ _ _ _ _ _ _ _ _ _ _ _)
      replace RW : Hid (∀ y, Below (w5g.heap.size) wB2 y → ThRow (fun b => w2.heap.size + 1 + 1 ≤ b ∧ b ≠ w4.heap.size) y (.slice va (T1.length + T2.length) vc) (T1 ++ T2)) := fun y hy => by subst hW; exact ((((((((((((((RW.out w5g (bR)).box _ _ nR).box _ _ nR).box _ _ nR).box _ _ nR).box _ _ nR).box _ _ nR).box _ _ nR).box _ _ nR).box _ _ nR).box _ _ nR).box _ _ nR).box _ _ nR).box _ _ nR).later (hy.mono (by simp))
      clear KS
      replace B : Hid (∀ y, Below (w5g.heap.size) wB2 y → Below w.heap.size w y) := fun y hy => by subst hW; exact ((((((((((((((B.out w5g bR).setCell hw0 _).setCell hw0 _).setCell hw0 _).setCell hw0 _).setCell hw0 _).setCell hw0 _).setCell hw0 _).setCell hw0 _).setCell hw0 _).setCell hw0 _).setCell hw0 _).setCell hw0 _).setCell hw0 _).trans (hy.mono (by first | omega | exact Nat.le_trans (B.out w5g bR).size hz | (have := (B.out w5g bR).size; omega)))
      replace hz : w5g.heap.size ≤ wB2.heap.size := by subst hW; first | (simp; done) | simpa using hz
      clear hw0 hW hkB
      replace B := lD B
      replace RW := lD RW
      replace XR := lD XR
      replace XA := lD XA
      replace hz : w5g.heap.size ≤ (wB2.drew).heap.size := Nat.le_trans hz (Below.size (bdrew (Below.refl (w5g.heap.size) wB2)))
      have KS : Hid (∀ x, Below (w5g.heap.size) (wB2.drew) x → x.cell? ⟨w4.heap.size, 0, none⟩ = some (.slice ca cn cc) ∧ x.cell? ⟨w4.heap.size, 1, none⟩ = some (.slice (some ⟨wb, wo, none⟩) wl wc) ∧ x.cell? ⟨w4.heap.size, 2, none⟩ = some (.int .i64 (yn : Nat)) ∧ x.cell? ⟨w4.heap.size, 3, none⟩ = some (.int .i64 (tn : Nat)) ∧ x.cell? ⟨w4.heap.size, 4, none⟩ = some (.int .i64 (on : Nat)) ∧ x.cell? ⟨w4.heap.size, 5, none⟩ = some (.slice da dl dc) ∧ x.cell? ⟨w4.heap.size, 6, none⟩ = some (.slice (some ⟨wb, wo, none⟩) yn wc) ∧ x.cell? ⟨w4.heap.size, 7, none⟩ = some (.int .i64 0) ∧ x.cell? ⟨w4.heap.size, 8, none⟩ = some (.int .i64 (tn : Nat)) ∧ x.cell? ⟨w4.heap.size, 9, none⟩ = some (.slice (some ⟨wb, wo + yn, none⟩) (wl - yn) (wc - yn)) ∧ x.cell? ⟨w4.heap.size, 10, none⟩ = some (.int .i64 (yn : Nat)) ∧ x.cell? ⟨w4.heap.size, 11, none⟩ = some (.int .i64 (ou : Nat)) ∧ x.cell? ⟨w4.heap.size, 12, none⟩ = some (.slice va (T1.length + T2.length) vc)) := fun x hx => bk13 (XA.out x hx)
      refine hK.out _ _ (KS.out _ bR) (fun hHeld2 => ?_)
      clear hK K
      try simp only [Act.put, zgT, zg0, zgS, zsT, zs0, zsS]
      refine tV 14 (v := ?_) rfl (by kernel_rfl) (fun _ _ _ h => h) ?_ (by assumption) ?_
      rotate_left 1
      · (intro x hSx; (try dsimp only at hSx); go_simp; try with_reducible rfl)
      try simp only [Act.put, zgT, zg0, zgS, zsT, zs0, zsS]
      refine wpAnyH_done (by kernel_rfl) ?_ _
      clear hHeld hHeld2
      clear KS
      have RF : Hid (ThRow (fun b => w.heap.size ≤ b) ((wB2.drew)) (.slice va (T1.length + T2.length) vc) (T1 ++ T2)) := ThRow.mono (RW.out _ (bR)) (fun b hb _ => by have h1 := hb.1; omega)
      have BF : Hid (Below w.heap.size w ((wB2.drew))) := B.out _ (bR)
      have XC : Hid (((wB2.drew)).heap[w.heap.size + 1]? = some (.cells #[.slice ca cn cc, .slice (some ⟨wb, wo, none⟩) wl wc, .int .i64 (yn : Nat), .int .i64 (tn : Nat), .int .i64 (on : Nat), .slice da dl dc, .slice (some ⟨wb, wo, none⟩) yn wc, .int .i64 0, .int .i64 (tn : Nat), .slice (some ⟨wb, wo + yn, none⟩) (wl - yn) (wc - yn), .int .i64 (yn : Nat), .int .i64 (ou : Nat), .slice va (T1.length + T2.length) vc] 65 (0, 0))) := XR.out _ (bR)
      clear B RW XR XA hz
      generalize (wB2.drew) = wF at RF BF XC ⊢
      have kR0 : wF.cell? ⟨w.heap.size + 1, 0, none⟩ = some (.slice ca cn cc) := (boxG XC.out 0).1
      have kR1 : wF.cell? ⟨w.heap.size + 1, 1, none⟩ = some (.slice (some ⟨wb, wo, none⟩) wl wc) := (boxG XC.out 1).1
      have kR2 : wF.cell? ⟨w.heap.size + 1, 2, none⟩ = some (.int .i64 (yn : Nat)) := (boxG XC.out 2).1
      have kR3 : wF.cell? ⟨w.heap.size + 1, 3, none⟩ = some (.int .i64 (tn : Nat)) := (boxG XC.out 3).1
      have kR4 : wF.cell? ⟨w.heap.size + 1, 4, none⟩ = some (.int .i64 (on : Nat)) := (boxG XC.out 4).1
      have kR5 : wF.cell? ⟨w.heap.size + 1, 5, none⟩ = some (.slice da dl dc) := (boxG XC.out 5).1
      have kR6 : wF.cell? ⟨w.heap.size + 1, 6, none⟩ = some (.slice (some ⟨wb, wo, none⟩) yn wc) := (boxG XC.out 6).1
      have kR7 : wF.cell? ⟨w.heap.size + 1, 7, none⟩ = some (.int .i64 0) := (boxG XC.out 7).1
      have kR8 : wF.cell? ⟨w.heap.size + 1, 8, none⟩ = some (.int .i64 (tn : Nat)) := (boxG XC.out 8).1
      have kR9 : wF.cell? ⟨w.heap.size + 1, 9, none⟩ = some (.slice (some ⟨wb, wo + yn, none⟩) (wl - yn) (wc - yn)) := (boxG XC.out 9).1
      have kR10 : wF.cell? ⟨w.heap.size + 1, 10, none⟩ = some (.int .i64 (yn : Nat)) := (boxG XC.out 10).1
      have kR11 : wF.cell? ⟨w.heap.size + 1, 11, none⟩ = some (.int .i64 (ou : Nat)) := (boxG XC.out 11).1
      have kR12 : wF.cell? ⟨w.heap.size + 1, 12, none⟩ = some (.slice va (T1.length + T2.length) vc) := (boxG XC.out 12).1
      rename_i K0 hK0
      refine hK0 _ _ (wp_ret ?_)
      refine bodyPost_ret (v := .tuple #[.agg #[.slice ca cn cc, .slice (some ⟨wb, wo, none⟩) wl wc, .int .i64 (yn : Nat), .int .i64 (tn : Nat), .int .i64 (on : Nat), .slice da dl dc, .slice (some ⟨wb, wo, none⟩) yn wc, .int .i64 0, .int .i64 (tn : Nat), .slice (some ⟨wb, wo + yn, none⟩) (wl - yn) (wc - yn), .int .i64 (yn : Nat), .int .i64 (ou : Nat), .slice va (T1.length + T2.length) vc], .bool false]) ?_ rfl ?_
      · simp [results, Tryz.results34, go_sem, kR0, kR1, kR2, kR3, kR4, kR5, kR6, kR7, kR8, kR9, kR10, kR11, kR12]
      · refine ⟨?_, ?_, BF.out⟩
        · intro _
          exact ⟨_, _, _, _, _, _, _, _, _, _, _, _, _, _, _, _, _, _, _, _, _, _, _, _, _, rfl⟩
        · intro h
          rw [memB_walk (by rw [B1.out, B2.out]; rfl)] at h
          cases h
    have KS : Hid (∀ x, Below (w5g.heap.size) w5g x → x.cell? ⟨w4.heap.size, 0, none⟩ = some (.slice ca cn cc) ∧ x.cell? ⟨w4.heap.size, 1, none⟩ = some (.slice (some ⟨wb, wo, none⟩) wl wc) ∧ x.cell? ⟨w4.heap.size, 2, none⟩ = some (.int .i64 (yn : Nat)) ∧ x.cell? ⟨w4.heap.size, 3, none⟩ = some (.int .i64 (tn : Nat)) ∧ x.cell? ⟨w4.heap.size, 4, none⟩ = some (.int .i64 (on : Nat)) ∧ x.cell? ⟨w4.heap.size, 5, none⟩ = some (.slice da dl dc) ∧ x.cell? ⟨w4.heap.size, 6, none⟩ = some (.slice (some ⟨wb, wo, none⟩) yn wc) ∧ x.cell? ⟨w4.heap.size, 7, none⟩ = some (.int .i64 0) ∧ x.cell? ⟨w4.heap.size, 8, none⟩ = some (.int .i64 (tn : Nat)) ∧ x.cell? ⟨w4.heap.size, 9, none⟩ = some (.slice (some ⟨wb, wo + yn, none⟩) (wl - yn) (wc - yn)) ∧ x.cell? ⟨w4.heap.size, 10, none⟩ = some (.int .i64 (yn : Nat)) ∧ x.cell? ⟨w4.heap.size, 11, none⟩ = some (.int .i64 (ou : Nat)) ∧ x.cell? ⟨w4.heap.size, 12, none⟩ = some (.slice va (T1.length + T2.length) vc)) := fun x hx => bk13 (XA.out x hx)
    refine wp_region_held_drew (S := fun x => x.cell? ⟨w4.heap.size, 0, none⟩ = some (.slice ca cn cc) ∧ x.cell? ⟨w4.heap.size, 1, none⟩ = some (.slice (some ⟨wb, wo, none⟩) wl wc) ∧ x.cell? ⟨w4.heap.size, 2, none⟩ = some (.int .i64 (yn : Nat)) ∧ x.cell? ⟨w4.heap.size, 3, none⟩ = some (.int .i64 (tn : Nat)) ∧ x.cell? ⟨w4.heap.size, 4, none⟩ = some (.int .i64 (on : Nat)) ∧ x.cell? ⟨w4.heap.size, 5, none⟩ = some (.slice da dl dc) ∧ x.cell? ⟨w4.heap.size, 6, none⟩ = some (.slice (some ⟨wb, wo, none⟩) yn wc) ∧ x.cell? ⟨w4.heap.size, 7, none⟩ = some (.int .i64 0) ∧ x.cell? ⟨w4.heap.size, 8, none⟩ = some (.int .i64 (tn : Nat)) ∧ x.cell? ⟨w4.heap.size, 9, none⟩ = some (.slice (some ⟨wb, wo + yn, none⟩) (wl - yn) (wc - yn)) ∧ x.cell? ⟨w4.heap.size, 10, none⟩ = some (.int .i64 (yn : Nat)) ∧ x.cell? ⟨w4.heap.size, 11, none⟩ = some (.int .i64 (ou : Nat)) ∧ x.cell? ⟨w4.heap.size, 12, none⟩ = some (.slice va (T1.length + T2.length) vc)) (by kernel_rfl) ?_ (fun hHeld => ?_)
    · exact KS.out _ (bdrew bR)
    refine tV 0 (v := ?_) rfl (by kernel_rfl) (fun _ _ _ h => h) ?_ (by assumption) ?_
    rotate_left 1
    · (intro x hSx; (try dsimp only at hSx); go_simp; try with_reducible rfl)
    try simp only [Act.put, zgT, zg0, zsT, zs0, zsS]
    refine tV 1 (v := ?_) rfl (by kernel_rfl) (fun _ _ _ h => h) ?_ (by assumption) ?_
    rotate_left 1
    · (intro x hSx; (try dsimp only at hSx); go_simp; try with_reducible rfl)
    try simp only [Act.put, zgT, zg0, zgS, zsT, zs0, zsS]
    refine tV 2 (v := ?_) rfl (by kernel_rfl) (fun _ _ _ h => h) ?_ (by assumption) ?_
    rotate_left 1
    · (intro x hSx; (try dsimp only at hSx); go_simp; try with_reducible rfl)
    try simp only [Act.put, zgT, zg0, zgS, zsT, zs0, zsS]
    refine tV 3 (v := ?_) rfl (by kernel_rfl) (fun _ _ _ h => h) ?_ (by assumption) ?_
    rotate_left 1
    · (intro x hSx; (try dsimp only at hSx); go_simp; try with_reducible rfl)
    try simp only [Act.put, zgT, zg0, zgS, zsT, zs0, zsS]
    refine tV 4 (v := ?_) rfl (by kernel_rfl) (fun _ _ _ h => h) ?_ (by assumption) ?_
    rotate_left 1
    · (intro x hSx; (try dsimp only at hSx); go_simp; try with_reducible rfl)
    try simp only [Act.put, zgT, zg0, zgS, zsT, zs0, zsS]
    refine tV 5 (v := ?_) rfl (by kernel_rfl) (fun _ _ _ h => h) ?_ (by assumption) ?_
    rotate_left 1
    · (intro x hSx; (try dsimp only at hSx); go_simp; try with_reducible rfl)
    try simp only [Act.put, zgT, zg0, zgS, zsT, zs0, zsS]
    refine tV 6 (v := ?_) rfl (by kernel_rfl) (fun _ _ _ h => h) ?_ (by assumption) ?_
    rotate_left 1
    · (intro x hSx; (try dsimp only at hSx); go_simp; try with_reducible rfl)
    try simp only [Act.put, zgT, zg0, zgS, zsT, zs0, zsS]
    refine tV 7 (v := ?_) rfl (by kernel_rfl) (fun _ _ _ h => h) ?_ (by assumption) ?_
    rotate_left 1
    · (intro x hSx; (try dsimp only at hSx); go_simp; try with_reducible rfl)
    try simp only [Act.put, zgT, zg0, zgS, zsT, zs0, zsS]
    refine tV 8 (v := ?_) rfl (by kernel_rfl) (fun _ _ _ h => h) ?_ (by assumption) ?_
    rotate_left 1
    · (intro x hSx; (try dsimp only at hSx); go_simp; try with_reducible rfl)
    try simp only [Act.put, zgT, zg0, zgS, zsT, zs0, zsS]
    refine tV 9 (v := ?_) rfl (by kernel_rfl) (fun _ _ _ h => h) ?_ (by assumption) ?_
    rotate_left 1
    · (intro x hSx; (try dsimp only at hSx); go_simp; try with_reducible rfl)
    try simp only [Act.put, zgT, zg0, zgS, zsT, zs0, zsS]
    refine wpAnyH_ready (rs := [10]) (by kernel_rfl) (by simp) ?_
    refine AllReadyH.cons rfl (fun K hK => ?_) AllReadyH.nil
    go_simp
    have BP : Hid (Below (w5g.heap.size) w5g (w5g.drew.alloc (.cells #[.func (.func 68) #[.agg #[.slice ca cn cc, .slice (some ⟨wb, wo, none⟩) wl wc, .int .i64 (yn : Nat), .int .i64 (tn : Nat), .int .i64 (on : Nat), .slice da dl dc, .slice (some ⟨wb, wo, none⟩) yn wc, .int .i64 0, .int .i64 (tn : Nat), .slice (some ⟨wb, wo + yn, none⟩) (wl - yn) (wc - yn), .int .i64 (yn : Nat), .int .i64 (ou : Nat), .slice va (T1.length + T2.length) vc]] #[], .func (.func 69) #[.agg #[.slice ca cn cc, .slice (some ⟨wb, wo, none⟩) wl wc, .int .i64 (yn : Nat), .int .i64 (tn : Nat), .int .i64 (on : Nat), .slice da dl dc, .slice (some ⟨wb, wo, none⟩) yn wc, .int .i64 0, .int .i64 (tn : Nat), .slice (some ⟨wb, wo + yn, none⟩) (wl - yn) (wc - yn), .int .i64 (yn : Nat), .int .i64 (ou : Nat), .slice va (T1.length + T2.length) vc]] #[]] 104))) := ((bdrew bR).alloc (by first | exact hz | (simp; done) | (simp; omega) | (have := hz; simp at this ⊢; omega)) _)
    replace B := Proofs.YtjbmcdekhhbiaaaGreat.lA B BP
    replace RW := Proofs.YtjbmcdekhhbiaaaGreat.lA RW BP
    replace KS := Proofs.YtjbmcdekhhbiaaaGreat.lA KS BP
    replace XR := Proofs.YtjbmcdekhhbiaaaGreat.lA XR BP
    replace lR := lL lR
    replace XA := Proofs.YtjbmcdekhhbiaaaGreat.lA XA BP
    replace lA := lL lA
    have XF : Hid (∀ y, Below (w5g.heap.size + 1) (w5g.drew.alloc (.cells #[.func (.func 68) #[.agg #[.slice ca cn cc, .slice (some ⟨wb, wo, none⟩) wl wc, .int .i64 (yn : Nat), .int .i64 (tn : Nat), .int .i64 (on : Nat), .slice da dl dc, .slice (some ⟨wb, wo, none⟩) yn wc, .int .i64 0, .int .i64 (tn : Nat), .slice (some ⟨wb, wo + yn, none⟩) (wl - yn) (wc - yn), .int .i64 (yn : Nat), .int .i64 (ou : Nat), .slice va (T1.length + T2.length) vc]] #[], .func (.func 69) #[.agg #[.slice ca cn cc, .slice (some ⟨wb, wo, none⟩) wl wc, .int .i64 (yn : Nat), .int .i64 (tn : Nat), .int .i64 (on : Nat), .slice da dl dc, .slice (some ⟨wb, wo, none⟩) yn wc, .int .i64 0, .int .i64 (tn : Nat), .slice (some ⟨wb, wo + yn, none⟩) (wl - yn) (wc - yn), .int .i64 (yn : Nat), .int .i64 (ou : Nat), .slice va (T1.length + T2.length) vc]] #[]] 104)) y → y.heap[w5g.heap.size]? = some (.cells #[.func (.func 68) #[.agg #[.slice ca cn cc, .slice (some ⟨wb, wo, none⟩) wl wc, .int .i64 (yn : Nat), .int .i64 (tn : Nat), .int .i64 (on : Nat), .slice da dl dc, .slice (some ⟨wb, wo, none⟩) yn wc, .int .i64 0, .int .i64 (tn : Nat), .slice (some ⟨wb, wo + yn, none⟩) (wl - yn) (wc - yn), .int .i64 (yn : Nat), .int .i64 (ou : Nat), .slice va (T1.length + T2.length) vc]] #[], .func (.func 69) #[.agg #[.slice ca cn cc, .slice (some ⟨wb, wo, none⟩) wl wc, .int .i64 (yn : Nat), .int .i64 (tn : Nat), .int .i64 (on : Nat), .slice da dl dc, .slice (some ⟨wb, wo, none⟩) yn wc, .int .i64 0, .int .i64 (tn : Nat), .slice (some ⟨wb, wo + yn, none⟩) (wl - yn) (wc - yn), .int .i64 (yn : Nat), .int .i64 (ou : Nat), .slice va (T1.length + T2.length) vc]] #[]] 104 (0, 0))) := fun y hy => (hy.block _ (by omega)).trans (boxN _ _ _ _ (by simp))
    have lF : w5g.heap.size < w5g.heap.size + 1 := by omega
    replace hz : w5g.heap.size + 1 ≤ ((w5g.drew.alloc (.cells #[.func (.func 68) #[.agg #[.slice ca cn cc, .slice (some ⟨wb, wo, none⟩) wl wc, .int .i64 (yn : Nat), .int .i64 (tn : Nat), .int .i64 (on : Nat), .slice da dl dc, .slice (some ⟨wb, wo, none⟩) yn wc, .int .i64 0, .int .i64 (tn : Nat), .slice (some ⟨wb, wo + yn, none⟩) (wl - yn) (wc - yn), .int .i64 (yn : Nat), .int .i64 (ou : Nat), .slice va (T1.length + T2.length) vc]] #[], .func (.func 69) #[.agg #[.slice ca cn cc, .slice (some ⟨wb, wo, none⟩) wl wc, .int .i64 (yn : Nat), .int .i64 (tn : Nat), .int .i64 (on : Nat), .slice da dl dc, .slice (some ⟨wb, wo, none⟩) yn wc, .int .i64 0, .int .i64 (tn : Nat), .slice (some ⟨wb, wo + yn, none⟩) (wl - yn) (wc - yn), .int .i64 (yn : Nat), .int .i64 (ou : Nat), .slice va (T1.length + T2.length) vc]] #[]] 104))).heap.size := by simp
    clear BP
    refine hK.out _ _ (KS.out _ bR) (fun hHeld2 => ?_)
    clear hK K
    try simp only [Act.put, zgT, zg0, zgS, zsT, zs0, zsS]
    refine wpAnyH_ready (rs := [11]) (by kernel_rfl) (by simp) ?_
    refine AllReadyH.cons rfl (fun K hK => ?_) AllReadyH.nil
    go_simp
    go_at_call 67
    have BP : Hid (Below (w5g.heap.size + 1) (w5g.drew.alloc (.cells #[.func (.func 68) #[.agg #[.slice ca cn cc, .slice (some ⟨wb, wo, none⟩) wl wc, .int .i64 (yn : Nat), .int .i64 (tn : Nat), .int .i64 (on : Nat), .slice da dl dc, .slice (some ⟨wb, wo, none⟩) yn wc, .int .i64 0, .int .i64 (tn : Nat), .slice (some ⟨wb, wo + yn, none⟩) (wl - yn) (wc - yn), .int .i64 (yn : Nat), .int .i64 (ou : Nat), .slice va (T1.length + T2.length) vc]] #[], .func (.func 69) #[.agg #[.slice ca cn cc, .slice (some ⟨wb, wo, none⟩) wl wc, .int .i64 (yn : Nat), .int .i64 (tn : Nat), .int .i64 (on : Nat), .slice da dl dc, .slice (some ⟨wb, wo, none⟩) yn wc, .int .i64 0, .int .i64 (tn : Nat), .slice (some ⟨wb, wo + yn, none⟩) (wl - yn) (wc - yn), .int .i64 (yn : Nat), .int .i64 (ou : Nat), .slice va (T1.length + T2.length) vc]] #[]] 104)) (w5g.drew.alloc (.cells #[.func (.func 68) #[.agg #[.slice ca cn cc, .slice (some ⟨wb, wo, none⟩) wl wc, .int .i64 (yn : Nat), .int .i64 (tn : Nat), .int .i64 (on : Nat), .slice da dl dc, .slice (some ⟨wb, wo, none⟩) yn wc, .int .i64 0, .int .i64 (tn : Nat), .slice (some ⟨wb, wo + yn, none⟩) (wl - yn) (wc - yn), .int .i64 (yn : Nat), .int .i64 (ou : Nat), .slice va (T1.length + T2.length) vc]] #[], .func (.func 69) #[.agg #[.slice ca cn cc, .slice (some ⟨wb, wo, none⟩) wl wc, .int .i64 (yn : Nat), .int .i64 (tn : Nat), .int .i64 (on : Nat), .slice da dl dc, .slice (some ⟨wb, wo, none⟩) yn wc, .int .i64 0, .int .i64 (tn : Nat), .slice (some ⟨wb, wo + yn, none⟩) (wl - yn) (wc - yn), .int .i64 (yn : Nat), .int .i64 (ou : Nat), .slice va (T1.length + T2.length) vc]] #[]] 104))) := bR
    refine (allTwo ca cn cc wb wo wl wc yn tn on da dl dc wc (wl - yn) (wc - yn) ou va (T1.length + T2.length) vc (T1 ++ T2) ws cd L (w5g.heap.size) _ _ ((RW.out _ BP.out).sl (by simp) (by omega)) (by rw [← TT.out]; exact (thT_ok HB0.out).2.inc) (by omega) (HW.out.later (B.out _ BP.out)) (HC.out.later (B.out _ BP.out)) (by rw [← TT.out]; exact (thT_ok HB0.out).1) hcap (by omega) m5 m1 m2 m3 hyw rfl (by omega) HOU.out.symm (XF.out _ BP.out)).mono ?_
    rintro e w6 ⟨rfl, hb⟩
    have ME : Hid (memB L (ws, (yn : Int), (tn : Int), (on : Int), cd) = (zerB (ws, (yn : Int), (tn : Int), (on : Int), cd) && ((T1 ++ T2).all (valB' (ws, (yn : Int), (tn : Int), (on : Int), cd) (T1 ++ T2)) && (T1 ++ T2).all (crdB (ws, (yn : Int), (tn : Int), (on : Int), cd))))) := by show _ = _; rw [memB_eq BT.out B1.out B2.out, TT.out]
    rw [← ME.out, MQ.out]
    clear ME
    have hq : Below (w5g.heap.size + 1) (w5g.drew.alloc (.cells #[.func (.func 68) #[.agg #[.slice ca cn cc, .slice (some ⟨wb, wo, none⟩) wl wc, .int .i64 (yn : Nat), .int .i64 (tn : Nat), .int .i64 (on : Nat), .slice da dl dc, .slice (some ⟨wb, wo, none⟩) yn wc, .int .i64 0, .int .i64 (tn : Nat), .slice (some ⟨wb, wo + yn, none⟩) (wl - yn) (wc - yn), .int .i64 (yn : Nat), .int .i64 (ou : Nat), .slice va (T1.length + T2.length) vc]] #[], .func (.func 69) #[.agg #[.slice ca cn cc, .slice (some ⟨wb, wo, none⟩) wl wc, .int .i64 (yn : Nat), .int .i64 (tn : Nat), .int .i64 (on : Nat), .slice da dl dc, .slice (some ⟨wb, wo, none⟩) yn wc, .int .i64 0, .int .i64 (tn : Nat), .slice (some ⟨wb, wo + yn, none⟩) (wl - yn) (wc - yn), .int .i64 (yn : Nat), .int .i64 (ou : Nat), .slice va (T1.length + T2.length) vc]] #[]] 104)) w6 := BP.out.trans (Below.mono hb (Nat.le_trans hz BP.out.size))
    have hzn : w5g.heap.size + 1 ≤ w6.heap.size := Nat.le_trans hz hq.size
    replace B := Proofs.YtjbmcdekhhbiaaaGreat.lF B hq hzn
    replace RW := Proofs.YtjbmcdekhhbiaaaGreat.lF RW hq hzn
    replace KS := Proofs.YtjbmcdekhhbiaaaGreat.lF KS hq hzn
    replace XR := Proofs.YtjbmcdekhhbiaaaGreat.lF XR hq hzn
    replace lR := Nat.lt_of_lt_of_le lR hzn
    replace XA := Proofs.YtjbmcdekhhbiaaaGreat.lF XA hq hzn
    replace lA := Nat.lt_of_lt_of_le lA hzn
    replace XF := Proofs.YtjbmcdekhhbiaaaGreat.lF XF hq hzn
    replace lF := Nat.lt_of_lt_of_le lF hzn
    clear hq BP hz
    have hz : w6.heap.size ≤ w6.heap.size := Nat.le_refl _
    clear hb
    go_wp2_with fail
    refine hK.out _ _ (KS.out _ bR) (fun hHeld3 => ?_)
    clear hK K
    try simp only [Act.put, zgT, zg0, zgS, zsT, zs0, zsS]
    refine tV 12 (v := ?_) rfl (by kernel_rfl) (fun _ _ _ h => h) ?_ (by assumption) ?_
    rotate_left 1
    · (intro x hSx; (try dsimp only at hSx); go_simp; try with_reducible rfl)
    try simp only [Act.put, zgT, zg0, zgS, zsT, zs0, zsS]
    refine wpAnyH_ready (rs := [13]) (by kernel_rfl) (by simp) ?_
    refine AllReadyH.cons rfl (fun K hK => ?_) AllReadyH.nil
    clear XF lF
    obtain ⟨kR0, kR1, kR2, kR3, kR4, kR5, kR6, kR7, kR8, kR9, kR10, kR11, kR12⟩ := bk13 (XR.out w6 bR)
    obtain ⟨qkR0, qkR1, qkR2, qkR3, qkR4, qkR5, qkR6, qkR7, qkR8, qkR9, qkR10, qkR11, qkR12⟩ := bq13 (XR.out w6 bR)
    go_simp
    clear kR0 kR1 kR2 kR3 kR4 kR5 kR6 kR7 kR8 kR9 kR10 kR11 kR12 qkR0 qkR1 qkR2 qkR3 qkR4 qkR5 qkR6 qkR7 qkR8 qkR9 qkR10 qkR11 qkR12
    generalize hW : (((((((((((((w6.setCell ⟨w.heap.size + 1, 0, none⟩ (.slice ca cn cc)).setCell ⟨w.heap.size + 1, 1, none⟩ (.slice (some ⟨wb, wo, none⟩) wl wc)).setCell ⟨w.heap.size + 1, 2, none⟩ (.int .i64 (yn : Nat))).setCell ⟨w.heap.size + 1, 3, none⟩ (.int .i64 (tn : Nat))).setCell ⟨w.heap.size + 1, 4, none⟩ (.int .i64 (on : Nat))).setCell ⟨w.heap.size + 1, 5, none⟩ (.slice da dl dc)).setCell ⟨w.heap.size + 1, 6, none⟩ (.slice (some ⟨wb, wo, none⟩) yn wc)).setCell ⟨w.heap.size + 1, 7, none⟩ (.int .i64 0)).setCell ⟨w.heap.size + 1, 8, none⟩ (.int .i64 (tn : Nat))).setCell ⟨w.heap.size + 1, 9, none⟩ (.slice (some ⟨wb, wo + yn, none⟩) (wl - yn) (wc - yn))).setCell ⟨w.heap.size + 1, 10, none⟩ (.int .i64 (yn : Nat))).setCell ⟨w.heap.size + 1, 11, none⟩ (.int .i64 (ou : Nat))).setCell ⟨w.heap.size + 1, 12, none⟩ (.slice va (T1.length + T2.length) vc)) = wB2
    have hkB : ∀ a, a ≠ w.heap.size + 1 → wB2.heap[a]? = w6.heap[a]? := by subst hW; exact fun a h => keep13 h
    have hw0 : w.heap.size ≤ w.heap.size + 1 := (by first | omega | (simp; done) | (simp; omega) | (simp at *; omega))
    replace XA := lS XA lA wB2 (hkB _ (by first | omega | (simp; done) | (simp; omega)))
    replace XR : Hid (∀ y, Below (w6.heap.size) wB2 y → y.heap[w.heap.size + 1]? = some (.cells #[.slice ca cn cc, .slice (some ⟨wb, wo, none⟩) wl wc, .int .i64 (yn : Nat), .int .i64 (tn : Nat), .int .i64 (on : Nat), .slice da dl dc, .slice (some ⟨wb, wo, none⟩) yn wc, .int .i64 0, .int .i64 (tn : Nat), .slice (some ⟨wb, wo + yn, none⟩) (wl - yn) (wc - yn), .int .i64 (yn : Nat), .int .i64 (ou : Nat), .slice va (T1.length + T2.length) vc] 65 (0, 0))) := fun y hy => by subst hW; exact (hy.block _ (by omega)).trans (box13 (XR.out w6 bR) rfl _ _ _ _ _ _ _ _ _ _ _ _ _)
    replace RW : Hid (∀ y, Below (w6.heap.size) wB2 y → ThRow (fun b => w2.heap.size + 1 + 1 ≤ b ∧ b ≠ w4.heap.size) y (.slice va (T1.length + T2.length) vc) (T1 ++ T2)) := fun y hy => by subst hW; exact ((((((((((((((RW.out w6 (bR)).box _ _ nR).box _ _ nR).box _ _ nR).box _ _ nR).box _ _ nR).box _ _ nR).box _ _ nR).box _ _ nR).box _ _ nR).box _ _ nR).box _ _ nR).box _ _ nR).box _ _ nR).later (hy.mono (by simp))
    clear KS
    replace B : Hid (∀ y, Below (w6.heap.size) wB2 y → Below w.heap.size w y) := fun y hy => by subst hW; exact ((((((((((((((B.out w6 bR).setCell hw0 _).setCell hw0 _).setCell hw0 _).setCell hw0 _).setCell hw0 _).setCell hw0 _).setCell hw0 _).setCell hw0 _).setCell hw0 _).setCell hw0 _).setCell hw0 _).setCell hw0 _).setCell hw0 _).trans (hy.mono (by first | omega | exact Nat.le_trans (B.out w6 bR).size hz | (have := (B.out w6 bR).size; omega)))
    replace hz : w6.heap.size ≤ wB2.heap.size := by subst hW; first | (simp; done) | simpa using hz
    clear hw0 hW hkB
    have KS : Hid (∀ x, Below (w6.heap.size) wB2 x → x.cell? ⟨w4.heap.size, 0, none⟩ = some (.slice ca cn cc) ∧ x.cell? ⟨w4.heap.size, 1, none⟩ = some (.slice (some ⟨wb, wo, none⟩) wl wc) ∧ x.cell? ⟨w4.heap.size, 2, none⟩ = some (.int .i64 (yn : Nat)) ∧ x.cell? ⟨w4.heap.size, 3, none⟩ = some (.int .i64 (tn : Nat)) ∧ x.cell? ⟨w4.heap.size, 4, none⟩ = some (.int .i64 (on : Nat)) ∧ x.cell? ⟨w4.heap.size, 5, none⟩ = some (.slice da dl dc) ∧ x.cell? ⟨w4.heap.size, 6, none⟩ = some (.slice (some ⟨wb, wo, none⟩) yn wc) ∧ x.cell? ⟨w4.heap.size, 7, none⟩ = some (.int .i64 0) ∧ x.cell? ⟨w4.heap.size, 8, none⟩ = some (.int .i64 (tn : Nat)) ∧ x.cell? ⟨w4.heap.size, 9, none⟩ = some (.slice (some ⟨wb, wo + yn, none⟩) (wl - yn) (wc - yn)) ∧ x.cell? ⟨w4.heap.size, 10, none⟩ = some (.int .i64 (yn : Nat)) ∧ x.cell? ⟨w4.heap.size, 11, none⟩ = some (.int .i64 (ou : Nat)) ∧ x.cell? ⟨w4.heap.size, 12, none⟩ = some (.slice va (T1.length + T2.length) vc)) := fun x hx => bk13 (XA.out x hx)
    refine hK.out _ _ (KS.out _ bR) (fun hHeld4 => ?_)
    clear hK K
    try simp only [Act.put, zgT, zg0, zgS, zsT, zs0, zsS]
    refine tV 14 (v := ?_) rfl (by kernel_rfl) (fun _ _ _ h => h) ?_ (by assumption) ?_
    rotate_left 1
    · (intro x hSx; (try dsimp only at hSx); go_simp; try with_reducible rfl)
    try simp only [Act.put, zgT, zg0, zgS, zsT, zs0, zsS]
    refine wpAnyH_done (by kernel_rfl) ?_ _
    clear hHeld hHeld2 hHeld3 hHeld4
    clear KS
    have RF : Hid (ThRow (fun b => w.heap.size ≤ b) (wB2) (.slice va (T1.length + T2.length) vc) (T1 ++ T2)) := ThRow.mono (RW.out _ (bR)) (fun b hb _ => by have h1 := hb.1; omega)
    have BF : Hid (Below w.heap.size w (wB2)) := B.out _ (bR)
    have XC : Hid ((wB2).heap[w.heap.size + 1]? = some (.cells #[.slice ca cn cc, .slice (some ⟨wb, wo, none⟩) wl wc, .int .i64 (yn : Nat), .int .i64 (tn : Nat), .int .i64 (on : Nat), .slice da dl dc, .slice (some ⟨wb, wo, none⟩) yn wc, .int .i64 0, .int .i64 (tn : Nat), .slice (some ⟨wb, wo + yn, none⟩) (wl - yn) (wc - yn), .int .i64 (yn : Nat), .int .i64 (ou : Nat), .slice va (T1.length + T2.length) vc] 65 (0, 0))) := XR.out _ (bR)
    clear B RW XR XA hz
    generalize wB2 = wF at RF BF XC ⊢
    have kR0 : wF.cell? ⟨w.heap.size + 1, 0, none⟩ = some (.slice ca cn cc) := (boxG XC.out 0).1
    have kR1 : wF.cell? ⟨w.heap.size + 1, 1, none⟩ = some (.slice (some ⟨wb, wo, none⟩) wl wc) := (boxG XC.out 1).1
    have kR2 : wF.cell? ⟨w.heap.size + 1, 2, none⟩ = some (.int .i64 (yn : Nat)) := (boxG XC.out 2).1
    have kR3 : wF.cell? ⟨w.heap.size + 1, 3, none⟩ = some (.int .i64 (tn : Nat)) := (boxG XC.out 3).1
    have kR4 : wF.cell? ⟨w.heap.size + 1, 4, none⟩ = some (.int .i64 (on : Nat)) := (boxG XC.out 4).1
    have kR5 : wF.cell? ⟨w.heap.size + 1, 5, none⟩ = some (.slice da dl dc) := (boxG XC.out 5).1
    have kR6 : wF.cell? ⟨w.heap.size + 1, 6, none⟩ = some (.slice (some ⟨wb, wo, none⟩) yn wc) := (boxG XC.out 6).1
    have kR7 : wF.cell? ⟨w.heap.size + 1, 7, none⟩ = some (.int .i64 0) := (boxG XC.out 7).1
    have kR8 : wF.cell? ⟨w.heap.size + 1, 8, none⟩ = some (.int .i64 (tn : Nat)) := (boxG XC.out 8).1
    have kR9 : wF.cell? ⟨w.heap.size + 1, 9, none⟩ = some (.slice (some ⟨wb, wo + yn, none⟩) (wl - yn) (wc - yn)) := (boxG XC.out 9).1
    have kR10 : wF.cell? ⟨w.heap.size + 1, 10, none⟩ = some (.int .i64 (yn : Nat)) := (boxG XC.out 10).1
    have kR11 : wF.cell? ⟨w.heap.size + 1, 11, none⟩ = some (.int .i64 (ou : Nat)) := (boxG XC.out 11).1
    have kR12 : wF.cell? ⟨w.heap.size + 1, 12, none⟩ = some (.slice va (T1.length + T2.length) vc) := (boxG XC.out 12).1
    rename_i K0 hK0
    refine hK0 _ _ (wp_ret ?_)
    refine bodyPost_ret (v := .tuple #[.agg #[.slice ca cn cc, .slice (some ⟨wb, wo, none⟩) wl wc, .int .i64 (yn : Nat), .int .i64 (tn : Nat), .int .i64 (on : Nat), .slice da dl dc, .slice (some ⟨wb, wo, none⟩) yn wc, .int .i64 0, .int .i64 (tn : Nat), .slice (some ⟨wb, wo + yn, none⟩) (wl - yn) (wc - yn), .int .i64 (yn : Nat), .int .i64 (ou : Nat), .slice va (T1.length + T2.length) vc], .bool mq]) ?_ rfl ?_
    · simp [results, Tryz.results34, go_sem, kR0, kR1, kR2, kR3, kR4, kR5, kR6, kR7, kR8, kR9, kR10, kR11, kR12]
    · refine ⟨?_, ?_, BF.out⟩
      · intro h
        rw [MQ.out] at h
        subst h
        exact ⟨_, _, _, _, _, _, _, _, _, _, _, _, _, _, _, _, _, _, _, _, _, _, _, _, _, rfl⟩
      · intro h
        rw [MQ.out] at h
        subst h
        refine ⟨wb, wo, yn, tn, on, va, vc, rfl, rfl, rfl, rfl, ?_, ?_⟩
        · rw [TT.out, List.length_append, HOU.out]
        · rw [TT.out, List.length_append]; exact RF.out

end Go.Proofs.YtjbmcdekhhbiaaaGreat
