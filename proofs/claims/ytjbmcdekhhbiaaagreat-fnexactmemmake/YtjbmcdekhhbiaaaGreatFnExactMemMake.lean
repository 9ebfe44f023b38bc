/-
  At every argument MemMake of the program answers as MemMake of the specification, in memory of its own, and writes into no argument; no condition.
-/
import Derived.Test.YtjbmcdekhhbiaaaGreatMemMI
import Derived.Test.YtjbmcdekhhbiaaaGreatMrkM
import Derived.Test.YtjbmcdekhhbiaaaGreatDtMem
import Derived.Test.YtjbmcdekhhbiaaaGreatDtClass
import Derived.Test.YtjbmcdekhhbiaaaGreatRdCls
import Derived.Deep.RegionHeld3
import Derived.Deep.CutRange
import Derived.Test.YtjbmcdekhhbiaaaGreatMemMM
import Derived.Test.YtjbmcdekhhbiaaaGreatMemSg
import Derived.Deep.Cut
namespace Go.Proofs.YtjbmcdekhhbiaaaGreat
open Go.ChangeShapes Go.WideShapes Go.ChangeAt Go.RowKit
set_option linter.unusedVariables false

set_option maxHeartbeats 4000000 in
theorem wantSpec (ca : Option Addr) (cn cc : Nat) (c n : Int) (L : List Cl) (w : World) {D E : Nat → Prop} (h : ClsAt D E w ca cn L) (ok : clsOk L = true) (hn : i64B n) :
    Calls Tryz.prog 28 #[.slice ca cn cc, .int .i64 c, .int .i64 n] w fun e w' => e = .returned (.int .i64 (wnt L c n : Nat)) ∧ Below w.heap.size w w' := by
  have H : Hid (ClsAt D E w ca cn L) := h
  have OK : Hid (clsOk L = true) := ok
  have CN : Hid (L.length = cn) := h.size
  have h2 := ok_len ok
  rw [h.size] at h2
  have hn1 := hn.1
  have hn2 := hn.2
  have hsub : IntKind.i64.wrap ((cn : Int) - 1) = (cn : Int) - 1 := by rw [IntKind.wrap_i64] <;> omega
  by_cases hc : 0 ≤ c ∧ c ≤ (cn : Int) - 1
  · obtain ⟨k, rfl⟩ : ∃ k : Nat, c = k := ⟨c.toNat, by omega⟩
    have hin : inI (k : Int) 0 ((cn : Int) - 1) = true := inI_iff.2 hc
    have WN : Hid (wnt L (k : Int) n = 1 + (fld L k).length) := by
      show _ = _
      rw [wnt_yes (by rw [isT_cls' (by omega), CN.out]; exact hin), typ_cls', hdN_cls]
    have hfs := fld_short ok k (by rw [CN.out]; omega)
    have hkc : k < cn := by omega
    clear h ok
    go_enter Tryz.func28, Tryz.ntmps28
    go_wp2_with fail
    refine (inSpec' _ _ _ _ hin _).mono ?_
    rintro r w' ⟨rfl, rfl⟩
    go_wp2_with fail
    refine (l2FieldsSpec _ _ _ L OK.out CN.out k _ hkc H.out).mono ?_
    rintro r w1 ⟨v, rfl, hnn⟩
    obtain ⟨fa, fc, rfl⟩ := own_sl hnn.1
    have HB : Hid (Below w.heap.size w w1) := hnn.2
    clear hnn
    generalize (fld L k).length = f at WN hfs
    have hadd : IntKind.i64.wrap (1 + (f : Int)) = ((1 + f : Nat) : Int) := by rw [IntKind.wrap_i64] <;> omega
    go_wp2_with fail
    go_ret
    exact ⟨by rw [WN.out]; first | rfl | congr 3, HB.out⟩
  have hin : inI c 0 ((cn : Int) - 1) = false := by
    cases hq : inI c 0 ((cn : Int) - 1)
    · rfl
    · exact absurd (inI_iff.1 hq) hc
  by_cases ha : c = -1 ∨ c = -2
  · obtain ⟨q, hq⟩ : ∃ q, inI n 0 6 = q := ⟨_, rfl⟩
    have e1 : (c == -1 || c == -2) = true := by rcases ha with rfl | rfl <;> rfl
    cases q
    · have WN : Hid (wnt L c n = 0) := wnt_no (by rw [isT_arr' ha]; exact hq)
      clear h ok
      rcases ha with rfl | rfl
      all_goals
        go_enter Tryz.func28, Tryz.ntmps28
        go_wp2_with fail
        refine (inSpec' _ _ _ _ hin _).mono ?_
        rintro r w' ⟨rfl, rfl⟩
        go_wp2_with fail
        refine (inSpec' _ _ _ _ hq _).mono ?_
        rintro r w' ⟨rfl, rfl⟩
        go_wp2_with fail
        go_ret
        exact ⟨by rw [WN.out]; rfl, bR⟩
    · have hr := inI_iff.1 hq
      obtain ⟨k, rfl⟩ : ∃ k : Nat, n = k := ⟨n.toNat, by omega⟩
      have WN : Hid (wnt L c (k : Int) = 2 + k) := by
        show _ = _
        rw [wnt_yes (by rw [isT_arr' ha]; exact hq), typ_arr' ha, hdN_arr ha, Int.toNat_natCast]
      have hadd : IntKind.i64.wrap (2 + (k : Int)) = ((2 + k : Nat) : Int) := by rw [IntKind.wrap_i64] <;> omega
      clear h ok
      rcases ha with rfl | rfl
      all_goals
        go_enter Tryz.func28, Tryz.ntmps28
        go_wp2_with fail
        refine (inSpec' _ _ _ _ hin _).mono ?_
        rintro r w' ⟨rfl, rfl⟩
        go_wp2_with fail
        refine (inSpec' _ _ _ _ hq _).mono ?_
        rintro r w' ⟨rfl, rfl⟩
        go_wp2_with fail
        go_ret
        exact ⟨by rw [WN.out]; first | rfl | congr 3, bR⟩
  · have WN : Hid (wnt L c n = 0) := wnt_no (by rw [isT_cls' ha, CN.out]; exact hin)
    have h1 : ¬ c = -1 := fun h => ha (.inl h)
    have h2 : ¬ c = -2 := fun h => ha (.inr h)
    have e1 : (c == -1) = false := by simp [h1]
    have e2 : (c == -2) = false := by simp [h2]
    clear h ok
    go_enter Tryz.func28, Tryz.ntmps28
    go_wp2_with fail
    refine (inSpec' _ _ _ _ hin _).mono ?_
    rintro r w' ⟨rfl, rfl⟩
    go_wp2_with fail
    go_ret
    exact ⟨by rw [WN.out]; rfl, bR⟩
set_option maxRecDepth 100000 in
set_option maxHeartbeats 8000000 in
theorem mkSpec (ga oa n0 c0 yg tp od : Nat) (b : Option Addr) (m0 d0 i : Nat) (c v : Int) (ws : List Int) (cd : List Bool) (w : World) (hA : Wri w (some ⟨ga, oa, none⟩) n0 (fun j => ws.getD j 0)) (hC : WriB w b m0 (fun j => cd.getD j false)) (hxs : ws.length = n0) (hn : n0 ≤ 1000) (hab : ∀ x, b = some x → 0 < m0 → x.block ≠ ga) (hgs : ga < w.heap.size) (hi : i < n0) (hi1 : c < 0 → i + 1 < n0) :
    Calls Tryz.prog 63 #[.agg #[.slice (some ⟨ga, oa, none⟩) n0 c0, .int .i64 (yg : Nat), .int .i64 (tp : Nat), .int .i64 (od : Nat), .slice b m0 d0], .int .i64 i, .int .i64 c, .int .i64 v] w fun e w' => e = .returned (.tuple #[.agg #[.slice (some ⟨ga, oa, none⟩) n0 c0, .int .i64 (yg : Nat), .int .i64 (tp : Nat), .int .i64 (od : Nat), .slice b m0 d0], .int .i64 (i + 1 : Nat)]) ∧ Wri w' (some ⟨ga, oa, none⟩) n0 (fun j => (mkW ws i c v).getD j 0) ∧ WriB w' b m0 (fun j => cd.getD j false) ∧ Chg (fun k => k = ga) w w' := by
  have HA : Hid (Wri w (some ⟨ga, oa, none⟩) n0 (fun j => ws.getD j 0)) := hA
  have HC : Hid (WriB w b m0 (fun j => cd.getD j false)) := hC
  have HAB : Hid (∀ x, b = some x → 0 < m0 → x.block ≠ ga ∧ x.block < w.heap.size) := fun x e h0 => ⟨hab x e h0, hC.lt x e h0⟩
  have WS : Hid (ws.length = n0) := hxs
  clear hA hC hab
  have hadd : IntKind.i64.wrap ((i : Int) + 1) = ((i + 1 : Nat) : Int) := by rw [IntKind.wrap_i64] <;> omega
  have hz : w.heap.size + 1 + 1 ≤ ((w.alloc (.cells #[.slice (some ⟨ga, oa, none⟩) n0 c0, .int .i64 (yg : Nat), .int .i64 (tp : Nat), .int .i64 (od : Nat), .slice b m0 d0] 29)).alloc (.cells #[.slice none 0 0, .int .i64 0, .int .i64 0, .int .i64 0, .slice none 0 0] 29)).heap.size := by simp
  have B : Hid (∀ y, Below (w.heap.size + 1 + 1) ((w.alloc (.cells #[.slice (some ⟨ga, oa, none⟩) n0 c0, .int .i64 (yg : Nat), .int .i64 (tp : Nat), .int .i64 (od : Nat), .slice b m0 d0] 29)).alloc (.cells #[.slice none 0 0, .int .i64 0, .int .i64 0, .int .i64 0, .slice none 0 0] 29)) y → Below w.heap.size w y) := fun y hy => ((bR.alloc (by first | exact Nat.le_refl _ | (simp; done) | (simp; omega)) _).alloc (by first | exact Nat.le_refl _ | (simp; done) | (simp; omega)) _).trans (hy.mono (by omega))
  have XM : Hid (∀ y, Below (w.heap.size + 1 + 1) ((w.alloc (.cells #[.slice (some ⟨ga, oa, none⟩) n0 c0, .int .i64 (yg : Nat), .int .i64 (tp : Nat), .int .i64 (od : Nat), .slice b m0 d0] 29)).alloc (.cells #[.slice none 0 0, .int .i64 0, .int .i64 0, .int .i64 0, .slice none 0 0] 29)) y → y.heap[w.heap.size]? = some (.cells #[.slice (some ⟨ga, oa, none⟩) n0 c0, .int .i64 (yg : Nat), .int .i64 (tp : Nat), .int .i64 (od : Nat), .slice b m0 d0] 29 (0, 0))) := fun y hy => (hy.block _ (by omega)).trans ((Below.heap_alloc _ _ _ (by first | (simp; done) | (simp; omega))).trans (boxN _ _ _ _ (by simp)))
  have lM : w.heap.size < w.heap.size + 1 + 1 := by omega
  have XR : Hid (∀ y, Below (w.heap.size + 1 + 1) ((w.alloc (.cells #[.slice (some ⟨ga, oa, none⟩) n0 c0, .int .i64 (yg : Nat), .int .i64 (tp : Nat), .int .i64 (od : Nat), .slice b m0 d0] 29)).alloc (.cells #[.slice none 0 0, .int .i64 0, .int .i64 0, .int .i64 0, .slice none 0 0] 29)) y → y.heap[w.heap.size + 1]? = some (.cells #[.slice none 0 0, .int .i64 0, .int .i64 0, .int .i64 0, .slice none 0 0] 29 (0, 0))) := fun y hy => (hy.block _ (by omega)).trans (boxN _ _ _ _ (by simp))
  have lR : w.heap.size + 1 < w.heap.size + 1 + 1 := by omega
  have CH : Hid (∀ y, Below (w.heap.size + 1 + 1) ((w.alloc (.cells #[.slice (some ⟨ga, oa, none⟩) n0 c0, .int .i64 (yg : Nat), .int .i64 (tp : Nat), .int .i64 (od : Nat), .slice b m0 d0] 29)).alloc (.cells #[.slice none 0 0, .int .i64 0, .int .i64 0, .int .i64 0, .slice none 0 0] 29)) y → Chg (fun k => k = ga) w y) := fun y hy => chgb ((Chg.alloc (fun k => k = ga) w _).trans (Chg.alloc (fun k => k = ga) _ _) (fun _ _ h => h)) hy (by omega)
  have FA : Hid (∀ y, Below (w.heap.size + 1 + 1) ((w.alloc (.cells #[.slice (some ⟨ga, oa, none⟩) n0 c0, .int .i64 (yg : Nat), .int .i64 (tp : Nat), .int .i64 (od : Nat), .slice b m0 d0] 29)).alloc (.cells #[.slice none 0 0, .int .i64 0, .int .i64 0, .int .i64 0, .slice none 0 0] 29)) y → Wri y (some ⟨ga, oa, none⟩) n0 (fun j => (ws).getD j 0)) := fun y hy => HA.out.later (B.out y hy)
  have FC : Hid (∀ y, Below (w.heap.size + 1 + 1) ((w.alloc (.cells #[.slice (some ⟨ga, oa, none⟩) n0 c0, .int .i64 (yg : Nat), .int .i64 (tp : Nat), .int .i64 (od : Nat), .slice b m0 d0] 29)).alloc (.cells #[.slice none 0 0, .int .i64 0, .int .i64 0, .int .i64 0, .slice none 0 0] 29)) y → WriB y b m0 (fun j => cd.getD j false)) := fun y hy => HC.out.later (B.out y hy)
  go_enter Tryz.func63, Tryz.ntmps63
  go_upto_region 1 with fail
  generalize ((w.alloc (.cells #[.slice (some ⟨ga, oa, none⟩) n0 c0, .int .i64 (yg : Nat), .int .i64 (tp : Nat), .int .i64 (od : Nat), .slice b m0 d0] 29)).alloc (.cells #[.slice none 0 0, .int .i64 0, .int .i64 0, .int .i64 0, .slice none 0 0] 29)) = w0 at B CH FA FC XM XR hz ⊢
  have hzn : w.heap.size + 1 + 1 ≤ w0.heap.size := Nat.le_trans hz (Below.size (Below.refl (w.heap.size + 1 + 1) w0))
  replace B := lF B (Below.refl (w.heap.size + 1 + 1) w0) hzn
  replace CH := lF CH (Below.refl (w.heap.size + 1 + 1) w0) hzn
  replace FA := lF FA (Below.refl (w.heap.size + 1 + 1) w0) hzn
  replace FC := lF FC (Below.refl (w.heap.size + 1 + 1) w0) hzn
  replace XM := lF XM (Below.refl (w.heap.size + 1 + 1) w0) hzn
  replace lM := Nat.lt_of_lt_of_le lM hzn
  replace XR := lF XR (Below.refl (w.heap.size + 1 + 1) w0) hzn
  replace lR := Nat.lt_of_lt_of_le lR hzn
  clear hz
  have hz : w0.heap.size ≤ w0.heap.size := Nat.le_refl _
  obtain ⟨kA1, kA2⟩ := (FA.out w0 bR).cell hi
  obtain ⟨kM0, kM1, kM2, kM3, kM4⟩ := bk5 (XM.out w0 bR)
  obtain ⟨kR0, kR1, kR2, kR3, kR4⟩ := bk5 (XR.out w0 bR)
  go_upto_region 2 with fail
  clear kM0 kM1 kM2 kM3 kM4 kR0 kR1 kR2 kR3 kR4
  clear kA1 kA2
  replace XM := lS XM lM (w0.setCell ⟨ga, oa + i, none⟩ (.int .i64 c)) (Below.heap_setCell _ _ _ _ (by simp only; omega))
  replace XR := lS XR lR (w0.setCell ⟨ga, oa + i, none⟩ (.int .i64 c)) (Below.heap_setCell _ _ _ _ (by simp only; omega))
  have hs9 : (w0.setCell ⟨ga, oa + i, none⟩ (.int .i64 c)).heap.size = w0.heap.size := World.size_setCell _ _ _
  have FA9 : Hid (∀ y, Below (w0.heap.size) (w0.setCell ⟨ga, oa + i, none⟩ (.int .i64 c)) y → Wri y (some ⟨ga, oa, none⟩) n0 (fun j => (ws.set i c).getD j 0)) := fun y hy => (((FA.out w0 bR).put hi c).congr (fun j _ => (set_getD ws _ c 0 (by first | (rw [List.length_set, WS.out]; exact hi) | (rw [WS.out]; exact hi)) j).symm)).later (hy.mono (by rw [hs9]; first | exact Nat.le_refl _ | (simp; done) | omega))
  have FC9 : Hid (∀ y, Below (w0.heap.size) (w0.setCell ⟨ga, oa + i, none⟩ (.int .i64 c)) y → WriB y b m0 (fun j => cd.getD j false)) := fun y hy => ((FC.out w0 bR).keep (D := fun k9 => k9 = ga) (Chg.set _ _ _ rfl) (fun x e h0 hd => (HAB.out x e h0).1 hd)).later (hy.mono (by rw [hs9]; first | exact Nat.le_refl _ | (simp; done) | omega))
  have CH9 : Hid (∀ y, Below (w0.heap.size) (w0.setCell ⟨ga, oa + i, none⟩ (.int .i64 c)) y → Chg (fun k => k = ga) w y) := fun y hy => chgb (chgt (CH.out w0 bR) (Chg.set _ _ _ rfl)) hy (by omega)
  clear B CH FA FC
  replace hz : w0.heap.size ≤ (w0.setCell ⟨ga, oa + i, none⟩ (.int .i64 c)).heap.size := by rw [hs9]; exact hz
  clear hs9
  have FA := FA9
  clear FA9
  have FC := FC9
  clear FC9
  have CH := CH9
  clear CH9
  generalize (w0.setCell ⟨ga, oa + i, none⟩ (.int .i64 c)) = w3 at FA FC CH XM XR hz ⊢
  have hzn : w0.heap.size ≤ w3.heap.size := Nat.le_trans hz (Below.size (Below.refl (w0.heap.size) w3))
  replace FA := lF FA (Below.refl (w0.heap.size) w3) hzn
  replace FC := lF FC (Below.refl (w0.heap.size) w3) hzn
  replace CH := lF CH (Below.refl (w0.heap.size) w3) hzn
  replace XM := lF XM (Below.refl (w0.heap.size) w3) hzn
  replace lM := Nat.lt_of_lt_of_le lM hzn
  replace XR := lF XR (Below.refl (w0.heap.size) w3) hzn
  replace lR := Nat.lt_of_lt_of_le lR hzn
  clear hz
  have hz : w3.heap.size ≤ w3.heap.size := Nat.le_refl _
  by_cases hc : c < 0
  · have hi2 := hi1 hc
    obtain ⟨kA1, kA2⟩ := (FA.out w3 bR).cell hi2
    have MW : Hid (mkW ws i c v = (ws.set i c).set (i + 1) v) := if_pos hc
    obtain ⟨kM0, kM1, kM2, kM3, kM4⟩ := bk5 (XM.out w3 bR)
    obtain ⟨kR0, kR1, kR2, kR3, kR4⟩ := bk5 (XR.out w3 bR)
    go_upto_region 4 with fail
    clear kM0 kM1 kM2 kM3 kM4 kR0 kR1 kR2 kR3 kR4
    clear kA1 kA2
    replace XM := lS XM lM (w3.setCell ⟨ga, oa + (i + 1), none⟩ (.int .i64 v)) (Below.heap_setCell _ _ _ _ (by simp only; omega))
    replace XR := lS XR lR (w3.setCell ⟨ga, oa + (i + 1), none⟩ (.int .i64 v)) (Below.heap_setCell _ _ _ _ (by simp only; omega))
    have hs9 : (w3.setCell ⟨ga, oa + (i + 1), none⟩ (.int .i64 v)).heap.size = w3.heap.size := World.size_setCell _ _ _
    have FA9 : Hid (∀ y, Below (w3.heap.size) (w3.setCell ⟨ga, oa + (i + 1), none⟩ (.int .i64 v)) y → Wri y (some ⟨ga, oa, none⟩) n0 (fun j => ((ws.set i c).set (i + 1) v).getD j 0)) := fun y hy => (((FA.out w3 bR).put hi2 v).congr (fun j _ => (set_getD (ws.set i c) _ v 0 (by first | (rw [List.length_set, WS.out]; exact hi2) | (rw [WS.out]; exact hi2)) j).symm)).later (hy.mono (by rw [hs9]; first | exact Nat.le_refl _ | (simp; done) | omega))
    have FC9 : Hid (∀ y, Below (w3.heap.size) (w3.setCell ⟨ga, oa + (i + 1), none⟩ (.int .i64 v)) y → WriB y b m0 (fun j => cd.getD j false)) := fun y hy => ((FC.out w3 bR).keep (D := fun k9 => k9 = ga) (Chg.set _ _ _ rfl) (fun x e h0 hd => (HAB.out x e h0).1 hd)).later (hy.mono (by rw [hs9]; first | exact Nat.le_refl _ | (simp; done) | omega))
    have CH9 : Hid (∀ y, Below (w3.heap.size) (w3.setCell ⟨ga, oa + (i + 1), none⟩ (.int .i64 v)) y → Chg (fun k => k = ga) w y) := fun y hy => chgb (chgt (CH.out w3 bR) (Chg.set _ _ _ rfl)) hy (by omega)
    clear FA FC CH
    replace hz : w3.heap.size ≤ (w3.setCell ⟨ga, oa + (i + 1), none⟩ (.int .i64 v)).heap.size := by rw [hs9]; exact hz
    clear hs9
    have FA := FA9
    clear FA9
    have FC := FC9
    clear FC9
    have CH := CH9
    clear CH9
    generalize (w3.setCell ⟨ga, oa + (i + 1), none⟩ (.int .i64 v)) = w4 at FA FC CH XM XR hz ⊢
    have hzn : w3.heap.size ≤ w4.heap.size := Nat.le_trans hz (Below.size (Below.refl (w3.heap.size) w4))
    replace FA := lF FA (Below.refl (w3.heap.size) w4) hzn
    replace FC := lF FC (Below.refl (w3.heap.size) w4) hzn
    replace CH := lF CH (Below.refl (w3.heap.size) w4) hzn
    replace XM := lF XM (Below.refl (w3.heap.size) w4) hzn
    replace lM := Nat.lt_of_lt_of_le lM hzn
    replace XR := lF XR (Below.refl (w3.heap.size) w4) hzn
    replace lR := Nat.lt_of_lt_of_le lR hzn
    clear hz
    have hz : w4.heap.size ≤ w4.heap.size := Nat.le_refl _
    obtain ⟨kM0, kM1, kM2, kM3, kM4⟩ := bk5 (XM.out w4 bR)
    obtain ⟨kR0, kR1, kR2, kR3, kR4⟩ := bk5 (XR.out w4 bR)
    obtain ⟨qkR0, qkR1, qkR2, qkR3, qkR4⟩ := bq5 (XR.out w4 bR)
    go_wp2_with fail
    refine bodyPost_ret (v := .tuple #[.agg #[.slice (some ⟨ga, oa, none⟩) n0 c0, .int .i64 (yg : Nat), .int .i64 (tp : Nat), .int .i64 (od : Nat), .slice b m0 d0], .int .i64 (i + 1 : Nat)]) ?_ rfl ?_
    · simp [results, Tryz.results63, go_sem, *]
    · clear kM0 kM1 kM2 kM3 kM4 kR0 kR1 kR2 kR3 kR4 qkR0 qkR1 qkR2 qkR3 qkR4
      rw [MW.out]
      refine ⟨rfl, ?_, ?_, ?_⟩
      · exact (FA.out w4 bR).keep (chg5 w4 (w.heap.size + 1) (.slice (some ⟨ga, oa, none⟩) n0 c0) (.int .i64 (yg : Nat)) (.int .i64 (tp : Nat)) (.int .i64 (od : Nat)) (.slice b m0 d0)) (fun x e h0 hd => by have h8 : x.block = w.heap.size + 1 := hd; obtain rfl := Option.some.inj e; simp only at h8; omega)
      · exact (FC.out w4 bR).keep (chg5 w4 (w.heap.size + 1) (.slice (some ⟨ga, oa, none⟩) n0 c0) (.int .i64 (yg : Nat)) (.int .i64 (tp : Nat)) (.int .i64 (od : Nat)) (.slice b m0 d0)) (fun x e h0 hd => by have h8 : x.block = w.heap.size + 1 := hd; have := (HAB.out x e h0).2; omega)
      · exact (CH.out w4 bR).trans (chg5 w4 (w.heap.size + 1) (.slice (some ⟨ga, oa, none⟩) n0 c0) (.int .i64 (yg : Nat)) (.int .i64 (tp : Nat)) (.int .i64 (od : Nat)) (.slice b m0 d0)) (fun k hk hd => by have h8 : k = w.heap.size + 1 := hd; omega)
  have MW : Hid (mkW ws i c v = ws.set i c) := if_neg hc
  obtain ⟨kM0, kM1, kM2, kM3, kM4⟩ := bk5 (XM.out w3 bR)
  obtain ⟨kR0, kR1, kR2, kR3, kR4⟩ := bk5 (XR.out w3 bR)
  obtain ⟨qkR0, qkR1, qkR2, qkR3, qkR4⟩ := bq5 (XR.out w3 bR)
  go_wp2_with fail
  refine bodyPost_ret (v := .tuple #[.agg #[.slice (some ⟨ga, oa, none⟩) n0 c0, .int .i64 (yg : Nat), .int .i64 (tp : Nat), .int .i64 (od : Nat), .slice b m0 d0], .int .i64 (i + 1 : Nat)]) ?_ rfl ?_
  · simp [results, Tryz.results63, go_sem, *]
  · clear kM0 kM1 kM2 kM3 kM4 kR0 kR1 kR2 kR3 kR4 qkR0 qkR1 qkR2 qkR3 qkR4
    rw [MW.out]
    refine ⟨rfl, ?_, ?_, ?_⟩
    · exact (FA.out w3 bR).keep (chg5 w3 (w.heap.size + 1) (.slice (some ⟨ga, oa, none⟩) n0 c0) (.int .i64 (yg : Nat)) (.int .i64 (tp : Nat)) (.int .i64 (od : Nat)) (.slice b m0 d0)) (fun x e h0 hd => by have h8 : x.block = w.heap.size + 1 := hd; obtain rfl := Option.some.inj e; simp only at h8; omega)
    · exact (FC.out w3 bR).keep (chg5 w3 (w.heap.size + 1) (.slice (some ⟨ga, oa, none⟩) n0 c0) (.int .i64 (yg : Nat)) (.int .i64 (tp : Nat)) (.int .i64 (od : Nat)) (.slice b m0 d0)) (fun x e h0 hd => by have h8 : x.block = w.heap.size + 1 := hd; have := (HAB.out x e h0).2; omega)
    · exact (CH.out w3 bR).trans (chg5 w3 (w.heap.size + 1) (.slice (some ⟨ga, oa, none⟩) n0 c0) (.int .i64 (yg : Nat)) (.int .i64 (tp : Nat)) (.int .i64 (od : Nat)) (.slice b m0 d0)) (fun k hk hd => by have h8 : k = w.heap.size + 1 := hd; omega)

set_option maxRecDepth 100000 in
set_option maxHeartbeats 8000000 in
theorem trySpec (ca : Option Addr) (cn cc : Nat) (ga oa n0 c0 yg tp od : Nat) (b : Option Addr) (m0 d0 : Nat) (c v : Int) (old : Bool) (ws : List Int) (cd : List Bool) (L : List Cl) (w : World) {D E : Nat → Prop} (h : ClsAt D E w ca cn L) (ok : clsOk L = true) (hv : i64B v) (hT : isT L c v = true) (hty : tp ≤ yg) (hyo : yg ≤ od) (hod : od ≤ n0) (hA : Wri w (some ⟨ga, oa, none⟩) n0 (fun j => ws.getD j 0)) (hC : WriB w b m0 (fun j => cd.getD j false)) (hxs : ws.length = n0) (hn : n0 ≤ 1000) (hab : ∀ x, b = some x → 0 < m0 → x.block ≠ ga) (hgs : ga < w.heap.size) :
    Calls Tryz.prog 29 #[.slice ca cn cc, .agg #[.slice (some ⟨ga, oa, none⟩) n0 c0, .int .i64 (yg : Nat), .int .i64 (tp : Nat), .int .i64 (od : Nat), .slice b m0 d0], .int .i64 c, .int .i64 v, .bool old] w fun e w' => e = .returned (.tuple #[.agg #[.slice (some ⟨ga, oa, none⟩) n0 c0, .int .i64 (tryM (ws, (yg : Int), (tp : Int), (od : Int), cd) c v (wnt L c v) old).1.2.1, .int .i64 (tryM (ws, (yg : Int), (tp : Int), (od : Int), cd) c v (wnt L c v) old).1.2.2.1, .int .i64 (tryM (ws, (yg : Int), (tp : Int), (od : Int), cd) c v (wnt L c v) old).1.2.2.2.1, .slice b m0 d0], .int .i64 (tryM (ws, (yg : Int), (tp : Int), (od : Int), cd) c v (wnt L c v) old).2]) ∧ Wri w' (some ⟨ga, oa, none⟩) n0 (fun j => (tryM (ws, (yg : Int), (tp : Int), (od : Int), cd) c v (wnt L c v) old).1.1.getD j 0) ∧ WriB w' b m0 (fun j => cd.getD j false) ∧ Chg (fun k => k = ga) w w' := by
  have HA : Hid (Wri w (some ⟨ga, oa, none⟩) n0 (fun j => ws.getD j 0)) := hA
  have HC : Hid (WriB w b m0 (fun j => cd.getD j false)) := hC
  have HAB : Hid (∀ x, b = some x → 0 < m0 → x.block ≠ ga ∧ x.block < w.heap.size) := fun x e h0 => ⟨hab x e h0, hC.lt x e h0⟩
  have WS : Hid (ws.length = n0) := hxs
  clear hA hC hab
  have H : Hid (ClsAt D E w ca cn L) := h
  have OK : Hid (clsOk L = true) := ok
  obtain ⟨s, hs⟩ : ∃ s, wnt L c v = s := ⟨_, rfl⟩
  have SZ : Hid (wnt L c v = s) := hs
  have hs2 : s ≤ 12 := by rw [← hs]; exact wnt_few ok
  have hs0 : 1 ≤ s ∧ (c < 0 → 2 ≤ s) := by
    rw [← hs, wnt_yes hT]
    have := hdN_pos c
    refine ⟨by omega, fun hc => ?_⟩
    have ha : c = -1 ∨ c = -2 := Classical.byContradiction fun ha => by
      have h8 := hT
      rw [isT_cls' ha] at h8
      have := inI_iff.1 h8
      omega
    rw [hdN_arr ha]; omega
  clear h ok hs hT
  have hz : w.heap.size + 1 + 1 ≤ ((w.alloc (.cells #[.slice (some ⟨ga, oa, none⟩) n0 c0, .int .i64 (yg : Nat), .int .i64 (tp : Nat), .int .i64 (od : Nat), .slice b m0 d0] 29)).alloc (.cells #[.slice none 0 0, .int .i64 0, .int .i64 0, .int .i64 0, .slice none 0 0] 29)).heap.size := by simp
  have B : Hid (∀ y, Below (w.heap.size + 1 + 1) ((w.alloc (.cells #[.slice (some ⟨ga, oa, none⟩) n0 c0, .int .i64 (yg : Nat), .int .i64 (tp : Nat), .int .i64 (od : Nat), .slice b m0 d0] 29)).alloc (.cells #[.slice none 0 0, .int .i64 0, .int .i64 0, .int .i64 0, .slice none 0 0] 29)) y → Below w.heap.size w y) := fun y hy => ((bR.alloc (by first | exact Nat.le_refl _ | (simp; done) | (simp; omega)) _).alloc (by first | exact Nat.le_refl _ | (simp; done) | (simp; omega)) _).trans (hy.mono (by omega))
  have XM : Hid (∀ y, Below (w.heap.size + 1 + 1) ((w.alloc (.cells #[.slice (some ⟨ga, oa, none⟩) n0 c0, .int .i64 (yg : Nat), .int .i64 (tp : Nat), .int .i64 (od : Nat), .slice b m0 d0] 29)).alloc (.cells #[.slice none 0 0, .int .i64 0, .int .i64 0, .int .i64 0, .slice none 0 0] 29)) y → y.heap[w.heap.size]? = some (.cells #[.slice (some ⟨ga, oa, none⟩) n0 c0, .int .i64 (yg : Nat), .int .i64 (tp : Nat), .int .i64 (od : Nat), .slice b m0 d0] 29 (0, 0))) := fun y hy => (hy.block _ (by omega)).trans ((Below.heap_alloc _ _ _ (by first | (simp; done) | (simp; omega))).trans (boxN _ _ _ _ (by simp)))
  have lM : w.heap.size < w.heap.size + 1 + 1 := by omega
  have XR : Hid (∀ y, Below (w.heap.size + 1 + 1) ((w.alloc (.cells #[.slice (some ⟨ga, oa, none⟩) n0 c0, .int .i64 (yg : Nat), .int .i64 (tp : Nat), .int .i64 (od : Nat), .slice b m0 d0] 29)).alloc (.cells #[.slice none 0 0, .int .i64 0, .int .i64 0, .int .i64 0, .slice none 0 0] 29)) y → y.heap[w.heap.size + 1]? = some (.cells #[.slice none 0 0, .int .i64 0, .int .i64 0, .int .i64 0, .slice none 0 0] 29 (0, 0))) := fun y hy => (hy.block _ (by omega)).trans (boxN _ _ _ _ (by simp))
  have lR : w.heap.size + 1 < w.heap.size + 1 + 1 := by omega
  have CH : Hid (∀ y, Below (w.heap.size + 1 + 1) ((w.alloc (.cells #[.slice (some ⟨ga, oa, none⟩) n0 c0, .int .i64 (yg : Nat), .int .i64 (tp : Nat), .int .i64 (od : Nat), .slice b m0 d0] 29)).alloc (.cells #[.slice none 0 0, .int .i64 0, .int .i64 0, .int .i64 0, .slice none 0 0] 29)) y → Chg (fun k => k = ga) w y) := fun y hy => chgb ((Chg.alloc (fun k => k = ga) w _).trans (Chg.alloc (fun k => k = ga) _ _) (fun _ _ h => h)) hy (by omega)
  have FA : Hid (∀ y, Below (w.heap.size + 1 + 1) ((w.alloc (.cells #[.slice (some ⟨ga, oa, none⟩) n0 c0, .int .i64 (yg : Nat), .int .i64 (tp : Nat), .int .i64 (od : Nat), .slice b m0 d0] 29)).alloc (.cells #[.slice none 0 0, .int .i64 0, .int .i64 0, .int .i64 0, .slice none 0 0] 29)) y → Wri y (some ⟨ga, oa, none⟩) n0 (fun j => (ws).getD j 0)) := fun y hy => HA.out.later (B.out y hy)
  have FC : Hid (∀ y, Below (w.heap.size + 1 + 1) ((w.alloc (.cells #[.slice (some ⟨ga, oa, none⟩) n0 c0, .int .i64 (yg : Nat), .int .i64 (tp : Nat), .int .i64 (od : Nat), .slice b m0 d0] 29)).alloc (.cells #[.slice none 0 0, .int .i64 0, .int .i64 0, .int .i64 0, .slice none 0 0] 29)) y → WriB y b m0 (fun j => cd.getD j false)) := fun y hy => HC.out.later (B.out y hy)
  go_enter Tryz.func29, Tryz.ntmps29
  go_wp2_with fail
  have BP : Hid (Below (w.heap.size + 1 + 1) ((w.alloc (.cells #[.slice (some ⟨ga, oa, none⟩) n0 c0, .int .i64 (yg : Nat), .int .i64 (tp : Nat), .int .i64 (od : Nat), .slice b m0 d0] 29)).alloc (.cells #[.slice none 0 0, .int .i64 0, .int .i64 0, .int .i64 0, .slice none 0 0] 29)) ((w.alloc (.cells #[.slice (some ⟨ga, oa, none⟩) n0 c0, .int .i64 (yg : Nat), .int .i64 (tp : Nat), .int .i64 (od : Nat), .slice b m0 d0] 29)).alloc (.cells #[.slice none 0 0, .int .i64 0, .int .i64 0, .int .i64 0, .slice none 0 0] 29))) := bR
  refine (wantSpec _ _ _ c v L _ (H.out.later (B.out _ BP.out)) OK.out hv).mono ?_
  rintro e w1 ⟨rfl, hb⟩
  rw [SZ.out]
  have hq : Below (w.heap.size + 1 + 1) ((w.alloc (.cells #[.slice (some ⟨ga, oa, none⟩) n0 c0, .int .i64 (yg : Nat), .int .i64 (tp : Nat), .int .i64 (od : Nat), .slice b m0 d0] 29)).alloc (.cells #[.slice none 0 0, .int .i64 0, .int .i64 0, .int .i64 0, .slice none 0 0] 29)) w1 := BP.out.trans (Below.mono hb (Nat.le_trans hz BP.out.size))
  have hzn : w.heap.size + 1 + 1 ≤ w1.heap.size := Nat.le_trans hz hq.size
  replace B := lF B hq hzn
  replace CH := lF CH hq hzn
  replace FA := lF FA hq hzn
  replace FC := lF FC hq hzn
  replace XM := lF XM hq hzn
  replace lM := Nat.lt_of_lt_of_le lM hzn
  replace XR := lF XR hq hzn
  replace lR := Nat.lt_of_lt_of_le lR hzn
  clear hq BP hz
  have hz : w1.heap.size ≤ w1.heap.size := Nat.le_refl _
  clear hb
  cases old
  · by_cases hr : tp + s ≤ yg
    · have hr2 : (tp : Int) + (s : Int) ≤ (yg : Int) := by omega
      obtain ⟨es, hes⟩ : ∃ es, tp + s = es := ⟨_, rfl⟩
      have hadd : IntKind.i64.wrap ((tp : Int) + (s : Int)) = (es : Int) := by rw [IntKind.wrap_i64] <;> omega
      have hsub : IntKind.i64.wrap ((es : Int) - (s : Int)) = (tp : Int) := by rw [IntKind.wrap_i64] <;> omega
      have HES : Hid (((tp + s : Nat) : Int) = (es : Int)) := by show _ = _; omega
      have he2 : es ≤ 1000 := by omega
      have he3 : (es : Int) ≤ (yg : Int) := by omega
      clear hes
      obtain ⟨kM0, kM1, kM2, kM3, kM4⟩ := bk5 (XM.out w1 bR)
      obtain ⟨qkM0, qkM1, qkM2, qkM3, qkM4⟩ := bq5 (XM.out w1 bR)
      obtain ⟨kR0, kR1, kR2, kR3, kR4⟩ := bk5 (XR.out w1 bR)
      go_upto_region 7 with fail
      clear kM0 kM1 kM2 kM3 kM4 qkM0 qkM1 qkM2 qkM3 qkM4 kR0 kR1 kR2 kR3 kR4
      have hw0 : w.heap.size ≤ w.heap.size := (by first | omega | (simp; done) | (simp; omega) | (simp at *; omega))
      replace XR := lS XR lR ((w1.setCell ⟨w.heap.size, 2, none⟩ (.int .i64 (es : Nat)))) ((Below.heap_setCell _ _ _ _ (by first | omega | (simp; done) | (simp; omega))))
      replace XM : Hid (∀ y, Below (w1.heap.size) (w1.setCell ⟨w.heap.size, 2, none⟩ (.int .i64 (es : Nat))) y → y.heap[w.heap.size]? = some (.cells #[.slice (some ⟨ga, oa, none⟩) n0 c0, .int .i64 (yg : Nat), .int .i64 (es : Nat), .int .i64 (od : Nat), .slice b m0 d0] 29 (0, 0))) := fun y hy => (hy.block _ (by omega)).trans (boxS (XM.out w1 bR) 2 _)
      replace CH : Hid (∀ y, Below (w1.heap.size) (w1.setCell ⟨w.heap.size, 2, none⟩ (.int .i64 (es : Nat))) y → Chg (fun k => k = ga) w y) := fun y hy => chgb ((CH.out w1 bR).trans (Chg.set (D := fun k9 => k9 = w.heap.size) _ ⟨w.heap.size, 2, none⟩ _ rfl) (fun k hk hd => by have h8 : k = w.heap.size := hd; omega)) hy (CH.out w1 bR).size
      replace FA : Hid (∀ y, Below (w1.heap.size) (w1.setCell ⟨w.heap.size, 2, none⟩ (.int .i64 (es : Nat))) y → Wri y (some ⟨ga, oa, none⟩) n0 (fun j => (ws).getD j 0)) := fun y hy => ((FA.out w1 bR).keep (D := fun k9 => k9 = w.heap.size) (Chg.set _ _ _ rfl) (fun x e h0 hd => by have h8 : x.block = w.heap.size := hd; obtain rfl := Option.some.inj e; simp only at h8; omega)).later (hy.mono (by simp))
      replace FC : Hid (∀ y, Below (w1.heap.size) (w1.setCell ⟨w.heap.size, 2, none⟩ (.int .i64 (es : Nat))) y → WriB y b m0 (fun j => cd.getD j false)) := fun y hy => ((FC.out w1 bR).keep (D := fun k9 => k9 = w.heap.size) (Chg.set _ _ _ rfl) (fun x e h0 hd => by have h8 : x.block = w.heap.size := hd; have := (HAB.out x e h0).2; omega)).later (hy.mono (by simp))
      replace B : Hid (∀ y, Below (w1.heap.size) (w1.setCell ⟨w.heap.size, 2, none⟩ (.int .i64 (es : Nat))) y → Below w.heap.size w y) := fun y hy => ((B.out w1 bR).setCell hw0 _).trans (hy.mono (by first | omega | exact Nat.le_trans (B.out w1 bR).size hz | (have := (B.out w1 bR).size; omega)))
      replace hz : w1.heap.size ≤ (w1.setCell ⟨w.heap.size, 2, none⟩ (.int .i64 (es : Nat))).heap.size := by first | (simp; done) | simpa using hz
      clear hw0
      generalize (w1.setCell ⟨w.heap.size, 2, none⟩ (.int .i64 (es : Nat))) = w2 at B CH FA FC XM XR hz ⊢
      have hzn : w1.heap.size ≤ w2.heap.size := Nat.le_trans hz (Below.size (Below.refl (w1.heap.size) w2))
      replace B := lF B (Below.refl (w1.heap.size) w2) hzn
      replace CH := lF CH (Below.refl (w1.heap.size) w2) hzn
      replace FA := lF FA (Below.refl (w1.heap.size) w2) hzn
      replace FC := lF FC (Below.refl (w1.heap.size) w2) hzn
      replace XM := lF XM (Below.refl (w1.heap.size) w2) hzn
      replace lM := Nat.lt_of_lt_of_le lM hzn
      replace XR := lF XR (Below.refl (w1.heap.size) w2) hzn
      replace lR := Nat.lt_of_lt_of_le lR hzn
      clear hz
      have hz : w2.heap.size ≤ w2.heap.size := Nat.le_refl _
      obtain ⟨kM0, kM1, kM2, kM3, kM4⟩ := bk5 (XM.out w2 bR)
      obtain ⟨kR0, kR1, kR2, kR3, kR4⟩ := bk5 (XR.out w2 bR)
      go_wp2_with fail
      clear kM0 kM1 kM2 kM3 kM4 kR0 kR1 kR2 kR3 kR4
      refine (mkSpec ga oa n0 c0 yg es od b m0 d0 tp c v ws cd _ (FA.out _ bR) (FC.out _ bR) WS.out hn (fun x e h0 => (HAB.out x e h0).1) (by omega) (by omega) (by omega)).mono ?_
      rintro e w3 ⟨rfl, hA3, hC3, hch⟩
      replace XM := Proofs.YtjbmcdekhhbiaaaGreat.lC XM (Nat.lt_of_lt_of_le lM hz) hch (by show ¬ _ = _; omega)
      replace lM := Nat.lt_of_lt_of_le lM (Nat.le_trans hz (Chg.size hch))
      replace XR := Proofs.YtjbmcdekhhbiaaaGreat.lC XR (Nat.lt_of_lt_of_le lR hz) hch (by show ¬ _ = _; omega)
      replace lR := Nat.lt_of_lt_of_le lR (Nat.le_trans hz (Chg.size hch))
      clear hz
      have hz : w3.heap.size ≤ w3.heap.size := Nat.le_refl _
      clear B FA FC
      replace CH : Hid (∀ y, Below w3.heap.size w3 y → Chg (fun k => k = ga) w y) := fun y hy => chgb (chgt (CH.out w2 bR) hch) hy (Nat.le_trans (CH.out w2 bR).size (Chg.size hch))
      have FA : Hid (∀ y, Below (w3.heap.size) w3 y → Wri y (some ⟨ga, oa, none⟩) n0 (fun j => (mkW ws tp c v).getD j 0)) := fun y hy => hA3.later hy
      have FC : Hid (∀ y, Below (w3.heap.size) w3 y → WriB y b m0 (fun j => cd.getD j false)) := fun y hy => hC3.later hy
      clear hA3 hC3 hch
      have TM : Hid (tryM (ws, (yg : Int), (tp : Int), (od : Int), cd) c v s false = ((mkW ws tp c v, (yg : Int), ((es : Int) : Int), (od : Int), cd), ((tp + 1 : Nat) : Int))) := by show _ = _; rw [← HES.out]; unfold tryM; rw [if_neg (by simp), if_pos (by simp only; omega)]; rfl
      obtain ⟨kM0, kM1, kM2, kM3, kM4⟩ := bk5 (XM.out w3 bR)
      obtain ⟨kR0, kR1, kR2, kR3, kR4⟩ := bk5 (XR.out w3 bR)
      obtain ⟨qkR0, qkR1, qkR2, qkR3, qkR4⟩ := bq5 (XR.out w3 bR)
      go_wp2_with fail
      refine bodyPost_ret (v := .tuple #[.agg #[.slice (some ⟨ga, oa, none⟩) n0 c0, .int .i64 (yg : Nat), .int .i64 (es : Nat), .int .i64 (od : Nat), .slice b m0 d0], .int .i64 (tp + 1 : Nat)]) ?_ rfl ?_
      · simp [results, Tryz.results29, go_sem, *]
      · clear kM0 kM1 kM2 kM3 kM4 kR0 kR1 kR2 kR3 kR4 qkR0 qkR1 qkR2 qkR3 qkR4
        rw [SZ.out, TM.out]
        refine ⟨rfl, ?_, ?_, ?_⟩
        · exact (FA.out w3 bR).keep (chg5 w3 (w.heap.size + 1) (.slice (some ⟨ga, oa, none⟩) n0 c0) (.int .i64 (yg : Nat)) (.int .i64 (es : Nat)) (.int .i64 (od : Nat)) (.slice b m0 d0)) (fun x e h0 hd => by have h8 : x.block = w.heap.size + 1 := hd; obtain rfl := Option.some.inj e; simp only at h8; omega)
        · exact (FC.out w3 bR).keep (chg5 w3 (w.heap.size + 1) (.slice (some ⟨ga, oa, none⟩) n0 c0) (.int .i64 (yg : Nat)) (.int .i64 (es : Nat)) (.int .i64 (od : Nat)) (.slice b m0 d0)) (fun x e h0 hd => by have h8 : x.block = w.heap.size + 1 := hd; have := (HAB.out x e h0).2; omega)
        · exact (CH.out w3 bR).trans (chg5 w3 (w.heap.size + 1) (.slice (some ⟨ga, oa, none⟩) n0 c0) (.int .i64 (yg : Nat)) (.int .i64 (es : Nat)) (.int .i64 (od : Nat)) (.slice b m0 d0)) (fun k hk hd => by have h8 : k = w.heap.size + 1 := hd; omega)
    have hadd : IntKind.i64.wrap ((tp : Int) + (s : Int)) = ((tp + s : Nat) : Int) := by rw [IntKind.wrap_i64] <;> omega
    have hr2 : ¬ ((tp : Int) + (s : Int) ≤ (yg : Int)) := by omega
    have TM : Hid (tryM (ws, (yg : Int), (tp : Int), (od : Int), cd) c v s false = ((ws, (yg : Int), (tp : Int), (od : Int), cd), 0)) := by show _ = _; unfold tryM; rw [if_neg (by simp), if_neg (by simp only; omega)]
    obtain ⟨kM0, kM1, kM2, kM3, kM4⟩ := bk5 (XM.out w1 bR)
    obtain ⟨kR0, kR1, kR2, kR3, kR4⟩ := bk5 (XR.out w1 bR)
    obtain ⟨qkR0, qkR1, qkR2, qkR3, qkR4⟩ := bq5 (XR.out w1 bR)
    go_wp2_with fail
    refine bodyPost_ret (v := .tuple #[.agg #[.slice (some ⟨ga, oa, none⟩) n0 c0, .int .i64 (yg : Nat), .int .i64 (tp : Nat), .int .i64 (od : Nat), .slice b m0 d0], .int .i64 0]) ?_ rfl ?_
    · simp [results, Tryz.results29, go_sem, *]
    · clear kM0 kM1 kM2 kM3 kM4 kR0 kR1 kR2 kR3 kR4 qkR0 qkR1 qkR2 qkR3 qkR4
      rw [SZ.out, TM.out]
      refine ⟨rfl, ?_, ?_, ?_⟩
      · exact (FA.out w1 bR).keep (chg5 w1 (w.heap.size + 1) (.slice (some ⟨ga, oa, none⟩) n0 c0) (.int .i64 (yg : Nat)) (.int .i64 (tp : Nat)) (.int .i64 (od : Nat)) (.slice b m0 d0)) (fun x e h0 hd => by have h8 : x.block = w.heap.size + 1 := hd; obtain rfl := Option.some.inj e; simp only at h8; omega)
      · exact (FC.out w1 bR).keep (chg5 w1 (w.heap.size + 1) (.slice (some ⟨ga, oa, none⟩) n0 c0) (.int .i64 (yg : Nat)) (.int .i64 (tp : Nat)) (.int .i64 (od : Nat)) (.slice b m0 d0)) (fun x e h0 hd => by have h8 : x.block = w.heap.size + 1 := hd; have := (HAB.out x e h0).2; omega)
      · exact (CH.out w1 bR).trans (chg5 w1 (w.heap.size + 1) (.slice (some ⟨ga, oa, none⟩) n0 c0) (.int .i64 (yg : Nat)) (.int .i64 (tp : Nat)) (.int .i64 (od : Nat)) (.slice b m0 d0)) (fun k hk hd => by have h8 : k = w.heap.size + 1 := hd; omega)
  by_cases hr : od + s ≤ n0
  · have hr2 : (od : Int) + (s : Int) ≤ (n0 : Int) := by omega
    obtain ⟨es, hes⟩ : ∃ es, od + s = es := ⟨_, rfl⟩
    have hadd : IntKind.i64.wrap ((od : Int) + (s : Int)) = (es : Int) := by rw [IntKind.wrap_i64] <;> omega
    have hsub : IntKind.i64.wrap ((es : Int) - (s : Int)) = (od : Int) := by rw [IntKind.wrap_i64] <;> omega
    have HES : Hid (((od + s : Nat) : Int) = (es : Int)) := by show _ = _; omega
    have he2 : es ≤ 1000 := by omega
    have he3 : (es : Int) ≤ (n0 : Int) := by omega
    clear hes
    obtain ⟨kM0, kM1, kM2, kM3, kM4⟩ := bk5 (XM.out w1 bR)
    obtain ⟨qkM0, qkM1, qkM2, qkM3, qkM4⟩ := bq5 (XM.out w1 bR)
    obtain ⟨kR0, kR1, kR2, kR3, kR4⟩ := bk5 (XR.out w1 bR)
    go_upto_region 4 with fail
    clear kM0 kM1 kM2 kM3 kM4 qkM0 qkM1 qkM2 qkM3 qkM4 kR0 kR1 kR2 kR3 kR4
    have hw0 : w.heap.size ≤ w.heap.size := (by first | omega | (simp; done) | (simp; omega) | (simp at *; omega))
    replace XR := lS XR lR ((w1.setCell ⟨w.heap.size, 3, none⟩ (.int .i64 (es : Nat)))) ((Below.heap_setCell _ _ _ _ (by first | omega | (simp; done) | (simp; omega))))
    replace XM : Hid (∀ y, Below (w1.heap.size) (w1.setCell ⟨w.heap.size, 3, none⟩ (.int .i64 (es : Nat))) y → y.heap[w.heap.size]? = some (.cells #[.slice (some ⟨ga, oa, none⟩) n0 c0, .int .i64 (yg : Nat), .int .i64 (tp : Nat), .int .i64 (es : Nat), .slice b m0 d0] 29 (0, 0))) := fun y hy => (hy.block _ (by omega)).trans (boxS (XM.out w1 bR) 3 _)
    replace CH : Hid (∀ y, Below (w1.heap.size) (w1.setCell ⟨w.heap.size, 3, none⟩ (.int .i64 (es : Nat))) y → Chg (fun k => k = ga) w y) := fun y hy => chgb ((CH.out w1 bR).trans (Chg.set (D := fun k9 => k9 = w.heap.size) _ ⟨w.heap.size, 3, none⟩ _ rfl) (fun k hk hd => by have h8 : k = w.heap.size := hd; omega)) hy (CH.out w1 bR).size
    replace FA : Hid (∀ y, Below (w1.heap.size) (w1.setCell ⟨w.heap.size, 3, none⟩ (.int .i64 (es : Nat))) y → Wri y (some ⟨ga, oa, none⟩) n0 (fun j => (ws).getD j 0)) := fun y hy => ((FA.out w1 bR).keep (D := fun k9 => k9 = w.heap.size) (Chg.set _ _ _ rfl) (fun x e h0 hd => by have h8 : x.block = w.heap.size := hd; obtain rfl := Option.some.inj e; simp only at h8; omega)).later (hy.mono (by simp))
    replace FC : Hid (∀ y, Below (w1.heap.size) (w1.setCell ⟨w.heap.size, 3, none⟩ (.int .i64 (es : Nat))) y → WriB y b m0 (fun j => cd.getD j false)) := fun y hy => ((FC.out w1 bR).keep (D := fun k9 => k9 = w.heap.size) (Chg.set _ _ _ rfl) (fun x e h0 hd => by have h8 : x.block = w.heap.size := hd; have := (HAB.out x e h0).2; omega)).later (hy.mono (by simp))
    replace B : Hid (∀ y, Below (w1.heap.size) (w1.setCell ⟨w.heap.size, 3, none⟩ (.int .i64 (es : Nat))) y → Below w.heap.size w y) := fun y hy => ((B.out w1 bR).setCell hw0 _).trans (hy.mono (by first | omega | exact Nat.le_trans (B.out w1 bR).size hz | (have := (B.out w1 bR).size; omega)))
    replace hz : w1.heap.size ≤ (w1.setCell ⟨w.heap.size, 3, none⟩ (.int .i64 (es : Nat))).heap.size := by first | (simp; done) | simpa using hz
    clear hw0
    generalize (w1.setCell ⟨w.heap.size, 3, none⟩ (.int .i64 (es : Nat))) = w2 at B CH FA FC XM XR hz ⊢
    have hzn : w1.heap.size ≤ w2.heap.size := Nat.le_trans hz (Below.size (Below.refl (w1.heap.size) w2))
    replace B := lF B (Below.refl (w1.heap.size) w2) hzn
    replace CH := lF CH (Below.refl (w1.heap.size) w2) hzn
    replace FA := lF FA (Below.refl (w1.heap.size) w2) hzn
    replace FC := lF FC (Below.refl (w1.heap.size) w2) hzn
    replace XM := lF XM (Below.refl (w1.heap.size) w2) hzn
    replace lM := Nat.lt_of_lt_of_le lM hzn
    replace XR := lF XR (Below.refl (w1.heap.size) w2) hzn
    replace lR := Nat.lt_of_lt_of_le lR hzn
    clear hz
    have hz : w2.heap.size ≤ w2.heap.size := Nat.le_refl _
    obtain ⟨kM0, kM1, kM2, kM3, kM4⟩ := bk5 (XM.out w2 bR)
    obtain ⟨kR0, kR1, kR2, kR3, kR4⟩ := bk5 (XR.out w2 bR)
    go_wp2_with fail
    clear kM0 kM1 kM2 kM3 kM4 kR0 kR1 kR2 kR3 kR4
    refine (mkSpec ga oa n0 c0 yg tp es b m0 d0 od c v ws cd _ (FA.out _ bR) (FC.out _ bR) WS.out hn (fun x e h0 => (HAB.out x e h0).1) (by omega) (by omega) (by omega)).mono ?_
    rintro e w3 ⟨rfl, hA3, hC3, hch⟩
    replace XM := Proofs.YtjbmcdekhhbiaaaGreat.lC XM (Nat.lt_of_lt_of_le lM hz) hch (by show ¬ _ = _; omega)
    replace lM := Nat.lt_of_lt_of_le lM (Nat.le_trans hz (Chg.size hch))
    replace XR := Proofs.YtjbmcdekhhbiaaaGreat.lC XR (Nat.lt_of_lt_of_le lR hz) hch (by show ¬ _ = _; omega)
    replace lR := Nat.lt_of_lt_of_le lR (Nat.le_trans hz (Chg.size hch))
    clear hz
    have hz : w3.heap.size ≤ w3.heap.size := Nat.le_refl _
    clear B FA FC
    replace CH : Hid (∀ y, Below w3.heap.size w3 y → Chg (fun k => k = ga) w y) := fun y hy => chgb (chgt (CH.out w2 bR) hch) hy (Nat.le_trans (CH.out w2 bR).size (Chg.size hch))
    have FA : Hid (∀ y, Below (w3.heap.size) w3 y → Wri y (some ⟨ga, oa, none⟩) n0 (fun j => (mkW ws od c v).getD j 0)) := fun y hy => hA3.later hy
    have FC : Hid (∀ y, Below (w3.heap.size) w3 y → WriB y b m0 (fun j => cd.getD j false)) := fun y hy => hC3.later hy
    clear hA3 hC3 hch
    have TM : Hid (tryM (ws, (yg : Int), (tp : Int), (od : Int), cd) c v s true = ((mkW ws od c v, (yg : Int), (tp : Int), ((es : Int) : Int), cd), ((od + 1 : Nat) : Int))) := by show _ = _; rw [← HES.out]; unfold tryM; rw [if_pos rfl, if_pos (by simp only [WS.out]; omega)]; rfl
    obtain ⟨kM0, kM1, kM2, kM3, kM4⟩ := bk5 (XM.out w3 bR)
    obtain ⟨kR0, kR1, kR2, kR3, kR4⟩ := bk5 (XR.out w3 bR)
    obtain ⟨qkR0, qkR1, qkR2, qkR3, qkR4⟩ := bq5 (XR.out w3 bR)
    go_wp2_with fail
    refine bodyPost_ret (v := .tuple #[.agg #[.slice (some ⟨ga, oa, none⟩) n0 c0, .int .i64 (yg : Nat), .int .i64 (tp : Nat), .int .i64 (es : Nat), .slice b m0 d0], .int .i64 (od + 1 : Nat)]) ?_ rfl ?_
    · simp [results, Tryz.results29, go_sem, *]
    · clear kM0 kM1 kM2 kM3 kM4 kR0 kR1 kR2 kR3 kR4 qkR0 qkR1 qkR2 qkR3 qkR4
      rw [SZ.out, TM.out]
      refine ⟨rfl, ?_, ?_, ?_⟩
      · exact (FA.out w3 bR).keep (chg5 w3 (w.heap.size + 1) (.slice (some ⟨ga, oa, none⟩) n0 c0) (.int .i64 (yg : Nat)) (.int .i64 (tp : Nat)) (.int .i64 (es : Nat)) (.slice b m0 d0)) (fun x e h0 hd => by have h8 : x.block = w.heap.size + 1 := hd; obtain rfl := Option.some.inj e; simp only at h8; omega)
      · exact (FC.out w3 bR).keep (chg5 w3 (w.heap.size + 1) (.slice (some ⟨ga, oa, none⟩) n0 c0) (.int .i64 (yg : Nat)) (.int .i64 (tp : Nat)) (.int .i64 (es : Nat)) (.slice b m0 d0)) (fun x e h0 hd => by have h8 : x.block = w.heap.size + 1 := hd; have := (HAB.out x e h0).2; omega)
      · exact (CH.out w3 bR).trans (chg5 w3 (w.heap.size + 1) (.slice (some ⟨ga, oa, none⟩) n0 c0) (.int .i64 (yg : Nat)) (.int .i64 (tp : Nat)) (.int .i64 (es : Nat)) (.slice b m0 d0)) (fun k hk hd => by have h8 : k = w.heap.size + 1 := hd; omega)
  have hadd : IntKind.i64.wrap ((od : Int) + (s : Int)) = ((od + s : Nat) : Int) := by rw [IntKind.wrap_i64] <;> omega
  have hr2 : ¬ ((od : Int) + (s : Int) ≤ (n0 : Int)) := by omega
  have TM : Hid (tryM (ws, (yg : Int), (tp : Int), (od : Int), cd) c v s true = ((ws, (yg : Int), (tp : Int), (od : Int), cd), 0)) := by show _ = _; unfold tryM; rw [if_pos rfl, if_neg (by simp only [WS.out]; omega)]
  obtain ⟨kM0, kM1, kM2, kM3, kM4⟩ := bk5 (XM.out w1 bR)
  obtain ⟨kR0, kR1, kR2, kR3, kR4⟩ := bk5 (XR.out w1 bR)
  obtain ⟨qkR0, qkR1, qkR2, qkR3, qkR4⟩ := bq5 (XR.out w1 bR)
  go_wp2_with fail
  refine bodyPost_ret (v := .tuple #[.agg #[.slice (some ⟨ga, oa, none⟩) n0 c0, .int .i64 (yg : Nat), .int .i64 (tp : Nat), .int .i64 (od : Nat), .slice b m0 d0], .int .i64 0]) ?_ rfl ?_
  · simp [results, Tryz.results29, go_sem, *]
  · clear kM0 kM1 kM2 kM3 kM4 kR0 kR1 kR2 kR3 kR4 qkR0 qkR1 qkR2 qkR3 qkR4
    rw [SZ.out, TM.out]
    refine ⟨rfl, ?_, ?_, ?_⟩
    · exact (FA.out w1 bR).keep (chg5 w1 (w.heap.size + 1) (.slice (some ⟨ga, oa, none⟩) n0 c0) (.int .i64 (yg : Nat)) (.int .i64 (tp : Nat)) (.int .i64 (od : Nat)) (.slice b m0 d0)) (fun x e h0 hd => by have h8 : x.block = w.heap.size + 1 := hd; obtain rfl := Option.some.inj e; simp only at h8; omega)
    · exact (FC.out w1 bR).keep (chg5 w1 (w.heap.size + 1) (.slice (some ⟨ga, oa, none⟩) n0 c0) (.int .i64 (yg : Nat)) (.int .i64 (tp : Nat)) (.int .i64 (od : Nat)) (.slice b m0 d0)) (fun x e h0 hd => by have h8 : x.block = w.heap.size + 1 := hd; have := (HAB.out x e h0).2; omega)
    · exact (CH.out w1 bR).trans (chg5 w1 (w.heap.size + 1) (.slice (some ⟨ga, oa, none⟩) n0 c0) (.int .i64 (yg : Nat)) (.int .i64 (tp : Nat)) (.int .i64 (od : Nat)) (.slice b m0 d0)) (fun k hk hd => by have h8 : k = w.heap.size + 1 := hd; omega)

set_option maxRecDepth 100000 in
set_option maxHeartbeats 8000000 in
theorem mmakeSpec (ca : Option Addr) (cn cc : Nat) (wa : Option Addr) (wl wc : Nat) (yg tp od : Int) (da : Option Addr) (dl dc : Nat) (v k : Int) (ol : Bool) (ws : List Int) (cd : List Bool) (L : List Cl) (w : World) {D E G G2 : Nat → Prop} (h : ClsAt D E w ca cn L) (hw : IntsAt G w wa wl ws) (hc : SlAt boolR G2 w da dl cd) (hyg : i64B yg) (htp : i64B tp) (hod : i64B od) (hl : wl ≤ 1048576) (hd : dl ≤ 1048576) (hv : i64B v) (hk : i64B k) :
    Calls Tryz.prog 8 #[.slice ca cn cc, .agg #[.slice wa wl wc, .int .i64 yg, .int .i64 tp, .int .i64 od, .slice da dl dc], .int .i64 v, .int .i64 k, .bool ol] w (AnsM w (makR L (ws, yg, tp, od, cd) v k ol).1 (.int .i64 (makR L (ws, yg, tp, od, cd) v k ol).2)) := by
  have H : Hid (ClsAt D E w ca cn L) := h
  have HW : Hid (IntsAt G w wa wl ws) := hw
  have HC : Hid (SlAt boolR G2 w da dl cd) := hc
  have WS : Hid (ws.length = wl) := hw.size
  have CS : Hid (cd.length = dl) := hc.size
  clear h hw hc
  have hz : w.heap.size + 1 + 1 ≤ ((w.alloc (.cells #[.slice wa wl wc, .int .i64 yg, .int .i64 tp, .int .i64 od, .slice da dl dc] 29)).alloc (.cells #[.slice none 0 0, .int .i64 0, .int .i64 0, .int .i64 0, .slice none 0 0] 29)).heap.size := by simp
  have B : Hid (∀ y, Below (w.heap.size + 1 + 1) ((w.alloc (.cells #[.slice wa wl wc, .int .i64 yg, .int .i64 tp, .int .i64 od, .slice da dl dc] 29)).alloc (.cells #[.slice none 0 0, .int .i64 0, .int .i64 0, .int .i64 0, .slice none 0 0] 29)) y → Below w.heap.size w y) := fun y hy => ((bR.alloc (by first | exact Nat.le_refl _ | (simp; done) | (simp; omega)) _).alloc (by first | exact Nat.le_refl _ | (simp; done) | (simp; omega)) _).trans (hy.mono (by omega))
  have XM : Hid (∀ y, Below (w.heap.size + 1 + 1) ((w.alloc (.cells #[.slice wa wl wc, .int .i64 yg, .int .i64 tp, .int .i64 od, .slice da dl dc] 29)).alloc (.cells #[.slice none 0 0, .int .i64 0, .int .i64 0, .int .i64 0, .slice none 0 0] 29)) y → y.heap[w.heap.size]? = some (.cells #[.slice wa wl wc, .int .i64 yg, .int .i64 tp, .int .i64 od, .slice da dl dc] 29 (0, 0))) := fun y hy => (hy.block _ (by omega)).trans ((Below.heap_alloc _ _ _ (by first | (simp; done) | (simp; omega))).trans (boxN _ _ _ _ (by simp)))
  have lM : w.heap.size < w.heap.size + 1 + 1 := by omega
  have XR : Hid (∀ y, Below (w.heap.size + 1 + 1) ((w.alloc (.cells #[.slice wa wl wc, .int .i64 yg, .int .i64 tp, .int .i64 od, .slice da dl dc] 29)).alloc (.cells #[.slice none 0 0, .int .i64 0, .int .i64 0, .int .i64 0, .slice none 0 0] 29)) y → y.heap[w.heap.size + 1]? = some (.cells #[.slice none 0 0, .int .i64 0, .int .i64 0, .int .i64 0, .slice none 0 0] 29 (0, 0))) := fun y hy => (hy.block _ (by omega)).trans (boxN _ _ _ _ (by simp))
  have lR : w.heap.size + 1 < w.heap.size + 1 + 1 := by omega
  go_enter Tryz.func8, Tryz.ntmps8
  go_wp2_with fail
  have BP : Hid (Below (w.heap.size + 1 + 1) ((w.alloc (.cells #[.slice wa wl wc, .int .i64 yg, .int .i64 tp, .int .i64 od, .slice da dl dc] 29)).alloc (.cells #[.slice none 0 0, .int .i64 0, .int .i64 0, .int .i64 0, .slice none 0 0] 29)) ((w.alloc (.cells #[.slice wa wl wc, .int .i64 yg, .int .i64 tp, .int .i64 od, .slice da dl dc] 29)).alloc (.cells #[.slice none 0 0, .int .i64 0, .int .i64 0, .int .i64 0, .slice none 0 0] 29))) := bR
  refine (memSpec _ _ _ _ _ _ yg tp od _ _ _ ws cd L _ (H.out.later (B.out _ BP.out)) (HW.out.later (B.out _ BP.out)) (HC.out.later (B.out _ BP.out)) hyg htp hod hl hd).mono ?_
  rintro e w1 ⟨rfl, hb⟩
  have hq : Below (w.heap.size + 1 + 1) ((w.alloc (.cells #[.slice wa wl wc, .int .i64 yg, .int .i64 tp, .int .i64 od, .slice da dl dc] 29)).alloc (.cells #[.slice none 0 0, .int .i64 0, .int .i64 0, .int .i64 0, .slice none 0 0] 29)) w1 := BP.out.trans (Below.mono hb (Nat.le_trans hz BP.out.size))
  have hzn : w.heap.size + 1 + 1 ≤ w1.heap.size := Nat.le_trans hz hq.size
  replace B := lF B hq hzn
  replace XM := lF XM hq hzn
  replace lM := Nat.lt_of_lt_of_le lM hzn
  replace XR := lF XR hq hzn
  replace lR := Nat.lt_of_lt_of_le lR hzn
  clear hq BP hz
  have hz : w1.heap.size ≤ w1.heap.size := Nat.le_refl _
  clear hb
  cases hq : memB L (ws, yg, tp, od, cd)
  · obtain ⟨kM0, kM1, kM2, kM3, kM4⟩ := bk5 (XM.out w1 bR)
    obtain ⟨kR0, kR1, kR2, kR3, kR4⟩ := bk5 (XR.out w1 bR)
    obtain ⟨qkR0, qkR1, qkR2, qkR3, qkR4⟩ := bq5 (XR.out w1 bR)
    go_wp2_with fail
    refine bodyPost_ret (v := .tuple #[.agg #[.slice none 0 0, .int .i64 0, .int .i64 0, .int .i64 0, .slice none 0 0], .int .i64 0]) ?_ rfl ?_
    · simp [results, Tryz.results8, go_sem, *]
    · rw [makR_no hq]
      exact ansM_zero _ (by (repeat (refine Below.setCell ?_ (by first | omega | (simp <;> omega)) _)); exact B.out _ bR)
  have hB0 := (memB_ok hq).1
  have HB0 : Hid (Bnd L (ws, yg, tp, od, cd)) := hB0
  have hcards := hB0.cards
  obtain ⟨k0, k1, k2, k3, k4, _⟩ := hB0
  have OK : Hid (clsOk L = true) := k0
  simp only [WS.out, CS.out] at k1 k2 k3 k4 hcards
  obtain ⟨yn, rfl⟩ : ∃ n : Nat, yg = n := ⟨yg.toNat, by omega⟩
  obtain ⟨tn, rfl⟩ : ∃ n : Nat, tp = n := ⟨tp.toNat, by omega⟩
  obtain ⟨on, rfl⟩ : ∃ n : Nat, od = n := ⟨od.toNat, by omega⟩
  have m1 : tn ≤ yn := by omega
  have m2 : yn ≤ on := by omega
  have m3 : on ≤ wl := by omega
  have m4 : wl ≤ 200 := by omega
  have m5 : wl ≤ yn + dl * 4 := by omega
  have HM : Hid (memB L (ws, (yn : Int), (tn : Int), (on : Int), cd) = true) := hq
  clear k0 k1 k2 k3 k4 hcards hyg htp hod hq
  obtain ⟨kM0, kM1, kM2, kM3, kM4⟩ := bk5 (XM.out w1 bR)
  obtain ⟨kR0, kR1, kR2, kR3, kR4⟩ := bk5 (XR.out w1 bR)
  go_wp2_with fail
  clear kM0 kM1 kM2 kM3 kM4 kR0 kR1 kR2 kR3 kR4
  have BP : Hid (Below (w1.heap.size) w1 w1) := bR
  refine (wantSpec _ _ _ v k L _ (H.out.later (B.out _ BP.out)) OK.out hk).mono ?_
  rintro e w2 ⟨rfl, hb⟩
  have hq : Below (w1.heap.size) w1 w2 := BP.out.trans (Below.mono hb (Nat.le_trans hz BP.out.size))
  have hzn : w1.heap.size ≤ w2.heap.size := Nat.le_trans hz hq.size
  replace B := lF B hq hzn
  replace XM := lF XM hq hzn
  replace lM := Nat.lt_of_lt_of_le lM hzn
  replace XR := lF XR hq hzn
  replace lR := Nat.lt_of_lt_of_le lR hzn
  clear hq BP hz
  have hz : w2.heap.size ≤ w2.heap.size := Nat.le_refl _
  clear hb
  cases hT : isT L v k
  · rw [wnt_no hT]
    obtain ⟨kM0, kM1, kM2, kM3, kM4⟩ := bk5 (XM.out w2 bR)
    obtain ⟨kR0, kR1, kR2, kR3, kR4⟩ := bk5 (XR.out w2 bR)
    obtain ⟨qkR0, qkR1, qkR2, qkR3, qkR4⟩ := bq5 (XR.out w2 bR)
    go_wp2_with fail
    refine bodyPost_ret (v := .tuple #[.agg #[.slice none 0 0, .int .i64 0, .int .i64 0, .int .i64 0, .slice none 0 0], .int .i64 0]) ?_ rfl ?_
    · simp [results, Tryz.results8, go_sem, *]
    · rw [makR_not hT]
      exact ansM_zero _ (by (repeat (refine Below.setCell ?_ (by first | omega | (simp <;> omega)) _)); exact B.out _ bR)
  obtain ⟨s, hs⟩ : ∃ s, wnt L v k = s := ⟨_, rfl⟩
  have SZ : Hid (wnt L v k = s) := hs
  have hs9 : ((s : Int) == 0) = false := by
    have h1 : 1 ≤ s := by rw [← hs, wnt_yes hT]; have := hdN_pos v; omega
    rw [beq_eq_false_iff_ne]; omega
  rw [hs]
  clear hs
  obtain ⟨kM0, kM1, kM2, kM3, kM4⟩ := bk5 (XM.out w2 bR)
  obtain ⟨kR0, kR1, kR2, kR3, kR4⟩ := bk5 (XR.out w2 bR)
  go_wp2_with fail
  clear kM0 kM1 kM2 kM3 kM4 kR0 kR1 kR2 kR3 kR4
  have BP : Hid (Below (w2.heap.size) w2 w2) := bR
  have m7 : 14 ≤ wl := by have := HB0.out.od; simp only [WS.out] at this; omega
  have hwR : w.heap.size + 1 < w2.heap.size := lR
  refine (copySpec21 (yn : Nat) (tn : Nat) (on : Nat) _ _ _ _ _ _ ws cd _ (HW.out.later (B.out _ BP.out)) (HC.out.later (B.out _ BP.out)) (by omega) hd).mono ?_
  rintro e w8 ⟨a, ac, b, bc, rfl, hA, hC, ha, hb0, hab, hb8⟩
  obtain ⟨ga, oa, rfl⟩ := hA.pt (by omega)
  have hga := ha _ rfl (by omega)
  have hgs := hA.lt _ rfl (by omega)
  simp only at hga hgs
  obtain ⟨⟨⟨rs, z1, z2, z3, rc⟩, ra⟩, hr⟩ : ∃ r, tryM (ws, (yn : Int), (tn : Int), (on : Int), cd) v k (wnt L v k) ol = r := ⟨_, rfl⟩
  have hlen := tryM_len (ws, (yn : Int), (tn : Int), (on : Int), cd) v k (wnt L v k) ol
  have hcds := tryM_cd (ws, (yn : Int), (tn : Int), (on : Int), cd) v k (wnt L v k) ol
  rw [hr] at hlen hcds
  simp only at hlen hcds
  obtain rfl : cd = rc := hcds.symm
  have LEN : Hid (rs.length = wl) := hlen.trans WS.out
  have MR : Hid (makR L (ws, (yn : Int), (tn : Int), (on : Int), cd) v k ol = ((rs, z1, z2, z3, cd), ra)) := (makR_yes HM.out hT).trans hr
  have HL8 : Hid (ClsAt D E w8 ca cn L) := H.out.later ((B.out _ BP.out).trans (hb8.mono (B.out _ BP.out).size))
  have LB : Hid (∀ x, b = some x → 0 < dl → w2.heap.size ≤ x.block) := hb0
  go_wp2_with fail
  refine (trySpec ca cn cc ga oa wl ac yn tn on b dl bc v k ol ws cd L w8 HL8.out OK.out hk hT m1 m2 m3 hA hC WS.out (by omega) (fun x e h0 => fun h9 => hab _ _ rfl e (by omega) h0 h9.symm) hgs).mono ?_
  rw [hr]
  rintro e w9 ⟨rfl, hA9, hC9, hch⟩
  have hb : Below w2.heap.size w2 w9 := hb8.trans (hch.below hb8.size (fun k9 hk9 hd9 => by
    have h8 : k9 = ga := hd9
    omega))
  have HA9 : Hid (Wri w9 (some ⟨ga, oa, none⟩) wl (fun j => rs.getD j 0)) := hA9
  have HC9 : Hid (WriB w9 b dl (fun j => cd.getD j false)) := hC9
  have AB : Hid (∀ x y : Addr, some (⟨ga, oa, none⟩ : Addr) = some x → b = some y → 0 < wl → 0 < dl → x.block ≠ y.block) := hab
  have BB : Hid (Below w.heap.size w w2) := B.out _ bR
  clear hA hC ha hb0 hab hA9 hC9 hch hb8 hr hlen HL8
  have hq : Below (w2.heap.size) w2 w9 := BP.out.trans (Below.mono hb (Nat.le_trans hz BP.out.size))
  have hzn : w2.heap.size ≤ w9.heap.size := Nat.le_trans hz hq.size
  replace B := lF B hq hzn
  replace XM := lF XM hq hzn
  replace lM := Nat.lt_of_lt_of_le lM hzn
  replace XR := lF XR hq hzn
  replace lR := Nat.lt_of_lt_of_le lR hzn
  clear hq BP hz
  have hz : w9.heap.size ≤ w9.heap.size := Nat.le_refl _
  clear hb
  obtain ⟨kM0, kM1, kM2, kM3, kM4⟩ := bk5 (XM.out w9 bR)
  obtain ⟨kR0, kR1, kR2, kR3, kR4⟩ := bk5 (XR.out w9 bR)
  obtain ⟨qkR0, qkR1, qkR2, qkR3, qkR4⟩ := bq5 (XR.out w9 bR)
  go_wp2_with fail
  refine bodyPost_ret (v := .tuple #[.agg #[.slice (some ⟨ga, oa, none⟩) wl ac, .int .i64 z1, .int .i64 z2, .int .i64 z3, .slice b dl bc], .int .i64 ra]) ?_ rfl ?_
  · simp [results, Tryz.results8, go_sem, *]
  · clear kM0 kM1 kM2 kM3 kM4 kR0 kR1 kR2 kR3 kR4 qkR0 qkR1 qkR2 qkR3 qkR4
    rw [MR.out]
    show AnsM w (rs, z1, z2, z3, cd) (.int .i64 ra) _ _
    have h9 := BB.out.size
    refine ⟨some ⟨ga, oa, none⟩, wl, ac, b, dl, bc, rfl, LEN.out, CS.out, ?_, ?_, ?_, ?_, AB.out, ?_⟩
    · exact HA9.out.keep (chg5 w9 (w.heap.size + 1) (.slice (some ⟨ga, oa, none⟩) wl ac) (.int .i64 z1) (.int .i64 z2) (.int .i64 z3) (.slice b dl bc)) (fun x e h0 hd => by have h8 : x.block = w.heap.size + 1 := hd; obtain rfl := Option.some.inj e; simp only at h8; omega)
    · exact HC9.out.keep (chg5 w9 (w.heap.size + 1) (.slice (some ⟨ga, oa, none⟩) wl ac) (.int .i64 z1) (.int .i64 z2) (.int .i64 z3) (.slice b dl bc)) (fun x e h0 hd => by have h8 : x.block = w.heap.size + 1 := hd; have := LB.out x e h0; omega)
    · exact fun x e h0 => by obtain rfl := Option.some.inj e; simp only; omega
    · exact fun x e h0 => by have := LB.out x e h0; omega
    · (repeat (refine Below.setCell ?_ (by first | omega | (simp <;> omega)) _)); exact B.out _ bR

end Go.Proofs.YtjbmcdekhhbiaaaGreat
namespace Go.Proofs.YtjbmcdekhhbiaaaGreat.fnExactMemMake
open Go.ChangeShapes Go.WideShapes Go.ChangeAt Go.RowKit
set_option linter.unusedVariables false

theorem frozen_past (w : World) (b o : Nat) (h : w.heap.size ≤ b) : w.frozen? ⟨b, o, none⟩ = false := by
  simp [World.frozen?, Array.getElem?_eq_none h]
def AnsQ (w : World) (rs : List Int) (z1 z2 z3 : Int) (rc : List Bool) (n m : Nat) (u : Value) (e : Ending) (w' : World) : Prop :=
  ∃ a c b d, e = .returned (.tuple #[.agg #[.slice a n c, .int .i64 z1, .int .i64 z2, .int .i64 z3, .slice b m d], u]) ∧ Wri w' a n (fun j => rs.getD j 0) ∧ WriB w' b m (fun j => rc.getD j false) ∧ (∀ x, a = some x → 0 < n → w.heap.size ≤ x.block) ∧ (∀ x, b = some x → 0 < m → w.heap.size ≤ x.block) ∧ (∀ x y, a = some x → b = some y → 0 < n → 0 < m → x.block ≠ y.block) ∧ Below w.heap.size w w'
theorem ansq {w w' : World} {rs : List Int} {z1 z2 z3 : Int} {rc : List Bool} {n m : Nat} {u : Value} {e : Ending} (h : AnsM w (rs, z1, z2, z3, rc) u e w') (hn : rs.length = n) (hm : rc.length = m) : AnsQ w rs z1 z2 z3 rc n m u e w' := by
  obtain ⟨a, n2, c, b, m2, d, he, h1, h2, h3⟩ := h
  obtain rfl : n2 = n := h1.symm.trans hn
  obtain rfl : m2 = m := h2.symm.trans hm
  exact ⟨a, c, b, d, he, h3⟩
theorem set_fits {xs : List Int} {i : Nat} {u : Int} (h : ∀ j, i64B (xs.getD j 0)) (hu : i64B u) : ∀ j, i64B ((xs.set i u).getD j 0) := fun j => by
  rw [List.getD_eq_getElem?_getD, List.getElem?_set]
  split
  · split
    · exact hu
    · exact ⟨by decide, by decide⟩
  · rw [← List.getD_eq_getElem?_getD]; exact h j
theorem mkW_fits {ws : List Int} {i : Nat} {c n : Int} (h : ∀ j, i64B (ws.getD j 0)) (hc : i64B c) (hn : i64B n) : ∀ j, i64B ((mkW ws i c n).getD j 0) := by
  unfold mkW
  split
  · exact set_fits (set_fits h hc) hn
  · exact set_fits h hc
theorem tryM_fits {m : Mm} {c n : Int} {s : Nat} {old : Bool} (h : ∀ j, i64B (m.1.getD j 0)) (hc : i64B c) (hn : i64B n) : ∀ j, i64B ((tryM m c n s old).1.1.getD j 0) := by
  unfold tryM
  cases old
  · rw [if_neg (by simp)]; split
    · exact mkW_fits h hc hn
    · exact h
  · rw [if_pos rfl]; split
    · exact mkW_fits h hc hn
    · exact h
theorem makR_few {L : List Cl} {m : Mm} {v k : Int} {ol : Bool} : (makR L m v k ol).1.1.length ≤ 1000 ∧ (makR L m v k ol).1.2.2.2.2.length ≤ 1000 := by
  unfold makR
  split
  · rename_i hq
    have hB := (memB_ok hq.1).1
    have h1 := hB.od
    have h2 := hB.yg
    have h3 := hB.cards
    rw [tryM_len, tryM_cd]
    omega
  · exact ⟨Nat.zero_le _, Nat.zero_le _⟩
theorem makR_fits {L : List Cl} {m : Mm} {v k : Int} {ol : Bool} (h : ∀ j, i64B (m.1.getD j 0)) (hv : i64B v) (hk : i64B k) : ∀ j, i64B ((makR L m v k ol).1.1.getD j 0) := by
  unfold makR
  split
  · exact tryM_fits h hv hk
  · intro j; simp [zM, i64B]
theorem mmS (ca : Option Addr) (cn cc : Nat) (wa : Option Addr) (wl wc : Nat) (yg tp od : Int) (da : Option Addr) (dl dc : Nat) (v k : Int) (ol : Bool) (ws : List Int) (cd : List Bool) (L : List Cl) (w : World) {D E G G2 : Nat → Prop} (h : ClsAt D E w ca cn L) (hw : IntsAt G w wa wl ws) (hc : SlAt boolR G2 w da dl cd) (hyg : i64B yg) (htp : i64B tp) (hod : i64B od) (hl : wl ≤ 1048576) (hd : dl ≤ 1048576) (hv : i64B v) (hk : i64B k) {rs : List Int} {z1 z2 z3 ra : Int} {rc : List Bool} {n m : Nat} (hR : makR L (ws, yg, tp, od, cd) v k ol = ((rs, z1, z2, z3, rc), ra)) (hn : rs.length = n) (hm : rc.length = m) : Calls Tryz.prog 8 #[.slice ca cn cc, .agg #[.slice wa wl wc, .int .i64 yg, .int .i64 tp, .int .i64 od, .slice da dl dc], .int .i64 v, .int .i64 k, .bool ol] w (AnsQ w rs z1 z2 z3 rc n m (.int .i64 ra)) := by
  have hq := mmakeSpec ca cn cc wa wl wc yg tp od da dl dc v k ol ws cd L w h hw hc hyg htp hod hl hd hv hk
  rw [hR] at hq
  exact hq.mono fun e w' h9 => ansq h9 hn hm
theorem mmI (ca : Option Addr) (cn cc : Nat) (wa : Option Addr) (wl wc : Nat) (yg tp od : Int) (da : Option Addr) (dl dc : Nat) (v k : Int) (ol : Bool) (ws : List Int) (cd : List Bool) (L : List Cl) (w : World) {D E G G2 : Nat → Prop} (h : ClsAt D E w ca cn L) (hw : IntsAt G w wa wl ws) (hc : SlAt boolR G2 w da dl cd) (hyg : i64B yg) (hl : wl ≤ 1048576) (hd : dl ≤ 1048576) (hcap : wl ≤ wc) (hv : i64B v) (hk : i64B k) {rs : List Int} {z1 z2 z3 ra : Int} {rc : List Bool} {n m : Nat} (hR : makR L (ws, yg, tp, od, cd) v k ol = ((rs, z1, z2, z3, rc), ra)) (hn : rs.length = n) (hm : rc.length = m) : Calls Tryz.prog 11 #[.slice ca cn cc, .agg #[.slice wa wl wc, .int .i64 yg, .int .i64 tp, .int .i64 od, .slice da dl dc], .int .i64 v, .int .i64 k, .bool ol] w (AnsQ w rs z1 z2 z3 rc n m (.int .i64 ra)) := by
  have hq := mmakeImpl ca cn cc wa wl wc yg tp od da dl dc v k ol ws cd L w h hw hc hyg hl hd hcap hv hk
  rw [hR] at hq
  exact hq.mono fun e w' h9 => ansq h9 hn hm
set_option maxRecDepth 100000 in
set_option maxHeartbeats 16000000 in
theorem walk (a0 : Option Addr) (l0 c0 : Nat) (b0 : Option Addr) (m0 d0 : Nat) (yg tp od : Int) (b4 : Option Addr) (m4 d4 : Nat) (v k : Int) (ol : Bool) (L : List Cl) (ws : List Int) (cd : List Bool) (w : World) {D : Nat → Prop} (h : SlAt clR D w a0 l0 L) (hw : SlAt intR D w b0 m0 ws) (hc : SlAt boolR D w b4 m4 cd) (hyg : i64B yg) (htp : i64B tp) (hod : i64B od) (hv : i64B v) (hk : i64B k) :
    Calls Tryz.prog 3 #[.slice a0 l0 c0, .agg #[.slice b0 m0 d0, .int .i64 yg, .int .i64 tp, .int .i64 od, .slice b4 m4 d4], .int .i64 v, .int .i64 k, .bool ol] w fun e w' => e = .returned (.bool true) ∧ Below w.heap.size w w' := by
  obtain ⟨⟨⟨rs, z1, z2, z3, rc⟩, ra⟩, hR⟩ : ∃ r, makR L (ws, yg, tp, od, cd) v k ol = r := ⟨_, rfl⟩
  obtain ⟨n, hn⟩ : ∃ n, rs.length = n := ⟨_, rfl⟩
  obtain ⟨m, hm⟩ : ∃ m, rc.length = m := ⟨_, rfl⟩
  have HR : Hid (makR L (ws, yg, tp, od, cd) v k ol = ((rs, z1, z2, z3, rc), ra)) := hR
  have HN : Hid (rs.length = n) := hn
  have HM2 : Hid (rc.length = m) := hm
  have hfew := @makR_few L (ws, yg, tp, od, cd) v k ol
  have RFT : Hid (∀ j, i64B (rs.getD j 0)) := by have := @makR_fits L (ws, yg, tp, od, cd) v k ol hw.ints.fits hv hk; rw [hR] at this; exact this
  rw [hR] at hfew
  simp only [hn, hm] at hfew
  obtain ⟨hn2, hm2⟩ := hfew
  have eq1 : (ra != ra) = false := by simp
  clear hR hn hm
  have H : Hid (SlAt clR D w a0 l0 L) := h
  have HW : Hid (SlAt intR D w b0 m0 ws) := hw
  have HC : Hid (SlAt boolR D w b4 m4 cd) := hc
  have B0 : Hid (Below w.heap.size w (w.alloc (.cells #[.slice b0 m0 d0, .int .i64 yg, .int .i64 tp, .int .i64 od, .slice b4 m4 d4] 26))) := (Below.refl _ _).alloc (Nat.le_refl _) _
  clear h hw hc
  go_enter Tryz.func3, Tryz.ntmps3
  go_wp2_with fail
  refine (szLClass _ _ _ L _ _ (H.out.later B0.out) (by omega) (by omega)).mono ?_
  rintro e w1 ⟨r, rfl, r0, r1, hsz, hb⟩
  have M0 : Hid (0 ≤ r → (Rep.list clR).small L) := hsz
  have hb0 : Below (w.heap.size + 1) (w.alloc (.cells #[.slice b0 m0 d0, .int .i64 yg, .int .i64 tp, .int .i64 od, .slice b4 m4 d4] 26)) w1 := by simpa using hb
  have lC : w.heap.size < w1.heap.size := by have := hb0.size; simp at this; omega
  have XC : Hid (∀ y, Below w1.heap.size w1 y → y.heap[w.heap.size]? = some (.cells #[.slice b0 m0 d0, .int .i64 yg, .int .i64 tp, .int .i64 od, .slice b4 m4 d4] 26 (0, 0))) := fun y hy => (hy.block _ lC).trans ((hb0.block _ (by omega)).trans (boxN _ _ _ _ rfl))
  have B : Hid (∀ y, Below w1.heap.size w1 y → Below w.heap.size w y) := fun y hy => (B0.out.trans (hb0.mono (by omega))).trans (hy.mono (by omega))
  clear hsz hb hb0 B0
  obtain ⟨kC0, kC1, kC2, kC3, kC4⟩ := bk5 (XC.out w1 bR)
  by_cases hr : r < 0
  · go_wp2_with fail
    go_ret
    exact ⟨rfl, B.out _ (Below.refl _ _)⟩
  have SL : Hid ((Rep.list clR).small L) := M0.out (by omega)
  clear M0
  have BP : Hid (Below w1.heap.size w1 w1) := Below.refl _ _
  go_wp2_with fail
  refine (szRMem yg tp od _ _ _ _ _ _ ws cd _ _ (HW.out.later (B.out _ BP.out)) (HC.out.later (B.out _ BP.out)) (by omega) (by omega)).mono ?_
  rintro e w2 ⟨r2, rfl, r3, r4, hsz, hb⟩
  have M0 : Hid (0 ≤ r2 → Rep.small memR (ws, yg, tp, od, cd)) := hsz
  clear hsz
  have hq : Below w1.heap.size w1 w2 := BP.out.trans (Below.mono hb BP.out.size)
  replace B := lF B hq hq.size
  replace XC := lF XC hq hq.size
  replace lC := Nat.lt_of_lt_of_le lC hq.size
  have zw2 : w1.heap.size ≤ w2.heap.size := hq.size
  clear hq BP
  clear kC0 kC1 kC2 kC3 kC4
  clear hb
  obtain ⟨kC0, kC1, kC2, kC3, kC4⟩ := bk5 (XC.out w2 bR)
  by_cases hr2 : r2 < 0
  · go_wp2_with fail
    go_ret
    exact ⟨rfl, B.out _ (Below.refl _ _)⟩
  have SW : Hid ((Rep.list intR).small ws) := (M0.out (by omega)).1
  have SB : Hid ((Rep.list boolR).small cd) := (M0.out (by omega)).2.2.2.2
  clear M0
  have hwl : m0 ≤ 1048576 := by rw [← HW.out.size]; exact SW.out.1
  have hdl : m4 ≤ 1048576 := by rw [← HC.out.size]; exact SB.out.1
  go_upto_region 8 with fail
  go_cut [12, 13] from 33 to 43 (fun s t wx => ∃ (X : Nat) (sa : Option Addr) (sc : Nat) (sb : Option Addr) (sd : Nat), s = .pointer (some ⟨X, 0, none⟩) ∧ t = .int .i64 ra ∧ w2.heap.size ≤ X ∧ X < wx.heap.size ∧ wx.heap[X]? = some (.cells #[.slice sa n sc, .int .i64 z1, .int .i64 z2, .int .i64 z3, .slice sb m sd] 29 (0, 0)) ∧ Wri wx sa n (fun j => rs.getD j 0) ∧ WriB wx sb m (fun j => rc.getD j false) ∧ Below w2.heap.size w2 wx)
  case first =>
    have hz : w2.heap.size ≤ w2.heap.size := Nat.le_refl _
    have yC0 : w.heap.size < w2.heap.size := lC
    have BW : Hid (∀ y, Below w2.heap.size w2 y → Below w2.heap.size w2 y) := fun y hy => hy
    have KS : Hid (∀ x, Below (w2.heap.size) w2 x → x.cell? ⟨w.heap.size, 0, none⟩ = some (.slice b0 m0 d0) ∧ x.cell? ⟨w.heap.size, 1, none⟩ = some (.int .i64 yg) ∧ x.cell? ⟨w.heap.size, 2, none⟩ = some (.int .i64 tp) ∧ x.cell? ⟨w.heap.size, 3, none⟩ = some (.int .i64 od) ∧ x.cell? ⟨w.heap.size, 4, none⟩ = some (.slice b4 m4 d4)) := fun x hx => bk5 (XC.out x hx)
    refine wp_region_held_drew (S := fun x => x.cell? ⟨w.heap.size, 0, none⟩ = some (.slice b0 m0 d0) ∧ x.cell? ⟨w.heap.size, 1, none⟩ = some (.int .i64 yg) ∧ x.cell? ⟨w.heap.size, 2, none⟩ = some (.int .i64 tp) ∧ x.cell? ⟨w.heap.size, 3, none⟩ = some (.int .i64 od) ∧ x.cell? ⟨w.heap.size, 4, none⟩ = some (.slice b4 m4 d4)) (by kernel_rfl) ?_ (fun hHeld => ?_)
    · exact KS.out _ (bdrew bR)
    refine tV 0 (v := ?_) rfl (by kernel_rfl) (fun _ _ _ h => h) ?_ (by assumption) ?_
    rotate_left 1
    · (intro x hSx; (try dsimp only at hSx); go_simp; try with_reducible rfl)
    try simp only [Act.put, zgT, zg0, zsT, zs0, zsS]
    refine tV 2 (v := ?_) rfl (by kernel_rfl) (fun _ _ _ h => h) ?_ (by assumption) ?_
    rotate_left 1
    · (intro x hSx; (try dsimp only at hSx); go_simp; try with_reducible rfl)
    try simp only [Act.put, zgT, zg0, zgS, zsT, zs0, zsS]
    refine tV 4 (v := ?_) rfl (by kernel_rfl) (fun _ _ _ h => h) ?_ (by assumption) ?_
    rotate_left 1
    · (intro x hSx; (try dsimp only at hSx); go_simp; try with_reducible rfl)
    try simp only [Act.put, zgT, zg0, zgS, zsT, zs0, zsS]
    refine tV 5 (v := ?_) rfl (by kernel_rfl) (fun _ _ _ h => h) ?_ (by assumption) ?_
    rotate_left 1
    · (intro x hSx; (try dsimp only at hSx); go_simp; try with_reducible rfl)
    try simp only [Act.put, zgT, zg0, zgS, zsT, zs0, zsS]
    refine tV 6 (v := ?_) rfl (by kernel_rfl) (fun _ _ _ h => h) ?_ (by assumption) ?_
    rotate_left 1
    · (intro x hSx; (try dsimp only at hSx); go_simp; try with_reducible rfl)
    try simp only [Act.put, zgT, zg0, zgS, zsT, zs0, zsS]
    refine wpAnyH_ready (rs := [1, 11]) (by kernel_rfl) (by simp) ?_
    refine AllReadyH.cons rfl (fun K hK => ?_) (AllReadyH.cons rfl (fun K hK => ?_) AllReadyH.nil)
    · go_simp
      go_at_call 9
      have BP : Hid (Below (w2.heap.size) w2 w2.drew) := (bdrew bR)
      refine (toLClass _ _ _ L _ (H.out.later (B.out _ BP.out)) SL.out).mono ?_
      rintro e wa ⟨na0, nc0, rfl, hU, hb⟩
      have FL0 : Hid (SlAt clR (fun _ => True) wa na0 l0 L) := hU.mono (fun _ _ _ => trivial)
      clear hU
      have hq : Below (w2.heap.size) w2 wa := BP.out.trans (Below.mono hb (Nat.le_trans hz BP.out.size))
      have hzn : w2.heap.size ≤ wa.heap.size := Nat.le_trans hz hq.size
      replace B := lF B hq hzn
      replace BW := lF BW hq hzn
      replace KS := lF KS hq hzn
      replace XC := lF XC hq hzn
      replace lC := Nat.lt_of_lt_of_le lC hzn
      clear hq BP hz
      have hz : wa.heap.size ≤ wa.heap.size := Nat.le_refl _
      clear hb
      go_wp2_with fail
      have FL : Hid (∀ y, Below (wa.heap.size) wa y → SlAt clR (fun _ => True) y na0 l0 L) := fun y hy => FL0.out.later hy
      clear FL0
      refine hK.out _ _ (KS.out _ bR) (fun hHeld2 => ?_)
      clear hK K
      try simp only [Act.put, zgT, zg0, zgS, zsT, zs0, zsS]
      refine wpAnyH_ready (rs := [3, 11]) (by kernel_rfl) (by simp) ?_
      refine AllReadyH.cons rfl (fun K hK => ?_) (AllReadyH.cons rfl (fun K hK => ?_) AllReadyH.nil)
      · go_simp
        go_at_call 10
        have BP : Hid (Below (wa.heap.size) wa wa) := bR
        refine (toRMem yg tp od _ _ _ _ _ _ ws cd _ (HW.out.later (B.out _ BP.out)) SW.out (HC.out.later (B.out _ BP.out)) SB.out).mono ?_
        rintro e wb ⟨nb0, nd0, nb4, nd4, rfl, hX, hF, hb⟩
        have FW0 : Hid (SlAt intR (fun _ => True) wb nb0 m0 ws) := hX.mono (fun _ _ _ => trivial)
        have FB0 : Hid (SlAt boolR (fun _ => True) wb nb4 m4 cd) := hF.mono (fun _ _ _ => trivial)
        clear hX hF
        have hq : Below (wa.heap.size) wa wb := BP.out.trans (Below.mono hb (Nat.le_trans hz BP.out.size))
        have hzn : wa.heap.size ≤ wb.heap.size := Nat.le_trans hz hq.size
        replace B := lF B hq hzn
        replace BW := lF BW hq hzn
        replace KS := lF KS hq hzn
        replace FL := lF FL hq hzn
        replace XC := lF XC hq hzn
        replace lC := Nat.lt_of_lt_of_le lC hzn
        clear hq BP hz
        have hz : wb.heap.size ≤ wb.heap.size := Nat.le_refl _
        clear hb
        go_wp2_with fail
        have FW : Hid (∀ y, Below (wb.heap.size) wb y → SlAt intR (fun _ => True) y nb0 m0 ws) := fun y hy => FW0.out.later hy
        have FB : Hid (∀ y, Below (wb.heap.size) wb y → SlAt boolR (fun _ => True) y nb4 m4 cd) := fun y hy => FB0.out.later hy
        clear FW0 FB0
        refine hK.out _ _ (KS.out _ bR) (fun hHeld3 => ?_)
        clear hK K
        try simp only [Act.put, zgT, zg0, zgS, zsT, zs0, zsS]
        refine wpAnyH_ready (rs := [7, 11]) (by kernel_rfl) (by simp) ?_
        refine AllReadyH.cons rfl (fun K hK => ?_) (AllReadyH.cons rfl (fun K hK => ?_) AllReadyH.nil)
        · go_simp
          go_at_call 8
          have BP : Hid (Below (wb.heap.size) wb wb) := bR
          refine (mmS _ _ _ _ _ _ yg tp od _ _ _ v k ol ws cd L _ (FL.out _ BP.out).cls (FW.out _ BP.out).ints (FB.out _ BP.out) hyg htp hod hwl hdl hv hk HR.out HN.out HM2.out).mono ?_
          rintro e wd ⟨sa, sc, sb, sd, rfl, hA, hC, ha, hb0, hab, hb⟩
          have LA : Hid (∀ x, sa = some x → 0 < n → wb.heap.size ≤ x.block ∧ x.block < wd.heap.size) := fun x e h0 => ⟨Nat.le_trans (Nat.le_trans hz BP.out.size) (ha x e h0), hA.lt x e h0⟩
          have LB : Hid (∀ x, sb = some x → 0 < m → wb.heap.size ≤ x.block ∧ x.block < wd.heap.size) := fun x e h0 => ⟨Nat.le_trans (Nat.le_trans hz BP.out.size) (hb0 x e h0), hC.lt x e h0⟩
          have GA0 : Hid (Wri wd sa n (fun j => rs.getD j 0)) := hA
          have GB0 : Hid (WriB wd sb m (fun j => rc.getD j false)) := hC
          clear hA hC ha hb0 hab
          have hq : Below (wb.heap.size) wb wd := BP.out.trans (Below.mono hb (Nat.le_trans hz BP.out.size))
          have hzn : wb.heap.size ≤ wd.heap.size := Nat.le_trans hz hq.size
          replace B := lF B hq hzn
          replace BW := lF BW hq hzn
          replace KS := lF KS hq hzn
          replace FL := lF FL hq hzn
          replace FW := lF FW hq hzn
          replace FB := lF FB hq hzn
          replace XC := lF XC hq hzn
          replace lC := Nat.lt_of_lt_of_le lC hzn
          clear hq BP hz
          have hz : wd.heap.size ≤ wd.heap.size := Nat.le_refl _
          clear hb
          go_wp2_with fail
          have GA : Hid (∀ y, Below (wd.heap.size) wd y → Wri y sa n (fun j => rs.getD j 0)) := fun y hy => GA0.out.later hy
          have GB : Hid (∀ y, Below (wd.heap.size) wd y → WriB y sb m (fun j => rc.getD j false)) := fun y hy => GB0.out.later hy
          clear GA0 GB0
          refine hK.out _ _ (KS.out _ bR) (fun hHeld4 => ?_)
          clear hK K
          try simp only [Act.put, zgT, zg0, zgS, zsT, zs0, zsS]
          refine tV 8 (v := ?_) rfl (by kernel_rfl) (fun _ _ _ h => h) ?_ (by assumption) ?_
          rotate_left 1
          · (intro x hSx; (try dsimp only at hSx); go_simp; try with_reducible rfl)
          try simp only [Act.put, zgT, zg0, zgS, zsT, zs0, zsS]
          refine tV 9 (v := ?_) rfl (by kernel_rfl) (fun _ _ _ h => h) ?_ (by assumption) ?_
          rotate_left 1
          · (intro x hSx; (try dsimp only at hSx); go_simp; try with_reducible rfl)
          try simp only [Act.put, zgT, zg0, zgS, zsT, zs0, zsS]
          refine tV 10 (v := ?_) rfl (by kernel_rfl) (fun _ _ _ h => h) ?_ (by assumption) ?_
          rotate_left 1
          · (intro x hSx; (try dsimp only at hSx); go_simp; try with_reducible rfl)
          try simp only [Act.put, zgT, zg0, zgS, zsT, zs0, zsS]
          refine wpAnyH_ready (rs := [11]) (by kernel_rfl) (by simp) ?_
          refine AllReadyH.cons rfl (fun K hK => ?_) AllReadyH.nil
          have hlow9 : w.heap.size ≤ wd.heap.size := by first | exact (B.out _ bR).size | (have := (B.out wd bR).size; simpa using this)
          have hw2 : w2.heap.size ≤ wd.heap.size := by first | exact Nat.le_refl _ | exact (BW.out _ bR).size | (have := (BW.out wd bR).size; simpa using this)
          go_simp
          have BP : Hid (Below (wd.heap.size) wd (wd.alloc (.cells #[.slice none 0 0, .int .i64 0, .int .i64 0, .int .i64 0, .slice none 0 0] 29))) := (bR.alloc (by first | exact hz | (simp; done) | (simp; omega) | (have := hz; simp at this ⊢; omega)) _)
          replace B := lA B BP
          replace BW := lA BW BP
          replace KS := lA KS BP
          replace FL := lA FL BP
          replace FW := lA FW BP
          replace FB := lA FB BP
          replace GA := lA GA BP
          replace GB := lA GB BP
          replace XC := lA XC BP
          replace lC := lL lC
          have XZ : Hid (∀ y, Below (wd.heap.size + 1) (wd.alloc (.cells #[.slice none 0 0, .int .i64 0, .int .i64 0, .int .i64 0, .slice none 0 0] 29)) y → y.heap[wd.heap.size]? = some (.cells #[.slice none 0 0, .int .i64 0, .int .i64 0, .int .i64 0, .slice none 0 0] 29 (0, 0))) := fun y hy => (hy.block _ (by omega)).trans (boxN _ _ _ _ (by simp))
          have lZ : wd.heap.size < wd.heap.size + 1 := by omega
          replace hz : wd.heap.size + 1 ≤ ((wd.alloc (.cells #[.slice none 0 0, .int .i64 0, .int .i64 0, .int .i64 0, .slice none 0 0] 29))).heap.size := by simp
          clear BP
          refine hK.out _ _ (KS.out _ bR) (fun hHeld5 => ?_)
          clear hK K
          try simp only [Act.put, zgT, zg0, zgS, zsT, zs0, zsS]
          refine wpAnyH_ready (rs := [12]) (by kernel_rfl) (by simp) ?_
          refine AllReadyH.cons rfl (fun K hK => ?_) AllReadyH.nil
          obtain ⟨kZ0, kZ1, kZ2, kZ3, kZ4⟩ := bk5 (XZ.out (wd.alloc (.cells #[.slice none 0 0, .int .i64 0, .int .i64 0, .int .i64 0, .slice none 0 0] 29)) bR)
          obtain ⟨qkZ0, qkZ1, qkZ2, qkZ3, qkZ4⟩ := bq5 (XZ.out (wd.alloc (.cells #[.slice none 0 0, .int .i64 0, .int .i64 0, .int .i64 0, .slice none 0 0] 29)) bR)
          go_simp
          clear kZ0 kZ1 kZ2 kZ3 kZ4 qkZ0 qkZ1 qkZ2 qkZ3 qkZ4
          have hw0 : w.heap.size ≤ wd.heap.size := (by first | omega | (simp; done) | (simp; omega) | (simp at *; omega))
          replace XC := lS XC lC (((((((wd.alloc (.cells #[.slice none 0 0, .int .i64 0, .int .i64 0, .int .i64 0, .slice none 0 0] 29)).setCell ⟨wd.heap.size, 0, none⟩ (.slice sa n sc)).setCell ⟨wd.heap.size, 1, none⟩ (.int .i64 z1)).setCell ⟨wd.heap.size, 2, none⟩ (.int .i64 z2)).setCell ⟨wd.heap.size, 3, none⟩ (.int .i64 z3)).setCell ⟨wd.heap.size, 4, none⟩ (.slice sb m sd))) ((Below.heap_setCell _ _ _ _ (by first | omega | (simp; done) | (simp; omega))).trans ((Below.heap_setCell _ _ _ _ (by first | omega | (simp; done) | (simp; omega))).trans ((Below.heap_setCell _ _ _ _ (by first | omega | (simp; done) | (simp; omega))).trans ((Below.heap_setCell _ _ _ _ (by first | omega | (simp; done) | (simp; omega))).trans ((Below.heap_setCell _ _ _ _ (by first | omega | (simp; done) | (simp; omega))))))))
          replace XZ : Hid (∀ y, Below (wd.heap.size + 1) ((((((wd.alloc (.cells #[.slice none 0 0, .int .i64 0, .int .i64 0, .int .i64 0, .slice none 0 0] 29)).setCell ⟨wd.heap.size, 0, none⟩ (.slice sa n sc)).setCell ⟨wd.heap.size, 1, none⟩ (.int .i64 z1)).setCell ⟨wd.heap.size, 2, none⟩ (.int .i64 z2)).setCell ⟨wd.heap.size, 3, none⟩ (.int .i64 z3)).setCell ⟨wd.heap.size, 4, none⟩ (.slice sb m sd)) y → y.heap[wd.heap.size]? = some (.cells #[.slice sa n sc, .int .i64 z1, .int .i64 z2, .int .i64 z3, .slice sb m sd] 29 (0, 0))) := fun y hy => (hy.block _ (by omega)).trans (boxS (boxS (boxS (boxS (boxS (XZ.out (wd.alloc (.cells #[.slice none 0 0, .int .i64 0, .int .i64 0, .int .i64 0, .slice none 0 0] 29)) bR) 0 _) 1 _) 2 _) 3 _) 4 _)
          replace BW : Hid (∀ y, Below (wd.heap.size + 1) ((((((wd.alloc (.cells #[.slice none 0 0, .int .i64 0, .int .i64 0, .int .i64 0, .slice none 0 0] 29)).setCell ⟨wd.heap.size, 0, none⟩ (.slice sa n sc)).setCell ⟨wd.heap.size, 1, none⟩ (.int .i64 z1)).setCell ⟨wd.heap.size, 2, none⟩ (.int .i64 z2)).setCell ⟨wd.heap.size, 3, none⟩ (.int .i64 z3)).setCell ⟨wd.heap.size, 4, none⟩ (.slice sb m sd)) y → Below w2.heap.size w2 y) := fun y hy => ((((((BW.out (wd.alloc (.cells #[.slice none 0 0, .int .i64 0, .int .i64 0, .int .i64 0, .slice none 0 0] 29)) bR).setCell hw2 _).setCell hw2 _).setCell hw2 _).setCell hw2 _).setCell hw2 _).trans (hy.mono (by have := lZ; omega))
          clear KS
          clear FL
          clear FW
          clear FB
          replace GA : Hid (∀ y, Below (wd.heap.size + 1) ((((((wd.alloc (.cells #[.slice none 0 0, .int .i64 0, .int .i64 0, .int .i64 0, .slice none 0 0] 29)).setCell ⟨wd.heap.size, 0, none⟩ (.slice sa n sc)).setCell ⟨wd.heap.size, 1, none⟩ (.int .i64 z1)).setCell ⟨wd.heap.size, 2, none⟩ (.int .i64 z2)).setCell ⟨wd.heap.size, 3, none⟩ (.int .i64 z3)).setCell ⟨wd.heap.size, 4, none⟩ (.slice sb m sd)) y → Wri y sa n (fun j => rs.getD j 0)) := fun y hy => ((GA.out (wd.alloc (.cells #[.slice none 0 0, .int .i64 0, .int .i64 0, .int .i64 0, .slice none 0 0] 29)) bR).keep (chg5 (wd.alloc (.cells #[.slice none 0 0, .int .i64 0, .int .i64 0, .int .i64 0, .slice none 0 0] 29)) (wd.heap.size) (.slice sa n sc) (.int .i64 z1) (.int .i64 z2) (.int .i64 z3) (.slice sb m sd)) (fun x e h0 hd => by have h8 : x.block = wd.heap.size := hd; have := LA.out x e h0; omega)).later (hy.mono (by first | (simp; done) | (simp; omega)))
          replace GB : Hid (∀ y, Below (wd.heap.size + 1) ((((((wd.alloc (.cells #[.slice none 0 0, .int .i64 0, .int .i64 0, .int .i64 0, .slice none 0 0] 29)).setCell ⟨wd.heap.size, 0, none⟩ (.slice sa n sc)).setCell ⟨wd.heap.size, 1, none⟩ (.int .i64 z1)).setCell ⟨wd.heap.size, 2, none⟩ (.int .i64 z2)).setCell ⟨wd.heap.size, 3, none⟩ (.int .i64 z3)).setCell ⟨wd.heap.size, 4, none⟩ (.slice sb m sd)) y → WriB y sb m (fun j => rc.getD j false)) := fun y hy => ((GB.out (wd.alloc (.cells #[.slice none 0 0, .int .i64 0, .int .i64 0, .int .i64 0, .slice none 0 0] 29)) bR).keep (chg5 (wd.alloc (.cells #[.slice none 0 0, .int .i64 0, .int .i64 0, .int .i64 0, .slice none 0 0] 29)) (wd.heap.size) (.slice sa n sc) (.int .i64 z1) (.int .i64 z2) (.int .i64 z3) (.slice sb m sd)) (fun x e h0 hd => by have h8 : x.block = wd.heap.size := hd; have := LB.out x e h0; omega)).later (hy.mono (by first | (simp; done) | (simp; omega)))
          replace B : Hid (∀ y, Below (wd.heap.size + 1) ((((((wd.alloc (.cells #[.slice none 0 0, .int .i64 0, .int .i64 0, .int .i64 0, .slice none 0 0] 29)).setCell ⟨wd.heap.size, 0, none⟩ (.slice sa n sc)).setCell ⟨wd.heap.size, 1, none⟩ (.int .i64 z1)).setCell ⟨wd.heap.size, 2, none⟩ (.int .i64 z2)).setCell ⟨wd.heap.size, 3, none⟩ (.int .i64 z3)).setCell ⟨wd.heap.size, 4, none⟩ (.slice sb m sd)) y → Below w.heap.size w y) := fun y hy => ((((((B.out (wd.alloc (.cells #[.slice none 0 0, .int .i64 0, .int .i64 0, .int .i64 0, .slice none 0 0] 29)) bR).setCell hw0 _).setCell hw0 _).setCell hw0 _).setCell hw0 _).setCell hw0 _).trans (hy.mono (by first | omega | exact Nat.le_trans (B.out (wd.alloc (.cells #[.slice none 0 0, .int .i64 0, .int .i64 0, .int .i64 0, .slice none 0 0] 29)) bR).size hz | (have := (B.out (wd.alloc (.cells #[.slice none 0 0, .int .i64 0, .int .i64 0, .int .i64 0, .slice none 0 0] 29)) bR).size; omega)))
          replace hz : wd.heap.size + 1 ≤ ((((((wd.alloc (.cells #[.slice none 0 0, .int .i64 0, .int .i64 0, .int .i64 0, .slice none 0 0] 29)).setCell ⟨wd.heap.size, 0, none⟩ (.slice sa n sc)).setCell ⟨wd.heap.size, 1, none⟩ (.int .i64 z1)).setCell ⟨wd.heap.size, 2, none⟩ (.int .i64 z2)).setCell ⟨wd.heap.size, 3, none⟩ (.int .i64 z3)).setCell ⟨wd.heap.size, 4, none⟩ (.slice sb m sd)).heap.size := by first | (simp; done) | simpa using hz
          clear hw0
          have efin : ((((((wd.alloc (.cells #[.slice none 0 0, .int .i64 0, .int .i64 0, .int .i64 0, .slice none 0 0] 29)).setCell ⟨wd.heap.size, 0, none⟩ (.slice sa n sc)).setCell ⟨wd.heap.size, 1, none⟩ (.int .i64 z1)).setCell ⟨wd.heap.size, 2, none⟩ (.int .i64 z2)).setCell ⟨wd.heap.size, 3, none⟩ (.int .i64 z3)).setCell ⟨wd.heap.size, 4, none⟩ (.slice sb m sd)) = (wd.alloc (.cells #[.slice sa n sc, .int .i64 z1, .int .i64 z2, .int .i64 z3, .slice sb m sd] 29)) := by
            rw [World.setCell_alloc_at _ _ _ _ _ (by simp), World.setCell_alloc_at _ _ _ _ _ (by simp), World.setCell_alloc_at _ _ _ _ _ (by simp), World.setCell_alloc_at _ _ _ _ _ (by simp), World.setCell_alloc_at _ _ _ _ _ (by simp)]
            rfl
          rw [efin] at B BW GA GB XC XZ hz
          clear efin
          have KS : Hid (∀ x, Below (wd.heap.size + 1) (wd.alloc (.cells #[.slice sa n sc, .int .i64 z1, .int .i64 z2, .int .i64 z3, .slice sb m sd] 29)) x → x.cell? ⟨w.heap.size, 0, none⟩ = some (.slice b0 m0 d0) ∧ x.cell? ⟨w.heap.size, 1, none⟩ = some (.int .i64 yg) ∧ x.cell? ⟨w.heap.size, 2, none⟩ = some (.int .i64 tp) ∧ x.cell? ⟨w.heap.size, 3, none⟩ = some (.int .i64 od) ∧ x.cell? ⟨w.heap.size, 4, none⟩ = some (.slice b4 m4 d4)) := fun x hx => bk5 (XC.out x hx)
          refine hK.out _ _ (KS.out _ bR) (fun hHeld6 => ?_)
          clear hK K
          try simp only [Act.put, zgT, zg0, zgS, zsT, zs0, zsS]
          refine tV 13 (v := ?_) rfl (by kernel_rfl) (fun _ _ _ h => h) ?_ (by assumption) ?_
          rotate_left 1
          · (intro x hSx; (try dsimp only at hSx); go_simp; try with_reducible rfl)
          try simp only [Act.put, zgT, zg0, zgS, zsT, zs0, zsS]
          refine wpAnyH_done (by kernel_rfl) ?_ _
          clear hHeld hHeld2 hHeld3 hHeld4 hHeld5 hHeld6
          clear KS
          go_wp2_with fail
          go_meet
          exact ⟨wd.heap.size, sa, sc, sb, sd, rfl, rfl, hw2, Nat.lt_of_lt_of_le lZ hz, XZ.out _ bR, GA.out _ bR, GB.out _ bR, BW.out _ bR⟩
        · have hlow9 : w.heap.size ≤ wb.heap.size := by first | exact (B.out _ bR).size | (have := (B.out wb bR).size; simpa using this)
          have hw2 : w2.heap.size ≤ wb.heap.size := by first | exact Nat.le_refl _ | exact (BW.out _ bR).size | (have := (BW.out wb bR).size; simpa using this)
          go_simp
          have BP : Hid (Below (wb.heap.size) wb (wb.alloc (.cells #[.slice none 0 0, .int .i64 0, .int .i64 0, .int .i64 0, .slice none 0 0] 29))) := (bR.alloc (by first | exact hz | (simp; done) | (simp; omega) | (have := hz; simp at this ⊢; omega)) _)
          replace B := lA B BP
          replace BW := lA BW BP
          replace KS := lA KS BP
          replace FL := lA FL BP
          replace FW := lA FW BP
          replace FB := lA FB BP
          replace XC := lA XC BP
          replace lC := lL lC
          have XZ : Hid (∀ y, Below (wb.heap.size + 1) (wb.alloc (.cells #[.slice none 0 0, .int .i64 0, .int .i64 0, .int .i64 0, .slice none 0 0] 29)) y → y.heap[wb.heap.size]? = some (.cells #[.slice none 0 0, .int .i64 0, .int .i64 0, .int .i64 0, .slice none 0 0] 29 (0, 0))) := fun y hy => (hy.block _ (by omega)).trans (boxN _ _ _ _ (by simp))
          have lZ : wb.heap.size < wb.heap.size + 1 := by omega
          replace hz : wb.heap.size + 1 ≤ ((wb.alloc (.cells #[.slice none 0 0, .int .i64 0, .int .i64 0, .int .i64 0, .slice none 0 0] 29))).heap.size := by simp
          clear BP
          refine hK.out _ _ (KS.out _ bR) (fun hHeld4 => ?_)
          clear hK K
          try simp only [Act.put, zgT, zg0, zgS, zsT, zs0, zsS]
          refine wpAnyH_ready (rs := [7]) (by kernel_rfl) (by simp) ?_
          refine AllReadyH.cons rfl (fun K hK => ?_) AllReadyH.nil
          have lZ0 : wb.heap.size < wb.heap.size + 1 := lZ
          go_simp
          go_at_call 8
          have BP : Hid (Below (wb.heap.size + 1) (wb.alloc (.cells #[.slice none 0 0, .int .i64 0, .int .i64 0, .int .i64 0, .slice none 0 0] 29)) (wb.alloc (.cells #[.slice none 0 0, .int .i64 0, .int .i64 0, .int .i64 0, .slice none 0 0] 29))) := bR
          refine (mmS _ _ _ _ _ _ yg tp od _ _ _ v k ol ws cd L _ (FL.out _ BP.out).cls (FW.out _ BP.out).ints (FB.out _ BP.out) hyg htp hod hwl hdl hv hk HR.out HN.out HM2.out).mono ?_
          rintro e wd ⟨sa, sc, sb, sd, rfl, hA, hC, ha, hb0, hab, hb⟩
          have LA : Hid (∀ x, sa = some x → 0 < n → wb.heap.size + 1 ≤ x.block ∧ x.block < wd.heap.size) := fun x e h0 => ⟨Nat.le_trans (Nat.le_trans hz BP.out.size) (ha x e h0), hA.lt x e h0⟩
          have LB : Hid (∀ x, sb = some x → 0 < m → wb.heap.size + 1 ≤ x.block ∧ x.block < wd.heap.size) := fun x e h0 => ⟨Nat.le_trans (Nat.le_trans hz BP.out.size) (hb0 x e h0), hC.lt x e h0⟩
          have GA0 : Hid (Wri wd sa n (fun j => rs.getD j 0)) := hA
          have GB0 : Hid (WriB wd sb m (fun j => rc.getD j false)) := hC
          clear hA hC ha hb0 hab
          have hq : Below (wb.heap.size + 1) (wb.alloc (.cells #[.slice none 0 0, .int .i64 0, .int .i64 0, .int .i64 0, .slice none 0 0] 29)) wd := BP.out.trans (Below.mono hb (Nat.le_trans hz BP.out.size))
          have hzn : wb.heap.size + 1 ≤ wd.heap.size := Nat.le_trans hz hq.size
          replace B := lF B hq hzn
          replace BW := lF BW hq hzn
          replace KS := lF KS hq hzn
          replace FL := lF FL hq hzn
          replace FW := lF FW hq hzn
          replace FB := lF FB hq hzn
          replace XC := lF XC hq hzn
          replace lC := Nat.lt_of_lt_of_le lC hzn
          replace XZ := lF XZ hq hzn
          replace lZ := Nat.lt_of_lt_of_le lZ hzn
          clear hq BP hz
          have hz : wd.heap.size ≤ wd.heap.size := Nat.le_refl _
          clear hb
          go_wp2_with fail
          have GA : Hid (∀ y, Below (wd.heap.size) wd y → Wri y sa n (fun j => rs.getD j 0)) := fun y hy => GA0.out.later hy
          have GB : Hid (∀ y, Below (wd.heap.size) wd y → WriB y sb m (fun j => rc.getD j false)) := fun y hy => GB0.out.later hy
          clear GA0 GB0
          refine hK.out _ _ (KS.out _ bR) (fun hHeld5 => ?_)
          clear hK K
          try simp only [Act.put, zgT, zg0, zgS, zsT, zs0, zsS]
          refine tV 8 (v := ?_) rfl (by kernel_rfl) (fun _ _ _ h => h) ?_ (by assumption) ?_
          rotate_left 1
          · (intro x hSx; (try dsimp only at hSx); go_simp; try with_reducible rfl)
          try simp only [Act.put, zgT, zg0, zgS, zsT, zs0, zsS]
          refine tV 9 (v := ?_) rfl (by kernel_rfl) (fun _ _ _ h => h) ?_ (by assumption) ?_
          rotate_left 1
          · (intro x hSx; (try dsimp only at hSx); go_simp; try with_reducible rfl)
          try simp only [Act.put, zgT, zg0, zgS, zsT, zs0, zsS]
          refine tV 10 (v := ?_) rfl (by kernel_rfl) (fun _ _ _ h => h) ?_ (by assumption) ?_
          rotate_left 1
          · (intro x hSx; (try dsimp only at hSx); go_simp; try with_reducible rfl)
          try simp only [Act.put, zgT, zg0, zgS, zsT, zs0, zsS]
          refine wpAnyH_ready (rs := [12]) (by kernel_rfl) (by simp) ?_
          refine AllReadyH.cons rfl (fun K hK => ?_) AllReadyH.nil
          obtain ⟨kZ0, kZ1, kZ2, kZ3, kZ4⟩ := bk5 (XZ.out wd bR)
          obtain ⟨qkZ0, qkZ1, qkZ2, qkZ3, qkZ4⟩ := bq5 (XZ.out wd bR)
          go_simp
          clear kZ0 kZ1 kZ2 kZ3 kZ4 qkZ0 qkZ1 qkZ2 qkZ3 qkZ4
          generalize hW : (((((wd.setCell ⟨wb.heap.size, 0, none⟩ (.slice sa n sc)).setCell ⟨wb.heap.size, 1, none⟩ (.int .i64 z1)).setCell ⟨wb.heap.size, 2, none⟩ (.int .i64 z2)).setCell ⟨wb.heap.size, 3, none⟩ (.int .i64 z3)).setCell ⟨wb.heap.size, 4, none⟩ (.slice sb m sd)) = wB1
          have hkB : ∀ a, a ≠ wb.heap.size → wB1.heap[a]? = wd.heap[a]? := by subst hW; exact fun a h => (Below.heap_setCell _ _ _ _ h).trans ((Below.heap_setCell _ _ _ _ h).trans ((Below.heap_setCell _ _ _ _ h).trans ((Below.heap_setCell _ _ _ _ h).trans ((Below.heap_setCell _ _ _ _ h)))))
          have hw0 : w.heap.size ≤ wb.heap.size := (by first | omega | (simp; done) | (simp; omega) | (simp at *; omega))
          replace XC := lS XC lC wB1 (hkB _ (by first | omega | (simp; done) | (simp; omega)))
          replace XZ : Hid (∀ y, Below (wd.heap.size) wB1 y → y.heap[wb.heap.size]? = some (.cells #[.slice sa n sc, .int .i64 z1, .int .i64 z2, .int .i64 z3, .slice sb m sd] 29 (0, 0))) := fun y hy => by subst hW; exact (hy.block _ (by omega)).trans (boxS (boxS (boxS (boxS (boxS (XZ.out wd bR) 0 _) 1 _) 2 _) 3 _) 4 _)
          replace BW : Hid (∀ y, Below (wd.heap.size) wB1 y → Below w2.heap.size w2 y) := fun y hy => by subst hW; exact ((((((BW.out wd bR).setCell hw2 _).setCell hw2 _).setCell hw2 _).setCell hw2 _).setCell hw2 _).trans (hy.mono (by have := lZ; omega))
          clear KS
          clear FL
          clear FW
          clear FB
          replace GA : Hid (∀ y, Below (wd.heap.size) wB1 y → Wri y sa n (fun j => rs.getD j 0)) := fun y hy => by subst hW; exact ((GA.out wd bR).keep (chg5 wd (wb.heap.size) (.slice sa n sc) (.int .i64 z1) (.int .i64 z2) (.int .i64 z3) (.slice sb m sd)) (fun x e h0 hd => by have h8 : x.block = wb.heap.size := hd; have := LA.out x e h0; omega)).later (hy.mono (by first | (simp; done) | (simp; omega)))
          replace GB : Hid (∀ y, Below (wd.heap.size) wB1 y → WriB y sb m (fun j => rc.getD j false)) := fun y hy => by subst hW; exact ((GB.out wd bR).keep (chg5 wd (wb.heap.size) (.slice sa n sc) (.int .i64 z1) (.int .i64 z2) (.int .i64 z3) (.slice sb m sd)) (fun x e h0 hd => by have h8 : x.block = wb.heap.size := hd; have := LB.out x e h0; omega)).later (hy.mono (by first | (simp; done) | (simp; omega)))
          replace B : Hid (∀ y, Below (wd.heap.size) wB1 y → Below w.heap.size w y) := fun y hy => by subst hW; exact ((((((B.out wd bR).setCell hw0 _).setCell hw0 _).setCell hw0 _).setCell hw0 _).setCell hw0 _).trans (hy.mono (by first | omega | exact Nat.le_trans (B.out wd bR).size hz | (have := (B.out wd bR).size; omega)))
          replace hz : wd.heap.size ≤ wB1.heap.size := by subst hW; first | (simp; done) | simpa using hz
          clear hw0 hW hkB
          have KS : Hid (∀ x, Below (wd.heap.size) wB1 x → x.cell? ⟨w.heap.size, 0, none⟩ = some (.slice b0 m0 d0) ∧ x.cell? ⟨w.heap.size, 1, none⟩ = some (.int .i64 yg) ∧ x.cell? ⟨w.heap.size, 2, none⟩ = some (.int .i64 tp) ∧ x.cell? ⟨w.heap.size, 3, none⟩ = some (.int .i64 od) ∧ x.cell? ⟨w.heap.size, 4, none⟩ = some (.slice b4 m4 d4)) := fun x hx => bk5 (XC.out x hx)
          refine hK.out _ _ (KS.out _ bR) (fun hHeld6 => ?_)
          clear hK K
          try simp only [Act.put, zgT, zg0, zgS, zsT, zs0, zsS]
          refine tV 13 (v := ?_) rfl (by kernel_rfl) (fun _ _ _ h => h) ?_ (by assumption) ?_
          rotate_left 1
          · (intro x hSx; (try dsimp only at hSx); go_simp; try with_reducible rfl)
          try simp only [Act.put, zgT, zg0, zgS, zsT, zs0, zsS]
          refine wpAnyH_done (by kernel_rfl) ?_ _
          clear hHeld hHeld2 hHeld3 hHeld4 hHeld5 hHeld6
          clear KS
          go_wp2_with fail
          go_meet
          exact ⟨wb.heap.size, sa, sc, sb, sd, rfl, rfl, hw2, Nat.lt_of_lt_of_le lZ hz, XZ.out _ bR, GA.out _ bR, GB.out _ bR, BW.out _ bR⟩
      · have hlow9 : w.heap.size ≤ wa.heap.size := by first | exact (B.out _ bR).size | (have := (B.out wa bR).size; simpa using this)
        have hw2 : w2.heap.size ≤ wa.heap.size := by first | exact Nat.le_refl _ | exact (BW.out _ bR).size | (have := (BW.out wa bR).size; simpa using this)
        go_simp
        have BP : Hid (Below (wa.heap.size) wa (wa.alloc (.cells #[.slice none 0 0, .int .i64 0, .int .i64 0, .int .i64 0, .slice none 0 0] 29))) := (bR.alloc (by first | exact hz | (simp; done) | (simp; omega) | (have := hz; simp at this ⊢; omega)) _)
        replace B := lA B BP
        replace BW := lA BW BP
        replace KS := lA KS BP
        replace FL := lA FL BP
        replace XC := lA XC BP
        replace lC := lL lC
        have XZ : Hid (∀ y, Below (wa.heap.size + 1) (wa.alloc (.cells #[.slice none 0 0, .int .i64 0, .int .i64 0, .int .i64 0, .slice none 0 0] 29)) y → y.heap[wa.heap.size]? = some (.cells #[.slice none 0 0, .int .i64 0, .int .i64 0, .int .i64 0, .slice none 0 0] 29 (0, 0))) := fun y hy => (hy.block _ (by omega)).trans (boxN _ _ _ _ (by simp))
        have lZ : wa.heap.size < wa.heap.size + 1 := by omega
        replace hz : wa.heap.size + 1 ≤ ((wa.alloc (.cells #[.slice none 0 0, .int .i64 0, .int .i64 0, .int .i64 0, .slice none 0 0] 29))).heap.size := by simp
        clear BP
        refine hK.out _ _ (KS.out _ bR) (fun hHeld3 => ?_)
        clear hK K
        try simp only [Act.put, zgT, zg0, zgS, zsT, zs0, zsS]
        refine wpAnyH_ready (rs := [3]) (by kernel_rfl) (by simp) ?_
        refine AllReadyH.cons rfl (fun K hK => ?_) AllReadyH.nil
        go_simp
        go_at_call 10
        have BP : Hid (Below (wa.heap.size + 1) (wa.alloc (.cells #[.slice none 0 0, .int .i64 0, .int .i64 0, .int .i64 0, .slice none 0 0] 29)) (wa.alloc (.cells #[.slice none 0 0, .int .i64 0, .int .i64 0, .int .i64 0, .slice none 0 0] 29))) := bR
        refine (toRMem yg tp od _ _ _ _ _ _ ws cd _ (HW.out.later (B.out _ BP.out)) SW.out (HC.out.later (B.out _ BP.out)) SB.out).mono ?_
        rintro e wb ⟨nb0, nd0, nb4, nd4, rfl, hX, hF, hb⟩
        have FW0 : Hid (SlAt intR (fun _ => True) wb nb0 m0 ws) := hX.mono (fun _ _ _ => trivial)
        have FB0 : Hid (SlAt boolR (fun _ => True) wb nb4 m4 cd) := hF.mono (fun _ _ _ => trivial)
        clear hX hF
        have hq : Below (wa.heap.size + 1) (wa.alloc (.cells #[.slice none 0 0, .int .i64 0, .int .i64 0, .int .i64 0, .slice none 0 0] 29)) wb := BP.out.trans (Below.mono hb (Nat.le_trans hz BP.out.size))
        have hzn : wa.heap.size + 1 ≤ wb.heap.size := Nat.le_trans hz hq.size
        replace B := lF B hq hzn
        replace BW := lF BW hq hzn
        replace KS := lF KS hq hzn
        replace FL := lF FL hq hzn
        replace XC := lF XC hq hzn
        replace lC := Nat.lt_of_lt_of_le lC hzn
        replace XZ := lF XZ hq hzn
        replace lZ := Nat.lt_of_lt_of_le lZ hzn
        clear hq BP hz
        have hz : wb.heap.size ≤ wb.heap.size := Nat.le_refl _
        clear hb
        go_wp2_with fail
        have FW : Hid (∀ y, Below (wb.heap.size) wb y → SlAt intR (fun _ => True) y nb0 m0 ws) := fun y hy => FW0.out.later hy
        have FB : Hid (∀ y, Below (wb.heap.size) wb y → SlAt boolR (fun _ => True) y nb4 m4 cd) := fun y hy => FB0.out.later hy
        clear FW0 FB0
        refine hK.out _ _ (KS.out _ bR) (fun hHeld4 => ?_)
        clear hK K
        try simp only [Act.put, zgT, zg0, zgS, zsT, zs0, zsS]
        refine wpAnyH_ready (rs := [7]) (by kernel_rfl) (by simp) ?_
        refine AllReadyH.cons rfl (fun K hK => ?_) AllReadyH.nil
        have lZ0 : wa.heap.size < wb.heap.size := lZ
        go_simp
        go_at_call 8
        have BP : Hid (Below (wb.heap.size) wb wb) := bR
        refine (mmS _ _ _ _ _ _ yg tp od _ _ _ v k ol ws cd L _ (FL.out _ BP.out).cls (FW.out _ BP.out).ints (FB.out _ BP.out) hyg htp hod hwl hdl hv hk HR.out HN.out HM2.out).mono ?_
        rintro e wd ⟨sa, sc, sb, sd, rfl, hA, hC, ha, hb0, hab, hb⟩
        have LA : Hid (∀ x, sa = some x → 0 < n → wb.heap.size ≤ x.block ∧ x.block < wd.heap.size) := fun x e h0 => ⟨Nat.le_trans (Nat.le_trans hz BP.out.size) (ha x e h0), hA.lt x e h0⟩
        have LB : Hid (∀ x, sb = some x → 0 < m → wb.heap.size ≤ x.block ∧ x.block < wd.heap.size) := fun x e h0 => ⟨Nat.le_trans (Nat.le_trans hz BP.out.size) (hb0 x e h0), hC.lt x e h0⟩
        have GA0 : Hid (Wri wd sa n (fun j => rs.getD j 0)) := hA
        have GB0 : Hid (WriB wd sb m (fun j => rc.getD j false)) := hC
        clear hA hC ha hb0 hab
        have hq : Below (wb.heap.size) wb wd := BP.out.trans (Below.mono hb (Nat.le_trans hz BP.out.size))
        have hzn : wb.heap.size ≤ wd.heap.size := Nat.le_trans hz hq.size
        replace B := lF B hq hzn
        replace BW := lF BW hq hzn
        replace KS := lF KS hq hzn
        replace FL := lF FL hq hzn
        replace FW := lF FW hq hzn
        replace FB := lF FB hq hzn
        replace XC := lF XC hq hzn
        replace lC := Nat.lt_of_lt_of_le lC hzn
        replace XZ := lF XZ hq hzn
        replace lZ := Nat.lt_of_lt_of_le lZ hzn
        clear hq BP hz
        have hz : wd.heap.size ≤ wd.heap.size := Nat.le_refl _
        clear hb
        go_wp2_with fail
        have GA : Hid (∀ y, Below (wd.heap.size) wd y → Wri y sa n (fun j => rs.getD j 0)) := fun y hy => GA0.out.later hy
        have GB : Hid (∀ y, Below (wd.heap.size) wd y → WriB y sb m (fun j => rc.getD j false)) := fun y hy => GB0.out.later hy
        clear GA0 GB0
        refine hK.out _ _ (KS.out _ bR) (fun hHeld5 => ?_)
        clear hK K
        try simp only [Act.put, zgT, zg0, zgS, zsT, zs0, zsS]
        refine tV 8 (v := ?_) rfl (by kernel_rfl) (fun _ _ _ h => h) ?_ (by assumption) ?_
        rotate_left 1
        · (intro x hSx; (try dsimp only at hSx); go_simp; try with_reducible rfl)
        try simp only [Act.put, zgT, zg0, zgS, zsT, zs0, zsS]
        refine tV 9 (v := ?_) rfl (by kernel_rfl) (fun _ _ _ h => h) ?_ (by assumption) ?_
        rotate_left 1
        · (intro x hSx; (try dsimp only at hSx); go_simp; try with_reducible rfl)
        try simp only [Act.put, zgT, zg0, zgS, zsT, zs0, zsS]
        refine tV 10 (v := ?_) rfl (by kernel_rfl) (fun _ _ _ h => h) ?_ (by assumption) ?_
        rotate_left 1
        · (intro x hSx; (try dsimp only at hSx); go_simp; try with_reducible rfl)
        try simp only [Act.put, zgT, zg0, zgS, zsT, zs0, zsS]
        refine wpAnyH_ready (rs := [12]) (by kernel_rfl) (by simp) ?_
        refine AllReadyH.cons rfl (fun K hK => ?_) AllReadyH.nil
        obtain ⟨kZ0, kZ1, kZ2, kZ3, kZ4⟩ := bk5 (XZ.out wd bR)
        obtain ⟨qkZ0, qkZ1, qkZ2, qkZ3, qkZ4⟩ := bq5 (XZ.out wd bR)
        go_simp
        clear kZ0 kZ1 kZ2 kZ3 kZ4 qkZ0 qkZ1 qkZ2 qkZ3 qkZ4
        generalize hW : (((((wd.setCell ⟨wa.heap.size, 0, none⟩ (.slice sa n sc)).setCell ⟨wa.heap.size, 1, none⟩ (.int .i64 z1)).setCell ⟨wa.heap.size, 2, none⟩ (.int .i64 z2)).setCell ⟨wa.heap.size, 3, none⟩ (.int .i64 z3)).setCell ⟨wa.heap.size, 4, none⟩ (.slice sb m sd)) = wB1
        have hkB : ∀ a, a ≠ wa.heap.size → wB1.heap[a]? = wd.heap[a]? := by subst hW; exact fun a h => (Below.heap_setCell _ _ _ _ h).trans ((Below.heap_setCell _ _ _ _ h).trans ((Below.heap_setCell _ _ _ _ h).trans ((Below.heap_setCell _ _ _ _ h).trans ((Below.heap_setCell _ _ _ _ h)))))
        have hw0 : w.heap.size ≤ wa.heap.size := (by first | omega | (simp; done) | (simp; omega) | (simp at *; omega))
        replace XC := lS XC lC wB1 (hkB _ (by first | omega | (simp; done) | (simp; omega)))
        replace XZ : Hid (∀ y, Below (wd.heap.size) wB1 y → y.heap[wa.heap.size]? = some (.cells #[.slice sa n sc, .int .i64 z1, .int .i64 z2, .int .i64 z3, .slice sb m sd] 29 (0, 0))) := fun y hy => by subst hW; exact (hy.block _ (by omega)).trans (boxS (boxS (boxS (boxS (boxS (XZ.out wd bR) 0 _) 1 _) 2 _) 3 _) 4 _)
        replace BW : Hid (∀ y, Below (wd.heap.size) wB1 y → Below w2.heap.size w2 y) := fun y hy => by subst hW; exact ((((((BW.out wd bR).setCell hw2 _).setCell hw2 _).setCell hw2 _).setCell hw2 _).setCell hw2 _).trans (hy.mono (by have := lZ; omega))
        clear KS
        clear FL
        clear FW
        clear FB
        replace GA : Hid (∀ y, Below (wd.heap.size) wB1 y → Wri y sa n (fun j => rs.getD j 0)) := fun y hy => by subst hW; exact ((GA.out wd bR).keep (chg5 wd (wa.heap.size) (.slice sa n sc) (.int .i64 z1) (.int .i64 z2) (.int .i64 z3) (.slice sb m sd)) (fun x e h0 hd => by have h8 : x.block = wa.heap.size := hd; have := LA.out x e h0; omega)).later (hy.mono (by first | (simp; done) | (simp; omega)))
        replace GB : Hid (∀ y, Below (wd.heap.size) wB1 y → WriB y sb m (fun j => rc.getD j false)) := fun y hy => by subst hW; exact ((GB.out wd bR).keep (chg5 wd (wa.heap.size) (.slice sa n sc) (.int .i64 z1) (.int .i64 z2) (.int .i64 z3) (.slice sb m sd)) (fun x e h0 hd => by have h8 : x.block = wa.heap.size := hd; have := LB.out x e h0; omega)).later (hy.mono (by first | (simp; done) | (simp; omega)))
        replace B : Hid (∀ y, Below (wd.heap.size) wB1 y → Below w.heap.size w y) := fun y hy => by subst hW; exact ((((((B.out wd bR).setCell hw0 _).setCell hw0 _).setCell hw0 _).setCell hw0 _).setCell hw0 _).trans (hy.mono (by first | omega | exact Nat.le_trans (B.out wd bR).size hz | (have := (B.out wd bR).size; omega)))
        replace hz : wd.heap.size ≤ wB1.heap.size := by subst hW; first | (simp; done) | simpa using hz
        clear hw0 hW hkB
        have KS : Hid (∀ x, Below (wd.heap.size) wB1 x → x.cell? ⟨w.heap.size, 0, none⟩ = some (.slice b0 m0 d0) ∧ x.cell? ⟨w.heap.size, 1, none⟩ = some (.int .i64 yg) ∧ x.cell? ⟨w.heap.size, 2, none⟩ = some (.int .i64 tp) ∧ x.cell? ⟨w.heap.size, 3, none⟩ = some (.int .i64 od) ∧ x.cell? ⟨w.heap.size, 4, none⟩ = some (.slice b4 m4 d4)) := fun x hx => bk5 (XC.out x hx)
        refine hK.out _ _ (KS.out _ bR) (fun hHeld6 => ?_)
        clear hK K
        try simp only [Act.put, zgT, zg0, zgS, zsT, zs0, zsS]
        refine tV 13 (v := ?_) rfl (by kernel_rfl) (fun _ _ _ h => h) ?_ (by assumption) ?_
        rotate_left 1
        · (intro x hSx; (try dsimp only at hSx); go_simp; try with_reducible rfl)
        try simp only [Act.put, zgT, zg0, zgS, zsT, zs0, zsS]
        refine wpAnyH_done (by kernel_rfl) ?_ _
        clear hHeld hHeld2 hHeld3 hHeld4 hHeld5 hHeld6
        clear KS
        go_wp2_with fail
        go_meet
        exact ⟨wa.heap.size, sa, sc, sb, sd, rfl, rfl, hw2, Nat.lt_of_lt_of_le lZ hz, XZ.out _ bR, GA.out _ bR, GB.out _ bR, BW.out _ bR⟩
    · have hlow9 : w.heap.size ≤ w2.heap.size := by first | exact (B.out _ bR).size | (have := (B.out w2 bR).size; simpa using this)
      have hw2 : w2.heap.size ≤ w2.heap.size := by first | exact Nat.le_refl _ | exact (BW.out _ bR).size | (have := (BW.out w2 bR).size; simpa using this)
      go_simp
      have BP : Hid (Below (w2.heap.size) w2 (w2.drew.alloc (.cells #[.slice none 0 0, .int .i64 0, .int .i64 0, .int .i64 0, .slice none 0 0] 29))) := ((bdrew bR).alloc (by first | exact hz | (simp; done) | (simp; omega) | (have := hz; simp at this ⊢; omega)) _)
      replace B := lA B BP
      replace BW := lA BW BP
      replace KS := lA KS BP
      replace XC := lA XC BP
      replace lC := lL lC
      have XZ : Hid (∀ y, Below (w2.heap.size + 1) (w2.drew.alloc (.cells #[.slice none 0 0, .int .i64 0, .int .i64 0, .int .i64 0, .slice none 0 0] 29)) y → y.heap[w2.heap.size]? = some (.cells #[.slice none 0 0, .int .i64 0, .int .i64 0, .int .i64 0, .slice none 0 0] 29 (0, 0))) := fun y hy => (hy.block _ (by omega)).trans (boxN _ _ _ _ (by simp))
      have lZ : w2.heap.size < w2.heap.size + 1 := by omega
      replace hz : w2.heap.size + 1 ≤ ((w2.drew.alloc (.cells #[.slice none 0 0, .int .i64 0, .int .i64 0, .int .i64 0, .slice none 0 0] 29))).heap.size := by simp
      clear BP
      refine hK.out _ _ (KS.out _ bR) (fun hHeld2 => ?_)
      clear hK K
      try simp only [Act.put, zgT, zg0, zgS, zsT, zs0, zsS]
      refine wpAnyH_ready (rs := [1]) (by kernel_rfl) (by simp) ?_
      refine AllReadyH.cons rfl (fun K hK => ?_) AllReadyH.nil
      go_simp
      go_at_call 9
      have BP : Hid (Below (w2.heap.size + 1) (w2.drew.alloc (.cells #[.slice none 0 0, .int .i64 0, .int .i64 0, .int .i64 0, .slice none 0 0] 29)) (w2.drew.alloc (.cells #[.slice none 0 0, .int .i64 0, .int .i64 0, .int .i64 0, .slice none 0 0] 29))) := bR
      refine (toLClass _ _ _ L _ (H.out.later (B.out _ BP.out)) SL.out).mono ?_
      rintro e wa ⟨na0, nc0, rfl, hU, hb⟩
      have FL0 : Hid (SlAt clR (fun _ => True) wa na0 l0 L) := hU.mono (fun _ _ _ => trivial)
      clear hU
      have hq : Below (w2.heap.size + 1) (w2.drew.alloc (.cells #[.slice none 0 0, .int .i64 0, .int .i64 0, .int .i64 0, .slice none 0 0] 29)) wa := BP.out.trans (Below.mono hb (Nat.le_trans hz BP.out.size))
      have hzn : w2.heap.size + 1 ≤ wa.heap.size := Nat.le_trans hz hq.size
      replace B := lF B hq hzn
      replace BW := lF BW hq hzn
      replace KS := lF KS hq hzn
      replace XC := lF XC hq hzn
      replace lC := Nat.lt_of_lt_of_le lC hzn
      replace XZ := lF XZ hq hzn
      replace lZ := Nat.lt_of_lt_of_le lZ hzn
      clear hq BP hz
      have hz : wa.heap.size ≤ wa.heap.size := Nat.le_refl _
      clear hb
      go_wp2_with fail
      have FL : Hid (∀ y, Below (wa.heap.size) wa y → SlAt clR (fun _ => True) y na0 l0 L) := fun y hy => FL0.out.later hy
      clear FL0
      refine hK.out _ _ (KS.out _ bR) (fun hHeld3 => ?_)
      clear hK K
      try simp only [Act.put, zgT, zg0, zgS, zsT, zs0, zsS]
      refine wpAnyH_ready (rs := [3]) (by kernel_rfl) (by simp) ?_
      refine AllReadyH.cons rfl (fun K hK => ?_) AllReadyH.nil
      go_simp
      go_at_call 10
      have BP : Hid (Below (wa.heap.size) wa wa) := bR
      refine (toRMem yg tp od _ _ _ _ _ _ ws cd _ (HW.out.later (B.out _ BP.out)) SW.out (HC.out.later (B.out _ BP.out)) SB.out).mono ?_
      rintro e wb ⟨nb0, nd0, nb4, nd4, rfl, hX, hF, hb⟩
      have FW0 : Hid (SlAt intR (fun _ => True) wb nb0 m0 ws) := hX.mono (fun _ _ _ => trivial)
      have FB0 : Hid (SlAt boolR (fun _ => True) wb nb4 m4 cd) := hF.mono (fun _ _ _ => trivial)
      clear hX hF
      have hq : Below (wa.heap.size) wa wb := BP.out.trans (Below.mono hb (Nat.le_trans hz BP.out.size))
      have hzn : wa.heap.size ≤ wb.heap.size := Nat.le_trans hz hq.size
      replace B := lF B hq hzn
      replace BW := lF BW hq hzn
      replace KS := lF KS hq hzn
      replace FL := lF FL hq hzn
      replace XC := lF XC hq hzn
      replace lC := Nat.lt_of_lt_of_le lC hzn
      replace XZ := lF XZ hq hzn
      replace lZ := Nat.lt_of_lt_of_le lZ hzn
      clear hq BP hz
      have hz : wb.heap.size ≤ wb.heap.size := Nat.le_refl _
      clear hb
      go_wp2_with fail
      have FW : Hid (∀ y, Below (wb.heap.size) wb y → SlAt intR (fun _ => True) y nb0 m0 ws) := fun y hy => FW0.out.later hy
      have FB : Hid (∀ y, Below (wb.heap.size) wb y → SlAt boolR (fun _ => True) y nb4 m4 cd) := fun y hy => FB0.out.later hy
      clear FW0 FB0
      refine hK.out _ _ (KS.out _ bR) (fun hHeld4 => ?_)
      clear hK K
      try simp only [Act.put, zgT, zg0, zgS, zsT, zs0, zsS]
      refine wpAnyH_ready (rs := [7]) (by kernel_rfl) (by simp) ?_
      refine AllReadyH.cons rfl (fun K hK => ?_) AllReadyH.nil
      have lZ0 : w2.heap.size < wb.heap.size := lZ
      go_simp
      go_at_call 8
      have BP : Hid (Below (wb.heap.size) wb wb) := bR
      refine (mmS _ _ _ _ _ _ yg tp od _ _ _ v k ol ws cd L _ (FL.out _ BP.out).cls (FW.out _ BP.out).ints (FB.out _ BP.out) hyg htp hod hwl hdl hv hk HR.out HN.out HM2.out).mono ?_
      rintro e wd ⟨sa, sc, sb, sd, rfl, hA, hC, ha, hb0, hab, hb⟩
      have LA : Hid (∀ x, sa = some x → 0 < n → wb.heap.size ≤ x.block ∧ x.block < wd.heap.size) := fun x e h0 => ⟨Nat.le_trans (Nat.le_trans hz BP.out.size) (ha x e h0), hA.lt x e h0⟩
      have LB : Hid (∀ x, sb = some x → 0 < m → wb.heap.size ≤ x.block ∧ x.block < wd.heap.size) := fun x e h0 => ⟨Nat.le_trans (Nat.le_trans hz BP.out.size) (hb0 x e h0), hC.lt x e h0⟩
      have GA0 : Hid (Wri wd sa n (fun j => rs.getD j 0)) := hA
      have GB0 : Hid (WriB wd sb m (fun j => rc.getD j false)) := hC
      clear hA hC ha hb0 hab
      have hq : Below (wb.heap.size) wb wd := BP.out.trans (Below.mono hb (Nat.le_trans hz BP.out.size))
      have hzn : wb.heap.size ≤ wd.heap.size := Nat.le_trans hz hq.size
      replace B := lF B hq hzn
      replace BW := lF BW hq hzn
      replace KS := lF KS hq hzn
      replace FL := lF FL hq hzn
      replace FW := lF FW hq hzn
      replace FB := lF FB hq hzn
      replace XC := lF XC hq hzn
      replace lC := Nat.lt_of_lt_of_le lC hzn
      replace XZ := lF XZ hq hzn
      replace lZ := Nat.lt_of_lt_of_le lZ hzn
      clear hq BP hz
      have hz : wd.heap.size ≤ wd.heap.size := Nat.le_refl _
      clear hb
      go_wp2_with fail
      have GA : Hid (∀ y, Below (wd.heap.size) wd y → Wri y sa n (fun j => rs.getD j 0)) := fun y hy => GA0.out.later hy
      have GB : Hid (∀ y, Below (wd.heap.size) wd y → WriB y sb m (fun j => rc.getD j false)) := fun y hy => GB0.out.later hy
      clear GA0 GB0
      refine hK.out _ _ (KS.out _ bR) (fun hHeld5 => ?_)
      clear hK K
      try simp only [Act.put, zgT, zg0, zgS, zsT, zs0, zsS]
      refine tV 8 (v := ?_) rfl (by kernel_rfl) (fun _ _ _ h => h) ?_ (by assumption) ?_
      rotate_left 1
      · (intro x hSx; (try dsimp only at hSx); go_simp; try with_reducible rfl)
      try simp only [Act.put, zgT, zg0, zgS, zsT, zs0, zsS]
      refine tV 9 (v := ?_) rfl (by kernel_rfl) (fun _ _ _ h => h) ?_ (by assumption) ?_
      rotate_left 1
      · (intro x hSx; (try dsimp only at hSx); go_simp; try with_reducible rfl)
      try simp only [Act.put, zgT, zg0, zgS, zsT, zs0, zsS]
      refine tV 10 (v := ?_) rfl (by kernel_rfl) (fun _ _ _ h => h) ?_ (by assumption) ?_
      rotate_left 1
      · (intro x hSx; (try dsimp only at hSx); go_simp; try with_reducible rfl)
      try simp only [Act.put, zgT, zg0, zgS, zsT, zs0, zsS]
      refine wpAnyH_ready (rs := [12]) (by kernel_rfl) (by simp) ?_
      refine AllReadyH.cons rfl (fun K hK => ?_) AllReadyH.nil
      obtain ⟨kZ0, kZ1, kZ2, kZ3, kZ4⟩ := bk5 (XZ.out wd bR)
      obtain ⟨qkZ0, qkZ1, qkZ2, qkZ3, qkZ4⟩ := bq5 (XZ.out wd bR)
      go_simp
      clear kZ0 kZ1 kZ2 kZ3 kZ4 qkZ0 qkZ1 qkZ2 qkZ3 qkZ4
      generalize hW : (((((wd.setCell ⟨w2.heap.size, 0, none⟩ (.slice sa n sc)).setCell ⟨w2.heap.size, 1, none⟩ (.int .i64 z1)).setCell ⟨w2.heap.size, 2, none⟩ (.int .i64 z2)).setCell ⟨w2.heap.size, 3, none⟩ (.int .i64 z3)).setCell ⟨w2.heap.size, 4, none⟩ (.slice sb m sd)) = wB1
      have hkB : ∀ a, a ≠ w2.heap.size → wB1.heap[a]? = wd.heap[a]? := by subst hW; exact fun a h => (Below.heap_setCell _ _ _ _ h).trans ((Below.heap_setCell _ _ _ _ h).trans ((Below.heap_setCell _ _ _ _ h).trans ((Below.heap_setCell _ _ _ _ h).trans ((Below.heap_setCell _ _ _ _ h)))))
      have hw0 : w.heap.size ≤ w2.heap.size := (by first | omega | (simp; done) | (simp; omega) | (simp at *; omega))
      replace XC := lS XC lC wB1 (hkB _ (by first | omega | (simp; done) | (simp; omega)))
      replace XZ : Hid (∀ y, Below (wd.heap.size) wB1 y → y.heap[w2.heap.size]? = some (.cells #[.slice sa n sc, .int .i64 z1, .int .i64 z2, .int .i64 z3, .slice sb m sd] 29 (0, 0))) := fun y hy => by subst hW; exact (hy.block _ (by omega)).trans (boxS (boxS (boxS (boxS (boxS (XZ.out wd bR) 0 _) 1 _) 2 _) 3 _) 4 _)
      replace BW : Hid (∀ y, Below (wd.heap.size) wB1 y → Below w2.heap.size w2 y) := fun y hy => by subst hW; exact ((((((BW.out wd bR).setCell hw2 _).setCell hw2 _).setCell hw2 _).setCell hw2 _).setCell hw2 _).trans (hy.mono (by have := lZ; omega))
      clear KS
      clear FL
      clear FW
      clear FB
      replace GA : Hid (∀ y, Below (wd.heap.size) wB1 y → Wri y sa n (fun j => rs.getD j 0)) := fun y hy => by subst hW; exact ((GA.out wd bR).keep (chg5 wd (w2.heap.size) (.slice sa n sc) (.int .i64 z1) (.int .i64 z2) (.int .i64 z3) (.slice sb m sd)) (fun x e h0 hd => by have h8 : x.block = w2.heap.size := hd; have := LA.out x e h0; omega)).later (hy.mono (by first | (simp; done) | (simp; omega)))
      replace GB : Hid (∀ y, Below (wd.heap.size) wB1 y → WriB y sb m (fun j => rc.getD j false)) := fun y hy => by subst hW; exact ((GB.out wd bR).keep (chg5 wd (w2.heap.size) (.slice sa n sc) (.int .i64 z1) (.int .i64 z2) (.int .i64 z3) (.slice sb m sd)) (fun x e h0 hd => by have h8 : x.block = w2.heap.size := hd; have := LB.out x e h0; omega)).later (hy.mono (by first | (simp; done) | (simp; omega)))
      replace B : Hid (∀ y, Below (wd.heap.size) wB1 y → Below w.heap.size w y) := fun y hy => by subst hW; exact ((((((B.out wd bR).setCell hw0 _).setCell hw0 _).setCell hw0 _).setCell hw0 _).setCell hw0 _).trans (hy.mono (by first | omega | exact Nat.le_trans (B.out wd bR).size hz | (have := (B.out wd bR).size; omega)))
      replace hz : wd.heap.size ≤ wB1.heap.size := by subst hW; first | (simp; done) | simpa using hz
      clear hw0 hW hkB
      have KS : Hid (∀ x, Below (wd.heap.size) wB1 x → x.cell? ⟨w.heap.size, 0, none⟩ = some (.slice b0 m0 d0) ∧ x.cell? ⟨w.heap.size, 1, none⟩ = some (.int .i64 yg) ∧ x.cell? ⟨w.heap.size, 2, none⟩ = some (.int .i64 tp) ∧ x.cell? ⟨w.heap.size, 3, none⟩ = some (.int .i64 od) ∧ x.cell? ⟨w.heap.size, 4, none⟩ = some (.slice b4 m4 d4)) := fun x hx => bk5 (XC.out x hx)
      refine hK.out _ _ (KS.out _ bR) (fun hHeld6 => ?_)
      clear hK K
      try simp only [Act.put, zgT, zg0, zgS, zsT, zs0, zsS]
      refine tV 13 (v := ?_) rfl (by kernel_rfl) (fun _ _ _ h => h) ?_ (by assumption) ?_
      rotate_left 1
      · (intro x hSx; (try dsimp only at hSx); go_simp; try with_reducible rfl)
      try simp only [Act.put, zgT, zg0, zgS, zsT, zs0, zsS]
      refine wpAnyH_done (by kernel_rfl) ?_ _
      clear hHeld hHeld2 hHeld3 hHeld4 hHeld5 hHeld6
      clear KS
      go_wp2_with fail
      go_meet
      exact ⟨w2.heap.size, sa, sc, sb, sd, rfl, rfl, hw2, Nat.lt_of_lt_of_le lZ hz, XZ.out _ bR, GA.out _ bR, GB.out _ bR, BW.out _ bR⟩
  case rest =>
  obtain ⟨X, sa, sc, sb, sd, rfl, rfl, hX0, hX1, hbx, hS0, hS1, hb⟩ := hcut
  obtain ⟨w3, rfl⟩ : ∃ x, x = wc := ⟨_, rfl⟩
  have BP : Hid (Below w2.heap.size w2 w2) := Below.refl _ _
  clear kC0 kC1 kC2 kC3 kC4
  have hq : Below w2.heap.size w2 w3 := BP.out.trans (Below.mono hb BP.out.size)
  replace B := lF B hq hq.size
  replace XC := lF XC hq hq.size
  replace lC := Nat.lt_of_lt_of_le lC hq.size
  have zw3 : w2.heap.size ≤ w3.heap.size := hq.size
  clear hq BP
  have lW : X < w3.heap.size := hX1
  have XW : Hid (∀ y, Below w3.heap.size w3 y → y.heap[X]? = some (.cells #[.slice sa n sc, .int .i64 z1, .int .i64 z2, .int .i64 z3, .slice sb m sd] 29 (0, 0))) := fun y hy => (hy.block _ hX1).trans hbx
  have S0 : Hid (∀ y, Below w3.heap.size w3 y → SlAt intR (fun b => b < w3.heap.size) y sa n rs) := fun y hy => ((hS0.sl HN.out (by omega) RFT.out).mono (fun b _ h => h)).later hy
  have S1 : Hid (∀ y, Below w3.heap.size w3 y → SlAt boolR (fun b => b < w3.heap.size) y sb m rc) := fun y hy => ((hS1.sl HM2.out (by omega)).mono (fun b _ h => h)).later hy
  have yC : w.heap.size < w3.heap.size := lC
  have yX : X < w3.heap.size := hX1
  clear hb hbx hS0 hS1 hX0 hX1
  obtain ⟨kC0, kC1, kC2, kC3, kC4⟩ := bk5 (XC.out w3 bR)
  obtain ⟨kW0, kW1, kW2, kW3, kW4⟩ := bk5 (XW.out w3 bR)
  have BP : Hid (Below w3.heap.size w3 w3) := Below.refl _ _
  go_wp2_with fail
  refine (toLClassF _ _ _ L _ (H.out.later (B.out _ BP.out)) SL.out).mono ?_
  rintro e w6 ⟨⟨ka0, kc0, rfl, hU, hb⟩, hfz⟩
  have hq : Below w3.heap.size w3 w6 := BP.out.trans (Below.mono hb BP.out.size)
  replace B := lF B hq hq.size
  replace S0 := lF S0 hq hq.size
  replace S1 := lF S1 hq hq.size
  replace XC := lF XC hq hq.size
  replace lC := Nat.lt_of_lt_of_le lC hq.size
  replace XW := lF XW hq hq.size
  replace lW := Nat.lt_of_lt_of_le lW hq.size
  have zw6 : w3.heap.size ≤ w6.heap.size := hq.size
  clear hq BP
  clear kC0 kC1 kC2 kC3 kC4 kW0 kW1 kW2 kW3 kW4
  have T : Hid (∀ y, Below w6.heap.size w6 y → SlAt clR (fun b => w3.heap.size ≤ b ∧ b < w6.heap.size) y ka0 l0 L) := fun y hy => (hU.mono (fun b h1 h2 => ⟨h1, h2⟩)).later hy
  have FT : Hid (∀ y, Below w6.heap.size w6 y → Thw (fun b => w3.heap.size ≤ b ∧ b < w6.heap.size) y) := fun y hy b o hd => (hy.frozen (p := ⟨b, o, none⟩) hd.2).trans ((hfz _).trans (frozen_past _ _ _ hd.1))
  clear hU hb hfz
  obtain ⟨kC0, kC1, kC2, kC3, kC4⟩ := bk5 (XC.out w6 bR)
  obtain ⟨kW0, kW1, kW2, kW3, kW4⟩ := bk5 (XW.out w6 bR)
  have BP : Hid (Below w6.heap.size w6 w6) := Below.refl _ _
  go_wp2_with fail
  refine (toRMemF yg tp od _ _ _ _ _ _ ws cd _ (HW.out.later (B.out _ BP.out)) SW.out (HC.out.later (B.out _ BP.out)) SB.out).mono ?_
  rintro e w7 ⟨⟨kb0, kd0, kb4, kd4, rfl, hX, hF, hb⟩, hfz⟩
  have hq : Below w6.heap.size w6 w7 := BP.out.trans (Below.mono hb BP.out.size)
  replace B := lF B hq hq.size
  replace S0 := lF S0 hq hq.size
  replace S1 := lF S1 hq hq.size
  replace T := lF T hq hq.size
  replace FT := lF FT hq hq.size
  replace XC := lF XC hq hq.size
  replace lC := Nat.lt_of_lt_of_le lC hq.size
  replace XW := lF XW hq hq.size
  replace lW := Nat.lt_of_lt_of_le lW hq.size
  have zw7 : w6.heap.size ≤ w7.heap.size := hq.size
  clear hq BP
  clear kC0 kC1 kC2 kC3 kC4 kW0 kW1 kW2 kW3 kW4
  have X1 : Hid (∀ y, Below w7.heap.size w7 y → SlAt intR (fun b => w6.heap.size ≤ b ∧ b < w7.heap.size) y kb0 m0 ws) := fun y hy => (hX.mono (fun b h1 h2 => ⟨h1, h2⟩)).later hy
  have F1 : Hid (∀ y, Below w7.heap.size w7 y → SlAt boolR (fun b => w6.heap.size ≤ b ∧ b < w7.heap.size) y kb4 m4 cd) := fun y hy => (hF.mono (fun b h1 h2 => ⟨h1, h2⟩)).later hy
  have FT1 : Hid (∀ y, Below w7.heap.size w7 y → Thw (fun b => w6.heap.size ≤ b ∧ b < w7.heap.size) y) := fun y hy b o hd => (hy.frozen (p := ⟨b, o, none⟩) hd.2).trans ((hfz _).trans (frozen_past _ _ _ hd.1))
  clear hX hF hb hfz
  obtain ⟨kC0, kC1, kC2, kC3, kC4⟩ := bk5 (XC.out w7 bR)
  obtain ⟨kW0, kW1, kW2, kW3, kW4⟩ := bk5 (XW.out w7 bR)
  have BP : Hid (Below w7.heap.size w7 (w7.alloc (.cells #[.slice kb0 m0 (m0 + kd0), .int .i64 yg, .int .i64 tp, .int .i64 od, .slice kb4 m4 (m4 + kd4)] 29))) := (Below.refl _ _).alloc (Nat.le_refl _) _
  go_wp2_with fail
  refine (mmI _ _ _ _ _ _ yg tp od _ _ _ v k ol ws cd L _ (T.out _ BP.out).cls (X1.out _ BP.out).ints (F1.out _ BP.out) hyg hwl hdl (by omega) hv hk HR.out HN.out HM2.out).mono ?_
  rintro e w8 ⟨ga, gc, gb, gd, rfl, hA, hC, ha, hb0, hab, hb⟩
  have LGA : Hid (∀ x, ga = some x → 0 < n → w7.heap.size + 1 ≤ x.block ∧ x.block < w8.heap.size) := fun x e h0 => ⟨by have := ha x e h0; simpa using this, hA.lt x e h0⟩
  have LGB : Hid (∀ x, gb = some x → 0 < m → w7.heap.size + 1 ≤ x.block ∧ x.block < w8.heap.size) := fun x e h0 => ⟨by have := hb0 x e h0; simpa using this, hC.lt x e h0⟩
  have AB : Hid (∀ x y, ga = some x → gb = some y → 0 < n → 0 < m → x.block ≠ y.block) := hab
  have hq : Below w7.heap.size w7 w8 := BP.out.trans (Below.mono hb BP.out.size)
  replace B := lF B hq hq.size
  replace S0 := lF S0 hq hq.size
  replace S1 := lF S1 hq hq.size
  replace T := lF T hq hq.size
  replace FT := lF FT hq hq.size
  replace X1 := lF X1 hq hq.size
  replace F1 := lF F1 hq hq.size
  replace FT1 := lF FT1 hq hq.size
  replace XC := lF XC hq hq.size
  replace lC := Nat.lt_of_lt_of_le lC hq.size
  replace XW := lF XW hq hq.size
  replace lW := Nat.lt_of_lt_of_le lW hq.size
  have lQ : w7.heap.size < w8.heap.size := Nat.lt_of_lt_of_le (by simp) (Below.size hb)
  have XQ : Hid (∀ y, Below w8.heap.size w8 y → y.heap[w7.heap.size]? = some (.cells #[.slice kb0 m0 (m0 + kd0), .int .i64 yg, .int .i64 tp, .int .i64 od, .slice kb4 m4 (m4 + kd4)] 29 (0, 0))) := fun y hy => (hy.block _ lQ).trans ((Below.block hb _ (by simp)).trans (boxN _ _ _ _ rfl))
  have zw8 : w7.heap.size + 1 ≤ w8.heap.size := Nat.le_trans (Nat.le_of_eq (by simp)) (Below.size hb)
  clear hq BP
  clear kC0 kC1 kC2 kC3 kC4 kW0 kW1 kW2 kW3 kW4
  have G1 : Hid (∀ y, Below w8.heap.size w8 y → Wri y ga n (fun j => rs.getD j 0)) := fun y hy => hA.later hy
  have G2 : Hid (∀ y, Below w8.heap.size w8 y → WriB y gb m (fun j => rc.getD j false)) := fun y hy => hC.later hy
  clear hA hC ha hb0 hab hb
  obtain ⟨kC0, kC1, kC2, kC3, kC4⟩ := bk5 (XC.out w8 bR)
  obtain ⟨kW0, kW1, kW2, kW3, kW4⟩ := bk5 (XW.out w8 bR)
  obtain ⟨kQ0, kQ1, kQ2, kQ3, kQ4⟩ := bk5 (XQ.out w8 bR)
  have BP : Hid (Below w8.heap.size w8 (w8.alloc (.cells #[.slice ga n gc, .int .i64 z1, .int .i64 z2, .int .i64 z3, .slice gb m gd] 29))) := (Below.refl _ _).alloc (Nat.le_refl _) _
  go_wp2_with fail
  refine (eqRMem z1 z2 z3 _ _ _ _ _ _ _ _ _ _ _ _ rs rc _ (Wri.sl (G1.out _ BP.out) HN.out (by omega) RFT.out) (S0.out _ BP.out) (WriB.sl (G2.out _ BP.out) HM2.out (by omega)) (S1.out _ BP.out)).mono ?_
  rintro e w9 ⟨rfl, hb⟩
  have hq : Below w8.heap.size w8 w9 := BP.out.trans (Below.mono hb BP.out.size)
  replace B := lF B hq hq.size
  replace S0 := lF S0 hq hq.size
  replace S1 := lF S1 hq hq.size
  replace T := lF T hq hq.size
  replace FT := lF FT hq hq.size
  replace X1 := lF X1 hq hq.size
  replace F1 := lF F1 hq hq.size
  replace FT1 := lF FT1 hq hq.size
  replace G1 := lF G1 hq hq.size
  replace G2 := lF G2 hq hq.size
  replace XC := lF XC hq hq.size
  replace lC := Nat.lt_of_lt_of_le lC hq.size
  replace XW := lF XW hq hq.size
  replace lW := Nat.lt_of_lt_of_le lW hq.size
  replace XQ := lF XQ hq hq.size
  replace lQ := Nat.lt_of_lt_of_le lQ hq.size
  have lO : w8.heap.size < w9.heap.size := Nat.lt_of_lt_of_le (by simp) (Below.size hb)
  have XO : Hid (∀ y, Below w9.heap.size w9 y → y.heap[w8.heap.size]? = some (.cells #[.slice ga n gc, .int .i64 z1, .int .i64 z2, .int .i64 z3, .slice gb m gd] 29 (0, 0))) := fun y hy => (hy.block _ lO).trans ((Below.block hb _ (by simp)).trans (boxN _ _ _ _ rfl))
  have zw9 : w8.heap.size + 1 ≤ w9.heap.size := Nat.le_trans (Nat.le_of_eq (by simp)) (Below.size hb)
  clear hq BP
  clear kC0 kC1 kC2 kC3 kC4 kW0 kW1 kW2 kW3 kW4 kQ0 kQ1 kQ2 kQ3 kQ4
  clear hb
  obtain ⟨kC0, kC1, kC2, kC3, kC4⟩ := bk5 (XC.out w9 bR)
  obtain ⟨kW0, kW1, kW2, kW3, kW4⟩ := bk5 (XW.out w9 bR)
  obtain ⟨kQ0, kQ1, kQ2, kQ3, kQ4⟩ := bk5 (XQ.out w9 bR)
  obtain ⟨kO0, kO1, kO2, kO3, kO4⟩ := bk5 (XO.out w9 bR)
  have BP : Hid (Below w9.heap.size w9 w9) := Below.refl _ _
  go_wp2_with fail
  refine (toLClass _ _ _ L _ (H.out.later (B.out _ BP.out)) SL.out).mono ?_
  rintro e w10 ⟨ja0, jc0, rfl, hU, hb⟩
  have hq : Below w9.heap.size w9 w10 := BP.out.trans (Below.mono hb BP.out.size)
  replace B := lF B hq hq.size
  replace S0 := lF S0 hq hq.size
  replace S1 := lF S1 hq hq.size
  replace T := lF T hq hq.size
  replace FT := lF FT hq hq.size
  replace X1 := lF X1 hq hq.size
  replace F1 := lF F1 hq hq.size
  replace FT1 := lF FT1 hq hq.size
  replace G1 := lF G1 hq hq.size
  replace G2 := lF G2 hq hq.size
  replace XC := lF XC hq hq.size
  replace lC := Nat.lt_of_lt_of_le lC hq.size
  replace XW := lF XW hq hq.size
  replace lW := Nat.lt_of_lt_of_le lW hq.size
  replace XQ := lF XQ hq hq.size
  replace lQ := Nat.lt_of_lt_of_le lQ hq.size
  replace XO := lF XO hq hq.size
  replace lO := Nat.lt_of_lt_of_le lO hq.size
  have zw10 : w9.heap.size ≤ w10.heap.size := hq.size
  clear hq BP
  clear kC0 kC1 kC2 kC3 kC4 kW0 kW1 kW2 kW3 kW4 kQ0 kQ1 kQ2 kQ3 kQ4 kO0 kO1 kO2 kO3 kO4
  have U : Hid (SlAt clR _ w10 ja0 l0 L) := hU
  clear hU hb
  obtain ⟨kC0, kC1, kC2, kC3, kC4⟩ := bk5 (XC.out w10 bR)
  obtain ⟨kW0, kW1, kW2, kW3, kW4⟩ := bk5 (XW.out w10 bR)
  obtain ⟨kQ0, kQ1, kQ2, kQ3, kQ4⟩ := bk5 (XQ.out w10 bR)
  obtain ⟨kO0, kO1, kO2, kO3, kO4⟩ := bk5 (XO.out w10 bR)
  have BP : Hid (Below w10.heap.size w10 w10) := Below.refl _ _
  go_wp2_with fail
  refine (eqLClass _ _ _ _ _ _ L _ (T.out _ BP.out) U.out).mono ?_
  rintro e w11 ⟨rfl, hb⟩
  have hq : Below w10.heap.size w10 w11 := BP.out.trans (Below.mono hb BP.out.size)
  replace B := lF B hq hq.size
  replace S0 := lF S0 hq hq.size
  replace S1 := lF S1 hq hq.size
  replace T := lF T hq hq.size
  replace FT := lF FT hq hq.size
  replace X1 := lF X1 hq hq.size
  replace F1 := lF F1 hq hq.size
  replace FT1 := lF FT1 hq hq.size
  replace G1 := lF G1 hq hq.size
  replace G2 := lF G2 hq hq.size
  replace XC := lF XC hq hq.size
  replace lC := Nat.lt_of_lt_of_le lC hq.size
  replace XW := lF XW hq hq.size
  replace lW := Nat.lt_of_lt_of_le lW hq.size
  replace XQ := lF XQ hq hq.size
  replace lQ := Nat.lt_of_lt_of_le lQ hq.size
  replace XO := lF XO hq hq.size
  replace lO := Nat.lt_of_lt_of_le lO hq.size
  have zw11 : w10.heap.size ≤ w11.heap.size := hq.size
  clear hq BP
  clear kC0 kC1 kC2 kC3 kC4 kW0 kW1 kW2 kW3 kW4 kQ0 kQ1 kQ2 kQ3 kQ4 kO0 kO1 kO2 kO3 kO4
  clear hb U
  obtain ⟨kC0, kC1, kC2, kC3, kC4⟩ := bk5 (XC.out w11 bR)
  obtain ⟨kW0, kW1, kW2, kW3, kW4⟩ := bk5 (XW.out w11 bR)
  obtain ⟨kQ0, kQ1, kQ2, kQ3, kQ4⟩ := bk5 (XQ.out w11 bR)
  obtain ⟨kO0, kO1, kO2, kO3, kO4⟩ := bk5 (XO.out w11 bR)
  go_wp2_with fail
  have KS : Hid (∀ x, Below w11.heap.size w11 x → x.cell? ⟨w.heap.size, 0, none⟩ = some (.slice b0 m0 d0) ∧ x.cell? ⟨w.heap.size, 1, none⟩ = some (.int .i64 yg) ∧ x.cell? ⟨w.heap.size, 2, none⟩ = some (.int .i64 tp) ∧ x.cell? ⟨w.heap.size, 3, none⟩ = some (.int .i64 od) ∧ x.cell? ⟨w.heap.size, 4, none⟩ = some (.slice b4 m4 d4) ∧ x.cell? ⟨w7.heap.size, 0, none⟩ = some (.slice kb0 m0 (m0 + kd0)) ∧ x.cell? ⟨w7.heap.size, 1, none⟩ = some (.int .i64 yg) ∧ x.cell? ⟨w7.heap.size, 2, none⟩ = some (.int .i64 tp) ∧ x.cell? ⟨w7.heap.size, 3, none⟩ = some (.int .i64 od) ∧ x.cell? ⟨w7.heap.size, 4, none⟩ = some (.slice kb4 m4 (m4 + kd4))) := fun x hx => ⟨(boxG (XC.out x hx) 0).1, (boxG (XC.out x hx) 1).1, (boxG (XC.out x hx) 2).1, (boxG (XC.out x hx) 3).1, (boxG (XC.out x hx) 4).1, (boxG (XQ.out x hx) 0).1, (boxG (XQ.out x hx) 1).1, (boxG (XQ.out x hx) 2).1, (boxG (XQ.out x hx) 3).1, (boxG (XQ.out x hx) 4).1⟩
  refine wp_region_held_drew (S := fun x => x.cell? ⟨w.heap.size, 0, none⟩ = some (.slice b0 m0 d0) ∧ x.cell? ⟨w.heap.size, 1, none⟩ = some (.int .i64 yg) ∧ x.cell? ⟨w.heap.size, 2, none⟩ = some (.int .i64 tp) ∧ x.cell? ⟨w.heap.size, 3, none⟩ = some (.int .i64 od) ∧ x.cell? ⟨w.heap.size, 4, none⟩ = some (.slice b4 m4 d4) ∧ x.cell? ⟨w7.heap.size, 0, none⟩ = some (.slice kb0 m0 (m0 + kd0)) ∧ x.cell? ⟨w7.heap.size, 1, none⟩ = some (.int .i64 yg) ∧ x.cell? ⟨w7.heap.size, 2, none⟩ = some (.int .i64 tp) ∧ x.cell? ⟨w7.heap.size, 3, none⟩ = some (.int .i64 od) ∧ x.cell? ⟨w7.heap.size, 4, none⟩ = some (.slice kb4 m4 (m4 + kd4))) (by kernel_rfl) ?_ (fun hHeld => ?_)
  · exact KS.out _ (below_drewN (Below.refl _ _) 1)
  refine wpAnyH_take (i := 0) (v := .agg #[.slice kb0 m0 (m0 + kd0), .int .i64 yg, .int .i64 tp, .int .i64 od, .slice kb4 m4 (m4 + kd4)]) rfl (by kernel_rfl) (by kernel_rfl) (by kernel_rfl) (fun _ _ _ h => h) (Or.inl ⟨by kernel_rfl, by (intro x hSx; (try dsimp only at hSx); go_simp)⟩) (by assumption) ?_
  try simp only [Act.put, List.getElem_toArray, List.getElem_cons_zero, List.setIfInBounds_toArray, List.set_cons_zero, List.set_cons_succ]
  refine wpAnyH_take (i := 1) (v := .agg #[.slice b0 m0 d0, .int .i64 yg, .int .i64 tp, .int .i64 od, .slice b4 m4 d4]) rfl (by kernel_rfl) (by kernel_rfl) (by kernel_rfl) (fun _ _ _ h => h) (Or.inl ⟨by kernel_rfl, by (intro x hSx; (try dsimp only at hSx); go_simp)⟩) (by assumption) ?_
  try simp only [Act.put, List.getElem_toArray, List.getElem_cons_zero, List.getElem_cons_succ, List.setIfInBounds_toArray, List.set_cons_zero, List.set_cons_succ]
  refine wpAnyH_ready (rs := [2]) (by kernel_rfl) (by simp) ?_
  refine AllReadyH.cons rfl (fun K hK => ?_) AllReadyH.nil
  go_simp
  go_at_call 10
  refine (toRMem yg tp od _ _ _ _ _ _ ws cd _ (HW.out.later (B.out _ (below_drewN (Below.refl _ _) 1))) SW.out (HC.out.later (B.out _ (below_drewN (Below.refl _ _) 1))) SB.out).mono ?_
  rintro e w12 ⟨jb0, jd0, jb4, jd4, rfl, hX, hF, hbx⟩
  have hb : Below w11.heap.size w11 w12 := (below_drewN (Below.refl _ _) 1).trans (hbx.mono (Nat.le_refl _))
  clear hbx
  have BP : Hid (Below w11.heap.size w11 w11) := Below.refl _ _
  have hq : Below w11.heap.size w11 w12 := BP.out.trans (Below.mono hb BP.out.size)
  replace B := lF B hq hq.size
  replace S0 := lF S0 hq hq.size
  replace S1 := lF S1 hq hq.size
  replace T := lF T hq hq.size
  replace FT := lF FT hq hq.size
  replace X1 := lF X1 hq hq.size
  replace F1 := lF F1 hq hq.size
  replace FT1 := lF FT1 hq hq.size
  replace G1 := lF G1 hq hq.size
  replace G2 := lF G2 hq hq.size
  replace XC := lF XC hq hq.size
  replace lC := Nat.lt_of_lt_of_le lC hq.size
  replace XW := lF XW hq hq.size
  replace lW := Nat.lt_of_lt_of_le lW hq.size
  replace XQ := lF XQ hq hq.size
  replace lQ := Nat.lt_of_lt_of_le lQ hq.size
  replace XO := lF XO hq hq.size
  replace lO := Nat.lt_of_lt_of_le lO hq.size
  have zw12 : w11.heap.size ≤ w12.heap.size := hq.size
  clear hq BP
  replace KS : Hid (∀ x, Below w12.heap.size w12 x → x.cell? ⟨w.heap.size, 0, none⟩ = some (.slice b0 m0 d0) ∧ x.cell? ⟨w.heap.size, 1, none⟩ = some (.int .i64 yg) ∧ x.cell? ⟨w.heap.size, 2, none⟩ = some (.int .i64 tp) ∧ x.cell? ⟨w.heap.size, 3, none⟩ = some (.int .i64 od) ∧ x.cell? ⟨w.heap.size, 4, none⟩ = some (.slice b4 m4 d4) ∧ x.cell? ⟨w7.heap.size, 0, none⟩ = some (.slice kb0 m0 (m0 + kd0)) ∧ x.cell? ⟨w7.heap.size, 1, none⟩ = some (.int .i64 yg) ∧ x.cell? ⟨w7.heap.size, 2, none⟩ = some (.int .i64 tp) ∧ x.cell? ⟨w7.heap.size, 3, none⟩ = some (.int .i64 od) ∧ x.cell? ⟨w7.heap.size, 4, none⟩ = some (.slice kb4 m4 (m4 + kd4))) := fun x hx => ⟨(boxG (XC.out x hx) 0).1, (boxG (XC.out x hx) 1).1, (boxG (XC.out x hx) 2).1, (boxG (XC.out x hx) 3).1, (boxG (XC.out x hx) 4).1, (boxG (XQ.out x hx) 0).1, (boxG (XQ.out x hx) 1).1, (boxG (XQ.out x hx) 2).1, (boxG (XQ.out x hx) 3).1, (boxG (XQ.out x hx) 4).1⟩
  have X0 : Hid (SlAt intR _ w12 jb0 m0 ws) := hX
  have F0 : Hid (SlAt boolR _ w12 jb4 m4 cd) := hF
  clear hX hF
  clear hb
  go_wp2_with fail
  refine hK.out _ _ (KS.out _ (Below.refl _ _)) (fun hHeld2 => ?_)
  clear hK K
  try simp only [Act.put, List.getElem_toArray, List.getElem_cons_zero, List.getElem_cons_succ, List.setIfInBounds_toArray, List.set_cons_zero, List.set_cons_succ]
  refine wpAnyH_ready (rs := [3]) (by kernel_rfl) (by simp) ?_
  refine AllReadyH.cons rfl (fun K hK => ?_) AllReadyH.nil
  go_simp
  go_at_call 12
  refine (eqRMem yg tp od _ _ _ _ _ _ _ _ _ _ _ _ ws cd _ (X1.out _ (Below.refl _ _)) X0.out (F1.out _ (Below.refl _ _)) F0.out).mono ?_
  rintro e w13 ⟨rfl, hbx⟩
  have hb : Below w12.heap.size w12 w13 := hbx
  clear hbx
  have BP : Hid (Below w12.heap.size w12 w12) := Below.refl _ _
  have hq : Below w12.heap.size w12 w13 := BP.out.trans (Below.mono hb BP.out.size)
  replace B := lF B hq hq.size
  replace S0 := lF S0 hq hq.size
  replace S1 := lF S1 hq hq.size
  replace T := lF T hq hq.size
  replace FT := lF FT hq hq.size
  replace X1 := lF X1 hq hq.size
  replace F1 := lF F1 hq hq.size
  replace FT1 := lF FT1 hq hq.size
  replace G1 := lF G1 hq hq.size
  replace G2 := lF G2 hq hq.size
  replace XC := lF XC hq hq.size
  replace lC := Nat.lt_of_lt_of_le lC hq.size
  replace XW := lF XW hq hq.size
  replace lW := Nat.lt_of_lt_of_le lW hq.size
  replace XQ := lF XQ hq hq.size
  replace lQ := Nat.lt_of_lt_of_le lQ hq.size
  replace XO := lF XO hq hq.size
  replace lO := Nat.lt_of_lt_of_le lO hq.size
  have zw13 : w12.heap.size ≤ w13.heap.size := hq.size
  clear hq BP
  replace KS : Hid (∀ x, Below w13.heap.size w13 x → x.cell? ⟨w.heap.size, 0, none⟩ = some (.slice b0 m0 d0) ∧ x.cell? ⟨w.heap.size, 1, none⟩ = some (.int .i64 yg) ∧ x.cell? ⟨w.heap.size, 2, none⟩ = some (.int .i64 tp) ∧ x.cell? ⟨w.heap.size, 3, none⟩ = some (.int .i64 od) ∧ x.cell? ⟨w.heap.size, 4, none⟩ = some (.slice b4 m4 d4) ∧ x.cell? ⟨w7.heap.size, 0, none⟩ = some (.slice kb0 m0 (m0 + kd0)) ∧ x.cell? ⟨w7.heap.size, 1, none⟩ = some (.int .i64 yg) ∧ x.cell? ⟨w7.heap.size, 2, none⟩ = some (.int .i64 tp) ∧ x.cell? ⟨w7.heap.size, 3, none⟩ = some (.int .i64 od) ∧ x.cell? ⟨w7.heap.size, 4, none⟩ = some (.slice kb4 m4 (m4 + kd4))) := fun x hx => ⟨(boxG (XC.out x hx) 0).1, (boxG (XC.out x hx) 1).1, (boxG (XC.out x hx) 2).1, (boxG (XC.out x hx) 3).1, (boxG (XC.out x hx) 4).1, (boxG (XQ.out x hx) 0).1, (boxG (XQ.out x hx) 1).1, (boxG (XQ.out x hx) 2).1, (boxG (XQ.out x hx) 3).1, (boxG (XQ.out x hx) 4).1⟩
  clear X0 F0
  clear hb
  go_wp2_with fail
  refine hK.out _ _ (KS.out _ (Below.refl _ _)) (fun hHeld3 => ?_)
  clear hK K
  try simp only [Act.put, List.getElem_toArray, List.getElem_cons_zero, List.getElem_cons_succ, List.setIfInBounds_toArray, List.set_cons_zero, List.set_cons_succ]
  refine wpAnyH_take (i := 4) (v := .bool false) rfl (by kernel_rfl) (by kernel_rfl) (by kernel_rfl) (fun _ _ _ h => h) (Or.inl ⟨by kernel_rfl, by (intro x hSx; (try dsimp only at hSx); go_simp)⟩) (by assumption) ?_
  try simp only [Act.put, List.getElem_toArray, List.getElem_cons_zero, List.getElem_cons_succ, List.setIfInBounds_toArray, List.set_cons_zero, List.set_cons_succ]
  refine wpAnyH_done (by kernel_rfl) ?_ _
  clear hHeld hHeld2 hHeld3
  clear kC0 kC1 kC2 kC3 kC4 kW0 kW1 kW2 kW3 kW4 kQ0 kQ1 kQ2 kQ3 kQ4 kO0 kO1 kO2 kO3 kO4
  clear KS
  obtain ⟨kC0, kC1, kC2, kC3, kC4⟩ := bk5 (XC.out w13 bR)
  obtain ⟨kW0, kW1, kW2, kW3, kW4⟩ := bk5 (XW.out w13 bR)
  obtain ⟨kQ0, kQ1, kQ2, kQ3, kQ4⟩ := bk5 (XQ.out w13 bR)
  obtain ⟨kO0, kO1, kO2, kO3, kO4⟩ := bk5 (XO.out w13 bR)
  have BP : Hid (Below w13.heap.size w13 w13) := Below.refl _ _
  go_wp2_with fail
  clear BP
  refine (markLClass _ _ _ 1 _ (D := (fun b => w3.heap.size ≤ b ∧ b < w6.heap.size)) (SlP.of (T.out _ (Below.refl _ _)) SL.out) (FT.out _ (Below.refl _ _)) (by omega) (by omega)).mono ?_
  rintro e w14 ⟨k1, rfl, hk0, hk1, hmk⟩
  have hc := hmk.chg
  clear hmk
  clear kC0 kC1 kC2 kC3 kC4 kW0 kW1 kW2 kW3 kW4 kQ0 kQ1 kQ2 kQ3 kQ4 kO0 kO1 kO2 kO3 kO4
  replace XC : Hid (∀ y, Below w14.heap.size w14 y → y.heap[w.heap.size]? = some (.cells #[.slice b0 m0 d0, .int .i64 yg, .int .i64 tp, .int .i64 od, .slice b4 m4 d4] 26 (0, 0))) := fun y hy => (hy.block _ (Nat.lt_of_lt_of_le lC (Chg.size hc))).trans ((Chg.block hc _ lC (fun hd => by have h1 := hd.1; have h2 := hd.2; omega)).trans (XC.out w13 (Below.refl _ _)))
  replace lC : w.heap.size < w14.heap.size := Nat.lt_of_lt_of_le lC (Chg.size hc)
  replace XW : Hid (∀ y, Below w14.heap.size w14 y → y.heap[X]? = some (.cells #[.slice sa n sc, .int .i64 z1, .int .i64 z2, .int .i64 z3, .slice sb m sd] 29 (0, 0))) := fun y hy => (hy.block _ (Nat.lt_of_lt_of_le lW (Chg.size hc))).trans ((Chg.block hc _ lW (fun hd => by have h1 := hd.1; have h2 := hd.2; omega)).trans (XW.out w13 (Below.refl _ _)))
  replace lW : X < w14.heap.size := Nat.lt_of_lt_of_le lW (Chg.size hc)
  replace XQ : Hid (∀ y, Below w14.heap.size w14 y → y.heap[w7.heap.size]? = some (.cells #[.slice kb0 m0 (m0 + kd0), .int .i64 yg, .int .i64 tp, .int .i64 od, .slice kb4 m4 (m4 + kd4)] 29 (0, 0))) := fun y hy => (hy.block _ (Nat.lt_of_lt_of_le lQ (Chg.size hc))).trans ((Chg.block hc _ lQ (fun hd => by have h1 := hd.1; have h2 := hd.2; omega)).trans (XQ.out w13 (Below.refl _ _)))
  replace lQ : w7.heap.size < w14.heap.size := Nat.lt_of_lt_of_le lQ (Chg.size hc)
  replace XO : Hid (∀ y, Below w14.heap.size w14 y → y.heap[w8.heap.size]? = some (.cells #[.slice ga n gc, .int .i64 z1, .int .i64 z2, .int .i64 z3, .slice gb m gd] 29 (0, 0))) := fun y hy => (hy.block _ (Nat.lt_of_lt_of_le lO (Chg.size hc))).trans ((Chg.block hc _ lO (fun hd => by have h1 := hd.1; have h2 := hd.2; omega)).trans (XO.out w13 (Below.refl _ _)))
  replace lO : w8.heap.size < w14.heap.size := Nat.lt_of_lt_of_le lO (Chg.size hc)
  have zw14 : w13.heap.size ≤ w14.heap.size := Chg.size hc
  replace B : Hid (∀ y, Below w14.heap.size w14 y → Below w.heap.size w y) := fun y hy => ((B.out _ (Below.refl _ _)).trans (hc.below (Below.size (B.out _ (Below.refl _ _))) (fun i hi hd => by have := hd.1; omega))).trans (hy.mono (by omega))
  replace S0 : Hid (∀ y, Below w14.heap.size w14 y → SlAt intR (fun b => b < w3.heap.size) y sa n rs) := fun y hy => ((S0.out _ (Below.refl _ _)).keep (fun b o hd hl => hc.cell b o hl (fun hh => by have h7 : b < w3.heap.size := hd; have := hh.1; omega))).later hy
  replace S1 : Hid (∀ y, Below w14.heap.size w14 y → SlAt boolR (fun b => b < w3.heap.size) y sb m rc) := fun y hy => ((S1.out _ (Below.refl _ _)).keep (fun b o hd hl => hc.cell b o hl (fun hh => by have h7 : b < w3.heap.size := hd; have := hh.1; omega))).later hy
  clear T
  clear FT
  replace X1 : Hid (∀ y, Below w14.heap.size w14 y → SlAt intR (fun b => w6.heap.size ≤ b ∧ b < w7.heap.size) y kb0 m0 ws) := fun y hy => ((X1.out _ (Below.refl _ _)).keep (fun b o hd hl => hc.cell b o hl (fun hh => by have := hh.2; have := hd.1; omega))).later hy
  replace F1 : Hid (∀ y, Below w14.heap.size w14 y → SlAt boolR (fun b => w6.heap.size ≤ b ∧ b < w7.heap.size) y kb4 m4 cd) := fun y hy => ((F1.out _ (Below.refl _ _)).keep (fun b o hd hl => hc.cell b o hl (fun hh => by have := hh.2; have := hd.1; omega))).later hy
  replace FT1 : Hid (∀ y, Below w14.heap.size w14 y → Thw (fun b => w6.heap.size ≤ b ∧ b < w7.heap.size) y) := fun y hy b o hd => (hy.frozen (p := ⟨b, o, none⟩) (by have h7 := hd.2; show b < _; omega)).trans ((hc.frozen b o (by have := hd.2; omega) (fun hh => by have := hh.2; have := hd.1; omega)).trans (FT1.out _ (Below.refl _ _) b o hd))
  replace G1 : Hid (∀ y, Below w14.heap.size w14 y → Wri y ga n (fun j => rs.getD j 0)) := fun y hy => ((G1.out _ (Below.refl _ _)).keep hc (fun x e h0 hd => by have := (LGA.out x e h0).1; have := hd.2; omega)).later hy
  replace G2 : Hid (∀ y, Below w14.heap.size w14 y → WriB y gb m (fun j => rc.getD j false)) := fun y hy => ((G2.out _ (Below.refl _ _)).keep hc (fun x e h0 hd => by have := (LGB.out x e h0).1; have := hd.2; omega)).later hy
  clear hc
  obtain ⟨kC0, kC1, kC2, kC3, kC4⟩ := bk5 (XC.out w14 bR)
  obtain ⟨kW0, kW1, kW2, kW3, kW4⟩ := bk5 (XW.out w14 bR)
  obtain ⟨kQ0, kQ1, kQ2, kQ3, kQ4⟩ := bk5 (XQ.out w14 bR)
  obtain ⟨kO0, kO1, kO2, kO3, kO4⟩ := bk5 (XO.out w14 bR)
  have BP : Hid (Below w14.heap.size w14 w14) := Below.refl _ _
  go_wp2_with fail
  refine (markXMem yg tp od _ _ _ _ _ _ k1 _ (D := (fun b => w6.heap.size ≤ b ∧ b < w7.heap.size)) (SlP.of (X1.out _ BP.out) SW.out) (SlP.of (F1.out _ BP.out) SB.out) (FT1.out _ BP.out) (by omega) (by omega)).mono ?_
  rintro e w15 ⟨k2, rfl, hk2, hc⟩
  clear BP
  clear kC0 kC1 kC2 kC3 kC4 kW0 kW1 kW2 kW3 kW4 kQ0 kQ1 kQ2 kQ3 kQ4 kO0 kO1 kO2 kO3 kO4
  replace XC : Hid (∀ y, Below w15.heap.size w15 y → y.heap[w.heap.size]? = some (.cells #[.slice b0 m0 d0, .int .i64 yg, .int .i64 tp, .int .i64 od, .slice b4 m4 d4] 26 (0, 0))) := fun y hy => (hy.block _ (Nat.lt_of_lt_of_le lC (Chg.size hc))).trans ((Chg.block hc _ lC (fun hd => by have h1 := hd.1; have h2 := hd.2; omega)).trans (XC.out w14 (Below.refl _ _)))
  replace lC : w.heap.size < w15.heap.size := Nat.lt_of_lt_of_le lC (Chg.size hc)
  replace XW : Hid (∀ y, Below w15.heap.size w15 y → y.heap[X]? = some (.cells #[.slice sa n sc, .int .i64 z1, .int .i64 z2, .int .i64 z3, .slice sb m sd] 29 (0, 0))) := fun y hy => (hy.block _ (Nat.lt_of_lt_of_le lW (Chg.size hc))).trans ((Chg.block hc _ lW (fun hd => by have h1 := hd.1; have h2 := hd.2; omega)).trans (XW.out w14 (Below.refl _ _)))
  replace lW : X < w15.heap.size := Nat.lt_of_lt_of_le lW (Chg.size hc)
  replace XQ : Hid (∀ y, Below w15.heap.size w15 y → y.heap[w7.heap.size]? = some (.cells #[.slice kb0 m0 (m0 + kd0), .int .i64 yg, .int .i64 tp, .int .i64 od, .slice kb4 m4 (m4 + kd4)] 29 (0, 0))) := fun y hy => (hy.block _ (Nat.lt_of_lt_of_le lQ (Chg.size hc))).trans ((Chg.block hc _ lQ (fun hd => by have h1 := hd.1; have h2 := hd.2; omega)).trans (XQ.out w14 (Below.refl _ _)))
  replace lQ : w7.heap.size < w15.heap.size := Nat.lt_of_lt_of_le lQ (Chg.size hc)
  replace XO : Hid (∀ y, Below w15.heap.size w15 y → y.heap[w8.heap.size]? = some (.cells #[.slice ga n gc, .int .i64 z1, .int .i64 z2, .int .i64 z3, .slice gb m gd] 29 (0, 0))) := fun y hy => (hy.block _ (Nat.lt_of_lt_of_le lO (Chg.size hc))).trans ((Chg.block hc _ lO (fun hd => by have h1 := hd.1; have h2 := hd.2; omega)).trans (XO.out w14 (Below.refl _ _)))
  replace lO : w8.heap.size < w15.heap.size := Nat.lt_of_lt_of_le lO (Chg.size hc)
  have zw15 : w14.heap.size ≤ w15.heap.size := Chg.size hc
  replace B : Hid (∀ y, Below w15.heap.size w15 y → Below w.heap.size w y) := fun y hy => ((B.out _ (Below.refl _ _)).trans (hc.below (Below.size (B.out _ (Below.refl _ _))) (fun i hi hd => by have := hd.1; omega))).trans (hy.mono (by omega))
  replace S0 : Hid (∀ y, Below w15.heap.size w15 y → SlAt intR (fun b => b < w3.heap.size) y sa n rs) := fun y hy => ((S0.out _ (Below.refl _ _)).keep (fun b o hd hl => hc.cell b o hl (fun hh => by have h7 : b < w3.heap.size := hd; have := hh.1; omega))).later hy
  replace S1 : Hid (∀ y, Below w15.heap.size w15 y → SlAt boolR (fun b => b < w3.heap.size) y sb m rc) := fun y hy => ((S1.out _ (Below.refl _ _)).keep (fun b o hd hl => hc.cell b o hl (fun hh => by have h7 : b < w3.heap.size := hd; have := hh.1; omega))).later hy
  clear X1
  clear F1
  clear FT1
  replace G1 : Hid (∀ y, Below w15.heap.size w15 y → Wri y ga n (fun j => rs.getD j 0)) := fun y hy => ((G1.out _ (Below.refl _ _)).keep hc (fun x e h0 hd => by have := (LGA.out x e h0).1; have := hd.2; omega)).later hy
  replace G2 : Hid (∀ y, Below w15.heap.size w15 y → WriB y gb m (fun j => rc.getD j false)) := fun y hy => ((G2.out _ (Below.refl _ _)).keep hc (fun x e h0 hd => by have := (LGB.out x e h0).1; have := hd.2; omega)).later hy
  have hk' : ¬ k2 < 0 := by omega
  clear hc
  obtain ⟨kC0, kC1, kC2, kC3, kC4⟩ := bk5 (XC.out w15 bR)
  obtain ⟨kW0, kW1, kW2, kW3, kW4⟩ := bk5 (XW.out w15 bR)
  obtain ⟨kQ0, kQ1, kQ2, kQ3, kQ4⟩ := bk5 (XQ.out w15 bR)
  obtain ⟨kO0, kO1, kO2, kO3, kO4⟩ := bk5 (XO.out w15 bR)
  clear kC0 kC1 kC2 kC3 kC4 kW0 kW1 kW2 kW3 kW4 kQ0 kQ1 kQ2 kQ3 kQ4 kO0 kO1 kO2 kO3 kO4
  obtain ⟨kC0, kC1, kC2, kC3, kC4⟩ := bk5 (XC.out w15 bR)
  obtain ⟨kW0, kW1, kW2, kW3, kW4⟩ := bk5 (XW.out w15 bR)
  obtain ⟨kQ0, kQ1, kQ2, kQ3, kQ4⟩ := bk5 (XQ.out w15 bR)
  obtain ⟨kO0, kO1, kO2, kO3, kO4⟩ := bk5 (XO.out w15 bR)
  have BP : Hid (Below w15.heap.size w15 w15) := Below.refl _ _
  go_wp2_with fail
  refine (eqRMem z1 z2 z3 _ _ _ _ _ _ _ _ _ _ _ _ rs rc _ (Wri.sl (G1.out _ BP.out) HN.out (by omega) RFT.out) (S0.out _ BP.out) (WriB.sl (G2.out _ BP.out) HM2.out (by omega)) (S1.out _ BP.out)).mono ?_
  rintro e w16 ⟨rfl, hb⟩
  have hq : Below w15.heap.size w15 w16 := BP.out.trans (Below.mono hb BP.out.size)
  replace B := lF B hq hq.size
  replace S0 := lF S0 hq hq.size
  replace S1 := lF S1 hq hq.size
  replace G1 := lF G1 hq hq.size
  replace G2 := lF G2 hq hq.size
  replace XC := lF XC hq hq.size
  replace lC := Nat.lt_of_lt_of_le lC hq.size
  replace XW := lF XW hq hq.size
  replace lW := Nat.lt_of_lt_of_le lW hq.size
  replace XQ := lF XQ hq hq.size
  replace lQ := Nat.lt_of_lt_of_le lQ hq.size
  replace XO := lF XO hq hq.size
  replace lO := Nat.lt_of_lt_of_le lO hq.size
  have zw16 : w15.heap.size ≤ w16.heap.size := hq.size
  clear hq BP
  clear kC0 kC1 kC2 kC3 kC4 kW0 kW1 kW2 kW3 kW4 kQ0 kQ1 kQ2 kQ3 kQ4 kO0 kO1 kO2 kO3 kO4
  clear hb
  obtain ⟨kC0, kC1, kC2, kC3, kC4⟩ := bk5 (XC.out w16 bR)
  obtain ⟨kW0, kW1, kW2, kW3, kW4⟩ := bk5 (XW.out w16 bR)
  obtain ⟨kQ0, kQ1, kQ2, kQ3, kQ4⟩ := bk5 (XQ.out w16 bR)
  obtain ⟨kO0, kO1, kO2, kO3, kO4⟩ := bk5 (XO.out w16 bR)
  have BP : Hid (Below w16.heap.size w16 w16) := Below.refl _ _
  go_wp2_with fail
  refine (markRMem z1 z2 z3 ga n gc gb m gd 1 _ _ _ (G1.out _ BP.out) (G2.out _ BP.out) (by omega) (by omega) AB.out (by omega) (by omega)).mono ?_
  rintro e w17 ⟨rfl, hM1, hM2, hc⟩
  clear BP
  clear kC0 kC1 kC2 kC3 kC4 kW0 kW1 kW2 kW3 kW4 kQ0 kQ1 kQ2 kQ3 kQ4 kO0 kO1 kO2 kO3 kO4
  replace XC : Hid (∀ y, Below w17.heap.size w17 y → y.heap[w.heap.size]? = some (.cells #[.slice b0 m0 d0, .int .i64 yg, .int .i64 tp, .int .i64 od, .slice b4 m4 d4] 26 (0, 0))) := fun y hy => (hy.block _ (Nat.lt_of_lt_of_le lC (Chg.size hc))).trans ((Chg.block hc _ lC (fun hd => by rcases hd with ⟨x, e, e2, h0⟩ | ⟨x, e, e2, h0⟩ <;> first | (have := LGA.out x e h0; omega) | (have := LGB.out x e h0; omega))).trans (XC.out w16 (Below.refl _ _)))
  replace lC : w.heap.size < w17.heap.size := Nat.lt_of_lt_of_le lC (Chg.size hc)
  replace XW : Hid (∀ y, Below w17.heap.size w17 y → y.heap[X]? = some (.cells #[.slice sa n sc, .int .i64 z1, .int .i64 z2, .int .i64 z3, .slice sb m sd] 29 (0, 0))) := fun y hy => (hy.block _ (Nat.lt_of_lt_of_le lW (Chg.size hc))).trans ((Chg.block hc _ lW (fun hd => by rcases hd with ⟨x, e, e2, h0⟩ | ⟨x, e, e2, h0⟩ <;> first | (have := LGA.out x e h0; omega) | (have := LGB.out x e h0; omega))).trans (XW.out w16 (Below.refl _ _)))
  replace lW : X < w17.heap.size := Nat.lt_of_lt_of_le lW (Chg.size hc)
  replace XQ : Hid (∀ y, Below w17.heap.size w17 y → y.heap[w7.heap.size]? = some (.cells #[.slice kb0 m0 (m0 + kd0), .int .i64 yg, .int .i64 tp, .int .i64 od, .slice kb4 m4 (m4 + kd4)] 29 (0, 0))) := fun y hy => (hy.block _ (Nat.lt_of_lt_of_le lQ (Chg.size hc))).trans ((Chg.block hc _ lQ (fun hd => by rcases hd with ⟨x, e, e2, h0⟩ | ⟨x, e, e2, h0⟩ <;> first | (have := LGA.out x e h0; omega) | (have := LGB.out x e h0; omega))).trans (XQ.out w16 (Below.refl _ _)))
  replace lQ : w7.heap.size < w17.heap.size := Nat.lt_of_lt_of_le lQ (Chg.size hc)
  replace XO : Hid (∀ y, Below w17.heap.size w17 y → y.heap[w8.heap.size]? = some (.cells #[.slice ga n gc, .int .i64 z1, .int .i64 z2, .int .i64 z3, .slice gb m gd] 29 (0, 0))) := fun y hy => (hy.block _ (Nat.lt_of_lt_of_le lO (Chg.size hc))).trans ((Chg.block hc _ lO (fun hd => by rcases hd with ⟨x, e, e2, h0⟩ | ⟨x, e, e2, h0⟩ <;> first | (have := LGA.out x e h0; omega) | (have := LGB.out x e h0; omega))).trans (XO.out w16 (Below.refl _ _)))
  replace lO : w8.heap.size < w17.heap.size := Nat.lt_of_lt_of_le lO (Chg.size hc)
  have zw17 : w16.heap.size ≤ w17.heap.size := Chg.size hc
  replace B : Hid (∀ y, Below w17.heap.size w17 y → Below w.heap.size w y) := fun y hy => ((B.out _ (Below.refl _ _)).trans (hc.below (Below.size (B.out _ (Below.refl _ _))) (fun i hi hd => by rcases hd with ⟨x, e, e2, h0⟩ | ⟨x, e, e2, h0⟩ <;> first | (have := LGA.out x e h0; omega) | (have := LGB.out x e h0; omega)))).trans (hy.mono (by omega))
  replace S0 : Hid (∀ y, Below w17.heap.size w17 y → SlAt intR (fun b => b < w3.heap.size) y sa n rs) := fun y hy => ((S0.out _ (Below.refl _ _)).keep (fun b o hd hl => hc.cell b o hl (fun hh => by have h7 : b < w3.heap.size := hd; rcases hh with ⟨x, e, e2, h0⟩ | ⟨x, e, e2, h0⟩ <;> first | (have := LGA.out x e h0; omega) | (have := LGB.out x e h0; omega)))).later hy
  replace S1 : Hid (∀ y, Below w17.heap.size w17 y → SlAt boolR (fun b => b < w3.heap.size) y sb m rc) := fun y hy => ((S1.out _ (Below.refl _ _)).keep (fun b o hd hl => hc.cell b o hl (fun hh => by have h7 : b < w3.heap.size := hd; rcases hh with ⟨x, e, e2, h0⟩ | ⟨x, e, e2, h0⟩ <;> first | (have := LGA.out x e h0; omega) | (have := LGB.out x e h0; omega)))).later hy
  clear G1
  clear G2
  have M1 : Hid (∀ y, Below w17.heap.size w17 y → Wri y ga n (fun j => 1 + j)) := fun y hy => hM1.later hy
  have M2 : Hid (∀ y, Below w17.heap.size w17 y → WriB y gb m (fun j => (1 + n + (j : Int)) % 3 == 0)) := fun y hy => hM2.later hy
  have e9 : ((1 + (n : Int) + (m : Int)) != (1 + (n : Int) + (m : Int))) = false := by simp
  have e8 : ¬ ((1 + (n : Int) + (m : Int)) < 0) := by omega
  clear hM1 hM2 hc
  obtain ⟨kC0, kC1, kC2, kC3, kC4⟩ := bk5 (XC.out w17 bR)
  obtain ⟨kW0, kW1, kW2, kW3, kW4⟩ := bk5 (XW.out w17 bR)
  obtain ⟨kQ0, kQ1, kQ2, kQ3, kQ4⟩ := bk5 (XQ.out w17 bR)
  obtain ⟨kO0, kO1, kO2, kO3, kO4⟩ := bk5 (XO.out w17 bR)
  have BP : Hid (Below w17.heap.size w17 w17) := Below.refl _ _
  go_wp2_with fail
  refine (heldRMem z1 z2 z3 ga n gc gb m gd 1 _ (M1.out _ BP.out) (M2.out _ BP.out) (by omega) (by omega) (by omega) (by omega)).mono ?_
  rintro e w18 ⟨rfl, hb⟩
  have hq : Below w17.heap.size w17 w18 := BP.out.trans (Below.mono hb BP.out.size)
  replace B := lF B hq hq.size
  replace S0 := lF S0 hq hq.size
  replace S1 := lF S1 hq hq.size
  replace M1 := lF M1 hq hq.size
  replace M2 := lF M2 hq hq.size
  replace XC := lF XC hq hq.size
  replace lC := Nat.lt_of_lt_of_le lC hq.size
  replace XW := lF XW hq hq.size
  replace lW := Nat.lt_of_lt_of_le lW hq.size
  replace XQ := lF XQ hq hq.size
  replace lQ := Nat.lt_of_lt_of_le lQ hq.size
  replace XO := lF XO hq hq.size
  replace lO := Nat.lt_of_lt_of_le lO hq.size
  have zw18 : w17.heap.size ≤ w18.heap.size := hq.size
  clear hq BP
  clear kC0 kC1 kC2 kC3 kC4 kW0 kW1 kW2 kW3 kW4 kQ0 kQ1 kQ2 kQ3 kQ4 kO0 kO1 kO2 kO3 kO4
  clear hb
  obtain ⟨kC0, kC1, kC2, kC3, kC4⟩ := bk5 (XC.out w18 bR)
  obtain ⟨kW0, kW1, kW2, kW3, kW4⟩ := bk5 (XW.out w18 bR)
  obtain ⟨kQ0, kQ1, kQ2, kQ3, kQ4⟩ := bk5 (XQ.out w18 bR)
  obtain ⟨kO0, kO1, kO2, kO3, kO4⟩ := bk5 (XO.out w18 bR)
  go_upto_region 31 with fail
  go_cut [21, 22] from 106 to 116 (fun s t wx => ∃ (X : Nat) (sa : Option Addr) (sc : Nat) (sb : Option Addr) (sd : Nat), s = .pointer (some ⟨X, 0, none⟩) ∧ t = .int .i64 ra ∧ w18.heap.size ≤ X ∧ X < wx.heap.size ∧ wx.heap[X]? = some (.cells #[.slice sa n sc, .int .i64 z1, .int .i64 z2, .int .i64 z3, .slice sb m sd] 29 (0, 0)) ∧ Wri wx sa n (fun j => rs.getD j 0) ∧ WriB wx sb m (fun j => rc.getD j false) ∧ Below w18.heap.size w18 wx)
  case first =>
    have hz : w18.heap.size ≤ w18.heap.size := Nat.le_refl _
    have yC0 : w.heap.size < w18.heap.size := lC
    have BW : Hid (∀ y, Below w18.heap.size w18 y → Below w18.heap.size w18 y) := fun y hy => hy
    have KS : Hid (∀ x, Below (w18.heap.size) w18 x → x.cell? ⟨w.heap.size, 0, none⟩ = some (.slice b0 m0 d0) ∧ x.cell? ⟨w.heap.size, 1, none⟩ = some (.int .i64 yg) ∧ x.cell? ⟨w.heap.size, 2, none⟩ = some (.int .i64 tp) ∧ x.cell? ⟨w.heap.size, 3, none⟩ = some (.int .i64 od) ∧ x.cell? ⟨w.heap.size, 4, none⟩ = some (.slice b4 m4 d4)) := fun x hx => bk5 (XC.out x hx)
    refine wp_region_held_drew (S := fun x => x.cell? ⟨w.heap.size, 0, none⟩ = some (.slice b0 m0 d0) ∧ x.cell? ⟨w.heap.size, 1, none⟩ = some (.int .i64 yg) ∧ x.cell? ⟨w.heap.size, 2, none⟩ = some (.int .i64 tp) ∧ x.cell? ⟨w.heap.size, 3, none⟩ = some (.int .i64 od) ∧ x.cell? ⟨w.heap.size, 4, none⟩ = some (.slice b4 m4 d4)) (by kernel_rfl) ?_ (fun hHeld => ?_)
    · exact KS.out _ (bdrew bR)
    refine tV 0 (v := ?_) rfl (by kernel_rfl) (fun _ _ _ h => h) ?_ (by assumption) ?_
    rotate_left 1
    · (intro x hSx; (try dsimp only at hSx); go_simp; try with_reducible rfl)
    try simp only [Act.put, zgT, zg0, zsT, zs0, zsS]
    refine tV 2 (v := ?_) rfl (by kernel_rfl) (fun _ _ _ h => h) ?_ (by assumption) ?_
    rotate_left 1
    · (intro x hSx; (try dsimp only at hSx); go_simp; try with_reducible rfl)
    try simp only [Act.put, zgT, zg0, zgS, zsT, zs0, zsS]
    refine tV 4 (v := ?_) rfl (by kernel_rfl) (fun _ _ _ h => h) ?_ (by assumption) ?_
    rotate_left 1
    · (intro x hSx; (try dsimp only at hSx); go_simp; try with_reducible rfl)
    try simp only [Act.put, zgT, zg0, zgS, zsT, zs0, zsS]
    refine tV 5 (v := ?_) rfl (by kernel_rfl) (fun _ _ _ h => h) ?_ (by assumption) ?_
    rotate_left 1
    · (intro x hSx; (try dsimp only at hSx); go_simp; try with_reducible rfl)
    try simp only [Act.put, zgT, zg0, zgS, zsT, zs0, zsS]
    refine tV 6 (v := ?_) rfl (by kernel_rfl) (fun _ _ _ h => h) ?_ (by assumption) ?_
    rotate_left 1
    · (intro x hSx; (try dsimp only at hSx); go_simp; try with_reducible rfl)
    try simp only [Act.put, zgT, zg0, zgS, zsT, zs0, zsS]
    refine wpAnyH_ready (rs := [1, 11]) (by kernel_rfl) (by simp) ?_
    refine AllReadyH.cons rfl (fun K hK => ?_) (AllReadyH.cons rfl (fun K hK => ?_) AllReadyH.nil)
    · go_simp
      go_at_call 9
      have BP : Hid (Below (w18.heap.size) w18 w18.drew) := (bdrew bR)
      refine (toLClass _ _ _ L _ (H.out.later (B.out _ BP.out)) SL.out).mono ?_
      rintro e wa ⟨na0, nc0, rfl, hU, hb⟩
      have FL0 : Hid (SlAt clR (fun _ => True) wa na0 l0 L) := hU.mono (fun _ _ _ => trivial)
      clear hU
      have hq : Below (w18.heap.size) w18 wa := BP.out.trans (Below.mono hb (Nat.le_trans hz BP.out.size))
      have hzn : w18.heap.size ≤ wa.heap.size := Nat.le_trans hz hq.size
      replace B := lF B hq hzn
      replace BW := lF BW hq hzn
      replace KS := lF KS hq hzn
      replace XC := lF XC hq hzn
      replace lC := Nat.lt_of_lt_of_le lC hzn
      clear hq BP hz
      have hz : wa.heap.size ≤ wa.heap.size := Nat.le_refl _
      clear hb
      go_wp2_with fail
      have FL : Hid (∀ y, Below (wa.heap.size) wa y → SlAt clR (fun _ => True) y na0 l0 L) := fun y hy => FL0.out.later hy
      clear FL0
      refine hK.out _ _ (KS.out _ bR) (fun hHeld2 => ?_)
      clear hK K
      try simp only [Act.put, zgT, zg0, zgS, zsT, zs0, zsS]
      refine wpAnyH_ready (rs := [3, 11]) (by kernel_rfl) (by simp) ?_
      refine AllReadyH.cons rfl (fun K hK => ?_) (AllReadyH.cons rfl (fun K hK => ?_) AllReadyH.nil)
      · go_simp
        go_at_call 10
        have BP : Hid (Below (wa.heap.size) wa wa) := bR
        refine (toRMem yg tp od _ _ _ _ _ _ ws cd _ (HW.out.later (B.out _ BP.out)) SW.out (HC.out.later (B.out _ BP.out)) SB.out).mono ?_
        rintro e wb ⟨nb0, nd0, nb4, nd4, rfl, hX, hF, hb⟩
        have FW0 : Hid (SlAt intR (fun _ => True) wb nb0 m0 ws) := hX.mono (fun _ _ _ => trivial)
        have FB0 : Hid (SlAt boolR (fun _ => True) wb nb4 m4 cd) := hF.mono (fun _ _ _ => trivial)
        clear hX hF
        have hq : Below (wa.heap.size) wa wb := BP.out.trans (Below.mono hb (Nat.le_trans hz BP.out.size))
        have hzn : wa.heap.size ≤ wb.heap.size := Nat.le_trans hz hq.size
        replace B := lF B hq hzn
        replace BW := lF BW hq hzn
        replace KS := lF KS hq hzn
        replace FL := lF FL hq hzn
        replace XC := lF XC hq hzn
        replace lC := Nat.lt_of_lt_of_le lC hzn
        clear hq BP hz
        have hz : wb.heap.size ≤ wb.heap.size := Nat.le_refl _
        clear hb
        go_wp2_with fail
        have FW : Hid (∀ y, Below (wb.heap.size) wb y → SlAt intR (fun _ => True) y nb0 m0 ws) := fun y hy => FW0.out.later hy
        have FB : Hid (∀ y, Below (wb.heap.size) wb y → SlAt boolR (fun _ => True) y nb4 m4 cd) := fun y hy => FB0.out.later hy
        clear FW0 FB0
        refine hK.out _ _ (KS.out _ bR) (fun hHeld3 => ?_)
        clear hK K
        try simp only [Act.put, zgT, zg0, zgS, zsT, zs0, zsS]
        refine wpAnyH_ready (rs := [7, 11]) (by kernel_rfl) (by simp) ?_
        refine AllReadyH.cons rfl (fun K hK => ?_) (AllReadyH.cons rfl (fun K hK => ?_) AllReadyH.nil)
        · go_simp
          go_at_call 11
          have BP : Hid (Below (wb.heap.size) wb wb) := bR
          refine (mmI _ _ _ _ _ _ yg tp od _ _ _ v k ol ws cd L _ (FL.out _ BP.out).cls (FW.out _ BP.out).ints (FB.out _ BP.out) hyg hwl hdl (by omega) hv hk HR.out HN.out HM2.out).mono ?_
          rintro e wd ⟨sa, sc, sb, sd, rfl, hA, hC, ha, hb0, hab, hb⟩
          have LA : Hid (∀ x, sa = some x → 0 < n → wb.heap.size ≤ x.block ∧ x.block < wd.heap.size) := fun x e h0 => ⟨Nat.le_trans (Nat.le_trans hz BP.out.size) (ha x e h0), hA.lt x e h0⟩
          have LB : Hid (∀ x, sb = some x → 0 < m → wb.heap.size ≤ x.block ∧ x.block < wd.heap.size) := fun x e h0 => ⟨Nat.le_trans (Nat.le_trans hz BP.out.size) (hb0 x e h0), hC.lt x e h0⟩
          have GA0 : Hid (Wri wd sa n (fun j => rs.getD j 0)) := hA
          have GB0 : Hid (WriB wd sb m (fun j => rc.getD j false)) := hC
          clear hA hC ha hb0 hab
          have hq : Below (wb.heap.size) wb wd := BP.out.trans (Below.mono hb (Nat.le_trans hz BP.out.size))
          have hzn : wb.heap.size ≤ wd.heap.size := Nat.le_trans hz hq.size
          replace B := lF B hq hzn
          replace BW := lF BW hq hzn
          replace KS := lF KS hq hzn
          replace FL := lF FL hq hzn
          replace FW := lF FW hq hzn
          replace FB := lF FB hq hzn
          replace XC := lF XC hq hzn
          replace lC := Nat.lt_of_lt_of_le lC hzn
          clear hq BP hz
          have hz : wd.heap.size ≤ wd.heap.size := Nat.le_refl _
          clear hb
          go_wp2_with fail
          have GA : Hid (∀ y, Below (wd.heap.size) wd y → Wri y sa n (fun j => rs.getD j 0)) := fun y hy => GA0.out.later hy
          have GB : Hid (∀ y, Below (wd.heap.size) wd y → WriB y sb m (fun j => rc.getD j false)) := fun y hy => GB0.out.later hy
          clear GA0 GB0
          refine hK.out _ _ (KS.out _ bR) (fun hHeld4 => ?_)
          clear hK K
          try simp only [Act.put, zgT, zg0, zgS, zsT, zs0, zsS]
          refine tV 8 (v := ?_) rfl (by kernel_rfl) (fun _ _ _ h => h) ?_ (by assumption) ?_
          rotate_left 1
          · (intro x hSx; (try dsimp only at hSx); go_simp; try with_reducible rfl)
          try simp only [Act.put, zgT, zg0, zgS, zsT, zs0, zsS]
          refine tV 9 (v := ?_) rfl (by kernel_rfl) (fun _ _ _ h => h) ?_ (by assumption) ?_
          rotate_left 1
          · (intro x hSx; (try dsimp only at hSx); go_simp; try with_reducible rfl)
          try simp only [Act.put, zgT, zg0, zgS, zsT, zs0, zsS]
          refine tV 10 (v := ?_) rfl (by kernel_rfl) (fun _ _ _ h => h) ?_ (by assumption) ?_
          rotate_left 1
          · (intro x hSx; (try dsimp only at hSx); go_simp; try with_reducible rfl)
          try simp only [Act.put, zgT, zg0, zgS, zsT, zs0, zsS]
          refine wpAnyH_ready (rs := [11]) (by kernel_rfl) (by simp) ?_
          refine AllReadyH.cons rfl (fun K hK => ?_) AllReadyH.nil
          have hlow9 : w.heap.size ≤ wd.heap.size := by first | exact (B.out _ bR).size | (have := (B.out wd bR).size; simpa using this)
          have hw2 : w18.heap.size ≤ wd.heap.size := by first | exact Nat.le_refl _ | exact (BW.out _ bR).size | (have := (BW.out wd bR).size; simpa using this)
          go_simp
          have BP : Hid (Below (wd.heap.size) wd (wd.alloc (.cells #[.slice none 0 0, .int .i64 0, .int .i64 0, .int .i64 0, .slice none 0 0] 29))) := (bR.alloc (by first | exact hz | (simp; done) | (simp; omega) | (have := hz; simp at this ⊢; omega)) _)
          replace B := lA B BP
          replace BW := lA BW BP
          replace KS := lA KS BP
          replace FL := lA FL BP
          replace FW := lA FW BP
          replace FB := lA FB BP
          replace GA := lA GA BP
          replace GB := lA GB BP
          replace XC := lA XC BP
          replace lC := lL lC
          have XZ : Hid (∀ y, Below (wd.heap.size + 1) (wd.alloc (.cells #[.slice none 0 0, .int .i64 0, .int .i64 0, .int .i64 0, .slice none 0 0] 29)) y → y.heap[wd.heap.size]? = some (.cells #[.slice none 0 0, .int .i64 0, .int .i64 0, .int .i64 0, .slice none 0 0] 29 (0, 0))) := fun y hy => (hy.block _ (by omega)).trans (boxN _ _ _ _ (by simp))
          have lZ : wd.heap.size < wd.heap.size + 1 := by omega
          replace hz : wd.heap.size + 1 ≤ ((wd.alloc (.cells #[.slice none 0 0, .int .i64 0, .int .i64 0, .int .i64 0, .slice none 0 0] 29))).heap.size := by simp
          clear BP
          refine hK.out _ _ (KS.out _ bR) (fun hHeld5 => ?_)
          clear hK K
          try simp only [Act.put, zgT, zg0, zgS, zsT, zs0, zsS]
          refine wpAnyH_ready (rs := [12]) (by kernel_rfl) (by simp) ?_
          refine AllReadyH.cons rfl (fun K hK => ?_) AllReadyH.nil
          obtain ⟨kZ0, kZ1, kZ2, kZ3, kZ4⟩ := bk5 (XZ.out (wd.alloc (.cells #[.slice none 0 0, .int .i64 0, .int .i64 0, .int .i64 0, .slice none 0 0] 29)) bR)
          obtain ⟨qkZ0, qkZ1, qkZ2, qkZ3, qkZ4⟩ := bq5 (XZ.out (wd.alloc (.cells #[.slice none 0 0, .int .i64 0, .int .i64 0, .int .i64 0, .slice none 0 0] 29)) bR)
          go_simp
          clear kZ0 kZ1 kZ2 kZ3 kZ4 qkZ0 qkZ1 qkZ2 qkZ3 qkZ4
          have hw0 : w.heap.size ≤ wd.heap.size := (by first | omega | (simp; done) | (simp; omega) | (simp at *; omega))
          replace XC := lS XC lC (((((((wd.alloc (.cells #[.slice none 0 0, .int .i64 0, .int .i64 0, .int .i64 0, .slice none 0 0] 29)).setCell ⟨wd.heap.size, 0, none⟩ (.slice sa n sc)).setCell ⟨wd.heap.size, 1, none⟩ (.int .i64 z1)).setCell ⟨wd.heap.size, 2, none⟩ (.int .i64 z2)).setCell ⟨wd.heap.size, 3, none⟩ (.int .i64 z3)).setCell ⟨wd.heap.size, 4, none⟩ (.slice sb m sd))) ((Below.heap_setCell _ _ _ _ (by first | omega | (simp; done) | (simp; omega))).trans ((Below.heap_setCell _ _ _ _ (by first | omega | (simp; done) | (simp; omega))).trans ((Below.heap_setCell _ _ _ _ (by first | omega | (simp; done) | (simp; omega))).trans ((Below.heap_setCell _ _ _ _ (by first | omega | (simp; done) | (simp; omega))).trans ((Below.heap_setCell _ _ _ _ (by first | omega | (simp; done) | (simp; omega))))))))
          replace XZ : Hid (∀ y, Below (wd.heap.size + 1) ((((((wd.alloc (.cells #[.slice none 0 0, .int .i64 0, .int .i64 0, .int .i64 0, .slice none 0 0] 29)).setCell ⟨wd.heap.size, 0, none⟩ (.slice sa n sc)).setCell ⟨wd.heap.size, 1, none⟩ (.int .i64 z1)).setCell ⟨wd.heap.size, 2, none⟩ (.int .i64 z2)).setCell ⟨wd.heap.size, 3, none⟩ (.int .i64 z3)).setCell ⟨wd.heap.size, 4, none⟩ (.slice sb m sd)) y → y.heap[wd.heap.size]? = some (.cells #[.slice sa n sc, .int .i64 z1, .int .i64 z2, .int .i64 z3, .slice sb m sd] 29 (0, 0))) := fun y hy => (hy.block _ (by omega)).trans (boxS (boxS (boxS (boxS (boxS (XZ.out (wd.alloc (.cells #[.slice none 0 0, .int .i64 0, .int .i64 0, .int .i64 0, .slice none 0 0] 29)) bR) 0 _) 1 _) 2 _) 3 _) 4 _)
          replace BW : Hid (∀ y, Below (wd.heap.size + 1) ((((((wd.alloc (.cells #[.slice none 0 0, .int .i64 0, .int .i64 0, .int .i64 0, .slice none 0 0] 29)).setCell ⟨wd.heap.size, 0, none⟩ (.slice sa n sc)).setCell ⟨wd.heap.size, 1, none⟩ (.int .i64 z1)).setCell ⟨wd.heap.size, 2, none⟩ (.int .i64 z2)).setCell ⟨wd.heap.size, 3, none⟩ (.int .i64 z3)).setCell ⟨wd.heap.size, 4, none⟩ (.slice sb m sd)) y → Below w18.heap.size w18 y) := fun y hy => ((((((BW.out (wd.alloc (.cells #[.slice none 0 0, .int .i64 0, .int .i64 0, .int .i64 0, .slice none 0 0] 29)) bR).setCell hw2 _).setCell hw2 _).setCell hw2 _).setCell hw2 _).setCell hw2 _).trans (hy.mono (by have := lZ; omega))
          clear KS
          clear FL
          clear FW
          clear FB
          replace GA : Hid (∀ y, Below (wd.heap.size + 1) ((((((wd.alloc (.cells #[.slice none 0 0, .int .i64 0, .int .i64 0, .int .i64 0, .slice none 0 0] 29)).setCell ⟨wd.heap.size, 0, none⟩ (.slice sa n sc)).setCell ⟨wd.heap.size, 1, none⟩ (.int .i64 z1)).setCell ⟨wd.heap.size, 2, none⟩ (.int .i64 z2)).setCell ⟨wd.heap.size, 3, none⟩ (.int .i64 z3)).setCell ⟨wd.heap.size, 4, none⟩ (.slice sb m sd)) y → Wri y sa n (fun j => rs.getD j 0)) := fun y hy => ((GA.out (wd.alloc (.cells #[.slice none 0 0, .int .i64 0, .int .i64 0, .int .i64 0, .slice none 0 0] 29)) bR).keep (chg5 (wd.alloc (.cells #[.slice none 0 0, .int .i64 0, .int .i64 0, .int .i64 0, .slice none 0 0] 29)) (wd.heap.size) (.slice sa n sc) (.int .i64 z1) (.int .i64 z2) (.int .i64 z3) (.slice sb m sd)) (fun x e h0 hd => by have h8 : x.block = wd.heap.size := hd; have := LA.out x e h0; omega)).later (hy.mono (by first | (simp; done) | (simp; omega)))
          replace GB : Hid (∀ y, Below (wd.heap.size + 1) ((((((wd.alloc (.cells #[.slice none 0 0, .int .i64 0, .int .i64 0, .int .i64 0, .slice none 0 0] 29)).setCell ⟨wd.heap.size, 0, none⟩ (.slice sa n sc)).setCell ⟨wd.heap.size, 1, none⟩ (.int .i64 z1)).setCell ⟨wd.heap.size, 2, none⟩ (.int .i64 z2)).setCell ⟨wd.heap.size, 3, none⟩ (.int .i64 z3)).setCell ⟨wd.heap.size, 4, none⟩ (.slice sb m sd)) y → WriB y sb m (fun j => rc.getD j false)) := fun y hy => ((GB.out (wd.alloc (.cells #[.slice none 0 0, .int .i64 0, .int .i64 0, .int .i64 0, .slice none 0 0] 29)) bR).keep (chg5 (wd.alloc (.cells #[.slice none 0 0, .int .i64 0, .int .i64 0, .int .i64 0, .slice none 0 0] 29)) (wd.heap.size) (.slice sa n sc) (.int .i64 z1) (.int .i64 z2) (.int .i64 z3) (.slice sb m sd)) (fun x e h0 hd => by have h8 : x.block = wd.heap.size := hd; have := LB.out x e h0; omega)).later (hy.mono (by first | (simp; done) | (simp; omega)))
          replace B : Hid (∀ y, Below (wd.heap.size + 1) ((((((wd.alloc (.cells #[.slice none 0 0, .int .i64 0, .int .i64 0, .int .i64 0, .slice none 0 0] 29)).setCell ⟨wd.heap.size, 0, none⟩ (.slice sa n sc)).setCell ⟨wd.heap.size, 1, none⟩ (.int .i64 z1)).setCell ⟨wd.heap.size, 2, none⟩ (.int .i64 z2)).setCell ⟨wd.heap.size, 3, none⟩ (.int .i64 z3)).setCell ⟨wd.heap.size, 4, none⟩ (.slice sb m sd)) y → Below w.heap.size w y) := fun y hy => ((((((B.out (wd.alloc (.cells #[.slice none 0 0, .int .i64 0, .int .i64 0, .int .i64 0, .slice none 0 0] 29)) bR).setCell hw0 _).setCell hw0 _).setCell hw0 _).setCell hw0 _).setCell hw0 _).trans (hy.mono (by first | omega | exact Nat.le_trans (B.out (wd.alloc (.cells #[.slice none 0 0, .int .i64 0, .int .i64 0, .int .i64 0, .slice none 0 0] 29)) bR).size hz | (have := (B.out (wd.alloc (.cells #[.slice none 0 0, .int .i64 0, .int .i64 0, .int .i64 0, .slice none 0 0] 29)) bR).size; omega)))
          replace hz : wd.heap.size + 1 ≤ ((((((wd.alloc (.cells #[.slice none 0 0, .int .i64 0, .int .i64 0, .int .i64 0, .slice none 0 0] 29)).setCell ⟨wd.heap.size, 0, none⟩ (.slice sa n sc)).setCell ⟨wd.heap.size, 1, none⟩ (.int .i64 z1)).setCell ⟨wd.heap.size, 2, none⟩ (.int .i64 z2)).setCell ⟨wd.heap.size, 3, none⟩ (.int .i64 z3)).setCell ⟨wd.heap.size, 4, none⟩ (.slice sb m sd)).heap.size := by first | (simp; done) | simpa using hz
          clear hw0
          have efin : ((((((wd.alloc (.cells #[.slice none 0 0, .int .i64 0, .int .i64 0, .int .i64 0, .slice none 0 0] 29)).setCell ⟨wd.heap.size, 0, none⟩ (.slice sa n sc)).setCell ⟨wd.heap.size, 1, none⟩ (.int .i64 z1)).setCell ⟨wd.heap.size, 2, none⟩ (.int .i64 z2)).setCell ⟨wd.heap.size, 3, none⟩ (.int .i64 z3)).setCell ⟨wd.heap.size, 4, none⟩ (.slice sb m sd)) = (wd.alloc (.cells #[.slice sa n sc, .int .i64 z1, .int .i64 z2, .int .i64 z3, .slice sb m sd] 29)) := by
            rw [World.setCell_alloc_at _ _ _ _ _ (by simp), World.setCell_alloc_at _ _ _ _ _ (by simp), World.setCell_alloc_at _ _ _ _ _ (by simp), World.setCell_alloc_at _ _ _ _ _ (by simp), World.setCell_alloc_at _ _ _ _ _ (by simp)]
            rfl
          rw [efin] at B BW GA GB XC XZ hz
          clear efin
          have KS : Hid (∀ x, Below (wd.heap.size + 1) (wd.alloc (.cells #[.slice sa n sc, .int .i64 z1, .int .i64 z2, .int .i64 z3, .slice sb m sd] 29)) x → x.cell? ⟨w.heap.size, 0, none⟩ = some (.slice b0 m0 d0) ∧ x.cell? ⟨w.heap.size, 1, none⟩ = some (.int .i64 yg) ∧ x.cell? ⟨w.heap.size, 2, none⟩ = some (.int .i64 tp) ∧ x.cell? ⟨w.heap.size, 3, none⟩ = some (.int .i64 od) ∧ x.cell? ⟨w.heap.size, 4, none⟩ = some (.slice b4 m4 d4)) := fun x hx => bk5 (XC.out x hx)
          refine hK.out _ _ (KS.out _ bR) (fun hHeld6 => ?_)
          clear hK K
          try simp only [Act.put, zgT, zg0, zgS, zsT, zs0, zsS]
          refine tV 13 (v := ?_) rfl (by kernel_rfl) (fun _ _ _ h => h) ?_ (by assumption) ?_
          rotate_left 1
          · (intro x hSx; (try dsimp only at hSx); go_simp; try with_reducible rfl)
          try simp only [Act.put, zgT, zg0, zgS, zsT, zs0, zsS]
          refine wpAnyH_done (by kernel_rfl) ?_ _
          clear hHeld hHeld2 hHeld3 hHeld4 hHeld5 hHeld6
          clear KS
          go_wp2_with fail
          go_meet
          exact ⟨wd.heap.size, sa, sc, sb, sd, rfl, rfl, hw2, Nat.lt_of_lt_of_le lZ hz, XZ.out _ bR, GA.out _ bR, GB.out _ bR, BW.out _ bR⟩
        · have hlow9 : w.heap.size ≤ wb.heap.size := by first | exact (B.out _ bR).size | (have := (B.out wb bR).size; simpa using this)
          have hw2 : w18.heap.size ≤ wb.heap.size := by first | exact Nat.le_refl _ | exact (BW.out _ bR).size | (have := (BW.out wb bR).size; simpa using this)
          go_simp
          have BP : Hid (Below (wb.heap.size) wb (wb.alloc (.cells #[.slice none 0 0, .int .i64 0, .int .i64 0, .int .i64 0, .slice none 0 0] 29))) := (bR.alloc (by first | exact hz | (simp; done) | (simp; omega) | (have := hz; simp at this ⊢; omega)) _)
          replace B := lA B BP
          replace BW := lA BW BP
          replace KS := lA KS BP
          replace FL := lA FL BP
          replace FW := lA FW BP
          replace FB := lA FB BP
          replace XC := lA XC BP
          replace lC := lL lC
          have XZ : Hid (∀ y, Below (wb.heap.size + 1) (wb.alloc (.cells #[.slice none 0 0, .int .i64 0, .int .i64 0, .int .i64 0, .slice none 0 0] 29)) y → y.heap[wb.heap.size]? = some (.cells #[.slice none 0 0, .int .i64 0, .int .i64 0, .int .i64 0, .slice none 0 0] 29 (0, 0))) := fun y hy => (hy.block _ (by omega)).trans (boxN _ _ _ _ (by simp))
          have lZ : wb.heap.size < wb.heap.size + 1 := by omega
          replace hz : wb.heap.size + 1 ≤ ((wb.alloc (.cells #[.slice none 0 0, .int .i64 0, .int .i64 0, .int .i64 0, .slice none 0 0] 29))).heap.size := by simp
          clear BP
          refine hK.out _ _ (KS.out _ bR) (fun hHeld4 => ?_)
          clear hK K
          try simp only [Act.put, zgT, zg0, zgS, zsT, zs0, zsS]
          refine wpAnyH_ready (rs := [7]) (by kernel_rfl) (by simp) ?_
          refine AllReadyH.cons rfl (fun K hK => ?_) AllReadyH.nil
          have lZ0 : wb.heap.size < wb.heap.size + 1 := lZ
          go_simp
          go_at_call 11
          have BP : Hid (Below (wb.heap.size + 1) (wb.alloc (.cells #[.slice none 0 0, .int .i64 0, .int .i64 0, .int .i64 0, .slice none 0 0] 29)) (wb.alloc (.cells #[.slice none 0 0, .int .i64 0, .int .i64 0, .int .i64 0, .slice none 0 0] 29))) := bR
          refine (mmI _ _ _ _ _ _ yg tp od _ _ _ v k ol ws cd L _ (FL.out _ BP.out).cls (FW.out _ BP.out).ints (FB.out _ BP.out) hyg hwl hdl (by omega) hv hk HR.out HN.out HM2.out).mono ?_
          rintro e wd ⟨sa, sc, sb, sd, rfl, hA, hC, ha, hb0, hab, hb⟩
          have LA : Hid (∀ x, sa = some x → 0 < n → wb.heap.size + 1 ≤ x.block ∧ x.block < wd.heap.size) := fun x e h0 => ⟨Nat.le_trans (Nat.le_trans hz BP.out.size) (ha x e h0), hA.lt x e h0⟩
          have LB : Hid (∀ x, sb = some x → 0 < m → wb.heap.size + 1 ≤ x.block ∧ x.block < wd.heap.size) := fun x e h0 => ⟨Nat.le_trans (Nat.le_trans hz BP.out.size) (hb0 x e h0), hC.lt x e h0⟩
          have GA0 : Hid (Wri wd sa n (fun j => rs.getD j 0)) := hA
          have GB0 : Hid (WriB wd sb m (fun j => rc.getD j false)) := hC
          clear hA hC ha hb0 hab
          have hq : Below (wb.heap.size + 1) (wb.alloc (.cells #[.slice none 0 0, .int .i64 0, .int .i64 0, .int .i64 0, .slice none 0 0] 29)) wd := BP.out.trans (Below.mono hb (Nat.le_trans hz BP.out.size))
          have hzn : wb.heap.size + 1 ≤ wd.heap.size := Nat.le_trans hz hq.size
          replace B := lF B hq hzn
          replace BW := lF BW hq hzn
          replace KS := lF KS hq hzn
          replace FL := lF FL hq hzn
          replace FW := lF FW hq hzn
          replace FB := lF FB hq hzn
          replace XC := lF XC hq hzn
          replace lC := Nat.lt_of_lt_of_le lC hzn
          replace XZ := lF XZ hq hzn
          replace lZ := Nat.lt_of_lt_of_le lZ hzn
          clear hq BP hz
          have hz : wd.heap.size ≤ wd.heap.size := Nat.le_refl _
          clear hb
          go_wp2_with fail
          have GA : Hid (∀ y, Below (wd.heap.size) wd y → Wri y sa n (fun j => rs.getD j 0)) := fun y hy => GA0.out.later hy
          have GB : Hid (∀ y, Below (wd.heap.size) wd y → WriB y sb m (fun j => rc.getD j false)) := fun y hy => GB0.out.later hy
          clear GA0 GB0
          refine hK.out _ _ (KS.out _ bR) (fun hHeld5 => ?_)
          clear hK K
          try simp only [Act.put, zgT, zg0, zgS, zsT, zs0, zsS]
          refine tV 8 (v := ?_) rfl (by kernel_rfl) (fun _ _ _ h => h) ?_ (by assumption) ?_
          rotate_left 1
          · (intro x hSx; (try dsimp only at hSx); go_simp; try with_reducible rfl)
          try simp only [Act.put, zgT, zg0, zgS, zsT, zs0, zsS]
          refine tV 9 (v := ?_) rfl (by kernel_rfl) (fun _ _ _ h => h) ?_ (by assumption) ?_
          rotate_left 1
          · (intro x hSx; (try dsimp only at hSx); go_simp; try with_reducible rfl)
          try simp only [Act.put, zgT, zg0, zgS, zsT, zs0, zsS]
          refine tV 10 (v := ?_) rfl (by kernel_rfl) (fun _ _ _ h => h) ?_ (by assumption) ?_
          rotate_left 1
          · (intro x hSx; (try dsimp only at hSx); go_simp; try with_reducible rfl)
          try simp only [Act.put, zgT, zg0, zgS, zsT, zs0, zsS]
          refine wpAnyH_ready (rs := [12]) (by kernel_rfl) (by simp) ?_
          refine AllReadyH.cons rfl (fun K hK => ?_) AllReadyH.nil
          obtain ⟨kZ0, kZ1, kZ2, kZ3, kZ4⟩ := bk5 (XZ.out wd bR)
          obtain ⟨qkZ0, qkZ1, qkZ2, qkZ3, qkZ4⟩ := bq5 (XZ.out wd bR)
          go_simp
          clear kZ0 kZ1 kZ2 kZ3 kZ4 qkZ0 qkZ1 qkZ2 qkZ3 qkZ4
          generalize hW : (((((wd.setCell ⟨wb.heap.size, 0, none⟩ (.slice sa n sc)).setCell ⟨wb.heap.size, 1, none⟩ (.int .i64 z1)).setCell ⟨wb.heap.size, 2, none⟩ (.int .i64 z2)).setCell ⟨wb.heap.size, 3, none⟩ (.int .i64 z3)).setCell ⟨wb.heap.size, 4, none⟩ (.slice sb m sd)) = wB1
          have hkB : ∀ a, a ≠ wb.heap.size → wB1.heap[a]? = wd.heap[a]? := by subst hW; exact fun a h => (Below.heap_setCell _ _ _ _ h).trans ((Below.heap_setCell _ _ _ _ h).trans ((Below.heap_setCell _ _ _ _ h).trans ((Below.heap_setCell _ _ _ _ h).trans ((Below.heap_setCell _ _ _ _ h)))))
          have hw0 : w.heap.size ≤ wb.heap.size := (by first | omega | (simp; done) | (simp; omega) | (simp at *; omega))
          replace XC := lS XC lC wB1 (hkB _ (by first | omega | (simp; done) | (simp; omega)))
          replace XZ : Hid (∀ y, Below (wd.heap.size) wB1 y → y.heap[wb.heap.size]? = some (.cells #[.slice sa n sc, .int .i64 z1, .int .i64 z2, .int .i64 z3, .slice sb m sd] 29 (0, 0))) := fun y hy => by subst hW; exact (hy.block _ (by omega)).trans (boxS (boxS (boxS (boxS (boxS (XZ.out wd bR) 0 _) 1 _) 2 _) 3 _) 4 _)
          replace BW : Hid (∀ y, Below (wd.heap.size) wB1 y → Below w18.heap.size w18 y) := fun y hy => by subst hW; exact ((((((BW.out wd bR).setCell hw2 _).setCell hw2 _).setCell hw2 _).setCell hw2 _).setCell hw2 _).trans (hy.mono (by have := lZ; omega))
          clear KS
          clear FL
          clear FW
          clear FB
          replace GA : Hid (∀ y, Below (wd.heap.size) wB1 y → Wri y sa n (fun j => rs.getD j 0)) := fun y hy => by subst hW; exact ((GA.out wd bR).keep (chg5 wd (wb.heap.size) (.slice sa n sc) (.int .i64 z1) (.int .i64 z2) (.int .i64 z3) (.slice sb m sd)) (fun x e h0 hd => by have h8 : x.block = wb.heap.size := hd; have := LA.out x e h0; omega)).later (hy.mono (by first | (simp; done) | (simp; omega)))
          replace GB : Hid (∀ y, Below (wd.heap.size) wB1 y → WriB y sb m (fun j => rc.getD j false)) := fun y hy => by subst hW; exact ((GB.out wd bR).keep (chg5 wd (wb.heap.size) (.slice sa n sc) (.int .i64 z1) (.int .i64 z2) (.int .i64 z3) (.slice sb m sd)) (fun x e h0 hd => by have h8 : x.block = wb.heap.size := hd; have := LB.out x e h0; omega)).later (hy.mono (by first | (simp; done) | (simp; omega)))
          replace B : Hid (∀ y, Below (wd.heap.size) wB1 y → Below w.heap.size w y) := fun y hy => by subst hW; exact ((((((B.out wd bR).setCell hw0 _).setCell hw0 _).setCell hw0 _).setCell hw0 _).setCell hw0 _).trans (hy.mono (by first | omega | exact Nat.le_trans (B.out wd bR).size hz | (have := (B.out wd bR).size; omega)))
          replace hz : wd.heap.size ≤ wB1.heap.size := by subst hW; first | (simp; done) | simpa using hz
          clear hw0 hW hkB
          have KS : Hid (∀ x, Below (wd.heap.size) wB1 x → x.cell? ⟨w.heap.size, 0, none⟩ = some (.slice b0 m0 d0) ∧ x.cell? ⟨w.heap.size, 1, none⟩ = some (.int .i64 yg) ∧ x.cell? ⟨w.heap.size, 2, none⟩ = some (.int .i64 tp) ∧ x.cell? ⟨w.heap.size, 3, none⟩ = some (.int .i64 od) ∧ x.cell? ⟨w.heap.size, 4, none⟩ = some (.slice b4 m4 d4)) := fun x hx => bk5 (XC.out x hx)
          refine hK.out _ _ (KS.out _ bR) (fun hHeld6 => ?_)
          clear hK K
          try simp only [Act.put, zgT, zg0, zgS, zsT, zs0, zsS]
          refine tV 13 (v := ?_) rfl (by kernel_rfl) (fun _ _ _ h => h) ?_ (by assumption) ?_
          rotate_left 1
          · (intro x hSx; (try dsimp only at hSx); go_simp; try with_reducible rfl)
          try simp only [Act.put, zgT, zg0, zgS, zsT, zs0, zsS]
          refine wpAnyH_done (by kernel_rfl) ?_ _
          clear hHeld hHeld2 hHeld3 hHeld4 hHeld5 hHeld6
          clear KS
          go_wp2_with fail
          go_meet
          exact ⟨wb.heap.size, sa, sc, sb, sd, rfl, rfl, hw2, Nat.lt_of_lt_of_le lZ hz, XZ.out _ bR, GA.out _ bR, GB.out _ bR, BW.out _ bR⟩
      · have hlow9 : w.heap.size ≤ wa.heap.size := by first | exact (B.out _ bR).size | (have := (B.out wa bR).size; simpa using this)
        have hw2 : w18.heap.size ≤ wa.heap.size := by first | exact Nat.le_refl _ | exact (BW.out _ bR).size | (have := (BW.out wa bR).size; simpa using this)
        go_simp
        have BP : Hid (Below (wa.heap.size) wa (wa.alloc (.cells #[.slice none 0 0, .int .i64 0, .int .i64 0, .int .i64 0, .slice none 0 0] 29))) := (bR.alloc (by first | exact hz | (simp; done) | (simp; omega) | (have := hz; simp at this ⊢; omega)) _)
        replace B := lA B BP
        replace BW := lA BW BP
        replace KS := lA KS BP
        replace FL := lA FL BP
        replace XC := lA XC BP
        replace lC := lL lC
        have XZ : Hid (∀ y, Below (wa.heap.size + 1) (wa.alloc (.cells #[.slice none 0 0, .int .i64 0, .int .i64 0, .int .i64 0, .slice none 0 0] 29)) y → y.heap[wa.heap.size]? = some (.cells #[.slice none 0 0, .int .i64 0, .int .i64 0, .int .i64 0, .slice none 0 0] 29 (0, 0))) := fun y hy => (hy.block _ (by omega)).trans (boxN _ _ _ _ (by simp))
        have lZ : wa.heap.size < wa.heap.size + 1 := by omega
        replace hz : wa.heap.size + 1 ≤ ((wa.alloc (.cells #[.slice none 0 0, .int .i64 0, .int .i64 0, .int .i64 0, .slice none 0 0] 29))).heap.size := by simp
        clear BP
        refine hK.out _ _ (KS.out _ bR) (fun hHeld3 => ?_)
        clear hK K
        try simp only [Act.put, zgT, zg0, zgS, zsT, zs0, zsS]
        refine wpAnyH_ready (rs := [3]) (by kernel_rfl) (by simp) ?_
        refine AllReadyH.cons rfl (fun K hK => ?_) AllReadyH.nil
        go_simp
        go_at_call 10
        have BP : Hid (Below (wa.heap.size + 1) (wa.alloc (.cells #[.slice none 0 0, .int .i64 0, .int .i64 0, .int .i64 0, .slice none 0 0] 29)) (wa.alloc (.cells #[.slice none 0 0, .int .i64 0, .int .i64 0, .int .i64 0, .slice none 0 0] 29))) := bR
        refine (toRMem yg tp od _ _ _ _ _ _ ws cd _ (HW.out.later (B.out _ BP.out)) SW.out (HC.out.later (B.out _ BP.out)) SB.out).mono ?_
        rintro e wb ⟨nb0, nd0, nb4, nd4, rfl, hX, hF, hb⟩
        have FW0 : Hid (SlAt intR (fun _ => True) wb nb0 m0 ws) := hX.mono (fun _ _ _ => trivial)
        have FB0 : Hid (SlAt boolR (fun _ => True) wb nb4 m4 cd) := hF.mono (fun _ _ _ => trivial)
        clear hX hF
        have hq : Below (wa.heap.size + 1) (wa.alloc (.cells #[.slice none 0 0, .int .i64 0, .int .i64 0, .int .i64 0, .slice none 0 0] 29)) wb := BP.out.trans (Below.mono hb (Nat.le_trans hz BP.out.size))
        have hzn : wa.heap.size + 1 ≤ wb.heap.size := Nat.le_trans hz hq.size
        replace B := lF B hq hzn
        replace BW := lF BW hq hzn
        replace KS := lF KS hq hzn
        replace FL := lF FL hq hzn
        replace XC := lF XC hq hzn
        replace lC := Nat.lt_of_lt_of_le lC hzn
        replace XZ := lF XZ hq hzn
        replace lZ := Nat.lt_of_lt_of_le lZ hzn
        clear hq BP hz
        have hz : wb.heap.size ≤ wb.heap.size := Nat.le_refl _
        clear hb
        go_wp2_with fail
        have FW : Hid (∀ y, Below (wb.heap.size) wb y → SlAt intR (fun _ => True) y nb0 m0 ws) := fun y hy => FW0.out.later hy
        have FB : Hid (∀ y, Below (wb.heap.size) wb y → SlAt boolR (fun _ => True) y nb4 m4 cd) := fun y hy => FB0.out.later hy
        clear FW0 FB0
        refine hK.out _ _ (KS.out _ bR) (fun hHeld4 => ?_)
        clear hK K
        try simp only [Act.put, zgT, zg0, zgS, zsT, zs0, zsS]
        refine wpAnyH_ready (rs := [7]) (by kernel_rfl) (by simp) ?_
        refine AllReadyH.cons rfl (fun K hK => ?_) AllReadyH.nil
        have lZ0 : wa.heap.size < wb.heap.size := lZ
        go_simp
        go_at_call 11
        have BP : Hid (Below (wb.heap.size) wb wb) := bR
        refine (mmI _ _ _ _ _ _ yg tp od _ _ _ v k ol ws cd L _ (FL.out _ BP.out).cls (FW.out _ BP.out).ints (FB.out _ BP.out) hyg hwl hdl (by omega) hv hk HR.out HN.out HM2.out).mono ?_
        rintro e wd ⟨sa, sc, sb, sd, rfl, hA, hC, ha, hb0, hab, hb⟩
        have LA : Hid (∀ x, sa = some x → 0 < n → wb.heap.size ≤ x.block ∧ x.block < wd.heap.size) := fun x e h0 => ⟨Nat.le_trans (Nat.le_trans hz BP.out.size) (ha x e h0), hA.lt x e h0⟩
        have LB : Hid (∀ x, sb = some x → 0 < m → wb.heap.size ≤ x.block ∧ x.block < wd.heap.size) := fun x e h0 => ⟨Nat.le_trans (Nat.le_trans hz BP.out.size) (hb0 x e h0), hC.lt x e h0⟩
        have GA0 : Hid (Wri wd sa n (fun j => rs.getD j 0)) := hA
        have GB0 : Hid (WriB wd sb m (fun j => rc.getD j false)) := hC
        clear hA hC ha hb0 hab
        have hq : Below (wb.heap.size) wb wd := BP.out.trans (Below.mono hb (Nat.le_trans hz BP.out.size))
        have hzn : wb.heap.size ≤ wd.heap.size := Nat.le_trans hz hq.size
        replace B := lF B hq hzn
        replace BW := lF BW hq hzn
        replace KS := lF KS hq hzn
        replace FL := lF FL hq hzn
        replace FW := lF FW hq hzn
        replace FB := lF FB hq hzn
        replace XC := lF XC hq hzn
        replace lC := Nat.lt_of_lt_of_le lC hzn
        replace XZ := lF XZ hq hzn
        replace lZ := Nat.lt_of_lt_of_le lZ hzn
        clear hq BP hz
        have hz : wd.heap.size ≤ wd.heap.size := Nat.le_refl _
        clear hb
        go_wp2_with fail
        have GA : Hid (∀ y, Below (wd.heap.size) wd y → Wri y sa n (fun j => rs.getD j 0)) := fun y hy => GA0.out.later hy
        have GB : Hid (∀ y, Below (wd.heap.size) wd y → WriB y sb m (fun j => rc.getD j false)) := fun y hy => GB0.out.later hy
        clear GA0 GB0
        refine hK.out _ _ (KS.out _ bR) (fun hHeld5 => ?_)
        clear hK K
        try simp only [Act.put, zgT, zg0, zgS, zsT, zs0, zsS]
        refine tV 8 (v := ?_) rfl (by kernel_rfl) (fun _ _ _ h => h) ?_ (by assumption) ?_
        rotate_left 1
        · (intro x hSx; (try dsimp only at hSx); go_simp; try with_reducible rfl)
        try simp only [Act.put, zgT, zg0, zgS, zsT, zs0, zsS]
        refine tV 9 (v := ?_) rfl (by kernel_rfl) (fun _ _ _ h => h) ?_ (by assumption) ?_
        rotate_left 1
        · (intro x hSx; (try dsimp only at hSx); go_simp; try with_reducible rfl)
        try simp only [Act.put, zgT, zg0, zgS, zsT, zs0, zsS]
        refine tV 10 (v := ?_) rfl (by kernel_rfl) (fun _ _ _ h => h) ?_ (by assumption) ?_
        rotate_left 1
        · (intro x hSx; (try dsimp only at hSx); go_simp; try with_reducible rfl)
        try simp only [Act.put, zgT, zg0, zgS, zsT, zs0, zsS]
        refine wpAnyH_ready (rs := [12]) (by kernel_rfl) (by simp) ?_
        refine AllReadyH.cons rfl (fun K hK => ?_) AllReadyH.nil
        obtain ⟨kZ0, kZ1, kZ2, kZ3, kZ4⟩ := bk5 (XZ.out wd bR)
        obtain ⟨qkZ0, qkZ1, qkZ2, qkZ3, qkZ4⟩ := bq5 (XZ.out wd bR)
        go_simp
        clear kZ0 kZ1 kZ2 kZ3 kZ4 qkZ0 qkZ1 qkZ2 qkZ3 qkZ4
        generalize hW : (((((wd.setCell ⟨wa.heap.size, 0, none⟩ (.slice sa n sc)).setCell ⟨wa.heap.size, 1, none⟩ (.int .i64 z1)).setCell ⟨wa.heap.size, 2, none⟩ (.int .i64 z2)).setCell ⟨wa.heap.size, 3, none⟩ (.int .i64 z3)).setCell ⟨wa.heap.size, 4, none⟩ (.slice sb m sd)) = wB1
        have hkB : ∀ a, a ≠ wa.heap.size → wB1.heap[a]? = wd.heap[a]? := by subst hW; exact fun a h => (Below.heap_setCell _ _ _ _ h).trans ((Below.heap_setCell _ _ _ _ h).trans ((Below.heap_setCell _ _ _ _ h).trans ((Below.heap_setCell _ _ _ _ h).trans ((Below.heap_setCell _ _ _ _ h)))))
        have hw0 : w.heap.size ≤ wa.heap.size := (by first | omega | (simp; done) | (simp; omega) | (simp at *; omega))
        replace XC := lS XC lC wB1 (hkB _ (by first | omega | (simp; done) | (simp; omega)))
        replace XZ : Hid (∀ y, Below (wd.heap.size) wB1 y → y.heap[wa.heap.size]? = some (.cells #[.slice sa n sc, .int .i64 z1, .int .i64 z2, .int .i64 z3, .slice sb m sd] 29 (0, 0))) := fun y hy => by subst hW; exact (hy.block _ (by omega)).trans (boxS (boxS (boxS (boxS (boxS (XZ.out wd bR) 0 _) 1 _) 2 _) 3 _) 4 _)
        replace BW : Hid (∀ y, Below (wd.heap.size) wB1 y → Below w18.heap.size w18 y) := fun y hy => by subst hW; exact ((((((BW.out wd bR).setCell hw2 _).setCell hw2 _).setCell hw2 _).setCell hw2 _).setCell hw2 _).trans (hy.mono (by have := lZ; omega))
        clear KS
        clear FL
        clear FW
        clear FB
        replace GA : Hid (∀ y, Below (wd.heap.size) wB1 y → Wri y sa n (fun j => rs.getD j 0)) := fun y hy => by subst hW; exact ((GA.out wd bR).keep (chg5 wd (wa.heap.size) (.slice sa n sc) (.int .i64 z1) (.int .i64 z2) (.int .i64 z3) (.slice sb m sd)) (fun x e h0 hd => by have h8 : x.block = wa.heap.size := hd; have := LA.out x e h0; omega)).later (hy.mono (by first | (simp; done) | (simp; omega)))
        replace GB : Hid (∀ y, Below (wd.heap.size) wB1 y → WriB y sb m (fun j => rc.getD j false)) := fun y hy => by subst hW; exact ((GB.out wd bR).keep (chg5 wd (wa.heap.size) (.slice sa n sc) (.int .i64 z1) (.int .i64 z2) (.int .i64 z3) (.slice sb m sd)) (fun x e h0 hd => by have h8 : x.block = wa.heap.size := hd; have := LB.out x e h0; omega)).later (hy.mono (by first | (simp; done) | (simp; omega)))
        replace B : Hid (∀ y, Below (wd.heap.size) wB1 y → Below w.heap.size w y) := fun y hy => by subst hW; exact ((((((B.out wd bR).setCell hw0 _).setCell hw0 _).setCell hw0 _).setCell hw0 _).setCell hw0 _).trans (hy.mono (by first | omega | exact Nat.le_trans (B.out wd bR).size hz | (have := (B.out wd bR).size; omega)))
        replace hz : wd.heap.size ≤ wB1.heap.size := by subst hW; first | (simp; done) | simpa using hz
        clear hw0 hW hkB
        have KS : Hid (∀ x, Below (wd.heap.size) wB1 x → x.cell? ⟨w.heap.size, 0, none⟩ = some (.slice b0 m0 d0) ∧ x.cell? ⟨w.heap.size, 1, none⟩ = some (.int .i64 yg) ∧ x.cell? ⟨w.heap.size, 2, none⟩ = some (.int .i64 tp) ∧ x.cell? ⟨w.heap.size, 3, none⟩ = some (.int .i64 od) ∧ x.cell? ⟨w.heap.size, 4, none⟩ = some (.slice b4 m4 d4)) := fun x hx => bk5 (XC.out x hx)
        refine hK.out _ _ (KS.out _ bR) (fun hHeld6 => ?_)
        clear hK K
        try simp only [Act.put, zgT, zg0, zgS, zsT, zs0, zsS]
        refine tV 13 (v := ?_) rfl (by kernel_rfl) (fun _ _ _ h => h) ?_ (by assumption) ?_
        rotate_left 1
        · (intro x hSx; (try dsimp only at hSx); go_simp; try with_reducible rfl)
        try simp only [Act.put, zgT, zg0, zgS, zsT, zs0, zsS]
        refine wpAnyH_done (by kernel_rfl) ?_ _
        clear hHeld hHeld2 hHeld3 hHeld4 hHeld5 hHeld6
        clear KS
        go_wp2_with fail
        go_meet
        exact ⟨wa.heap.size, sa, sc, sb, sd, rfl, rfl, hw2, Nat.lt_of_lt_of_le lZ hz, XZ.out _ bR, GA.out _ bR, GB.out _ bR, BW.out _ bR⟩
    · have hlow9 : w.heap.size ≤ w18.heap.size := by first | exact (B.out _ bR).size | (have := (B.out w18 bR).size; simpa using this)
      have hw2 : w18.heap.size ≤ w18.heap.size := by first | exact Nat.le_refl _ | exact (BW.out _ bR).size | (have := (BW.out w18 bR).size; simpa using this)
      go_simp
      have BP : Hid (Below (w18.heap.size) w18 (w18.drew.alloc (.cells #[.slice none 0 0, .int .i64 0, .int .i64 0, .int .i64 0, .slice none 0 0] 29))) := ((bdrew bR).alloc (by first | exact hz | (simp; done) | (simp; omega) | (have := hz; simp at this ⊢; omega)) _)
      replace B := lA B BP
      replace BW := lA BW BP
      replace KS := lA KS BP
      replace XC := lA XC BP
      replace lC := lL lC
      have XZ : Hid (∀ y, Below (w18.heap.size + 1) (w18.drew.alloc (.cells #[.slice none 0 0, .int .i64 0, .int .i64 0, .int .i64 0, .slice none 0 0] 29)) y → y.heap[w18.heap.size]? = some (.cells #[.slice none 0 0, .int .i64 0, .int .i64 0, .int .i64 0, .slice none 0 0] 29 (0, 0))) := fun y hy => (hy.block _ (by omega)).trans (boxN _ _ _ _ (by simp))
      have lZ : w18.heap.size < w18.heap.size + 1 := by omega
      replace hz : w18.heap.size + 1 ≤ ((w18.drew.alloc (.cells #[.slice none 0 0, .int .i64 0, .int .i64 0, .int .i64 0, .slice none 0 0] 29))).heap.size := by simp
      clear BP
      refine hK.out _ _ (KS.out _ bR) (fun hHeld2 => ?_)
      clear hK K
      try simp only [Act.put, zgT, zg0, zgS, zsT, zs0, zsS]
      refine wpAnyH_ready (rs := [1]) (by kernel_rfl) (by simp) ?_
      refine AllReadyH.cons rfl (fun K hK => ?_) AllReadyH.nil
      go_simp
      go_at_call 9
      have BP : Hid (Below (w18.heap.size + 1) (w18.drew.alloc (.cells #[.slice none 0 0, .int .i64 0, .int .i64 0, .int .i64 0, .slice none 0 0] 29)) (w18.drew.alloc (.cells #[.slice none 0 0, .int .i64 0, .int .i64 0, .int .i64 0, .slice none 0 0] 29))) := bR
      refine (toLClass _ _ _ L _ (H.out.later (B.out _ BP.out)) SL.out).mono ?_
      rintro e wa ⟨na0, nc0, rfl, hU, hb⟩
      have FL0 : Hid (SlAt clR (fun _ => True) wa na0 l0 L) := hU.mono (fun _ _ _ => trivial)
      clear hU
      have hq : Below (w18.heap.size + 1) (w18.drew.alloc (.cells #[.slice none 0 0, .int .i64 0, .int .i64 0, .int .i64 0, .slice none 0 0] 29)) wa := BP.out.trans (Below.mono hb (Nat.le_trans hz BP.out.size))
      have hzn : w18.heap.size + 1 ≤ wa.heap.size := Nat.le_trans hz hq.size
      replace B := lF B hq hzn
      replace BW := lF BW hq hzn
      replace KS := lF KS hq hzn
      replace XC := lF XC hq hzn
      replace lC := Nat.lt_of_lt_of_le lC hzn
      replace XZ := lF XZ hq hzn
      replace lZ := Nat.lt_of_lt_of_le lZ hzn
      clear hq BP hz
      have hz : wa.heap.size ≤ wa.heap.size := Nat.le_refl _
      clear hb
      go_wp2_with fail
      have FL : Hid (∀ y, Below (wa.heap.size) wa y → SlAt clR (fun _ => True) y na0 l0 L) := fun y hy => FL0.out.later hy
      clear FL0
      refine hK.out _ _ (KS.out _ bR) (fun hHeld3 => ?_)
      clear hK K
      try simp only [Act.put, zgT, zg0, zgS, zsT, zs0, zsS]
      refine wpAnyH_ready (rs := [3]) (by kernel_rfl) (by simp) ?_
      refine AllReadyH.cons rfl (fun K hK => ?_) AllReadyH.nil
      go_simp
      go_at_call 10
      have BP : Hid (Below (wa.heap.size) wa wa) := bR
      refine (toRMem yg tp od _ _ _ _ _ _ ws cd _ (HW.out.later (B.out _ BP.out)) SW.out (HC.out.later (B.out _ BP.out)) SB.out).mono ?_
      rintro e wb ⟨nb0, nd0, nb4, nd4, rfl, hX, hF, hb⟩
      have FW0 : Hid (SlAt intR (fun _ => True) wb nb0 m0 ws) := hX.mono (fun _ _ _ => trivial)
      have FB0 : Hid (SlAt boolR (fun _ => True) wb nb4 m4 cd) := hF.mono (fun _ _ _ => trivial)
      clear hX hF
      have hq : Below (wa.heap.size) wa wb := BP.out.trans (Below.mono hb (Nat.le_trans hz BP.out.size))
      have hzn : wa.heap.size ≤ wb.heap.size := Nat.le_trans hz hq.size
      replace B := lF B hq hzn
      replace BW := lF BW hq hzn
      replace KS := lF KS hq hzn
      replace FL := lF FL hq hzn
      replace XC := lF XC hq hzn
      replace lC := Nat.lt_of_lt_of_le lC hzn
      replace XZ := lF XZ hq hzn
      replace lZ := Nat.lt_of_lt_of_le lZ hzn
      clear hq BP hz
      have hz : wb.heap.size ≤ wb.heap.size := Nat.le_refl _
      clear hb
      go_wp2_with fail
      have FW : Hid (∀ y, Below (wb.heap.size) wb y → SlAt intR (fun _ => True) y nb0 m0 ws) := fun y hy => FW0.out.later hy
      have FB : Hid (∀ y, Below (wb.heap.size) wb y → SlAt boolR (fun _ => True) y nb4 m4 cd) := fun y hy => FB0.out.later hy
      clear FW0 FB0
      refine hK.out _ _ (KS.out _ bR) (fun hHeld4 => ?_)
      clear hK K
      try simp only [Act.put, zgT, zg0, zgS, zsT, zs0, zsS]
      refine wpAnyH_ready (rs := [7]) (by kernel_rfl) (by simp) ?_
      refine AllReadyH.cons rfl (fun K hK => ?_) AllReadyH.nil
      have lZ0 : w18.heap.size < wb.heap.size := lZ
      go_simp
      go_at_call 11
      have BP : Hid (Below (wb.heap.size) wb wb) := bR
      refine (mmI _ _ _ _ _ _ yg tp od _ _ _ v k ol ws cd L _ (FL.out _ BP.out).cls (FW.out _ BP.out).ints (FB.out _ BP.out) hyg hwl hdl (by omega) hv hk HR.out HN.out HM2.out).mono ?_
      rintro e wd ⟨sa, sc, sb, sd, rfl, hA, hC, ha, hb0, hab, hb⟩
      have LA : Hid (∀ x, sa = some x → 0 < n → wb.heap.size ≤ x.block ∧ x.block < wd.heap.size) := fun x e h0 => ⟨Nat.le_trans (Nat.le_trans hz BP.out.size) (ha x e h0), hA.lt x e h0⟩
      have LB : Hid (∀ x, sb = some x → 0 < m → wb.heap.size ≤ x.block ∧ x.block < wd.heap.size) := fun x e h0 => ⟨Nat.le_trans (Nat.le_trans hz BP.out.size) (hb0 x e h0), hC.lt x e h0⟩
      have GA0 : Hid (Wri wd sa n (fun j => rs.getD j 0)) := hA
      have GB0 : Hid (WriB wd sb m (fun j => rc.getD j false)) := hC
      clear hA hC ha hb0 hab
      have hq : Below (wb.heap.size) wb wd := BP.out.trans (Below.mono hb (Nat.le_trans hz BP.out.size))
      have hzn : wb.heap.size ≤ wd.heap.size := Nat.le_trans hz hq.size
      replace B := lF B hq hzn
      replace BW := lF BW hq hzn
      replace KS := lF KS hq hzn
      replace FL := lF FL hq hzn
      replace FW := lF FW hq hzn
      replace FB := lF FB hq hzn
      replace XC := lF XC hq hzn
      replace lC := Nat.lt_of_lt_of_le lC hzn
      replace XZ := lF XZ hq hzn
      replace lZ := Nat.lt_of_lt_of_le lZ hzn
      clear hq BP hz
      have hz : wd.heap.size ≤ wd.heap.size := Nat.le_refl _
      clear hb
      go_wp2_with fail
      have GA : Hid (∀ y, Below (wd.heap.size) wd y → Wri y sa n (fun j => rs.getD j 0)) := fun y hy => GA0.out.later hy
      have GB : Hid (∀ y, Below (wd.heap.size) wd y → WriB y sb m (fun j => rc.getD j false)) := fun y hy => GB0.out.later hy
      clear GA0 GB0
      refine hK.out _ _ (KS.out _ bR) (fun hHeld5 => ?_)
      clear hK K
      try simp only [Act.put, zgT, zg0, zgS, zsT, zs0, zsS]
      refine tV 8 (v := ?_) rfl (by kernel_rfl) (fun _ _ _ h => h) ?_ (by assumption) ?_
      rotate_left 1
      · (intro x hSx; (try dsimp only at hSx); go_simp; try with_reducible rfl)
      try simp only [Act.put, zgT, zg0, zgS, zsT, zs0, zsS]
      refine tV 9 (v := ?_) rfl (by kernel_rfl) (fun _ _ _ h => h) ?_ (by assumption) ?_
      rotate_left 1
      · (intro x hSx; (try dsimp only at hSx); go_simp; try with_reducible rfl)
      try simp only [Act.put, zgT, zg0, zgS, zsT, zs0, zsS]
      refine tV 10 (v := ?_) rfl (by kernel_rfl) (fun _ _ _ h => h) ?_ (by assumption) ?_
      rotate_left 1
      · (intro x hSx; (try dsimp only at hSx); go_simp; try with_reducible rfl)
      try simp only [Act.put, zgT, zg0, zgS, zsT, zs0, zsS]
      refine wpAnyH_ready (rs := [12]) (by kernel_rfl) (by simp) ?_
      refine AllReadyH.cons rfl (fun K hK => ?_) AllReadyH.nil
      obtain ⟨kZ0, kZ1, kZ2, kZ3, kZ4⟩ := bk5 (XZ.out wd bR)
      obtain ⟨qkZ0, qkZ1, qkZ2, qkZ3, qkZ4⟩ := bq5 (XZ.out wd bR)
      go_simp
      clear kZ0 kZ1 kZ2 kZ3 kZ4 qkZ0 qkZ1 qkZ2 qkZ3 qkZ4
      generalize hW : (((((wd.setCell ⟨w18.heap.size, 0, none⟩ (.slice sa n sc)).setCell ⟨w18.heap.size, 1, none⟩ (.int .i64 z1)).setCell ⟨w18.heap.size, 2, none⟩ (.int .i64 z2)).setCell ⟨w18.heap.size, 3, none⟩ (.int .i64 z3)).setCell ⟨w18.heap.size, 4, none⟩ (.slice sb m sd)) = wB1
      have hkB : ∀ a, a ≠ w18.heap.size → wB1.heap[a]? = wd.heap[a]? := by subst hW; exact fun a h => (Below.heap_setCell _ _ _ _ h).trans ((Below.heap_setCell _ _ _ _ h).trans ((Below.heap_setCell _ _ _ _ h).trans ((Below.heap_setCell _ _ _ _ h).trans ((Below.heap_setCell _ _ _ _ h)))))
      have hw0 : w.heap.size ≤ w18.heap.size := (by first | omega | (simp; done) | (simp; omega) | (simp at *; omega))
      replace XC := lS XC lC wB1 (hkB _ (by first | omega | (simp; done) | (simp; omega)))
      replace XZ : Hid (∀ y, Below (wd.heap.size) wB1 y → y.heap[w18.heap.size]? = some (.cells #[.slice sa n sc, .int .i64 z1, .int .i64 z2, .int .i64 z3, .slice sb m sd] 29 (0, 0))) := fun y hy => by subst hW; exact (hy.block _ (by omega)).trans (boxS (boxS (boxS (boxS (boxS (XZ.out wd bR) 0 _) 1 _) 2 _) 3 _) 4 _)
      replace BW : Hid (∀ y, Below (wd.heap.size) wB1 y → Below w18.heap.size w18 y) := fun y hy => by subst hW; exact ((((((BW.out wd bR).setCell hw2 _).setCell hw2 _).setCell hw2 _).setCell hw2 _).setCell hw2 _).trans (hy.mono (by have := lZ; omega))
      clear KS
      clear FL
      clear FW
      clear FB
      replace GA : Hid (∀ y, Below (wd.heap.size) wB1 y → Wri y sa n (fun j => rs.getD j 0)) := fun y hy => by subst hW; exact ((GA.out wd bR).keep (chg5 wd (w18.heap.size) (.slice sa n sc) (.int .i64 z1) (.int .i64 z2) (.int .i64 z3) (.slice sb m sd)) (fun x e h0 hd => by have h8 : x.block = w18.heap.size := hd; have := LA.out x e h0; omega)).later (hy.mono (by first | (simp; done) | (simp; omega)))
      replace GB : Hid (∀ y, Below (wd.heap.size) wB1 y → WriB y sb m (fun j => rc.getD j false)) := fun y hy => by subst hW; exact ((GB.out wd bR).keep (chg5 wd (w18.heap.size) (.slice sa n sc) (.int .i64 z1) (.int .i64 z2) (.int .i64 z3) (.slice sb m sd)) (fun x e h0 hd => by have h8 : x.block = w18.heap.size := hd; have := LB.out x e h0; omega)).later (hy.mono (by first | (simp; done) | (simp; omega)))
      replace B : Hid (∀ y, Below (wd.heap.size) wB1 y → Below w.heap.size w y) := fun y hy => by subst hW; exact ((((((B.out wd bR).setCell hw0 _).setCell hw0 _).setCell hw0 _).setCell hw0 _).setCell hw0 _).trans (hy.mono (by first | omega | exact Nat.le_trans (B.out wd bR).size hz | (have := (B.out wd bR).size; omega)))
      replace hz : wd.heap.size ≤ wB1.heap.size := by subst hW; first | (simp; done) | simpa using hz
      clear hw0 hW hkB
      have KS : Hid (∀ x, Below (wd.heap.size) wB1 x → x.cell? ⟨w.heap.size, 0, none⟩ = some (.slice b0 m0 d0) ∧ x.cell? ⟨w.heap.size, 1, none⟩ = some (.int .i64 yg) ∧ x.cell? ⟨w.heap.size, 2, none⟩ = some (.int .i64 tp) ∧ x.cell? ⟨w.heap.size, 3, none⟩ = some (.int .i64 od) ∧ x.cell? ⟨w.heap.size, 4, none⟩ = some (.slice b4 m4 d4)) := fun x hx => bk5 (XC.out x hx)
      refine hK.out _ _ (KS.out _ bR) (fun hHeld6 => ?_)
      clear hK K
      try simp only [Act.put, zgT, zg0, zgS, zsT, zs0, zsS]
      refine tV 13 (v := ?_) rfl (by kernel_rfl) (fun _ _ _ h => h) ?_ (by assumption) ?_
      rotate_left 1
      · (intro x hSx; (try dsimp only at hSx); go_simp; try with_reducible rfl)
      try simp only [Act.put, zgT, zg0, zgS, zsT, zs0, zsS]
      refine wpAnyH_done (by kernel_rfl) ?_ _
      clear hHeld hHeld2 hHeld3 hHeld4 hHeld5 hHeld6
      clear KS
      go_wp2_with fail
      go_meet
      exact ⟨w18.heap.size, sa, sc, sb, sd, rfl, rfl, hw2, Nat.lt_of_lt_of_le lZ hz, XZ.out _ bR, GA.out _ bR, GB.out _ bR, BW.out _ bR⟩
  case rest =>
  obtain ⟨X2, sa2, sc2, sb2, sd2, rfl, rfl, hX0, hX1, hbx, hS0, hS1, hb⟩ := hcut
  obtain ⟨w19, rfl⟩ : ∃ x, x = wc := ⟨_, rfl⟩
  have BP : Hid (Below w18.heap.size w18 w18) := Below.refl _ _
  clear kC0 kC1 kC2 kC3 kC4 kW0 kW1 kW2 kW3 kW4 kQ0 kQ1 kQ2 kQ3 kQ4 kO0 kO1 kO2 kO3 kO4
  have hq : Below w18.heap.size w18 w19 := BP.out.trans (Below.mono hb BP.out.size)
  replace B := lF B hq hq.size
  replace S0 := lF S0 hq hq.size
  replace S1 := lF S1 hq hq.size
  replace M1 := lF M1 hq hq.size
  replace M2 := lF M2 hq hq.size
  replace XC := lF XC hq hq.size
  replace lC := Nat.lt_of_lt_of_le lC hq.size
  replace XW := lF XW hq hq.size
  replace lW := Nat.lt_of_lt_of_le lW hq.size
  replace XQ := lF XQ hq hq.size
  replace lQ := Nat.lt_of_lt_of_le lQ hq.size
  replace XO := lF XO hq hq.size
  replace lO := Nat.lt_of_lt_of_le lO hq.size
  have zw19 : w18.heap.size ≤ w19.heap.size := hq.size
  clear hq BP
  have lV : X2 < w19.heap.size := hX1
  have XV : Hid (∀ y, Below w19.heap.size w19 y → y.heap[X2]? = some (.cells #[.slice sa2 n sc2, .int .i64 z1, .int .i64 z2, .int .i64 z3, .slice sb2 m sd2] 29 (0, 0))) := fun y hy => (hy.block _ hX1).trans hbx
  have H1 : Hid (∀ y, Below w19.heap.size w19 y → Wri y sa2 n (fun j => rs.getD j 0)) := fun y hy => hS0.later hy
  have H2 : Hid (∀ y, Below w19.heap.size w19 y → WriB y sb2 m (fun j => rc.getD j false)) := fun y hy => hS1.later hy
  clear hb hbx hS0 hS1 hX0 hX1
  obtain ⟨kC0, kC1, kC2, kC3, kC4⟩ := bk5 (XC.out w19 bR)
  obtain ⟨kW0, kW1, kW2, kW3, kW4⟩ := bk5 (XW.out w19 bR)
  obtain ⟨kQ0, kQ1, kQ2, kQ3, kQ4⟩ := bk5 (XQ.out w19 bR)
  obtain ⟨kO0, kO1, kO2, kO3, kO4⟩ := bk5 (XO.out w19 bR)
  obtain ⟨kV0, kV1, kV2, kV3, kV4⟩ := bk5 (XV.out w19 bR)
  have BP : Hid (Below w19.heap.size w19 w19) := Below.refl _ _
  go_wp2_with fail
  refine (eqRMem z1 z2 z3 _ _ _ _ _ _ _ _ _ _ _ _ rs rc _ (Wri.sl (H1.out _ BP.out) HN.out (by omega) RFT.out) (S0.out _ BP.out) (WriB.sl (H2.out _ BP.out) HM2.out (by omega)) (S1.out _ BP.out)).mono ?_
  rintro e w20 ⟨rfl, hb⟩
  have hq : Below w19.heap.size w19 w20 := BP.out.trans (Below.mono hb BP.out.size)
  replace B := lF B hq hq.size
  replace S0 := lF S0 hq hq.size
  replace S1 := lF S1 hq hq.size
  replace M1 := lF M1 hq hq.size
  replace M2 := lF M2 hq hq.size
  replace H1 := lF H1 hq hq.size
  replace H2 := lF H2 hq hq.size
  replace XC := lF XC hq hq.size
  replace lC := Nat.lt_of_lt_of_le lC hq.size
  replace XW := lF XW hq hq.size
  replace lW := Nat.lt_of_lt_of_le lW hq.size
  replace XQ := lF XQ hq hq.size
  replace lQ := Nat.lt_of_lt_of_le lQ hq.size
  replace XO := lF XO hq hq.size
  replace lO := Nat.lt_of_lt_of_le lO hq.size
  replace XV := lF XV hq hq.size
  replace lV := Nat.lt_of_lt_of_le lV hq.size
  have zw20 : w19.heap.size ≤ w20.heap.size := hq.size
  clear hq BP
  clear kC0 kC1 kC2 kC3 kC4 kW0 kW1 kW2 kW3 kW4 kQ0 kQ1 kQ2 kQ3 kQ4 kO0 kO1 kO2 kO3 kO4 kV0 kV1 kV2 kV3 kV4
  clear hb
  obtain ⟨kC0, kC1, kC2, kC3, kC4⟩ := bk5 (XC.out w20 bR)
  obtain ⟨kW0, kW1, kW2, kW3, kW4⟩ := bk5 (XW.out w20 bR)
  obtain ⟨kQ0, kQ1, kQ2, kQ3, kQ4⟩ := bk5 (XQ.out w20 bR)
  obtain ⟨kO0, kO1, kO2, kO3, kO4⟩ := bk5 (XO.out w20 bR)
  obtain ⟨kV0, kV1, kV2, kV3, kV4⟩ := bk5 (XV.out w20 bR)
  have BP : Hid (Below w20.heap.size w20 w20) := Below.refl _ _
  go_wp2_with fail
  refine (heldRMem z1 z2 z3 ga n gc gb m gd 1 _ (M1.out _ BP.out) (M2.out _ BP.out) (by omega) (by omega) (by omega) (by omega)).mono ?_
  rintro e w21 ⟨rfl, hb⟩
  have hq : Below w20.heap.size w20 w21 := BP.out.trans (Below.mono hb BP.out.size)
  replace B := lF B hq hq.size
  replace S0 := lF S0 hq hq.size
  replace S1 := lF S1 hq hq.size
  replace M1 := lF M1 hq hq.size
  replace M2 := lF M2 hq hq.size
  replace H1 := lF H1 hq hq.size
  replace H2 := lF H2 hq hq.size
  replace XC := lF XC hq hq.size
  replace lC := Nat.lt_of_lt_of_le lC hq.size
  replace XW := lF XW hq hq.size
  replace lW := Nat.lt_of_lt_of_le lW hq.size
  replace XQ := lF XQ hq hq.size
  replace lQ := Nat.lt_of_lt_of_le lQ hq.size
  replace XO := lF XO hq hq.size
  replace lO := Nat.lt_of_lt_of_le lO hq.size
  replace XV := lF XV hq hq.size
  replace lV := Nat.lt_of_lt_of_le lV hq.size
  have zw21 : w20.heap.size ≤ w21.heap.size := hq.size
  clear hq BP
  clear kC0 kC1 kC2 kC3 kC4 kW0 kW1 kW2 kW3 kW4 kQ0 kQ1 kQ2 kQ3 kQ4 kO0 kO1 kO2 kO3 kO4 kV0 kV1 kV2 kV3 kV4
  clear hb
  obtain ⟨kC0, kC1, kC2, kC3, kC4⟩ := bk5 (XC.out w21 bR)
  obtain ⟨kW0, kW1, kW2, kW3, kW4⟩ := bk5 (XW.out w21 bR)
  obtain ⟨kQ0, kQ1, kQ2, kQ3, kQ4⟩ := bk5 (XQ.out w21 bR)
  obtain ⟨kO0, kO1, kO2, kO3, kO4⟩ := bk5 (XO.out w21 bR)
  obtain ⟨kV0, kV1, kV2, kV3, kV4⟩ := bk5 (XV.out w21 bR)
  go_wp2_with fail
  go_ret
  exact ⟨rfl, B.out _ (Below.refl _ _)⟩

/-- What came in, read. -/
theorem slOf {α : Type} {R : Rep α} {t : TypeId} (hr : Reads t (.list R)) {H : Type} {enc : TypeId × Value → H} {W : World} {a : Option Addr} {len cap : Nat} {d : DataW H} {p : List MemPlace} (h : DataW.Trod enc Tryz.prog W 0 (fun _ => true) true t (.slice a len cap) d p) : ∃ xs, SlAt R (fun _ => True) W a len xs := by
  obtain ⟨fuel, hf⟩ := h
  obtain ⟨xs, a', l', c', e, hS⟩ := hr _ _ _ _ _ _ hf
  simp [Value.cells] at e
  obtain ⟨rfl, rfl, rfl⟩ := e
  exact ⟨xs, hS⟩
theorem memOf {H : Type} {enc : TypeId × Value → H} {W : World} {cs : Array Value} {d : DataW H} {p : List MemPlace} (h : DataW.Trod enc Tryz.prog W 0 (fun _ => true) true 26 (.agg cs) d p) :
    ∃ a0 l0 c0 yg tp od a4 l4 c4 ws cd, cs = #[.slice a0 l0 c0, .int .i64 yg, .int .i64 tp, .int .i64 od, .slice a4 l4 c4] ∧ SlAt intR (fun _ => True) W a0 l0 ws ∧ SlAt boolR (fun _ => True) W a4 l4 cd ∧ i64B yg ∧ i64B tp ∧ i64B od := by
  obtain ⟨fuel, hf⟩ := h
  obtain ⟨⟨ws, yg, tp, od, cd⟩, _, _, e, ⟨a0, l0, c0, rfl, h1⟩, _, _, rfl, ⟨rfl, f1⟩, _, _, rfl, ⟨rfl, f2⟩, _, _, rfl, ⟨rfl, f3⟩, a4, l4, c4, rfl, h2⟩ := rd_Mem _ _ _ _ _ _ hf
  refine ⟨a0, l0, c0, yg, tp, od, a4, l4, c4, ws, cd, ?_, h1, h2, f1, f2, f3⟩
  obtain ⟨l⟩ := cs
  simpa [Value.cells] using e

set_option maxRecDepth 100000 in
theorem lifted (os : Os) (started : os.Started) (H : Type) (enc : TypeId × Value → H) :
    ReturnsInHanded {} Tryz.checked os 3 .any (Rows.fnExactMemMakeSpec.pre6 enc Tryz.prog Tryz.f3 Rows.fnExactMemMakeRow.domain false) (Rows.fnExactMemMakeSpec.post enc Tryz.prog Tryz.f3 false true false false) := by
  refine returnsInHanded_of_change (C := Tryz.checked) own started (by kernel_rfl) Tryz.func3
    (ChangeSpec.witness6 (enc := enc) (C := Tryz.checked) false ⟨#[], #[.slice none 0 0, .agg #[.slice none 0 0, .int .i64 0, .int .i64 0, .int .i64 0, .slice none 0 0], .int .i64 0, .int .i64 0, .bool false], []⟩ 8 (by kernel_rfl) (by kernel_rfl) (by kernel_rfl) (by kernel_rfl)) ?_
  intro W base args ds gs before hval0 hW hcnd _
  have hval : ∀ (j : Nat) t v, Tryz.f3.params[j]? = some t → args[j]? = some v → Value.okWide Tryz.prog W .any base t v := hval0
  have hW' := hW
  obtain ⟨p, q, hA0, hV, rfl, hfz, hnd⟩ := hW
  have hA : DataW.TrodAll enc Tryz.prog W 0 (fun _ => true) true Tryz.f3.params.toList args.toList ds p := hA0
  rw [Tryz.params3] at hA hval
  obtain ⟨v0, vs0, d0, ds0, p0, q0, hargs, rfl, rfl, h0, r0⟩ := trodAll_cons hA
  obtain ⟨v1, vs1, d1, ds1, p1, q1, rfl, rfl, rfl, h1, r1⟩ := trodAll_cons r0
  obtain ⟨v2, vs2, d2, ds2, p2, q2, rfl, rfl, rfl, h2, r2⟩ := trodAll_cons r1
  obtain ⟨v3, vs3, d3, ds3, p3, q3, rfl, rfl, rfl, h3, r3⟩ := trodAll_cons r2
  obtain ⟨v4, vs4, d4, ds4, p4, q4, rfl, rfl, rfl, h4, r4⟩ := trodAll_cons r3
  obtain ⟨rfl, rfl, rfl⟩ := trodAll_nil r4
  obtain rfl : args = #[v0, v1, v2, v3, v4] := by cases args; simp_all
  obtain ⟨rfl, rfl⟩ := trodVars_none hV
  have k0 := h0
  have lt0 : ∀ x ∈ p0, x.block < W.heap.size := by obtain ⟨m, hm⟩ := k0; exact DataW.trod_lt m _ _ _ hm
  have k1 := h1
  have lt1 : ∀ x ∈ p1, x.block < W.heap.size := by obtain ⟨m, hm⟩ := k1; exact DataW.trod_lt m _ _ _ hm
  obtain ⟨a0, len0, cap0, rfl⟩ := okWide_slice Tryz.underlying22 (hval 0 22 v0 rfl rfl)
  obtain ⟨L, w0⟩ := slOf rdL_Class h0
  obtain ⟨cs1, rfl, _⟩ := okWide_struct Tryz.underlying26 (hval 1 26 v1 rfl rfl)
  obtain ⟨b0, m0, e0, yg, tp, od, b4, m4, e4, ws, cd, rfl, g0, g4, f1, f2, f3⟩ := memOf h1
  obtain ⟨v, rfl, rfl, rfl, w2⟩ := open_int Tryz.underlying3 (hval 2 3 v2 rfl rfl) h2
  obtain ⟨k, rfl, rfl, rfl, w3⟩ := open_int Tryz.underlying3 (hval 3 3 v3 rfl rfl) h3
  obtain ⟨ol, rfl, rfl, rfl⟩ := open_bool Tryz.underlying4 (hval 4 4 v4 rfl rfl) h4
  clear hA0 hval0
  refine (walk a0 len0 cap0 b0 m0 e0 yg tp od b4 m4 e4 v k ol L ws cd W w0 g0 g4 f1 f2 f3 (bounds_i64 w2) (bounds_i64 w3)).mono fun e W' ⟨he, bel⟩ => ?_
  subst he
  exact ⟨_, rfl, _, _, _, [], _, [], hW', trodAll_mk1 (shut_bool Tryz.underlying4 _), (trodAll_cons_mk (Below.trod laidOut (by kernel_rfl) (of_decide_eq_true (by kernel_rfl)) k0 bel lt0) (trodAll_cons_mk (Below.trod laidOut (by kernel_rfl) (of_decide_eq_true (by kernel_rfl)) k1 bel lt1) (trodAll_cons_mk (shut_int Tryz.underlying3 w2) (trodAll_cons_mk (shut_int Tryz.underlying3 w3) (trodAll_cons_mk (shut_bool Tryz.underlying4 _) trodAll_mk0))))), rfl, bel.frame _, fun h => by cases h⟩

theorem over : Rows.fnExactMemMakeRow.holds Tryz.pinned (OpenSpec.ofChange Rows.fnExactMemMakeSpec) :=
  OpenClaim.holds_of_wide 3 Tryz.f3 rfl rfl rfl rfl rfl rfl rfl ⟨rfl, rfl, rfl, rfl, rfl⟩ rfl rfl rfl rfl rfl (by kernel_rfl) Tryz.func3 (by kernel_rfl)
    (of_decide_eq_true (by kernel_rfl)) (by unfold Func.isWrapper; first | (rw [if_pos (by decide +kernel)]; kernel_rfl) | (rw [if_neg (by decide +kernel)]; exact ⟨rfl, rfl⟩))
    (fun os started H enc _ => lifted os started H enc)
theorem proved : Rows.FnExactMemMakeSaid := over
end Go.Proofs.YtjbmcdekhhbiaaaGreat.fnExactMemMake

namespace Go.Proofs.YtjbmcdekhhbiaaaGreat
theorem fnExactMemMake_holds : Rows.FnExactMemMakeSaid := fnExactMemMake.proved
#print axioms fnExactMemMake_holds
end Go.Proofs.YtjbmcdekhhbiaaaGreat
