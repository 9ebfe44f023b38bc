/-
  The program's reading of the first thing of some words: what it says; it writes nothing that was there.
-/
import Derived.Test.YtjbmcdekhhbiaaaGreatMemIb
import Derived.Deep.RegionHeld3
namespace Go.Proofs.YtjbmcdekhhbiaaaGreat
open Go.ChangeShapes Go.WideShapes Go.ChangeAt Go.RowKit
set_option linter.unusedVariables false

def fstV (L : List Cl) (ws : List Int) : Option (Int × List Int) := if tsz L ws = 0 then none else some (ws.getD 0 0, typ L (ws.getD 0 0) (ws.getD 1 0))
theorem fst_no {L : List Cl} {ws : List Int} (h : isT L (ws.getD 0 0) (ws.getD 1 0) = false) : fstV L ws = none := by
  unfold fstV; rw [if_pos]
  unfold tsz
  split
  · rfl
  · rw [h]; rfl
theorem fst_big {L : List Cl} {ws : List Int} (h1 : ws.length < hdN (ws.getD 0 0) + (typ L (ws.getD 0 0) (ws.getD 1 0)).length) : fstV L ws = none := by
  unfold fstV; rw [if_pos]
  unfold tsz
  split
  · rfl
  · split
    · rw [if_neg (by omega)]
    · rfl
theorem fst_yes {L : List Cl} {ws : List Int} (h : isT L (ws.getD 0 0) (ws.getD 1 0) = true) (h1 : hdN (ws.getD 0 0) + (typ L (ws.getD 0 0) (ws.getD 1 0)).length ≤ ws.length) : fstV L ws = some (ws.getD 0 0, typ L (ws.getD 0 0) (ws.getD 1 0)) := by
  have hp := hdN_pos (ws.getD 0 0)
  unfold fstV; rw [if_neg]
  unfold tsz
  rw [if_neg (by omega), h, if_pos rfl, if_pos h1]
  omega

set_option maxRecDepth 100000 in
set_option maxHeartbeats 8000000 in
theorem firstImpl (ca : Option Addr) (cn cc : Nat) (wb wo wl wc : Nat) (ws : List Int) (L : List Cl) (w : World) {D E G : Nat → Prop} (h : ClsAt D E w ca cn L) (ok : clsOk L = true) (hw : IntsAt G w (some ⟨wb, wo, none⟩) wl ws) (h1 : 1 ≤ wl) (hl : wl ≤ 1000) :
    Calls Tryz.prog 103 #[.slice ca cn cc, .slice (some ⟨wb, wo, none⟩) wl wc] w (ThO w (fstV L ws)) := by
  have H : Hid (ClsAt D E w ca cn L) := h
  have OK : Hid (clsOk L = true) := ok
  have HW : Hid (IntsAt G w (some ⟨wb, wo, none⟩) wl ws) := hw
  have WS : Hid (ws.length = wl) := hw.size
  obtain ⟨_, _, e0, _, hcs⟩ := hw.one 0 (by omega)
  cases e0
  have c0 := hcs 0 (by omega)
  rw [Nat.add_zero] at c0
  have hwb := World.block_lt_of_cell? w _ c0
  simp only at hwb
  obtain ⟨cx, hx⟩ : ∃ q, ws.getD 0 0 = q := ⟨_, rfl⟩
  obtain ⟨cy, hy⟩ : ∃ q, ws.getD 1 0 = q := ⟨_, rfl⟩
  have c1 : 1 < wl → w.cell? ⟨wb, wo + 1, none⟩ = some (.int .i64 cy) := fun hl1 => by rw [← hy]; exact hcs 1 hl1
  have y0 : wl ≤ 1 → cy = 0 := fun hl1 => by rw [← hy, List.getD_eq_getElem?_getD, List.getElem?_eq_none (by rw [WS.out]; exact hl1)]; rfl
  rw [hx] at c0
  obtain ⟨r, hr⟩ : ∃ r, fstV L ws = r := ⟨_, rfl⟩
  have HR : Hid (fstV L ws = r) := hr
  have HX : Hid (ws.getD 0 0 = cx) := hx
  have HY : Hid (ws.getD 1 0 = cy) := hy
  have TO : Hid (∀ z, Below w.heap.size w z → Calls Tryz.prog 35 #[.slice ca cn cc, .int .i64 cx, .int .i64 cy] z (ThO z (if isT L cx cy = true then some (cx, typ L cx cy) else none))) := fun z hz => thingOfImpl _ _ _ cx cy L z (H.out.later hz) OK.out
  have TL : Hid (isT L cx cy = true → (typ L cx cy).length ≤ 10) := fun h => typ_len OK.out h
  rw [hr]
  clear h ok hw hr hx hy hcs
  by_cases hl1 : 1 < wl
  · have c1 := c1 hl1
    have hz : w.heap.size + 1 ≤ (w.alloc (.cells #[.int .i64 0, .int .i64 0, .slice none 0 0] 69)).heap.size := by simp
    have B : Hid (∀ y, Below (w.heap.size + 1) (w.alloc (.cells #[.int .i64 0, .int .i64 0, .slice none 0 0] 69)) y → Below w.heap.size w y) := fun y hy => (bR.alloc (by first | exact Nat.le_refl _ | (simp; done) | (simp; omega)) _).trans (hy.mono (by omega))
    have XZ : Hid (∀ y, Below (w.heap.size + 1) (w.alloc (.cells #[.int .i64 0, .int .i64 0, .slice none 0 0] 69)) y → y.heap[w.heap.size]? = some (.cells #[.int .i64 0, .int .i64 0, .slice none 0 0] 69 (0, 0))) := fun y hy => (hy.block _ (by omega)).trans (boxN _ _ _ _ (by simp))
    have lZ : w.heap.size < w.heap.size + 1 := by omega
    have W0 : Hid (∀ y, Below (w.heap.size + 1) (w.alloc (.cells #[.int .i64 0, .int .i64 0, .slice none 0 0] 69)) y → y.cell? ⟨wb, wo, none⟩ = some (.int .i64 cx)) := fun y hy => ((B.out y hy).cell (p := ⟨wb, wo, none⟩) hwb).trans c0
    go_enter Tryz.func103, Tryz.ntmps103
    go_wp2_with fail
    have BP : Hid (Below (w.heap.size + 1) (w.alloc (.cells #[.int .i64 0, .int .i64 0, .slice none 0 0] 69)) (w.alloc (.cells #[.int .i64 0, .int .i64 0, .slice none 0 0] 69))) := bR
    refine (TO.out _ (B.out _ BP.out)).mono ?_
    rintro e w1 ⟨hno, hyes, hb⟩
    have hq : Below (w.heap.size + 1) (w.alloc (.cells #[.int .i64 0, .int .i64 0, .slice none 0 0] 69)) w1 := BP.out.trans (Below.mono hb (Nat.le_trans hz BP.out.size))
    have hzn : w.heap.size + 1 ≤ w1.heap.size := Nat.le_trans hz hq.size
    replace B := lF B hq hzn
    replace W0 := lF W0 hq hzn
    replace XZ := lF XZ hq hzn
    replace lZ := Nat.lt_of_lt_of_le lZ hzn
    clear hq BP hz
    have hz : w1.heap.size ≤ w1.heap.size := Nat.le_refl _
    clear hb
    cases hq : isT L cx cy
    · obtain ⟨za, zc, zt, zl, zp, rfl⟩ := hno (if_neg (by rw [hq]; simp))
      have RV : Hid (r = none) := by show _ = _; rw [← HR.out]; exact fst_no (by rw [HX.out, HY.out]; exact hq)
      clear hno hyes
      obtain ⟨kZ0, kZ1, kZ2⟩ := bk3 (XZ.out w1 bR)
      obtain ⟨qkZ0, qkZ1, qkZ2⟩ := bq3 (XZ.out w1 bR)
      go_wp2_with fail
      clear kZ0 kZ1 kZ2 qkZ0 qkZ1 qkZ2
      have BP : Hid (Below (w1.heap.size) w1 (w1.alloc (.cells #[.int .i64 za, .int .i64 zc, .slice zt zl zp] 69))) := (bR.alloc (by first | exact hz | (simp; done) | (simp; omega) | (have := hz; simp at this ⊢; omega)) _)
      replace B := lA B BP
      replace W0 := lA W0 BP
      replace XZ := lA XZ BP
      replace lZ := lL lZ
      have XT : Hid (∀ y, Below (w1.heap.size + 1) (w1.alloc (.cells #[.int .i64 za, .int .i64 zc, .slice zt zl zp] 69)) y → y.heap[w1.heap.size]? = some (.cells #[.int .i64 za, .int .i64 zc, .slice zt zl zp] 69 (0, 0))) := fun y hy => (hy.block _ (by omega)).trans (boxN _ _ _ _ (by simp))
      have lT : w1.heap.size < w1.heap.size + 1 := by omega
      replace hz : w1.heap.size + 1 ≤ ((w1.alloc (.cells #[.int .i64 za, .int .i64 zc, .slice zt zl zp] 69))).heap.size := by simp
      clear BP
      have KS : Hid (∀ x, Below (w1.heap.size + 1) (w1.alloc (.cells #[.int .i64 za, .int .i64 zc, .slice zt zl zp] 69)) x → x.cell? ⟨w1.heap.size, 0, none⟩ = some (.int .i64 za) ∧ x.cell? ⟨w1.heap.size, 1, none⟩ = some (.int .i64 zc) ∧ x.cell? ⟨w1.heap.size, 2, none⟩ = some (.slice zt zl zp)) := fun x hx => bk3 (XT.out x hx)
      refine wp_region_held_drew (S := fun x => x.cell? ⟨w1.heap.size, 0, none⟩ = some (.int .i64 za) ∧ x.cell? ⟨w1.heap.size, 1, none⟩ = some (.int .i64 zc) ∧ x.cell? ⟨w1.heap.size, 2, none⟩ = some (.slice zt zl zp)) (by kernel_rfl) ?_ (fun hHeld => ?_)
      · exact KS.out _ (bdrew bR)
      refine tV 0 (v := ?_) rfl (by kernel_rfl) (fun _ _ _ h => h) ?_ (by assumption) ?_
      rotate_left 1
      · (intro x hSx; (try dsimp only at hSx); go_simp; try with_reducible rfl)
      try simp only [Act.put, zgT, zg0, zsT, zs0, zsS]
      refine tV 1 (v := ?_) rfl (by kernel_rfl) (fun _ _ _ h => h) ?_ (by assumption) ?_
      rotate_left 1
      · (intro x hSx; (try dsimp only at hSx); go_simp; try with_reducible rfl)
      try simp only [Act.put, zgT, zg0, zgS, zsT, zs0, zsS]
      refine tV 2 (v := ?_) rfl (by kernel_rfl) (fun _ _ _ h => h) ?_ (by assumption) ?_
      rotate_left 1
      · (intro x hSx; (try dsimp only at hSx); go_simp; try with_reducible rfl)
      try simp only [Act.put, zgT, zg0, zgS, zsT, zs0, zsS]
      refine tU 3 rfl (by kernel_rfl) (fun _ _ _ h => h) (by assumption) ?_
      refine tU 4 rfl (by kernel_rfl) (fun _ _ _ h => h) (by assumption) ?_
      refine tU 5 rfl (by kernel_rfl) (fun _ _ _ h => h) (by assumption) ?_
      refine tU 6 rfl (by kernel_rfl) (fun _ _ _ h => h) (by assumption) ?_
      refine tU 7 rfl (by kernel_rfl) (fun _ _ _ h => h) (by assumption) ?_
      try simp only [Act.put, zgT, zg0, zgS, zsT, zs0, zsS]
      refine tV 8 (v := ?_) rfl (by kernel_rfl) (fun _ _ _ h => h) ?_ (by assumption) ?_
      rotate_left 1
      · (intro x hSx; (try dsimp only at hSx); go_simp; try with_reducible rfl)
      try simp only [Act.put, zgT, zg0, zgS, zsT, zs0, zsS]
      refine wpAnyH_ready (rs := [9]) (by kernel_rfl) (by simp) ?_
      refine AllReadyH.cons rfl (fun K hK => ?_) AllReadyH.nil
      obtain ⟨kZ0, kZ1, kZ2⟩ := bk3 (XZ.out (w1.alloc (.cells #[.int .i64 za, .int .i64 zc, .slice zt zl zp] 69)) bR)
      obtain ⟨qkZ0, qkZ1, qkZ2⟩ := bq3 (XZ.out (w1.alloc (.cells #[.int .i64 za, .int .i64 zc, .slice zt zl zp] 69)) bR)
      go_simp
      clear kZ0 kZ1 kZ2 qkZ0 qkZ1 qkZ2
      have hw0 : w.heap.size ≤ w.heap.size := (by first | omega | (simp; done) | (simp; omega) | (simp at *; omega))
      replace XT := lS XT lT (((((w1.alloc (.cells #[.int .i64 za, .int .i64 zc, .slice zt zl zp] 69)).setCell ⟨w.heap.size, 0, none⟩ (.int .i64 za)).setCell ⟨w.heap.size, 1, none⟩ (.int .i64 zc)).setCell ⟨w.heap.size, 2, none⟩ (.slice zt zl zp))) ((Below.heap_setCell _ _ _ _ (by first | omega | (simp; done) | (simp; omega))).trans ((Below.heap_setCell _ _ _ _ (by first | omega | (simp; done) | (simp; omega))).trans ((Below.heap_setCell _ _ _ _ (by first | omega | (simp; done) | (simp; omega))))))
      replace XZ : Hid (∀ y, Below (w1.heap.size + 1) ((((w1.alloc (.cells #[.int .i64 za, .int .i64 zc, .slice zt zl zp] 69)).setCell ⟨w.heap.size, 0, none⟩ (.int .i64 za)).setCell ⟨w.heap.size, 1, none⟩ (.int .i64 zc)).setCell ⟨w.heap.size, 2, none⟩ (.slice zt zl zp)) y → y.heap[w.heap.size]? = some (.cells #[.int .i64 za, .int .i64 zc, .slice zt zl zp] 69 (0, 0))) := fun y hy => (hy.block _ (by omega)).trans (boxS (boxS (boxS (XZ.out (w1.alloc (.cells #[.int .i64 za, .int .i64 zc, .slice zt zl zp] 69)) bR) 0 _) 1 _) 2 _)
      clear W0
      clear KS
      replace B : Hid (∀ y, Below (w1.heap.size + 1) ((((w1.alloc (.cells #[.int .i64 za, .int .i64 zc, .slice zt zl zp] 69)).setCell ⟨w.heap.size, 0, none⟩ (.int .i64 za)).setCell ⟨w.heap.size, 1, none⟩ (.int .i64 zc)).setCell ⟨w.heap.size, 2, none⟩ (.slice zt zl zp)) y → Below w.heap.size w y) := fun y hy => ((((B.out (w1.alloc (.cells #[.int .i64 za, .int .i64 zc, .slice zt zl zp] 69)) bR).setCell hw0 _).setCell hw0 _).setCell hw0 _).trans (hy.mono (by first | omega | exact Nat.le_trans (B.out (w1.alloc (.cells #[.int .i64 za, .int .i64 zc, .slice zt zl zp] 69)) bR).size hz | (have := (B.out (w1.alloc (.cells #[.int .i64 za, .int .i64 zc, .slice zt zl zp] 69)) bR).size; omega)))
      replace hz : w1.heap.size + 1 ≤ ((((w1.alloc (.cells #[.int .i64 za, .int .i64 zc, .slice zt zl zp] 69)).setCell ⟨w.heap.size, 0, none⟩ (.int .i64 za)).setCell ⟨w.heap.size, 1, none⟩ (.int .i64 zc)).setCell ⟨w.heap.size, 2, none⟩ (.slice zt zl zp)).heap.size := by first | (simp; done) | simpa using hz
      clear hw0
      replace B := lD B
      replace XZ := lD XZ
      replace XT := lD XT
      replace hz : w1.heap.size + 1 ≤ (((((w1.alloc (.cells #[.int .i64 za, .int .i64 zc, .slice zt zl zp] 69)).setCell ⟨w.heap.size, 0, none⟩ (.int .i64 za)).setCell ⟨w.heap.size, 1, none⟩ (.int .i64 zc)).setCell ⟨w.heap.size, 2, none⟩ (.slice zt zl zp)).drew).heap.size := Nat.le_trans hz (Below.size (bdrew (Below.refl (w1.heap.size + 1) ((((w1.alloc (.cells #[.int .i64 za, .int .i64 zc, .slice zt zl zp] 69)).setCell ⟨w.heap.size, 0, none⟩ (.int .i64 za)).setCell ⟨w.heap.size, 1, none⟩ (.int .i64 zc)).setCell ⟨w.heap.size, 2, none⟩ (.slice zt zl zp)))))
      have KS : Hid (∀ x, Below (w1.heap.size + 1) (((((w1.alloc (.cells #[.int .i64 za, .int .i64 zc, .slice zt zl zp] 69)).setCell ⟨w.heap.size, 0, none⟩ (.int .i64 za)).setCell ⟨w.heap.size, 1, none⟩ (.int .i64 zc)).setCell ⟨w.heap.size, 2, none⟩ (.slice zt zl zp)).drew) x → x.cell? ⟨w1.heap.size, 0, none⟩ = some (.int .i64 za) ∧ x.cell? ⟨w1.heap.size, 1, none⟩ = some (.int .i64 zc) ∧ x.cell? ⟨w1.heap.size, 2, none⟩ = some (.slice zt zl zp)) := fun x hx => bk3 (XT.out x hx)
      refine hK.out _ _ (KS.out _ bR) (fun hHeld2 => ?_)
      clear hK K
      try simp only [Act.put, zgT, zg0, zgS, zsT, zs0, zsS]
      refine tV 10 (v := ?_) rfl (by kernel_rfl) (fun _ _ _ h => h) ?_ (by assumption) ?_
      rotate_left 1
      · (intro x hSx; (try dsimp only at hSx); go_simp; try with_reducible rfl)
      try simp only [Act.put, zgT, zg0, zgS, zsT, zs0, zsS]
      refine wpAnyH_done (by kernel_rfl) ?_ _
      clear hHeld hHeld2
      clear KS
      obtain ⟨kZ0, kZ1, kZ2⟩ := bk3 (XZ.out (((((w1.alloc (.cells #[.int .i64 za, .int .i64 zc, .slice zt zl zp] 69)).setCell ⟨w.heap.size, 0, none⟩ (.int .i64 za)).setCell ⟨w.heap.size, 1, none⟩ (.int .i64 zc)).setCell ⟨w.heap.size, 2, none⟩ (.slice zt zl zp)).drew) bR)
      obtain ⟨qkZ0, qkZ1, qkZ2⟩ := bq3 (XZ.out (((((w1.alloc (.cells #[.int .i64 za, .int .i64 zc, .slice zt zl zp] 69)).setCell ⟨w.heap.size, 0, none⟩ (.int .i64 za)).setCell ⟨w.heap.size, 1, none⟩ (.int .i64 zc)).setCell ⟨w.heap.size, 2, none⟩ (.slice zt zl zp)).drew) bR)
      obtain ⟨kT0, kT1, kT2⟩ := bk3 (XT.out (((((w1.alloc (.cells #[.int .i64 za, .int .i64 zc, .slice zt zl zp] 69)).setCell ⟨w.heap.size, 0, none⟩ (.int .i64 za)).setCell ⟨w.heap.size, 1, none⟩ (.int .i64 zc)).setCell ⟨w.heap.size, 2, none⟩ (.slice zt zl zp)).drew) bR)
      go_wp2_with fail
      refine bodyPost_ret (v := .tuple #[.agg #[.int .i64 za, .int .i64 zc, .slice zt zl zp], .bool false]) ?_ rfl ?_
      · simp [results, Tryz.results103, go_sem, *]
      · rw [RV.out]
        exact ⟨fun _ => ⟨_, _, _, _, _, rfl⟩, (fun c ty e => by cases e), by (repeat (refine Below.setCell ?_ (by first | omega | (simp <;> omega)) _)); exact B.out _ (Below.refl _ _)⟩
    · obtain ⟨zt, zp, rfl, own⟩ := hyes _ _ (if_pos hq)
      have OW : Hid (w1.ownsRow (w.heap.size + 1) 3 1 (.slice zt (typ L cx cy).length zp) (typ L cx cy).length ((typ L cx cy).map (Value.int .i64))) := own_low own (by simp)
      clear hno hyes own
      have tl10 := TL.out hq
      obtain ⟨tn, htn⟩ : ∃ tn, (typ L cx cy).length = tn := ⟨_, rfl⟩
      have HTN : Hid ((typ L cx cy).length = tn) := htn
      rw [htn] at OW tl10 ⊢
      clear htn
      have hdp := hdN_pos cx
      obtain ⟨hd, hhd⟩ : ∃ hd, hdN cx = hd := ⟨_, rfl⟩
      have HHD : Hid (hdN cx = hd) := hhd
      rw [hhd] at hdp
      clear hhd
      obtain ⟨kZ0, kZ1, kZ2⟩ := bk3 (XZ.out w1 bR)
      obtain ⟨qkZ0, qkZ1, qkZ2⟩ := bq3 (XZ.out w1 bR)
      go_wp2_with fail
      clear kZ0 kZ1 kZ2 qkZ0 qkZ1 qkZ2
      have BP : Hid (Below (w1.heap.size) w1 (w1.alloc (.cells #[.int .i64 0, .int .i64 cx, .slice zt tn zp] 69))) := (bR.alloc (by first | exact hz | (simp; done) | (simp; omega) | (have := hz; simp at this ⊢; omega)) _)
      replace B := lA B BP
      replace W0 := lA W0 BP
      replace XZ := lA XZ BP
      replace lZ := lL lZ
      have XT : Hid (∀ y, Below (w1.heap.size + 1) (w1.alloc (.cells #[.int .i64 0, .int .i64 cx, .slice zt tn zp] 69)) y → y.heap[w1.heap.size]? = some (.cells #[.int .i64 0, .int .i64 cx, .slice zt tn zp] 69 (0, 0))) := fun y hy => (hy.block _ (by omega)).trans (boxN _ _ _ _ (by simp))
      have lT : w1.heap.size < w1.heap.size + 1 := by omega
      replace hz : w1.heap.size + 1 ≤ ((w1.alloc (.cells #[.int .i64 0, .int .i64 cx, .slice zt tn zp] 69))).heap.size := by simp
      clear BP
      have KS : Hid (∀ x, Below (w1.heap.size + 1) (w1.alloc (.cells #[.int .i64 0, .int .i64 cx, .slice zt tn zp] 69)) x → x.cell? ⟨w1.heap.size, 0, none⟩ = some (.int .i64 0) ∧ x.cell? ⟨w1.heap.size, 1, none⟩ = some (.int .i64 cx) ∧ x.cell? ⟨w1.heap.size, 2, none⟩ = some (.slice zt tn zp)) := fun x hx => bk3 (XT.out x hx)
      refine wp_region_held_drew (S := fun x => x.cell? ⟨w1.heap.size, 0, none⟩ = some (.int .i64 0) ∧ x.cell? ⟨w1.heap.size, 1, none⟩ = some (.int .i64 cx) ∧ x.cell? ⟨w1.heap.size, 2, none⟩ = some (.slice zt tn zp)) (by kernel_rfl) ?_ (fun hHeld => ?_)
      · exact KS.out _ (bdrew bR)
      refine tV 0 (v := ?_) rfl (by kernel_rfl) (fun _ _ _ h => h) ?_ (by assumption) ?_
      rotate_left 1
      · (intro x hSx; (try dsimp only at hSx); go_simp; try with_reducible rfl)
      try simp only [Act.put, zgT, zg0, zsT, zs0, zsS]
      refine tV 1 (v := ?_) rfl (by kernel_rfl) (fun _ _ _ h => h) ?_ (by assumption) ?_
      rotate_left 1
      · (intro x hSx; (try dsimp only at hSx); go_simp; try with_reducible rfl)
      try simp only [Act.put, zgT, zg0, zgS, zsT, zs0, zsS]
      refine tV 2 (v := ?_) rfl (by kernel_rfl) (fun _ _ _ h => h) ?_ (by assumption) ?_
      rotate_left 1
      · (intro x hSx; (try dsimp only at hSx); go_simp; try with_reducible rfl)
      try simp only [Act.put, zgT, zg0, zgS, zsT, zs0, zsS]
      refine tV 3 (v := ?_) rfl (by kernel_rfl) (fun _ _ _ h => h) ?_ (by assumption) ?_
      rotate_left 1
      · (intro x hSx; (try dsimp only at hSx); go_simp; try with_reducible rfl)
      try simp only [Act.put, zgT, zg0, zgS, zsT, zs0, zsS]
      refine tV 5 (v := ?_) rfl (by kernel_rfl) (fun _ _ _ h => h) ?_ (by assumption) ?_
      rotate_left 1
      · (intro x hSx; (try dsimp only at hSx); go_simp; try with_reducible rfl)
      try simp only [Act.put, zgT, zg0, zgS, zsT, zs0, zsS]
      refine tV 6 (v := ?_) rfl (by kernel_rfl) (fun _ _ _ h => h) ?_ (by assumption) ?_
      rotate_left 1
      · (intro x hSx; (try dsimp only at hSx); go_simp; try with_reducible rfl)
      try simp only [Act.put, zgT, zg0, zgS, zsT, zs0, zsS]
      refine wpAnyH_ready (rs := [4]) (by kernel_rfl) (by simp) ?_
      refine AllReadyH.cons rfl (fun K hK => ?_) AllReadyH.nil
      go_simp
      go_at_call 75
      have BP : Hid (Below (w1.heap.size + 1) (w1.alloc (.cells #[.int .i64 0, .int .i64 cx, .slice zt tn zp] 69)) (w1.alloc (.cells #[.int .i64 0, .int .i64 cx, .slice zt tn zp] 69)).drew) := (bdrew bR)
      refine (sizeImpl 0 cx zt tn zp _ (by omega)).mono ?_
      rintro e w2 ⟨rfl, hb⟩
      have OW2 : Hid (w2.ownsRow (w.heap.size + 1) 3 1 (.slice zt tn zp) tn ((typ L cx cy).map (Value.int .i64))) := own_later OW.out ((BP.out.trans (Below.mono hb (Nat.le_trans hz BP.out.size))).mono (by simp) |> fun q => ((Below.refl _ _).alloc (Nat.le_refl _) _).trans q)
      rw [HHD.out]
      have hq : Below (w1.heap.size + 1) (w1.alloc (.cells #[.int .i64 0, .int .i64 cx, .slice zt tn zp] 69)) w2 := BP.out.trans (Below.mono hb (Nat.le_trans hz BP.out.size))
      have hzn : w1.heap.size + 1 ≤ w2.heap.size := Nat.le_trans hz hq.size
      replace B := lF B hq hzn
      replace W0 := lF W0 hq hzn
      replace KS := lF KS hq hzn
      replace XZ := lF XZ hq hzn
      replace lZ := Nat.lt_of_lt_of_le lZ hzn
      replace XT := lF XT hq hzn
      replace lT := Nat.lt_of_lt_of_le lT hzn
      clear hq BP hz
      have hz : w2.heap.size ≤ w2.heap.size := Nat.le_refl _
      clear hb
      go_wp2_with fail
      refine hK.out _ _ (KS.out _ bR) (fun hHeld2 => ?_)
      clear hK K
      try simp only [Act.put, zgT, zg0, zgS, zsT, zs0, zsS]
      refine tV 7 (v := ?_) rfl (by kernel_rfl) (fun _ _ _ h => h) ?_ (by assumption) ?_
      rotate_left 1
      · (intro x hSx; (try dsimp only at hSx); go_simp; try with_reducible rfl)
      try simp only [Act.put, zgT, zg0, zgS, zsT, zs0, zsS]
      refine tV 8 (v := ?_) rfl (by kernel_rfl) (fun _ _ _ h => h) ?_ (by assumption) ?_
      rotate_left 1
      · (intro x hSx; (try dsimp only at hSx); go_simp; try with_reducible rfl)
      try simp only [Act.put, zgT, zg0, zgS, zsT, zs0, zsS]
      refine wpAnyH_ready (rs := [9]) (by kernel_rfl) (by simp) ?_
      refine AllReadyH.cons rfl (fun K hK => ?_) AllReadyH.nil
      obtain ⟨kZ0, kZ1, kZ2⟩ := bk3 (XZ.out w2 bR)
      obtain ⟨qkZ0, qkZ1, qkZ2⟩ := bq3 (XZ.out w2 bR)
      go_simp
      clear kZ0 kZ1 kZ2 qkZ0 qkZ1 qkZ2
      have hw0 : w.heap.size ≤ w.heap.size := (by first | omega | (simp; done) | (simp; omega) | (simp at *; omega))
      replace XT := lS XT lT ((((w2.setCell ⟨w.heap.size, 0, none⟩ (.int .i64 0)).setCell ⟨w.heap.size, 1, none⟩ (.int .i64 cx)).setCell ⟨w.heap.size, 2, none⟩ (.slice zt tn zp))) ((Below.heap_setCell _ _ _ _ (by first | omega | (simp; done) | (simp; omega))).trans ((Below.heap_setCell _ _ _ _ (by first | omega | (simp; done) | (simp; omega))).trans ((Below.heap_setCell _ _ _ _ (by first | omega | (simp; done) | (simp; omega))))))
      replace XZ : Hid (∀ y, Below (w2.heap.size) (((w2.setCell ⟨w.heap.size, 0, none⟩ (.int .i64 0)).setCell ⟨w.heap.size, 1, none⟩ (.int .i64 cx)).setCell ⟨w.heap.size, 2, none⟩ (.slice zt tn zp)) y → y.heap[w.heap.size]? = some (.cells #[.int .i64 0, .int .i64 cx, .slice zt tn zp] 69 (0, 0))) := fun y hy => (hy.block _ (by omega)).trans (boxS (boxS (boxS (XZ.out w2 bR) 0 _) 1 _) 2 _)
      clear W0
      clear KS
      replace B : Hid (∀ y, Below (w2.heap.size) (((w2.setCell ⟨w.heap.size, 0, none⟩ (.int .i64 0)).setCell ⟨w.heap.size, 1, none⟩ (.int .i64 cx)).setCell ⟨w.heap.size, 2, none⟩ (.slice zt tn zp)) y → Below w.heap.size w y) := fun y hy => ((((B.out w2 bR).setCell hw0 _).setCell hw0 _).setCell hw0 _).trans (hy.mono (by first | omega | exact Nat.le_trans (B.out w2 bR).size hz | (have := (B.out w2 bR).size; omega)))
      replace hz : w2.heap.size ≤ (((w2.setCell ⟨w.heap.size, 0, none⟩ (.int .i64 0)).setCell ⟨w.heap.size, 1, none⟩ (.int .i64 cx)).setCell ⟨w.heap.size, 2, none⟩ (.slice zt tn zp)).heap.size := by first | (simp; done) | simpa using hz
      clear hw0
      have KS : Hid (∀ x, Below (w2.heap.size) (((w2.setCell ⟨w.heap.size, 0, none⟩ (.int .i64 0)).setCell ⟨w.heap.size, 1, none⟩ (.int .i64 cx)).setCell ⟨w.heap.size, 2, none⟩ (.slice zt tn zp)) x → x.cell? ⟨w1.heap.size, 0, none⟩ = some (.int .i64 0) ∧ x.cell? ⟨w1.heap.size, 1, none⟩ = some (.int .i64 cx) ∧ x.cell? ⟨w1.heap.size, 2, none⟩ = some (.slice zt tn zp)) := fun x hx => bk3 (XT.out x hx)
      refine hK.out _ _ (KS.out _ bR) (fun hHeld3 => ?_)
      clear hK K
      try simp only [Act.put, zgT, zg0, zgS, zsT, zs0, zsS]
      refine tV 10 (v := ?_) rfl (by kernel_rfl) (fun _ _ _ h => h) ?_ (by assumption) ?_
      rotate_left 1
      · (intro x hSx; (try dsimp only at hSx); go_simp; try with_reducible rfl)
      try simp only [Act.put, zgT, zg0, zgS, zsT, zs0, zsS]
      refine wpAnyH_done (by kernel_rfl) ?_ _
      clear hHeld hHeld2 hHeld3
      clear KS
      have OW3 : Hid ((((w2.setCell ⟨w.heap.size, 0, none⟩ (.int .i64 0)).setCell ⟨w.heap.size, 1, none⟩ (.int .i64 cx)).setCell ⟨w.heap.size, 2, none⟩ (.slice zt tn zp)).ownsRow w.heap.size 3 1 (.slice zt tn zp) tn ((typ L cx cy).map (Value.int .i64))) := by
        refine own_low (base := w.heap.size + 1) ?_ (by omega)
        (repeat (refine own_set ?_ _ _ (by first | (simp; done) | (simp; omega))))
        exact OW2.out
      have BF : Hid (Below w.heap.size w (((w2.setCell ⟨w.heap.size, 0, none⟩ (.int .i64 0)).setCell ⟨w.heap.size, 1, none⟩ (.int .i64 cx)).setCell ⟨w.heap.size, 2, none⟩ (.slice zt tn zp))) := B.out _ (Below.refl _ _)
      by_cases hle : hd + tn ≤ wl
      · have RV : Hid (r = some (cx, typ L cx cy)) := by show _ = _; rw [← HR.out, fst_yes (by rw [HX.out, HY.out]; exact hq) (by rw [HX.out, HY.out, HHD.out, HTN.out, WS.out]; exact hle), HX.out, HY.out]
        obtain ⟨kZ0, kZ1, kZ2⟩ := bk3 (XZ.out (((w2.setCell ⟨w.heap.size, 0, none⟩ (.int .i64 0)).setCell ⟨w.heap.size, 1, none⟩ (.int .i64 cx)).setCell ⟨w.heap.size, 2, none⟩ (.slice zt tn zp)) bR)
        obtain ⟨qkZ0, qkZ1, qkZ2⟩ := bq3 (XZ.out (((w2.setCell ⟨w.heap.size, 0, none⟩ (.int .i64 0)).setCell ⟨w.heap.size, 1, none⟩ (.int .i64 cx)).setCell ⟨w.heap.size, 2, none⟩ (.slice zt tn zp)) bR)
        obtain ⟨kT0, kT1, kT2⟩ := bk3 (XT.out (((w2.setCell ⟨w.heap.size, 0, none⟩ (.int .i64 0)).setCell ⟨w.heap.size, 1, none⟩ (.int .i64 cx)).setCell ⟨w.heap.size, 2, none⟩ (.slice zt tn zp)) bR)
        go_wp2_with fail
        refine bodyPost_ret (v := .tuple #[.agg #[.int .i64 0, .int .i64 cx, .slice zt tn zp], .bool true]) ?_ rfl ?_
        · simp [results, Tryz.results103, go_sem, *]
          try omega
        · rw [RV.out]
          exact ⟨(fun e => by cases e), (fun c ty e => by
            cases e
            rw [HTN.out]
            exact ⟨_, _, rfl, OW3.out⟩), BF.out⟩
      · have RV : Hid (r = none) := by show _ = _; rw [← HR.out]; exact fst_big (by rw [HX.out, HY.out, HHD.out, HTN.out, WS.out]; omega)
        obtain ⟨kZ0, kZ1, kZ2⟩ := bk3 (XZ.out (((w2.setCell ⟨w.heap.size, 0, none⟩ (.int .i64 0)).setCell ⟨w.heap.size, 1, none⟩ (.int .i64 cx)).setCell ⟨w.heap.size, 2, none⟩ (.slice zt tn zp)) bR)
        obtain ⟨qkZ0, qkZ1, qkZ2⟩ := bq3 (XZ.out (((w2.setCell ⟨w.heap.size, 0, none⟩ (.int .i64 0)).setCell ⟨w.heap.size, 1, none⟩ (.int .i64 cx)).setCell ⟨w.heap.size, 2, none⟩ (.slice zt tn zp)) bR)
        obtain ⟨kT0, kT1, kT2⟩ := bk3 (XT.out (((w2.setCell ⟨w.heap.size, 0, none⟩ (.int .i64 0)).setCell ⟨w.heap.size, 1, none⟩ (.int .i64 cx)).setCell ⟨w.heap.size, 2, none⟩ (.slice zt tn zp)) bR)
        go_wp2_with fail
        refine bodyPost_ret (v := .tuple #[.agg #[.int .i64 0, .int .i64 cx, .slice zt tn zp], .bool false]) ?_ rfl ?_
        · simp [results, Tryz.results103, go_sem, *]
          try omega
        · rw [RV.out]
          exact ⟨fun _ => ⟨_, _, _, _, _, rfl⟩, (fun c ty e => by cases e), BF.out⟩
  · have y0 := y0 (by omega)
    subst y0
    have hz : w.heap.size + 1 ≤ (w.alloc (.cells #[.int .i64 0, .int .i64 0, .slice none 0 0] 69)).heap.size := by simp
    have B : Hid (∀ y, Below (w.heap.size + 1) (w.alloc (.cells #[.int .i64 0, .int .i64 0, .slice none 0 0] 69)) y → Below w.heap.size w y) := fun y hy => (bR.alloc (by first | exact Nat.le_refl _ | (simp; done) | (simp; omega)) _).trans (hy.mono (by omega))
    have XZ : Hid (∀ y, Below (w.heap.size + 1) (w.alloc (.cells #[.int .i64 0, .int .i64 0, .slice none 0 0] 69)) y → y.heap[w.heap.size]? = some (.cells #[.int .i64 0, .int .i64 0, .slice none 0 0] 69 (0, 0))) := fun y hy => (hy.block _ (by omega)).trans (boxN _ _ _ _ (by simp))
    have lZ : w.heap.size < w.heap.size + 1 := by omega
    have W0 : Hid (∀ y, Below (w.heap.size + 1) (w.alloc (.cells #[.int .i64 0, .int .i64 0, .slice none 0 0] 69)) y → y.cell? ⟨wb, wo, none⟩ = some (.int .i64 cx)) := fun y hy => ((B.out y hy).cell (p := ⟨wb, wo, none⟩) hwb).trans c0
    go_enter Tryz.func103, Tryz.ntmps103
    go_wp2_with fail
    have BP : Hid (Below (w.heap.size + 1) (w.alloc (.cells #[.int .i64 0, .int .i64 0, .slice none 0 0] 69)) (w.alloc (.cells #[.int .i64 0, .int .i64 0, .slice none 0 0] 69))) := bR
    refine (TO.out _ (B.out _ BP.out)).mono ?_
    rintro e w1 ⟨hno, hyes, hb⟩
    have hq : Below (w.heap.size + 1) (w.alloc (.cells #[.int .i64 0, .int .i64 0, .slice none 0 0] 69)) w1 := BP.out.trans (Below.mono hb (Nat.le_trans hz BP.out.size))
    have hzn : w.heap.size + 1 ≤ w1.heap.size := Nat.le_trans hz hq.size
    replace B := lF B hq hzn
    replace W0 := lF W0 hq hzn
    replace XZ := lF XZ hq hzn
    replace lZ := Nat.lt_of_lt_of_le lZ hzn
    clear hq BP hz
    have hz : w1.heap.size ≤ w1.heap.size := Nat.le_refl _
    clear hb
    cases hq : isT L cx 0
    · obtain ⟨za, zc, zt, zl, zp, rfl⟩ := hno (if_neg (by rw [hq]; simp))
      have RV : Hid (r = none) := by show _ = _; rw [← HR.out]; exact fst_no (by rw [HX.out, HY.out]; exact hq)
      clear hno hyes
      obtain ⟨kZ0, kZ1, kZ2⟩ := bk3 (XZ.out w1 bR)
      obtain ⟨qkZ0, qkZ1, qkZ2⟩ := bq3 (XZ.out w1 bR)
      go_wp2_with fail
      clear kZ0 kZ1 kZ2 qkZ0 qkZ1 qkZ2
      have BP : Hid (Below (w1.heap.size) w1 (w1.alloc (.cells #[.int .i64 za, .int .i64 zc, .slice zt zl zp] 69))) := (bR.alloc (by first | exact hz | (simp; done) | (simp; omega) | (have := hz; simp at this ⊢; omega)) _)
      replace B := lA B BP
      replace W0 := lA W0 BP
      replace XZ := lA XZ BP
      replace lZ := lL lZ
      have XT : Hid (∀ y, Below (w1.heap.size + 1) (w1.alloc (.cells #[.int .i64 za, .int .i64 zc, .slice zt zl zp] 69)) y → y.heap[w1.heap.size]? = some (.cells #[.int .i64 za, .int .i64 zc, .slice zt zl zp] 69 (0, 0))) := fun y hy => (hy.block _ (by omega)).trans (boxN _ _ _ _ (by simp))
      have lT : w1.heap.size < w1.heap.size + 1 := by omega
      replace hz : w1.heap.size + 1 ≤ ((w1.alloc (.cells #[.int .i64 za, .int .i64 zc, .slice zt zl zp] 69))).heap.size := by simp
      clear BP
      have KS : Hid (∀ x, Below (w1.heap.size + 1) (w1.alloc (.cells #[.int .i64 za, .int .i64 zc, .slice zt zl zp] 69)) x → x.cell? ⟨w1.heap.size, 0, none⟩ = some (.int .i64 za) ∧ x.cell? ⟨w1.heap.size, 1, none⟩ = some (.int .i64 zc) ∧ x.cell? ⟨w1.heap.size, 2, none⟩ = some (.slice zt zl zp)) := fun x hx => bk3 (XT.out x hx)
      refine wp_region_held_drew (S := fun x => x.cell? ⟨w1.heap.size, 0, none⟩ = some (.int .i64 za) ∧ x.cell? ⟨w1.heap.size, 1, none⟩ = some (.int .i64 zc) ∧ x.cell? ⟨w1.heap.size, 2, none⟩ = some (.slice zt zl zp)) (by kernel_rfl) ?_ (fun hHeld => ?_)
      · exact KS.out _ (bdrew bR)
      refine tV 0 (v := ?_) rfl (by kernel_rfl) (fun _ _ _ h => h) ?_ (by assumption) ?_
      rotate_left 1
      · (intro x hSx; (try dsimp only at hSx); go_simp; try with_reducible rfl)
      try simp only [Act.put, zgT, zg0, zsT, zs0, zsS]
      refine tV 1 (v := ?_) rfl (by kernel_rfl) (fun _ _ _ h => h) ?_ (by assumption) ?_
      rotate_left 1
      · (intro x hSx; (try dsimp only at hSx); go_simp; try with_reducible rfl)
      try simp only [Act.put, zgT, zg0, zgS, zsT, zs0, zsS]
      refine tV 2 (v := ?_) rfl (by kernel_rfl) (fun _ _ _ h => h) ?_ (by assumption) ?_
      rotate_left 1
      · (intro x hSx; (try dsimp only at hSx); go_simp; try with_reducible rfl)
      try simp only [Act.put, zgT, zg0, zgS, zsT, zs0, zsS]
      refine tU 3 rfl (by kernel_rfl) (fun _ _ _ h => h) (by assumption) ?_
      refine tU 4 rfl (by kernel_rfl) (fun _ _ _ h => h) (by assumption) ?_
      refine tU 5 rfl (by kernel_rfl) (fun _ _ _ h => h) (by assumption) ?_
      refine tU 6 rfl (by kernel_rfl) (fun _ _ _ h => h) (by assumption) ?_
      refine tU 7 rfl (by kernel_rfl) (fun _ _ _ h => h) (by assumption) ?_
      try simp only [Act.put, zgT, zg0, zgS, zsT, zs0, zsS]
      refine tV 8 (v := ?_) rfl (by kernel_rfl) (fun _ _ _ h => h) ?_ (by assumption) ?_
      rotate_left 1
      · (intro x hSx; (try dsimp only at hSx); go_simp; try with_reducible rfl)
      try simp only [Act.put, zgT, zg0, zgS, zsT, zs0, zsS]
      refine wpAnyH_ready (rs := [9]) (by kernel_rfl) (by simp) ?_
      refine AllReadyH.cons rfl (fun K hK => ?_) AllReadyH.nil
      obtain ⟨kZ0, kZ1, kZ2⟩ := bk3 (XZ.out (w1.alloc (.cells #[.int .i64 za, .int .i64 zc, .slice zt zl zp] 69)) bR)
      obtain ⟨qkZ0, qkZ1, qkZ2⟩ := bq3 (XZ.out (w1.alloc (.cells #[.int .i64 za, .int .i64 zc, .slice zt zl zp] 69)) bR)
      go_simp
      clear kZ0 kZ1 kZ2 qkZ0 qkZ1 qkZ2
      have hw0 : w.heap.size ≤ w.heap.size := (by first | omega | (simp; done) | (simp; omega) | (simp at *; omega))
      replace XT := lS XT lT (((((w1.alloc (.cells #[.int .i64 za, .int .i64 zc, .slice zt zl zp] 69)).setCell ⟨w.heap.size, 0, none⟩ (.int .i64 za)).setCell ⟨w.heap.size, 1, none⟩ (.int .i64 zc)).setCell ⟨w.heap.size, 2, none⟩ (.slice zt zl zp))) ((Below.heap_setCell _ _ _ _ (by first | omega | (simp; done) | (simp; omega))).trans ((Below.heap_setCell _ _ _ _ (by first | omega | (simp; done) | (simp; omega))).trans ((Below.heap_setCell _ _ _ _ (by first | omega | (simp; done) | (simp; omega))))))
      replace XZ : Hid (∀ y, Below (w1.heap.size + 1) ((((w1.alloc (.cells #[.int .i64 za, .int .i64 zc, .slice zt zl zp] 69)).setCell ⟨w.heap.size, 0, none⟩ (.int .i64 za)).setCell ⟨w.heap.size, 1, none⟩ (.int .i64 zc)).setCell ⟨w.heap.size, 2, none⟩ (.slice zt zl zp)) y → y.heap[w.heap.size]? = some (.cells #[.int .i64 za, .int .i64 zc, .slice zt zl zp] 69 (0, 0))) := fun y hy => (hy.block _ (by omega)).trans (boxS (boxS (boxS (XZ.out (w1.alloc (.cells #[.int .i64 za, .int .i64 zc, .slice zt zl zp] 69)) bR) 0 _) 1 _) 2 _)
      clear W0
      clear KS
      replace B : Hid (∀ y, Below (w1.heap.size + 1) ((((w1.alloc (.cells #[.int .i64 za, .int .i64 zc, .slice zt zl zp] 69)).setCell ⟨w.heap.size, 0, none⟩ (.int .i64 za)).setCell ⟨w.heap.size, 1, none⟩ (.int .i64 zc)).setCell ⟨w.heap.size, 2, none⟩ (.slice zt zl zp)) y → Below w.heap.size w y) := fun y hy => ((((B.out (w1.alloc (.cells #[.int .i64 za, .int .i64 zc, .slice zt zl zp] 69)) bR).setCell hw0 _).setCell hw0 _).setCell hw0 _).trans (hy.mono (by first | omega | exact Nat.le_trans (B.out (w1.alloc (.cells #[.int .i64 za, .int .i64 zc, .slice zt zl zp] 69)) bR).size hz | (have := (B.out (w1.alloc (.cells #[.int .i64 za, .int .i64 zc, .slice zt zl zp] 69)) bR).size; omega)))
      replace hz : w1.heap.size + 1 ≤ ((((w1.alloc (.cells #[.int .i64 za, .int .i64 zc, .slice zt zl zp] 69)).setCell ⟨w.heap.size, 0, none⟩ (.int .i64 za)).setCell ⟨w.heap.size, 1, none⟩ (.int .i64 zc)).setCell ⟨w.heap.size, 2, none⟩ (.slice zt zl zp)).heap.size := by first | (simp; done) | simpa using hz
      clear hw0
      replace B := lD B
      replace XZ := lD XZ
      replace XT := lD XT
      replace hz : w1.heap.size + 1 ≤ (((((w1.alloc (.cells #[.int .i64 za, .int .i64 zc, .slice zt zl zp] 69)).setCell ⟨w.heap.size, 0, none⟩ (.int .i64 za)).setCell ⟨w.heap.size, 1, none⟩ (.int .i64 zc)).setCell ⟨w.heap.size, 2, none⟩ (.slice zt zl zp)).drew).heap.size := Nat.le_trans hz (Below.size (bdrew (Below.refl (w1.heap.size + 1) ((((w1.alloc (.cells #[.int .i64 za, .int .i64 zc, .slice zt zl zp] 69)).setCell ⟨w.heap.size, 0, none⟩ (.int .i64 za)).setCell ⟨w.heap.size, 1, none⟩ (.int .i64 zc)).setCell ⟨w.heap.size, 2, none⟩ (.slice zt zl zp)))))
      have KS : Hid (∀ x, Below (w1.heap.size + 1) (((((w1.alloc (.cells #[.int .i64 za, .int .i64 zc, .slice zt zl zp] 69)).setCell ⟨w.heap.size, 0, none⟩ (.int .i64 za)).setCell ⟨w.heap.size, 1, none⟩ (.int .i64 zc)).setCell ⟨w.heap.size, 2, none⟩ (.slice zt zl zp)).drew) x → x.cell? ⟨w1.heap.size, 0, none⟩ = some (.int .i64 za) ∧ x.cell? ⟨w1.heap.size, 1, none⟩ = some (.int .i64 zc) ∧ x.cell? ⟨w1.heap.size, 2, none⟩ = some (.slice zt zl zp)) := fun x hx => bk3 (XT.out x hx)
      refine hK.out _ _ (KS.out _ bR) (fun hHeld2 => ?_)
      clear hK K
      try simp only [Act.put, zgT, zg0, zgS, zsT, zs0, zsS]
      refine tV 10 (v := ?_) rfl (by kernel_rfl) (fun _ _ _ h => h) ?_ (by assumption) ?_
      rotate_left 1
      · (intro x hSx; (try dsimp only at hSx); go_simp; try with_reducible rfl)
      try simp only [Act.put, zgT, zg0, zgS, zsT, zs0, zsS]
      refine wpAnyH_done (by kernel_rfl) ?_ _
      clear hHeld hHeld2
      clear KS
      obtain ⟨kZ0, kZ1, kZ2⟩ := bk3 (XZ.out (((((w1.alloc (.cells #[.int .i64 za, .int .i64 zc, .slice zt zl zp] 69)).setCell ⟨w.heap.size, 0, none⟩ (.int .i64 za)).setCell ⟨w.heap.size, 1, none⟩ (.int .i64 zc)).setCell ⟨w.heap.size, 2, none⟩ (.slice zt zl zp)).drew) bR)
      obtain ⟨qkZ0, qkZ1, qkZ2⟩ := bq3 (XZ.out (((((w1.alloc (.cells #[.int .i64 za, .int .i64 zc, .slice zt zl zp] 69)).setCell ⟨w.heap.size, 0, none⟩ (.int .i64 za)).setCell ⟨w.heap.size, 1, none⟩ (.int .i64 zc)).setCell ⟨w.heap.size, 2, none⟩ (.slice zt zl zp)).drew) bR)
      obtain ⟨kT0, kT1, kT2⟩ := bk3 (XT.out (((((w1.alloc (.cells #[.int .i64 za, .int .i64 zc, .slice zt zl zp] 69)).setCell ⟨w.heap.size, 0, none⟩ (.int .i64 za)).setCell ⟨w.heap.size, 1, none⟩ (.int .i64 zc)).setCell ⟨w.heap.size, 2, none⟩ (.slice zt zl zp)).drew) bR)
      go_wp2_with fail
      refine bodyPost_ret (v := .tuple #[.agg #[.int .i64 za, .int .i64 zc, .slice zt zl zp], .bool false]) ?_ rfl ?_
      · simp [results, Tryz.results103, go_sem, *]
      · rw [RV.out]
        exact ⟨fun _ => ⟨_, _, _, _, _, rfl⟩, (fun c ty e => by cases e), by (repeat (refine Below.setCell ?_ (by first | omega | (simp <;> omega)) _)); exact B.out _ (Below.refl _ _)⟩
    · obtain ⟨zt, zp, rfl, own⟩ := hyes _ _ (if_pos hq)
      have OW : Hid (w1.ownsRow (w.heap.size + 1) 3 1 (.slice zt (typ L cx 0).length zp) (typ L cx 0).length ((typ L cx 0).map (Value.int .i64))) := own_low own (by simp)
      clear hno hyes own
      have tl10 := TL.out hq
      obtain ⟨tn, htn⟩ : ∃ tn, (typ L cx 0).length = tn := ⟨_, rfl⟩
      have HTN : Hid ((typ L cx 0).length = tn) := htn
      rw [htn] at OW tl10 ⊢
      clear htn
      have hdp := hdN_pos cx
      obtain ⟨hd, hhd⟩ : ∃ hd, hdN cx = hd := ⟨_, rfl⟩
      have HHD : Hid (hdN cx = hd) := hhd
      rw [hhd] at hdp
      clear hhd
      obtain ⟨kZ0, kZ1, kZ2⟩ := bk3 (XZ.out w1 bR)
      obtain ⟨qkZ0, qkZ1, qkZ2⟩ := bq3 (XZ.out w1 bR)
      go_wp2_with fail
      clear kZ0 kZ1 kZ2 qkZ0 qkZ1 qkZ2
      have BP : Hid (Below (w1.heap.size) w1 (w1.alloc (.cells #[.int .i64 0, .int .i64 cx, .slice zt tn zp] 69))) := (bR.alloc (by first | exact hz | (simp; done) | (simp; omega) | (have := hz; simp at this ⊢; omega)) _)
      replace B := lA B BP
      replace W0 := lA W0 BP
      replace XZ := lA XZ BP
      replace lZ := lL lZ
      have XT : Hid (∀ y, Below (w1.heap.size + 1) (w1.alloc (.cells #[.int .i64 0, .int .i64 cx, .slice zt tn zp] 69)) y → y.heap[w1.heap.size]? = some (.cells #[.int .i64 0, .int .i64 cx, .slice zt tn zp] 69 (0, 0))) := fun y hy => (hy.block _ (by omega)).trans (boxN _ _ _ _ (by simp))
      have lT : w1.heap.size < w1.heap.size + 1 := by omega
      replace hz : w1.heap.size + 1 ≤ ((w1.alloc (.cells #[.int .i64 0, .int .i64 cx, .slice zt tn zp] 69))).heap.size := by simp
      clear BP
      have KS : Hid (∀ x, Below (w1.heap.size + 1) (w1.alloc (.cells #[.int .i64 0, .int .i64 cx, .slice zt tn zp] 69)) x → x.cell? ⟨w1.heap.size, 0, none⟩ = some (.int .i64 0) ∧ x.cell? ⟨w1.heap.size, 1, none⟩ = some (.int .i64 cx) ∧ x.cell? ⟨w1.heap.size, 2, none⟩ = some (.slice zt tn zp)) := fun x hx => bk3 (XT.out x hx)
      refine wp_region_held_drew (S := fun x => x.cell? ⟨w1.heap.size, 0, none⟩ = some (.int .i64 0) ∧ x.cell? ⟨w1.heap.size, 1, none⟩ = some (.int .i64 cx) ∧ x.cell? ⟨w1.heap.size, 2, none⟩ = some (.slice zt tn zp)) (by kernel_rfl) ?_ (fun hHeld => ?_)
      · exact KS.out _ (bdrew bR)
      refine tV 0 (v := ?_) rfl (by kernel_rfl) (fun _ _ _ h => h) ?_ (by assumption) ?_
      rotate_left 1
      · (intro x hSx; (try dsimp only at hSx); go_simp; try with_reducible rfl)
      try simp only [Act.put, zgT, zg0, zsT, zs0, zsS]
      refine tV 1 (v := ?_) rfl (by kernel_rfl) (fun _ _ _ h => h) ?_ (by assumption) ?_
      rotate_left 1
      · (intro x hSx; (try dsimp only at hSx); go_simp; try with_reducible rfl)
      try simp only [Act.put, zgT, zg0, zgS, zsT, zs0, zsS]
      refine tV 2 (v := ?_) rfl (by kernel_rfl) (fun _ _ _ h => h) ?_ (by assumption) ?_
      rotate_left 1
      · (intro x hSx; (try dsimp only at hSx); go_simp; try with_reducible rfl)
      try simp only [Act.put, zgT, zg0, zgS, zsT, zs0, zsS]
      refine tV 3 (v := ?_) rfl (by kernel_rfl) (fun _ _ _ h => h) ?_ (by assumption) ?_
      rotate_left 1
      · (intro x hSx; (try dsimp only at hSx); go_simp; try with_reducible rfl)
      try simp only [Act.put, zgT, zg0, zgS, zsT, zs0, zsS]
      refine tV 5 (v := ?_) rfl (by kernel_rfl) (fun _ _ _ h => h) ?_ (by assumption) ?_
      rotate_left 1
      · (intro x hSx; (try dsimp only at hSx); go_simp; try with_reducible rfl)
      try simp only [Act.put, zgT, zg0, zgS, zsT, zs0, zsS]
      refine tV 6 (v := ?_) rfl (by kernel_rfl) (fun _ _ _ h => h) ?_ (by assumption) ?_
      rotate_left 1
      · (intro x hSx; (try dsimp only at hSx); go_simp; try with_reducible rfl)
      try simp only [Act.put, zgT, zg0, zgS, zsT, zs0, zsS]
      refine wpAnyH_ready (rs := [4]) (by kernel_rfl) (by simp) ?_
      refine AllReadyH.cons rfl (fun K hK => ?_) AllReadyH.nil
      go_simp
      go_at_call 75
      have BP : Hid (Below (w1.heap.size + 1) (w1.alloc (.cells #[.int .i64 0, .int .i64 cx, .slice zt tn zp] 69)) (w1.alloc (.cells #[.int .i64 0, .int .i64 cx, .slice zt tn zp] 69)).drew) := (bdrew bR)
      refine (sizeImpl 0 cx zt tn zp _ (by omega)).mono ?_
      rintro e w2 ⟨rfl, hb⟩
      have OW2 : Hid (w2.ownsRow (w.heap.size + 1) 3 1 (.slice zt tn zp) tn ((typ L cx 0).map (Value.int .i64))) := own_later OW.out ((BP.out.trans (Below.mono hb (Nat.le_trans hz BP.out.size))).mono (by simp) |> fun q => ((Below.refl _ _).alloc (Nat.le_refl _) _).trans q)
      rw [HHD.out]
      have hq : Below (w1.heap.size + 1) (w1.alloc (.cells #[.int .i64 0, .int .i64 cx, .slice zt tn zp] 69)) w2 := BP.out.trans (Below.mono hb (Nat.le_trans hz BP.out.size))
      have hzn : w1.heap.size + 1 ≤ w2.heap.size := Nat.le_trans hz hq.size
      replace B := lF B hq hzn
      replace W0 := lF W0 hq hzn
      replace KS := lF KS hq hzn
      replace XZ := lF XZ hq hzn
      replace lZ := Nat.lt_of_lt_of_le lZ hzn
      replace XT := lF XT hq hzn
      replace lT := Nat.lt_of_lt_of_le lT hzn
      clear hq BP hz
      have hz : w2.heap.size ≤ w2.heap.size := Nat.le_refl _
      clear hb
      go_wp2_with fail
      refine hK.out _ _ (KS.out _ bR) (fun hHeld2 => ?_)
      clear hK K
      try simp only [Act.put, zgT, zg0, zgS, zsT, zs0, zsS]
      refine tV 7 (v := ?_) rfl (by kernel_rfl) (fun _ _ _ h => h) ?_ (by assumption) ?_
      rotate_left 1
      · (intro x hSx; (try dsimp only at hSx); go_simp; try with_reducible rfl)
      try simp only [Act.put, zgT, zg0, zgS, zsT, zs0, zsS]
      refine tV 8 (v := ?_) rfl (by kernel_rfl) (fun _ _ _ h => h) ?_ (by assumption) ?_
      rotate_left 1
      · (intro x hSx; (try dsimp only at hSx); go_simp; try with_reducible rfl)
      try simp only [Act.put, zgT, zg0, zgS, zsT, zs0, zsS]
      refine wpAnyH_ready (rs := [9]) (by kernel_rfl) (by simp) ?_
      refine AllReadyH.cons rfl (fun K hK => ?_) AllReadyH.nil
      obtain ⟨kZ0, kZ1, kZ2⟩ := bk3 (XZ.out w2 bR)
      obtain ⟨qkZ0, qkZ1, qkZ2⟩ := bq3 (XZ.out w2 bR)
      go_simp
      clear kZ0 kZ1 kZ2 qkZ0 qkZ1 qkZ2
      have hw0 : w.heap.size ≤ w.heap.size := (by first | omega | (simp; done) | (simp; omega) | (simp at *; omega))
      replace XT := lS XT lT ((((w2.setCell ⟨w.heap.size, 0, none⟩ (.int .i64 0)).setCell ⟨w.heap.size, 1, none⟩ (.int .i64 cx)).setCell ⟨w.heap.size, 2, none⟩ (.slice zt tn zp))) ((Below.heap_setCell _ _ _ _ (by first | omega | (simp; done) | (simp; omega))).trans ((Below.heap_setCell _ _ _ _ (by first | omega | (simp; done) | (simp; omega))).trans ((Below.heap_setCell _ _ _ _ (by first | omega | (simp; done) | (simp; omega))))))
      replace XZ : Hid (∀ y, Below (w2.heap.size) (((w2.setCell ⟨w.heap.size, 0, none⟩ (.int .i64 0)).setCell ⟨w.heap.size, 1, none⟩ (.int .i64 cx)).setCell ⟨w.heap.size, 2, none⟩ (.slice zt tn zp)) y → y.heap[w.heap.size]? = some (.cells #[.int .i64 0, .int .i64 cx, .slice zt tn zp] 69 (0, 0))) := fun y hy => (hy.block _ (by omega)).trans (boxS (boxS (boxS (XZ.out w2 bR) 0 _) 1 _) 2 _)
      clear W0
      clear KS
      replace B : Hid (∀ y, Below (w2.heap.size) (((w2.setCell ⟨w.heap.size, 0, none⟩ (.int .i64 0)).setCell ⟨w.heap.size, 1, none⟩ (.int .i64 cx)).setCell ⟨w.heap.size, 2, none⟩ (.slice zt tn zp)) y → Below w.heap.size w y) := fun y hy => ((((B.out w2 bR).setCell hw0 _).setCell hw0 _).setCell hw0 _).trans (hy.mono (by first | omega | exact Nat.le_trans (B.out w2 bR).size hz | (have := (B.out w2 bR).size; omega)))
      replace hz : w2.heap.size ≤ (((w2.setCell ⟨w.heap.size, 0, none⟩ (.int .i64 0)).setCell ⟨w.heap.size, 1, none⟩ (.int .i64 cx)).setCell ⟨w.heap.size, 2, none⟩ (.slice zt tn zp)).heap.size := by first | (simp; done) | simpa using hz
      clear hw0
      have KS : Hid (∀ x, Below (w2.heap.size) (((w2.setCell ⟨w.heap.size, 0, none⟩ (.int .i64 0)).setCell ⟨w.heap.size, 1, none⟩ (.int .i64 cx)).setCell ⟨w.heap.size, 2, none⟩ (.slice zt tn zp)) x → x.cell? ⟨w1.heap.size, 0, none⟩ = some (.int .i64 0) ∧ x.cell? ⟨w1.heap.size, 1, none⟩ = some (.int .i64 cx) ∧ x.cell? ⟨w1.heap.size, 2, none⟩ = some (.slice zt tn zp)) := fun x hx => bk3 (XT.out x hx)
      refine hK.out _ _ (KS.out _ bR) (fun hHeld3 => ?_)
      clear hK K
      try simp only [Act.put, zgT, zg0, zgS, zsT, zs0, zsS]
      refine tV 10 (v := ?_) rfl (by kernel_rfl) (fun _ _ _ h => h) ?_ (by assumption) ?_
      rotate_left 1
      · (intro x hSx; (try dsimp only at hSx); go_simp; try with_reducible rfl)
      try simp only [Act.put, zgT, zg0, zgS, zsT, zs0, zsS]
      refine wpAnyH_done (by kernel_rfl) ?_ _
      clear hHeld hHeld2 hHeld3
      clear KS
      have OW3 : Hid ((((w2.setCell ⟨w.heap.size, 0, none⟩ (.int .i64 0)).setCell ⟨w.heap.size, 1, none⟩ (.int .i64 cx)).setCell ⟨w.heap.size, 2, none⟩ (.slice zt tn zp)).ownsRow w.heap.size 3 1 (.slice zt tn zp) tn ((typ L cx 0).map (Value.int .i64))) := by
        refine own_low (base := w.heap.size + 1) ?_ (by omega)
        (repeat (refine own_set ?_ _ _ (by first | (simp; done) | (simp; omega))))
        exact OW2.out
      have BF : Hid (Below w.heap.size w (((w2.setCell ⟨w.heap.size, 0, none⟩ (.int .i64 0)).setCell ⟨w.heap.size, 1, none⟩ (.int .i64 cx)).setCell ⟨w.heap.size, 2, none⟩ (.slice zt tn zp))) := B.out _ (Below.refl _ _)
      by_cases hle : hd + tn ≤ wl
      · have RV : Hid (r = some (cx, typ L cx 0)) := by show _ = _; rw [← HR.out, fst_yes (by rw [HX.out, HY.out]; exact hq) (by rw [HX.out, HY.out, HHD.out, HTN.out, WS.out]; exact hle), HX.out, HY.out]
        obtain ⟨kZ0, kZ1, kZ2⟩ := bk3 (XZ.out (((w2.setCell ⟨w.heap.size, 0, none⟩ (.int .i64 0)).setCell ⟨w.heap.size, 1, none⟩ (.int .i64 cx)).setCell ⟨w.heap.size, 2, none⟩ (.slice zt tn zp)) bR)
        obtain ⟨qkZ0, qkZ1, qkZ2⟩ := bq3 (XZ.out (((w2.setCell ⟨w.heap.size, 0, none⟩ (.int .i64 0)).setCell ⟨w.heap.size, 1, none⟩ (.int .i64 cx)).setCell ⟨w.heap.size, 2, none⟩ (.slice zt tn zp)) bR)
        obtain ⟨kT0, kT1, kT2⟩ := bk3 (XT.out (((w2.setCell ⟨w.heap.size, 0, none⟩ (.int .i64 0)).setCell ⟨w.heap.size, 1, none⟩ (.int .i64 cx)).setCell ⟨w.heap.size, 2, none⟩ (.slice zt tn zp)) bR)
        go_wp2_with fail
        refine bodyPost_ret (v := .tuple #[.agg #[.int .i64 0, .int .i64 cx, .slice zt tn zp], .bool true]) ?_ rfl ?_
        · simp [results, Tryz.results103, go_sem, *]
          try omega
        · rw [RV.out]
          exact ⟨(fun e => by cases e), (fun c ty e => by
            cases e
            rw [HTN.out]
            exact ⟨_, _, rfl, OW3.out⟩), BF.out⟩
      · have RV : Hid (r = none) := by show _ = _; rw [← HR.out]; exact fst_big (by rw [HX.out, HY.out, HHD.out, HTN.out, WS.out]; omega)
        obtain ⟨kZ0, kZ1, kZ2⟩ := bk3 (XZ.out (((w2.setCell ⟨w.heap.size, 0, none⟩ (.int .i64 0)).setCell ⟨w.heap.size, 1, none⟩ (.int .i64 cx)).setCell ⟨w.heap.size, 2, none⟩ (.slice zt tn zp)) bR)
        obtain ⟨qkZ0, qkZ1, qkZ2⟩ := bq3 (XZ.out (((w2.setCell ⟨w.heap.size, 0, none⟩ (.int .i64 0)).setCell ⟨w.heap.size, 1, none⟩ (.int .i64 cx)).setCell ⟨w.heap.size, 2, none⟩ (.slice zt tn zp)) bR)
        obtain ⟨kT0, kT1, kT2⟩ := bk3 (XT.out (((w2.setCell ⟨w.heap.size, 0, none⟩ (.int .i64 0)).setCell ⟨w.heap.size, 1, none⟩ (.int .i64 cx)).setCell ⟨w.heap.size, 2, none⟩ (.slice zt tn zp)) bR)
        go_wp2_with fail
        refine bodyPost_ret (v := .tuple #[.agg #[.int .i64 0, .int .i64 cx, .slice zt tn zp], .bool false]) ?_ rfl ?_
        · simp [results, Tryz.results103, go_sem, *]
          try omega
        · rw [RV.out]
          exact ⟨fun _ => ⟨_, _, _, _, _, rfl⟩, (fun c ty e => by cases e), BF.out⟩

end Go.Proofs.YtjbmcdekhhbiaaaGreat
