/-
  Whether what is in a thing is ok, by the program: what it says; it writes nothing that was there.
-/
import Derived.Test.YtjbmcdekhhbiaaaGreatMemIf
import Derived.Test.YtjbmcdekhhbiaaaGreatMemSf
namespace Go.Proofs.YtjbmcdekhhbiaaaGreat
open Go.ChangeShapes Go.WideShapes Go.ChangeAt Go.RowKit
set_option linter.unusedVariables false

set_option maxRecDepth 100000 in
set_option maxHeartbeats 8000000 in
theorem allMayImpl (ca : Option Addr) (cn cc wb wo wl wc yg tp od : Nat) (da : Option Addr) (dl dc pc ol oc ou : Nat) (ta : Option Addr) (tl tc : Nat) (ra : Option Addr) (n rc : Nat) (ya : Option Addr) (yl yc : Nat) (T : List Th) (ty vs : List Int) (w : World) {D D2 G : Nat → Prop} (h : SlAt thR D w ta tl T) (hi : Inc T) (hl : tl ≤ 1000) (hvs : IntsAt G w ra n vs) (hty : IntsAt D2 w ya yl ty) (hn : n ≤ 1000) (hyl : yl ≤ 1000) :
    Calls Tryz.prog 122 #[.agg #[.slice ca cn cc, .slice (some ⟨wb, wo, none⟩) wl wc, .int .i64 (yg : Nat), .int .i64 (tp : Nat), .int .i64 (od : Nat), .slice da dl dc, .slice (some ⟨wb, wo, none⟩) yg pc, .int .i64 0, .int .i64 (tp : Nat), .slice (some ⟨wb, wo + yg, none⟩) ol oc, .int .i64 (yg : Nat), .int .i64 (ou : Nat), .slice ta tl tc], .slice ra n rc, .slice ya yl yc] w fun e w' => e = .returned (.bool (decide (n ≤ yl) && (List.range n).all (fun k => mayA T (ty.getD k 0) (vs.getD k 0)))) ∧ Below w.heap.size w w' := by
  have HV : Hid (IntsAt G w ra n vs) := hvs
  have HT : Hid (IntsAt D2 w ya yl ty) := hty
  have H : Hid (SlAt thR D w ta tl T) := h
  have IN : Hid (Inc T) := hi
  obtain ⟨Q, hQ⟩ : ∃ Q : Nat → Bool, Q = (fun k => mayA T (ty.getD k 0) (vs.getD k 0)) := ⟨_, rfl⟩
  have HQ : Hid (Q = (fun k => mayA T (ty.getD k 0) (vs.getD k 0))) := hQ
  rw [← hQ]
  clear hvs hty h hi hQ
  have hz : w.heap.size + 1 ≤ (w.alloc (.cells #[.slice ca cn cc, .slice (some ⟨wb, wo, none⟩) wl wc, .int .i64 (yg : Nat), .int .i64 (tp : Nat), .int .i64 (od : Nat), .slice da dl dc, .slice (some ⟨wb, wo, none⟩) yg pc, .int .i64 0, .int .i64 (tp : Nat), .slice (some ⟨wb, wo + yg, none⟩) ol oc, .int .i64 (yg : Nat), .int .i64 (ou : Nat), .slice ta tl tc] 65)).heap.size := by simp
  have B : Hid (∀ y, Below (w.heap.size + 1) (w.alloc (.cells #[.slice ca cn cc, .slice (some ⟨wb, wo, none⟩) wl wc, .int .i64 (yg : Nat), .int .i64 (tp : Nat), .int .i64 (od : Nat), .slice da dl dc, .slice (some ⟨wb, wo, none⟩) yg pc, .int .i64 0, .int .i64 (tp : Nat), .slice (some ⟨wb, wo + yg, none⟩) ol oc, .int .i64 (yg : Nat), .int .i64 (ou : Nat), .slice ta tl tc] 65)) y → Below w.heap.size w y) := fun y hy => (bR.alloc (by first | exact Nat.le_refl _ | (simp; done) | (simp; omega)) _).trans (hy.mono (by omega))
  have XM : Hid (∀ y, Below (w.heap.size + 1) (w.alloc (.cells #[.slice ca cn cc, .slice (some ⟨wb, wo, none⟩) wl wc, .int .i64 (yg : Nat), .int .i64 (tp : Nat), .int .i64 (od : Nat), .slice da dl dc, .slice (some ⟨wb, wo, none⟩) yg pc, .int .i64 0, .int .i64 (tp : Nat), .slice (some ⟨wb, wo + yg, none⟩) ol oc, .int .i64 (yg : Nat), .int .i64 (ou : Nat), .slice ta tl tc] 65)) y → y.heap[w.heap.size]? = some (.cells #[.slice ca cn cc, .slice (some ⟨wb, wo, none⟩) wl wc, .int .i64 (yg : Nat), .int .i64 (tp : Nat), .int .i64 (od : Nat), .slice da dl dc, .slice (some ⟨wb, wo, none⟩) yg pc, .int .i64 0, .int .i64 (tp : Nat), .slice (some ⟨wb, wo + yg, none⟩) ol oc, .int .i64 (yg : Nat), .int .i64 (ou : Nat), .slice ta tl tc] 65 (0, 0))) := fun y hy => (hy.block _ (by omega)).trans (boxN _ _ _ _ (by simp))
  have lM : w.heap.size < w.heap.size + 1 := by omega
  by_cases hc : yl < n
  · go_enter Tryz.func122, Tryz.ntmps122
    go_wp2_with fail
    go_ret
    exact ⟨by rw [show decide (n ≤ yl) = false by simp; omega]; rfl, B.out _ bR⟩
  have DC : Hid (decide (n ≤ yl) = true) := by show _ = _; simp; omega
  go_enter Tryz.func122, Tryz.ntmps122
  go_wp2_with fail
  generalize (w.alloc (.cells #[.slice ca cn cc, .slice (some ⟨wb, wo, none⟩) wl wc, .int .i64 (yg : Nat), .int .i64 (tp : Nat), .int .i64 (od : Nat), .slice da dl dc, .slice (some ⟨wb, wo, none⟩) yg pc, .int .i64 0, .int .i64 (tp : Nat), .slice (some ⟨wb, wo + yg, none⟩) ol oc, .int .i64 (yg : Nat), .int .i64 (ou : Nat), .slice ta tl tc] 65)) = w1 at B XM hz ⊢
  have hzn : w.heap.size + 1 ≤ w1.heap.size := Nat.le_trans hz (Below.size (Below.refl (w.heap.size + 1) w1))
  replace B := lF B (Below.refl (w.heap.size + 1) w1) hzn
  replace XM := lF XM (Below.refl (w.heap.size + 1) w1) hzn
  replace lM := Nat.lt_of_lt_of_le lM hzn
  clear hz
  have hz : w1.heap.size ≤ w1.heap.size := Nat.le_refl _
  go_loopw [16] (fun t wr => ∃ k : Nat, k ≤ n ∧ t = .int .i64 k ∧ (List.range k).all Q = true ∧ Below w1.heap.size w1 wr) (fun t _ => n - (intOf t).toNat)
  case atStart => exact ⟨0, Nat.zero_le _, rfl, rfl, Below.refl _ _⟩
  case round =>
    obtain ⟨k, hk, rfl, hall, hr⟩ := hrel
    have HA : Hid ((List.range k).all Q = true) := hall
    have HR1 : Hid (Below w1.heap.size w1 wr) := hr
    clear hall
    have hzn : w1.heap.size ≤ wr.heap.size := Nat.le_trans hz (Below.size hr)
    replace B := lF B hr hzn
    replace XM := lF XM hr hzn
    replace lM := Nat.lt_of_lt_of_le lM hzn
    clear hz
    have hz : wr.heap.size ≤ wr.heap.size := Nat.le_refl _
    clear hr
    by_cases hlt : k < n
    · have hky : k < yl := by omega
      obtain ⟨_, _, rfl, _, hcs⟩ := (HV.out.later (B.out wr bR)).one k (by omega)
      have cW := hcs k (by omega)
      obtain ⟨v, hv⟩ : ∃ v, vs.getD k 0 = v := ⟨_, rfl⟩
      rw [hv] at cW
      have hvf := HV.out.fits k
      rw [hv] at hvf
      obtain ⟨yb, yo, rfl, _, hct⟩ := (HT.out.later (B.out wr bR)).one k (by omega)
      have cT := hct k (by omega)
      obtain ⟨t1, ht1⟩ : ∃ t1, ty.getD k 0 = t1 := ⟨_, rfl⟩
      rw [ht1] at cT
      have hyb := World.block_lt_of_cell? wr _ cT
      simp only at hyb
      have KT : Hid (∀ y, Below wr.heap.size wr y → y.cell? ⟨yb, yo + k, none⟩ = some (.int .i64 t1)) := fun y hy => (hy.cell (p := ⟨yb, yo + k, none⟩) hyb).trans cT
      clear hcs hct
      have QK : Hid (Q k = mayA T t1 v) := by show _ = _; rw [HQ.out]; show mayA T (ty.getD k 0) (vs.getD k 0) = _; rw [ht1, hv]
      clear hv ht1
      obtain ⟨kM0, kM1, kM2, kM3, kM4, kM5, kM6, kM7, kM8, kM9, kM10, kM11, kM12⟩ := bk13 (XM.out wr bR)
      go_wp2_with fail
      clear kM0 kM1 kM2 kM3 kM4 kM5 kM6 kM7 kM8 kM9 kM10 kM11 kM12
      clear cW cT
      have KS : Hid (∀ x, Below (wr.heap.size) wr x → x.cell? ⟨w.heap.size, 0, none⟩ = some (.slice ca cn cc) ∧ x.cell? ⟨w.heap.size, 1, none⟩ = some (.slice (some ⟨wb, wo, none⟩) wl wc) ∧ x.cell? ⟨w.heap.size, 2, none⟩ = some (.int .i64 (yg : Nat)) ∧ x.cell? ⟨w.heap.size, 3, none⟩ = some (.int .i64 (tp : Nat)) ∧ x.cell? ⟨w.heap.size, 4, none⟩ = some (.int .i64 (od : Nat)) ∧ x.cell? ⟨w.heap.size, 5, none⟩ = some (.slice da dl dc) ∧ x.cell? ⟨w.heap.size, 6, none⟩ = some (.slice (some ⟨wb, wo, none⟩) yg pc) ∧ x.cell? ⟨w.heap.size, 7, none⟩ = some (.int .i64 0) ∧ x.cell? ⟨w.heap.size, 8, none⟩ = some (.int .i64 (tp : Nat)) ∧ x.cell? ⟨w.heap.size, 9, none⟩ = some (.slice (some ⟨wb, wo + yg, none⟩) ol oc) ∧ x.cell? ⟨w.heap.size, 10, none⟩ = some (.int .i64 (yg : Nat)) ∧ x.cell? ⟨w.heap.size, 11, none⟩ = some (.int .i64 (ou : Nat)) ∧ x.cell? ⟨w.heap.size, 12, none⟩ = some (.slice ta tl tc) ∧ x.cell? ⟨yb, yo + k, none⟩ = some (.int .i64 t1)) := fun x hx => ⟨(boxG (XM.out x hx) 0).1, (boxG (XM.out x hx) 1).1, (boxG (XM.out x hx) 2).1, (boxG (XM.out x hx) 3).1, (boxG (XM.out x hx) 4).1, (boxG (XM.out x hx) 5).1, (boxG (XM.out x hx) 6).1, (boxG (XM.out x hx) 7).1, (boxG (XM.out x hx) 8).1, (boxG (XM.out x hx) 9).1, (boxG (XM.out x hx) 10).1, (boxG (XM.out x hx) 11).1, (boxG (XM.out x hx) 12).1, KT.out x hx⟩
      refine wp_region_held_drew (S := fun x => x.cell? ⟨w.heap.size, 0, none⟩ = some (.slice ca cn cc) ∧ x.cell? ⟨w.heap.size, 1, none⟩ = some (.slice (some ⟨wb, wo, none⟩) wl wc) ∧ x.cell? ⟨w.heap.size, 2, none⟩ = some (.int .i64 (yg : Nat)) ∧ x.cell? ⟨w.heap.size, 3, none⟩ = some (.int .i64 (tp : Nat)) ∧ x.cell? ⟨w.heap.size, 4, none⟩ = some (.int .i64 (od : Nat)) ∧ x.cell? ⟨w.heap.size, 5, none⟩ = some (.slice da dl dc) ∧ x.cell? ⟨w.heap.size, 6, none⟩ = some (.slice (some ⟨wb, wo, none⟩) yg pc) ∧ x.cell? ⟨w.heap.size, 7, none⟩ = some (.int .i64 0) ∧ x.cell? ⟨w.heap.size, 8, none⟩ = some (.int .i64 (tp : Nat)) ∧ x.cell? ⟨w.heap.size, 9, none⟩ = some (.slice (some ⟨wb, wo + yg, none⟩) ol oc) ∧ x.cell? ⟨w.heap.size, 10, none⟩ = some (.int .i64 (yg : Nat)) ∧ x.cell? ⟨w.heap.size, 11, none⟩ = some (.int .i64 (ou : Nat)) ∧ x.cell? ⟨w.heap.size, 12, none⟩ = some (.slice ta tl tc) ∧ x.cell? ⟨yb, yo + k, none⟩ = some (.int .i64 t1)) (by kernel_rfl) ?_ (fun hHeld => ?_)
      · exact KS.out _ (bdrew bR)
      refine tV 0 (v := ?_) rfl (by kernel_rfl) (fun _ _ _ h => h) ?_ (by assumption) ?_
      rotate_left 1
      · (intro x hSx; (try dsimp only at hSx); go_simp; try with_reducible rfl)
      try simp only [Act.put, zgT, zg0, zsT, zs0, zsS]
      refine tV 1 (v := ?_) rfl (by kernel_rfl) (fun _ _ _ h => h) ?_ (by assumption) ?_
      rotate_left 1
      · (intro x hSx; (try dsimp only at hSx); go_simp; try with_reducible rfl)
      try simp only [Act.put, zgT, zg0, zgS, zsT, zs0, zsS]
      refine tV 2 (v := ?_) rfl (by kernel_rfl) (fun _ _ _ h => h) ?_ (by assumption) ?_
      rotate_left 1
      · (intro x hSx; (try dsimp only at hSx); go_simp; try with_reducible rfl)
      try simp only [Act.put, zgT, zg0, zgS, zsT, zs0, zsS]
      refine tV 3 (v := ?_) rfl (by kernel_rfl) (fun _ _ _ h => h) ?_ (by assumption) ?_
      rotate_left 1
      · (intro x hSx; (try dsimp only at hSx); go_simp; try with_reducible rfl)
      try simp only [Act.put, zgT, zg0, zgS, zsT, zs0, zsS]
      refine tV 4 (v := ?_) rfl (by kernel_rfl) (fun _ _ _ h => h) ?_ (by assumption) ?_
      rotate_left 1
      · (intro x hSx; (try dsimp only at hSx); go_simp; try with_reducible rfl)
      try simp only [Act.put, zgT, zg0, zgS, zsT, zs0, zsS]
      refine tV 5 (v := ?_) rfl (by kernel_rfl) (fun _ _ _ h => h) ?_ (by assumption) ?_
      rotate_left 1
      · (intro x hSx; (try dsimp only at hSx); go_simp; try with_reducible rfl)
      try simp only [Act.put, zgT, zg0, zgS, zsT, zs0, zsS]
      refine wpAnyH_ready (rs := [6]) (by kernel_rfl) (by simp) ?_
      refine AllReadyH.cons rfl (fun K hK => ?_) AllReadyH.nil
      go_simp
      go_at_call 52
      have BP : Hid (Below (wr.heap.size) wr wr.drew) := (bdrew bR)
      refine (mayImpl ca cn cc wb wo wl wc yg tp od da dl dc pc ol oc ou ta tl tc T v t1 _ (H.out.later (B.out _ BP.out)) IN.out hl hvf).mono ?_
      rintro e w2 ⟨rfl, hb⟩
      have HR2 : Hid (Below w1.heap.size w1 w2) := HR1.out.trans ((BP.out.trans (hb.mono BP.out.size)).mono HR1.out.size)
      obtain ⟨q, hq⟩ : ∃ q, mayA T t1 v = q := ⟨_, rfl⟩
      have QQ : Hid (Q k = q) := QK.out.trans hq
      rw [hq]
      clear hq
      have hq : Below (wr.heap.size) wr w2 := BP.out.trans (Below.mono hb (Nat.le_trans hz BP.out.size))
      have hzn : wr.heap.size ≤ w2.heap.size := Nat.le_trans hz hq.size
      replace B := lF B hq hzn
      replace KS := lF KS hq hzn
      replace XM := lF XM hq hzn
      replace lM := Nat.lt_of_lt_of_le lM hzn
      clear hq BP hz
      have hz : w2.heap.size ≤ w2.heap.size := Nat.le_refl _
      clear hb
      go_wp2_with fail
      refine hK.out _ _ (KS.out _ bR) (fun hHeld2 => ?_)
      clear hK K
      try simp only [Act.put, zgT, zg0, zgS, zsT, zs0, zsS]
      refine tV 7 (v := ?_) rfl (by kernel_rfl) (fun _ _ _ h => h) ?_ (by assumption) ?_
      rotate_left 1
      · (intro x hSx; (try dsimp only at hSx); go_simp; try with_reducible rfl)
      try simp only [Act.put, zgT, zg0, zgS, zsT, zs0, zsS]
      refine wpAnyH_done (by kernel_rfl) ?_ _
      clear hHeld hHeld2
      clear KS
      cases q
      · obtain ⟨kM0, kM1, kM2, kM3, kM4, kM5, kM6, kM7, kM8, kM9, kM10, kM11, kM12⟩ := bk13 (XM.out w2 bR)
        go_wp2_with fail
        go_ret
        exact ⟨by rw [DC.out, rng_no' hlt QQ.out]; rfl, B.out w2 bR⟩
      obtain ⟨kM0, kM1, kM2, kM3, kM4, kM5, kM6, kM7, kM8, kM9, kM10, kM11, kM12⟩ := bk13 (XM.out w2 bR)
      go_wp2_with fail
      exact ⟨⟨k + 1, by omega, by go_num, by rw [rng_on', HA.out, QQ.out]; rfl, HR2.out⟩, by simp [intOf]; omega⟩
    · have ek : n = k := by omega
      subst ek
      obtain ⟨kM0, kM1, kM2, kM3, kM4, kM5, kM6, kM7, kM8, kM9, kM10, kM11, kM12⟩ := bk13 (XM.out wr bR)
      go_wp2_with fail
      go_ret
      exact ⟨by rw [DC.out, HA.out]; rfl, B.out wr bR⟩

theorem may_eq {T : List Th} {ty ws vs : List Int} {lo yl : Nat} (hz : ∀ k, k < yl → ty.getD k 0 ≠ 0) (hv : ∀ k, k < yl → vs.getD k 0 = ws.getD (lo + k) 0) : (decide (yl ≤ yl) && (List.range yl).all (fun k => mayA T (ty.getD k 0) (vs.getD k 0))) = (List.range yl).all (fun k => mayV T (ty.getD k 0) (ws.getD (lo + k) 0)) := by
  rw [show decide (yl ≤ yl) = true by simp, Bool.true_and, Bool.eq_iff_iff, List.all_eq_true, List.all_eq_true]
  have key : ∀ k ∈ List.range yl, mayA T (ty.getD k 0) (vs.getD k 0) = mayV T (ty.getD k 0) (ws.getD (lo + k) 0) := fun k hk => by
    have hk := List.mem_range.1 hk
    rw [hv k hk]
    unfold mayA
    rw [show (ty.getD k 0 == 0) = false by simpa using hz k hk, Bool.false_or]
  exact ⟨fun h k hk => by rw [← key k hk]; exact h k hk, fun h k hk => by rw [key k hk]; exact h k hk⟩
set_option maxRecDepth 100000 in
set_option maxHeartbeats 8000000 in
theorem valuesImpl (ca : Option Addr) (cn cc wb wo wl wc yg tp od : Nat) (da : Option Addr) (dl dc pc ol oc ou : Nat) (ta : Option Addr) (tl tc : Nat) (p : Nat) (c0 : Int) (ya : Option Addr) (yl yc : Nat) (T : List Th) (ty ws : List Int) (cd : List Bool) (w : World) {D D2 G G2 : Nat → Prop} (h : SlAt thR D w ta tl T) (hi : Inc T) (hl : tl ≤ 1000) (hw : IntsAt G w (some ⟨wb, wo, none⟩) wl ws) (hty : IntsAt D2 w ya yl ty) (hc : SlAt boolR G2 w da dl cd) (h1 : p + hdN c0 + yl ≤ wl) (h2 : wl ≤ wc) (h3 : wl ≤ 1000) (hdl : wl ≤ yg + dl * 4) (htz : ∀ k, k < yl → ty.getD k 0 ≠ 0) :
    Calls Tryz.prog 107 #[.agg #[.slice ca cn cc, .slice (some ⟨wb, wo, none⟩) wl wc, .int .i64 (yg : Nat), .int .i64 (tp : Nat), .int .i64 (od : Nat), .slice da dl dc, .slice (some ⟨wb, wo, none⟩) yg pc, .int .i64 0, .int .i64 (tp : Nat), .slice (some ⟨wb, wo + yg, none⟩) ol oc, .int .i64 (yg : Nat), .int .i64 (ou : Nat), .slice ta tl tc], .agg #[.int .i64 ((p : Int) + 1), .int .i64 c0, .slice ya yl yc]] w fun e w' => e = .returned (.bool ((List.range yl).all (fun k => mayV T (ty.getD k 0) (ws.getD (p + hdN c0 + k) 0)))) ∧ Below w.heap.size w w' := by
  have HW : Hid (IntsAt G w (some ⟨wb, wo, none⟩) wl ws) := hw
  have HT : Hid (IntsAt D2 w ya yl ty) := hty
  have H : Hid (SlAt thR D w ta tl T) := h
  have IN : Hid (Inc T) := hi
  have hdp := hdN_pos c0
  have HZ : Hid (∀ k, k < yl → ty.getD k 0 ≠ 0) := htz
  clear hw hty h hi htz
  have hz : w.heap.size + 1 + 1 ≤ ((w.alloc (.cells #[.slice ca cn cc, .slice (some ⟨wb, wo, none⟩) wl wc, .int .i64 (yg : Nat), .int .i64 (tp : Nat), .int .i64 (od : Nat), .slice da dl dc, .slice (some ⟨wb, wo, none⟩) yg pc, .int .i64 0, .int .i64 (tp : Nat), .slice (some ⟨wb, wo + yg, none⟩) ol oc, .int .i64 (yg : Nat), .int .i64 (ou : Nat), .slice ta tl tc] 65)).alloc (.cells #[.int .i64 ((p : Int) + 1), .int .i64 c0, .slice ya yl yc] 69)).heap.size := by simp
  have B : Hid (∀ y, Below (w.heap.size + 1 + 1) ((w.alloc (.cells #[.slice ca cn cc, .slice (some ⟨wb, wo, none⟩) wl wc, .int .i64 (yg : Nat), .int .i64 (tp : Nat), .int .i64 (od : Nat), .slice da dl dc, .slice (some ⟨wb, wo, none⟩) yg pc, .int .i64 0, .int .i64 (tp : Nat), .slice (some ⟨wb, wo + yg, none⟩) ol oc, .int .i64 (yg : Nat), .int .i64 (ou : Nat), .slice ta tl tc] 65)).alloc (.cells #[.int .i64 ((p : Int) + 1), .int .i64 c0, .slice ya yl yc] 69)) y → Below w.heap.size w y) := fun y hy => ((bR.alloc (by first | exact Nat.le_refl _ | (simp; done) | (simp; omega)) _).alloc (by first | exact Nat.le_refl _ | (simp; done) | (simp; omega)) _).trans (hy.mono (by omega))
  have XM : Hid (∀ y, Below (w.heap.size + 1 + 1) ((w.alloc (.cells #[.slice ca cn cc, .slice (some ⟨wb, wo, none⟩) wl wc, .int .i64 (yg : Nat), .int .i64 (tp : Nat), .int .i64 (od : Nat), .slice da dl dc, .slice (some ⟨wb, wo, none⟩) yg pc, .int .i64 0, .int .i64 (tp : Nat), .slice (some ⟨wb, wo + yg, none⟩) ol oc, .int .i64 (yg : Nat), .int .i64 (ou : Nat), .slice ta tl tc] 65)).alloc (.cells #[.int .i64 ((p : Int) + 1), .int .i64 c0, .slice ya yl yc] 69)) y → y.heap[w.heap.size]? = some (.cells #[.slice ca cn cc, .slice (some ⟨wb, wo, none⟩) wl wc, .int .i64 (yg : Nat), .int .i64 (tp : Nat), .int .i64 (od : Nat), .slice da dl dc, .slice (some ⟨wb, wo, none⟩) yg pc, .int .i64 0, .int .i64 (tp : Nat), .slice (some ⟨wb, wo + yg, none⟩) ol oc, .int .i64 (yg : Nat), .int .i64 (ou : Nat), .slice ta tl tc] 65 (0, 0))) := fun y hy => (hy.block _ (by omega)).trans ((Below.heap_alloc _ _ _ (by first | (simp; done) | (simp; omega))).trans (boxN _ _ _ _ (by simp)))
  have lM : w.heap.size < w.heap.size + 1 + 1 := by omega
  have XT : Hid (∀ y, Below (w.heap.size + 1 + 1) ((w.alloc (.cells #[.slice ca cn cc, .slice (some ⟨wb, wo, none⟩) wl wc, .int .i64 (yg : Nat), .int .i64 (tp : Nat), .int .i64 (od : Nat), .slice da dl dc, .slice (some ⟨wb, wo, none⟩) yg pc, .int .i64 0, .int .i64 (tp : Nat), .slice (some ⟨wb, wo + yg, none⟩) ol oc, .int .i64 (yg : Nat), .int .i64 (ou : Nat), .slice ta tl tc] 65)).alloc (.cells #[.int .i64 ((p : Int) + 1), .int .i64 c0, .slice ya yl yc] 69)) y → y.heap[w.heap.size + 1]? = some (.cells #[.int .i64 ((p : Int) + 1), .int .i64 c0, .slice ya yl yc] 69 (0, 0))) := fun y hy => (hy.block _ (by omega)).trans (boxN _ _ _ _ (by simp))
  have lT : w.heap.size + 1 < w.heap.size + 1 + 1 := by omega
  go_enter Tryz.func107, Tryz.ntmps107
  go_wp2_with fail
  have KS : Hid (∀ x, Below (w.heap.size + 1 + 1) ((w.alloc (.cells #[.slice ca cn cc, .slice (some ⟨wb, wo, none⟩) wl wc, .int .i64 (yg : Nat), .int .i64 (tp : Nat), .int .i64 (od : Nat), .slice da dl dc, .slice (some ⟨wb, wo, none⟩) yg pc, .int .i64 0, .int .i64 (tp : Nat), .slice (some ⟨wb, wo + yg, none⟩) ol oc, .int .i64 (yg : Nat), .int .i64 (ou : Nat), .slice ta tl tc] 65)).alloc (.cells #[.int .i64 ((p : Int) + 1), .int .i64 c0, .slice ya yl yc] 69)) x → x.cell? ⟨w.heap.size, 0, none⟩ = some (.slice ca cn cc) ∧ x.cell? ⟨w.heap.size, 1, none⟩ = some (.slice (some ⟨wb, wo, none⟩) wl wc) ∧ x.cell? ⟨w.heap.size, 2, none⟩ = some (.int .i64 (yg : Nat)) ∧ x.cell? ⟨w.heap.size, 3, none⟩ = some (.int .i64 (tp : Nat)) ∧ x.cell? ⟨w.heap.size, 4, none⟩ = some (.int .i64 (od : Nat)) ∧ x.cell? ⟨w.heap.size, 5, none⟩ = some (.slice da dl dc) ∧ x.cell? ⟨w.heap.size, 6, none⟩ = some (.slice (some ⟨wb, wo, none⟩) yg pc) ∧ x.cell? ⟨w.heap.size, 7, none⟩ = some (.int .i64 0) ∧ x.cell? ⟨w.heap.size, 8, none⟩ = some (.int .i64 (tp : Nat)) ∧ x.cell? ⟨w.heap.size, 9, none⟩ = some (.slice (some ⟨wb, wo + yg, none⟩) ol oc) ∧ x.cell? ⟨w.heap.size, 10, none⟩ = some (.int .i64 (yg : Nat)) ∧ x.cell? ⟨w.heap.size, 11, none⟩ = some (.int .i64 (ou : Nat)) ∧ x.cell? ⟨w.heap.size, 12, none⟩ = some (.slice ta tl tc) ∧ x.cell? ⟨w.heap.size + 1, 0, none⟩ = some (.int .i64 ((p : Int) + 1)) ∧ x.cell? ⟨w.heap.size + 1, 1, none⟩ = some (.int .i64 c0) ∧ x.cell? ⟨w.heap.size + 1, 2, none⟩ = some (.slice ya yl yc)) := fun x hx => ⟨(boxG (XM.out x hx) 0).1, (boxG (XM.out x hx) 1).1, (boxG (XM.out x hx) 2).1, (boxG (XM.out x hx) 3).1, (boxG (XM.out x hx) 4).1, (boxG (XM.out x hx) 5).1, (boxG (XM.out x hx) 6).1, (boxG (XM.out x hx) 7).1, (boxG (XM.out x hx) 8).1, (boxG (XM.out x hx) 9).1, (boxG (XM.out x hx) 10).1, (boxG (XM.out x hx) 11).1, (boxG (XM.out x hx) 12).1, (boxG (XT.out x hx) 0).1, (boxG (XT.out x hx) 1).1, (boxG (XT.out x hx) 2).1⟩
  refine wp_region_held_drew (S := fun x => x.cell? ⟨w.heap.size, 0, none⟩ = some (.slice ca cn cc) ∧ x.cell? ⟨w.heap.size, 1, none⟩ = some (.slice (some ⟨wb, wo, none⟩) wl wc) ∧ x.cell? ⟨w.heap.size, 2, none⟩ = some (.int .i64 (yg : Nat)) ∧ x.cell? ⟨w.heap.size, 3, none⟩ = some (.int .i64 (tp : Nat)) ∧ x.cell? ⟨w.heap.size, 4, none⟩ = some (.int .i64 (od : Nat)) ∧ x.cell? ⟨w.heap.size, 5, none⟩ = some (.slice da dl dc) ∧ x.cell? ⟨w.heap.size, 6, none⟩ = some (.slice (some ⟨wb, wo, none⟩) yg pc) ∧ x.cell? ⟨w.heap.size, 7, none⟩ = some (.int .i64 0) ∧ x.cell? ⟨w.heap.size, 8, none⟩ = some (.int .i64 (tp : Nat)) ∧ x.cell? ⟨w.heap.size, 9, none⟩ = some (.slice (some ⟨wb, wo + yg, none⟩) ol oc) ∧ x.cell? ⟨w.heap.size, 10, none⟩ = some (.int .i64 (yg : Nat)) ∧ x.cell? ⟨w.heap.size, 11, none⟩ = some (.int .i64 (ou : Nat)) ∧ x.cell? ⟨w.heap.size, 12, none⟩ = some (.slice ta tl tc) ∧ x.cell? ⟨w.heap.size + 1, 0, none⟩ = some (.int .i64 ((p : Int) + 1)) ∧ x.cell? ⟨w.heap.size + 1, 1, none⟩ = some (.int .i64 c0) ∧ x.cell? ⟨w.heap.size + 1, 2, none⟩ = some (.slice ya yl yc)) (by kernel_rfl) ?_ (fun hHeld => ?_)
  · exact KS.out _ (bdrew bR)
  refine tV 0 (v := ?_) rfl (by kernel_rfl) (fun _ _ _ h => h) ?_ (by assumption) ?_
  rotate_left 1
  · (intro x hSx; (try dsimp only at hSx); go_simp; try with_reducible rfl)
  try simp only [Act.put, zgT, zg0, zsT, zs0, zsS]
  refine tV 1 (v := ?_) rfl (by kernel_rfl) (fun _ _ _ h => h) ?_ (by assumption) ?_
  rotate_left 1
  · (intro x hSx; (try dsimp only at hSx); go_simp; try with_reducible rfl)
  try simp only [Act.put, zgT, zg0, zgS, zsT, zs0, zsS]
  refine tV 2 (v := ?_) rfl (by kernel_rfl) (fun _ _ _ h => h) ?_ (by assumption) ?_
  rotate_left 1
  · (intro x hSx; (try dsimp only at hSx); go_simp; try with_reducible rfl)
  try simp only [Act.put, zgT, zg0, zgS, zsT, zs0, zsS]
  refine tV 4 (v := ?_) rfl (by kernel_rfl) (fun _ _ _ h => h) ?_ (by assumption) ?_
  rotate_left 1
  · (intro x hSx; (try dsimp only at hSx); go_simp; try with_reducible rfl)
  try simp only [Act.put, zgT, zg0, zgS, zsT, zs0, zsS]
  refine tV 5 (v := ?_) rfl (by kernel_rfl) (fun _ _ _ h => h) ?_ (by assumption) ?_
  rotate_left 1
  · (intro x hSx; (try dsimp only at hSx); go_simp; try with_reducible rfl)
  try simp only [Act.put, zgT, zg0, zgS, zsT, zs0, zsS]
  refine wpAnyH_ready (rs := [3]) (by kernel_rfl) (by simp) ?_
  refine AllReadyH.cons rfl (fun K hK => ?_) AllReadyH.nil
  go_simp
  go_at_call 118
  have BP : Hid (Below (w.heap.size + 1 + 1) ((w.alloc (.cells #[.slice ca cn cc, .slice (some ⟨wb, wo, none⟩) wl wc, .int .i64 (yg : Nat), .int .i64 (tp : Nat), .int .i64 (od : Nat), .slice da dl dc, .slice (some ⟨wb, wo, none⟩) yg pc, .int .i64 0, .int .i64 (tp : Nat), .slice (some ⟨wb, wo + yg, none⟩) ol oc, .int .i64 (yg : Nat), .int .i64 (ou : Nat), .slice ta tl tc] 65)).alloc (.cells #[.int .i64 ((p : Int) + 1), .int .i64 c0, .slice ya yl yc] 69)) ((w.alloc (.cells #[.slice ca cn cc, .slice (some ⟨wb, wo, none⟩) wl wc, .int .i64 (yg : Nat), .int .i64 (tp : Nat), .int .i64 (od : Nat), .slice da dl dc, .slice (some ⟨wb, wo, none⟩) yg pc, .int .i64 0, .int .i64 (tp : Nat), .slice (some ⟨wb, wo + yg, none⟩) ol oc, .int .i64 (yg : Nat), .int .i64 (ou : Nat), .slice ta tl tc] 65)).alloc (.cells #[.int .i64 ((p : Int) + 1), .int .i64 c0, .slice ya yl yc] 69)).drew) := (bdrew bR)
  refine (insideImpl ca cn cc wb wo wl wc yg tp od da dl dc pc ol oc ou ta tl tc p c0 ya yl yc _ h1 h2 h3).mono ?_
  rintro e w1 ⟨ra, rc, rfl, hra, hb⟩
  have hq : Below (w.heap.size + 1 + 1) ((w.alloc (.cells #[.slice ca cn cc, .slice (some ⟨wb, wo, none⟩) wl wc, .int .i64 (yg : Nat), .int .i64 (tp : Nat), .int .i64 (od : Nat), .slice da dl dc, .slice (some ⟨wb, wo, none⟩) yg pc, .int .i64 0, .int .i64 (tp : Nat), .slice (some ⟨wb, wo + yg, none⟩) ol oc, .int .i64 (yg : Nat), .int .i64 (ou : Nat), .slice ta tl tc] 65)).alloc (.cells #[.int .i64 ((p : Int) + 1), .int .i64 c0, .slice ya yl yc] 69)) w1 := BP.out.trans (Below.mono hb (Nat.le_trans hz BP.out.size))
  have hzn : w.heap.size + 1 + 1 ≤ w1.heap.size := Nat.le_trans hz hq.size
  replace B := lF B hq hzn
  replace KS := lF KS hq hzn
  replace XM := lF XM hq hzn
  replace lM := Nat.lt_of_lt_of_le lM hzn
  replace XT := lF XT hq hzn
  replace lT := Nat.lt_of_lt_of_le lT hzn
  clear hq BP hz
  have hz : w1.heap.size ≤ w1.heap.size := Nat.le_refl _
  clear hb
  go_wp2_with fail
  have RV : Hid (IntsAt G w1 ra yl ((ws.take (p + hdN c0 + yl)).drop (p + hdN c0))) := by
    have hs := IntsAt.sub (HW.out.later (B.out w1 bR)) (p + hdN c0) (p + hdN c0 + yl) (by omega) (by omega)
    rw [show p + hdN c0 + yl - (p + hdN c0) = yl by omega] at hs
    by_cases h0 : 0 < yl
    · rw [hra h0]; exact hs
    · exact ⟨hs.size, hs.room, .inl (by omega), hs.fits⟩
  clear hra
  obtain ⟨vs, hvs⟩ : ∃ vs, (ws.take (p + hdN c0 + yl)).drop (p + hdN c0) = vs := ⟨_, rfl⟩
  have VE : Hid (∀ k, k < yl → vs.getD k 0 = ws.getD (p + hdN c0 + k) 0) := fun k hk => by rw [← hvs, getD_drop, getD_take (by omega)]
  rw [hvs] at RV
  clear hvs
  refine hK.out _ _ (KS.out _ bR) (fun hHeld2 => ?_)
  clear hK K
  try simp only [Act.put, zgT, zg0, zgS, zsT, zs0, zsS]
  refine wpAnyH_ready (rs := [6]) (by kernel_rfl) (by simp) ?_
  refine AllReadyH.cons rfl (fun K hK => ?_) AllReadyH.nil
  go_simp
  go_at_call 122
  have BP : Hid (Below (w1.heap.size) w1 w1) := bR
  refine (allMayImpl ca cn cc wb wo wl wc yg tp od da dl dc pc ol oc ou ta tl tc ra yl rc ya yl yc T ty vs _ (H.out.later (B.out _ BP.out)) IN.out hl (RV.out.later BP.out) (HT.out.later (B.out _ BP.out)) (by omega) (by omega)).mono ?_
  rintro e w2 ⟨rfl, hb⟩
  obtain ⟨q, hq⟩ : ∃ q, (decide (yl ≤ yl) && (List.range yl).all (fun k => mayA T (ty.getD k 0) (vs.getD k 0))) = q := ⟨_, rfl⟩
  have QQ : Hid (q = (List.range yl).all (fun k => mayV T (ty.getD k 0) (ws.getD (p + hdN c0 + k) 0))) := by show _ = _; rw [← hq]; exact may_eq HZ.out VE.out
  rw [hq]
  clear hq
  have hq : Below (w1.heap.size) w1 w2 := BP.out.trans (Below.mono hb (Nat.le_trans hz BP.out.size))
  have hzn : w1.heap.size ≤ w2.heap.size := Nat.le_trans hz hq.size
  replace B := lF B hq hzn
  replace KS := lF KS hq hzn
  replace XM := lF XM hq hzn
  replace lM := Nat.lt_of_lt_of_le lM hzn
  replace XT := lF XT hq hzn
  replace lT := Nat.lt_of_lt_of_le lT hzn
  clear hq BP hz
  have hz : w2.heap.size ≤ w2.heap.size := Nat.le_refl _
  clear hb
  go_wp2_with fail
  refine hK.out _ _ (KS.out _ bR) (fun hHeld3 => ?_)
  clear hK K
  try simp only [Act.put, zgT, zg0, zgS, zsT, zs0, zsS]
  refine tV 7 (v := ?_) rfl (by kernel_rfl) (fun _ _ _ h => h) ?_ (by assumption) ?_
  rotate_left 1
  · (intro x hSx; (try dsimp only at hSx); go_simp; try with_reducible rfl)
  try simp only [Act.put, zgT, zg0, zgS, zsT, zs0, zsS]
  refine wpAnyH_done (by kernel_rfl) ?_ _
  clear hHeld hHeld2 hHeld3
  clear KS
  go_wp2_with fail
  go_ret
  exact ⟨by rw [← QQ.out]; rfl, B.out w2 bR⟩

set_option maxRecDepth 100000 in
set_option maxHeartbeats 8000000 in
theorem cardsImpl (ca : Option Addr) (cn cc wb wo wl wc yg tp od : Nat) (da : Option Addr) (dl dc pc ol oc ou : Nat) (ta : Option Addr) (tl tc : Nat) (p : Nat) (c0 : Int) (ya : Option Addr) (yl yc : Nat) (T : List Th) (ty ws : List Int) (cd : List Bool) (w : World) {D D2 G G2 : Nat → Prop} (h : SlAt thR D w ta tl T) (hi : Inc T) (hl : tl ≤ 1000) (hw : IntsAt G w (some ⟨wb, wo, none⟩) wl ws) (hty : IntsAt D2 w ya yl ty) (hc : SlAt boolR G2 w da dl cd) (h1 : p + hdN c0 + yl ≤ wl) (h2 : wl ≤ wc) (h3 : wl ≤ 1000) (hdl : wl ≤ yg + dl * 4) (htz : ∀ k, k < yl → ty.getD k 0 ≠ 0) :
    Calls Tryz.prog 108 #[.agg #[.slice ca cn cc, .slice (some ⟨wb, wo, none⟩) wl wc, .int .i64 (yg : Nat), .int .i64 (tp : Nat), .int .i64 (od : Nat), .slice da dl dc, .slice (some ⟨wb, wo, none⟩) yg pc, .int .i64 0, .int .i64 (tp : Nat), .slice (some ⟨wb, wo + yg, none⟩) ol oc, .int .i64 (yg : Nat), .int .i64 (ou : Nat), .slice ta tl tc], .agg #[.int .i64 ((p : Int) + 1), .int .i64 c0, .slice ya yl yc]] w fun e w' => e = .returned (.bool ((List.range yl).all (fun k => !(!(inI ((p : Int) + 1) 1 yg) && (ty.getD k 0 != 1 && inI (ws.getD (p + hdN c0 + k) 0) 1 yg)) || cd.getD ((p + hdN c0 + k - yg) / 4) false))) ∧ Below w.heap.size w w' := by
  have HW : Hid (IntsAt G w (some ⟨wb, wo, none⟩) wl ws) := hw
  have HT : Hid (IntsAt D2 w ya yl ty) := hty
  have H : Hid (SlAt thR D w ta tl T) := h
  have IN : Hid (Inc T) := hi
  have HC : Hid (SlAt boolR G2 w da dl cd) := hc
  have HZ0 : Hid (∀ k, k < yl → ty.getD k 0 ≠ 0) := htz
  clear htz
  have hdp := hdN_pos c0
  obtain ⟨Q, hQ⟩ : ∃ Q : Nat → Bool, Q = (fun k => !(!(inI ((p : Int) + 1) 1 yg) && (ty.getD k 0 != 1 && inI (ws.getD (p + hdN c0 + k) 0) 1 yg)) || cd.getD ((p + hdN c0 + k - yg) / 4) false) := ⟨_, rfl⟩
  have HQ : Hid (Q = (fun k => !(!(inI ((p : Int) + 1) 1 yg) && (ty.getD k 0 != 1 && inI (ws.getD (p + hdN c0 + k) 0) 1 yg)) || cd.getD ((p + hdN c0 + k - yg) / 4) false)) := hQ
  rw [← hQ]
  clear hw hty h hi hc hQ
  have hz : w.heap.size + 1 + 1 ≤ ((w.alloc (.cells #[.slice ca cn cc, .slice (some ⟨wb, wo, none⟩) wl wc, .int .i64 (yg : Nat), .int .i64 (tp : Nat), .int .i64 (od : Nat), .slice da dl dc, .slice (some ⟨wb, wo, none⟩) yg pc, .int .i64 0, .int .i64 (tp : Nat), .slice (some ⟨wb, wo + yg, none⟩) ol oc, .int .i64 (yg : Nat), .int .i64 (ou : Nat), .slice ta tl tc] 65)).alloc (.cells #[.int .i64 ((p : Int) + 1), .int .i64 c0, .slice ya yl yc] 69)).heap.size := by simp
  have B : Hid (∀ y, Below (w.heap.size + 1 + 1) ((w.alloc (.cells #[.slice ca cn cc, .slice (some ⟨wb, wo, none⟩) wl wc, .int .i64 (yg : Nat), .int .i64 (tp : Nat), .int .i64 (od : Nat), .slice da dl dc, .slice (some ⟨wb, wo, none⟩) yg pc, .int .i64 0, .int .i64 (tp : Nat), .slice (some ⟨wb, wo + yg, none⟩) ol oc, .int .i64 (yg : Nat), .int .i64 (ou : Nat), .slice ta tl tc] 65)).alloc (.cells #[.int .i64 ((p : Int) + 1), .int .i64 c0, .slice ya yl yc] 69)) y → Below w.heap.size w y) := fun y hy => ((bR.alloc (by first | exact Nat.le_refl _ | (simp; done) | (simp; omega)) _).alloc (by first | exact Nat.le_refl _ | (simp; done) | (simp; omega)) _).trans (hy.mono (by omega))
  have XM : Hid (∀ y, Below (w.heap.size + 1 + 1) ((w.alloc (.cells #[.slice ca cn cc, .slice (some ⟨wb, wo, none⟩) wl wc, .int .i64 (yg : Nat), .int .i64 (tp : Nat), .int .i64 (od : Nat), .slice da dl dc, .slice (some ⟨wb, wo, none⟩) yg pc, .int .i64 0, .int .i64 (tp : Nat), .slice (some ⟨wb, wo + yg, none⟩) ol oc, .int .i64 (yg : Nat), .int .i64 (ou : Nat), .slice ta tl tc] 65)).alloc (.cells #[.int .i64 ((p : Int) + 1), .int .i64 c0, .slice ya yl yc] 69)) y → y.heap[w.heap.size]? = some (.cells #[.slice ca cn cc, .slice (some ⟨wb, wo, none⟩) wl wc, .int .i64 (yg : Nat), .int .i64 (tp : Nat), .int .i64 (od : Nat), .slice da dl dc, .slice (some ⟨wb, wo, none⟩) yg pc, .int .i64 0, .int .i64 (tp : Nat), .slice (some ⟨wb, wo + yg, none⟩) ol oc, .int .i64 (yg : Nat), .int .i64 (ou : Nat), .slice ta tl tc] 65 (0, 0))) := fun y hy => (hy.block _ (by omega)).trans ((Below.heap_alloc _ _ _ (by first | (simp; done) | (simp; omega))).trans (boxN _ _ _ _ (by simp)))
  have lM : w.heap.size < w.heap.size + 1 + 1 := by omega
  have XT : Hid (∀ y, Below (w.heap.size + 1 + 1) ((w.alloc (.cells #[.slice ca cn cc, .slice (some ⟨wb, wo, none⟩) wl wc, .int .i64 (yg : Nat), .int .i64 (tp : Nat), .int .i64 (od : Nat), .slice da dl dc, .slice (some ⟨wb, wo, none⟩) yg pc, .int .i64 0, .int .i64 (tp : Nat), .slice (some ⟨wb, wo + yg, none⟩) ol oc, .int .i64 (yg : Nat), .int .i64 (ou : Nat), .slice ta tl tc] 65)).alloc (.cells #[.int .i64 ((p : Int) + 1), .int .i64 c0, .slice ya yl yc] 69)) y → y.heap[w.heap.size + 1]? = some (.cells #[.int .i64 ((p : Int) + 1), .int .i64 c0, .slice ya yl yc] 69 (0, 0))) := fun y hy => (hy.block _ (by omega)).trans (boxN _ _ _ _ (by simp))
  have lT : w.heap.size + 1 < w.heap.size + 1 + 1 := by omega
  go_enter Tryz.func108, Tryz.ntmps108
  go_wp2_with fail
  have BP : Hid (Below (w.heap.size + 1 + 1) ((w.alloc (.cells #[.slice ca cn cc, .slice (some ⟨wb, wo, none⟩) wl wc, .int .i64 (yg : Nat), .int .i64 (tp : Nat), .int .i64 (od : Nat), .slice da dl dc, .slice (some ⟨wb, wo, none⟩) yg pc, .int .i64 0, .int .i64 (tp : Nat), .slice (some ⟨wb, wo + yg, none⟩) ol oc, .int .i64 (yg : Nat), .int .i64 (ou : Nat), .slice ta tl tc] 65)).alloc (.cells #[.int .i64 ((p : Int) + 1), .int .i64 c0, .slice ya yl yc] 69)) ((w.alloc (.cells #[.slice ca cn cc, .slice (some ⟨wb, wo, none⟩) wl wc, .int .i64 (yg : Nat), .int .i64 (tp : Nat), .int .i64 (od : Nat), .slice da dl dc, .slice (some ⟨wb, wo, none⟩) yg pc, .int .i64 0, .int .i64 (tp : Nat), .slice (some ⟨wb, wo + yg, none⟩) ol oc, .int .i64 (yg : Nat), .int .i64 (ou : Nat), .slice ta tl tc] 65)).alloc (.cells #[.int .i64 ((p : Int) + 1), .int .i64 c0, .slice ya yl yc] 69))) := bR
  refine (insideImpl ca cn cc wb wo wl wc yg tp od da dl dc pc ol oc ou ta tl tc p c0 ya yl yc _ h1 h2 h3).mono ?_
  rintro e w1 ⟨ra, rc, rfl, hra, hb⟩
  have hq : Below (w.heap.size + 1 + 1) ((w.alloc (.cells #[.slice ca cn cc, .slice (some ⟨wb, wo, none⟩) wl wc, .int .i64 (yg : Nat), .int .i64 (tp : Nat), .int .i64 (od : Nat), .slice da dl dc, .slice (some ⟨wb, wo, none⟩) yg pc, .int .i64 0, .int .i64 (tp : Nat), .slice (some ⟨wb, wo + yg, none⟩) ol oc, .int .i64 (yg : Nat), .int .i64 (ou : Nat), .slice ta tl tc] 65)).alloc (.cells #[.int .i64 ((p : Int) + 1), .int .i64 c0, .slice ya yl yc] 69)) w1 := BP.out.trans (Below.mono hb (Nat.le_trans hz BP.out.size))
  have hzn : w.heap.size + 1 + 1 ≤ w1.heap.size := Nat.le_trans hz hq.size
  replace B := lF B hq hzn
  replace XM := lF XM hq hzn
  replace lM := Nat.lt_of_lt_of_le lM hzn
  replace XT := lF XT hq hzn
  replace lT := Nat.lt_of_lt_of_le lT hzn
  clear hq BP hz
  have hz : w1.heap.size ≤ w1.heap.size := Nat.le_refl _
  clear hb
  obtain ⟨lo, hlo⟩ : ∃ q, p + hdN c0 = q := ⟨_, rfl⟩
  rw [hlo] at hra h1 HQ
  obtain ⟨kM0, kM1, kM2, kM3, kM4, kM5, kM6, kM7, kM8, kM9, kM10, kM11, kM12⟩ := bk13 (XM.out w1 bR)
  obtain ⟨kT0, kT1, kT2⟩ := bk3 (XT.out w1 bR)
  go_wp2_with fail
  clear kM0 kM1 kM2 kM3 kM4 kM5 kM6 kM7 kM8 kM9 kM10 kM11 kM12 kT0 kT1 kT2
  go_loopw [11] (fun t wr => ∃ k : Nat, k ≤ yl ∧ t = .int .i64 k ∧ (List.range k).all Q = true ∧ Below w1.heap.size w1 wr) (fun t _ => yl - (intOf t).toNat)
  case atStart => exact ⟨0, Nat.zero_le _, rfl, rfl, Below.refl _ _⟩
  case round =>
    obtain ⟨k, hk, rfl, hall, hr⟩ := hrel
    have HA : Hid ((List.range k).all Q = true) := hall
    have HR1 : Hid (Below w1.heap.size w1 wr) := hr
    clear hall
    have hzn : w1.heap.size ≤ wr.heap.size := Nat.le_trans hz (Below.size hr)
    replace B := lF B hr hzn
    replace XM := lF XM hr hzn
    replace lM := Nat.lt_of_lt_of_le lM hzn
    replace XT := lF XT hr hzn
    replace lT := Nat.lt_of_lt_of_le lT hzn
    clear hz
    have hz : wr.heap.size ≤ wr.heap.size := Nat.le_refl _
    clear hr
    by_cases hlt : k < yl
    · obtain rfl := hra (by omega)
      obtain ⟨_, _, e0, _, hcs⟩ := (HW.out.later (B.out wr (Below.refl _ _))).one (lo + k) (by omega)
      cases e0
      have cW := hcs (lo + k) (by omega)
      rw [← Nat.add_assoc] at cW
      obtain ⟨v, hv⟩ : ∃ v, ws.getD (lo + k) 0 = v := ⟨_, rfl⟩
      rw [hv] at cW
      have hvf := HW.out.fits (lo + k)
      rw [hv] at hvf
      obtain ⟨yb, yo, rfl, _, hct⟩ := (HT.out.later (B.out wr (Below.refl _ _))).one k hlt
      have cT := hct k hlt
      obtain ⟨t1, ht1⟩ : ∃ t1, ty.getD k 0 = t1 := ⟨_, rfl⟩
      rw [ht1] at cT
      have hyb := World.block_lt_of_cell? wr _ cT
      simp only at hyb
      have HT1 : Hid (ty.getD k 0 = t1) := ht1
      have KT : Hid (∀ y, Below wr.heap.size wr y → y.cell? ⟨yb, yo + k, none⟩ = some (.int .i64 t1)) := fun y hy => (hy.cell (p := ⟨yb, yo + k, none⟩) hyb).trans cT
      have hlk : lo + k ≤ 1000 := by omega
      clear hcs hct
      skip
      have QK : Hid (Q k = (!(!(inI ((p : Int) + 1) 1 yg) && (t1 != 1 && inI v 1 yg)) || cd.getD ((lo + k - yg) / 4) false)) := by show _ = _; rw [HQ.out]; show (!(!(inI ((p : Int) + 1) 1 yg) && (ty.getD k 0 != 1 && inI (ws.getD (lo + k) 0) 1 yg)) || cd.getD ((lo + k - yg) / 4) false) = _; rw [ht1, hv]
      clear hv ht1
      obtain ⟨nd, hnd⟩ : ∃ q, (!(inI ((p : Int) + 1) 1 yg) && (t1 != 1 && inI v 1 yg)) = q := ⟨_, rfl⟩
      have ND : Hid ((!(inI ((p : Int) + 1) 1 yg) && (t1 != 1 && inI v 1 yg)) = nd) := hnd
      have NY : nd = true → yg ≤ p := fun h => by
        rw [h, Bool.and_eq_true] at hnd
        rcases Nat.lt_or_ge p yg with h2 | h2
        · have : inI ((p : Int) + 1) 1 yg = true := inI_iff.2 (by omega)
          rw [this] at hnd
          simp at hnd
        · exact h2
      rw [hnd] at QK
      clear hnd
      cases nd
      · clear NY cT
        have QQ : Hid (Q k = true) := QK.out
        obtain ⟨kM0, kM1, kM2, kM3, kM4, kM5, kM6, kM7, kM8, kM9, kM10, kM11, kM12⟩ := bk13 (XM.out wr bR)
        obtain ⟨kT0, kT1, kT2⟩ := bk3 (XT.out wr bR)
        go_wp2_with fail
        clear kM0 kM1 kM2 kM3 kM4 kM5 kM6 kM7 kM8 kM9 kM10 kM11 kM12 kT0 kT1 kT2
        clear cW
        have KS : Hid (∀ x, Below (wr.heap.size) wr x → x.cell? ⟨w.heap.size, 0, none⟩ = some (.slice ca cn cc) ∧ x.cell? ⟨w.heap.size, 1, none⟩ = some (.slice (some ⟨wb, wo, none⟩) wl wc) ∧ x.cell? ⟨w.heap.size, 2, none⟩ = some (.int .i64 (yg : Nat)) ∧ x.cell? ⟨w.heap.size, 3, none⟩ = some (.int .i64 (tp : Nat)) ∧ x.cell? ⟨w.heap.size, 4, none⟩ = some (.int .i64 (od : Nat)) ∧ x.cell? ⟨w.heap.size, 5, none⟩ = some (.slice da dl dc) ∧ x.cell? ⟨w.heap.size, 6, none⟩ = some (.slice (some ⟨wb, wo, none⟩) yg pc) ∧ x.cell? ⟨w.heap.size, 7, none⟩ = some (.int .i64 0) ∧ x.cell? ⟨w.heap.size, 8, none⟩ = some (.int .i64 (tp : Nat)) ∧ x.cell? ⟨w.heap.size, 9, none⟩ = some (.slice (some ⟨wb, wo + yg, none⟩) ol oc) ∧ x.cell? ⟨w.heap.size, 10, none⟩ = some (.int .i64 (yg : Nat)) ∧ x.cell? ⟨w.heap.size, 11, none⟩ = some (.int .i64 (ou : Nat)) ∧ x.cell? ⟨w.heap.size, 12, none⟩ = some (.slice ta tl tc) ∧ x.cell? ⟨w.heap.size + 1, 0, none⟩ = some (.int .i64 ((p : Int) + 1)) ∧ x.cell? ⟨w.heap.size + 1, 1, none⟩ = some (.int .i64 c0) ∧ x.cell? ⟨w.heap.size + 1, 2, none⟩ = some (.slice (some ⟨yb, yo, none⟩) yl yc)) := fun x hx => ⟨(boxG (XM.out x hx) 0).1, (boxG (XM.out x hx) 1).1, (boxG (XM.out x hx) 2).1, (boxG (XM.out x hx) 3).1, (boxG (XM.out x hx) 4).1, (boxG (XM.out x hx) 5).1, (boxG (XM.out x hx) 6).1, (boxG (XM.out x hx) 7).1, (boxG (XM.out x hx) 8).1, (boxG (XM.out x hx) 9).1, (boxG (XM.out x hx) 10).1, (boxG (XM.out x hx) 11).1, (boxG (XM.out x hx) 12).1, (boxG (XT.out x hx) 0).1, (boxG (XT.out x hx) 1).1, (boxG (XT.out x hx) 2).1⟩
        refine wp_region_held_drew (S := fun x => x.cell? ⟨w.heap.size, 0, none⟩ = some (.slice ca cn cc) ∧ x.cell? ⟨w.heap.size, 1, none⟩ = some (.slice (some ⟨wb, wo, none⟩) wl wc) ∧ x.cell? ⟨w.heap.size, 2, none⟩ = some (.int .i64 (yg : Nat)) ∧ x.cell? ⟨w.heap.size, 3, none⟩ = some (.int .i64 (tp : Nat)) ∧ x.cell? ⟨w.heap.size, 4, none⟩ = some (.int .i64 (od : Nat)) ∧ x.cell? ⟨w.heap.size, 5, none⟩ = some (.slice da dl dc) ∧ x.cell? ⟨w.heap.size, 6, none⟩ = some (.slice (some ⟨wb, wo, none⟩) yg pc) ∧ x.cell? ⟨w.heap.size, 7, none⟩ = some (.int .i64 0) ∧ x.cell? ⟨w.heap.size, 8, none⟩ = some (.int .i64 (tp : Nat)) ∧ x.cell? ⟨w.heap.size, 9, none⟩ = some (.slice (some ⟨wb, wo + yg, none⟩) ol oc) ∧ x.cell? ⟨w.heap.size, 10, none⟩ = some (.int .i64 (yg : Nat)) ∧ x.cell? ⟨w.heap.size, 11, none⟩ = some (.int .i64 (ou : Nat)) ∧ x.cell? ⟨w.heap.size, 12, none⟩ = some (.slice ta tl tc) ∧ x.cell? ⟨w.heap.size + 1, 0, none⟩ = some (.int .i64 ((p : Int) + 1)) ∧ x.cell? ⟨w.heap.size + 1, 1, none⟩ = some (.int .i64 c0) ∧ x.cell? ⟨w.heap.size + 1, 2, none⟩ = some (.slice (some ⟨yb, yo, none⟩) yl yc)) (by kernel_rfl) ?_ (fun hHeld => ?_)
        · exact KS.out _ (bdrew bR)
        refine tV 0 (v := ?_) rfl (by kernel_rfl) (fun _ _ _ h => h) ?_ (by assumption) ?_
        rotate_left 1
        · (intro x hSx; (try dsimp only at hSx); go_simp; try with_reducible rfl)
        try simp only [Act.put, zgT, zg0, zsT, zs0, zsS]
        refine tV 1 (v := ?_) rfl (by kernel_rfl) (fun _ _ _ h => h) ?_ (by assumption) ?_
        rotate_left 1
        · (intro x hSx; (try dsimp only at hSx); go_simp; try with_reducible rfl)
        try simp only [Act.put, zgT, zg0, zgS, zsT, zs0, zsS]
        refine tV 2 (v := ?_) rfl (by kernel_rfl) (fun _ _ _ h => h) ?_ (by assumption) ?_
        rotate_left 1
        · (intro x hSx; (try dsimp only at hSx); go_simp; try with_reducible rfl)
        try simp only [Act.put, zgT, zg0, zgS, zsT, zs0, zsS]
        refine tV 3 (v := ?_) rfl (by kernel_rfl) (fun _ _ _ h => h) ?_ (by assumption) ?_
        rotate_left 1
        · (intro x hSx; (try dsimp only at hSx); go_simp; try with_reducible rfl)
        try simp only [Act.put, zgT, zg0, zgS, zsT, zs0, zsS]
        refine wpAnyH_ready (rs := [4]) (by kernel_rfl) (by simp) ?_
        refine AllReadyH.cons rfl (fun K hK => ?_) AllReadyH.nil
        go_simp
        go_at_call 87
        have BP : Hid (Below (wr.heap.size) wr wr.drew) := (bdrew bR)
        refine (needsImpl ca cn cc wb wo wl wc yg tp od da dl dc pc ol oc ou ta tl tc p c0 (some ⟨yb, yo, none⟩) yl yc k v ty _ (HT.out.later (B.out _ BP.out)) hlt (HZ0.out k hlt)).mono ?_
        rintro e w2 ⟨rfl, hb⟩
        have HR2 : Hid (Below w1.heap.size w1 w2) := HR1.out.trans ((BP.out.trans (hb.mono BP.out.size)).mono HR1.out.size)
        rw [HT1.out, ND.out]
        have hq : Below (wr.heap.size) wr w2 := BP.out.trans (Below.mono hb (Nat.le_trans hz BP.out.size))
        have hzn : wr.heap.size ≤ w2.heap.size := Nat.le_trans hz hq.size
        replace B := lF B hq hzn
        replace KS := lF KS hq hzn
        replace XM := lF XM hq hzn
        replace lM := Nat.lt_of_lt_of_le lM hzn
        replace XT := lF XT hq hzn
        replace lT := Nat.lt_of_lt_of_le lT hzn
        clear hq BP hz
        have hz : w2.heap.size ≤ w2.heap.size := Nat.le_refl _
        clear hb
        go_wp2_with fail
        refine hK.out _ _ (KS.out _ bR) (fun hHeld2 => ?_)
        clear hK K
        try simp only [Act.put, zgT, zg0, zgS, zsT, zs0, zsS]
        refine tV 5 (v := ?_) rfl (by kernel_rfl) (fun _ _ _ h => h) ?_ (by assumption) ?_
        rotate_left 1
        · (intro x hSx; (try dsimp only at hSx); go_simp; try with_reducible rfl)
        try simp only [Act.put, zgT, zg0, zgS, zsT, zs0, zsS]
        refine tU 6 rfl (by kernel_rfl) (fun _ _ _ h => h) (by assumption) ?_
        refine tU 7 rfl (by kernel_rfl) (fun _ _ _ h => h) (by assumption) ?_
        refine tU 8 rfl (by kernel_rfl) (fun _ _ _ h => h) (by assumption) ?_
        refine tU 9 rfl (by kernel_rfl) (fun _ _ _ h => h) (by assumption) ?_
        refine tU 10 rfl (by kernel_rfl) (fun _ _ _ h => h) (by assumption) ?_
        refine tU 11 rfl (by kernel_rfl) (fun _ _ _ h => h) (by assumption) ?_
        refine tU 12 rfl (by kernel_rfl) (fun _ _ _ h => h) (by assumption) ?_
        refine tU 13 rfl (by kernel_rfl) (fun _ _ _ h => h) (by assumption) ?_
        refine tU 14 rfl (by kernel_rfl) (fun _ _ _ h => h) (by assumption) ?_
        refine tU 15 rfl (by kernel_rfl) (fun _ _ _ h => h) (by assumption) ?_
        refine tU 16 rfl (by kernel_rfl) (fun _ _ _ h => h) (by assumption) ?_
        try simp only [Act.put, zgT, zg0, zgS, zsT, zs0, zsS]
        refine tV 17 (v := ?_) rfl (by kernel_rfl) (fun _ _ _ h => h) ?_ (by assumption) ?_
        rotate_left 1
        · (intro x hSx; (try dsimp only at hSx); go_simp; try with_reducible rfl)
        try simp only [Act.put, zgT, zg0, zgS, zsT, zs0, zsS]
        refine wpAnyH_done (by kernel_rfl) ?_ _
        clear hHeld hHeld2
        clear KS
        obtain ⟨kM0, kM1, kM2, kM3, kM4, kM5, kM6, kM7, kM8, kM9, kM10, kM11, kM12⟩ := bk13 (XM.out w2 bR)
        obtain ⟨kT0, kT1, kT2⟩ := bk3 (XT.out w2 bR)
        go_wp2_with fail
        exact ⟨⟨k + 1, by omega, by go_num, by rw [rng_on', HA.out, QQ.out]; rfl, HR2.out⟩, by simp [intOf]; omega⟩
      · have ny := NY rfl
        clear NY cT
        obtain ⟨ci, hci⟩ : ∃ q, (lo + k - yg) / 4 = q := ⟨_, rfl⟩
        have hcl : ci < dl := by omega
        obtain ⟨db, dof, rfl, _, d0⟩ := (HC.out.later (B.out wr (Below.refl _ _))).tru ci hcl
        obtain ⟨cv, hcv⟩ : ∃ q, cd.getD ci false = q := ⟨_, rfl⟩
        rw [hcv] at d0
        have hdb := World.block_lt_of_cell? wr _ d0
        simp only at hdb
        have QQ : Hid (Q k = cv) := by show _ = _; rw [QK.out, hci, hcv]; rfl
        have KD : Hid (∀ y, Below wr.heap.size wr y → y.cell? ⟨db, dof + ci, none⟩ = some (.bool cv)) := fun y hy => (hy.cell (p := ⟨db, dof + ci, none⟩) hdb).trans d0
        clear hcv d0
        obtain ⟨kM0, kM1, kM2, kM3, kM4, kM5, kM6, kM7, kM8, kM9, kM10, kM11, kM12⟩ := bk13 (XM.out wr bR)
        obtain ⟨kT0, kT1, kT2⟩ := bk3 (XT.out wr bR)
        go_wp2_with fail
        clear kM0 kM1 kM2 kM3 kM4 kM5 kM6 kM7 kM8 kM9 kM10 kM11 kM12 kT0 kT1 kT2
        clear cW
        have KS : Hid (∀ x, Below (wr.heap.size) wr x → x.cell? ⟨w.heap.size, 0, none⟩ = some (.slice ca cn cc) ∧ x.cell? ⟨w.heap.size, 1, none⟩ = some (.slice (some ⟨wb, wo, none⟩) wl wc) ∧ x.cell? ⟨w.heap.size, 2, none⟩ = some (.int .i64 (yg : Nat)) ∧ x.cell? ⟨w.heap.size, 3, none⟩ = some (.int .i64 (tp : Nat)) ∧ x.cell? ⟨w.heap.size, 4, none⟩ = some (.int .i64 (od : Nat)) ∧ x.cell? ⟨w.heap.size, 5, none⟩ = some (.slice (some ⟨db, dof, none⟩) dl dc) ∧ x.cell? ⟨w.heap.size, 6, none⟩ = some (.slice (some ⟨wb, wo, none⟩) yg pc) ∧ x.cell? ⟨w.heap.size, 7, none⟩ = some (.int .i64 0) ∧ x.cell? ⟨w.heap.size, 8, none⟩ = some (.int .i64 (tp : Nat)) ∧ x.cell? ⟨w.heap.size, 9, none⟩ = some (.slice (some ⟨wb, wo + yg, none⟩) ol oc) ∧ x.cell? ⟨w.heap.size, 10, none⟩ = some (.int .i64 (yg : Nat)) ∧ x.cell? ⟨w.heap.size, 11, none⟩ = some (.int .i64 (ou : Nat)) ∧ x.cell? ⟨w.heap.size, 12, none⟩ = some (.slice ta tl tc) ∧ x.cell? ⟨w.heap.size + 1, 0, none⟩ = some (.int .i64 ((p : Int) + 1)) ∧ x.cell? ⟨w.heap.size + 1, 1, none⟩ = some (.int .i64 c0) ∧ x.cell? ⟨w.heap.size + 1, 2, none⟩ = some (.slice (some ⟨yb, yo, none⟩) yl yc) ∧ x.cell? ⟨db, dof + ci, none⟩ = some (.bool cv)) := fun x hx => ⟨(boxG (XM.out x hx) 0).1, (boxG (XM.out x hx) 1).1, (boxG (XM.out x hx) 2).1, (boxG (XM.out x hx) 3).1, (boxG (XM.out x hx) 4).1, (boxG (XM.out x hx) 5).1, (boxG (XM.out x hx) 6).1, (boxG (XM.out x hx) 7).1, (boxG (XM.out x hx) 8).1, (boxG (XM.out x hx) 9).1, (boxG (XM.out x hx) 10).1, (boxG (XM.out x hx) 11).1, (boxG (XM.out x hx) 12).1, (boxG (XT.out x hx) 0).1, (boxG (XT.out x hx) 1).1, (boxG (XT.out x hx) 2).1, KD.out x hx⟩
        refine wp_region_held_drew (S := fun x => x.cell? ⟨w.heap.size, 0, none⟩ = some (.slice ca cn cc) ∧ x.cell? ⟨w.heap.size, 1, none⟩ = some (.slice (some ⟨wb, wo, none⟩) wl wc) ∧ x.cell? ⟨w.heap.size, 2, none⟩ = some (.int .i64 (yg : Nat)) ∧ x.cell? ⟨w.heap.size, 3, none⟩ = some (.int .i64 (tp : Nat)) ∧ x.cell? ⟨w.heap.size, 4, none⟩ = some (.int .i64 (od : Nat)) ∧ x.cell? ⟨w.heap.size, 5, none⟩ = some (.slice (some ⟨db, dof, none⟩) dl dc) ∧ x.cell? ⟨w.heap.size, 6, none⟩ = some (.slice (some ⟨wb, wo, none⟩) yg pc) ∧ x.cell? ⟨w.heap.size, 7, none⟩ = some (.int .i64 0) ∧ x.cell? ⟨w.heap.size, 8, none⟩ = some (.int .i64 (tp : Nat)) ∧ x.cell? ⟨w.heap.size, 9, none⟩ = some (.slice (some ⟨wb, wo + yg, none⟩) ol oc) ∧ x.cell? ⟨w.heap.size, 10, none⟩ = some (.int .i64 (yg : Nat)) ∧ x.cell? ⟨w.heap.size, 11, none⟩ = some (.int .i64 (ou : Nat)) ∧ x.cell? ⟨w.heap.size, 12, none⟩ = some (.slice ta tl tc) ∧ x.cell? ⟨w.heap.size + 1, 0, none⟩ = some (.int .i64 ((p : Int) + 1)) ∧ x.cell? ⟨w.heap.size + 1, 1, none⟩ = some (.int .i64 c0) ∧ x.cell? ⟨w.heap.size + 1, 2, none⟩ = some (.slice (some ⟨yb, yo, none⟩) yl yc) ∧ x.cell? ⟨db, dof + ci, none⟩ = some (.bool cv)) (by kernel_rfl) ?_ (fun hHeld => ?_)
        · exact KS.out _ (bdrew bR)
        refine tV 0 (v := ?_) rfl (by kernel_rfl) (fun _ _ _ h => h) ?_ (by assumption) ?_
        rotate_left 1
        · (intro x hSx; (try dsimp only at hSx); go_simp; try with_reducible rfl)
        try simp only [Act.put, zgT, zg0, zsT, zs0, zsS]
        refine tV 1 (v := ?_) rfl (by kernel_rfl) (fun _ _ _ h => h) ?_ (by assumption) ?_
        rotate_left 1
        · (intro x hSx; (try dsimp only at hSx); go_simp; try with_reducible rfl)
        try simp only [Act.put, zgT, zg0, zgS, zsT, zs0, zsS]
        refine tV 2 (v := ?_) rfl (by kernel_rfl) (fun _ _ _ h => h) ?_ (by assumption) ?_
        rotate_left 1
        · (intro x hSx; (try dsimp only at hSx); go_simp; try with_reducible rfl)
        try simp only [Act.put, zgT, zg0, zgS, zsT, zs0, zsS]
        refine tV 3 (v := ?_) rfl (by kernel_rfl) (fun _ _ _ h => h) ?_ (by assumption) ?_
        rotate_left 1
        · (intro x hSx; (try dsimp only at hSx); go_simp; try with_reducible rfl)
        try simp only [Act.put, zgT, zg0, zgS, zsT, zs0, zsS]
        refine wpAnyH_ready (rs := [4]) (by kernel_rfl) (by simp) ?_
        refine AllReadyH.cons rfl (fun K hK => ?_) AllReadyH.nil
        go_simp
        go_at_call 87
        have BP : Hid (Below (wr.heap.size) wr wr.drew) := (bdrew bR)
        refine (needsImpl ca cn cc wb wo wl wc yg tp od (some ⟨db, dof, none⟩) dl dc pc ol oc ou ta tl tc p c0 (some ⟨yb, yo, none⟩) yl yc k v ty _ (HT.out.later (B.out _ BP.out)) hlt (HZ0.out k hlt)).mono ?_
        rintro e w2 ⟨rfl, hb⟩
        have HR2 : Hid (Below w1.heap.size w1 w2) := HR1.out.trans ((BP.out.trans (hb.mono BP.out.size)).mono HR1.out.size)
        rw [HT1.out, ND.out]
        replace KD : Hid (∀ y, Below w2.heap.size w2 y → y.cell? ⟨db, dof + ci, none⟩ = some (.bool cv)) := fun y hy => KD.out y (BP.out.trans ((hb.mono BP.out.size).trans (hy.mono (Nat.le_trans BP.out.size hb.size))))
        have hq : Below (wr.heap.size) wr w2 := BP.out.trans (Below.mono hb (Nat.le_trans hz BP.out.size))
        have hzn : wr.heap.size ≤ w2.heap.size := Nat.le_trans hz hq.size
        replace B := lF B hq hzn
        replace KS := lF KS hq hzn
        replace XM := lF XM hq hzn
        replace lM := Nat.lt_of_lt_of_le lM hzn
        replace XT := lF XT hq hzn
        replace lT := Nat.lt_of_lt_of_le lT hzn
        clear hq BP hz
        have hz : w2.heap.size ≤ w2.heap.size := Nat.le_refl _
        clear hb
        go_wp2_with fail
        refine hK.out _ _ (KS.out _ bR) (fun hHeld2 => ?_)
        clear hK K
        try simp only [Act.put, zgT, zg0, zgS, zsT, zs0, zsS]
        refine tV 5 (v := ?_) rfl (by kernel_rfl) (fun _ _ _ h => h) ?_ (by assumption) ?_
        rotate_left 1
        · (intro x hSx; (try dsimp only at hSx); go_simp; try with_reducible rfl)
        try simp only [Act.put, zgT, zg0, zgS, zsT, zs0, zsS]
        refine tV 6 (v := ?_) rfl (by kernel_rfl) (fun _ _ _ h => h) ?_ (by assumption) ?_
        rotate_left 1
        · (intro x hSx; (try dsimp only at hSx); go_simp; try with_reducible rfl)
        try simp only [Act.put, zgT, zg0, zgS, zsT, zs0, zsS]
        refine tV 7 (v := ?_) rfl (by kernel_rfl) (fun _ _ _ h => h) ?_ (by assumption) ?_
        rotate_left 1
        · (intro x hSx; (try dsimp only at hSx); go_simp; try with_reducible rfl)
        try simp only [Act.put, zgT, zg0, zgS, zsT, zs0, zsS]
        refine tV 8 (v := ?_) rfl (by kernel_rfl) (fun _ _ _ h => h) ?_ (by assumption) ?_
        rotate_left 1
        · (intro x hSx; (try dsimp only at hSx); go_simp; try with_reducible rfl)
        try simp only [Act.put, zgT, zg0, zgS, zsT, zs0, zsS]
        refine tV 9 (v := ?_) rfl (by kernel_rfl) (fun _ _ _ h => h) ?_ (by assumption) ?_
        rotate_left 1
        · (intro x hSx; (try dsimp only at hSx); go_simp; try with_reducible rfl)
        try simp only [Act.put, zgT, zg0, zgS, zsT, zs0, zsS]
        refine tV 10 (v := ?_) rfl (by kernel_rfl) (fun _ _ _ h => h) ?_ (by assumption) ?_
        rotate_left 1
        · (intro x hSx; (try dsimp only at hSx); go_simp; try with_reducible rfl)
        try simp only [Act.put, zgT, zg0, zgS, zsT, zs0, zsS]
        refine tV 11 (v := ?_) rfl (by kernel_rfl) (fun _ _ _ h => h) ?_ (by assumption) ?_
        rotate_left 1
        · (intro x hSx; (try dsimp only at hSx); go_simp; try with_reducible rfl)
        try simp only [Act.put, zgT, zg0, zgS, zsT, zs0, zsS]
        refine wpAnyH_ready (rs := [12]) (by kernel_rfl) (by simp) ?_
        refine AllReadyH.cons rfl (fun K hK => ?_) AllReadyH.nil
        go_simp
        go_at_call 86
        have BP : Hid (Below (w2.heap.size) w2 w2) := bR
        refine (placeImpl21 _ c0 (some ⟨yb, yo, none⟩) yl yc k _ (by omega) (by omega) (by omega)).mono ?_
        rintro e w3 ⟨rfl, hb⟩
        replace HR2 : Hid (Below w1.heap.size w1 w3) := HR2.out.trans ((BP.out.trans (hb.mono BP.out.size)).mono HR2.out.size)
        obtain ⟨pl, hpl⟩ : ∃ q, lo + k + 1 = q := ⟨_, rfl⟩
        rw [show (p : Int) + 1 + ((hdN c0 : Nat) : Int) + (k : Nat) = (pl : Int) by omega]
        replace KD : Hid (∀ y, Below w3.heap.size w3 y → y.cell? ⟨db, dof + ci, none⟩ = some (.bool cv)) := fun y hy => KD.out y (BP.out.trans ((hb.mono BP.out.size).trans (hy.mono (Nat.le_trans BP.out.size hb.size))))
        have hq : Below (w2.heap.size) w2 w3 := BP.out.trans (Below.mono hb (Nat.le_trans hz BP.out.size))
        have hzn : w2.heap.size ≤ w3.heap.size := Nat.le_trans hz hq.size
        replace B := lF B hq hzn
        replace KS := lF KS hq hzn
        replace XM := lF XM hq hzn
        replace lM := Nat.lt_of_lt_of_le lM hzn
        replace XT := lF XT hq hzn
        replace lT := Nat.lt_of_lt_of_le lT hzn
        clear hq BP hz
        have hz : w3.heap.size ≤ w3.heap.size := Nat.le_refl _
        clear hb
        go_wp2_with fail
        refine hK.out _ _ (KS.out _ bR) (fun hHeld3 => ?_)
        clear hK K
        try simp only [Act.put, zgT, zg0, zgS, zsT, zs0, zsS]
        refine wpAnyH_ready (rs := [13]) (by kernel_rfl) (by simp) ?_
        refine AllReadyH.cons rfl (fun K hK => ?_) AllReadyH.nil
        go_simp
        go_at_call 88
        have BP : Hid (Below (w3.heap.size) w3 w3) := bR
        refine (cardOfImpl ca cn cc wb wo wl wc yg tp od (some ⟨db, dof, none⟩) dl dc pc ol oc ou ta tl tc pl (by omega) (by omega) _).mono ?_
        rintro e w4 ⟨rfl, hb⟩
        replace HR2 : Hid (Below w1.heap.size w1 w4) := HR2.out.trans ((BP.out.trans (hb.mono BP.out.size)).mono HR2.out.size)
        rw [show (pl - yg - 1) / 4 = ci by omega]
        replace KD : Hid (∀ y, Below w4.heap.size w4 y → y.cell? ⟨db, dof + ci, none⟩ = some (.bool cv)) := fun y hy => KD.out y (BP.out.trans ((hb.mono BP.out.size).trans (hy.mono (Nat.le_trans BP.out.size hb.size))))
        have hq : Below (w3.heap.size) w3 w4 := BP.out.trans (Below.mono hb (Nat.le_trans hz BP.out.size))
        have hzn : w3.heap.size ≤ w4.heap.size := Nat.le_trans hz hq.size
        replace B := lF B hq hzn
        replace KS := lF KS hq hzn
        replace XM := lF XM hq hzn
        replace lM := Nat.lt_of_lt_of_le lM hzn
        replace XT := lF XT hq hzn
        replace lT := Nat.lt_of_lt_of_le lT hzn
        clear hq BP hz
        have hz : w4.heap.size ≤ w4.heap.size := Nat.le_refl _
        clear hb
        go_wp2_with fail
        refine hK.out _ _ (KS.out _ bR) (fun hHeld4 => ?_)
        clear hK K
        try simp only [Act.put, zgT, zg0, zgS, zsT, zs0, zsS]
        refine tV 14 (v := ?_) rfl (by kernel_rfl) (fun _ _ _ h => h) ?_ (by assumption) ?_
        rotate_left 1
        · (intro x hSx; (try dsimp only at hSx); go_simp; try with_reducible rfl)
        try simp only [Act.put, zgT, zg0, zgS, zsT, zs0, zsS]
        refine tV 15 (v := ?_) rfl (by kernel_rfl) (fun _ _ _ h => h) ?_ (by assumption) ?_
        rotate_left 1
        · (intro x hSx; (try dsimp only at hSx); go_simp; try with_reducible rfl)
        try simp only [Act.put, zgT, zg0, zgS, zsT, zs0, zsS]
        refine tV 16 (v := ?_) rfl (by kernel_rfl) (fun _ _ _ h => h) ?_ (by assumption) ?_
        rotate_left 1
        · (intro x hSx; (try dsimp only at hSx); go_simp; try with_reducible rfl)
        try simp only [Act.put, zgT, zg0, zgS, zsT, zs0, zsS]
        refine tV 17 (v := ?_) rfl (by kernel_rfl) (fun _ _ _ h => h) ?_ (by assumption) ?_
        rotate_left 1
        · (intro x hSx; (try dsimp only at hSx); go_simp; try with_reducible rfl)
        try simp only [Act.put, zgT, zg0, zgS, zsT, zs0, zsS]
        refine wpAnyH_done (by kernel_rfl) ?_ _
        clear hHeld hHeld2 hHeld3 hHeld4
        clear KS
        cases cv
        · obtain ⟨kM0, kM1, kM2, kM3, kM4, kM5, kM6, kM7, kM8, kM9, kM10, kM11, kM12⟩ := bk13 (XM.out w4 bR)
          obtain ⟨kT0, kT1, kT2⟩ := bk3 (XT.out w4 bR)
          go_wp2_with fail
          go_ret
          exact ⟨by rw [rng_no' hlt QQ.out]; rfl, B.out w4 (Below.refl _ _)⟩
        obtain ⟨kM0, kM1, kM2, kM3, kM4, kM5, kM6, kM7, kM8, kM9, kM10, kM11, kM12⟩ := bk13 (XM.out w4 bR)
        obtain ⟨kT0, kT1, kT2⟩ := bk3 (XT.out w4 bR)
        go_wp2_with fail
        exact ⟨⟨k + 1, by omega, by go_num, by rw [rng_on', HA.out, QQ.out]; rfl, HR2.out⟩, by simp [intOf]; omega⟩
    · have ek : yl = k := by omega
      subst ek
      obtain ⟨kM0, kM1, kM2, kM3, kM4, kM5, kM6, kM7, kM8, kM9, kM10, kM11, kM12⟩ := bk13 (XM.out wr bR)
      obtain ⟨kT0, kT1, kT2⟩ := bk3 (XT.out wr bR)
      go_wp2_with fail
      go_ret
      exact ⟨by rw [HA.out]; rfl, B.out wr (Below.refl _ _)⟩


end Go.Proofs.YtjbmcdekhhbiaaaGreat
