/-
  Whether a memory is ok: the specification says so; it writes nothing that was there.
-/
import Derived.Test.YtjbmcdekhhbiaaaGreatMemSe
import Derived.Test.YtjbmcdekhhbiaaaGreatMemSf
namespace Go.Proofs.YtjbmcdekhhbiaaaGreat
open Go.ChangeShapes Go.WideShapes Go.ChangeAt Go.RowKit
set_option linter.unusedVariables false

theorem memB_bnd {L : List Cl} {m : Mm} (h : (bndB L m && zerB m) = false) : memB L m = false := by
  unfold memB; cases h1 : bndB L m
  · rfl
  · rw [h1] at h; simp at h; rw [h]; rfl
theorem memB_walk {L : List Cl} {m : Mm} (h : ((yPs L m).isSome && (oPs L m).isSome) = false) : memB L m = false := by
  unfold memB; rw [h]; simp
theorem memB_all {L : List Cl} {m : Mm} (h0 : (bndB L m && zerB m) = true) (h : ((yPs L m).isSome && (oPs L m).isSome) = true) : memB L m = (thT L m).all (fun t => valB' m (thT L m) t && crdB m t) := by
  unfold memB; rw [h]; simp only [Bool.and_eq_true] at h0; rw [h0.1, h0.2]; rfl
theorem TOk.most {L : List Cl} {m : Mm} {t : Th} (h : TOk L m t) : 1 ≤ t.1 ∧ t.1 ≤ m.1.length := by
  have := h.lo
  have := h.hi
  have := tSz_pos t
  omega
theorem memB_ok {L : List Cl} {m : Mm} (h : memB L m = true) : Bnd L m ∧ zerB m = true ∧ (yPs L m).isSome = true ∧ (oPs L m).isSome = true ∧ ∀ t ∈ thT L m, valB' m (thT L m) t = true ∧ crdB m t = true := by
  unfold memB at h
  simp only [Bool.and_eq_true, List.all_eq_true] at h
  exact ⟨Bnd.of h.1, h.2.1, h.2.2.1.1, h.2.2.1.2, h.2.2.2⟩
theorem Bnd.cards {L : List Cl} {m : Mm} (h : Bnd L m) : (m.1.length : Int) ≤ m.2.1 + m.2.2.2.2.length * 4 ∧ (m.2.2.2.2.length : Int) ≤ 31 := by
  have h1 := h.cd
  have h2 := h.od
  rw [crd_eq (by omega)] at h1
  omega
theorem plN_at {T : List Th} {k : Nat} {t : Th} (h : T[k]? = some t) : (plN T).getD k 0 = t.1 - 1 := by
  unfold plN
  rw [List.getD_eq_getElem?_getD, List.getElem?_map, h]; rfl
theorem all_take_on {α : Type} {p : α → Bool} {xs : List α} {k : Nat} {x : α} (h : (xs.take k).all p = true) (hx : xs[k]? = some x) (hp : p x = true) : (xs.take (k + 1)).all p = true := by
  rw [List.take_succ_eq_append_getElem (List.getElem?_eq_some_iff.1 hx).1, List.all_append, h]
  have := (List.getElem?_eq_some_iff.1 hx).2
  simp [this, hp]
theorem all_no_on {α : Type} {p : α → Bool} {xs : List α} {k : Nat} {x : α} (hx : xs[k]? = some x) (hp : p x = false) : xs.all p = false := by
  rw [List.all_eq_false]
  exact ⟨x, List.mem_of_getElem? hx, by simp [hp]⟩

set_option maxRecDepth 100000 in
set_option maxHeartbeats 16000000 in
theorem memSpec (ca : Option Addr) (cn cc : Nat) (wa : Option Addr) (wl wc : Nat) (yg tp od : Int) (da : Option Addr) (dl dc : Nat) (ws : List Int) (cd : List Bool) (L : List Cl) (w : World) {D E G G2 : Nat → Prop} (h : ClsAt D E w ca cn L) (hw : IntsAt G w wa wl ws) (hc : SlAt boolR G2 w da dl cd) (hyg : i64B yg) (htp : i64B tp) (hod : i64B od) (hl : wl ≤ 1048576) (hd : dl ≤ 1048576) :
    Calls Tryz.prog 27 #[.slice ca cn cc, .agg #[.slice wa wl wc, .int .i64 yg, .int .i64 tp, .int .i64 od, .slice da dl dc]] w fun e w' => e = .returned (.bool (memB L (ws, yg, tp, od, cd))) ∧ Below w.heap.size w w' := by
  have H : Hid (ClsAt D E w ca cn L) := h
  have HW : Hid (IntsAt G w wa wl ws) := hw
  have HC : Hid (SlAt boolR G2 w da dl cd) := hc
  have WS : Hid (ws.length = wl) := hw.size
  have CS : Hid (cd.length = dl) := hc.size
  clear h hw hc
  have hz : w.heap.size + 1 ≤ (w.alloc (.cells #[.slice wa wl wc, .int .i64 yg, .int .i64 tp, .int .i64 od, .slice da dl dc] 29)).heap.size := by simp
  have B : Hid (∀ y, Below (w.heap.size + 1) (w.alloc (.cells #[.slice wa wl wc, .int .i64 yg, .int .i64 tp, .int .i64 od, .slice da dl dc] 29)) y → Below w.heap.size w y) := fun y hy => (bR.alloc (by first | exact Nat.le_refl _ | (simp; done) | (simp; omega)) _).trans (hy.mono (by omega))
  have XM : Hid (∀ y, Below (w.heap.size + 1) (w.alloc (.cells #[.slice wa wl wc, .int .i64 yg, .int .i64 tp, .int .i64 od, .slice da dl dc] 29)) y → y.heap[w.heap.size]? = some (.cells #[.slice wa wl wc, .int .i64 yg, .int .i64 tp, .int .i64 od, .slice da dl dc] 29 (0, 0))) := fun y hy => (hy.block _ (by omega)).trans (boxN _ _ _ _ (by simp))
  have lM : w.heap.size < w.heap.size + 1 := by omega
  go_enter Tryz.func27, Tryz.ntmps27
  go_wp2_with fail
  have BP : Hid (Below (w.heap.size + 1) (w.alloc (.cells #[.slice wa wl wc, .int .i64 yg, .int .i64 tp, .int .i64 od, .slice da dl dc] 29)) (w.alloc (.cells #[.slice wa wl wc, .int .i64 yg, .int .i64 tp, .int .i64 od, .slice da dl dc] 29))) := bR
  refine (boundsSpec _ _ _ _ _ _ yg tp od _ _ _ ws cd L _ (H.out.later (B.out _ BP.out)) (HW.out.later (B.out _ BP.out)) CS.out hyg htp hod hl hd).mono ?_
  rintro e w1 ⟨rfl, hb⟩
  have hq : Below (w.heap.size + 1) (w.alloc (.cells #[.slice wa wl wc, .int .i64 yg, .int .i64 tp, .int .i64 od, .slice da dl dc] 29)) w1 := BP.out.trans (Below.mono hb (Nat.le_trans hz BP.out.size))
  have hzn : w.heap.size + 1 ≤ w1.heap.size := Nat.le_trans hz hq.size
  replace B := lF B hq hzn
  replace XM := lF XM hq hzn
  replace lM := Nat.lt_of_lt_of_le lM hzn
  clear hq BP hz
  have hz : w1.heap.size ≤ w1.heap.size := Nat.le_refl _
  clear hb
  cases h0 : (bndB L (ws, yg, tp, od, cd) && zerB (ws, yg, tp, od, cd))
  · obtain ⟨kM0, kM1, kM2, kM3, kM4⟩ := bk5 (XM.out w1 bR)
    go_wp2_with fail
    go_ret
    exact ⟨by rw [memB_bnd h0]; rfl, B.out w1 (Below.refl _ _)⟩
  have hB0 : Bnd L (ws, yg, tp, od, cd) := Bnd.of (by rw [Bool.and_eq_true] at h0; exact h0.1)
  have HB0 : Hid (Bnd L (ws, yg, tp, od, cd)) := hB0
  obtain ⟨k0, k1, k2, k3, k4, k5⟩ := hB0
  have hcards := HB0.out.cards
  simp only [WS.out, CS.out] at k1 k2 k3 k4 hcards
  have H0 : Hid ((bndB L (ws, yg, tp, od, cd) && zerB (ws, yg, tp, od, cd)) = true) := h0
  clear h0 k5 hyg htp hod
  have OK : Hid (clsOk L = true) := k0
  obtain ⟨yn, rfl⟩ : ∃ n : Nat, yg = n := ⟨yg.toNat, by omega⟩
  obtain ⟨tn, rfl⟩ : ∃ n : Nat, tp = n := ⟨tp.toNat, by omega⟩
  obtain ⟨on, rfl⟩ : ∃ n : Nat, od = n := ⟨od.toNat, by omega⟩
  have m1 : tn ≤ yn := by omega
  have m2 : yn ≤ on := by omega
  have m3 : on ≤ wl := by omega
  have m4 : wl ≤ 200 := by omega
  have m5 : wl ≤ yn + dl * 4 := by omega
  have m6 : dl ≤ 31 := by omega
  have m7 : 14 ≤ wl := by omega
  clear k0 k1 k2 k3 k4 hcards
  obtain ⟨kM0, kM1, kM2, kM3, kM4⟩ := bk5 (XM.out w1 bR)
  go_wp2_with fail
  clear kM0 kM1 kM2 kM3 kM4
  have BP : Hid (Below (w1.heap.size) w1 w1) := bR
  refine (walkSpec _ _ _ _ _ _ yn tn on _ _ _ ws cd L _ (H.out.later (B.out _ BP.out)) OK.out (HW.out.later (B.out _ BP.out)) m1 m2 m3 (by omega)).mono ?_
  rintro e w2 ⟨v, out, bb, rfl, hn, hzo, hx, hbb, hts⟩
  have hb := hn.2
  obtain ⟨g, c, rfl⟩ := own_sl hn.1
  have I2 : Hid (IntsAt (fun b => True) w2 g out.length out) := ((own_at hn.1 (by omega) (fits_lit fun x hx0 => by have := hx x hx0; omega)).1).mono (fun _ _ _ => trivial)
  have BB : Hid (bb = ((yPs L (ws, (yn : Int), (tn : Int), (on : Int), cd)).isSome && (oPs L (ws, (yn : Int), (tn : Int), (on : Int), cd)).isSome)) := hbb
  have TS : Hid (bb = true → out = plN (thT L (ws, (yn : Int), (tn : Int), (on : Int), cd))) := hts
  have hq : Below (w1.heap.size) w1 w2 := BP.out.trans (Below.mono hb (Nat.le_trans hz BP.out.size))
  have hzn : w1.heap.size ≤ w2.heap.size := Nat.le_trans hz hq.size
  replace B := lF B hq hzn
  replace XM := lF XM hq hzn
  replace lM := Nat.lt_of_lt_of_le lM hzn
  clear hq BP hz
  have hz : w2.heap.size ≤ w2.heap.size := Nat.le_refl _
  clear hn hb hx hbb hts
  cases bb
  · obtain ⟨kM0, kM1, kM2, kM3, kM4⟩ := bk5 (XM.out w2 bR)
    go_wp2_with fail
    go_ret
    exact ⟨by rw [memB_walk BB.out.symm]; rfl, B.out w2 (Below.refl _ _)⟩
  have MA : Hid (memB L (ws, (yn : Int), (tn : Int), (on : Int), cd) = (thT L (ws, (yn : Int), (tn : Int), (on : Int), cd)).all (fun t => valB' (ws, (yn : Int), (tn : Int), (on : Int), cd) (thT L (ws, (yn : Int), (tn : Int), (on : Int), cd)) t && crdB (ws, (yn : Int), (tn : Int), (on : Int), cd) t)) := memB_all H0.out BB.out.symm
  have TK0 : Hid (∀ t ∈ thT L (ws, (yn : Int), (tn : Int), (on : Int), cd), TOk L (ws, (yn : Int), (tn : Int), (on : Int), cd) t) := (thT_ok HB0.out).1
  have ho := TS.out rfl
  obtain ⟨T, hT⟩ : ∃ T, thT L (ws, (yn : Int), (tn : Int), (on : Int), cd) = T := ⟨_, rfl⟩
  rw [hT] at MA TK0 ho
  subst ho
  clear hT TS BB H0
  have hpl : (plN T).length = T.length := by simp [plN]
  rw [hpl] at I2 hzo
  have TR : Hid (∀ s ∈ T, 1 ≤ s.1 ∧ s.1 ≤ wl) := fun s hs => by have := (TK0.out s hs).most; simp only [WS.out] at this; exact this
  have TX : Hid (∀ x ∈ plN T, 0 ≤ x ∧ x < (wl : Int)) := fun x hx => by
    obtain ⟨s, hs, rfl⟩ := List.mem_map.1 hx
    have := TR.out s hs
    omega
  have TN : Hid ((plN T).length = T.length) := hpl
  obtain ⟨tl, htl⟩ : ∃ tl, T.length = tl := ⟨_, rfl⟩
  have TL : Hid (T.length = tl) := htl
  rw [htl] at I2 hzo
  rw [hpl, htl]
  clear hpl htl
  obtain ⟨kM0, kM1, kM2, kM3, kM4⟩ := bk5 (XM.out w2 bR)
  go_wp2_with fail
  clear kM0 kM1 kM2 kM3 kM4
  have BP : Hid (Below (w2.heap.size) w2 w2) := bR
  refine (startsSpec wl (by omega) g tl c (plN T) _ (I2.out.later BP.out) TX.out).mono ?_
  rintro e w3 ⟨rfl, hrow, hb⟩
  have RR : Hid (RowAt w3 w2.heap.size wl (fun j => .bool (stB (plN T) j))) := hrow
  have hsg : w2.heap.size < w3.heap.size := by
    rcases Nat.lt_or_ge w2.heap.size w3.heap.size with h | h
    · exact h
    · exfalso; have h1 := (hrow 0 (by omega)).1; have := World.block_lt_of_cell? w3 _ h1; simp at this; omega
  have I3 : Hid (IntsAt (fun b => True) w3 g tl (plN T)) := I2.out.later hb
  have hq : Below (w2.heap.size) w2 w3 := BP.out.trans (Below.mono hb (Nat.le_trans hz BP.out.size))
  have hzn : w2.heap.size ≤ w3.heap.size := Nat.le_trans hz hq.size
  replace B := lF B hq hzn
  replace XM := lF XM hq hzn
  replace lM := Nat.lt_of_lt_of_le lM hzn
  clear hq BP hz
  have hz : w3.heap.size ≤ w3.heap.size := Nat.le_refl _
  clear hb hrow I2
  obtain ⟨kM0, kM1, kM2, kM3, kM4⟩ := bk5 (XM.out w3 bR)
  go_wp2_with fail
  go_loopw [8] (fun t wr => ∃ k : Nat, k ≤ tl ∧ t = .int .i64 k ∧ (T.take k).all (fun t => valB' (ws, (yn : Int), (tn : Int), (on : Int), cd) T t && crdB (ws, (yn : Int), (tn : Int), (on : Int), cd) t) = true ∧ Below w3.heap.size w3 wr) (fun t _ => tl - (intOf t).toNat)
  case atStart => exact ⟨0, Nat.zero_le _, rfl, by simp, Below.refl _ _⟩
  case round =>
    obtain ⟨k, hk, rfl, hall, hr⟩ := hrel
    have HA : Hid ((T.take k).all (fun t => valB' (ws, (yn : Int), (tn : Int), (on : Int), cd) T t && crdB (ws, (yn : Int), (tn : Int), (on : Int), cd) t) = true) := hall
    have HR1 : Hid (Below w3.heap.size w3 wr) := hr
    clear hall
    clear kM0 kM1 kM2 kM3 kM4
    have hzn : w3.heap.size ≤ wr.heap.size := Nat.le_trans hz (Below.size hr)
    replace B := lF B hr hzn
    replace XM := lF XM hr hzn
    replace lM := Nat.lt_of_lt_of_le lM hzn
    clear hz
    have hz : wr.heap.size ≤ wr.heap.size := Nat.le_refl _
    clear hr
    by_cases hlt : k < tl
    · obtain ⟨t, ht⟩ : ∃ t, T[k]? = some t := ⟨T[k]'(by rw [TL.out]; exact hlt), List.getElem?_eq_getElem _⟩
      have HT : Hid (T[k]? = some t) := ht
      have TKt : Hid (TOk L (ws, (yn : Int), (tn : Int), (on : Int), cd) t) := TK0.out t (List.mem_of_getElem? ht)
      obtain ⟨b, off, rfl, _, hcs⟩ := (I3.out.later HR1.out).one k hlt
      have c0 := hcs k hlt
      rw [plN_at ht] at c0
      have hb0 := World.block_lt_of_cell? wr _ c0
      simp only at hb0
      have GC : Hid (∀ y, Below wr.heap.size wr y → y.cell? ⟨b, off + k, none⟩ = some (.int .i64 (t.1 - 1))) := fun y hy => (hy.cell (p := ⟨b, off + k, none⟩) hb0).trans c0
      have tb := TR.out t (List.mem_of_getElem? ht)
      clear hcs ht
      obtain ⟨kM0, kM1, kM2, kM3, kM4⟩ := bk5 (XM.out wr bR)
      go_wp2_with fail
      clear kM0 kM1 kM2 kM3 kM4
      clear c0
      have KS : Hid (∀ x, Below (wr.heap.size) wr x → x.cell? ⟨w.heap.size, 0, none⟩ = some (.slice wa wl wc) ∧ x.cell? ⟨w.heap.size, 1, none⟩ = some (.int .i64 (yn : Nat)) ∧ x.cell? ⟨w.heap.size, 2, none⟩ = some (.int .i64 (tn : Nat)) ∧ x.cell? ⟨w.heap.size, 3, none⟩ = some (.int .i64 (on : Nat)) ∧ x.cell? ⟨w.heap.size, 4, none⟩ = some (.slice da dl dc) ∧ x.cell? ⟨b, off + k, none⟩ = some (.int .i64 (t.1 - 1))) := fun x hx => ⟨(boxG (XM.out x hx) 0).1, (boxG (XM.out x hx) 1).1, (boxG (XM.out x hx) 2).1, (boxG (XM.out x hx) 3).1, (boxG (XM.out x hx) 4).1, GC.out x hx⟩
      refine wp_region_held_drew (S := fun x => x.cell? ⟨w.heap.size, 0, none⟩ = some (.slice wa wl wc) ∧ x.cell? ⟨w.heap.size, 1, none⟩ = some (.int .i64 (yn : Nat)) ∧ x.cell? ⟨w.heap.size, 2, none⟩ = some (.int .i64 (tn : Nat)) ∧ x.cell? ⟨w.heap.size, 3, none⟩ = some (.int .i64 (on : Nat)) ∧ x.cell? ⟨w.heap.size, 4, none⟩ = some (.slice da dl dc) ∧ x.cell? ⟨b, off + k, none⟩ = some (.int .i64 (t.1 - 1))) (by kernel_rfl) ?_ (fun hHeld => ?_)
      · exact KS.out _ (bdrew bR)
      refine tV 0 (v := ?_) rfl (by kernel_rfl) (fun _ _ _ h => h) ?_ (by assumption) ?_
      rotate_left 1
      · (intro x hSx; (try dsimp only at hSx); go_simp; try with_reducible rfl)
      try simp only [Act.put, zgT, zg0, zsT, zs0, zsS]
      refine tV 1 (v := ?_) rfl (by kernel_rfl) (fun _ _ _ h => h) ?_ (by assumption) ?_
      rotate_left 1
      · (intro x hSx; (try dsimp only at hSx); go_simp; try with_reducible rfl)
      try simp only [Act.put, zgT, zg0, zgS, zsT, zs0, zsS]
      refine tV 2 (v := ?_) rfl (by kernel_rfl) (fun _ _ _ h => h) ?_ (by assumption) ?_
      rotate_left 1
      · (intro x hSx; (try dsimp only at hSx); go_simp; try with_reducible rfl)
      try simp only [Act.put, zgT, zg0, zgS, zsT, zs0, zsS]
      refine tV 3 (v := ?_) rfl (by kernel_rfl) (fun _ _ _ h => h) ?_ (by assumption) ?_
      rotate_left 1
      · (intro x hSx; (try dsimp only at hSx); go_simp; try with_reducible rfl)
      try simp only [Act.put, zgT, zg0, zgS, zsT, zs0, zsS]
      refine tV 4 (v := ?_) rfl (by kernel_rfl) (fun _ _ _ h => h) ?_ (by assumption) ?_
      rotate_left 1
      · (intro x hSx; (try dsimp only at hSx); go_simp; try with_reducible rfl)
      try simp only [Act.put, zgT, zg0, zgS, zsT, zs0, zsS]
      refine tV 5 (v := ?_) rfl (by kernel_rfl) (fun _ _ _ h => h) ?_ (by assumption) ?_
      rotate_left 1
      · (intro x hSx; (try dsimp only at hSx); go_simp; try with_reducible rfl)
      try simp only [Act.put, zgT, zg0, zgS, zsT, zs0, zsS]
      refine tV 6 (v := ?_) rfl (by kernel_rfl) (fun _ _ _ h => h) ?_ (by assumption) ?_
      rotate_left 1
      · (intro x hSx; (try dsimp only at hSx); go_simp; try with_reducible rfl)
      try simp only [Act.put, zgT, zg0, zgS, zsT, zs0, zsS]
      refine wpAnyH_ready (rs := [7]) (by kernel_rfl) (by simp) ?_
      refine AllReadyH.cons rfl (fun K hK => ?_) AllReadyH.nil
      go_simp
      go_at_call 60
      have BP : Hid (Below (wr.heap.size) wr wr.drew) := (bdrew bR)
      refine (thingSpec21 _ _ _ _ _ _ yn tn on _ _ _ w2.heap.size _ T t ws cd L _ (H.out.later (B.out _ BP.out)) OK.out (HW.out.later (B.out _ BP.out)) (HC.out.later (B.out _ BP.out)) (fun j hj => (((HR1.out.trans (Below.mono BP.out HR1.out.size)).cell (p := ⟨w2.heap.size, j, none⟩) hsg).trans (RR.out j hj).1)) (Nat.lt_of_lt_of_le hsg (Nat.le_trans HR1.out.size BP.out.size)) TR.out TKt.out (by omega) (by omega) m5 (by omega)).mono ?_
      rintro e w4 ⟨rfl, hb⟩
      have HR4 : Hid (Below w3.heap.size w3 w4) := HR1.out.trans ((BP.out.trans (hb.mono BP.out.size)).mono HR1.out.size)
      obtain ⟨q, hq⟩ : ∃ q, (valB' (ws, (yn : Int), (tn : Int), (on : Int), cd) T t && crdB (ws, (yn : Int), (tn : Int), (on : Int), cd) t) = q := ⟨_, rfl⟩
      have HQ : Hid ((valB' (ws, (yn : Int), (tn : Int), (on : Int), cd) T t && crdB (ws, (yn : Int), (tn : Int), (on : Int), cd) t) = q) := hq
      rw [hq]
      clear hq
      replace GC : Hid (∀ y, Below w4.heap.size w4 y → y.cell? ⟨b, off + k, none⟩ = some (.int .i64 (t.1 - 1))) := fun y hy => GC.out y (BP.out.trans ((hb.mono BP.out.size).trans (hy.mono (Nat.le_trans BP.out.size hb.size))))
      have hq : Below (wr.heap.size) wr w4 := BP.out.trans (Below.mono hb (Nat.le_trans hz BP.out.size))
      have hzn : wr.heap.size ≤ w4.heap.size := Nat.le_trans hz hq.size
      replace B := lF B hq hzn
      replace KS := lF KS hq hzn
      replace XM := lF XM hq hzn
      replace lM := Nat.lt_of_lt_of_le lM hzn
      clear hq BP hz
      have hz : w4.heap.size ≤ w4.heap.size := Nat.le_refl _
      clear hb
      go_wp2_with fail
      refine hK.out _ _ (KS.out _ bR) (fun hHeld2 => ?_)
      clear hK K
      try simp only [Act.put, zgT, zg0, zgS, zsT, zs0, zsS]
      refine tV 8 (v := ?_) rfl (by kernel_rfl) (fun _ _ _ h => h) ?_ (by assumption) ?_
      rotate_left 1
      · (intro x hSx; (try dsimp only at hSx); go_simp; try with_reducible rfl)
      try simp only [Act.put, zgT, zg0, zgS, zsT, zs0, zsS]
      refine wpAnyH_done (by kernel_rfl) ?_ _
      clear hHeld hHeld2
      clear KS
      cases q
      · obtain ⟨kM0, kM1, kM2, kM3, kM4⟩ := bk5 (XM.out w4 bR)
        go_wp2_with fail
        go_ret
        exact ⟨by rw [MA.out, all_no_on HT.out HQ.out]; rfl, B.out w4 (Below.refl _ _)⟩
      obtain ⟨kM0, kM1, kM2, kM3, kM4⟩ := bk5 (XM.out w4 bR)
      go_wp2_with fail
      exact ⟨⟨k + 1, by omega, by go_num, all_take_on HA.out HT.out HQ.out, HR4.out⟩, by simp [intOf]; omega⟩
    · have ek : tl = k := by omega
      subst ek
      have FA : Hid (T.all (fun t => valB' (ws, (yn : Int), (tn : Int), (on : Int), cd) T t && crdB (ws, (yn : Int), (tn : Int), (on : Int), cd) t) = true) := by have := HA.out; rwa [← TL.out, List.take_length] at this
      obtain ⟨kM0, kM1, kM2, kM3, kM4⟩ := bk5 (XM.out wr bR)
      go_wp2_with fail
      go_ret
      exact ⟨by rw [MA.out, FA.out]; rfl, B.out wr (Below.refl _ _)⟩

end Go.Proofs.YtjbmcdekhhbiaaaGreat
