/-
  All that a memory holds is ok, and the rest is 0, by the program: what it says; it writes nothing that was there.
-/
import Derived.Test.YtjbmcdekhhbiaaaGreatMemIg
import Derived.Test.YtjbmcdekhhbiaaaGreatMemSg
namespace Go.Proofs.YtjbmcdekhhbiaaaGreat
open Go.ChangeShapes Go.WideShapes Go.ChangeAt Go.RowKit
set_option linter.unusedVariables false

theorem freeImpl (pb po pl pc ah us : Nat) (w : World) (h1 : us ≤ pl) (h2 : pl ≤ pc) : Calls Tryz.prog 76 #[.agg #[.slice (some ⟨pb, po, none⟩) pl pc, .int .i64 (ah : Nat), .int .i64 (us : Nat)]] w fun e w' => ∃ ra rc, e = .returned (.slice ra (pl - us) rc) ∧ (0 < pl - us → ra = some ⟨pb, po + us, none⟩) ∧ Below w.heap.size w w' := by
  by_cases hq : pc = us
  · go_enter Tryz.func76, Tryz.ntmps76
    go_wp2_with fail
    go_ret
    exact ⟨_, _, rfl, (fun h => by omega), by go_grown⟩
  · go_enter Tryz.func76, Tryz.ntmps76
    go_wp2_with fail
    go_ret
    exact ⟨_, _, rfl, (fun h => by first | rfl | exact if_neg hq), by go_grown⟩
set_option maxRecDepth 100000 in
theorem eachZero (a : Option Addr) (l c : Nat) (xs : List Int) (w : World) {D : Nat → Prop} (h : IntsAt D w a l xs) (hl : l ≤ 1000) : Calls Tryz.prog 104 #[.slice a l c, .func (.func 105) #[] #[]] w fun e w' => e = .returned (.bool (xs.all (· == 0))) ∧ w = w' := by
  have H : Hid (IntsAt D w a l xs) := h
  have LS : Hid (xs.length = l) := h.size
  obtain ⟨P, hP⟩ : ∃ P : Int → Bool, P = (· == 0) := ⟨_, rfl⟩
  have HP : Hid (P = (· == 0)) := hP
  rw [← hP]
  clear h hP
  go_enter Tryz.func104, Tryz.ntmps104
  go_wp2_with fail
  go_loop [9] (fun t => ∃ k : Nat, k ≤ l ∧ t = .int .i64 k ∧ (xs.take k).all P = true) (fun t => l - (intOf t).toNat)
  case atStart => exact ⟨0, Nat.zero_le _, rfl, by simp⟩
  case round =>
    obtain ⟨k, hk, rfl, hall⟩ := hrel
    have HA : Hid ((xs.take k).all P = true) := hall
    clear hall
    by_cases hlt : k < l
    · obtain ⟨b, off, rfl, _, hcs⟩ := H.out.one k hlt
      have c0 := hcs k hlt
      obtain ⟨x, hx⟩ : ∃ x, xs[k]? = some x := ⟨xs[k]'(by rw [LS.out]; exact hlt), List.getElem?_eq_getElem _⟩
      rw [List.getD_eq_getElem?_getD, hx] at c0
      simp only [Option.getD_some] at c0
      have HX : Hid (xs[k]? = some x) := hx
      clear hcs hx
      go_wp2_with fail
      refine (isZeroImpl x _).mono ?_
      rintro e w1 ⟨rfl, rfl⟩
      cases hq : (x == 0)
      · go_wp2_with fail
        go_ret
        exact ⟨by rw [all_no_on HX.out (by rw [HP.out]; exact hq)]; rfl, rfl⟩
      · go_wp2_with fail
        exact ⟨⟨k + 1, by omega, by go_num, all_take_on HA.out HX.out (by rw [HP.out]; exact hq)⟩, by simp [intOf]; omega⟩
    · have ek : k = l := by omega
      subst ek
      have FA : Hid (xs.all P = true) := by have := HA.out; rwa [← LS.out, List.take_length] at this
      go_wp2_with fail
      go_ret
      exact ⟨by rw [FA.out]; rfl, rfl⟩
/-- What is not in use is 0. -/
theorem zer_two {L : List Cl} {ws : List Int} {yg tp od : Nat} {cd : List Bool} (h1 : tp ≤ yg) (h2 : yg ≤ od) (h3 : od ≤ ws.length) : zerB (ws, (yg : Int), (tp : Int), (od : Int), cd) = (((ws.take yg).drop tp).all (· == 0) && ((ws.take ws.length).drop od).all (· == 0)) := by
  have key : ∀ (i e : Nat), e ≤ ws.length → (((ws.take e).drop i).all (· == 0) = true ↔ ∀ j, i ≤ j → j < e → ws.getD j 0 = 0) := fun i e he => by
    rw [List.all_eq_true]
    constructor
    · intro h j hj hje
      have hm : ((ws.take e).drop i)[j - i]? = some (ws[j]'(by omega)) := by
        rw [List.getElem?_drop, List.getElem?_take, if_pos (by omega), show i + (j - i) = j by omega, List.getElem?_eq_getElem]
      have := h _ (List.mem_of_getElem? hm)
      rw [List.getD_eq_getElem?_getD, List.getElem?_eq_getElem (by omega)]
      simpa using this
    · intro h x hx
      obtain ⟨k, hk⟩ := List.getElem?_of_mem hx
      have hlt := (List.getElem?_eq_some_iff.1 hk).1
      rw [List.length_drop, List.length_take] at hlt
      have := h (i + k) (by omega) (by omega)
      rw [List.getElem?_drop, List.getElem?_take, if_pos (by omega)] at hk
      rw [List.getD_eq_getElem?_getD, hk] at this
      simpa using this
  rw [Bool.eq_iff_iff, Bool.and_eq_true, key tp yg (by omega), key od ws.length (Nat.le_refl _)]
  unfold zerB
  rw [List.all_eq_true]
  simp only [List.mem_range]
  have idl : ∀ i : Nat, idle (ws, (yg : Int), (tp : Int), (od : Int), cd) i = true ↔ (tp ≤ i ∧ i < yg) ∨ od ≤ i := fun i => by
    unfold idle
    rw [Bool.or_eq_true, inI_iff, decide_eq_true_iff]
    simp only
    omega
  constructor
  · intro h
    refine ⟨fun j a b => ?_, fun j a b => ?_⟩
    · have := h j (by omega)
      rw [(idl j).2 (.inl ⟨a, b⟩)] at this
      simpa using this
    · have := h j b
      rw [(idl j).2 (.inr a)] at this
      simpa using this
  · intro h i hi
    cases hq : idle (ws, (yg : Int), (tp : Int), (od : Int), cd) i
    · rfl
    · rcases (idl i).1 hq with ⟨a, b⟩ | a
      · rw [h.1 i a b]; rfl
      · rw [h.2 i a hi]; rfl

set_option maxRecDepth 100000 in
set_option maxHeartbeats 4000000 in
theorem restImpl (ca : Option Addr) (cn cc wb wo wl wc yg tp od : Nat) (da : Option Addr) (dl dc pc ol oc ou : Nat) (ta : Option Addr) (tl tc : Nat) (ws : List Int) (cd : List Bool) (w : World) {G : Nat → Prop} (hw : IntsAt G w (some ⟨wb, wo, none⟩) wl ws) (h1 : tp ≤ yg) (h2 : yg ≤ od) (h3 : od ≤ wl) (hwl : wl ≤ 1000) (hpc : yg ≤ pc) (hol : ol = wl - yg) (hoc : ol ≤ oc) (hou : ou = od - yg) : Calls Tryz.prog 68 #[.agg #[.slice ca cn cc, .slice (some ⟨wb, wo, none⟩) wl wc, .int .i64 (yg : Nat), .int .i64 (tp : Nat), .int .i64 (od : Nat), .slice da dl dc, .slice (some ⟨wb, wo, none⟩) yg pc, .int .i64 0, .int .i64 (tp : Nat), .slice (some ⟨wb, wo + yg, none⟩) ol oc, .int .i64 (yg : Nat), .int .i64 (ou : Nat), .slice ta tl tc]] w fun e w' => e = .returned (.bool (zerB (ws, (yg : Int), (tp : Int), (od : Int), cd))) ∧ Below w.heap.size w w' := by
  have HW : Hid (IntsAt G w (some ⟨wb, wo, none⟩) wl ws) := hw
  have WS : Hid (ws.length = wl) := hw.size
  have ZT : Hid (zerB (ws, (yg : Int), (tp : Int), (od : Int), cd) = (((ws.take yg).drop tp).all (· == 0) && ((ws.take wl).drop od).all (· == 0))) := by show _ = _; rw [zer_two (L := []) h1 h2 (by rw [hw.size]; exact h3), hw.size]
  have OE : Hid (wo + yg + ou = wo + od) := by show _ = _; omega
  have OE2 : Hid (ol - ou = wl - od) := by show _ = _; omega
  have o1 : ou ≤ ol := by omega
  clear hw hol hou
  have hz : w.heap.size + 1 ≤ (w.alloc (.cells #[.slice ca cn cc, .slice (some ⟨wb, wo, none⟩) wl wc, .int .i64 (yg : Nat), .int .i64 (tp : Nat), .int .i64 (od : Nat), .slice da dl dc, .slice (some ⟨wb, wo, none⟩) yg pc, .int .i64 0, .int .i64 (tp : Nat), .slice (some ⟨wb, wo + yg, none⟩) ol oc, .int .i64 (yg : Nat), .int .i64 (ou : Nat), .slice ta tl tc] 65)).heap.size := by simp
  have B : Hid (∀ y, Below (w.heap.size + 1) (w.alloc (.cells #[.slice ca cn cc, .slice (some ⟨wb, wo, none⟩) wl wc, .int .i64 (yg : Nat), .int .i64 (tp : Nat), .int .i64 (od : Nat), .slice da dl dc, .slice (some ⟨wb, wo, none⟩) yg pc, .int .i64 0, .int .i64 (tp : Nat), .slice (some ⟨wb, wo + yg, none⟩) ol oc, .int .i64 (yg : Nat), .int .i64 (ou : Nat), .slice ta tl tc] 65)) y → Below w.heap.size w y) := fun y hy => (bR.alloc (by first | exact Nat.le_refl _ | (simp; done) | (simp; omega)) _).trans (hy.mono (by omega))
  have XM : Hid (∀ y, Below (w.heap.size + 1) (w.alloc (.cells #[.slice ca cn cc, .slice (some ⟨wb, wo, none⟩) wl wc, .int .i64 (yg : Nat), .int .i64 (tp : Nat), .int .i64 (od : Nat), .slice da dl dc, .slice (some ⟨wb, wo, none⟩) yg pc, .int .i64 0, .int .i64 (tp : Nat), .slice (some ⟨wb, wo + yg, none⟩) ol oc, .int .i64 (yg : Nat), .int .i64 (ou : Nat), .slice ta tl tc] 65)) y → y.heap[w.heap.size]? = some (.cells #[.slice ca cn cc, .slice (some ⟨wb, wo, none⟩) wl wc, .int .i64 (yg : Nat), .int .i64 (tp : Nat), .int .i64 (od : Nat), .slice da dl dc, .slice (some ⟨wb, wo, none⟩) yg pc, .int .i64 0, .int .i64 (tp : Nat), .slice (some ⟨wb, wo + yg, none⟩) ol oc, .int .i64 (yg : Nat), .int .i64 (ou : Nat), .slice ta tl tc] 65 (0, 0))) := fun y hy => (hy.block _ (by omega)).trans (boxN _ _ _ _ (by simp))
  have lM : w.heap.size < w.heap.size + 1 := by omega
  go_enter Tryz.func68, Tryz.ntmps68
  go_wp2_with fail
  have BP : Hid (Below (w.heap.size + 1) (w.alloc (.cells #[.slice ca cn cc, .slice (some ⟨wb, wo, none⟩) wl wc, .int .i64 (yg : Nat), .int .i64 (tp : Nat), .int .i64 (od : Nat), .slice da dl dc, .slice (some ⟨wb, wo, none⟩) yg pc, .int .i64 0, .int .i64 (tp : Nat), .slice (some ⟨wb, wo + yg, none⟩) ol oc, .int .i64 (yg : Nat), .int .i64 (ou : Nat), .slice ta tl tc] 65)) (w.alloc (.cells #[.slice ca cn cc, .slice (some ⟨wb, wo, none⟩) wl wc, .int .i64 (yg : Nat), .int .i64 (tp : Nat), .int .i64 (od : Nat), .slice da dl dc, .slice (some ⟨wb, wo, none⟩) yg pc, .int .i64 0, .int .i64 (tp : Nat), .slice (some ⟨wb, wo + yg, none⟩) ol oc, .int .i64 (yg : Nat), .int .i64 (ou : Nat), .slice ta tl tc] 65))) := bR
  refine (freeImpl wb wo yg pc 0 tp _ h1 hpc).mono ?_
  rintro e w1 ⟨ra, rc, rfl, hra, hb⟩
  have hq : Below (w.heap.size + 1) (w.alloc (.cells #[.slice ca cn cc, .slice (some ⟨wb, wo, none⟩) wl wc, .int .i64 (yg : Nat), .int .i64 (tp : Nat), .int .i64 (od : Nat), .slice da dl dc, .slice (some ⟨wb, wo, none⟩) yg pc, .int .i64 0, .int .i64 (tp : Nat), .slice (some ⟨wb, wo + yg, none⟩) ol oc, .int .i64 (yg : Nat), .int .i64 (ou : Nat), .slice ta tl tc] 65)) w1 := BP.out.trans (Below.mono hb (Nat.le_trans hz BP.out.size))
  have hzn : w.heap.size + 1 ≤ w1.heap.size := Nat.le_trans hz hq.size
  replace B := lF B hq hzn
  replace XM := lF XM hq hzn
  replace lM := Nat.lt_of_lt_of_le lM hzn
  clear hq BP hz
  have hz : w1.heap.size ≤ w1.heap.size := Nat.le_refl _
  clear hb
  have S1 : Hid (IntsAt G w1 ra (yg - tp) ((ws.take yg).drop tp)) := by
    have hs := IntsAt.sub (HW.out.later (B.out w1 (Below.refl _ _))) tp yg h1 (by omega)
    by_cases h0 : 0 < yg - tp
    · rw [hra h0]; exact hs
    · exact ⟨hs.size, hs.room, .inl (by omega), hs.fits⟩
  obtain ⟨kM0, kM1, kM2, kM3, kM4, kM5, kM6, kM7, kM8, kM9, kM10, kM11, kM12⟩ := bk13 (XM.out w1 bR)
  go_wp2_with fail
  clear kM0 kM1 kM2 kM3 kM4 kM5 kM6 kM7 kM8 kM9 kM10 kM11 kM12
  refine (eachZero _ _ _ _ _ S1.out (by omega)).mono ?_
  rintro e wz ⟨rfl, rfl⟩
  obtain ⟨q1, hq1⟩ : ∃ q, ((ws.take yg).drop tp).all (· == 0) = q := ⟨_, rfl⟩
  have Q1 : Hid (((ws.take yg).drop tp).all (· == 0) = q1) := hq1
  rw [hq1]
  clear hq1 hra
  cases q1
  · obtain ⟨kM0, kM1, kM2, kM3, kM4, kM5, kM6, kM7, kM8, kM9, kM10, kM11, kM12⟩ := bk13 (XM.out w1 bR)
    go_wp2_with fail
    go_ret
    exact ⟨by rw [ZT.out, Q1.out]; rfl, B.out w1 (Below.refl _ _)⟩
  obtain ⟨kM0, kM1, kM2, kM3, kM4, kM5, kM6, kM7, kM8, kM9, kM10, kM11, kM12⟩ := bk13 (XM.out w1 bR)
  go_wp2_with fail
  clear kM0 kM1 kM2 kM3 kM4 kM5 kM6 kM7 kM8 kM9 kM10 kM11 kM12
  have BP : Hid (Below (w1.heap.size) w1 w1) := bR
  refine (freeImpl wb (wo + yg) ol oc yg ou _ (by omega) hoc).mono ?_
  rintro e w2 ⟨ra2, rc2, rfl, hra2, hb⟩
  have hq : Below (w1.heap.size) w1 w2 := BP.out.trans (Below.mono hb (Nat.le_trans hz BP.out.size))
  have hzn : w1.heap.size ≤ w2.heap.size := Nat.le_trans hz hq.size
  replace B := lF B hq hzn
  replace XM := lF XM hq hzn
  replace lM := Nat.lt_of_lt_of_le lM hzn
  clear hq BP hz
  have hz : w2.heap.size ≤ w2.heap.size := Nat.le_refl _
  clear hb
  rw [OE.out, OE2.out] at hra2
  rw [OE2.out]
  have S2 : Hid (IntsAt G w2 ra2 (wl - od) ((ws.take wl).drop od)) := by
    have hs := IntsAt.sub (HW.out.later (B.out w2 (Below.refl _ _))) od wl h3 (Nat.le_refl _)
    by_cases h0 : 0 < wl - od
    · rw [hra2 h0]; exact hs
    · exact ⟨hs.size, hs.room, .inl (by omega), hs.fits⟩
  clear hra2
  go_wp2_with fail
  refine (eachZero _ _ _ _ _ S2.out (by omega)).mono ?_
  rintro e wz ⟨rfl, rfl⟩
  obtain ⟨q2, hq2⟩ : ∃ q, ((ws.take wl).drop od).all (· == 0) = q := ⟨_, rfl⟩
  have Q2 : Hid (((ws.take wl).drop od).all (· == 0) = q2) := hq2
  rw [hq2]
  clear hq2
  go_wp2_with fail
  go_ret
  exact ⟨by rw [ZT.out, Q1.out, Q2.out]; rfl, B.out w2 (Below.refl _ _)⟩

theorem val_p {ws : List Int} {yg tp od : Nat} {cd : List Bool} {T : List Th} (p : Nat) (c0 : Int) (ty : List Int) : valB' (ws, (yg : Int), (tp : Int), (od : Int), cd) T ((p : Int) + 1, c0, ty) = (List.range ty.length).all (fun k => mayV T (ty.getD k 0) (ws.getD (p + hdN c0 + k) 0)) := by
  unfold valB' plc
  simp only [show ((p : Int) + 1).toNat - 1 = p by omega]
theorem crd_p {ws : List Int} {yg tp od : Nat} {cd : List Bool} (p : Nat) (c0 : Int) (ty : List Int) : crdB (ws, (yg : Int), (tp : Int), (od : Int), cd) ((p : Int) + 1, c0, ty) = (List.range ty.length).all (fun k => !(!(inI ((p : Int) + 1) 1 yg) && (ty.getD k 0 != 1 && inI (ws.getD (p + hdN c0 + k) 0) 1 yg)) || cd.getD ((p + hdN c0 + k - yg) / 4) false) := by
  unfold crdB plc needV cdN
  simp only [show ((p : Int) + 1).toNat - 1 = p by omega, Int.toNat_natCast]

set_option maxRecDepth 100000 in
set_option maxHeartbeats 4000000 in
theorem eachValues (ca : Option Addr) (cn cc wb wo wl wc yg tp od : Nat) (da : Option Addr) (dl dc pc ol oc ou : Nat) (ta : Option Addr) (tl tc : Nat) (T : List Th) (ws : List Int) (cd : List Bool) (L : List Cl) (w : World) {D G G2 : Nat → Prop} (h : SlAt thR D w ta tl T) (hi : Inc T) (hl : tl ≤ 1000) (hw : IntsAt G w (some ⟨wb, wo, none⟩) wl ws) (hc : SlAt boolR G2 w da dl cd) (hto : ∀ t ∈ T, TOk L (ws, (yg : Int), (tp : Int), (od : Int), cd) t) (h2 : wl ≤ wc) (h3 : wl ≤ 1000) (hdl : wl ≤ yg + dl * 4) :
    Calls Tryz.prog 106 #[.slice ta tl tc, .func (.func 107) #[.agg #[.slice ca cn cc, .slice (some ⟨wb, wo, none⟩) wl wc, .int .i64 (yg : Nat), .int .i64 (tp : Nat), .int .i64 (od : Nat), .slice da dl dc, .slice (some ⟨wb, wo, none⟩) yg pc, .int .i64 0, .int .i64 (tp : Nat), .slice (some ⟨wb, wo + yg, none⟩) ol oc, .int .i64 (yg : Nat), .int .i64 (ou : Nat), .slice ta tl tc]] #[]] w fun e w' => e = .returned (.bool (T.all (valB' (ws, (yg : Int), (tp : Int), (od : Int), cd) T))) ∧ Below w.heap.size w w' := by
  have H : Hid (SlAt thR D w ta tl T) := h
  have TS : Hid (T.length = tl) := h.size
  have IN : Hid (Inc T) := hi
  have HW : Hid (IntsAt G w (some ⟨wb, wo, none⟩) wl ws) := hw
  have WS : Hid (ws.length = wl) := hw.size
  have HC : Hid (SlAt boolR G2 w da dl cd) := hc
  have TO : Hid (∀ t ∈ T, TOk L (ws, (yg : Int), (tp : Int), (od : Int), cd) t) := hto
  obtain ⟨P, hP⟩ : ∃ P : Th → Bool, P = (valB' (ws, (yg : Int), (tp : Int), (od : Int), cd) T) := ⟨_, rfl⟩
  have HP : Hid (P = (valB' (ws, (yg : Int), (tp : Int), (od : Int), cd) T)) := hP
  rw [← hP]
  clear h hi hw hc hto hP
  go_enter Tryz.func106, Tryz.ntmps106
  go_wp2_with fail
  go_loopw [9] (fun t wr => ∃ k : Nat, k ≤ tl ∧ t = .int .i64 k ∧ (T.take k).all P = true ∧ Below w.heap.size w wr) (fun t _ => tl - (intOf t).toNat)
  case atStart => exact ⟨0, Nat.zero_le _, rfl, by simp, Below.refl _ _⟩
  case round =>
    obtain ⟨k, hk, rfl, ha, hb⟩ := hrel
    have HA : Hid ((T.take k).all P = true) := ha
    have HB : Hid (Below w.heap.size w wr) := hb
    clear ha hb
    by_cases hlt : k < tl
    · obtain ⟨t, ht⟩ : ∃ t, T[k]? = some t := ⟨T[k]'(by rw [TS.out]; exact hlt), List.getElem?_eq_getElem _⟩
      have HT : Hid (T[k]? = some t) := ht
      have hok := TO.out t (List.mem_of_getElem? ht)
      obtain ⟨b, off, rfl, _, us, hvv, hc⟩ := (H.out.later HB.out).at k t ht
      obtain ⟨x0, x1, ty⟩ := t
      obtain ⟨_, _, rfl, ⟨rfl, hx0⟩, _, _, rfl, ⟨rfl, hx1⟩, ya, yl, yc, rfl, hy⟩ := hvv
      have lo := hok.lo
      have hhi := hok.hi
      simp only [tSz] at lo hhi
      rw [hy.size, WS.out] at hhi
      obtain ⟨p, rfl⟩ : ∃ p : Nat, x0 = (p : Int) + 1 := ⟨x0.toNat - 1, by omega⟩
      have hp1 : p + hdN x1 + yl ≤ wl := by omega
      have PE : Hid (P ((p : Int) + 1, x1, ty) = (valB' (ws, (yg : Int), (tp : Int), (od : Int), cd) T) ((p : Int) + 1, x1, ty)) := by show _ = _; rw [HP.out]
      have YS : Hid (ty.length = yl) := hy.size
      have EQ : Hid ((List.range yl).all (fun k => mayV T (ty.getD k 0) (ws.getD (p + hdN x1 + k) 0)) = P ((p : Int) + 1, x1, ty)) := by
        show _ = _
        rw [PE.out, val_p, YS.out]
      have HY : Hid (IntsAt D wr ya yl ty) := hy.ints
      have c0x : wr.cell? ⟨b, off + k * 3, none⟩ = some (.int .i64 ((p : Int) + 1)) := hc 0 _ rfl
      have c1x : wr.cell? ⟨b, off + k * 3 + 1, none⟩ = some (.int .i64 x1) := hc 1 _ rfl
      have c2x : wr.cell? ⟨b, off + k * 3 + 2, none⟩ = some (.slice ya yl yc) := hc 2 _ rfl
      have BL : Hid (Below wr.heap.size wr (wr.alloc (.cells #[.int .i64 ((p : Int) + 1), .int .i64 x1, .slice ya yl yc] 69))) := (Below.refl _ _).alloc (Nat.le_refl _) _
      have BL0 : Hid (Below w.heap.size w (wr.alloc (.cells #[.int .i64 ((p : Int) + 1), .int .i64 x1, .slice ya yl yc] 69))) := HB.out.trans (BL.out.mono HB.out.size)
      have TZ : Hid (∀ k, k < yl → ty.getD k 0 ≠ 0) := fun k hk => hok.tz k (by show k < ty.length; rw [YS.out]; exact hk)
      clear ht hc hok lo hhi hy hx0 hx1
      go_wp2_with fail
      refine (valuesImpl ca cn cc wb wo wl wc yg tp od da dl dc pc ol oc ou (some ⟨b, off, none⟩) tl tc p x1 ya yl yc T ty ws cd _ (H.out.later BL0.out) IN.out hl (HW.out.later BL0.out) (HY.out.later BL.out) (HC.out.later BL0.out) hp1 h2 h3 hdl TZ.out).mono ?_
      rintro e w2 ⟨rfl, hb2⟩
      have B2 : Hid (Below w.heap.size w w2) := BL0.out.trans (hb2.mono BL0.out.size)
      clear hb2
      rw [EQ.out]
      clear EQ PE
      cases hq : P ((p : Int) + 1, x1, ty)
      · go_wp2_with fail
        go_ret
        exact ⟨by rw [all_no_on HT.out hq]; rfl, B2.out⟩
      · go_wp2_with fail
        exact ⟨⟨k + 1, by omega, by go_num, all_take_on HA.out HT.out hq, B2.out⟩, by simp [intOf]; omega⟩
    · have ek : tl = k := by omega
      subst ek
      have HR : Hid (T.all P = true) := by have := HA.out; rwa [← TS.out, List.take_length] at this
      go_wp2_with fail
      go_ret
      exact ⟨by rw [HR.out]; rfl, HB.out⟩

set_option maxRecDepth 100000 in
set_option maxHeartbeats 4000000 in
theorem eachCards (ca : Option Addr) (cn cc wb wo wl wc yg tp od : Nat) (da : Option Addr) (dl dc pc ol oc ou : Nat) (ta : Option Addr) (tl tc : Nat) (T : List Th) (ws : List Int) (cd : List Bool) (L : List Cl) (w : World) {D G G2 : Nat → Prop} (h : SlAt thR D w ta tl T) (hi : Inc T) (hl : tl ≤ 1000) (hw : IntsAt G w (some ⟨wb, wo, none⟩) wl ws) (hc : SlAt boolR G2 w da dl cd) (hto : ∀ t ∈ T, TOk L (ws, (yg : Int), (tp : Int), (od : Int), cd) t) (h2 : wl ≤ wc) (h3 : wl ≤ 1000) (hdl : wl ≤ yg + dl * 4) :
    Calls Tryz.prog 106 #[.slice ta tl tc, .func (.func 108) #[.agg #[.slice ca cn cc, .slice (some ⟨wb, wo, none⟩) wl wc, .int .i64 (yg : Nat), .int .i64 (tp : Nat), .int .i64 (od : Nat), .slice da dl dc, .slice (some ⟨wb, wo, none⟩) yg pc, .int .i64 0, .int .i64 (tp : Nat), .slice (some ⟨wb, wo + yg, none⟩) ol oc, .int .i64 (yg : Nat), .int .i64 (ou : Nat), .slice ta tl tc]] #[]] w fun e w' => e = .returned (.bool (T.all (crdB (ws, (yg : Int), (tp : Int), (od : Int), cd)))) ∧ Below w.heap.size w w' := by
  have H : Hid (SlAt thR D w ta tl T) := h
  have TS : Hid (T.length = tl) := h.size
  have IN : Hid (Inc T) := hi
  have HW : Hid (IntsAt G w (some ⟨wb, wo, none⟩) wl ws) := hw
  have WS : Hid (ws.length = wl) := hw.size
  have HC : Hid (SlAt boolR G2 w da dl cd) := hc
  have TO : Hid (∀ t ∈ T, TOk L (ws, (yg : Int), (tp : Int), (od : Int), cd) t) := hto
  obtain ⟨P, hP⟩ : ∃ P : Th → Bool, P = (crdB (ws, (yg : Int), (tp : Int), (od : Int), cd)) := ⟨_, rfl⟩
  have HP : Hid (P = (crdB (ws, (yg : Int), (tp : Int), (od : Int), cd))) := hP
  rw [← hP]
  clear h hi hw hc hto hP
  go_enter Tryz.func106, Tryz.ntmps106
  go_wp2_with fail
  go_loopw [9] (fun t wr => ∃ k : Nat, k ≤ tl ∧ t = .int .i64 k ∧ (T.take k).all P = true ∧ Below w.heap.size w wr) (fun t _ => tl - (intOf t).toNat)
  case atStart => exact ⟨0, Nat.zero_le _, rfl, by simp, Below.refl _ _⟩
  case round =>
    obtain ⟨k, hk, rfl, ha, hb⟩ := hrel
    have HA : Hid ((T.take k).all P = true) := ha
    have HB : Hid (Below w.heap.size w wr) := hb
    clear ha hb
    by_cases hlt : k < tl
    · obtain ⟨t, ht⟩ : ∃ t, T[k]? = some t := ⟨T[k]'(by rw [TS.out]; exact hlt), List.getElem?_eq_getElem _⟩
      have HT : Hid (T[k]? = some t) := ht
      have hok := TO.out t (List.mem_of_getElem? ht)
      obtain ⟨b, off, rfl, _, us, hvv, hc⟩ := (H.out.later HB.out).at k t ht
      obtain ⟨x0, x1, ty⟩ := t
      obtain ⟨_, _, rfl, ⟨rfl, hx0⟩, _, _, rfl, ⟨rfl, hx1⟩, ya, yl, yc, rfl, hy⟩ := hvv
      have lo := hok.lo
      have hhi := hok.hi
      simp only [tSz] at lo hhi
      rw [hy.size, WS.out] at hhi
      obtain ⟨p, rfl⟩ : ∃ p : Nat, x0 = (p : Int) + 1 := ⟨x0.toNat - 1, by omega⟩
      have hp1 : p + hdN x1 + yl ≤ wl := by omega
      have PE : Hid (P ((p : Int) + 1, x1, ty) = (crdB (ws, (yg : Int), (tp : Int), (od : Int), cd)) ((p : Int) + 1, x1, ty)) := by show _ = _; rw [HP.out]
      have YS : Hid (ty.length = yl) := hy.size
      have EQ : Hid ((List.range yl).all (fun k => !(!(inI ((p : Int) + 1) 1 yg) && (ty.getD k 0 != 1 && inI (ws.getD (p + hdN x1 + k) 0) 1 yg)) || cd.getD ((p + hdN x1 + k - yg) / 4) false) = P ((p : Int) + 1, x1, ty)) := by
        show _ = _
        rw [PE.out, crd_p, YS.out]
      have HY : Hid (IntsAt D wr ya yl ty) := hy.ints
      have c0x : wr.cell? ⟨b, off + k * 3, none⟩ = some (.int .i64 ((p : Int) + 1)) := hc 0 _ rfl
      have c1x : wr.cell? ⟨b, off + k * 3 + 1, none⟩ = some (.int .i64 x1) := hc 1 _ rfl
      have c2x : wr.cell? ⟨b, off + k * 3 + 2, none⟩ = some (.slice ya yl yc) := hc 2 _ rfl
      have BL : Hid (Below wr.heap.size wr (wr.alloc (.cells #[.int .i64 ((p : Int) + 1), .int .i64 x1, .slice ya yl yc] 69))) := (Below.refl _ _).alloc (Nat.le_refl _) _
      have BL0 : Hid (Below w.heap.size w (wr.alloc (.cells #[.int .i64 ((p : Int) + 1), .int .i64 x1, .slice ya yl yc] 69))) := HB.out.trans (BL.out.mono HB.out.size)
      have TZ : Hid (∀ k, k < yl → ty.getD k 0 ≠ 0) := fun k hk => hok.tz k (by show k < ty.length; rw [YS.out]; exact hk)
      clear ht hc hok lo hhi hy hx0 hx1
      go_wp2_with fail
      refine (cardsImpl ca cn cc wb wo wl wc yg tp od da dl dc pc ol oc ou (some ⟨b, off, none⟩) tl tc p x1 ya yl yc T ty ws cd _ (H.out.later BL0.out) IN.out hl (HW.out.later BL0.out) (HY.out.later BL.out) (HC.out.later BL0.out) hp1 h2 h3 hdl TZ.out).mono ?_
      rintro e w2 ⟨rfl, hb2⟩
      have B2 : Hid (Below w.heap.size w w2) := BL0.out.trans (hb2.mono BL0.out.size)
      clear hb2
      rw [EQ.out]
      clear EQ PE
      cases hq : P ((p : Int) + 1, x1, ty)
      · go_wp2_with fail
        go_ret
        exact ⟨by rw [all_no_on HT.out hq]; rfl, B2.out⟩
      · go_wp2_with fail
        exact ⟨⟨k + 1, by omega, by go_num, all_take_on HA.out HT.out hq, B2.out⟩, by simp [intOf]; omega⟩
    · have ek : tl = k := by omega
      subst ek
      have HR : Hid (T.all P = true) := by have := HA.out; rwa [← TS.out, List.take_length] at this
      go_wp2_with fail
      go_ret
      exact ⟨by rw [HR.out]; rfl, HB.out⟩

set_option maxRecDepth 100000 in
set_option maxHeartbeats 4000000 in
theorem thingsOkImpl21 (ca : Option Addr) (cn cc wb wo wl wc yg tp od : Nat) (da : Option Addr) (dl dc pc ol oc ou : Nat) (ta : Option Addr) (tl tc : Nat) (T : List Th) (ws : List Int) (cd : List Bool) (L : List Cl) (w : World) {D G G2 : Nat → Prop} (h : SlAt thR D w ta tl T) (hi : Inc T) (hl : tl ≤ 1000) (hw : IntsAt G w (some ⟨wb, wo, none⟩) wl ws) (hc : SlAt boolR G2 w da dl cd) (hto : ∀ t ∈ T, TOk L (ws, (yg : Int), (tp : Int), (od : Int), cd) t) (h2 : wl ≤ wc) (h3 : wl ≤ 1000) (hdl : wl ≤ yg + dl * 4) : Calls Tryz.prog 69 #[.agg #[.slice ca cn cc, .slice (some ⟨wb, wo, none⟩) wl wc, .int .i64 (yg : Nat), .int .i64 (tp : Nat), .int .i64 (od : Nat), .slice da dl dc, .slice (some ⟨wb, wo, none⟩) yg pc, .int .i64 0, .int .i64 (tp : Nat), .slice (some ⟨wb, wo + yg, none⟩) ol oc, .int .i64 (yg : Nat), .int .i64 (ou : Nat), .slice ta tl tc]] w fun e w' => e = .returned (.bool (T.all (valB' (ws, (yg : Int), (tp : Int), (od : Int), cd) T) && T.all (crdB (ws, (yg : Int), (tp : Int), (od : Int), cd)))) ∧ Below w.heap.size w w' := by
  have H : Hid (SlAt thR D w ta tl T) := h
  have IN : Hid (Inc T) := hi
  have HW : Hid (IntsAt G w (some ⟨wb, wo, none⟩) wl ws) := hw
  have HC : Hid (SlAt boolR G2 w da dl cd) := hc
  have TO : Hid (∀ t ∈ T, TOk L (ws, (yg : Int), (tp : Int), (od : Int), cd) t) := hto
  obtain ⟨q1, hq1⟩ : ∃ q, T.all (valB' (ws, (yg : Int), (tp : Int), (od : Int), cd) T) = q := ⟨_, rfl⟩
  have Q1 : Hid (T.all (valB' (ws, (yg : Int), (tp : Int), (od : Int), cd) T) = q1) := hq1
  obtain ⟨q2, hq2⟩ : ∃ q, T.all (crdB (ws, (yg : Int), (tp : Int), (od : Int), cd)) = q := ⟨_, rfl⟩
  have Q2 : Hid (T.all (crdB (ws, (yg : Int), (tp : Int), (od : Int), cd)) = q2) := hq2
  rw [hq1, hq2]
  have hmf : ∀ (fn : Fn) (first cap : Array Value) (w : World), (Instr.makeFunc fn first cap).run Tryz.prog w = .ok (.func fn first cap) w := fun _ _ _ _ => rfl
  clear h hi hw hc hto hq1 hq2
  have hz : w.heap.size + 1 ≤ (w.alloc (.cells #[.slice ca cn cc, .slice (some ⟨wb, wo, none⟩) wl wc, .int .i64 (yg : Nat), .int .i64 (tp : Nat), .int .i64 (od : Nat), .slice da dl dc, .slice (some ⟨wb, wo, none⟩) yg pc, .int .i64 0, .int .i64 (tp : Nat), .slice (some ⟨wb, wo + yg, none⟩) ol oc, .int .i64 (yg : Nat), .int .i64 (ou : Nat), .slice ta tl tc] 65)).heap.size := by simp
  have B : Hid (∀ y, Below (w.heap.size + 1) (w.alloc (.cells #[.slice ca cn cc, .slice (some ⟨wb, wo, none⟩) wl wc, .int .i64 (yg : Nat), .int .i64 (tp : Nat), .int .i64 (od : Nat), .slice da dl dc, .slice (some ⟨wb, wo, none⟩) yg pc, .int .i64 0, .int .i64 (tp : Nat), .slice (some ⟨wb, wo + yg, none⟩) ol oc, .int .i64 (yg : Nat), .int .i64 (ou : Nat), .slice ta tl tc] 65)) y → Below w.heap.size w y) := fun y hy => (bR.alloc (by first | exact Nat.le_refl _ | (simp; done) | (simp; omega)) _).trans (hy.mono (by omega))
  have XM : Hid (∀ y, Below (w.heap.size + 1) (w.alloc (.cells #[.slice ca cn cc, .slice (some ⟨wb, wo, none⟩) wl wc, .int .i64 (yg : Nat), .int .i64 (tp : Nat), .int .i64 (od : Nat), .slice da dl dc, .slice (some ⟨wb, wo, none⟩) yg pc, .int .i64 0, .int .i64 (tp : Nat), .slice (some ⟨wb, wo + yg, none⟩) ol oc, .int .i64 (yg : Nat), .int .i64 (ou : Nat), .slice ta tl tc] 65)) y → y.heap[w.heap.size]? = some (.cells #[.slice ca cn cc, .slice (some ⟨wb, wo, none⟩) wl wc, .int .i64 (yg : Nat), .int .i64 (tp : Nat), .int .i64 (od : Nat), .slice da dl dc, .slice (some ⟨wb, wo, none⟩) yg pc, .int .i64 0, .int .i64 (tp : Nat), .slice (some ⟨wb, wo + yg, none⟩) ol oc, .int .i64 (yg : Nat), .int .i64 (ou : Nat), .slice ta tl tc] 65 (0, 0))) := fun y hy => (hy.block _ (by omega)).trans (boxN _ _ _ _ (by simp))
  have lM : w.heap.size < w.heap.size + 1 := by omega
  go_enter Tryz.func69, Tryz.ntmps69
  go_wp2_with fail
  have BP : Hid (Below (w.heap.size + 1) (w.alloc (.cells #[.slice ca cn cc, .slice (some ⟨wb, wo, none⟩) wl wc, .int .i64 (yg : Nat), .int .i64 (tp : Nat), .int .i64 (od : Nat), .slice da dl dc, .slice (some ⟨wb, wo, none⟩) yg pc, .int .i64 0, .int .i64 (tp : Nat), .slice (some ⟨wb, wo + yg, none⟩) ol oc, .int .i64 (yg : Nat), .int .i64 (ou : Nat), .slice ta tl tc] 65)) (w.alloc (.cells #[.slice ca cn cc, .slice (some ⟨wb, wo, none⟩) wl wc, .int .i64 (yg : Nat), .int .i64 (tp : Nat), .int .i64 (od : Nat), .slice da dl dc, .slice (some ⟨wb, wo, none⟩) yg pc, .int .i64 0, .int .i64 (tp : Nat), .slice (some ⟨wb, wo + yg, none⟩) ol oc, .int .i64 (yg : Nat), .int .i64 (ou : Nat), .slice ta tl tc] 65))) := bR
  refine (eachValues ca cn cc wb wo wl wc yg tp od da dl dc pc ol oc ou ta tl tc T ws cd L _ (H.out.later (B.out _ BP.out)) IN.out hl (HW.out.later (B.out _ BP.out)) (HC.out.later (B.out _ BP.out)) TO.out h2 h3 hdl).mono ?_
  rintro e w1 ⟨rfl, hb⟩
  have hq : Below (w.heap.size + 1) (w.alloc (.cells #[.slice ca cn cc, .slice (some ⟨wb, wo, none⟩) wl wc, .int .i64 (yg : Nat), .int .i64 (tp : Nat), .int .i64 (od : Nat), .slice da dl dc, .slice (some ⟨wb, wo, none⟩) yg pc, .int .i64 0, .int .i64 (tp : Nat), .slice (some ⟨wb, wo + yg, none⟩) ol oc, .int .i64 (yg : Nat), .int .i64 (ou : Nat), .slice ta tl tc] 65)) w1 := BP.out.trans (Below.mono hb (Nat.le_trans hz BP.out.size))
  have hzn : w.heap.size + 1 ≤ w1.heap.size := Nat.le_trans hz hq.size
  replace B := lF B hq hzn
  replace XM := lF XM hq hzn
  replace lM := Nat.lt_of_lt_of_le lM hzn
  clear hq BP hz
  have hz : w1.heap.size ≤ w1.heap.size := Nat.le_refl _
  clear hb
  rw [Q1.out]
  cases q1
  · obtain ⟨kM0, kM1, kM2, kM3, kM4, kM5, kM6, kM7, kM8, kM9, kM10, kM11, kM12⟩ := bk13 (XM.out w1 bR)
    go_wp2_with fail
    go_ret
    exact ⟨rfl, B.out w1 (Below.refl _ _)⟩
  obtain ⟨kM0, kM1, kM2, kM3, kM4, kM5, kM6, kM7, kM8, kM9, kM10, kM11, kM12⟩ := bk13 (XM.out w1 bR)
  go_wp2_with fail
  clear kM0 kM1 kM2 kM3 kM4 kM5 kM6 kM7 kM8 kM9 kM10 kM11 kM12
  have BP : Hid (Below (w1.heap.size) w1 w1) := bR
  refine (eachCards ca cn cc wb wo wl wc yg tp od da dl dc pc ol oc ou ta tl tc T ws cd L _ (H.out.later (B.out _ BP.out)) IN.out hl (HW.out.later (B.out _ BP.out)) (HC.out.later (B.out _ BP.out)) TO.out h2 h3 hdl).mono ?_
  rintro e w2 ⟨rfl, hb⟩
  have hq : Below (w1.heap.size) w1 w2 := BP.out.trans (Below.mono hb (Nat.le_trans hz BP.out.size))
  have hzn : w1.heap.size ≤ w2.heap.size := Nat.le_trans hz hq.size
  replace B := lF B hq hzn
  replace XM := lF XM hq hzn
  replace lM := Nat.lt_of_lt_of_le lM hzn
  clear hq BP hz
  have hz : w2.heap.size ≤ w2.heap.size := Nat.le_refl _
  clear hb
  rw [Q2.out]
  go_wp2_with fail
  go_ret
  exact ⟨by first | rfl | simp, B.out w2 (Below.refl _ _)⟩

end Go.Proofs.YtjbmcdekhhbiaaaGreat
