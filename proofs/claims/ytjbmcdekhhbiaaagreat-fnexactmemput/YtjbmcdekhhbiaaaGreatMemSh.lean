/-
  Things by their places: the specification says so; it writes nothing that was there.
-/
import Derived.Test.YtjbmcdekhhbiaaaGreatMemSg
namespace Go.Proofs.YtjbmcdekhhbiaaaGreat
open Go.ChangeShapes Go.WideShapes Go.ChangeAt Go.RowKit
set_option linter.unusedVariables false

/-- The thing at a place. -/
def atT (T : List Th) (v : Int) : Th := (T.find? (fun t => t.1 == v)).getD (0, 0, [])
theorem atT_mem {T : List Th} {v : Int} (h : isAt T v = true) : atT T v ∈ T ∧ (atT T v).1 = v := by
  unfold atT
  cases hf : T.find? (fun t => t.1 == v) with
  | none =>
    obtain ⟨t, ht, e⟩ := isAt_iff.1 h
    have := List.find?_eq_none.1 hf t ht
    simp [e] at this
  | some t =>
    have h1 := List.mem_of_find?_eq_some hf
    have h2 := List.find?_some hf
    exact ⟨h1, by simpa using h2⟩
/-- How many words the thing at a place has; what is k-th in it. -/
def sizV (L : List Cl) (m : Mm) (v : Int) : Int := if memB L m = true ∧ isAt (thT L m) v = true then (tSz (atT (thT L m) v) : Nat) else 0
def getB (L : List Cl) (m : Mm) (v k : Int) : Bool := memB L m && (isAt (thT L m) v && inI k 0 ((atT (thT L m) v).2.2.length - 1))
def getV (L : List Cl) (m : Mm) (v k : Int) : Int := if getB L m v k = true then m.1.getD (plc (atT (thT L m) v) k.toNat) 0 else 0
theorem sizV_no {L : List Cl} {m : Mm} {v : Int} (h : memB L m = false) : sizV L m v = 0 := by unfold sizV; rw [h, if_neg (by simp)]
theorem sizV_none {L : List Cl} {m : Mm} {v : Int} (h : isAt (thT L m) v = false) : sizV L m v = 0 := by unfold sizV; rw [h, if_neg (by simp)]
theorem sizV_at {L : List Cl} {m : Mm} {v : Int} (h : memB L m = true) (h2 : isAt (thT L m) v = true) : sizV L m v = (tSz (atT (thT L m) v) : Nat) := if_pos ⟨h, h2⟩
theorem getB_no {L : List Cl} {m : Mm} {v k : Int} (h : memB L m = false) : getB L m v k = false := by unfold getB; rw [h]; rfl
theorem getB_none {L : List Cl} {m : Mm} {v k : Int} (h : isAt (thT L m) v = false) : getB L m v k = false := by unfold getB; rw [h]; simp
theorem getB_at {L : List Cl} {m : Mm} {v k : Int} (h : memB L m = true) (h2 : isAt (thT L m) v = true) : getB L m v k = inI k 0 ((atT (thT L m) v).2.2.length - 1) := by unfold getB; rw [h, h2]; rfl
theorem getV_not {L : List Cl} {m : Mm} {v k : Int} (h : getB L m v k = false) : getV L m v k = 0 := by unfold getV; rw [h, if_neg (by simp)]
theorem getV_yes {L : List Cl} {m : Mm} {v k : Int} (h : getB L m v k = true) : getV L m v k = m.1.getD (plc (atT (thT L m) v) k.toNat) 0 := if_pos h
/-- What is so of the thing at a place. -/
theorem atT_ok {L : List Cl} {m : Mm} {v : Int} (h : memB L m = true) (h2 : isAt (thT L m) v = true) : ∃ (p : Nat) (c0 : Int) (ty : List Int), atT (thT L m) v = ((p : Int) + 1, c0, ty) ∧ v = (p : Int) + 1 ∧ TOk L m ((p : Int) + 1, c0, ty) ∧ (c0 = -1 ∨ c0 = -2 ∨ 0 ≤ c0) ∧ ty.length ≤ 10 ∧ p + hdN c0 + ty.length ≤ m.1.length ∧ tsz L (m.1.drop p) = hdN c0 + ty.length ∧ m.1.getD p 0 = c0 := by
  have hB := (memB_ok h).1
  obtain ⟨hm, hv⟩ := atT_mem h2
  have hT := (thT_ok hB).1 _ hm
  generalize atT (thT L m) v = t at hm hv hT ⊢
  obtain ⟨x0, c0, ty⟩ := t
  simp only at hv
  subst hv
  have h1 := hT.lo
  simp only at h1
  obtain ⟨p, rfl⟩ : ∃ p : Nat, x0 = (p : Int) + 1 := ⟨x0.toNat - 1, by omega⟩
  have e : ((p : Int) + 1).toNat - 1 = p := by omega
  have hhi := hT.hi
  have hsz := hT.sz
  have hcl := hT.cls
  have his := hT.ist
  have hty := hT.ty
  simp only [tSz, e] at hhi hsz hcl his hty
  refine ⟨p, c0, ty, rfl, rfl, hT, ?_, by rw [hty]; exact typ_len hB.ok his, by omega, hsz, hcl⟩
  unfold isT at his
  split at his
  · rename_i h9; rcases h9 with h9 | h9 <;> simp [h9]
  · have := inI_iff.1 his; omega
set_option maxRecDepth 100000 in
set_option maxHeartbeats 4000000 in
theorem isSpec (ca : Option Addr) (cn cc : Nat) (wa : Option Addr) (wl wc : Nat) (yg tp od : Nat) (da : Option Addr) (dl dc : Nat) (v : Int) (ws : List Int) (cd : List Bool) (L : List Cl) (w : World) {D E G : Nat → Prop} (h : ClsAt D E w ca cn L) (hw : IntsAt G w wa wl ws) (hm : memB L (ws, (yg : Int), (tp : Int), (od : Int), cd) = true) (hl : wl ≤ 1000) (hv : i64B v) (h1 : tp ≤ yg) (h2 : yg ≤ od) (h3 : od ≤ wl) :
    Calls Tryz.prog 78 #[.slice ca cn cc, .agg #[.slice wa wl wc, .int .i64 (yg : Nat), .int .i64 (tp : Nat), .int .i64 (od : Nat), .slice da dl dc], .int .i64 v] w fun e w' => e = .returned (.bool (isAt (thT L (ws, (yg : Int), (tp : Int), (od : Int), cd)) v)) ∧ Below w.heap.size w w' := by
  have H : Hid (ClsAt D E w ca cn L) := h
  have HW : Hid (IntsAt G w wa wl ws) := hw
  have WS : Hid (ws.length = wl) := hw.size
  have OK : Hid (clsOk L = true) := (memB_ok hm).1.ok
  have SS : Hid (((yPs L (ws, (yg : Int), (tp : Int), (od : Int), cd)).isSome && (oPs L (ws, (yg : Int), (tp : Int), (od : Int), cd)).isSome) = true) := by show _ = _; rw [(memB_ok hm).2.2.1, (memB_ok hm).2.2.2.1]; rfl
  have TK0 : Hid (∀ t ∈ thT L (ws, (yg : Int), (tp : Int), (od : Int), cd), TOk L (ws, (yg : Int), (tp : Int), (od : Int), cd) t) := (thT_ok (memB_ok hm).1).1
  have hv1 := hv.1
  have hv2 := hv.2
  clear h hw hm
  have hz : w.heap.size + 1 ≤ (w.alloc (.cells #[.slice wa wl wc, .int .i64 (yg : Nat), .int .i64 (tp : Nat), .int .i64 (od : Nat), .slice da dl dc] 29)).heap.size := by simp
  have B : Hid (∀ y, Below (w.heap.size + 1) (w.alloc (.cells #[.slice wa wl wc, .int .i64 (yg : Nat), .int .i64 (tp : Nat), .int .i64 (od : Nat), .slice da dl dc] 29)) y → Below w.heap.size w y) := fun y hy => (bR.alloc (by first | exact Nat.le_refl _ | (simp; done) | (simp; omega)) _).trans (hy.mono (by omega))
  have XM : Hid (∀ y, Below (w.heap.size + 1) (w.alloc (.cells #[.slice wa wl wc, .int .i64 (yg : Nat), .int .i64 (tp : Nat), .int .i64 (od : Nat), .slice da dl dc] 29)) y → y.heap[w.heap.size]? = some (.cells #[.slice wa wl wc, .int .i64 (yg : Nat), .int .i64 (tp : Nat), .int .i64 (od : Nat), .slice da dl dc] 29 (0, 0))) := fun y hy => (hy.block _ (by omega)).trans (boxN _ _ _ _ (by simp))
  have lM : w.heap.size < w.heap.size + 1 := by omega
  go_enter Tryz.func78, Tryz.ntmps78
  go_wp2_with fail
  have BP : Hid (Below (w.heap.size + 1) (w.alloc (.cells #[.slice wa wl wc, .int .i64 (yg : Nat), .int .i64 (tp : Nat), .int .i64 (od : Nat), .slice da dl dc] 29)) (w.alloc (.cells #[.slice wa wl wc, .int .i64 (yg : Nat), .int .i64 (tp : Nat), .int .i64 (od : Nat), .slice da dl dc] 29))) := bR
  refine (walkSpec _ _ _ _ _ _ yg tp od _ _ _ ws cd L _ (H.out.later (B.out _ BP.out)) OK.out (HW.out.later (B.out _ BP.out)) h1 h2 h3 (by omega)).mono ?_
  rintro e w2 ⟨v0, out, bb, rfl, hn, hzo, hx, hbb, hts⟩
  have hb := hn.2
  obtain ⟨g, c, rfl⟩ := own_sl hn.1
  have I2 : Hid (IntsAt (fun b => True) w2 g out.length out) := ((own_at hn.1 (by omega) (fits_lit fun x hx0 => by have := hx x hx0; omega)).1).mono (fun _ _ _ => trivial)
  have ho : out = plN (thT L (ws, (yg : Int), (tp : Int), (od : Int), cd)) := hts (by rw [hbb]; exact SS.out)
  have hq : Below (w.heap.size + 1) (w.alloc (.cells #[.slice wa wl wc, .int .i64 (yg : Nat), .int .i64 (tp : Nat), .int .i64 (od : Nat), .slice da dl dc] 29)) w2 := BP.out.trans (Below.mono hb (Nat.le_trans hz BP.out.size))
  have hzn : w.heap.size + 1 ≤ w2.heap.size := Nat.le_trans hz hq.size
  replace B := lF B hq hzn
  replace XM := lF XM hq hzn
  replace lM := Nat.lt_of_lt_of_le lM hzn
  clear hq BP hz
  have hz : w2.heap.size ≤ w2.heap.size := Nat.le_refl _
  clear hn hb hx hbb hts
  obtain ⟨T, hT⟩ : ∃ T, thT L (ws, (yg : Int), (tp : Int), (od : Int), cd) = T := ⟨_, rfl⟩
  have HT : Hid (thT L (ws, (yg : Int), (tp : Int), (od : Int), cd) = T) := hT
  rw [hT] at TK0 ho
  subst ho
  clear hT
  have hpl : (plN T).length = T.length := by simp [plN]
  rw [hpl] at I2 hzo
  have TR : Hid (∀ s ∈ T, 1 ≤ s.1 ∧ s.1 ≤ wl) := fun s hs => by have := (TK0.out s hs).most; simp only [WS.out] at this; exact this
  have TX : Hid (∀ x ∈ plN T, 0 ≤ x ∧ x < (wl : Int)) := fun x hx => by
    obtain ⟨s, hs, rfl⟩ := List.mem_map.1 hx
    have := TR.out s hs
    omega
  obtain ⟨tl, htl⟩ : ∃ tl, T.length = tl := ⟨_, rfl⟩
  rw [htl] at I2 hzo
  rw [hpl, htl]
  clear hpl htl
  cases hq : inI v 1 wl
  · have HN : Hid (isAt T v = false) := by
      show _ = _
      rw [Bool.eq_false_iff]
      intro h9
      obtain ⟨t, ht, rfl⟩ := isAt_iff.1 h9
      rw [inI_iff.2 (TR.out t ht)] at hq
      cases hq
    obtain ⟨kM0, kM1, kM2, kM3, kM4⟩ := bk5 (XM.out w2 bR)
    go_wp2_with fail
    refine (inSpec' _ _ _ _ hq _).mono ?_
    rintro r w9 ⟨rfl, rfl⟩
    go_wp2_with fail
    go_ret
    exact ⟨by rw [HT.out, HN.out]; rfl, B.out w2 (Below.refl _ _)⟩
  · have hr := inI_iff.1 hq
    obtain ⟨p, rfl⟩ : ∃ p : Nat, v = (p : Int) + 1 := ⟨v.toNat - 1, by omega⟩
    have hpn : p < wl := by omega
    obtain ⟨kM0, kM1, kM2, kM3, kM4⟩ := bk5 (XM.out w2 bR)
    go_wp2_with fail
    refine (inSpec' _ _ _ _ hq _).mono ?_
    rintro r w9 ⟨rfl, rfl⟩
    go_wp2_with fail
    clear kM0 kM1 kM2 kM3 kM4
    have BP : Hid (Below (w2.heap.size) w2 w2) := bR
    refine (startsSpec wl (by omega) g tl c (plN T) _ (I2.out.later BP.out) TX.out).mono ?_
    rintro e w3 ⟨rfl, hrow, hb⟩
    have hc := (hrow p hpn).1
    simp only [stB_plN] at hc
    have hsub : IntKind.i64.wrap ((p : Int) + 1 - 1) = (p : Int) := by rw [IntKind.wrap_i64] <;> omega
    clear hrow
    have hq : Below (w2.heap.size) w2 w3 := BP.out.trans (Below.mono hb (Nat.le_trans hz BP.out.size))
    have hzn : w2.heap.size ≤ w3.heap.size := Nat.le_trans hz hq.size
    replace B := lF B hq hzn
    replace XM := lF XM hq hzn
    replace lM := Nat.lt_of_lt_of_le lM hzn
    clear hq BP hz
    have hz : w3.heap.size ≤ w3.heap.size := Nat.le_refl _
    clear hb
    obtain ⟨q, hq9⟩ : ∃ q, isAt T ((p : Int) + 1) = q := ⟨_, rfl⟩
    have HQ9 : Hid (isAt T ((p : Int) + 1) = q) := hq9
    rw [hq9] at hc
    clear hq9
    go_wp2_with fail
    go_ret
    exact ⟨by rw [HT.out, HQ9.out]; rfl, B.out w3 (Below.refl _ _)⟩
def InsP (T : List Th) (v k : Int) (w : World) (e : Ending) (w' : World) : Prop := (isAt T v = false → e = .returned (.tuple #[.int .i64 0, .bool false])) ∧ (isAt T v = true → ∃ x, e = .returned (.tuple #[.int .i64 x, .bool (inI k 0 ((atT T v).2.2.length - 1))]) ∧ (inI k 0 ((atT T v).2.2.length - 1) = true → x = (plc (atT T v) k.toNat : Nat))) ∧ Below w.heap.size w w'
set_option maxRecDepth 100000 in
set_option maxHeartbeats 4000000 in
theorem insideSpec (ca : Option Addr) (cn cc : Nat) (wa : Option Addr) (wl wc : Nat) (yg tp od : Nat) (da : Option Addr) (dl dc : Nat) (v k : Int) (ws : List Int) (cd : List Bool) (L : List Cl) (w : World) {D E G : Nat → Prop} (h : ClsAt D E w ca cn L) (hw : IntsAt G w wa wl ws) (hm : memB L (ws, (yg : Int), (tp : Int), (od : Int), cd) = true) (hl : wl ≤ 1000) (hv : i64B v) (hk : i64B k) (h1 : tp ≤ yg) (h2 : yg ≤ od) (h3 : od ≤ wl) :
    Calls Tryz.prog 44 #[.slice ca cn cc, .agg #[.slice wa wl wc, .int .i64 (yg : Nat), .int .i64 (tp : Nat), .int .i64 (od : Nat), .slice da dl dc], .int .i64 v, .int .i64 k] w (InsP (thT L (ws, (yg : Int), (tp : Int), (od : Int), cd)) v k w) := by
  have H : Hid (ClsAt D E w ca cn L) := h
  have HW : Hid (IntsAt G w wa wl ws) := hw
  have WS : Hid (ws.length = wl) := hw.size
  have HM : Hid (memB L (ws, (yg : Int), (tp : Int), (od : Int), cd) = true) := hm
  have OK : Hid (clsOk L = true) := (memB_ok hm).1.ok
  have hk1 := hk.1
  have hk2 := hk.2
  clear h hw hm
  have hz : w.heap.size + 1 ≤ (w.alloc (.cells #[.slice wa wl wc, .int .i64 (yg : Nat), .int .i64 (tp : Nat), .int .i64 (od : Nat), .slice da dl dc] 29)).heap.size := by simp
  have B : Hid (∀ y, Below (w.heap.size + 1) (w.alloc (.cells #[.slice wa wl wc, .int .i64 (yg : Nat), .int .i64 (tp : Nat), .int .i64 (od : Nat), .slice da dl dc] 29)) y → Below w.heap.size w y) := fun y hy => (bR.alloc (by first | exact Nat.le_refl _ | (simp; done) | (simp; omega)) _).trans (hy.mono (by omega))
  have XM : Hid (∀ y, Below (w.heap.size + 1) (w.alloc (.cells #[.slice wa wl wc, .int .i64 (yg : Nat), .int .i64 (tp : Nat), .int .i64 (od : Nat), .slice da dl dc] 29)) y → y.heap[w.heap.size]? = some (.cells #[.slice wa wl wc, .int .i64 (yg : Nat), .int .i64 (tp : Nat), .int .i64 (od : Nat), .slice da dl dc] 29 (0, 0))) := fun y hy => (hy.block _ (by omega)).trans (boxN _ _ _ _ (by simp))
  have lM : w.heap.size < w.heap.size + 1 := by omega
  go_enter Tryz.func44, Tryz.ntmps44
  go_wp2_with fail
  have BP : Hid (Below (w.heap.size + 1) (w.alloc (.cells #[.slice wa wl wc, .int .i64 (yg : Nat), .int .i64 (tp : Nat), .int .i64 (od : Nat), .slice da dl dc] 29)) (w.alloc (.cells #[.slice wa wl wc, .int .i64 (yg : Nat), .int .i64 (tp : Nat), .int .i64 (od : Nat), .slice da dl dc] 29))) := bR
  refine (isSpec _ _ _ _ _ _ yg tp od _ _ _ v ws cd L _ (H.out.later (B.out _ BP.out)) (HW.out.later (B.out _ BP.out)) HM.out (by omega) hv h1 h2 h3).mono ?_
  rintro e w1 ⟨rfl, hb⟩
  have hq : Below (w.heap.size + 1) (w.alloc (.cells #[.slice wa wl wc, .int .i64 (yg : Nat), .int .i64 (tp : Nat), .int .i64 (od : Nat), .slice da dl dc] 29)) w1 := BP.out.trans (Below.mono hb (Nat.le_trans hz BP.out.size))
  have hzn : w.heap.size + 1 ≤ w1.heap.size := Nat.le_trans hz hq.size
  replace B := lF B hq hzn
  replace XM := lF XM hq hzn
  replace lM := Nat.lt_of_lt_of_le lM hzn
  clear hq BP hz
  have hz : w1.heap.size ≤ w1.heap.size := Nat.le_refl _
  clear hb
  cases hi : isAt (thT L (ws, (yg : Int), (tp : Int), (od : Int), cd)) v
  · obtain ⟨kM0, kM1, kM2, kM3, kM4⟩ := bk5 (XM.out w1 bR)
    go_wp2_with fail
    go_ret2
    exact ⟨fun _ => rfl, (fun h => by rw [hi] at h; cases h), B.out w1 (Below.refl _ _)⟩
  obtain ⟨p, c0, ty, ea, ev, _, hc0, htl, hfit, hsz, hcl⟩ := atT_ok HM.out hi
  subst ev
  have HI : Hid (isAt (thT L (ws, (yg : Int), (tp : Int), (od : Int), cd)) ((p : Int) + 1) = true) := hi
  simp only [WS.out] at hfit
  have hpl : p < wl := by have := hdN_pos c0; omega
  have EA : Hid (atT (thT L (ws, (yg : Int), (tp : Int), (od : Int), cd)) ((p : Int) + 1) = ((p : Int) + 1, c0, ty)) := ea
  have hsub : IntKind.i64.wrap ((p : Int) + 1 - 1) = (p : Int) := by rw [IntKind.wrap_i64] <;> omega
  have SZ : Hid (tsz L ((ws.take wl).drop p) = hdN c0 + ty.length) := by show _ = _; rw [← WS.out, List.take_length]; exact hsz
  obtain ⟨wb, wo, rfl, _, hcs⟩ := (HW.out.later (B.out w1 (Below.refl _ _))).one p (by have := hdN_pos c0; omega)
  have hc := hcs p (by have := hdN_pos c0; omega)
  rw [hcl] at hc
  clear hsz hcl ea hcs hi
  obtain ⟨kM0, kM1, kM2, kM3, kM4⟩ := bk5 (XM.out w1 bR)
  go_wp2_with fail
  clear kM0 kM1 kM2 kM3 kM4
  clear hc
  have BP : Hid (Below (w1.heap.size) w1 w1) := bR
  refine (headSpec c0 hc0 _).mono ?_
  rintro e w9 ⟨rfl, rfl⟩
  clear BP
  have hd0 := hdN_pos c0
  obtain ⟨hd, hhd⟩ : ∃ hd, hdN c0 = hd := ⟨_, rfl⟩
  have HH : Hid (hdN c0 = hd) := hhd
  rw [hhd] at hd0 hfit ⊢
  clear hhd
  obtain ⟨ln, hln⟩ : ∃ ln, ty.length = ln := ⟨_, rfl⟩
  have HL : Hid (ty.length = ln) := hln
  rw [hln] at htl hfit
  clear hln
  have ha1 : IntKind.i64.wrap ((p : Int) + (hd : Int)) = ((p + hd : Nat) : Int) := by rw [IntKind.wrap_i64] <;> omega
  have ha2 : IntKind.i64.wrap (((hd + ln : Nat) : Int) - (hd : Int)) = (ln : Int) := by rw [IntKind.wrap_i64] <;> omega
  have ha3 : IntKind.i64.wrap ((ln : Int) - 1) = (ln : Int) - 1 := by rw [IntKind.wrap_i64] <;> omega
  obtain ⟨kM0, kM1, kM2, kM3, kM4⟩ := bk5 (XM.out w1 bR)
  go_wp2_with fail
  clear kM0 kM1 kM2 kM3 kM4
  have BP : Hid (Below (w1.heap.size) w1 w1) := bR
  refine (sizeSpec _ _ _ _ _ _ p wl ws L _ (H.out.later (B.out _ BP.out)) OK.out (HW.out.later (B.out _ BP.out)) (Nat.le_refl _) (by omega) (by omega)).mono ?_
  rintro e w3 ⟨rfl, hb⟩
  have hq : Below (w1.heap.size) w1 w3 := BP.out.trans (Below.mono hb (Nat.le_trans hz BP.out.size))
  have hzn : w1.heap.size ≤ w3.heap.size := Nat.le_trans hz hq.size
  replace B := lF B hq hzn
  replace XM := lF XM hq hzn
  replace lM := Nat.lt_of_lt_of_le lM hzn
  clear hq BP hz
  have hz : w3.heap.size ≤ w3.heap.size := Nat.le_refl _
  clear hb
  rw [SZ.out, HH.out, HL.out]
  obtain ⟨q, hq⟩ : ∃ q, inI k 0 ((ln : Int) - 1) = q := ⟨_, rfl⟩
  go_wp2_with fail
  refine (inSpec' k 0 ((hd : Int) + (ln : Int) - (hd : Int) - 1) q (by rw [show (hd : Int) + (ln : Int) - (hd : Int) - 1 = (ln : Int) - 1 by omega]; exact hq) _).mono ?_
  rintro r w9 ⟨rfl, rfl⟩
  go_wp2_with fail
  go_ret2
  have EQ : Hid (inI k 0 ((atT (thT L (ws, (yg : Int), (tp : Int), (od : Int), cd)) ((p : Int) + 1)).2.2.length - 1) = q) := by show _ = _; rw [EA.out]; simp only [HL.out]; exact hq
  refine ⟨(fun h => by rw [HI.out] at h; cases h), fun _ => ⟨wrap64 ((p : Int) + (hd : Int) + k), by rw [EQ.out]; rfl, fun hy => ?_⟩, B.out w3 (Below.refl _ _)⟩
  rw [EQ.out] at hy
  rw [EA.out]
  rw [hy] at hq
  have hr := inI_iff.1 hq
  rw [show plc ((p : Int) + 1, c0, ty) k.toNat = p + hd + k.toNat by simp only [plc, HH.out]; omega]
  simp only [wrap64]
  omega
end Go.Proofs.YtjbmcdekhhbiaaaGreat
