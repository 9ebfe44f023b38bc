/-
  Where all things begin: both say so, in memory of its own.
-/
import Derived.Test.YtjeabgkcmfjjlaaMemIj
import Derived.Test.YtjeabgkcmfjjlaaMrkM
namespace Go.Proofs.Ytjeabgkcmfjjlaa
open Go.ChangeShapes Go.WideShapes Go.ChangeAt Go.RowKit
set_option linter.unusedVariables false

theorem info_int7 : (Try.prog.info? 3).map (fun i => (i.zero, i.size, i.bytes)) = some (some (.int .i64 0), 1, 8) := by kernel_rfl
def walkV (L : List Cl) (m : Mm) : List Int := if memB L m = true then (thT L m).map (·.1) else []
theorem walkV_no {L : List Cl} {m : Mm} (h : memB L m = false) : walkV L m = [] := if_neg (by rw [h]; simp)
theorem walkV_yes {L : List Cl} {m : Mm} (h : memB L m = true) : walkV L m = (thT L m).map (·.1) := if_pos h
theorem ints_nil {D : Nat → Prop} {w : World} {a : Option Addr} : IntsAt D w a 0 [] := ⟨rfl, by omega, .inl rfl, fun j => ⟨by simp, by simp⟩⟩
theorem beginsImpl (at0 c : Int) (ta : Option Addr) (tl tc : Nat) (w : World) : Calls Try.prog 19 #[.agg #[.int .i64 at0, .int .i64 c, .slice ta tl tc]] w fun e w' => e = .returned (.int .i64 at0) ∧ Below w.heap.size w w' := by
  go_enter Try.func19, Try.ntmps19
  go_wp2_with fail
  go_ret
  exact ⟨rfl, by go_grown⟩
def begF (T : List Th) (k j : Nat) : Int := if j < k then (T.map (·.1)).getD j 0 else 0
set_option maxRecDepth 100000 in
set_option maxHeartbeats 4000000 in
theorem mappedImpl (ta : Option Addr) (tl tc : Nat) (T : List Th) (w : World) {D : Nat → Prop} (h : SlAt thR D w ta tl T) (hl : tl ≤ 1000) :
    Calls Try.prog 18 #[.slice ta tl tc, .func (.func 19) #[] #[]] w fun e w' => e = .returned (.slice (some ⟨w.heap.size, 0, none⟩) tl tl) ∧ RowAt w' w.heap.size tl (fun j => .int .i64 ((T.map (·.1)).getD j 0)) ∧ Below w.heap.size w w' := by
  have hmk := fun wx => run_make_row' (P := Try.prog) 25 3 (.int .i64 0) 8 Try.underlying25 info_int7 rfl .i64 .i64 tl (by omega) (by omega) wx
  have H : Hid (SlAt thR D w ta tl T) := h
  have TS : Hid (T.length = tl) := h.size
  clear h
  go_enter Try.func18, Try.ntmps18
  go_wp2_with fail
  go_loopw [13] (fun t wr => ∃ k : Nat, k ≤ tl ∧ t = .int .i64 k ∧ RowAt wr w.heap.size tl (fun j => .int .i64 (begF T k j)) ∧ Below w.heap.size w wr) (fun t _ => tl - (intOf t).toNat)
  case atStart =>
    refine ⟨0, Nat.zero_le _, rfl, (RowAt.made w #[.int .i64 0] tl 3).congr fun j _ => by simp [Nat.mod_one, begF], by go_grown⟩
  case round =>
    obtain ⟨k, hk, rfl, hrow, hb⟩ := hrel
    have HR : Hid (RowAt wr w.heap.size tl (fun j => .int .i64 (begF T k j))) := hrow
    have HB : Hid (Below w.heap.size w wr) := hb
    clear hrow hb
    by_cases hlt : k < tl
    · obtain ⟨t, ht⟩ : ∃ t, T[k]? = some t := ⟨T[k]'(by rw [TS.out]; exact hlt), List.getElem?_eq_getElem _⟩
      have HT : Hid (T[k]? = some t) := ht
      obtain ⟨b, off, rfl, _, us, hvv, hc⟩ := (H.out.later HB.out).at k t ht
      obtain ⟨x0, x1, ty⟩ := t
      obtain ⟨_, _, rfl, ⟨rfl, hx0⟩, _, _, rfl, ⟨rfl, hx1⟩, ya, yl, yc, rfl, hy⟩ := hvv
      have c0x : wr.cell? ⟨b, off + k * 3, none⟩ = some (.int .i64 x0) := hc 0 _ rfl
      have c1x : wr.cell? ⟨b, off + k * 3 + 1, none⟩ = some (.int .i64 x1) := hc 1 _ rfl
      have c2x : wr.cell? ⟨b, off + k * 3 + 2, none⟩ = some (.slice ya yl yc) := hc 2 _ rfl
      have BL : Hid (Below wr.heap.size wr (wr.alloc (.cells #[.int .i64 x0, .int .i64 x1, .slice ya yl yc] 53))) := (Below.refl _ _).alloc (Nat.le_refl _) _
      clear ht hc hy hx0 hx1
      go_wp2_with fail
      refine (beginsImpl x0 x1 ya yl yc _).mono ?_
      rintro e w2 ⟨rfl, hb2⟩
      have B2 : Hid (Below wr.heap.size wr w2) := BL.out.trans (hb2.mono BL.out.size)
      have hg := ((HR.out.later B2.out) k hlt).1
      have hf := ((HR.out.later B2.out) k hlt).2
      have HF : Hid (RowAt (w2.setCell ⟨w.heap.size, k, none⟩ (.int .i64 x0)) w.heap.size tl (fun j => .int .i64 (begF T (k + 1) j))) :=
        ((HR.out.later B2.out).set k (.int .i64 x0)).congr fun j _ => by
          by_cases e : j = k
          · subst e
            rw [if_pos rfl, begF, if_pos (by omega), List.getD_eq_getElem?_getD, List.getElem?_map, HT.out]; rfl
          · rw [if_neg e]
            by_cases e2 : j < k
            · rw [begF, begF, if_pos e2, if_pos (by omega)]
            · rw [begF, begF, if_neg e2, if_neg (by omega)]
      have B3 : Hid (Below w.heap.size w w2) := HB.out.trans (B2.out.mono HB.out.size)
      generalize begF T k k = q at hg
      clear hb2
      go_wp2_with fail
      exact ⟨⟨k + 1, by omega, by go_num, HF.out, B3.out.setCell (Nat.le_refl _) _⟩, by simp [intOf]; omega⟩
    · have ek : tl = k := by omega
      subst ek
      go_wp2_with fail
      go_ret
      exact ⟨rfl, HR.out.congr fun j hj => by rw [begF, if_pos hj], HB.out⟩
set_option maxRecDepth 100000 in
set_option maxHeartbeats 4000000 in
theorem walkVImpl (ca : Option Addr) (cn cc : Nat) (wa : Option Addr) (wl wc : Nat) (yg tp od : Int) (da : Option Addr) (dl dc : Nat) (ws : List Int) (cd : List Bool) (L : List Cl) (w : World) {D E G G2 : Nat → Prop} (h : ClsAt D E w ca cn L) (hw : IntsAt G w wa wl ws) (hc : SlAt boolR G2 w da dl cd) (hyg : i64B yg) (hl : wl ≤ 1048576) (hd : dl ≤ 1048576) (hcap : wl ≤ wc) : Calls Try.prog 9 #[.slice ca cn cc, .agg #[.slice wa wl wc, .int .i64 yg, .int .i64 tp, .int .i64 od, .slice da dl dc]] w fun e w' => ∃ a c, e = .returned (.slice a (walkV L (ws, yg, tp, od, cd)).length c) ∧ Wri w' a (walkV L (ws, yg, tp, od, cd)).length (fun j => (walkV L (ws, yg, tp, od, cd)).getD j 0) ∧ (∀ x, a = some x → 0 < (walkV L (ws, yg, tp, od, cd)).length → w.heap.size ≤ x.block) ∧ Below w.heap.size w w' := by
  have H : Hid (ClsAt D E w ca cn L) := h
  have HW : Hid (IntsAt G w wa wl ws) := hw
  have HC : Hid (SlAt boolR G2 w da dl cd) := hc
  have WS : Hid (ws.length = wl) := hw.size
  have CS : Hid (cd.length = dl) := hc.size
  clear h hw hc
  have hz : w.heap.size + 1 ≤ (w.alloc (.cells #[.slice wa wl wc, .int .i64 yg, .int .i64 tp, .int .i64 od, .slice da dl dc] 28)).heap.size := by simp
  have B : Hid (∀ y, Below (w.heap.size + 1) (w.alloc (.cells #[.slice wa wl wc, .int .i64 yg, .int .i64 tp, .int .i64 od, .slice da dl dc] 28)) y → Below w.heap.size w y) := fun y hy => (bR.alloc (by first | exact Nat.le_refl _ | (simp; done) | (simp; omega)) _).trans (hy.mono (by omega))
  have XM : Hid (∀ y, Below (w.heap.size + 1) (w.alloc (.cells #[.slice wa wl wc, .int .i64 yg, .int .i64 tp, .int .i64 od, .slice da dl dc] 28)) y → y.heap[w.heap.size]? = some (.cells #[.slice wa wl wc, .int .i64 yg, .int .i64 tp, .int .i64 od, .slice da dl dc] 28 (0, 0))) := fun y hy => (hy.block _ (by omega)).trans (boxN _ _ _ _ (by simp))
  have lM : w.heap.size < w.heap.size + 1 := by omega
  go_enter Try.func9, Try.ntmps9
  go_wp2_with fail
  have BP : Hid (Below (w.heap.size + 1) (w.alloc (.cells #[.slice wa wl wc, .int .i64 yg, .int .i64 tp, .int .i64 od, .slice da dl dc] 28)) (w.alloc (.cells #[.slice wa wl wc, .int .i64 yg, .int .i64 tp, .int .i64 od, .slice da dl dc] 28))) := bR
  refine (memoryImpl _ _ _ _ _ _ yg tp od _ _ _ ws cd L _ (H.out.later (B.out _ BP.out)) (HW.out.later (B.out _ BP.out)) (HC.out.later (B.out _ BP.out)) hyg hl hd hcap).mono ?_
  rintro e w1 ⟨hno, hyes, hb⟩
  have hq : Below (w.heap.size + 1) (w.alloc (.cells #[.slice wa wl wc, .int .i64 yg, .int .i64 tp, .int .i64 od, .slice da dl dc] 28)) w1 := BP.out.trans (Below.mono hb (Nat.le_trans hz BP.out.size))
  have hzn : w.heap.size + 1 ≤ w1.heap.size := Nat.le_trans hz hq.size
  replace B := lF B hq hzn
  replace XM := lF XM hq hzn
  replace lM := Nat.lt_of_lt_of_le lM hzn
  clear hq BP hz
  have hz : w1.heap.size ≤ w1.heap.size := Nat.le_refl _
  clear hb
  cases hq : memB L (ws, yg, tp, od, cd)
  · obtain ⟨x0, y0, z0, x1, y1, z1, x2, x3, x4, x5, y5, z5, x6, y6, z6, x7, x8, x9, y9, z9, x10, x11, x12, y12, z12, rfl⟩ := hno hq
    clear hno hyes
    have HV : Hid (walkV L (ws, yg, tp, od, cd) = []) := walkV_no hq
    obtain ⟨kM0, kM1, kM2, kM3, kM4⟩ := bk5 (XM.out w1 bR)
    go_wp2_with fail
    go_ret
    exact ⟨_, _, by rw [HV.out]; rfl, by rw [HV.out]; exact ⟨.inl rfl⟩, (fun x e => by cases e), by first | exact B.out w1 (Below.refl _ _) | exact (B.out w1 (Below.refl _ _)).alloc (B.out w1 (Below.refl _ _)).size _⟩
  have HV0 : Hid (walkV L (ws, yg, tp, od, cd) = (thT L (ws, yg, tp, od, cd)).map (·.1)) := walkV_yes hq
  have hB0 := (memB_ok hq).1
  have HB0 : Hid (Bnd L (ws, yg, tp, od, cd)) := hB0
  obtain ⟨wb, wo, yn, tn, on, ta, tc, rfl, rfl, rfl, rfl, rfl, hrow⟩ := hyes hq
  obtain ⟨k0, k1, k2, k3, k4, _⟩ := hB0
  have OK : Hid (clsOk L = true) := k0
  simp only [WS.out] at k1 k2 k3 k4
  have m1 : tn ≤ yn := by omega
  have m2 : yn ≤ on := by omega
  have m3 : on ≤ wl := by omega
  have m4 : wl ≤ 200 := by omega
  have HM : Hid (memB L (ws, (yn : Int), (tn : Int), (on : Int), cd) = true) := hq
  have TL0 : (thT L (ws, (yn : Int), (tn : Int), (on : Int), cd)).length ≤ wl := by have := thT_len HB0.out; simp only [WS.out] at this; exact this
  have TOK0 : Hid (∀ t ∈ thT L (ws, (yn : Int), (tn : Int), (on : Int), cd), TOk L (ws, (yn : Int), (tn : Int), (on : Int), cd) t) := (thT_ok HB0.out).1
  have INC0 : Hid (Inc (thT L (ws, (yn : Int), (tn : Int), (on : Int), cd))) := (thT_ok HB0.out).2.inc
  obtain ⟨T, hT⟩ : ∃ T, thT L (ws, (yn : Int), (tn : Int), (on : Int), cd) = T := ⟨_, rfl⟩
  have HT : Hid (thT L (ws, (yn : Int), (tn : Int), (on : Int), cd) = T) := hT
  rw [hT] at hrow TL0 TOK0 INC0
  rw [hT]
  obtain ⟨tl, htl⟩ : ∃ tl, T.length = tl := ⟨_, rfl⟩
  have TLE : Hid (T.length = tl) := htl
  rw [htl] at hrow TL0
  rw [htl]
  obtain ⟨ou, hou⟩ : ∃ ou, on - yn = ou := ⟨_, rfl⟩
  have OUE : Hid (on - yn = ou) := hou
  rw [hou]
  have ROW0 : Hid (ThRow (fun b => w.heap.size + 1 ≤ b ∧ b < w1.heap.size) w1 (.slice ta tl tc) T) := ThRow.mono hrow (fun b hb hl => ⟨by simpa using hb, hl⟩)
  clear hno hyes hrow k0 k1 k2 k3 k4 hyg hq hT htl hou
  have RW : Hid (∀ y, Below (w1.heap.size) w1 y → ThRow (fun b => w.heap.size + 1 ≤ b ∧ b < w1.heap.size) y (.slice ta tl tc) T) := fun y hy => ROW0.out.later hy
  have HV : Hid (walkV L (ws, (yn : Int), (tn : Int), (on : Int), cd) = T.map (·.1)) := by show _ = _; rw [HV0.out, HT.out]
  clear HV0
  obtain ⟨kM0, kM1, kM2, kM3, kM4⟩ := bk5 (XM.out w1 bR)
  go_wp2_with fail
  clear kM0 kM1 kM2 kM3 kM4
  have BP : Hid (Below (w1.heap.size) w1 (w1.alloc (.cells #[.slice ca cn cc, .slice (some ⟨wb, wo, none⟩) wl wc, .int .i64 (yn : Nat), .int .i64 (tn : Nat), .int .i64 (on : Nat), .slice da dl dc, .slice (some ⟨wb, wo, none⟩) yn wc, .int .i64 0, .int .i64 (tn : Nat), .slice (some ⟨wb, wo + yn, none⟩) (wl - yn) (wc - yn), .int .i64 (yn : Nat), .int .i64 (ou : Nat), .slice ta tl tc] 48))) := (bR.alloc (by first | exact hz | (simp; done) | (simp; omega) | (have := hz; simp at this ⊢; omega)) _)
  refine (mappedImpl ta tl tc T _ ((RW.out _ BP.out).sl TLE.out.symm (by omega)) (by omega)).mono ?_
  rintro e w2 ⟨rfl, hrow, hb⟩
  have HR : Hid (RowAt w2 _ tl (fun j => .int .i64 ((T.map (·.1)).getD j 0))) := hrow
  have hlo : w.heap.size ≤ w1.heap.size := (B.out w1 (Below.refl _ _)).size
  have hq : Below (w1.heap.size) w1 w2 := BP.out.trans (Below.mono hb (Nat.le_trans hz BP.out.size))
  have hzn : w1.heap.size ≤ w2.heap.size := Nat.le_trans hz hq.size
  replace B := lF B hq hzn
  replace RW := lF RW hq hzn
  replace XM := lF XM hq hzn
  replace lM := Nat.lt_of_lt_of_le lM hzn
  have lA : w1.heap.size < w2.heap.size := Nat.lt_of_lt_of_le (by first | (simp; done) | (simp; omega)) (Below.size hb)
  have XA : Hid (∀ y, Below w2.heap.size w2 y → y.heap[w1.heap.size]? = some (.cells #[.slice ca cn cc, .slice (some ⟨wb, wo, none⟩) wl wc, .int .i64 (yn : Nat), .int .i64 (tn : Nat), .int .i64 (on : Nat), .slice da dl dc, .slice (some ⟨wb, wo, none⟩) yn wc, .int .i64 0, .int .i64 (tn : Nat), .slice (some ⟨wb, wo + yn, none⟩) (wl - yn) (wc - yn), .int .i64 (yn : Nat), .int .i64 (ou : Nat), .slice ta tl tc] 48 (0, 0))) := fun y hy => (hy.block _ lA).trans ((Below.block hb _ (by first | (simp; done) | (simp; omega))).trans (boxN _ _ _ _ (by simp)))
  clear hq BP hz
  have hz : w2.heap.size ≤ w2.heap.size := Nat.le_refl _
  clear hb hrow
  go_wp2_with fail
  go_ret
  exact ⟨_, _, by rw [HV.out, List.length_map, TLE.out]; rfl, by rw [HV.out, List.length_map, TLE.out]; exact ⟨.inr ⟨_, 0, rfl, fun j hj => by simpa using HR.out j hj⟩⟩, (fun x e _ => by obtain rfl := Option.some.inj e; simp; omega), B.out w2 (Below.refl _ _)⟩

end Go.Proofs.Ytjeabgkcmfjjlaa
