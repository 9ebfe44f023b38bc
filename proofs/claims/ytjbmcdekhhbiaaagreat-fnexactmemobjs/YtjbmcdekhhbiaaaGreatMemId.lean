/-
  All things of a part, by the program: what it says; it writes nothing that was there.
-/
import Derived.Test.YtjbmcdekhhbiaaaGreatThRw
namespace Go.Proofs.YtjbmcdekhhbiaaaGreat
open Go.ChangeShapes Go.WideShapes Go.ChangeAt Go.RowKit
set_option linter.unusedVariables false

theorem nextImpl (pb po pl pc ah us : Nat) (w : World) (h1 : ah ≤ 100000) (h2 : us ≤ 100000) : Calls Tryz.prog 77 #[.agg #[.slice (some ⟨pb, po, none⟩) pl pc, .int .i64 (ah : Nat), .int .i64 (us : Nat)]] w fun e w' => e = .returned (.int .i64 ((ah + us + 1 : Nat) : Int)) ∧ Below w.heap.size w w' := by
  go_enter Tryz.func77, Tryz.ntmps77
  go_wp2_with fail
  go_ret
  exact ⟨rfl, by go_grown⟩
/-- A piece of a list of ints. -/
theorem IntsAt.sub {D : Nat → Prop} {w : World} {b o l : Nat} {xs : List Int} (h : IntsAt D w (some ⟨b, o, none⟩) l xs) (i e : Nat) (hie : i ≤ e) (he : e ≤ l) : IntsAt D w (some ⟨b, o + i, none⟩) (e - i) ((xs.take e).drop i) := by
  refine ⟨by rw [List.length_drop, List.length_take, h.size]; omega, by have := h.room; omega, ?_, fun j => ?_⟩
  · by_cases h0 : e - i = 0
    · exact .inl h0
    · obtain ⟨_, _, e0, hd, hc⟩ := h.one 0 (by omega)
      cases e0
      refine .inr ⟨b, o + i, rfl, hd, fun j hj => ?_⟩
      rw [getD_drop, getD_take (by omega), Nat.add_assoc]
      exact hc (i + j) (by omega)
  · rw [getD_drop]
    by_cases hj : i + j < e
    · rw [getD_take hj]; exact h.fits _
    · rw [List.getD_eq_getElem?_getD, List.getElem?_eq_none (by rw [List.length_take]; omega)]; simp
def lenS : Value → Nat
  | .slice _ n _ => n
  | _ => 0
def PrtP (w : World) (r : Option (List Th)) (e : Ending) (w' : World) : Prop :=
  (r = none → e = .returned (.tuple #[.slice none 0 0, .bool false])) ∧ (∀ ts, r = some ts → ∃ a c, e = .returned (.tuple #[.slice a ts.length c, .bool true]) ∧ ThRow (fun b => w.heap.size ≤ b) w' (.slice a ts.length c) ts ∧ ts.length ≤ 1000) ∧ Below w.heap.size w w'

set_option maxRecDepth 100000 in
set_option maxHeartbeats 16000000 in
theorem partImpl (ca : Option Addr) (cn cc : Nat) (pb po pl pc ah us : Nat) (ws : List Int) (L : List Cl) (w : World) {D E G : Nat → Prop} (h : ClsAt D E w ca cn L) (ok : clsOk L = true) (hw : IntsAt G w (some ⟨pb, po, none⟩) pl ws) (h1 : us ≤ pl) (h2 : pl ≤ pc) (h3 : pl ≤ 1000) (h4 : ah ≤ 1000) :
    Calls Tryz.prog 66 #[.agg #[.slice (some ⟨pb, po, none⟩) pl pc, .int .i64 (ah : Nat), .int .i64 (us : Nat)], .slice ca cn cc] w (PrtP w (parse L ah (ws.take us))) := by
  have H : Hid (ClsAt D E w ca cn L) := h
  have OK : Hid (clsOk L = true) := ok
  have HW : Hid (IntsAt G w (some ⟨pb, po, none⟩) pl ws) := hw
  have WS : Hid (ws.length = pl) := hw.size
  obtain ⟨r, hr⟩ : ∃ r, parse L ah (ws.take us) = r := ⟨_, rfl⟩
  have HR : Hid (parse L ah (ws.take us) = r) := hr
  rw [hr]
  clear h ok hw hr
  have hz : w.heap.size + 1 ≤ (w.alloc (.cells #[.slice (some ⟨pb, po, none⟩) pl pc, .int .i64 (ah : Nat), .int .i64 (us : Nat)] 62)).heap.size := by simp
  have B : Hid (∀ y, Below (w.heap.size + 1) (w.alloc (.cells #[.slice (some ⟨pb, po, none⟩) pl pc, .int .i64 (ah : Nat), .int .i64 (us : Nat)] 62)) y → Below w.heap.size w y) := fun y hy => (bR.alloc (by first | exact Nat.le_refl _ | (simp; done) | (simp; omega)) _).trans (hy.mono (by omega))
  have XP : Hid (∀ y, Below (w.heap.size + 1) (w.alloc (.cells #[.slice (some ⟨pb, po, none⟩) pl pc, .int .i64 (ah : Nat), .int .i64 (us : Nat)] 62)) y → y.heap[w.heap.size]? = some (.cells #[.slice (some ⟨pb, po, none⟩) pl pc, .int .i64 (ah : Nat), .int .i64 (us : Nat)] 62 (0, 0))) := fun y hy => (hy.block _ (by omega)).trans (boxN _ _ _ _ (by simp))
  have lP : w.heap.size < w.heap.size + 1 := by omega
  go_enter Tryz.func66, Tryz.ntmps66
  go_wp2_with fail
  go_loopw [6, 7] (fun t6 t7 wr => ∃ (i : Nat) (pre : List Th) (va : Option Addr) (n c : Nat) (ra : Option Addr) (rc : Nat), i ≤ us ∧ t6 = .slice va n c ∧ t7 = .slice ra (us - i) rc ∧ n = pre.length ∧ us - i ≤ rc ∧ (i < us → ra = some ⟨pb, po + i, none⟩) ∧ n ≤ i ∧ ThRow (fun b => w.heap.size + 1 ≤ b) wr (.slice va n c) pre ∧ parse L ah (ws.take us) = (parse L (ah + i) ((ws.take us).drop i)).map (pre ++ ·) ∧ Below (w.heap.size + 1) (w.alloc (.cells #[.slice (some ⟨pb, po, none⟩) pl pc, .int .i64 (ah : Nat), .int .i64 (us : Nat)] 62)) wr) (fun _ t7 _ => lenS t7)
  case atStart => exact ⟨0, [], none, 0, 0, _, _, Nat.zero_le _, rfl, rfl, rfl, by omega, (fun _ => rfl), Nat.le_refl _, ⟨[], World.ownsRow_nil _ _ _ _, (by intro b e; simp [Value.ownBlock] at e), by simp⟩, by simp, Below.refl _ _⟩
  case round =>
    obtain ⟨i, pre, va, n, c, ra, rc, hi, rfl, rfl, hn, hrc, hra, hni, hrow, hp, hr⟩ := hrel
    have HN : Hid (n = pre.length) := hn
    have HP : Hid (parse L ah (ws.take us) = (parse L (ah + i) ((ws.take us).drop i)).map (pre ++ ·)) := hp
    have HRW : Hid (Below (w.heap.size + 1) (w.alloc (.cells #[.slice (some ⟨pb, po, none⟩) pl pc, .int .i64 (ah : Nat), .int .i64 (us : Nat)] 62)) wr) := hr
    have ROW0 : Hid (ThRow (fun b => w.heap.size + 1 ≤ b) wr (.slice va n c) pre) := hrow
    clear hn hp hrow
    obtain ⟨rl, hrl⟩ : ∃ q, us - i = q := ⟨_, rfl⟩
    rw [hrl] at hrc ⊢
    have hzn : w.heap.size + 1 ≤ wr.heap.size := Nat.le_trans hz (Below.size hr)
    replace B := lF B hr hzn
    replace XP := lF XP hr hzn
    replace lP := Nat.lt_of_lt_of_le lP hzn
    clear hz
    have hz : wr.heap.size ≤ wr.heap.size := Nat.le_refl _
    clear hr
    have A : Hid (∀ y, Below (wr.heap.size) wr y → Below (w.heap.size + 1) (w.alloc (.cells #[.slice (some ⟨pb, po, none⟩) pl pc, .int .i64 (ah : Nat), .int .i64 (us : Nat)] 62)) y) := fun y hy => HRW.out.trans (hy.mono (by have := HRW.out.size; simp at this; omega))
    have RW : Hid (∀ y, Below (wr.heap.size) wr y → ThRow (fun b => w.heap.size + 1 ≤ b ∧ b < wr.heap.size) y (.slice va n c) pre) := fun y hy => (ThRow.mono ROW0.out (fun b hb hl => ⟨hb, hl⟩)).later hy
    by_cases hlt : i < us
    · obtain rfl := hra hlt
      have SEG : Hid (IntsAt G wr (some ⟨pb, po + i, none⟩) rl ((ws.take us).drop i)) := by
        rw [← hrl]
        exact IntsAt.sub (HW.out.later (B.out wr (Below.refl _ _))) i us (by omega) (by omega)
      have hWR : w.heap.size + 1 ≤ wr.heap.size := by have := HRW.out.size; simp at this; omega
      have SL : Hid (((ws.take us).drop i).length = rl) := SEG.out.size
      obtain ⟨kP0, kP1, kP2⟩ := bk3 (XP.out wr bR)
      go_wp2_with fail
      clear kP0 kP1 kP2
      have BP : Hid (Below (wr.heap.size) wr wr) := bR
      refine (firstImpl _ _ _ _ _ rl _ ((ws.take us).drop i) L _ (H.out.later (B.out _ BP.out)) OK.out (SEG.out.later BP.out) (by omega) (by omega)).mono ?_
      rintro e w2 ⟨hno, hyes, hb⟩
      have hr2 := hb.size
      have hq : Below (wr.heap.size) wr w2 := BP.out.trans (Below.mono hb (Nat.le_trans hz BP.out.size))
      have hzn : wr.heap.size ≤ w2.heap.size := Nat.le_trans hz hq.size
      replace B := lF B hq hzn
      replace A := lF A hq hzn
      replace RW := lF RW hq hzn
      replace XP := lF XP hq hzn
      replace lP := Nat.lt_of_lt_of_le lP hzn
      clear hq BP hz
      have hz : w2.heap.size ≤ w2.heap.size := Nat.le_refl _
      clear hb
      obtain ⟨m, hm⟩ : ∃ m, tsz L ((ws.take us).drop i) = m := ⟨_, rfl⟩
      have HM : Hid (tsz L ((ws.take us).drop i) = m) := hm
      have hmle : m ≤ rl := by rw [← hm, ← SL.out]; exact tsz_le L _
      clear hm
      by_cases h0 : m = 0
      · obtain ⟨za, zc, zt, zl, zp, rfl⟩ := hno (by rw [fstV, if_pos (HM.out.trans h0)])
        have RN : Hid (r = none) := by show _ = _; rw [← HR.out, HP.out, parse_no L _ (by rw [SL.out]; omega) (HM.out.trans h0)]; rfl
        clear hno hyes
        obtain ⟨kP0, kP1, kP2⟩ := bk3 (XP.out w2 bR)
        go_wp2_with fail
        go_ret2
        rw [RN.out]
        exact ⟨fun _ => rfl, (fun ts e => by cases e), by first | exact B.out w2 (Below.refl _ _) | exact (B.out w2 (Below.refl _ _)).alloc (B.out w2 (Below.refl _ _)).size _⟩
      obtain ⟨zt, zp, rfl, own⟩ := hyes _ _ (by rw [fstV, if_neg (by rw [HM.out]; exact h0)])
      obtain ⟨x0, hx0⟩ : ∃ q, ((ws.take us).drop i).getD 0 0 = q := ⟨_, rfl⟩
      obtain ⟨an, han⟩ : ∃ q, ah + i + 1 = q := ⟨_, rfl⟩
      obtain ⟨np, hnp⟩ : ∃ q, ah + us + 1 = q := ⟨_, rfl⟩
      obtain ⟨ty, hty⟩ : ∃ q, typ L (((ws.take us).drop i).getD 0 0) (((ws.take us).drop i).getD 1 0) = q := ⟨_, rfl⟩
      have TG : Hid (thg L (ah + i) ((ws.take us).drop i) = ((an : Int), x0, ty)) := by
        show _ = _
        rw [thg, hty, hx0, ← han]
        simp
      obtain ⟨s1, s2, s3, s4⟩ := tsz_some (L := L) (ws := (ws.take us).drop i) (by rw [HM.out]; exact h0)
      rw [hty, hx0, HM.out] at s3
      have xf : i64B x0 := by rw [← hx0]; exact SEG.out.fits 0
      rw [hty] at own
      rw [hty, hx0]
      have tyr : ∀ t ∈ ty, 1 ≤ t ∧ t ≤ 12 := by rw [← hty]; exact typ_rng OK.out s2
      have tyl : ty.length ≤ 10 := by rw [← hty]; exact typ_len OK.out s2
      have HTY : Hid (∀ t ∈ ty, 1 ≤ t ∧ t ≤ 12) := tyr
      have XF : Hid (i64B x0) := xf
      have MS : Hid (m = hdN x0 + ty.length) := s3
      have TI0 : Hid (IntsAt (fun b => wr.heap.size ≤ b) w2 zt ty.length ty) := (own_at own (by omega) (fits_lit fun t ht => by have := tyr t ht; omega)).1
      clear hno hyes own s1 s2 s3 s4 hx0 hty xf tyr
      obtain ⟨tn, htn⟩ : ∃ tn, ty.length = tn := ⟨_, rfl⟩
      have HTN : Hid (ty.length = tn) := htn
      rw [htn] at TI0 MS tyl ⊢
      clear htn
      have TI : Hid (∀ y, Below (w2.heap.size) w2 y → IntsAt (fun b => wr.heap.size ≤ b ∧ b < w2.heap.size) y zt tn ty) := fun y hy => (IntsAt.mono TI0.out (fun b hb hl => ⟨hb, hl⟩)).later hy
      obtain ⟨kP0, kP1, kP2⟩ := bk3 (XP.out w2 bR)
      go_wp2_with fail
      clear kP0 kP1 kP2
      have BP : Hid (Below (w2.heap.size) w2 (w2.alloc (.cells #[.int .i64 0, .int .i64 x0, .slice zt tn zp] 69))) := (bR.alloc (by first | exact hz | (simp; done) | (simp; omega) | (have := hz; simp at this ⊢; omega)) _)
      refine (nextImpl _ _ _ _ ah us _ (by omega) (by omega)).mono ?_
      rintro e w3 ⟨rfl, hb⟩
      have hq : Below (w2.heap.size) w2 w3 := BP.out.trans (Below.mono hb (Nat.le_trans hz BP.out.size))
      have hzn : w2.heap.size ≤ w3.heap.size := Nat.le_trans hz hq.size
      replace B := lF B hq hzn
      replace A := lF A hq hzn
      replace RW := lF RW hq hzn
      replace TI := lF TI hq hzn
      replace XP := lF XP hq hzn
      replace lP := Nat.lt_of_lt_of_le lP hzn
      have lT : w2.heap.size < w3.heap.size := Nat.lt_of_lt_of_le (by first | (simp; done) | (simp; omega)) (Below.size hb)
      have XT : Hid (∀ y, Below w3.heap.size w3 y → y.heap[w2.heap.size]? = some (.cells #[.int .i64 0, .int .i64 x0, .slice zt tn zp] 69 (0, 0))) := fun y hy => (hy.block _ lT).trans ((Below.block hb _ (by first | (simp; done) | (simp; omega))).trans (boxN _ _ _ _ (by simp)))
      clear hq BP hz
      have hz : w3.heap.size ≤ w3.heap.size := Nat.le_refl _
      clear hb
      rw [hnp]
      have hsub : IntKind.i64.wrap ((np : Int) - (rl : Int)) = (an : Int) := by rw [IntKind.wrap_i64] <;> omega
      skip
      obtain ⟨kP0, kP1, kP2⟩ := bk3 (XP.out w3 bR)
      obtain ⟨kT0, kT1, kT2⟩ := bk3 (XT.out w3 bR)
      obtain ⟨qkT0, qkT1, qkT2⟩ := bq3 (XT.out w3 bR)
      have hw0 : w.heap.size ≤ w2.heap.size := by have := (B.out _ bR).size; omega
      replace XP := lS XP lP ((w3.setCell ⟨w2.heap.size, 0, none⟩ (.int .i64 (an : Int)))) ((Below.heap_setCell _ _ _ _ (by first | omega | (simp; done) | (simp; omega))))
      replace XT : Hid (∀ y, Below (w3.heap.size) (w3.setCell ⟨w2.heap.size, 0, none⟩ (.int .i64 (an : Int))) y → y.heap[w2.heap.size]? = some (.cells #[.int .i64 (an : Int), .int .i64 x0, .slice zt tn zp] 69 (0, 0))) := fun y hy => (hy.block _ (by omega)).trans (boxS (XT.out w3 bR) 0 _)
      replace A : Hid (∀ y, Below (w3.heap.size) (w3.setCell ⟨w2.heap.size, 0, none⟩ (.int .i64 (an : Int))) y → Below (w.heap.size + 1) (w.alloc (.cells #[.slice (some ⟨pb, po, none⟩) pl pc, .int .i64 (ah : Nat), .int .i64 (us : Nat)] 62)) y) := fun y hy => ((A.out w3 (Below.refl _ _)).setCell (by show _ ≤ w2.heap.size; omega) _).trans (hy.mono (by omega))
      replace RW : Hid (∀ y, Below (w3.heap.size) (w3.setCell ⟨w2.heap.size, 0, none⟩ (.int .i64 (an : Int))) y → ThRow (fun b => w.heap.size + 1 ≤ b ∧ b < wr.heap.size) y (.slice va n c) pre) := fun y hy => ((RW.out w3 (Below.refl _ _)).box _ _ (fun h => by have := h.2; simp at this; omega)).later (hy.mono (by simp))
      replace TI : Hid (∀ y, Below (w3.heap.size) (w3.setCell ⟨w2.heap.size, 0, none⟩ (.int .i64 (an : Int))) y → IntsAt (fun b => wr.heap.size ≤ b ∧ b < w2.heap.size) y zt tn ty) := fun y hy => ((TI.out w3 (Below.refl _ _)).set _ _ (fun h => by have := h.2; simp at this)).later (hy.mono (by simp))
      replace B : Hid (∀ y, Below (w3.heap.size) (w3.setCell ⟨w2.heap.size, 0, none⟩ (.int .i64 (an : Int))) y → Below w.heap.size w y) := fun y hy => ((B.out w3 bR).setCell hw0 _).trans (hy.mono (by first | omega | exact Nat.le_trans (B.out w3 bR).size hz | (have := (B.out w3 bR).size; omega)))
      replace hz : w3.heap.size ≤ (w3.setCell ⟨w2.heap.size, 0, none⟩ (.int .i64 (an : Int))).heap.size := by first | (simp; done) | simpa using hz
      clear hw0
      have OWN : Hid (∀ b, (Value.slice va n c).ownBlock = some b → b < wr.heap.size) := fun b hb => ((ROW0.out).lt b hb).2
      have BA : Hid (Below (w3.heap.size) (w3.setCell ⟨w2.heap.size, 0, none⟩ (.int .i64 (an : Int))) ((w3.setCell ⟨w2.heap.size, 0, none⟩ (.int .i64 (an : Int))).alloc (.cells #[.int .i64 (an : Int), .int .i64 x0, .slice zt tn zp] 69))) := (Below.refl _ _).alloc (by simp) _
      have hrun0 := ThRow.app (D := fun b => w.heap.size + 1 ≤ b) (lb := w3.heap.size) (ThRow.mono (RW.out _ BA.out) (fun b hb _ => hb.1)) ((an : Int), x0, ty) [.int .i64 (an : Int), .int .i64 x0, .slice zt tn zp] (th_holds ⟨by omega, by omega⟩ XF.out (IntsAt.mono (TI.out _ BA.out) (fun b hb _ => ⟨by omega, fun e => by have := OWN.out b e; omega⟩))) (fun j u hu => by rw [World.cell?_alloc_at _ _ _ _ (by simp)]; simpa using hu) (by simp; omega) (by have := HN.out; omega) 63
      obtain ⟨g, gc, w4, hrun, hrow, hgrow⟩ := hrun0
      rw [← HN.out] at hrun hrow
      have hbg : Below (w.heap.size + 1) ((w3.setCell ⟨w2.heap.size, 0, none⟩ (.int .i64 (an : Int))).alloc (.cells #[.int .i64 (an : Int), .int .i64 x0, .slice zt tn zp] 69)) w4 := (Below.refl _ _).grown hgrow (by simp; omega) (fun j e => (ROW0.out.lt j e).1)
      have hTb : w4.heap[w2.heap.size]? = ((w3.setCell ⟨w2.heap.size, 0, none⟩ (.int .i64 (an : Int))).alloc (.cells #[.int .i64 (an : Int), .int .i64 x0, .slice zt tn zp] 69)).heap[w2.heap.size]? := hgrow.block _ (by simp; omega) (fun e => by have := OWN.out _ e.symm; omega)
      have R4 : Hid (ThRow (fun b => w.heap.size + 1 ≤ b) w4 (.slice (some ⟨g, 0, none⟩) (n + 1) gc) (pre ++ [((an : Int), x0, ty)])) := hrow
      clear hrow hgrow
      go_wp2_with (
        at_builtin
        refine list_appP rfl (.tmp 32) (.tmp 34) 63 rfl (.slice va n c) (.slice (some ⟨w3.heap.size, 0, none⟩) 1 1) _ rfl rfl hrun ?_
        have BP : Hid (Below (w3.heap.size) (w3.setCell ⟨w2.heap.size, 0, none⟩ (.int .i64 (an : Int))) ((w3.setCell ⟨w2.heap.size, 0, none⟩ (.int .i64 (an : Int))).alloc (.cells #[.int .i64 (an : Int), .int .i64 x0, .slice zt tn zp] 69))) := (bR.alloc (by first | exact hz | (simp; done) | (simp; omega) | (have := hz; simp at this ⊢; omega)) _)
        have hq : Below (w.heap.size + 1) (w3.setCell ⟨w2.heap.size, 0, none⟩ (.int .i64 (an : Int))) w4 := (BP.out.mono (by omega)).trans (Below.mono hbg (by omega))
        have hzn : w3.heap.size ≤ w4.heap.size := Nat.le_trans hz hq.size
        replace B : Hid (∀ y, Below w4.heap.size w4 y → Below w.heap.size w y) := fun y hy => ((B.out (w3.setCell ⟨w2.heap.size, 0, none⟩ (.int .i64 (an : Int))) bR).trans (hq.mono (by omega))).trans (hy.mono (Nat.le_trans (B.out (w3.setCell ⟨w2.heap.size, 0, none⟩ (.int .i64 (an : Int))) bR).size hq.size))
        replace A : Hid (∀ y, Below w4.heap.size w4 y → Below (w.heap.size + 1) (w.alloc (.cells #[.slice (some ⟨pb, po, none⟩) pl pc, .int .i64 (ah : Nat), .int .i64 (us : Nat)] 62)) y) := fun y hy => ((A.out (w3.setCell ⟨w2.heap.size, 0, none⟩ (.int .i64 (an : Int))) (Below.refl _ _)).trans hq).trans (hy.mono (by have := HRW.out.size; simp at this; omega))
        clear RW
        clear TI
        replace XP : Hid (∀ y, Below w4.heap.size w4 y → y.heap[w.heap.size]? = some (.cells #[.slice (some ⟨pb, po, none⟩) pl pc, .int .i64 (ah : Nat), .int .i64 (us : Nat)] 62 (0, 0))) := fun y hy => (hy.block _ (by omega)).trans ((hq.block _ (by omega)).trans (XP.out (w3.setCell ⟨w2.heap.size, 0, none⟩ (.int .i64 (an : Int))) bR))
        replace lP : w.heap.size < w4.heap.size := by omega
        replace XT : Hid (∀ y, Below w4.heap.size w4 y → y.heap[w2.heap.size]? = some (.cells #[.int .i64 (an : Int), .int .i64 x0, .slice zt tn zp] 69 (0, 0))) := fun y hy => (hy.block _ (by omega)).trans ((hTb).trans ((BP.out.block _ (by omega)).trans (XT.out (w3.setCell ⟨w2.heap.size, 0, none⟩ (.int .i64 (an : Int))) bR)))
        replace lT : w2.heap.size < w4.heap.size := by omega
        clear hq BP hz
        have hz : w4.heap.size ≤ w4.heap.size := Nat.le_refl _
        clear kP0 kP1 kP2 kT0 kT1 kT2 qkT0 qkT1 qkT2 hbg hTb hrun
        obtain ⟨kP0, kP1, kP2⟩ := bk3 (XP.out w4 bR)
        obtain ⟨kT0, kT1, kT2⟩ := bk3 (XT.out w4 bR))
      clear kP0 kP1 kP2 kT0 kT1 kT2
      have BP : Hid (Below (w4.heap.size) w4 w4) := bR
      refine (sizeImpl _ x0 zt tn zp _ (by omega)).mono ?_
      rintro e w5 ⟨rfl, hb⟩
      have R5 : Hid (ThRow (fun b => w.heap.size + 1 ≤ b) w5 (.slice (some ⟨g, 0, none⟩) (n + 1) gc) (pre ++ [((an : Int), x0, ty)])) := R4.out.later (BP.out.trans (hb.mono BP.out.size))
      have hq : Below (w4.heap.size) w4 w5 := BP.out.trans (Below.mono hb (Nat.le_trans hz BP.out.size))
      have hzn : w4.heap.size ≤ w5.heap.size := Nat.le_trans hz hq.size
      replace B := lF B hq hzn
      replace A := lF A hq hzn
      replace XP := lF XP hq hzn
      replace lP := Nat.lt_of_lt_of_le lP hzn
      replace XT := lF XT hq hzn
      replace lT := Nat.lt_of_lt_of_le lT hzn
      clear hq BP hz
      have hz : w5.heap.size ≤ w5.heap.size := Nat.le_refl _
      clear hb R4
      rw [← MS.out]
      have NX : Hid (parse L ah (ws.take us) = (parse L (ah + (i + m)) ((ws.take us).drop (i + m))).map ((pre ++ [((an : Int), x0, ty)]) ++ ·)) := by
        show _ = _
        rw [HP.out, parse_step L (ah + i) (ws := (ws.take us).drop i) (by rw [HM.out]; exact h0), HM.out, List.drop_drop, TG.out, Nat.add_assoc]
        cases parse L (ah + (i + m)) ((ws.take us).drop (i + m)) with
        | none => rfl
        | some ts => simp
      have hsz2 : rl - m = us - (i + m) := by omega
      obtain ⟨kP0, kP1, kP2⟩ := bk3 (XP.out w5 bR)
      obtain ⟨kT0, kT1, kT2⟩ := bk3 (XT.out w5 bR)
      go_wp2_with fail
      exact ⟨⟨i + m, pre ++ [((an : Int), x0, ty)], some ⟨g, 0, none⟩, n + 1, gc, _, _, by omega, rfl, rfl, by rw [HN.out]; simp, by omega, (fun hlt2 => by rw [if_neg (by omega), Nat.add_assoc]), by omega, R5.out, NX.out, A.out w5 (Below.refl _ _)⟩, by simp [lenS]; omega⟩
    · have ei : us = i := by omega
      subst ei
      have RS : Hid (r = some pre) := by show _ = _; rw [← HR.out, HP.out, parse_nil L _ (by rw [List.length_drop, List.length_take]; omega)]; simp
      obtain ⟨kP0, kP1, kP2⟩ := bk3 (XP.out wr bR)
      go_wp2_with fail
      go_ret2
      rw [RS.out]
      exact ⟨(fun e => by cases e), (fun ts e => by
        cases e
        rw [← HN.out]
        exact ⟨va, c, rfl, ThRow.mono ROW0.out (fun b hb _ => by have : w.heap.size + 1 ≤ b := hb; omega), by have := HN.out; omega⟩), B.out wr (Below.refl _ _)⟩

end Go.Proofs.YtjbmcdekhhbiaaaGreat
