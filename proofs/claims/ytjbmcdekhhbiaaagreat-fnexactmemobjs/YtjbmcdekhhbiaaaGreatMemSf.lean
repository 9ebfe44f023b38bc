/-
  Whether what is in a thing is ok: the specification says so; it writes nothing that was there.
-/
import Derived.Test.YtjbmcdekhhbiaaaGreatMemSd
namespace Go.Proofs.YtjbmcdekhhbiaaaGreat
open Go.ChangeShapes Go.WideShapes Go.ChangeAt Go.RowKit
set_option linter.unusedVariables false

def okK (m : Mm) (T : List Th) (t : Th) (k : Nat) : Bool := mayV T (t.2.2.getD k 0) (m.1.getD (plc t k) 0) && (!needV m t k (m.1.getD (plc t k) 0) || m.2.2.2.2.getD (cdN m (plc t k)) false)
theorem all_both {p q : Nat → Bool} : ∀ (n : Nat), ((List.range n).all p && (List.range n).all q) = (List.range n).all (fun k => p k && q k)
  | 0 => rfl
  | n + 1 => by
    rw [List.range_succ, List.all_append, List.all_append, List.all_append, ← all_both n]
    simp only [List.all_cons, List.all_nil, Bool.and_true]
    cases (List.range n).all p <;> cases (List.range n).all q <;> cases p n <;> cases q n <;> rfl
theorem vc_all (m : Mm) (T : List Th) (t : Th) : (valB' m T t && crdB m t) = (List.range t.2.2.length).all (okK m T t) := all_both _
theorem stB_plN (T : List Th) (j : Nat) : stB (plN T) j = isAt T ((j : Int) + 1) := by
  unfold stB plN isAt
  rw [List.any_map]
  congr 1
  funext t
  simp only [Function.comp]
  rw [Bool.eq_iff_iff]
  simp only [beq_iff_eq]
  omega
theorem led_eq {T : List Th} {n : Nat} (h : ∀ t ∈ T, 1 ≤ t.1 ∧ t.1 ≤ n) (v : Int) : (v == 0 || (inI v 1 n && stB (plN T) (v.toNat - 1))) = ledV T v := by
  unfold ledV
  congr 1
  cases hq : inI v 1 n
  · cases ha : isAt T v
    · rfl
    · obtain ⟨t, ht, rfl⟩ := isAt_iff.1 ha
      have := inI_iff.2 (h t ht)
      rw [this] at hq; cases hq
  · have := inI_iff.1 hq
    rw [stB_plN, show ((v.toNat - 1 : Nat) : Int) + 1 = v by omega]
    rfl
theorem rng_on' {p : Nat → Bool} (k : Nat) : (List.range (k + 1)).all p = ((List.range k).all p && p k) := by
  rw [List.range_succ, List.all_append]; simp
theorem rng_no' {p : Nat → Bool} {n k : Nat} (hk : k < n) (h : p k = false) : (List.range n).all p = false := by
  rw [List.all_eq_false]; exact ⟨k, List.mem_range.2 hk, by simp [h]⟩

set_option maxRecDepth 100000 in
set_option maxHeartbeats 16000000 in
theorem thingSpec21 (ca : Option Addr) (cn cc : Nat) (wa : Option Addr) (wl wc : Nat) (yg tp od : Nat) (da : Option Addr) (dl dc : Nat) (sg sc : Nat) (T : List Th) (t : Th) (ws : List Int) (cd : List Bool) (L : List Cl) (w : World) {D E G G2 : Nat → Prop} (h : ClsAt D E w ca cn L) (ok : clsOk L = true) (hw : IntsAt G w wa wl ws) (hc : SlAt boolR G2 w da dl cd) (hst : ∀ j, j < wl → w.cell? ⟨sg, j, none⟩ = some (.bool (stB (plN T) j))) (hsg : sg < w.heap.size) (hT : ∀ s ∈ T, 1 ≤ s.1 ∧ s.1 ≤ wl) (ht : TOk L (ws, yg, tp, od, cd) t) (hl : wl ≤ 1000) (hyl : yg ≤ wl) (hdl : wl ≤ yg + dl * 4) (hdl2 : dl ≤ 1000) :
    Calls Tryz.prog 60 #[.slice ca cn cc, .agg #[.slice wa wl wc, .int .i64 (yg : Nat), .int .i64 (tp : Nat), .int .i64 (od : Nat), .slice da dl dc], .slice (some ⟨sg, 0, none⟩) wl sc, .int .i64 (t.1 - 1)] w fun e w' => e = .returned (.bool (valB' (ws, yg, tp, od, cd) T t && crdB (ws, yg, tp, od, cd) t)) ∧ Below w.heap.size w w' := by
  have H : Hid (ClsAt D E w ca cn L) := h
  have OK : Hid (clsOk L = true) := ok
  have HW : Hid (IntsAt G w wa wl ws) := hw
  have HC : Hid (SlAt boolR G2 w da dl cd) := hc
  have WS : Hid (ws.length = wl) := hw.size
  have TS : Hid (∀ s ∈ T, 1 ≤ s.1 ∧ s.1 ≤ wl) := hT
  have TT : Hid (TOk L (ws, yg, tp, od, cd) t) := ht
  have hpos := tSz_pos t
  have hlo := ht.lo
  have hhi := ht.hi
  simp only [hw.size] at hhi
  obtain ⟨i, hi⟩ : ∃ i : Nat, t.1 = (i : Int) + 1 := ⟨t.1.toNat - 1, by omega⟩
  have hi0 : t.1.toNat - 1 = i := by omega
  rw [hi0] at hhi
  have HI : Hid (t.1 = (i : Int) + 1) := hi
  rw [show t.1 - 1 = (i : Int) by omega]
  have ST : Hid (∀ y, Below w.heap.size w y → ∀ j, j < wl → y.cell? ⟨sg, j, none⟩ = some (.bool (stB (plN T) j))) := fun y hy j hj => (hy.cell (p := ⟨sg, j, none⟩) hsg).trans (hst j hj)
  have VC : Hid ((valB' (ws, yg, tp, od, cd) T t && crdB (ws, yg, tp, od, cd) t) = (List.range t.2.2.length).all (okK (ws, yg, tp, od, cd) T t)) := vc_all _ _ _
  have RH : Hid (∀ y, Below w.heap.size w y → Calls Tryz.prog 45 #[.slice ca cn cc, .slice wa wl wc, .int .i64 i] y fun e w' => ∃ g, e = .returned (.slice (some ⟨g, 0, none⟩) (tSz t) (tSz t)) ∧ y.heap.size ≤ g ∧ RowAt w' g (tSz t) (fun j => .bool (refB t j)) ∧ Below y.heap.size y w') := fun y hy => refsSpec ca cn cc wa wl wc i t ws L y (H.out.later hy) OK.out (HW.out.later hy) hhi hl (by rw [← hi0]; exact TT.out.cls) (by rw [← hi0]; exact TT.out.ist) (by rw [← hi0]; exact TT.out.ty) (by rw [← hi0]; exact TT.out.sz)
  have HX0 : Hid (ws.getD i 0 = t.2.1) := by show _ = _; rw [← hi0]; exact TT.out.cls
  have hcls : t.2.1 = -1 ∨ t.2.1 = -2 ∨ 0 ≤ t.2.1 := by
    have := ht.ist
    unfold isT at this
    by_cases h1 : t.2.1 = -1 ∨ t.2.1 = -2
    · omega
    · rw [if_neg h1, inI_iff] at this; omega
  have hts : tSz t = hdN t.2.1 + t.2.2.length := rfl
  have hd0 := hdN_pos t.2.1
  have OKK : Hid (∀ k, okK (ws, yg, tp, od, cd) T t k = (mayV T (t.2.2.getD k 0) (ws.getD (i + hdN t.2.1 + k) 0) && (!(!(inI ((i : Int) + 1) 1 yg) && (t.2.2.getD k 0 != 1 && inI (ws.getD (i + hdN t.2.1 + k) 0) 1 yg)) || cd.getD ((i + hdN t.2.1 + k - yg) / 4) false))) := fun k => by
    show (mayV T (t.2.2.getD k 0) (ws.getD (t.1.toNat - 1 + hdN t.2.1 + k) 0) && (!(!(inI t.1 1 yg) && (t.2.2.getD k 0 != 1 && inI (ws.getD (t.1.toNat - 1 + hdN t.2.1 + k) 0) 1 yg)) || cd.getD ((t.1.toNat - 1 + hdN t.2.1 + k - (yg : Int).toNat) / 4) false)) = _
    rw [hi0, hi, Int.toNat_natCast]
  have RV : Hid (∀ k, hdN t.2.1 ≤ k → refB t k = (t.2.2.getD (k - hdN t.2.1) 0 != 1)) := fun k hk => refB_at hk
  have FW : Hid (∀ j, -9223372036854775808 ≤ ws.getD j 0 ∧ ws.getD j 0 ≤ 9223372036854775807) := hw.fits
  obtain ⟨x, hxx⟩ : ∃ x, t.2.1 = x := ⟨_, rfl⟩
  obtain ⟨n, hnn⟩ : ∃ n, tSz t = n := ⟨_, rfl⟩
  obtain ⟨tn, htn⟩ : ∃ tn, t.2.2.length = tn := ⟨_, rfl⟩
  have HXX : Hid (t.2.1 = x) := hxx
  obtain ⟨hd, hhd⟩ : ∃ hd, hdN x = hd := ⟨_, rfl⟩
  have HHD : Hid (hdN x = hd) := hhd
  rw [hnn, htn, hxx, hhd] at hts
  have hts1 : n ≤ hd + tn := by omega
  have hts2 : hd + tn ≤ n := by omega
  clear hts
  rw [hnn] at hhi hpos RH
  rw [hxx, hhd] at OKK RV hd0
  rw [htn] at VC
  rw [hxx] at HX0 hcls
  clear h ok hw hc hT ht hst hi hlo hi0 hxx hnn htn hhd
  have hz : w.heap.size + 1 ≤ (w.alloc (.cells #[.slice wa wl wc, .int .i64 (yg : Nat), .int .i64 (tp : Nat), .int .i64 (od : Nat), .slice da dl dc] 29)).heap.size := by simp
  have B : Hid (∀ y, Below (w.heap.size + 1) (w.alloc (.cells #[.slice wa wl wc, .int .i64 (yg : Nat), .int .i64 (tp : Nat), .int .i64 (od : Nat), .slice da dl dc] 29)) y → Below w.heap.size w y) := fun y hy => (bR.alloc (by first | exact Nat.le_refl _ | (simp; done) | (simp; omega)) _).trans (hy.mono (by omega))
  have XM : Hid (∀ y, Below (w.heap.size + 1) (w.alloc (.cells #[.slice wa wl wc, .int .i64 (yg : Nat), .int .i64 (tp : Nat), .int .i64 (od : Nat), .slice da dl dc] 29)) y → y.heap[w.heap.size]? = some (.cells #[.slice wa wl wc, .int .i64 (yg : Nat), .int .i64 (tp : Nat), .int .i64 (od : Nat), .slice da dl dc] 29 (0, 0))) := fun y hy => (hy.block _ (by omega)).trans (boxN _ _ _ _ (by simp))
  have lM : w.heap.size < w.heap.size + 1 := by omega
  go_enter Tryz.func60, Tryz.ntmps60
  go_wp2_with fail
  have BP : Hid (Below (w.heap.size + 1) (w.alloc (.cells #[.slice wa wl wc, .int .i64 (yg : Nat), .int .i64 (tp : Nat), .int .i64 (od : Nat), .slice da dl dc] 29)) (w.alloc (.cells #[.slice wa wl wc, .int .i64 (yg : Nat), .int .i64 (tp : Nat), .int .i64 (od : Nat), .slice da dl dc] 29))) := bR
  refine (RH.out _ (B.out _ BP.out)).mono ?_
  rintro e w1 ⟨g, rfl, hgs, hrow, hb⟩
  have RR : Hid (RowAt w1 g n (fun j => .bool (refB t j))) := hrow
  clear hrow hgs
  have hq : Below (w.heap.size + 1) (w.alloc (.cells #[.slice wa wl wc, .int .i64 (yg : Nat), .int .i64 (tp : Nat), .int .i64 (od : Nat), .slice da dl dc] 29)) w1 := BP.out.trans (Below.mono hb (Nat.le_trans hz BP.out.size))
  have hzn : w.heap.size + 1 ≤ w1.heap.size := Nat.le_trans hz hq.size
  replace B := lF B hq hzn
  replace XM := lF XM hq hzn
  replace lM := Nat.lt_of_lt_of_le lM hzn
  clear hq BP hz
  have hz : w1.heap.size ≤ w1.heap.size := Nat.le_refl _
  clear hb
  obtain ⟨b, off, rfl, _, hcs⟩ := (HW.out.later (B.out w1 (Below.refl _ _))).one i (by omega)
  have CW : Hid (∀ j, j < wl → w1.cell? ⟨b, off + j, none⟩ = some (.int .i64 (ws.getD j 0))) := hcs
  have c0 := hcs i (by omega)
  rw [HX0.out] at c0
  clear hcs
  obtain ⟨kM0, kM1, kM2, kM3, kM4⟩ := bk5 (XM.out w1 bR)
  go_wp2_with fail
  refine (headSpec x hcls _).mono ?_
  rintro e wz ⟨rfl, rfl⟩
  rw [HHD.out]
  go_wp2_with fail
  clear c0
  go_loop [10] (fun t10 => ∃ k : Nat, hd ≤ k ∧ k ≤ n ∧ t10 = .int .i64 k ∧ (List.range (k - hd)).all (okK (ws, yg, tp, od, cd) T t) = true) (fun t10 => n - (intOf t10).toNat)
  case atStart => exact ⟨hd, Nat.le_refl _, by omega, rfl, by simp⟩
  case round =>
    obtain ⟨k, hk0, hk, rfl, hall⟩ := hrel
    have HA : Hid ((List.range (k - hd)).all (okK (ws, yg, tp, od, cd) T t) = true) := hall
    clear hall
    by_cases hlt : k < n
    · have c1 := CW.out (i + k) (by omega)
      obtain ⟨v, hv⟩ : ∃ v, ws.getD (i + k) 0 = v := ⟨_, rfl⟩
      rw [hv] at c1
      rw [show off + (i + k) = off + (i + k) from rfl] at c1
      have hvf := FW.out (i + k)
      rw [hv] at hvf
      have r0 : w1.cell? ⟨g, k, none⟩ = some (.bool (refB t k)) := (RR.out k hlt).1
      have hr := RV.out k hk0
      obtain ⟨ty, hty⟩ : ∃ ty, t.2.2.getD (k - hd) 0 = ty := ⟨_, rfl⟩
      rw [hty] at hr
      rw [hr] at r0
      have OV : Hid (okK (ws, yg, tp, od, cd) T t (k - hd) = (mayV T ty v && (!(!(inI ((i : Int) + 1) 1 yg) && (ty != 1 && inI v 1 yg)) || cd.getD ((i + k - yg) / 4) false))) := by
        show _ = _
        rw [OKK.out, hty, show i + hd + (k - hd) = i + k by omega, hv]
      have NX : Hid (okK (ws, yg, tp, od, cd) T t (k - hd) = true → (List.range (k + 1 - hd)).all (okK (ws, yg, tp, od, cd) T t) = true) := fun h => by
        rw [show k + 1 - hd = (k - hd) + 1 by omega, rng_on', HA.out, h]; rfl
      have NO : Hid (okK (ws, yg, tp, od, cd) T t (k - hd) = false → (valB' (ws, yg, tp, od, cd) T t && crdB (ws, yg, tp, od, cd) t) = false) := fun h => by
        rw [VC.out]; exact rng_no' (by omega) h
      clear hv hr hty
      by_cases e1 : ty = 1
      · have en : (ty != 1) = false := by simp [e1]
        rw [en] at r0
        have MV1 : Hid (mayV T ty v = inI v (-128) 127) := if_pos e1
        cases q1 : inI v (-128) 127
        · go_wp2_with fail
          refine (wordSpec _ _ q1 _).mono ?_
          rintro e wz ⟨rfl, rfl⟩
          go_wp2_with fail
          go_ret
          exact ⟨by rw [NO.out (by rw [OV.out]; rw [MV1.out, q1]; rfl)]; rfl, B.out w1 (Below.refl _ _)⟩
        · go_wp2_with fail
          refine (wordSpec _ _ q1 _).mono ?_
          rintro e wz ⟨rfl, rfl⟩
          go_wp2_with fail
          exact ⟨⟨k + 1, by omega, by omega, by go_num, NX.out (by rw [OV.out]; rw [MV1.out, q1, en]; simp)⟩, by simp [intOf]; omega⟩
      · have en : (ty != 1) = true := by simp [e1]
        rw [en] at r0
        have MV1 : Hid (mayV T ty v = ledV T v) := if_neg e1
        have LE : Hid ((v == 0 || (inI v 1 wl && stB (plN T) (v.toNat - 1))) = ledV T v) := led_eq TS.out v
        cases q1 : ledV T v
        · go_wp2_with fail
          refine (leadSpec sg wl sc (stB (plN T)) v _ (ST.out w1 (B.out w1 (Below.refl _ _))) (by omega) hvf).mono ?_
          rintro e wz ⟨rfl, rfl⟩
          rw [LE.out, q1]
          go_wp2_with fail
          go_ret
          exact ⟨by rw [NO.out (by rw [OV.out]; rw [MV1.out, q1]; rfl)]; rfl, B.out w1 (Below.refl _ _)⟩
        · by_cases e2 : i < yg
          · have eI : inI ((i : Int) + 1) 1 yg = true := inI_iff.2 (by omega)
            go_wp2_with fail
            refine (leadSpec sg wl sc (stB (plN T)) v _ (ST.out w1 (B.out w1 (Below.refl _ _))) (by omega) hvf).mono ?_
            rintro e wz ⟨rfl, rfl⟩
            rw [LE.out, q1]
            go_wp2_with fail
            exact ⟨⟨k + 1, by omega, by omega, by go_num, NX.out (by rw [OV.out]; rw [MV1.out, q1, eI]; simp)⟩, by simp [intOf]; omega⟩
          · have eI : inI ((i : Int) + 1) 1 yg = false := by
              cases hq : inI ((i : Int) + 1) 1 yg
              · rfl
              · have := inI_iff.1 hq; omega
            cases q2 : inI v 1 yg
            · go_wp2_with fail
              refine (leadSpec sg wl sc (stB (plN T)) v _ (ST.out w1 (B.out w1 (Below.refl _ _))) (by omega) hvf).mono ?_
              rintro e wz ⟨rfl, rfl⟩
              rw [LE.out, q1]
              go_wp2_with fail
              refine (inSpec' _ _ _ _ q2 _).mono ?_
              rintro e wz ⟨rfl, rfl⟩
              go_wp2_with fail
              exact ⟨⟨k + 1, by omega, by omega, by go_num, NX.out (by rw [OV.out]; rw [MV1.out, q1, q2]; simp)⟩, by simp [intOf]; omega⟩
            · have hcb : (i + k - yg) / 4 < dl := by omega
              obtain ⟨cb, co, rfl, _, d0⟩ := (HC.out.later (B.out w1 (Below.refl _ _))).tru ((i + k - yg) / 4) hcb
              have hq4 : ((i : Int) + k - yg).tdiv 4 = (((i + k - yg) / 4 : Nat) : Int) := by rw [Int.tdiv_eq_ediv_of_nonneg (by omega)]; omega
              obtain ⟨ci, hci⟩ : ∃ ci, (i + k - yg) / 4 = ci := ⟨_, rfl⟩
              rw [hci] at hcb d0 hq4 OV
              obtain ⟨cv, hcv⟩ : ∃ cv, cd.getD ci false = cv := ⟨_, rfl⟩
              rw [hcv] at d0 OV
              clear hcv hci
              cases cv
              · go_wp2_with fail
                refine (leadSpec sg wl sc (stB (plN T)) v _ (ST.out w1 (B.out w1 (Below.refl _ _))) (by omega) hvf).mono ?_
                rintro e wz ⟨rfl, rfl⟩
                rw [LE.out, q1]
                go_wp2_with fail
                refine (inSpec' _ _ _ _ q2 _).mono ?_
                rintro e wz ⟨rfl, rfl⟩
                go_wp2_with fail
                go_ret
                exact ⟨by rw [NO.out (by rw [OV.out]; rw [MV1.out, q1, eI, en, q2]; rfl)]; rfl, B.out w1 (Below.refl _ _)⟩
              · go_wp2_with fail
                refine (leadSpec sg wl sc (stB (plN T)) v _ (ST.out w1 (B.out w1 (Below.refl _ _))) (by omega) hvf).mono ?_
                rintro e wz ⟨rfl, rfl⟩
                rw [LE.out, q1]
                go_wp2_with fail
                refine (inSpec' _ _ _ _ q2 _).mono ?_
                rintro e wz ⟨rfl, rfl⟩
                go_wp2_with fail
                exact ⟨⟨k + 1, by omega, by omega, by go_num, NX.out (by rw [OV.out]; rw [MV1.out, q1]; simp)⟩, by simp [intOf]; omega⟩
    · have ek : k - hd = tn := by omega
      have FIN : Hid ((valB' (ws, yg, tp, od, cd) T t && crdB (ws, yg, tp, od, cd) t) = true) := by show _ = _; rw [VC.out, ← ek]; exact HA.out
      go_wp2_with fail
      go_ret
      exact ⟨by rw [FIN.out]; rfl, B.out w1 (Below.refl _ _)⟩

end Go.Proofs.YtjbmcdekhhbiaaaGreat
