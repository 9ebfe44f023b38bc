/-
  Which words of a thing lead: the specification's list of truths; it writes nothing that was there.
-/
import Derived.Test.YtjbmcdekhhbiaaaGreatMemSc
namespace Go.Proofs.YtjbmcdekhhbiaaaGreat
open Go.ChangeShapes Go.WideShapes Go.ChangeAt Go.RowKit
set_option linter.unusedVariables false

/-- Whether the word at a place of a thing leads. -/
def refB (t : Th) (j : Nat) : Bool := decide (hdN t.2.1 ≤ j) && (t.2.2.getD (j - hdN t.2.1) 0 != 1)
theorem refB_low {t : Th} {j : Nat} (h : j < hdN t.2.1) : refB t j = false := by unfold refB; rw [decide_eq_false (by omega)]; rfl
theorem refB_at {t : Th} {j : Nat} (h : hdN t.2.1 ≤ j) : refB t j = (t.2.2.getD (j - hdN t.2.1) 0 != 1) := by unfold refB; rw [decide_eq_true h]; rfl

set_option maxHeartbeats 8000000 in
theorem refsSpec (ca : Option Addr) (cn cc : Nat) (wa : Option Addr) (wl wc : Nat) (i : Nat) (t : Th) (ws : List Int) (L : List Cl) (w : World) {D E G : Nat → Prop} (h : ClsAt D E w ca cn L) (ok : clsOk L = true) (hw : IntsAt G w wa wl ws) (hi : i + tSz t ≤ wl) (hl : wl ≤ 1000) (hx : ws.getD i 0 = t.2.1) (hT : isT L t.2.1 (ws.getD (i + 1) 0) = true) (hty : t.2.2 = typ L t.2.1 (ws.getD (i + 1) 0)) (hsz : tsz L (ws.drop i) = tSz t) :
    Calls Tryz.prog 45 #[.slice ca cn cc, .slice wa wl wc, .int .i64 i] w fun e w' => ∃ g, e = .returned (.slice (some ⟨g, 0, none⟩) (tSz t) (tSz t)) ∧ w.heap.size ≤ g ∧ RowAt w' g (tSz t) (fun j => .bool (refB t j)) ∧ Below w.heap.size w w' := by
  have hp := tSz_pos t
  have H : Hid (ClsAt D E w ca cn L) := h
  have OK : Hid (clsOk L = true) := ok
  have CN : Hid (L.length = cn) := h.size
  have hl5 := (ok_len ok).2
  rw [h.size] at hl5
  have HW : Hid (IntsAt G w wa wl ws) := hw
  have WS : Hid (ws.length = wl) := hw.size
  have SZ : Hid (tsz L ((ws.take wl).drop i) = tSz t) := by show _ = _; rw [List.take_of_length_le (by rw [WS.out]; exact Nat.le_refl _)]; exact hsz
  obtain ⟨at0, x, ty⟩ := t
  obtain ⟨n, hn⟩ : ∃ n, tSz (at0, x, ty) = n := ⟨_, rfl⟩
  rw [hn] at hi hp SZ ⊢
  have hnl : hdN x + ty.length = n := hn
  simp only at hx hT hty
  have hx3 : x = -1 ∨ x = -2 ∨ (0 ≤ x ∧ x ≤ (cn : Int) - 1) := by
    unfold isT at hT
    by_cases h1 : x = -1 ∨ x = -2
    · omega
    · rw [if_neg h1, inI_iff, CN.out] at hT; omega
  have hh : x = -1 ∨ x = -2 ∨ 0 ≤ x := by omega
  obtain ⟨b, off, rfl, _, hcs⟩ := hw.one i (by omega)
  have c0 := hcs i (by omega)
  rw [hx] at c0
  have hb := World.block_lt_of_cell? w _ c0
  simp only at hb
  have hmk := fun wx => run_make_row' (P := Tryz.prog) 24 4 (.bool false) 1 Tryz.underlying24 info_boo2 rfl .i64 .i64 n (by omega) (by omega) wx
  have HD : Hid (1 ≤ hdN x ∧ hdN x ≤ 2) := hdN_pos x
  have hdn : hdN x ≤ n := by omega
  -- which value each place has
  have VAL : Hid (x = -1 → ∀ j, hdN x ≤ j → j < n → refB (at0, x, ty) j = false) := fun e j h1 h2 => by
    rw [refB_at (t := (at0, x, ty)) h1, hty]
    unfold typ
    rw [if_pos e]
    rw [hty] at hnl
    unfold typ at hnl
    rw [if_pos e, List.length_replicate] at hnl
    rw [List.getD_eq_getElem?_getD, List.getElem?_replicate, if_pos (show j - hdN x < _ by omega)]
    rfl
  have VAL2 : Hid (x = -2 → ∀ j, hdN x ≤ j → j < n → refB (at0, x, ty) j = true) := fun e j h1 h2 => by
    rw [refB_at (t := (at0, x, ty)) h1, hty]
    unfold typ
    rw [if_neg (by omega), if_pos e]
    rw [hty] at hnl
    unfold typ at hnl
    rw [if_neg (by omega), if_pos e, List.length_replicate] at hnl
    rw [List.getD_eq_getElem?_getD, List.getElem?_replicate, if_pos (show j - hdN x < _ by omega)]
    rfl
  have VAL3 : Hid (∀ k : Nat, x = k → hdN x = 1 ∧ ty = fld L k) := fun k e => by
    refine ⟨if_neg (by omega), ?_⟩
    rw [hty]; unfold typ; rw [if_neg (by omega), if_neg (by omega), e, Int.toNat_natCast]
  have HNL : Hid (hdN x + ty.length = n) := hnl
  have hxl : -9223372036854775808 ≤ x ∧ x ≤ 9223372036854775807 := by omega
  clear h hw ok hcs hx hT hty hsz hn hnl
  go_enter Tryz.func45, Tryz.ntmps45
  go_wp2_with fail
  refine (sizeSpec _ _ _ _ _ _ i wl ws L _ H.out OK.out HW.out (Nat.le_refl _) (by omega) hl).mono ?_
  rintro r w1 ⟨rfl, hb1⟩
  rw [SZ.out]
  have B1 : Hid (Below w.heap.size w w1) := hb1
  have c1 : w1.cell? ⟨b, off + i, none⟩ = some (.int .i64 x) := (hb1.cell (p := ⟨b, off + i, none⟩) hb).trans c0
  clear hb1
  have MK : Hid (RowAt (w1.alloc (.cells (madeCells #[.bool false] n) 4)) w1.heap.size n (fun j => .bool (if j < hdN x then refB (at0, x, ty) j else false))) := (RowAt.made w1 #[.bool false] n 4).congr fun j _ => by
    by_cases e : j < hdN x
    · rw [if_pos e, refB_low (t := (at0, x, ty)) e]; simp [Nat.mod_one]
    · rw [if_neg e]; simp [Nat.mod_one]
  have hs1 := B1.out.size
  have hbl : b < w1.heap.size := by omega
  have BA : Hid (Below w.heap.size w (w1.alloc (.cells (madeCells #[.bool false] n) 4))) := B1.out.trans ((Below.refl _ _).alloc (by omega) _)
  go_wp2_with fail
  refine (headSpec x hh _).mono ?_
  rintro r w2 ⟨rfl, rfl⟩
  have hd1 := HD.out.1
  have hd2 := HD.out.2
  go_wp2_with fail
  go_loopw [9] (fun t wr => ∃ k : Nat, hdN x ≤ k ∧ k ≤ n ∧ t = .int .i64 k ∧ RowAt wr w1.heap.size n (fun j => .bool (if j < k then refB (at0, x, ty) j else false)) ∧ Below w.heap.size w wr ∧ w1.heap.size < wr.heap.size) (fun t _ => n - (intOf t).toNat)
  case atStart => exact ⟨hdN x, Nat.le_refl _, hdn, rfl, MK.out, BA.out, by simp⟩
  case round =>
    obtain ⟨k, hk0, hk, rfl, hrow, hbb, hss⟩ := hrel
    have HR : Hid (RowAt wr w1.heap.size n (fun j => .bool (if j < k then refB (at0, x, ty) j else false))) := hrow
    have HB : Hid (Below w.heap.size w wr) := hbb
    clear hrow hbb
    by_cases hlt : k < n
    · have NX : Hid (∀ wq q, Below wr.heap.size wr wq → refB (at0, x, ty) k = q → RowAt (wq.setCell ⟨w1.heap.size, k, none⟩ (.bool q)) w1.heap.size n (fun j => .bool (if j < k + 1 then refB (at0, x, ty) j else false))) := fun wq q hq e => by
        refine ((HR.out.later hq).set k (.bool q)).congr fun j _ => ?_
        by_cases e1 : j = k
        · subst e1; simp [e]
        · by_cases e2 : j < k
          · rw [if_neg e1, if_pos e2, if_pos (by omega)]
          · rw [if_neg e1, if_neg e2, if_neg (by omega)]
      have hg := (HR.out k hlt).1
      have hf := (HR.out k hlt).2
      simp only [Nat.lt_irrefl, if_false] at hg
      rcases hx3 with rfl | rfl | hx3
      · have V := NX.out wr false (Below.refl _ _) (VAL.out rfl k hk0 hlt)
        have VV : Hid (RowAt (wr.setCell ⟨w1.heap.size, k, none⟩ (.bool false)) w1.heap.size n (fun j => .bool (if j < k + 1 then refB (at0, -1, ty) j else false))) := V
        clear V
        go_wp2_with fail
        exact ⟨⟨k + 1, by omega, by omega, by go_num, VV.out, HB.out.setCell (by omega) _, by simp; omega⟩, by simp [intOf]; omega⟩
      · have V := NX.out wr true (Below.refl _ _) (VAL2.out rfl k hk0 hlt)
        have VV : Hid (RowAt (wr.setCell ⟨w1.heap.size, k, none⟩ (.bool true)) w1.heap.size n (fun j => .bool (if j < k + 1 then refB (at0, -2, ty) j else false))) := V
        clear V
        go_wp2_with fail
        exact ⟨⟨k + 1, by omega, by omega, by go_num, VV.out, HB.out.setCell (by omega) _, by simp; omega⟩, by simp [intOf]; omega⟩
      · obtain ⟨c, rfl⟩ : ∃ c : Nat, x = c := ⟨x.toNat, by omega⟩
        obtain ⟨hd, hty⟩ := VAL3.out c rfl
        have hcn : c < cn := by omega
        have e0 : ((c : Int) == -2) = false := by simp
        have hnl := HNL.out
        rw [hd] at hnl
        go_wp2_with fail
        refine (l2FieldsSpec _ _ _ L OK.out CN.out c _ hcn (H.out.later HB.out)).mono ?_
        rintro r w2 ⟨v, rfl, hnn⟩
        obtain ⟨fa, fc, rfl⟩ := own_sl hnn.1
        have hb2 : Below wr.heap.size wr w2 := hnn.2
        have BW : Hid (Below w.heap.size w w2) := HB.out.trans (hb2.mono HB.out.size)
        have HI := (own_at hnn.1 (by have := fld_short OK.out c (by rw [CN.out]; exact hcn); omega) (fldT_fits OK.out (by rw [CN.out]; exact hcn))).1
        obtain ⟨fb, fo, rfl, _, hcf⟩ := HI.one (k - 1) (by rw [← hty]; omega)
        have d0 := hcf (k - 1) (by rw [← hty]; omega)
        obtain ⟨y, hy⟩ : ∃ y, (fld L c).getD (k - 1) 0 = y := ⟨_, rfl⟩
        rw [hy] at d0
        have V := NX.out w2 (y != 1) hb2 (by rw [refB_at (t := (at0, (c : Int), ty)) hk0]; show (ty.getD (k - hdN (c : Int)) 0 != 1) = _; rw [hd, hty, hy])
        have VV : Hid (RowAt (w2.setCell ⟨w1.heap.size, k, none⟩ (.bool (y != 1))) w1.heap.size n (fun j => .bool (if j < k + 1 then refB (at0, (c : Int), ty) j else false))) := V
        have hg2 : w2.cell? ⟨w1.heap.size, k, none⟩ = _ := (hb2.cell (p := ⟨w1.heap.size, k, none⟩) hss).trans hg
        have hf2 : w2.frozen? ⟨w1.heap.size, k, none⟩ = false := (hb2.frozen (p := ⟨w1.heap.size, k, none⟩) hss).trans hf
        have hss2 : w1.heap.size < w2.heap.size := Nat.lt_of_lt_of_le hss hb2.size
        have hfl : k - 1 < (fld L c).length := by rw [← hty]; omega
        generalize (fld L c).length = fl at *
        have hk1 : 1 ≤ k := by omega
        obtain ⟨k1, rfl⟩ : ∃ k1, k = k1 + 1 := ⟨k - 1, by omega⟩
        have ek : k1 + 1 - 1 = k1 := rfl
        rw [ek] at d0 hfl
        clear V HI hcf hnn hb2 hy hg hf NX hd hnl hty
        go_wp2_with fail
        exact ⟨⟨k1 + 1 + 1, by omega, by omega, by go_num, VV.out, BW.out.setCell (by omega) _, by simp; omega⟩, by simp [intOf]; omega⟩
    · have ek : k = n := by omega
      subst ek
      go_wp2_with fail
      go_ret
      exact ⟨_, rfl, hs1, HR.out.congr fun j hj => by rw [if_pos hj], HB.out⟩

end Go.Proofs.YtjbmcdekhhbiaaaGreat
