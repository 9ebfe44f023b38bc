/-
  The specification's small functions on memories: what they say of words; they write nothing that was there.
-/
import Derived.Test.YtjbmcdekhhbiaaaGreatMemM
import Derived.Test.YtjbmcdekhhbiaaaGreatSxB
namespace Go.Proofs.YtjbmcdekhhbiaaaGreat
open Go.ChangeShapes Go.WideShapes Go.ChangeAt Go.RowKit
set_option linter.unusedVariables false

theorem cardsSpec (n : Int) (h0 : -1000000000 ≤ n) (h1 : n ≤ 1000000000000) (w : World) : Calls Tryz.prog 95 #[.int .i64 n] w fun e w' => e = .returned (.int .i64 (crd n)) ∧ w = w' := by
  have HF : Hid (crd n = (n + 3).tdiv 4) := rfl
  go_enter Tryz.func95, Tryz.ntmps95
  go_wp2_with fail
  go_ret
  refine ⟨?_, rfl⟩
  rw [HF.out, show n + 3 = n + 4 - 1 by omega]
  rfl
theorem headSpec (c : Int) (hc : c = -1 ∨ c = -2 ∨ 0 ≤ c) (w : World) : Calls Tryz.prog 79 #[.int .i64 c] w fun e w' => e = .returned (.int .i64 (hdN c)) ∧ w = w' := by
  by_cases h : c < 0
  · have HF : Hid (hdN c = 2) := if_pos (by omega)
    go_enter Tryz.func79, Tryz.ntmps79
    go_wp2_with fail
    go_ret
    exact ⟨by rw [HF.out]; rfl, rfl⟩
  · have HF : Hid (hdN c = 1) := if_neg (by omega)
    go_enter Tryz.func79, Tryz.ntmps79
    go_wp2_with fail
    go_ret
    exact ⟨by rw [HF.out]; rfl, rfl⟩

theorem fldT_cls {L : List Cl} (ok : clsOk L = true) {c : Nat} (hc : c < L.length) : ∀ t ∈ (cl L c).2, fieldB L.length t = true := by
  unfold clsOk at ok
  simp only [Bool.and_eq_true] at ok
  have := List.all_eq_true.1 ok.2 c (List.mem_range.2 hc)
  unfold classB at this
  simp only [Bool.and_eq_true] at this
  exact fun t ht => List.all_eq_true.1 this.1 t ht
theorem fldT_fld {L : List Cl} (ok : clsOk L = true) : ∀ (c : Nat), c < L.length → ∀ t ∈ fld L c, fieldB L.length t = true := by
  intro c
  induction c using Nat.strongRecOn with
  | ind c ih =>
    intro hl t ht
    by_cases h0 : c = 0
    · subst h0; simp [fld_zero] at ht
    · rw [fld_step ok c hl (by omega)] at ht
      rcases List.mem_append.1 ht with h | h
      · have hs := (sup_lt ok c (by omega) hl).1
        exact ih _ hs (by omega) t h
      · exact fldT_cls ok hl t h
theorem fldT_rng {L : List Cl} (ok : clsOk L = true) {c : Nat} (hc : c < L.length) : ∀ t ∈ fld L c, 1 ≤ t ∧ t ≤ 12 := fun t ht => by
  have h := fldT_fld ok c hc t ht
  have h2 := ok_len ok
  unfold fieldB at h
  simp at h
  omega
theorem fldT_fits {L : List Cl} (ok : clsOk L = true) {c : Nat} (hc : c < L.length) : ∀ j, -9223372036854775808 ≤ (fld L c).getD j 0 ∧ (fld L c).getD j 0 ≤ 9223372036854775807 := fits_lit fun t ht => by
  have := fldT_rng ok hc t ht
  omega
theorem typ_rng {L : List Cl} (ok : clsOk L = true) {x n : Int} (h : isT L x n = true) : ∀ t ∈ typ L x n, 1 ≤ t ∧ t ≤ 12 := fun t ht => by
  unfold typ at ht
  unfold isT at h
  by_cases h1 : x = -1
  · rw [if_pos h1] at ht; obtain ⟨_, rfl⟩ := List.mem_replicate.1 ht; omega
  · rw [if_neg h1] at ht
    by_cases h2 : x = -2
    · rw [if_pos h2] at ht; obtain ⟨_, rfl⟩ := List.mem_replicate.1 ht; omega
    · rw [if_neg h2] at ht
      have hn : ¬ (x = -1 ∨ x = -2) := by omega
      rw [if_neg hn, inI_iff] at h
      exact fldT_rng ok (by omega) t ht
theorem typ_len {L : List Cl} (ok : clsOk L = true) {x n : Int} (h : isT L x n = true) : (typ L x n).length ≤ 10 := by
  unfold typ
  unfold isT at h
  by_cases h1 : x = -1
  · rw [if_pos (Or.inl h1), inI_iff] at h; rw [if_pos h1, List.length_replicate]; omega
  · rw [if_neg h1]
    by_cases h2 : x = -2
    · rw [if_pos (Or.inr h2), inI_iff] at h; rw [if_pos h2, List.length_replicate]; omega
    · rw [if_neg h2]
      have hn : ¬ (x = -1 ∨ x = -2) := by omega
      rw [if_neg hn, inI_iff] at h
      have := fld_short ok x.toNat (by omega)
      have := ok_len ok
      omega

theorem seg_len {ws : List Int} {i e : Nat} (he : e ≤ ws.length) : ((ws.take e).drop i).length = e - i := by
  rw [List.length_drop, List.length_take]; omega
theorem seg_at {ws : List Int} {i e j : Nat} (h : i + j < e) : ((ws.take e).drop i).getD j 0 = ws.getD (i + j) 0 := by
  rw [getD_drop, getD_take h]
theorem seg_over {ws : List Int} {i e j : Nat} (he : e ≤ ws.length) (h : e ≤ i + j) : ((ws.take e).drop i).getD j 0 = 0 := by
  rw [List.getD_eq_getElem?_getD, List.getElem?_eq_none (by rw [seg_len he]; omega)]; rfl
theorem tsz_out {L : List Cl} {ws : List Int} {i e : Nat} (he : e ≤ ws.length) (h : e ≤ i) : tsz L ((ws.take e).drop i) = 0 := by
  unfold tsz; rw [if_pos (by rw [seg_len he]; omega)]
theorem tsz_cls {L : List Cl} {ws : List Int} {i e : Nat} {x : Int} (he : e ≤ ws.length) (h : i < e) (hx : ws.getD i 0 = x) (hc : 0 ≤ x ∧ x ≤ (L.length : Int) - 1) :
    tsz L ((ws.take e).drop i) = if i + (1 + (fld L x.toNat).length) ≤ e then 1 + (fld L x.toNat).length else 0 := by
  have h0 : ((ws.take e).drop i).getD 0 0 = x := by rw [seg_at (by omega)]; exact hx
  have hn : ¬ (x = -1 ∨ x = -2) := by omega
  have k1 : ∀ n, isT L x n = true := fun n => by unfold isT; rw [if_neg hn]; exact inI_iff.2 hc
  have k2 : ∀ n, typ L x n = fld L x.toNat := fun n => by unfold typ; rw [if_neg (by omega), if_neg (by omega)]
  have k3 : hdN x = 1 := if_neg hn
  unfold tsz
  rw [seg_len he, h0, if_neg (by omega), k1, k2, k3, if_pos rfl]
  by_cases h2 : i + (1 + (fld L x.toNat).length) ≤ e
  · rw [if_pos h2, if_pos (by omega)]
  · rw [if_neg h2, if_neg (by omega)]
theorem tsz_arr {L : List Cl} {ws : List Int} {i e : Nat} {x y : Int} (he : e ≤ ws.length) (h : i + 1 < e) (hx : ws.getD i 0 = x) (hy : ws.getD (i + 1) 0 = y) (hc : x = -1 ∨ x = -2) :
    tsz L ((ws.take e).drop i) = if inI y 0 6 = true then (if i + (2 + y.toNat) ≤ e then 2 + y.toNat else 0) else 0 := by
  have h0 : ((ws.take e).drop i).getD 0 0 = x := by rw [seg_at (by omega)]; exact hx
  have h1 : ((ws.take e).drop i).getD 1 0 = y := by rw [seg_at h]; exact hy
  have hl : (typ L x y).length = y.toNat := by
    unfold typ
    split
    · exact List.length_replicate
    · split
      · exact List.length_replicate
      · omega
  have k1 : isT L x y = inI y 0 6 := if_pos hc
  have k3 : hdN x = 2 := if_pos hc
  unfold tsz
  rw [seg_len he, h0, h1, if_neg (by omega), hl, k1, k3]
  by_cases h2 : i + (2 + y.toNat) ≤ e
  · rw [if_pos h2, if_pos (show 2 + y.toNat ≤ e - i by omega)]
  · rw [if_neg h2, if_neg (show ¬ 2 + y.toNat ≤ e - i by omega)]
theorem tsz_arr1 {L : List Cl} {ws : List Int} {i e : Nat} {x : Int} (he : e ≤ ws.length) (h : i < e) (h1 : e ≤ i + 1) (hx : ws.getD i 0 = x) (hc : x = -1 ∨ x = -2) : tsz L ((ws.take e).drop i) = 0 := by
  have h0 : ((ws.take e).drop i).getD 0 0 = x := by rw [seg_at (by omega)]; exact hx
  unfold tsz
  rw [seg_len he, h0, if_neg (by omega)]
  split
  · rw [if_neg]
    have : hdN x = 2 := if_pos hc
    omega
  · rfl
theorem tsz_none {L : List Cl} {ws : List Int} {i e : Nat} {x : Int} (he : e ≤ ws.length) (h : i < e) (hx : ws.getD i 0 = x) (hc : ¬ (0 ≤ x ∧ x ≤ (L.length : Int) - 1)) (h1 : x ≠ -1) (h2 : x ≠ -2) : tsz L ((ws.take e).drop i) = 0 := by
  have h0 : ((ws.take e).drop i).getD 0 0 = x := by rw [seg_at (by omega)]; exact hx
  unfold tsz
  rw [h0]
  split
  · rfl
  · rw [if_neg]
    have hn : ¬ (x = -1 ∨ x = -2) := by omega
    unfold isT
    rw [if_neg hn, inI_iff]
    exact hc

theorem IntsAt.one {D : Nat → Prop} {w : World} {a : Option Addr} {len : Nat} {xs : List Int} (h : IntsAt D w a len xs) (i : Nat) (hi : i < len) : ∃ b off, a = some ⟨b, off, none⟩ ∧ D b ∧ ∀ j, j < len → w.cell? ⟨b, off + j, none⟩ = some (.int .i64 (xs.getD j 0)) := by
  rcases h.cells with h0 | ⟨b, off, ha, hd, hc⟩
  · omega
  · exact ⟨b, off, ha, hd, hc⟩

set_option maxHeartbeats 4000000 in
theorem sizeSpec (ca : Option Addr) (cn cc : Nat) (wa : Option Addr) (wl wc : Nat) (i e : Nat) (ws : List Int) (L : List Cl) (w : World) {D E G : Nat → Prop} (h : ClsAt D E w ca cn L) (ok : clsOk L = true) (hw : IntsAt G w wa wl ws) (he : e ≤ wl) (hi : i ≤ 2000) (hl : wl ≤ 1000) :
    Calls Tryz.prog 80 #[.slice ca cn cc, .slice wa wl wc, .int .i64 i, .int .i64 e] w fun r w' => r = .returned (.int .i64 (tsz L ((ws.take e).drop i))) ∧ Below w.heap.size w w' := by
  have H : Hid (ClsAt D E w ca cn L) := h
  have OK : Hid (clsOk L = true) := ok
  have CN : Hid (L.length = cn) := h.size
  have hl5 := (ok_len ok).2
  rw [h.size] at hl5
  have WS : Hid (ws.length = wl) := hw.size
  have hfit := hw.fits
  by_cases hie : e ≤ i
  · have HF : Hid (tsz L ((ws.take e).drop i) = 0) := tsz_out (by rw [WS.out]; exact he) hie
    clear h hw ok
    go_enter Tryz.func80, Tryz.ntmps80
    go_wp2_with fail
    go_ret
    exact ⟨by rw [HF.out]; rfl, Below.refl _ _⟩
  obtain ⟨b, off, rfl, _, hcs⟩ := hw.one i (by omega)
  obtain ⟨x, hx⟩ : ∃ x, ws.getD i 0 = x := ⟨_, rfl⟩
  have c0 := hcs i (by omega)
  rw [hx] at c0
  have HX : Hid (ws.getD i 0 = x) := hx
  have hxf := hfit i
  rw [hx] at hxf
  have hb := World.block_lt_of_cell? w _ c0
  simp only at hb
  by_cases hc : 0 ≤ x ∧ x ≤ (cn : Int) - 1
  · obtain ⟨k, rfl⟩ : ∃ k : Nat, x = k := ⟨x.toNat, by omega⟩
    have hin : inI (k : Int) 0 ((cn : Int) - 1) = true := inI_iff.2 hc
    have HF : Hid (tsz L ((ws.take e).drop i) = if i + (1 + (fld L k).length) ≤ e then 1 + (fld L k).length else 0) := by
      show _ = _
      rw [tsz_cls (by rw [WS.out]; exact he) (by omega) HX.out (by rw [CN.out]; exact hc), Int.toNat_natCast]
    have hfs := fld_short ok k (by rw [CN.out]; omega)
    have hkc : k < cn := by omega
    clear h hw ok hcs hx hfit
    go_enter Tryz.func80, Tryz.ntmps80
    go_wp2_with fail
    refine (inSpec' _ _ _ _ hin _).mono ?_
    rintro r w' ⟨rfl, rfl⟩
    go_wp2_with fail
    refine (l2FieldsSpec _ _ _ L OK.out CN.out k _ hkc H.out).mono ?_
    rintro r w1 ⟨v, rfl, hn⟩
    obtain ⟨fa, fc, rfl⟩ := own_sl hn.1
    have HB : Hid (Below w.heap.size w w1) := hn.2
    clear hn
    generalize (fld L k).length = n at HF hfs
    by_cases hgt : i + (1 + n) ≤ e
    · go_wp2_with fail
      go_ret
      exact ⟨by rw [HF.out, if_pos hgt]; congr 3, HB.out⟩
    · go_wp2_with fail
      go_ret
      exact ⟨by rw [HF.out, if_neg hgt]; rfl, HB.out⟩
  have hin : inI x 0 ((cn : Int) - 1) = false := by
    cases hq : inI x 0 ((cn : Int) - 1)
    · rfl
    · exact absurd (inI_iff.1 hq) hc
  by_cases ha : x = -1 ∨ x = -2
  · have e1 : ((x == -1) || (x == -2)) = true := by rcases ha with rfl | rfl <;> rfl
    by_cases h1 : e ≤ i + 1
    · have HF : Hid (tsz L ((ws.take e).drop i) = 0) := tsz_arr1 (by rw [WS.out]; exact he) (by omega) h1 HX.out ha
      clear h hw ok hcs hx hfit
      rcases ha with rfl | rfl
      all_goals
        go_enter Tryz.func80, Tryz.ntmps80
        go_wp2_with fail
        refine (inSpec' _ _ _ _ hin _).mono ?_
        rintro r w' ⟨rfl, rfl⟩
        go_wp2_with fail
        go_ret
        exact ⟨by rw [HF.out]; rfl, Below.refl _ _⟩
    · obtain ⟨y, hy⟩ : ∃ y, ws.getD (i + 1) 0 = y := ⟨_, rfl⟩
      have c1 := hcs (i + 1) (by omega)
      rw [hy] at c1
      have hyf := hfit (i + 1)
      rw [hy] at hyf
      have HF : Hid (tsz L ((ws.take e).drop i) = if inI y 0 6 = true then (if i + (2 + y.toNat) ≤ e then 2 + y.toNat else 0) else 0) := tsz_arr (by rw [WS.out]; exact he) (by omega) HX.out hy ha
      clear h hw ok hcs hx hfit hy
      cases hq : inI y 0 6
      · rcases ha with rfl | rfl
        all_goals
          go_enter Tryz.func80, Tryz.ntmps80
          go_wp2_with fail
          refine (inSpec' _ _ _ _ hin _).mono ?_
          rintro r w' ⟨rfl, rfl⟩
          go_wp2_with fail
          refine (inSpec' _ _ _ _ hq _).mono ?_
          rintro r w' ⟨rfl, rfl⟩
          go_wp2_with fail
          go_ret
          exact ⟨by rw [HF.out, hq]; rfl, Below.refl _ _⟩
      · obtain ⟨m, rfl⟩ : ∃ m : Nat, y = m := ⟨y.toNat, by have := (inI_iff.1 hq).1; omega⟩
        have hm6 : m ≤ 6 := by have := (inI_iff.1 hq).2; omega
        rw [hq, if_pos rfl, Int.toNat_natCast] at HF
        by_cases hgt : i + (2 + m) ≤ e
        · rcases ha with rfl | rfl
          all_goals
            go_enter Tryz.func80, Tryz.ntmps80
            go_wp2_with fail
            refine (inSpec' _ _ _ _ hin _).mono ?_
            rintro r w' ⟨rfl, rfl⟩
            go_wp2_with fail
            refine (inSpec' _ _ _ _ hq _).mono ?_
            rintro r w' ⟨rfl, rfl⟩
            go_wp2_with fail
            go_ret
            exact ⟨by rw [HF.out, if_pos hgt]; congr 3, Below.refl _ _⟩
        · rcases ha with rfl | rfl
          all_goals
            go_enter Tryz.func80, Tryz.ntmps80
            go_wp2_with fail
            refine (inSpec' _ _ _ _ hin _).mono ?_
            rintro r w' ⟨rfl, rfl⟩
            go_wp2_with fail
            refine (inSpec' _ _ _ _ hq _).mono ?_
            rintro r w' ⟨rfl, rfl⟩
            go_wp2_with fail
            go_ret
            exact ⟨by rw [HF.out, if_neg hgt]; rfl, Below.refl _ _⟩
  · have e1 : (x == -1) = false := by simp; omega
    have e2 : (x == -2) = false := by simp; omega
    have HF : Hid (tsz L ((ws.take e).drop i) = 0) := tsz_none (by rw [WS.out]; exact he) (by omega) HX.out (by rw [CN.out]; exact hc) (by omega) (by omega)
    clear h hw ok hcs hx hfit
    go_enter Tryz.func80, Tryz.ntmps80
    go_wp2_with fail
    refine (inSpec' _ _ _ _ hin _).mono ?_
    rintro r w' ⟨rfl, rfl⟩
    go_wp2_with fail
    go_ret
    exact ⟨by rw [HF.out]; rfl, Below.refl _ _⟩

end Go.Proofs.YtjbmcdekhhbiaaaGreat
