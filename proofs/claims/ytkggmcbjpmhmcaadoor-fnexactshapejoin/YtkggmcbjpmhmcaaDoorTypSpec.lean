/-
  The specification's ClassUp, ClassJoin, TypeOk, TypeIn and TypeJoin give what is said of the list of classes, in whatever memory; they write nothing that was there.
-/
import Derived.Test.YtkggmcbjpmhmcaaDoorClsSpec
namespace Go.Proofs.YtkggmcbjpmhmcaaDoor
open Go.ChangeShapes Go.WideShapes Go.ChangeAt Go.RowKit

theorem isB_nat {L : List Cl} {c : Int} (h : isB L c = true) : ∃ k : Nat, c = k ∧ k < L.length ∧ clsOk L = true := by
  unfold isB at h
  simp at h
  have := ok_len h.1
  exact ⟨c.toNat, by omega, by omega, h.1⟩

theorem joinSpec (a : Option Addr) (len cap x y : Nat) (L : List Cl) (w : World) {D E : Nat → Prop} (h : ClsAt D E w a len L) (ok : clsOk L = true) (hx : x < len) (hy : y < len) :
    Calls Tryd.prog 61 #[.slice a len cap, .int .i64 x, .int .i64 y] w fun e w' => e = .returned (.int .i64 (join L x y)) ∧ w = w' := by
  obtain ⟨b, off, rfl, hc⟩ : ∃ b off, a = some ⟨b, off, none⟩ ∧ ∀ i, i < len → w.cell? ⟨b, off + i * 2, none⟩ = some (.int .i64 (cl L i).1) := by
    rcases h.cells with h0 | ⟨b, off, ha, _, hc⟩
    · omega
    · exact ⟨b, off, ha, fun i hi => (hc i hi).1⟩
  have hr := h.room
  have Ok : Hid (clsOk L = true) := ok
  have HL : Hid (L.length = len) := h.size
  have H : Hid (ClsAt D E w (some ⟨b, off, none⟩) len L) := h
  clear h ok
  go_enter Tryd.func61, Tryd.ntmps61
  go_wp2_with fail
  go_loop [1] (fun t => ∃ m : Nat, m < len ∧ t = .int .i64 m ∧ join L m y = join L x y) (fun t => (intOf t).toNat)
  case atStart => exact ⟨x, hx, rfl, rfl⟩
  case round =>
    obtain ⟨m, hm, rfl, hu⟩ := hrel
    have Hu : Hid (join L m y = join L x y) := hu
    clear hu
    cases hlt : up L y m
    · obtain ⟨h1, h2⟩ := join_step Ok.out m y (by rw [HL.out]; exact hm) (by rw [HL.out]; exact hy) hlt
      have hs := sup_lt Ok.out m h1 (by rw [HL.out]; exact hm)
      have hs1 := hs.1
      have Hs : Hid ((cl L m).1 = (sup L m : Nat)) := hs.2
      have Us : Hid (join L m y = join L (sup L m) y) := h2
      clear hs h2
      go_wp2_with (go_at_call 73; refine (upSpec _ _ _ y m L _ H.out Ok.out hy).mono ?_; rintro e w3 ⟨rfl, rfl⟩; rw [hlt])
      rw [Hs.out]
      exact ⟨⟨sup L m, by omega, rfl, by rw [← Us.out]; exact Hu.out⟩, by simp [intOf]; omega⟩
    · have Us : Hid (join L m y = m) := join_stop L m y hlt
      go_wp2_with (go_at_call 73; refine (upSpec _ _ _ y m L _ H.out Ok.out hy).mono ?_; rintro e w3 ⟨rfl, rfl⟩; rw [hlt])
      go_ret
      exact ⟨by rw [← Hu.out, Us.out]; rfl, rfl⟩

theorem typeOkSpec (a : Option Addr) (len cap : Nat) (t : Int) (L : List Cl) (w : World) {D E : Nat → Prop} (h : ClsAt D E w a len L) :
    Calls Tryd.prog 58 #[.slice a len cap, .int .i64 t] w fun e w' => e = .returned (.bool (tyB L t)) ∧ Below w.heap.size w w' := by
  have hl5 : Hid (clsOk L = true → len ≤ 1000000000000000) := fun ok => by have := ok_len ok; rw [h.size] at this; omega
  have HF : Hid (tyB L t = (clsOk L && (t == 0 || (t == 2 || fieldB len t)))) := by show _ = _; rw [tyB, h.size]
  have H : Hid (ClsAt D E w a len L) := h
  clear h
  cases hx : clsOk L
  · go_enter Tryd.func58, Tryd.ntmps58
    go_wp2_with fail
    refine (okSpec _ _ _ L _ H.out).mono ?_
    rintro e w1 ⟨rfl, hb1⟩
    rw [hx]
    go_wp2_with fail
    go_ret
    exact ⟨by rw [HF.out, hx]; rfl, hb1⟩
  · cases h0 : (t == 0)
    · cases h2 : (t == 2)
      · go_enter Tryd.func58, Tryd.ntmps58
        go_wp2_with fail
        refine (okSpec _ _ _ L _ H.out).mono ?_
        rintro e w1 ⟨rfl, hb1⟩
        rw [hx]
        go_wp2_with fail
        refine (fieldSpec _ _ _ _ _ (hl5.out hx)).mono ?_
        rintro e w2 ⟨rfl, rfl⟩
        go_wp2_with fail
        go_ret
        exact ⟨by rw [HF.out, hx, h0, h2]; rfl, hb1⟩
      · go_enter Tryd.func58, Tryd.ntmps58
        go_wp2_with fail
        refine (okSpec _ _ _ L _ H.out).mono ?_
        rintro e w1 ⟨rfl, hb1⟩
        rw [hx]
        go_wp2_with fail
        go_ret
        exact ⟨by rw [HF.out, hx, h0, h2]; rfl, hb1⟩
    · go_enter Tryd.func58, Tryd.ntmps58
      go_wp2_with fail
      refine (okSpec _ _ _ L _ H.out).mono ?_
      rintro e w1 ⟨rfl, hb1⟩
      rw [hx]
      go_wp2_with fail
      go_ret
      exact ⟨by rw [HF.out, hx, h0]; rfl, hb1⟩

theorem refSpec (t : Int) (w : World) : Calls Tryd.prog 60 #[.int .i64 t] w fun e w' => e = .returned (.bool (decide (2 ≤ t))) ∧ w = w' := by
  go_enter Tryd.func60, Tryd.ntmps60
  go_wp2
  go_ret
  exact ⟨rfl, rfl⟩

theorem l2InSpec (a : Option Addr) (len cap : Nat) (x y : Int) (L : List Cl) (w : World) {D E : Nat → Prop} (h : ClsAt D E w a len L) (ok : clsOk L = true)
    (x0 : 0 ≤ x) (x1 : x ≤ 8 + len - 1) (y0 : 0 ≤ y) (y1 : y ≤ 8 + len - 1) :
    Calls Tryd.prog 59 #[.slice a len cap, .int .i64 x, .int .i64 y] w fun e w' => e = .returned (.bool (inB L x y)) ∧ w = w' := by
  have hr := h.room
  have OK : Hid (clsOk L = true) := ok
  have H : Hid (ClsAt D E w a len L) := h
  clear h ok
  by_cases hxy : x = y
  · subst hxy
    have HF : Hid (inB L x x = true) := by show _ = _; rw [inB, if_pos (by simp)]
    have e1 : (x == x) = true := by simp
    go_enter Tryd.func59, Tryd.ntmps59
    go_wp2_with fail
    go_ret
    exact ⟨by rw [HF.out]; rfl, rfl⟩
  · have e1 : (x == y) = false := by simp [hxy]
    by_cases hy : y = 0
    · subst hy
      have HF : Hid (inB L x 0 = true) := by show _ = _; rw [inB, if_pos (by simp)]
      go_enter Tryd.func59, Tryd.ntmps59
      go_wp2_with fail
      go_ret
      exact ⟨by rw [HF.out]; rfl, rfl⟩
    · have e2 : (y == 0) = false := by simp [hy]
      by_cases hx2 : x = 2
      · subst hx2
        have HF : Hid (inB L 2 y = decide (2 ≤ y)) := by show _ = _; rw [inB, if_neg (by omega), if_pos rfl]
        go_enter Tryd.func59, Tryd.ntmps59
        go_wp2_with (go_at_call 60; refine (refSpec _ _).mono ?_; rintro e w1 ⟨rfl, rfl⟩)
        go_ret
        exact ⟨by rw [HF.out]; rfl, rfl⟩
      · have e3 : (x == 2) = false := by simp [hx2]
        by_cases hr2 : 2 ≤ x
        · have d2 : decide (2 ≤ x) = true := by simp [hr2]
          by_cases hy8 : y < 8
          · have HF : Hid (inB L x y = false) := by show _ = _; rw [inB, if_neg (by omega), if_neg hx2, if_pos (by omega)]
            go_enter Tryd.func59, Tryd.ntmps59
            go_wp2_with (go_at_call 60; refine (refSpec _ _).mono ?_; rintro e w1 ⟨rfl, rfl⟩; rw [d2])
            go_ret
            exact ⟨by rw [HF.out]; rfl, rfl⟩
          · by_cases hx8 : x < 8
            · have HF : Hid (inB L x y = (y == 8)) := by show _ = _; rw [inB, if_neg (by omega), if_neg hx2, if_neg (by omega), if_pos hx8]
              go_enter Tryd.func59, Tryd.ntmps59
              go_wp2_with (go_at_call 60; refine (refSpec _ _).mono ?_; rintro e w1 ⟨rfl, rfl⟩; rw [d2])
              go_ret
              exact ⟨by rw [HF.out]; rfl, rfl⟩
            · have HF : Hid (inB L x y = up L (x - 8).toNat (y - 8).toNat) := by show _ = _; rw [inB, if_neg (by omega), if_neg hx2, if_neg (by omega), if_neg hx8]
              obtain ⟨m, hm⟩ : ∃ m : Nat, x - 8 = m := ⟨(x - 8).toNat, by omega⟩
              obtain ⟨k, hk⟩ : ∃ k : Nat, y - 8 = k := ⟨(y - 8).toNat, by omega⟩
              have HM : Hid (x - 8 = m) := hm
              have HK : Hid (y - 8 = k) := hk
              have hml : m < len := by omega
              clear hm hk
              go_enter Tryd.func59, Tryd.ntmps59
              go_wp2_with (first | (go_at_call 60; refine (refSpec _ _).mono ?_; rintro e w1 ⟨rfl, rfl⟩; rw [d2]) | (go_at_call 73; rw [HM.out, HK.out]; refine (upSpec _ _ _ m k L _ H.out OK.out hml).mono ?_; rintro e w1 ⟨rfl, rfl⟩))
              go_ret
              exact ⟨by rw [HF.out, HM.out, HK.out]; rfl, rfl⟩
        · have d2 : decide (2 ≤ x) = false := by simp [hr2]
          have HF : Hid (inB L x y = false) := by show _ = _; rw [inB, if_neg (by omega), if_neg hx2, if_pos (by omega)]
          go_enter Tryd.func59, Tryd.ntmps59
          go_wp2_with (go_at_call 60; refine (refSpec _ _).mono ?_; rintro e w1 ⟨rfl, rfl⟩; rw [d2])
          go_ret
          exact ⟨by rw [HF.out]; rfl, rfl⟩

theorem meetsSpec (a : Option Addr) (len cap : Nat) (x y : Int) (L : List Cl) (w : World) {D E : Nat → Prop} (h : ClsAt D E w a len L) (ok : clsOk L = true)
    (x0 : 0 ≤ x) (x1 : x ≤ 8 + len - 1) (y0 : 0 ≤ y) (y1 : y ≤ 8 + len - 1) :
    Calls Tryd.prog 49 #[.slice a len cap, .int .i64 x, .int .i64 y] w fun e w' => e = .returned (.int .i64 (meetV L x y)) ∧ w = w' := by
  have hr := h.room
  have HS : Hid (L.length = len) := h.size
  have OK : Hid (clsOk L = true) := ok
  have hl5 := (ok_len ok).2
  rw [HS.out] at hl5
  have H : Hid (ClsAt D E w a len L) := h
  clear h ok
  cases h1 : inB L x y
  · cases h2 : inB L y x
    · by_cases hx : x < 2
      · have d2 : decide (2 ≤ x) = false := by simp; omega
        have HF : Hid (meetV L x y = 0) := by show _ = _; rw [meetV, h1, h2, if_neg (by simp), if_neg (by simp), if_pos (by omega)]
        go_enter Tryd.func49, Tryd.ntmps49
        go_wp2_with fail
        refine (l2InSpec _ _ _ _ _ L _ H.out OK.out x0 x1 y0 y1).mono ?_
        rintro e w1 ⟨rfl, rfl⟩
        rw [h1]
        go_wp2_with fail
        refine (l2InSpec _ _ _ _ _ L _ H.out OK.out y0 y1 x0 x1).mono ?_
        rintro e w1 ⟨rfl, rfl⟩
        rw [h2]
        go_wp2_with (go_at_call 60; refine (refSpec _ _).mono ?_; rintro e w1 ⟨rfl, rfl⟩; rw [d2])
        go_ret
        exact ⟨by rw [HF.out]; rfl, rfl⟩
      · have d2 : decide (2 ≤ x) = true := by simp; omega
        by_cases hy : y < 2
        · have d3 : decide (2 ≤ y) = false := by simp; omega
          have HF : Hid (meetV L x y = 0) := by show _ = _; rw [meetV, h1, h2, if_neg (by simp), if_neg (by simp), if_pos (by omega)]
          go_enter Tryd.func49, Tryd.ntmps49
          go_wp2_with fail
          refine (l2InSpec _ _ _ _ _ L _ H.out OK.out x0 x1 y0 y1).mono ?_
          rintro e w1 ⟨rfl, rfl⟩
          rw [h1]
          go_wp2_with fail
          refine (l2InSpec _ _ _ _ _ L _ H.out OK.out y0 y1 x0 x1).mono ?_
          rintro e w1 ⟨rfl, rfl⟩
          rw [h2]
          go_wp2_with fail
          refine (refSpec _ _).mono ?_
          rintro e w1 ⟨rfl, rfl⟩
          rw [d2]
          go_wp2_with fail
          refine (refSpec _ _).mono ?_
          rintro e w1 ⟨rfl, rfl⟩
          rw [d3]
          go_wp2_with fail
          go_ret
          exact ⟨by rw [HF.out]; rfl, rfl⟩
        · have d3 : decide (2 ≤ y) = true := by simp; omega
          by_cases h8 : x < 8 ∨ y < 8
          · have HF : Hid (meetV L x y = 8) := by show _ = _; rw [meetV, h1, h2, if_neg (by simp), if_neg (by simp), if_neg (by omega), if_pos h8]
            by_cases h8x : x < 8
            · clear h8
              go_enter Tryd.func49, Tryd.ntmps49
              go_wp2_with fail
              refine (l2InSpec _ _ _ _ _ L _ H.out OK.out x0 x1 y0 y1).mono ?_
              rintro e w1 ⟨rfl, rfl⟩
              rw [h1]
              go_wp2_with fail
              refine (l2InSpec _ _ _ _ _ L _ H.out OK.out y0 y1 x0 x1).mono ?_
              rintro e w1 ⟨rfl, rfl⟩
              rw [h2]
              go_wp2_with fail
              refine (refSpec _ _).mono ?_
              rintro e w1 ⟨rfl, rfl⟩
              rw [d2]
              go_wp2_with fail
              refine (refSpec _ _).mono ?_
              rintro e w1 ⟨rfl, rfl⟩
              rw [d3]
              go_wp2_with fail
              go_ret
              exact ⟨by rw [HF.out]; rfl, rfl⟩
            · have h8y : y < 8 := by omega
              clear h8
              go_enter Tryd.func49, Tryd.ntmps49
              go_wp2_with fail
              refine (l2InSpec _ _ _ _ _ L _ H.out OK.out x0 x1 y0 y1).mono ?_
              rintro e w1 ⟨rfl, rfl⟩
              rw [h1]
              go_wp2_with fail
              refine (l2InSpec _ _ _ _ _ L _ H.out OK.out y0 y1 x0 x1).mono ?_
              rintro e w1 ⟨rfl, rfl⟩
              rw [h2]
              go_wp2_with fail
              refine (refSpec _ _).mono ?_
              rintro e w1 ⟨rfl, rfl⟩
              rw [d2]
              go_wp2_with fail
              refine (refSpec _ _).mono ?_
              rintro e w1 ⟨rfl, rfl⟩
              rw [d3]
              go_wp2_with fail
              go_ret
              exact ⟨by rw [HF.out]; rfl, rfl⟩
          · have HF : Hid (meetV L x y = 8 + (join L (x - 8).toNat (y - 8).toNat : Int)) := by show _ = _; rw [meetV, h1, h2, if_neg (by simp), if_neg (by simp), if_neg (by omega), if_neg h8]
            obtain ⟨m, hm⟩ : ∃ m : Nat, x - 8 = m := ⟨(x - 8).toNat, by omega⟩
            obtain ⟨k, hk⟩ : ∃ k : Nat, y - 8 = k := ⟨(y - 8).toNat, by omega⟩
            have HM : Hid (x - 8 = m) := hm
            have HK : Hid (y - 8 = k) := hk
            have hml : m < len := by omega
            have hkl : k < len := by omega
            have h8x : 8 ≤ x := by omega
            have h8y : 8 ≤ y := by omega
            have hj := join_le OK.out k (by rw [HS.out]; exact hkl) m (by rw [HS.out]; exact hml)
            clear hm hk h8
            go_enter Tryd.func49, Tryd.ntmps49
            go_wp2_with fail
            refine (l2InSpec _ _ _ _ _ L _ H.out OK.out x0 x1 y0 y1).mono ?_
            rintro e w1 ⟨rfl, rfl⟩
            rw [h1]
            go_wp2_with fail
            refine (l2InSpec _ _ _ _ _ L _ H.out OK.out y0 y1 x0 x1).mono ?_
            rintro e w1 ⟨rfl, rfl⟩
            rw [h2]
            go_wp2_with fail
            refine (refSpec _ _).mono ?_
            rintro e w1 ⟨rfl, rfl⟩
            rw [d2]
            go_wp2_with fail
            refine (refSpec _ _).mono ?_
            rintro e w1 ⟨rfl, rfl⟩
            rw [d3]
            go_wp2_with fail
            rw [HM.out, HK.out]
            refine (joinSpec _ _ _ m k L _ H.out OK.out hml hkl).mono ?_
            rintro e w1 ⟨rfl, rfl⟩
            go_wp2_with fail
            go_ret
            exact ⟨by rw [HF.out, HM.out, HK.out]; rfl, rfl⟩
    · have HF : Hid (meetV L x y = x) := by show _ = _; rw [meetV, h1, h2, if_neg (by simp), if_pos rfl]
      go_enter Tryd.func49, Tryd.ntmps49
      go_wp2_with fail
      refine (l2InSpec _ _ _ _ _ L _ H.out OK.out x0 x1 y0 y1).mono ?_
      rintro e w1 ⟨rfl, rfl⟩
      rw [h1]
      go_wp2_with fail
      refine (l2InSpec _ _ _ _ _ L _ H.out OK.out y0 y1 x0 x1).mono ?_
      rintro e w1 ⟨rfl, rfl⟩
      rw [h2]
      go_wp2_with fail
      go_ret
      exact ⟨by rw [HF.out]; rfl, rfl⟩
  · have HF : Hid (meetV L x y = y) := by show _ = _; rw [meetV, h1, if_pos rfl]
    go_enter Tryd.func49, Tryd.ntmps49
    go_wp2_with fail
    refine (l2InSpec _ _ _ _ _ L _ H.out OK.out x0 x1 y0 y1).mono ?_
    rintro e w1 ⟨rfl, rfl⟩
    rw [h1]
    go_wp2_with fail
    go_ret
    exact ⟨by rw [HF.out]; rfl, rfl⟩

end Go.Proofs.YtkggmcbjpmhmcaaDoor
