/-
  The specification's ClassUp, ClassJoin, TypeOk, TypeIn and TypeJoin give what is said of the list of classes, in whatever memory; they write nothing that was there.
-/
import Derived.Test.YtmhhopccgokglaaClsSpec
namespace Go.Proofs.Ytmhhopccgokglaa
open Go.ChangeShapes Go.WideShapes Go.ChangeAt Go.RowKit

theorem isB_nat {L : List Cl} {c : Int} (h : isB L c = true) : ∃ k : Nat, c = k ∧ k < L.length ∧ clsOk L = true := by
  unfold isB at h
  simp at h
  have := ok_len h.1
  exact ⟨c.toNat, by omega, by omega, h.1⟩

theorem typeOkSpec (a : Option Addr) (len cap : Nat) (t : Int) (L : List Cl) (w : World) {D E : Nat → Prop} (h : ClsAt D E w a len L) :
    Calls Try.prog 32 #[.slice a len cap, .int .i64 t] w fun e w' => e = .returned (.bool (tyB L t)) ∧ Below w.heap.size w w' := by
  have hl5 : Hid (clsOk L = true → len ≤ 1000000000000000) := fun ok => by have := ok_len ok; rw [h.size] at this; omega
  have HF : Hid (tyB L t = (clsOk L && (t == 0 || (t == 2 || fieldB len t)))) := by show _ = _; rw [tyB, h.size]
  have H : Hid (ClsAt D E w a len L) := h
  clear h
  cases hx : clsOk L
  · go_enter Try.func32, Try.ntmps32
    go_wp2_with fail
    refine (okSpec _ _ _ L _ H.out).mono ?_
    rintro e w1 ⟨rfl, hb1⟩
    rw [hx]
    go_wp2_with fail
    go_ret
    exact ⟨by rw [HF.out, hx]; rfl, hb1⟩
  · cases h0 : (t == 0)
    · cases h2 : (t == 2)
      · go_enter Try.func32, Try.ntmps32
        go_wp2_with fail
        refine (okSpec _ _ _ L _ H.out).mono ?_
        rintro e w1 ⟨rfl, hb1⟩
        rw [hx]
        go_wp2_with fail
        refine (fieldSpec _ _ _ _ _ (hl5.out hx)).mono ?_
        rintro e w2 ⟨rfl, rfl⟩
        go_wp2_with fail
        go_ret
        exact ⟨by rw [HF.out, hx, h0, h2]; rfl, hb1⟩
      · go_enter Try.func32, Try.ntmps32
        go_wp2_with fail
        refine (okSpec _ _ _ L _ H.out).mono ?_
        rintro e w1 ⟨rfl, hb1⟩
        rw [hx]
        go_wp2_with fail
        go_ret
        exact ⟨by rw [HF.out, hx, h0, h2]; rfl, hb1⟩
    · go_enter Try.func32, Try.ntmps32
      go_wp2_with fail
      refine (okSpec _ _ _ L _ H.out).mono ?_
      rintro e w1 ⟨rfl, hb1⟩
      rw [hx]
      go_wp2_with fail
      go_ret
      exact ⟨by rw [HF.out, hx, h0]; rfl, hb1⟩

theorem refSpec (t : Int) (w : World) : Calls Try.prog 62 #[.int .i64 t] w fun e w' => e = .returned (.bool (decide (2 ≤ t))) ∧ w = w' := by
  go_enter Try.func62, Try.ntmps62
  go_wp2
  go_ret
  exact ⟨rfl, rfl⟩

theorem l2InSpec (a : Option Addr) (len cap : Nat) (x y : Int) (L : List Cl) (w : World) {D E : Nat → Prop} (h : ClsAt D E w a len L) (ok : clsOk L = true)
    (x0 : 0 ≤ x) (x1 : x ≤ 8 + len - 1) (y0 : 0 ≤ y) (y1 : y ≤ 8 + len - 1) :
    Calls Try.prog 43 #[.slice a len cap, .int .i64 x, .int .i64 y] w fun e w' => e = .returned (.bool (inB L x y)) ∧ w = w' := by
  have hr := h.room
  have OK : Hid (clsOk L = true) := ok
  have H : Hid (ClsAt D E w a len L) := h
  clear h ok
  by_cases hxy : x = y
  · subst hxy
    have HF : Hid (inB L x x = true) := by show _ = _; rw [inB, if_pos (by simp)]
    have e1 : (x == x) = true := by simp
    go_enter Try.func43, Try.ntmps43
    go_wp2_with fail
    go_ret
    exact ⟨by rw [HF.out]; rfl, rfl⟩
  · have e1 : (x == y) = false := by simp [hxy]
    by_cases hy : y = 0
    · subst hy
      have HF : Hid (inB L x 0 = true) := by show _ = _; rw [inB, if_pos (by simp)]
      go_enter Try.func43, Try.ntmps43
      go_wp2_with fail
      go_ret
      exact ⟨by rw [HF.out]; rfl, rfl⟩
    · have e2 : (y == 0) = false := by simp [hy]
      by_cases hx2 : x = 2
      · subst hx2
        have HF : Hid (inB L 2 y = decide (2 ≤ y)) := by show _ = _; rw [inB, if_neg (by omega), if_pos rfl]
        go_enter Try.func43, Try.ntmps43
        go_wp2_with (go_at_call 62; refine (refSpec _ _).mono ?_; rintro e w1 ⟨rfl, rfl⟩)
        go_ret
        exact ⟨by rw [HF.out]; rfl, rfl⟩
      · have e3 : (x == 2) = false := by simp [hx2]
        by_cases hr2 : 2 ≤ x
        · have d2 : decide (2 ≤ x) = true := by simp [hr2]
          by_cases hy8 : y < 8
          · have HF : Hid (inB L x y = false) := by show _ = _; rw [inB, if_neg (by omega), if_neg hx2, if_pos (by omega)]
            go_enter Try.func43, Try.ntmps43
            go_wp2_with (go_at_call 62; refine (refSpec _ _).mono ?_; rintro e w1 ⟨rfl, rfl⟩; rw [d2])
            go_ret
            exact ⟨by rw [HF.out]; rfl, rfl⟩
          · by_cases hx8 : x < 8
            · have HF : Hid (inB L x y = (y == 8)) := by show _ = _; rw [inB, if_neg (by omega), if_neg hx2, if_neg (by omega), if_pos hx8]
              go_enter Try.func43, Try.ntmps43
              go_wp2_with (go_at_call 62; refine (refSpec _ _).mono ?_; rintro e w1 ⟨rfl, rfl⟩; rw [d2])
              go_ret
              exact ⟨by rw [HF.out]; rfl, rfl⟩
            · have HF : Hid (inB L x y = up L (x - 8).toNat (y - 8).toNat) := by show _ = _; rw [inB, if_neg (by omega), if_neg hx2, if_neg (by omega), if_neg hx8]
              obtain ⟨m, hm⟩ : ∃ m : Nat, x - 8 = m := ⟨(x - 8).toNat, by omega⟩
              obtain ⟨k, hk⟩ : ∃ k : Nat, y - 8 = k := ⟨(y - 8).toNat, by omega⟩
              have HM : Hid (x - 8 = m) := hm
              have HK : Hid (y - 8 = k) := hk
              have hml : m < len := by omega
              clear hm hk
              go_enter Try.func43, Try.ntmps43
              go_wp2_with (first | (go_at_call 62; refine (refSpec _ _).mono ?_; rintro e w1 ⟨rfl, rfl⟩; rw [d2]) | (go_at_call 56; rw [HM.out, HK.out]; refine (upSpec _ _ _ m k L _ H.out OK.out hml).mono ?_; rintro e w1 ⟨rfl, rfl⟩))
              go_ret
              exact ⟨by rw [HF.out, HM.out, HK.out]; rfl, rfl⟩
        · have d2 : decide (2 ≤ x) = false := by simp [hr2]
          have HF : Hid (inB L x y = false) := by show _ = _; rw [inB, if_neg (by omega), if_neg hx2, if_pos (by omega)]
          go_enter Try.func43, Try.ntmps43
          go_wp2_with (go_at_call 62; refine (refSpec _ _).mono ?_; rintro e w1 ⟨rfl, rfl⟩; rw [d2])
          go_ret
          exact ⟨by rw [HF.out]; rfl, rfl⟩

end Go.Proofs.Ytmhhopccgokglaa
