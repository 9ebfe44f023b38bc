/-
  The laws' own test whether there is such a class.
-/
import Derived.Test.YtcmjhgpkpiadmaaTypSpec
namespace Go.Proofs.Ytcmjhgpkpiadmaa
open Go.ChangeShapes Go.WideShapes Go.ChangeAt Go.RowKit

theorem leIs (a : Option Addr) (len cap : Nat) (c : Int) (L : List Cl) (w : World) {D E : Nat → Prop} (h : ClsAt D E w a len L) :
    Calls Try.prog 15 #[.slice a len cap, .int .i64 c] w fun e w' => e = .returned (.bool (isB L c)) ∧ Below w.heap.size w w' := by
  have HF : Hid (isB L c = (clsOk L && (decide (0 ≤ c) && decide (c ≤ (len : Int) - 1)))) := by show _ = _; rw [isB, h.size]
  have H : Hid (ClsAt D E w a len L) := h
  clear h
  cases hB : clsOk L
  · go_enter Try.func15, Try.ntmps15
    go_wp2_with fail
    refine (okSpec _ _ _ L _ H.out).mono ?_
    rintro e w1 ⟨rfl, hb⟩
    rw [hB]
    go_wp2_with fail
    go_ret
    exact ⟨by rw [HF.out, hB]; rfl, hb⟩
  · by_cases h0 : 0 ≤ c
    · by_cases h1 : c < len
      · go_enter Try.func15, Try.ntmps15
        go_wp2_with fail
        refine (okSpec _ _ _ L _ H.out).mono ?_
        rintro e w1 ⟨rfl, hb⟩
        rw [hB]
        go_wp2_with fail
        go_ret
        exact ⟨by rw [HF.out, hB, decide_eq_true h0, decide_eq_true (show c ≤ (len : Int) - 1 by omega)]; rfl, hb⟩
      · have HN : Hid (isB L c = false) := by show _ = _; rw [HF.out, decide_eq_false (show ¬ c ≤ (len : Int) - 1 by omega)]; simp
        have d1 : decide (c < (len : Int)) = false := decide_eq_false h1
        go_enter Try.func15, Try.ntmps15
        go_wp2_with fail
        refine (okSpec _ _ _ L _ H.out).mono ?_
        rintro e w1 ⟨rfl, hb⟩
        rw [hB]
        go_wp2_with fail
        go_ret
        exact ⟨by rw [HN.out]; first | rfl | (simp; omega), hb⟩
    · have HN : Hid (isB L c = false) := by show _ = _; rw [HF.out, decide_eq_false h0]; simp
      go_enter Try.func15, Try.ntmps15
      go_wp2_with fail
      refine (okSpec _ _ _ L _ H.out).mono ?_
      rintro e w1 ⟨rfl, hb⟩
      rw [hB]
      go_wp2_with fail
      go_ret
      exact ⟨by rw [HN.out]; rfl, hb⟩

end Go.Proofs.Ytcmjhgpkpiadmaa
