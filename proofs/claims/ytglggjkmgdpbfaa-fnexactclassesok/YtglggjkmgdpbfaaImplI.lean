/-
  The program's TypeIn gives what is said of the list of classes, in whatever memory; it writes nothing that was there.
-/
import Derived.Test.YtglggjkmgdpbfaaImplK
namespace Go.Proofs.Ytglggjkmgdpbfaa
open Go.ChangeShapes Go.WideShapes Go.ChangeAt Go.RowKit

def bothV (L : List Cl) (x y : Int) : Value := if tyB L x && tyB L y then .tuple #[kv x, kv y, .bool true] else .tuple #[.nilIface, .nilIface, .bool false]

theorem tyB_K {L : List Cl} {len : Nat} {t : Int} (hs : L.length = len) (h : tyB L t = true) : tyK len t = true := by
  unfold tyB at h
  rw [Bool.and_eq_true] at h
  rw [tyK, ← hs]
  exact h.2
theorem tyB_KT {L : List Cl} {t : Int} (h : tyB L t = true) : KT t := by
  obtain ⟨h0, _, h2⟩ := tyB_range h
  exact ⟨h0, h2⟩

theorem bothKindsImpl (a : Option Addr) (len cap : Nat) (x y : Int) (L : List Cl) (w : World) {D E : Nat → Prop} (h : ClsAt D E w a len L) (hx : -9223372036854775808 ≤ x ∧ x ≤ 9223372036854775807) (hy : -9223372036854775808 ≤ y ∧ y ≤ 9223372036854775807) :
    Calls Try.prog 59 #[.slice a len cap, .int .i64 x, .int .i64 y] w fun e w' => e = .returned (bothV L x y) ∧ Below w.heap.size w w' := by
  have hr := h.room
  have HS : Hid (L.length = len) := h.size
  have H : Hid (ClsAt D E w a len L) := h
  clear h
  cases h1 : tyB L x
  · have HF : Hid (bothV L x y = .tuple #[.nilIface, .nilIface, .bool false]) := by show _ = _; rw [bothV, h1]; rfl
    go_enter Try.func59, Try.ntmps59
    go_wp2_with fail
    refine (typeOkImpl _ _ _ _ L _ H.out hx).mono ?_
    rintro e w1 ⟨rfl, hb1⟩
    rw [h1]
    go_wp2_with fail
    go_ret3
    exact ⟨by rw [HF.out]; rfl, hb1⟩
  cases h2 : tyB L y
  · have HF : Hid (bothV L x y = .tuple #[.nilIface, .nilIface, .bool false]) := by show _ = _; rw [bothV, h1, h2]; rfl
    go_enter Try.func59, Try.ntmps59
    go_wp2_with fail
    refine (typeOkImpl _ _ _ _ L _ H.out hx).mono ?_
    rintro e w1 ⟨rfl, hb1⟩
    rw [h1]
    go_wp2_with fail
    refine (typeOkImpl _ _ _ _ L _ (H.out.later hb1) hy).mono ?_
    rintro e w2 ⟨rfl, hb2⟩
    rw [h2]
    go_wp2_with fail
    go_ret3
    exact ⟨by rw [HF.out]; rfl, hb1.trans (hb2.mono hb1.size)⟩
  have HF : Hid (bothV L x y = .tuple #[kv x, kv y, .bool true]) := by show _ = _; rw [bothV, h1, h2]; rfl
  have hkx : Hid (tyK len x = true ∧ kvOf len x = kv x) := by
    have := tyB_K HS.out h1
    exact ⟨this, by rw [kvOf, this]; rfl⟩
  have hky : Hid (tyK len y = true ∧ kvOf len y = kv y) := by
    have := tyB_K HS.out h2
    exact ⟨this, by rw [kvOf, this]; rfl⟩
  go_enter Try.func59, Try.ntmps59
  go_wp2_with fail
  refine (typeOkImpl _ _ _ _ L _ H.out hx).mono ?_
  rintro e w1 ⟨rfl, hb1⟩
  rw [h1]
  go_wp2_with fail
  refine (typeOkImpl _ _ _ _ L _ (H.out.later hb1) hy).mono ?_
  rintro e w2 ⟨rfl, hb2⟩
  rw [h2]
  go_wp2_with fail
  refine (kindImpl _ _ _ _ _ hr hx.1 hx.2).mono ?_
  rintro e w3 ⟨rfl, rfl⟩
  rw [hkx.out.1, hkx.out.2]
  obtain ⟨tu, vu, eu⟩ := kv_is x
  rw [eu] at HF ⊢
  go_wp2_with fail
  refine (kindImpl _ _ _ _ _ hr hy.1 hy.2).mono ?_
  rintro e w3 ⟨rfl, rfl⟩
  rw [hky.out.1, hky.out.2]
  obtain ⟨tv, vv, ev⟩ := kv_is y
  rw [ev] at HF ⊢
  go_wp2_with fail
  go_ret3
  exact ⟨by rw [HF.out]; rfl, hb1.trans (hb2.mono hb1.size)⟩

theorem typeInImpl (a : Option Addr) (len cap : Nat) (x y : Int) (L : List Cl) (w : World) {D E : Nat → Prop} (h : ClsAt D E w a len L) (hx : -9223372036854775808 ≤ x ∧ x ≤ 9223372036854775807 := by omega) (hy : -9223372036854775808 ≤ y ∧ y ≤ 9223372036854775807 := by omega) :
    Calls Try.prog 30 #[.slice a len cap, .int .i64 x, .int .i64 y] w fun e w' => e = .returned (.bool (tyInB L x y)) ∧ Below w.heap.size w w' := by
  have HS : Hid (L.length = len) := h.size
  have H : Hid (ClsAt D E w a len L) := h
  clear h
  cases hxy : (tyB L x && tyB L y)
  · have HF : Hid (tyInB L x y = false) := by show _ = _; rw [tyInB, ← Bool.and_assoc, hxy]; rfl
    have HV : Hid (bothV L x y = .tuple #[.nilIface, .nilIface, .bool false]) := by show _ = _; rw [bothV, hxy]; rfl
    go_enter Try.func30, Try.ntmps30
    go_wp2_with fail
    refine (bothKindsImpl _ _ _ _ _ L _ H.out hx hy).mono ?_
    rintro e w1 ⟨rfl, hb1⟩
    rw [HV.out]
    go_wp2_with fail
    go_ret
    exact ⟨by rw [HF.out]; rfl, hb1⟩
  · have HF : Hid (tyInB L x y = inB L x y) := by show _ = _; rw [tyInB, ← Bool.and_assoc, hxy]; rfl
    have HV : Hid (bothV L x y = .tuple #[kv x, kv y, .bool true]) := by show _ = _; rw [bothV, hxy]; rfl
    have hx1 : tyB L x = true := by rw [Bool.and_eq_true] at hxy; exact hxy.1
    have hy1 : tyB L y = true := by rw [Bool.and_eq_true] at hxy; exact hxy.2
    obtain ⟨x0, x1, _⟩ := tyB_range hx1
    obtain ⟨y0, y1, _⟩ := tyB_range hy1
    rw [HS.out] at x1 y1
    have W : Hid (∀ w1, Below w.heap.size w w1 → Calls Try.prog 60 #[.slice a len cap, kv x, kv y] w1 fun e w' => e = .returned (.bool (inB L x y)) ∧ Below w1.heap.size w1 w') :=
      fun w1 hb => withinImpl a len cap x y L w1 (H.out.later hb) (tyB_ok hx1) (tyB_KT hx1) x1 (tyB_KT hy1) y1
    obtain ⟨tu, vu, eu⟩ := kv_is x
    obtain ⟨tv, vv, ev⟩ := kv_is y
    rw [eu, ev] at HV W
    go_enter Try.func30, Try.ntmps30
    go_wp2_with fail
    refine (bothKindsImpl _ _ _ _ _ L _ H.out hx hy).mono ?_
    rintro e w1 ⟨rfl, hb1⟩
    rw [HV.out]
    go_wp2_with fail
    refine (W.out w1 hb1).mono ?_
    rintro e w2 ⟨rfl, hb2⟩
    go_wp2_with fail
    go_ret
    exact ⟨by rw [HF.out]; rfl, hb1.trans (hb2.mono hb1.size)⟩

end Go.Proofs.Ytglggjkmgdpbfaa
