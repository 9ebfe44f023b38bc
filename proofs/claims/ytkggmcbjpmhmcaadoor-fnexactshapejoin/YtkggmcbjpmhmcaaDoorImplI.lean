/-
  The program's typeIn and TypeIn give what is said of the list of classes, in whatever memory; they write nothing that was there.
-/
import Derived.Test.YtkggmcbjpmhmcaaDoorImplK
namespace Go.Proofs.YtkggmcbjpmhmcaaDoor
open Go.ChangeShapes Go.WideShapes Go.ChangeAt Go.RowKit

theorem tyB_K {L : List Cl} {len : Nat} {t : Int} (hs : L.length = len) (h : tyB L t = true) : tyK len t = true := by
  unfold tyB at h
  rw [Bool.and_eq_true] at h
  rw [tyK, ← hs]
  exact h.2
theorem tyB_KT {L : List Cl} {t : Int} (h : tyB L t = true) : KT t := by
  obtain ⟨h0, _, h2⟩ := tyB_range h
  exact ⟨h0, h2⟩
theorem tyB_of {L : List Cl} {len : Nat} {t : Int} (hs : L.length = len) (ok : clsOk L = true) : tyB L t = tyK len t := by
  rw [tyB, tyK, ok, hs]; rfl

theorem treeInImpl (a : Option Addr) (len cap : Nat) (x y : Int) (L : List Cl) (w : World) {D E : Nat → Prop} (h : ClsAt D E w a len L) (ok : clsOk L = true) (hx : -9223372036854775808 ≤ x ∧ x ≤ 9223372036854775807 := by omega) (hy : -9223372036854775808 ≤ y ∧ y ≤ 9223372036854775807 := by omega) :
    Calls Tryd.prog 62 #[.slice a len cap, .int .i64 x, .int .i64 y] w fun e w' => e = .returned (.bool (tyInB L x y)) ∧ Below w.heap.size w w' := by
  have hr := h.room
  have HS : Hid (L.length = len) := h.size
  have H : Hid (ClsAt D E w a len L) := h
  clear h
  have e1 := tyB_of (t := x) HS.out ok
  have e2 := tyB_of (t := y) HS.out ok
  cases h1 : tyK len x
  · have HF : Hid (tyInB L x y = false) := by show _ = _; rw [tyInB, e1, h1]; rfl
    have HV : Hid (kvOf len x = .nilIface) := by show _ = _; rw [kvOf, h1]; rfl
    clear e1 e2
    go_enter Tryd.func62, Tryd.ntmps62
    go_wp2_with fail
    refine (kindImpl _ _ _ _ _ hr hx.1 hx.2).mono ?_
    rintro e w1 ⟨rfl, rfl⟩
    rw [h1, HV.out]
    go_wp2_with fail
    refine (kindImpl _ _ _ _ _ hr hy.1 hy.2).mono ?_
    rintro e w1 ⟨rfl, rfl⟩
    generalize kvOf len y = v
    generalize tyK len y = b
    go_wp2_with fail
    go_ret
    exact ⟨by rw [HF.out]; rfl, Below.refl _ _⟩
  cases h2 : tyK len y
  · have HF : Hid (tyInB L x y = false) := by show _ = _; rw [tyInB, e1, e2, h1, h2]; rfl
    have HV : Hid (kvOf len y = .nilIface) := by show _ = _; rw [kvOf, h2]; rfl
    clear e1 e2
    go_enter Tryd.func62, Tryd.ntmps62
    go_wp2_with fail
    refine (kindImpl _ _ _ _ _ hr hx.1 hx.2).mono ?_
    rintro e w1 ⟨rfl, rfl⟩
    rw [h1]
    generalize kvOf len x = v
    go_wp2_with fail
    refine (kindImpl _ _ _ _ _ hr hy.1 hy.2).mono ?_
    rintro e w1 ⟨rfl, rfl⟩
    rw [h2, HV.out]
    go_wp2_with fail
    go_ret
    exact ⟨by rw [HF.out]; rfl, Below.refl _ _⟩
  have hx1 : tyB L x = true := by rw [e1, h1]
  have hy1 : tyB L y = true := by rw [e2, h2]
  have HF : Hid (tyInB L x y = inB L x y) := by show _ = _; rw [tyInB, hx1, hy1]; rfl
  have hkx : Hid (kvOf len x = kv x) := by show _ = _; rw [kvOf, h1]; rfl
  have hky : Hid (kvOf len y = kv y) := by show _ = _; rw [kvOf, h2]; rfl
  obtain ⟨x0, x1, _⟩ := tyB_range hx1
  obtain ⟨y0, y1, _⟩ := tyB_range hy1
  rw [HS.out] at x1 y1
  have W : Hid (Calls Tryd.prog 69 #[.slice a len cap, kv x, kv y] w fun e w' => e = .returned (.bool (inB L x y)) ∧ Below w.heap.size w w') :=
    withinImpl a len cap x y L w H.out ok (tyB_KT hx1) x1 (tyB_KT hy1) y1
  obtain ⟨tu, vu, eu⟩ := kv_is x
  obtain ⟨tv, vv, ev⟩ := kv_is y
  rw [eu, ev] at W
  rw [eu] at hkx
  rw [ev] at hky
  clear e1 e2 hx1 hy1
  go_enter Tryd.func62, Tryd.ntmps62
  go_wp2_with fail
  refine (kindImpl _ _ _ _ _ hr hx.1 hx.2).mono ?_
  rintro e w1 ⟨rfl, rfl⟩
  rw [h1, hkx.out]
  go_wp2_with fail
  refine (kindImpl _ _ _ _ _ hr hy.1 hy.2).mono ?_
  rintro e w1 ⟨rfl, rfl⟩
  rw [h2, hky.out]
  go_wp2_with fail
  refine W.out.mono ?_
  rintro e w2 ⟨rfl, hb2⟩
  go_wp2_with fail
  go_ret
  exact ⟨by rw [HF.out]; rfl, hb2⟩

end Go.Proofs.YtkggmcbjpmhmcaaDoor
