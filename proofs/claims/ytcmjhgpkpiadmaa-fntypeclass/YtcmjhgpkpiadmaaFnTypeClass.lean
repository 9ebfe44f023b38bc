/-
  For every code: of the classes that are drawn of it TypeIn of the program keeps promise 9, so the law FnTypeClass returns true and leaves the code as it was; no condition.
-/
import Derived.Test.YtcmjhgpkpiadmaaImplT
import Derived.Test.YtcmjhgpkpiadmaaDrUp
import Derived.Test.YtcmjhgpkpiadmaaLeCls
import Derived.Test.YtcmjhgpkpiadmaaClsMath
import Derived.WalkKit
import Derived.ProofKit
import Derived.OpenShut
import Derived.ShutString
import Derived.ChangeOld
import Derived.Below
namespace Go.Proofs.Ytcmjhgpkpiadmaa.fnTypeClass
open Go.ChangeShapes Go.WideShapes Go.ChangeAt Go.RowKit
open Go.ChangeMaps (open_string shut_string)
set_option linter.unusedVariables false

theorem own : ownKnob Try.prog.godebug = none := by kernel_rfl
theorem laidOut : laidOutB Try.prog = true := by kernel_rfl

theorem tc_up {L : List Cl} (ok : clsOk L = true) (m k : Nat) (hm : m < L.length) (hk : k < L.length) (ta : Ty L (8 + (m : Int))) (tb : Ty L (8 + (k : Int))) : tyInB L (8 + (m : Int)) (8 + (k : Int)) = upB L m k := by
  rw [tyIn_of ok ta tb, upB_nat ok m k hm hk, Bool.eq_iff_iff, inB_iff L _ _ (by omega), show (8 + (m : Int) - 8).toNat = m by omega, show (8 + (k : Int) - 8).toNat = k by omega]
  constructor
  · intro h
    rcases h with h | h | h | h
    · have e : m = k := by omega
      subst e; exact up_refl L m
    · omega
    · omega
    · exact h.2.2
  · intro h; exact .inr (.inr (.inr ⟨by omega, by omega, h⟩))
theorem tc_arr (L : List Cl) (a : Int) (k : Nat) (h3 : 3 ≤ a) (h8 : a < 8) : inB L a (8 + (k : Int)) = ((k : Int) == 0) := by
  rw [Bool.eq_iff_iff, inB_iff L _ _ (by omega), beq_iff_eq]
  omega
theorem tc_no (L : List Cl) (a b : Int) (h : (a = 1 ∧ 2 ≤ b) ∨ (2 ≤ a ∧ b = 1) ∨ (8 ≤ a ∧ 1 ≤ b ∧ b < 8)) (hb : 1 ≤ b) : inB L a b = false := by
  rw [Bool.eq_false_iff]
  intro e
  rw [inB_iff L _ _ (by omega)] at e
  omega

set_option maxRecDepth 100000 in
set_option maxHeartbeats 1000000 in
theorem walk (a0 : Option Addr) (len0 cap0 : Nat) (z0 : List Int) (w : World) (w0 : IsRow .u8 w a0 len0 cap0 z0) :
    Calls Try.prog 4 #[.slice a0 len0 cap0] w fun e w' => e = .returned (.bool true) ∧ Below w.heap.size w w' := by
  by_cases hl0 : len0 ≤ 1048576
  · go_enter Try.func4, Try.ntmps4
    go_wp2_with fail
    refine (drawUp a0 len0 cap0 z0 w w0).mono ?_
    rintro e w1 ⟨a, len, cap, L, x, y, rfl, l1, l10, hL, hx, hy, hb1⟩
    have G1 : Hid (ClsAt _ _ w1 a len L) := hL
    have B1 : Hid (Below w.heap.size w w1) := hb1
    clear hL hb1 w0
    have e1 : (upB L x y != upB L x y) = false := by simp
    have e2 : (upB L x y == upB L x y) = true := by simp
    go_wp2_with fail
    refine (classUpImpl _ _ _ _ _ L _ G1.out).mono ?_
    rintro e w2 ⟨rfl, hb2⟩
    have G2 : Hid (ClsAt _ _ w2 a len L) := G1.out.later hb2
    have B2 : Hid (Below w.heap.size w w2) := B1.out.trans (hb2.mono B1.out.size)
    clear hb2
    go_wp2_with fail
    refine (classUpSpec _ _ _ _ _ L _ G2.out).mono ?_
    rintro e w3 ⟨rfl, hb3⟩
    have G3 : Hid (ClsAt _ _ w3 a len L) := G2.out.later hb3
    have B3 : Hid (Below w.heap.size w w3) := B2.out.trans (hb3.mono B2.out.size)
    clear hb3
    go_wp2_with fail
    refine (leIs _ _ _ _ L _ G3.out).mono ?_
    rintro e w4 ⟨rfl, hb4⟩
    have G4 : Hid (ClsAt _ _ w4 a len L) := G3.out.later hb4
    have B4 : Hid (Below w.heap.size w w4) := B3.out.trans (hb4.mono B3.out.size)
    clear hb4
    cases hX : isB L x
    · go_wp2_with fail
      refine (classUpSpec _ _ _ _ _ L _ G4.out).mono ?_
      rintro e w5 ⟨rfl, hb5⟩
      have G5 : Hid (ClsAt _ _ w5 a len L) := G4.out.later hb5
      have B5 : Hid (Below w.heap.size w w5) := B4.out.trans (hb5.mono B4.out.size)
      clear hb5
      go_wp2_with fail
      go_ret
      exact ⟨rfl, B5.out⟩
    · go_wp2_with fail
      refine (leIs _ _ _ _ L _ G4.out).mono ?_
      rintro e w5 ⟨rfl, hb5⟩
      have G5 : Hid (ClsAt _ _ w5 a len L) := G4.out.later hb5
      have B5 : Hid (Below w.heap.size w w5) := B4.out.trans (hb5.mono B4.out.size)
      clear hb5
      cases hY : isB L y
      · go_wp2_with fail
        refine (classUpSpec _ _ _ _ _ L _ G5.out).mono ?_
        rintro e w6 ⟨rfl, hb6⟩
        have G6 : Hid (ClsAt _ _ w6 a len L) := G5.out.later hb6
        have B6 : Hid (Below w.heap.size w w6) := B5.out.trans (hb6.mono B5.out.size)
        clear hb6
        go_wp2_with fail
        go_ret
        exact ⟨rfl, B6.out⟩
      · obtain ⟨m, rfl, hm, ok⟩ := isB_nat hX
        obtain ⟨k, rfl, hk, _⟩ := isB_nat hY
        have OK : Hid (clsOk L = true) := ok
        have HS : Hid (L.length = len) := G5.out.size
        have hml : m < len := by rw [← HS.out]; exact hm
        have hkl : k < len := by rw [← HS.out]; exact hk
        have g0 := ok_len OK.out
        have TA : Ty L (8 + (m : Int)) := ⟨by omega, by omega, by omega⟩
        have TB : Ty L (8 + (k : Int)) := ⟨by omega, by omega, by omega⟩
        have t1 : Ty L 1 := ⟨by omega, by omega, by omega⟩
        have t2 : Ty L 2 := ⟨by omega, by omega, by omega⟩
        have t3 : Ty L 3 := ⟨by omega, by omega, by omega⟩
        have t4 : Ty L 4 := ⟨by omega, by omega, by omega⟩
        have f1 : tyInB L (8 + (m : Int)) (8 + (k : Int)) = upB L m k := tc_up OK.out m k hm hk TA TB
        have f2 : tyInB L 3 (8 + (k : Int)) = ((k : Int) == 0) := by rw [tyIn_of OK.out t3 TB]; exact tc_arr L 3 k (by omega) (by omega)
        have f3 : tyInB L 4 (8 + (k : Int)) = ((k : Int) == 0) := by rw [tyIn_of OK.out t4 TB]; exact tc_arr L 4 k (by omega) (by omega)
        have f4 : tyInB L 2 (8 + (k : Int)) = true := by rw [tyIn_of OK.out t2 TB, inB_iff L _ _ (by omega)]; exact .inr (.inl ⟨rfl, by omega⟩)
        have f5 : tyInB L 1 (8 + (k : Int)) = false := by rw [tyIn_of OK.out t1 TB]; exact tc_no L _ _ (by omega) (by omega)
        have f6 : tyInB L (8 + (m : Int)) 1 = false := by rw [tyIn_of OK.out TA t1]; exact tc_no L _ _ (by omega) (by omega)
        have f7 : tyInB L (8 + (m : Int)) 3 = false := by rw [tyIn_of OK.out TA t3]; exact tc_no L _ _ (by omega) (by omega)
        have f8 : tyInB L 2 1 = false := by rw [tyIn_of OK.out t2 t1]; exact tc_no L _ _ (by omega) (by omega)
        have e3 : (((k : Int) == 0) != ((k : Int) == 0)) = false := by simp
        have b8 : (m : Int) ≤ 1000 := by omega
        have b9 : (k : Int) ≤ 1000 := by omega
        clear g0 TA TB t1 t2 t3 t4 ok
        go_wp2_with fail
        refine (typeInImpl _ _ _ _ _ L _ G5.out).mono ?_
        rintro e w6 ⟨rfl, hb6⟩
        have G6 : Hid (ClsAt _ _ w6 a len L) := G5.out.later hb6
        have B6 : Hid (Below w.heap.size w w6) := B5.out.trans (hb6.mono B5.out.size)
        clear hb6
        rw [f1]
        go_wp2_with fail
        refine (typeInImpl _ _ _ _ _ L _ G6.out).mono ?_
        rintro e w7 ⟨rfl, hb7⟩
        have G7 : Hid (ClsAt _ _ w7 a len L) := G6.out.later hb7
        have B7 : Hid (Below w.heap.size w w7) := B6.out.trans (hb7.mono B6.out.size)
        clear hb7
        rw [f2]
        go_wp2_with fail
        refine (typeInImpl _ _ _ _ _ L _ G7.out).mono ?_
        rintro e w8 ⟨rfl, hb8⟩
        have G8 : Hid (ClsAt _ _ w8 a len L) := G7.out.later hb8
        have B8 : Hid (Below w.heap.size w w8) := B7.out.trans (hb8.mono B7.out.size)
        clear hb8
        rw [f3]
        go_wp2_with fail
        refine (typeInImpl _ _ _ _ _ L _ G8.out).mono ?_
        rintro e w9 ⟨rfl, hb9⟩
        have G9 : Hid (ClsAt _ _ w9 a len L) := G8.out.later hb9
        have B9 : Hid (Below w.heap.size w w9) := B8.out.trans (hb9.mono B8.out.size)
        clear hb9
        rw [f4]
        go_wp2_with fail
        refine (typeInImpl _ _ _ _ _ L _ G9.out).mono ?_
        rintro e w10 ⟨rfl, hb10⟩
        have G10 : Hid (ClsAt _ _ w10 a len L) := G9.out.later hb10
        have B10 : Hid (Below w.heap.size w w10) := B9.out.trans (hb10.mono B9.out.size)
        clear hb10
        rw [f5]
        go_wp2_with fail
        refine (typeInImpl _ _ _ _ _ L _ G10.out).mono ?_
        rintro e w11 ⟨rfl, hb11⟩
        have G11 : Hid (ClsAt _ _ w11 a len L) := G10.out.later hb11
        have B11 : Hid (Below w.heap.size w w11) := B10.out.trans (hb11.mono B10.out.size)
        clear hb11
        rw [f6]
        go_wp2_with fail
        refine (typeInImpl _ _ _ _ _ L _ G11.out).mono ?_
        rintro e w12 ⟨rfl, hb12⟩
        have G12 : Hid (ClsAt _ _ w12 a len L) := G11.out.later hb12
        have B12 : Hid (Below w.heap.size w w12) := B11.out.trans (hb12.mono B11.out.size)
        clear hb12
        rw [f7]
        go_wp2_with fail
        refine (typeInImpl _ _ _ _ _ L _ G12.out).mono ?_
        rintro e w13 ⟨rfl, hb13⟩
        have G13 : Hid (ClsAt _ _ w13 a len L) := G12.out.later hb13
        have B13 : Hid (Below w.heap.size w w13) := B12.out.trans (hb13.mono B12.out.size)
        clear hb13
        rw [f8]
        go_wp2_with fail
        go_ret
        exact ⟨rfl, B13.out⟩
  · go_enter Try.func4, Try.ntmps4
    go_wp2_with fail
    go_ret
    exact ⟨rfl, Below.refl _ _⟩

set_option maxRecDepth 100000 in
theorem lifted (os : Os) (started : os.Started) (H : Type) (enc : TypeId × Value → H) :
    ReturnsInHanded {} Try.checked os 4 .any (Rows.fnTypeClassSpec.pre6 enc Try.prog Try.f4 Rows.fnTypeClassRow.domain false) (Rows.fnTypeClassSpec.post enc Try.prog Try.f4 false true false false) := by
  refine returnsInHanded_of_change (C := Try.checked) own started (by kernel_rfl) Try.func4
    (ChangeSpec.witness6 (enc := enc) (C := Try.checked) false ⟨#[], #[.slice none 0 0], []⟩ 8 (by kernel_rfl) (by kernel_rfl) (by kernel_rfl) (by kernel_rfl)) ?_
  intro W base args ds gs before hval0 hW hcnd _
  have hval : ∀ (j : Nat) t v, Try.f4.params[j]? = some t → args[j]? = some v → Value.okWide Try.prog W .any base t v := hval0
  have hW' := hW
  obtain ⟨p, q, hA0, hV, rfl, hfz, hnd⟩ := hW
  have hA : DataW.TrodAll enc Try.prog W 0 (fun _ => true) true Try.f4.params.toList args.toList ds p := hA0
  rw [Try.params4] at hA hval
  obtain ⟨v0, vs0, d0, ds0, p0, q0, hargs, rfl, rfl, h0, r0⟩ := trodAll_cons hA
  obtain ⟨rfl, rfl, rfl⟩ := trodAll_nil r0
  obtain rfl : args = #[v0] := by cases args; simp_all
  obtain ⟨rfl, rfl⟩ := trodVars_none hV
  obtain ⟨a0, len0, cap0, rfl⟩ := okWide_slice Try.underlying22 (hval 0 22 v0 rfl rfl)
  have k0 := h0
  have lt0 : ∀ x ∈ p0, x.block < W.heap.size := by obtain ⟨m, hm⟩ := k0; exact DataW.trod_lt m _ _ _ hm
  obtain ⟨z0, w0⟩ : ∃ zs, IsRow .u8 W a0 len0 cap0 zs := by
    obtain ⟨fuel, hf⟩ := h0
    rcases open_ints Try.underlying22 Try.underlying5 (by kernel_rfl) hf with ⟨hcs, _⟩ | ⟨x, l, c, zs, hcs, _, hl, hm, hz, _, hcell, hwz⟩
    · simp [Value.cells] at hcs
      obtain ⟨rfl, rfl, rfl⟩ := hcs
      exact ⟨[], .inl ⟨rfl, rfl, rfl, rfl⟩⟩
    · simp [Value.cells] at hcs
      obtain ⟨rfl, rfl, rfl⟩ := hcs
      exact ⟨zs, .inr ⟨_, rfl, hl, hm, by simpa using hz, hcell, hwz⟩⟩
  clear hA0 hval0
  refine (walk a0 len0 cap0 z0 W w0).mono fun e W' ⟨he, bel⟩ => ?_
  subst he
  exact ⟨_, rfl, _, _, _, [], _, [], hW', trodAll_mk1 (shut_bool Try.underlying4 _), (trodAll_cons_mk (Below.trod laidOut (by kernel_rfl) (of_decide_eq_true (by kernel_rfl)) k0 bel lt0) trodAll_mk0), rfl, bel.frame _, fun h => by cases h⟩

theorem over : Rows.fnTypeClassRow.holds Try.pinned (OpenSpec.ofChange Rows.fnTypeClassSpec) :=
  OpenClaim.holds_of_wide 4 Try.f4 rfl rfl rfl rfl rfl rfl rfl ⟨rfl, rfl, rfl, rfl, rfl⟩ rfl rfl rfl rfl rfl (by kernel_rfl) Try.func4 (by kernel_rfl)
    (of_decide_eq_true (by kernel_rfl)) (by unfold Func.isWrapper; first | (rw [if_pos (by decide +kernel)]; kernel_rfl) | (rw [if_neg (by decide +kernel)]; exact ⟨rfl, rfl⟩))
    (fun os started H enc _ => lifted os started H enc)

theorem proved : Rows.FnTypeClassSaid := over
end Go.Proofs.Ytcmjhgpkpiadmaa.fnTypeClass

namespace Go.Proofs.Ytcmjhgpkpiadmaa
theorem fnTypeClass_holds : Rows.FnTypeClassSaid := fnTypeClass.proved
#print axioms fnTypeClass_holds
end Go.Proofs.Ytcmjhgpkpiadmaa
