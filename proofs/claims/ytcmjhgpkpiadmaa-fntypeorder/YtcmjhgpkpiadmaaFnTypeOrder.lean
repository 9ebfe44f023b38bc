/-
  For every two codes: of the classes and types that are drawn of them TypeIn of the program keeps promise 8, so the law FnTypeOrder returns true and leaves both codes as they were; no condition.
-/
import Derived.Test.YtcmjhgpkpiadmaaImplT
import Derived.Test.YtcmjhgpkpiadmaaDrTy
import Derived.Test.YtcmjhgpkpiadmaaLeCls
import Derived.Test.YtcmjhgpkpiadmaaClsMath
import Derived.WalkKit
import Derived.ProofKit
import Derived.OpenShut
import Derived.ShutString
import Derived.ChangeOld
import Derived.Below
namespace Go.Proofs.Ytcmjhgpkpiadmaa.fnTypeOrder
open Go.ChangeShapes Go.WideShapes Go.ChangeAt Go.RowKit
open Go.ChangeMaps (open_string shut_string)
set_option linter.unusedVariables false

theorem own : ownKnob Try.prog.godebug = none := by kernel_rfl
theorem laidOut : laidOutB Try.prog = true := by kernel_rfl



set_option maxRecDepth 100000 in
set_option maxHeartbeats 1000000 in
theorem walk (a0 : Option Addr) (len0 cap0 : Nat) (z0 : List Int) (a1 : Option Addr) (len1 cap1 : Nat) (z1 : List Int) (w : World) (w0 : IsRow .u8 w a0 len0 cap0 z0) (w1 : IsRow .u8 w a1 len1 cap1 z1) :
    Calls Try.prog 3 #[.slice a0 len0 cap0, .slice a1 len1 cap1] w fun e w' => e = .returned (.bool true) ∧ Below w.heap.size w w' := by
  by_cases hl0 : len0 ≤ 1048576
  · by_cases hl1 : len1 ≤ 1048576
    · go_enter Try.func3, Try.ntmps3
      go_wp2_with fail
      refine (drawTyIn a0 len0 cap0 z0 w w0).mono ?_
      rintro e w1 ⟨a, len, cap, L, x, y, rfl, l1, l10, hL, hx, hy, hb1⟩
      have G1 : Hid (ClsAt _ _ w1 a len L) := hL
      have B1 : Hid (Below w.heap.size w w1) := hb1
      clear hL hb1 w0
      have e1 : (tyInB L x y != tyInB L x y) = false := by simp
      have e2 : (tyInB L x y == tyInB L x y) = true := by simp
      go_wp2_with fail
      refine (typeInImpl _ _ _ _ _ L _ G1.out).mono ?_
      rintro e w2 ⟨rfl, hb2⟩
      have G2 : Hid (ClsAt _ _ w2 a len L) := G1.out.later hb2
      have B2 : Hid (Below w.heap.size w w2) := B1.out.trans (hb2.mono B1.out.size)
      clear hb2
      go_wp2_with fail
      refine (typeInSpec _ _ _ _ _ L _ G2.out).mono ?_
      rintro e w3 ⟨rfl, hb3⟩
      have G3 : Hid (ClsAt _ _ w3 a len L) := G2.out.later hb3
      have B3 : Hid (Below w.heap.size w w3) := B2.out.trans (hb3.mono B2.out.size)
      clear hb3
      go_wp2_with fail
      refine (typeOkSpec _ _ _ _ L _ G3.out).mono ?_
      rintro e w4 ⟨rfl, hb4⟩
      have G4 : Hid (ClsAt _ _ w4 a len L) := G3.out.later hb4
      have B4 : Hid (Below w.heap.size w w4) := B3.out.trans (hb4.mono B3.out.size)
      clear hb4
      cases hX : tyB L x
      · go_wp2_with fail
        refine (typeInSpec _ _ _ _ _ L _ G4.out).mono ?_
        rintro e w5 ⟨rfl, hb5⟩
        have G5 : Hid (ClsAt _ _ w5 a len L) := G4.out.later hb5
        have B5 : Hid (Below w.heap.size w w5) := B4.out.trans (hb5.mono B4.out.size)
        clear hb5
        go_wp2_with fail
        go_ret
        exact ⟨rfl, B5.out⟩
      · go_wp2_with fail
        refine (typeOkSpec _ _ _ _ L _ G4.out).mono ?_
        rintro e w5 ⟨rfl, hb5⟩
        have G5 : Hid (ClsAt _ _ w5 a len L) := G4.out.later hb5
        have B5 : Hid (Below w.heap.size w w5) := B4.out.trans (hb5.mono B4.out.size)
        clear hb5
        cases hY : tyB L y
        · go_wp2_with fail
          refine (typeInSpec _ _ _ _ _ L _ G5.out).mono ?_
          rintro e w6 ⟨rfl, hb6⟩
          have G6 : Hid (ClsAt _ _ w6 a len L) := G5.out.later hb6
          have B6 : Hid (Below w.heap.size w w6) := B5.out.trans (hb6.mono B5.out.size)
          clear hb6
          go_wp2_with fail
          go_ret
          exact ⟨rfl, B6.out⟩
        · have OK : Hid (clsOk L = true) := tyB_ok hX
          have TX : Hid (Ty L x) := Ty.of hX
          have TY : Hid (Ty L y) := Ty.of hY
          have g0 := ok_len OK.out
          have HS : Hid (L.length = len) := G5.out.size
          have T0 : Hid (Ty L 0) := ⟨by omega, by omega, by omega⟩
          have q2 : (len1 : Int) % (len : Int) < len := Int.emod_lt_of_pos _ (by omega)
          have q3 : 0 ≤ (len1 : Int) % (len : Int) := Int.emod_nonneg _ (by omega)
          obtain ⟨c, hc⟩ : ∃ c : Nat, (len1 : Int) % (len : Int) = c := ⟨((len1 : Int) % (len : Int)).toNat, by omega⟩
          have HC : Hid ((len1 : Int) % (len : Int) = c) := hc
          have hcl : c < L.length := by rw [HS.out]; omega
          clear hc
          have TC : Hid (Ty L (8 + (c : Int))) := ⟨by omega, by omega, by omega⟩
          have f1 : tyInB L x x = true := by rw [tyIn_of OK.out TX.out TX.out]; exact in_refl L x
          have f2 : tyInB L x 0 = true := by rw [tyIn_of OK.out TX.out T0.out]; exact in_none L x
          have U1 : Hid (tyInB L x y = inB L x y) := tyIn_of OK.out TX.out TY.out
          have U2 : Hid (tyInB L y x = inB L y x) := tyIn_of OK.out TY.out TX.out
          have U3 : Hid (tyInB L y (8 + (c : Int)) = inB L y (8 + (c : Int))) := tyIn_of OK.out TY.out TC.out
          have U4 : Hid (tyInB L x (8 + (c : Int)) = inB L x (8 + (c : Int))) := tyIn_of OK.out TX.out TC.out
          have b9 : (c : Int) ≤ 1000 := by omega
          clear g0
          go_wp2_with fail
          refine (typeInImpl _ _ _ _ _ L _ G5.out).mono ?_
          rintro e w6 ⟨rfl, hb6⟩
          have G6 : Hid (ClsAt _ _ w6 a len L) := G5.out.later hb6
          have B6 : Hid (Below w.heap.size w w6) := B5.out.trans (hb6.mono B5.out.size)
          clear hb6
          rw [f1]
          go_wp2_with fail
          refine (typeInImpl _ _ _ _ _ L _ G6.out).mono ?_
          rintro e w7 ⟨rfl, hb7⟩
          have G7 : Hid (ClsAt _ _ w7 a len L) := G6.out.later hb7
          have B7 : Hid (Below w.heap.size w w7) := B6.out.trans (hb7.mono B6.out.size)
          clear hb7
          rw [f2]
          cases hU : tyInB L x y
          · go_wp2_with fail
            go_ret
            exact ⟨rfl, B7.out⟩
          · go_wp2_with fail
            refine (typeInImpl _ _ _ _ _ L _ G7.out).mono ?_
            rintro e w8 ⟨rfl, hb8⟩
            have G8 : Hid (ClsAt _ _ w8 a len L) := G7.out.later hb8
            have B8 : Hid (Below w.heap.size w w8) := B7.out.trans (hb8.mono B7.out.size)
            clear hb8
            cases hV : tyInB L y x
            · go_wp2_with fail
              rw [HC.out]
              refine (typeInImpl _ _ _ _ _ L _ G8.out).mono ?_
              rintro e w9 ⟨rfl, hb9⟩
              have G9 : Hid (ClsAt _ _ w9 a len L) := G8.out.later hb9
              have B9 : Hid (Below w.heap.size w w9) := B8.out.trans (hb9.mono B8.out.size)
              clear hb9
              cases hW : tyInB L y (8 + (c : Int))
              · go_wp2_with fail
                go_ret
                exact ⟨rfl, B9.out⟩
              · have f9 : tyInB L x (8 + (c : Int)) = true := by rw [U4.out]; exact in_trans OK.out TX.out TY.out TC.out (by rw [← U1.out]; exact hU) (by rw [← U3.out]; exact hW)
                go_wp2_with fail
                refine (typeInImpl _ _ _ _ _ L _ G9.out).mono ?_
                rintro e w10 ⟨rfl, hb10⟩
                have G10 : Hid (ClsAt _ _ w10 a len L) := G9.out.later hb10
                have B10 : Hid (Below w.heap.size w w10) := B9.out.trans (hb10.mono B9.out.size)
                clear hb10
                rw [f9]
                go_wp2_with fail
                go_ret
                exact ⟨rfl, B10.out⟩
            · have e9 : (x != y) = false := by have hmk : x = y := in_anti OK.out TX.out TY.out (by rw [← U1.out]; exact hU) (by rw [← U2.out]; exact hV); simp [hmk]
              go_wp2_with fail
              rw [HC.out]
              refine (typeInImpl _ _ _ _ _ L _ G8.out).mono ?_
              rintro e w9 ⟨rfl, hb9⟩
              have G9 : Hid (ClsAt _ _ w9 a len L) := G8.out.later hb9
              have B9 : Hid (Below w.heap.size w w9) := B8.out.trans (hb9.mono B8.out.size)
              clear hb9
              cases hW : tyInB L y (8 + (c : Int))
              · go_wp2_with fail
                go_ret
                exact ⟨rfl, B9.out⟩
              · have f9 : tyInB L x (8 + (c : Int)) = true := by rw [U4.out]; exact in_trans OK.out TX.out TY.out TC.out (by rw [← U1.out]; exact hU) (by rw [← U3.out]; exact hW)
                go_wp2_with fail
                refine (typeInImpl _ _ _ _ _ L _ G9.out).mono ?_
                rintro e w10 ⟨rfl, hb10⟩
                have G10 : Hid (ClsAt _ _ w10 a len L) := G9.out.later hb10
                have B10 : Hid (Below w.heap.size w w10) := B9.out.trans (hb10.mono B9.out.size)
                clear hb10
                rw [f9]
                go_wp2_with fail
                go_ret
                exact ⟨rfl, B10.out⟩
    · go_enter Try.func3, Try.ntmps3
      go_wp2_with fail
      go_ret
      exact ⟨rfl, Below.refl _ _⟩
  · go_enter Try.func3, Try.ntmps3
    go_wp2_with fail
    go_ret
    exact ⟨rfl, Below.refl _ _⟩

set_option maxRecDepth 100000 in
theorem lifted (os : Os) (started : os.Started) (H : Type) (enc : TypeId × Value → H) :
    ReturnsInHanded {} Try.checked os 3 .any (Rows.fnTypeOrderSpec.pre6 enc Try.prog Try.f3 Rows.fnTypeOrderRow.domain false) (Rows.fnTypeOrderSpec.post enc Try.prog Try.f3 false true false false) := by
  refine returnsInHanded_of_change (C := Try.checked) own started (by kernel_rfl) Try.func3
    (ChangeSpec.witness6 (enc := enc) (C := Try.checked) false ⟨#[], #[.slice none 0 0, .slice none 0 0], []⟩ 8 (by kernel_rfl) (by kernel_rfl) (by kernel_rfl) (by kernel_rfl)) ?_
  intro W base args ds gs before hval0 hW hcnd _
  have hval : ∀ (j : Nat) t v, Try.f3.params[j]? = some t → args[j]? = some v → Value.okWide Try.prog W .any base t v := hval0
  have hW' := hW
  obtain ⟨p, q, hA0, hV, rfl, hfz, hnd⟩ := hW
  have hA : DataW.TrodAll enc Try.prog W 0 (fun _ => true) true Try.f3.params.toList args.toList ds p := hA0
  rw [Try.params3] at hA hval
  obtain ⟨v0, vs0, d0, ds0, p0, q0, hargs, rfl, rfl, h0, r0⟩ := trodAll_cons hA
  obtain ⟨v1, vs1, d1, ds1, p1, q1, rfl, rfl, rfl, h1, r1⟩ := trodAll_cons r0
  obtain ⟨rfl, rfl, rfl⟩ := trodAll_nil r1
  obtain rfl : args = #[v0, v1] := by cases args; simp_all
  obtain ⟨rfl, rfl⟩ := trodVars_none hV
  obtain ⟨a0, len0, cap0, rfl⟩ := okWide_slice Try.underlying22 (hval 0 22 v0 rfl rfl)
  have k0 := h0
  have lt0 : ∀ x ∈ p0, x.block < W.heap.size := by obtain ⟨m, hm⟩ := k0; exact DataW.trod_lt m _ _ _ hm
  obtain ⟨z0, w0⟩ : ∃ zs, IsRow .u8 W a0 len0 cap0 zs := by
    obtain ⟨fuel, hf⟩ := h0
    rcases open_ints Try.underlying22 Try.underlying5 (by kernel_rfl) hf with ⟨hcs, _⟩ | ⟨x, l, c, zs, hcs, _, hl, hm, hz, _, hcell, hwz⟩
    · simp [Value.cells] at hcs
      obtain ⟨rfl, rfl, rfl⟩ := hcs
      exact ⟨[], .inl ⟨rfl, rfl, rfl, rfl⟩⟩
    · simp [Value.cells] at hcs
      obtain ⟨rfl, rfl, rfl⟩ := hcs
      exact ⟨zs, .inr ⟨_, rfl, hl, hm, by simpa using hz, hcell, hwz⟩⟩
  obtain ⟨a1, len1, cap1, rfl⟩ := okWide_slice Try.underlying22 (hval 1 22 v1 rfl rfl)
  have k1 := h1
  have lt1 : ∀ x ∈ p1, x.block < W.heap.size := by obtain ⟨m, hm⟩ := k1; exact DataW.trod_lt m _ _ _ hm
  obtain ⟨z1, w1⟩ : ∃ zs, IsRow .u8 W a1 len1 cap1 zs := by
    obtain ⟨fuel, hf⟩ := h1
    rcases open_ints Try.underlying22 Try.underlying5 (by kernel_rfl) hf with ⟨hcs, _⟩ | ⟨x, l, c, zs, hcs, _, hl, hm, hz, _, hcell, hwz⟩
    · simp [Value.cells] at hcs
      obtain ⟨rfl, rfl, rfl⟩ := hcs
      exact ⟨[], .inl ⟨rfl, rfl, rfl, rfl⟩⟩
    · simp [Value.cells] at hcs
      obtain ⟨rfl, rfl, rfl⟩ := hcs
      exact ⟨zs, .inr ⟨_, rfl, hl, hm, by simpa using hz, hcell, hwz⟩⟩
  clear hA0 hval0
  refine (walk a0 len0 cap0 z0 a1 len1 cap1 z1 W w0 w1).mono fun e W' ⟨he, bel⟩ => ?_
  subst he
  exact ⟨_, rfl, _, _, _, [], _, [], hW', trodAll_mk1 (shut_bool Try.underlying4 _), (trodAll_cons_mk (Below.trod laidOut (by kernel_rfl) (of_decide_eq_true (by kernel_rfl)) k0 bel lt0) (trodAll_cons_mk (Below.trod laidOut (by kernel_rfl) (of_decide_eq_true (by kernel_rfl)) k1 bel lt1) trodAll_mk0)), rfl, bel.frame _, fun h => by cases h⟩

theorem over : Rows.fnTypeOrderRow.holds Try.pinned (OpenSpec.ofChange Rows.fnTypeOrderSpec) :=
  OpenClaim.holds_of_wide 3 Try.f3 rfl rfl rfl rfl rfl rfl rfl ⟨rfl, rfl, rfl, rfl, rfl⟩ rfl rfl rfl rfl rfl (by kernel_rfl) Try.func3 (by kernel_rfl)
    (of_decide_eq_true (by kernel_rfl)) (by unfold Func.isWrapper; first | (rw [if_pos (by decide +kernel)]; kernel_rfl) | (rw [if_neg (by decide +kernel)]; exact ⟨rfl, rfl⟩))
    (fun os started H enc _ => lifted os started H enc)

theorem proved : Rows.FnTypeOrderSaid := over
end Go.Proofs.Ytcmjhgpkpiadmaa.fnTypeOrder

namespace Go.Proofs.Ytcmjhgpkpiadmaa
theorem fnTypeOrder_holds : Rows.FnTypeOrderSaid := fnTypeOrder.proved
#print axioms fnTypeOrder_holds
end Go.Proofs.Ytcmjhgpkpiadmaa
