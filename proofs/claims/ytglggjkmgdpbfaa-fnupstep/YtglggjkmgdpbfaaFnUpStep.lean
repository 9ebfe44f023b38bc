/-
  For every code: of the classes that are drawn of it ClassUp of the program keeps promise 4, so the law FnUpStep returns true and leaves the code as it was; no condition.
-/
import Derived.Test.YtglggjkmgdpbfaaImplT
import Derived.Test.YtglggjkmgdpbfaaDrUp
import Derived.Test.YtglggjkmgdpbfaaLeCls
import Derived.Test.YtglggjkmgdpbfaaClsMath
import Derived.WalkKit
import Derived.ProofKit
import Derived.OpenShut
import Derived.ShutString
import Derived.ChangeOld
import Derived.Below
namespace Go.Proofs.Ytglggjkmgdpbfaa.fnUpStep
open Go.ChangeShapes Go.WideShapes Go.ChangeAt Go.RowKit
open Go.ChangeMaps (open_string shut_string)
set_option linter.unusedVariables false

theorem own : ownKnob Try.prog.godebug = none := by kernel_rfl
theorem laidOut : laidOutB Try.prog = true := by kernel_rfl



set_option maxRecDepth 100000 in
set_option maxHeartbeats 1000000 in
theorem walk (a0 : Option Addr) (len0 cap0 : Nat) (z0 : List Int) (w : World) (w0 : IsRow .u8 w a0 len0 cap0 z0) :
    Calls Try.prog 3 #[.slice a0 len0 cap0] w fun e w' => e = .returned (.bool true) ∧ Below w.heap.size w w' := by
  by_cases hl0 : len0 ≤ 1048576
  · go_enter Try.func3, Try.ntmps3
    go_wp2_with fail
    refine (drawUp a0 len0 cap0 z0 w w0).mono ?_
    rintro e w1 ⟨a, len, cap, L, x, y, rfl, l1, l10, hL, hx, hy, hb1⟩
    have G1 : Hid (ClsAt _ _ w1 a len L) := hL
    have B1 : Hid (Below w.heap.size w w1) := hb1
    clear hL hb1 w0
    have e1 : (upB L x y != upB L x y) = false := by simp
    have e2 : (upB L x y == upB L x y) = true := by simp
    go_wp2_with fail
    refine (classUpImpl _ _ _ _ _ L _ G1.out).mono ?_
    rintro e w2 ⟨rfl, hb2⟩
    have G2 : Hid (ClsAt _ _ w2 a len L) := G1.out.later hb2
    have B2 : Hid (Below w.heap.size w w2) := B1.out.trans (hb2.mono B1.out.size)
    clear hb2
    go_wp2_with fail
    refine (classUpSpec _ _ _ _ _ L _ G2.out).mono ?_
    rintro e w3 ⟨rfl, hb3⟩
    have G3 : Hid (ClsAt _ _ w3 a len L) := G2.out.later hb3
    have B3 : Hid (Below w.heap.size w w3) := B2.out.trans (hb3.mono B2.out.size)
    clear hb3
    go_wp2_with fail
    refine (leIs _ _ _ _ L _ G3.out).mono ?_
    rintro e w4 ⟨rfl, hb4⟩
    have G4 : Hid (ClsAt _ _ w4 a len L) := G3.out.later hb4
    have B4 : Hid (Below w.heap.size w w4) := B3.out.trans (hb4.mono B3.out.size)
    clear hb4
    cases hX : isB L x
    · go_wp2_with fail
      refine (classUpSpec _ _ _ _ _ L _ G4.out).mono ?_
      rintro e w5 ⟨rfl, hb5⟩
      go_wp2_with fail
      go_ret
      exact ⟨rfl, B4.out.trans (hb5.mono B4.out.size)⟩
    · go_wp2_with fail
      refine (leIs _ _ _ _ L _ G4.out).mono ?_
      rintro e w5 ⟨rfl, hb5⟩
      have G5 : Hid (ClsAt _ _ w5 a len L) := G4.out.later hb5
      have B5 : Hid (Below w.heap.size w w5) := B4.out.trans (hb5.mono B4.out.size)
      clear hb5
      cases hY : isB L y
      · go_wp2_with fail
        refine (classUpSpec _ _ _ _ _ L _ G5.out).mono ?_
        rintro e w6 ⟨rfl, hb6⟩
        go_wp2_with fail
        go_ret
        exact ⟨rfl, B5.out.trans (hb6.mono B5.out.size)⟩
      · obtain ⟨m, rfl, hm, ok⟩ := isB_nat hX
        obtain ⟨k, rfl, hk, _⟩ := isB_nat hY
        have HS : Hid (L.length = len) := G5.out.size
        have HM : Hid (upB L m k = ((m == k) || decide (0 < m) && upB L (cl L m).1 k)) := upB_step ok m k hm hk
        obtain ⟨b, off, rfl, hc⟩ : ∃ b off, a = some ⟨b, off, none⟩ ∧ ∀ i, i < len → w5.cell? ⟨b, off + i * 2, none⟩ = some (.int .i64 (cl L i).1) := by
          rcases G5.out.cells with h0 | ⟨b, off, ha, _, hc⟩
          · omega
          · exact ⟨b, off, ha, fun i hi => (hc i hi).1⟩
        have hml : m < len := by rw [← HS.out]; exact hm
        have hcm := hc m hml
        clear hc ok
        by_cases hmk : m = k
        · subst hmk
          have e3 : ((m : Int) == m) = true := by simp
          have e4 : upB L m m = true := by rw [HM.out]; simp
          go_wp2_with fail
          go_ret
          exact ⟨rfl, B5.out⟩
        · have e3 : ((m : Int) == k) = false := by simp; omega
          by_cases h0 : 0 < m
          · have e4 : (upB L m k == upB L (cl L m).1 k) = true := by
              rw [HM.out]
              simp [hmk, h0]
            go_wp2_with fail
            refine (classUpImpl _ _ _ _ _ L _ G5.out).mono ?_
            rintro e w6 ⟨rfl, hb6⟩
            go_wp2_with fail
            go_ret
            exact ⟨rfl, B5.out.trans (hb6.mono B5.out.size)⟩
          · have e4 : upB L m k = false := by
              rw [HM.out]
              simp [hmk, h0]
            go_wp2_with fail
            go_ret
            exact ⟨rfl, B5.out⟩
  · go_enter Try.func3, Try.ntmps3
    go_wp2_with fail
    go_ret
    exact ⟨rfl, Below.refl _ _⟩

set_option maxRecDepth 100000 in
theorem lifted (os : Os) (started : os.Started) (H : Type) (enc : TypeId × Value → H) :
    ReturnsInHanded {} Try.checked os 3 .any (Rows.fnUpStepSpec.pre6 enc Try.prog Try.f3 Rows.fnUpStepRow.domain false) (Rows.fnUpStepSpec.post enc Try.prog Try.f3 false true false false) := by
  refine returnsInHanded_of_change (C := Try.checked) own started (by kernel_rfl) Try.func3
    (ChangeSpec.witness6 (enc := enc) (C := Try.checked) false ⟨#[], #[.slice none 0 0], []⟩ 8 (by kernel_rfl) (by kernel_rfl) (by kernel_rfl) (by kernel_rfl)) ?_
  intro W base args ds gs before hval0 hW hcnd _
  have hval : ∀ (j : Nat) t v, Try.f3.params[j]? = some t → args[j]? = some v → Value.okWide Try.prog W .any base t v := hval0
  have hW' := hW
  obtain ⟨p, q, hA0, hV, rfl, hfz, hnd⟩ := hW
  have hA : DataW.TrodAll enc Try.prog W 0 (fun _ => true) true Try.f3.params.toList args.toList ds p := hA0
  rw [Try.params3] at hA hval
  obtain ⟨v0, vs0, d0, ds0, p0, q0, hargs, rfl, rfl, h0, r0⟩ := trodAll_cons hA
  obtain ⟨rfl, rfl, rfl⟩ := trodAll_nil r0
  obtain rfl : args = #[v0] := by cases args; simp_all
  obtain ⟨rfl, rfl⟩ := trodVars_none hV
  obtain ⟨a0, len0, cap0, rfl⟩ := okWide_slice Try.underlying22 (hval 0 22 v0 rfl rfl)
  have k0 := h0
  have lt0 : ∀ x ∈ p0, x.block < W.heap.size := by obtain ⟨m, hm⟩ := k0; exact DataW.trod_lt m _ _ _ hm
  obtain ⟨z0, w0⟩ : ∃ zs, IsRow .u8 W a0 len0 cap0 zs := by
    obtain ⟨fuel, hf⟩ := h0
    rcases open_ints Try.underlying22 Try.underlying5 (by kernel_rfl) hf with ⟨hcs, _⟩ | ⟨x, l, c, zs, hcs, _, hl, hm, hz, _, hcell, hwz⟩
    · simp [Value.cells] at hcs
      obtain ⟨rfl, rfl, rfl⟩ := hcs
      exact ⟨[], .inl ⟨rfl, rfl, rfl, rfl⟩⟩
    · simp [Value.cells] at hcs
      obtain ⟨rfl, rfl, rfl⟩ := hcs
      exact ⟨zs, .inr ⟨_, rfl, hl, hm, by simpa using hz, hcell, hwz⟩⟩
  clear hA0 hval0
  refine (walk a0 len0 cap0 z0 W w0).mono fun e W' ⟨he, bel⟩ => ?_
  subst he
  exact ⟨_, rfl, _, _, _, [], _, [], hW', trodAll_mk1 (shut_bool Try.underlying4 _), (trodAll_cons_mk (Below.trod laidOut (by kernel_rfl) (of_decide_eq_true (by kernel_rfl)) k0 bel lt0) trodAll_mk0), rfl, bel.frame _, fun h => by cases h⟩

theorem over : Rows.fnUpStepRow.holds Try.pinned (OpenSpec.ofChange Rows.fnUpStepSpec) :=
  OpenClaim.holds_of_wide 3 Try.f3 rfl rfl rfl rfl rfl rfl rfl ⟨rfl, rfl, rfl, rfl, rfl⟩ rfl rfl rfl rfl rfl (by kernel_rfl) Try.func3 (by kernel_rfl)
    (of_decide_eq_true (by kernel_rfl)) (by unfold Func.isWrapper; first | (rw [if_pos (by decide +kernel)]; kernel_rfl) | (rw [if_neg (by decide +kernel)]; exact ⟨rfl, rfl⟩))
    (fun os started H enc _ => lifted os started H enc)

theorem proved : Rows.FnUpStepSaid := over
end Go.Proofs.Ytglggjkmgdpbfaa.fnUpStep

namespace Go.Proofs.Ytglggjkmgdpbfaa
theorem fnUpStep_holds : Rows.FnUpStepSaid := fnUpStep.proved
#print axioms fnUpStep_holds
end Go.Proofs.Ytglggjkmgdpbfaa
