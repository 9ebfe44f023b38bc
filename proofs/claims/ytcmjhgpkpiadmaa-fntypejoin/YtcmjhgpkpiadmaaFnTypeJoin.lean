/-
  For every code: of the classes and types that are drawn of it TypeJoin of the program keeps promise 10, so the law FnTypeJoin returns true and leaves the code as it was; no condition.
-/
import Derived.Test.YtcmjhgpkpiadmaaImplT
import Derived.Test.YtcmjhgpkpiadmaaDrTy
import Derived.Test.YtcmjhgpkpiadmaaLeCls
import Derived.Test.YtcmjhgpkpiadmaaClsMath
import Derived.WalkKit
import Derived.ProofKit
import Derived.OpenShut
import Derived.ShutString
import Derived.ChangeOld
import Derived.Below
namespace Go.Proofs.Ytcmjhgpkpiadmaa.fnTypeJoin
open Go.ChangeShapes Go.WideShapes Go.ChangeAt Go.RowKit
open Go.ChangeMaps (open_string shut_string)
set_option linter.unusedVariables false

theorem own : ownKnob Try.prog.godebug = none := by kernel_rfl
theorem laidOut : laidOutB Try.prog = true := by kernel_rfl



set_option maxRecDepth 100000 in
set_option maxHeartbeats 1000000 in
theorem walk (a0 : Option Addr) (len0 cap0 : Nat) (z0 : List Int) (w : World) (w0 : IsRow .u8 w a0 len0 cap0 z0) :
    Calls Try.prog 5 #[.slice a0 len0 cap0] w fun e w' => e = .returned (.bool true) ∧ Below w.heap.size w w' := by
  by_cases hl0 : len0 ≤ 1048576
  · go_enter Try.func5, Try.ntmps5
    go_wp2_with fail
    refine (drawTyJoin a0 len0 cap0 z0 w w0).mono ?_
    rintro e w1 ⟨a, len, cap, L, x, y, rfl, l1, l10, hL, hx, hy, hb1⟩
    have G1 : Hid (ClsAt _ _ w1 a len L) := hL
    have B1 : Hid (Below w.heap.size w w1) := hb1
    clear hL hb1 w0
    have e1 : (tyJoinV L x y != tyJoinV L x y) = false := by simp
    have e2 : (tyJoinV L x y == tyJoinV L x y) = true := by simp
    go_wp2_with fail
    refine (typeJoinImpl _ _ _ _ _ L _ G1.out).mono ?_
    rintro e w2 ⟨rfl, hb2⟩
    have G2 : Hid (ClsAt _ _ w2 a len L) := G1.out.later hb2
    have B2 : Hid (Below w.heap.size w w2) := B1.out.trans (hb2.mono B1.out.size)
    clear hb2
    go_wp2_with fail
    refine (typeJoinSpec _ _ _ _ _ L _ G2.out).mono ?_
    rintro e w3 ⟨rfl, hb3⟩
    have G3 : Hid (ClsAt _ _ w3 a len L) := G2.out.later hb3
    have B3 : Hid (Below w.heap.size w w3) := B2.out.trans (hb3.mono B2.out.size)
    clear hb3
    go_wp2_with fail
    refine (typeOkSpec _ _ _ _ L _ G3.out).mono ?_
    rintro e w4 ⟨rfl, hb4⟩
    have G4 : Hid (ClsAt _ _ w4 a len L) := G3.out.later hb4
    have B4 : Hid (Below w.heap.size w w4) := B3.out.trans (hb4.mono B3.out.size)
    clear hb4
    cases hX : tyB L x
    · go_wp2_with fail
      refine (typeJoinSpec _ _ _ _ _ L _ G4.out).mono ?_
      rintro e w5 ⟨rfl, hb5⟩
      have G5 : Hid (ClsAt _ _ w5 a len L) := G4.out.later hb5
      have B5 : Hid (Below w.heap.size w w5) := B4.out.trans (hb5.mono B4.out.size)
      clear hb5
      go_wp2_with fail
      go_ret
      exact ⟨rfl, B5.out⟩
    · go_wp2_with fail
      refine (typeOkSpec _ _ _ _ L _ G4.out).mono ?_
      rintro e w5 ⟨rfl, hb5⟩
      have G5 : Hid (ClsAt _ _ w5 a len L) := G4.out.later hb5
      have B5 : Hid (Below w.heap.size w w5) := B4.out.trans (hb5.mono B4.out.size)
      clear hb5
      cases hY : tyB L y
      · go_wp2_with fail
        refine (typeJoinSpec _ _ _ _ _ L _ G5.out).mono ?_
        rintro e w6 ⟨rfl, hb6⟩
        have G6 : Hid (ClsAt _ _ w6 a len L) := G5.out.later hb6
        have B6 : Hid (Below w.heap.size w w6) := B5.out.trans (hb6.mono B5.out.size)
        clear hb6
        go_wp2_with fail
        go_ret
        exact ⟨rfl, B6.out⟩
      · have OK : Hid (clsOk L = true) := tyB_ok hX
        have TX : Hid (Ty L x) := Ty.of hX
        have TY : Hid (Ty L y) := Ty.of hY
        have g0 := ok_len OK.out
        have HS : Hid (L.length = len) := G5.out.size
        have T0 : Hid (Ty L 0) := ⟨by omega, by omega, by omega⟩
        obtain ⟨j1, j2, j3⟩ := meet_least OK.out TX.out TY.out
        have jt := meet_ty OK.out TX.out TY.out
        have jc := meet_comm OK.out TX.out TY.out
        have jm := meet_of OK.out TX.out jt j1
        have fj : tyJoinV L x y = meetV L x y := by rw [tyJoinV, hX, hY]; rfl
        have fk : tyJoinV L y x = meetV L x y := by rw [tyJoinV, hX, hY, jc]; rfl
        have fm : tyJoinV L (meetV L x y) x = meetV L x y := by rw [tyJoinV, hX, jt.tyB OK.out]; exact jm
        generalize meetV L x y = z at *
        clear jc jm
        have TZ : Hid (Ty L z) := jt
        have z0 := jt.low
        have z1 := jt.high
        have e8 : (z != z) = false := by simp
        have e9 : (z == z) = true := by simp
        have f1 : tyInB L x z = true := by rw [tyIn_of OK.out TX.out jt]; exact j1
        have f2 : tyInB L y z = true := by rw [tyIn_of OK.out TY.out jt]; exact j2
        have J3 : Hid (∀ c, Ty L c → inB L x c = true → inB L y c = true → inB L z c = true) := j3
        have zb : z ≤ 1000 := by omega
        have g5 : len ≤ 5 := by rw [← HS.out]; exact g0.2
        clear j1 j2 j3 jt g0 z1
        go_wp2_with fail
        refine (typeInImpl _ _ _ _ _ L _ G5.out).mono ?_
        rintro e w6 ⟨rfl, hb6⟩
        have G6 : Hid (ClsAt _ _ w6 a len L) := G5.out.later hb6
        have B6 : Hid (Below w.heap.size w w6) := B5.out.trans (hb6.mono B5.out.size)
        clear hb6
        rw [f1]
        go_wp2_with fail
        refine (typeInImpl _ _ _ _ _ L _ G6.out).mono ?_
        rintro e w7 ⟨rfl, hb7⟩
        have G7 : Hid (ClsAt _ _ w7 a len L) := G6.out.later hb7
        have B7 : Hid (Below w.heap.size w w7) := B6.out.trans (hb7.mono B6.out.size)
        clear hb7
        rw [f2]
        go_wp2_with fail
        refine (typeJoinImpl _ _ _ _ _ L _ G7.out).mono ?_
        rintro e w8 ⟨rfl, hb8⟩
        have G8 : Hid (ClsAt _ _ w8 a len L) := G7.out.later hb8
        have B8 : Hid (Below w.heap.size w w8) := B7.out.trans (hb8.mono B7.out.size)
        clear hb8
        rw [fk]
        go_wp2_with fail
        go_loopw [7] (fun t wr => ∃ c : Nat, c ≤ 8 + len ∧ t = .int .i64 c ∧ Below w8.heap.size w8 wr) (fun t _ => 8 + len - (intOf t).toNat)
        case atStart => exact ⟨0, by omega, rfl, Below.refl _ _⟩
        case round =>
          obtain ⟨c, hc, rfl, hb⟩ := hrel
          have GR : Hid (ClsAt _ _ wr a len L) := G8.out.later hb
          have BR : Hid (Below w.heap.size w wr) := B8.out.trans (hb.mono B8.out.size)
          have HB : Hid (Below w8.heap.size w8 wr) := hb
          clear hb
          by_cases hlt : c < 8 + len
          · have hcb : (c : Int) < 8 + len := by omega
            cases h1 : tyInB L x c
            · go_wp2_with fail
              refine (typeInImpl _ _ _ _ _ L _ GR.out).mono ?_
              rintro e v1 ⟨rfl, hb1⟩
              have K1 : Hid (ClsAt _ _ v1 a len L) := GR.out.later hb1
              have C1 : Hid (Below w8.heap.size w8 v1) := HB.out.trans (hb1.mono HB.out.size)
              clear hb1
              rw [h1]
              go_wp2_with fail
              exact ⟨⟨c + 1, by omega, by go_num, C1.out⟩, by simp [intOf]; omega⟩
            · go_wp2_with fail
              refine (typeInImpl _ _ _ _ _ L _ GR.out).mono ?_
              rintro e v1 ⟨rfl, hb1⟩
              have K1 : Hid (ClsAt _ _ v1 a len L) := GR.out.later hb1
              have C1 : Hid (Below w8.heap.size w8 v1) := HB.out.trans (hb1.mono HB.out.size)
              clear hb1
              rw [h1]
              cases h2 : tyInB L y c
              · go_wp2_with fail
                refine (typeInImpl _ _ _ _ _ L _ K1.out).mono ?_
                rintro e v2 ⟨rfl, hb2⟩
                have K2 : Hid (ClsAt _ _ v2 a len L) := K1.out.later hb2
                have C2 : Hid (Below w8.heap.size w8 v2) := C1.out.trans (hb2.mono C1.out.size)
                clear hb2
                rw [h2]
                go_wp2_with fail
                exact ⟨⟨c + 1, by omega, by go_num, C2.out⟩, by simp [intOf]; omega⟩
              · have f9 : tyInB L z c = true := by
                  have hX1 : tyB L c = true := by
                    unfold tyInB at h1
                    rw [Bool.and_eq_true, Bool.and_eq_true] at h1
                    exact h1.2.1
                  have tc := Ty.of hX1
                  rw [tyIn_of OK.out TX.out tc] at h1
                  rw [tyIn_of OK.out TY.out tc] at h2
                  rw [tyIn_of OK.out TZ.out tc]
                  exact J3.out c tc h1 h2
                go_wp2_with fail
                refine (typeInImpl _ _ _ _ _ L _ K1.out).mono ?_
                rintro e v2 ⟨rfl, hb2⟩
                have K2 : Hid (ClsAt _ _ v2 a len L) := K1.out.later hb2
                have C2 : Hid (Below w8.heap.size w8 v2) := C1.out.trans (hb2.mono C1.out.size)
                clear hb2
                rw [h2]
                go_wp2_with fail
                refine (typeInImpl _ _ _ _ _ L _ K2.out).mono ?_
                rintro e v3 ⟨rfl, hb3⟩
                have K3 : Hid (ClsAt _ _ v3 a len L) := K2.out.later hb3
                have C3 : Hid (Below w8.heap.size w8 v3) := C2.out.trans (hb3.mono C2.out.size)
                clear hb3
                rw [f9]
                go_wp2_with fail
                exact ⟨⟨c + 1, by omega, by go_num, C3.out⟩, by simp [intOf]; omega⟩
          · go_wp2_with fail
            refine (typeJoinImpl _ _ _ _ _ L _ GR.out).mono ?_
            rintro e v1 ⟨rfl, hb1⟩
            rw [fm]
            go_wp2_with fail
            go_ret
            exact ⟨rfl, BR.out.trans (hb1.mono BR.out.size)⟩
  · go_enter Try.func5, Try.ntmps5
    go_wp2_with fail
    go_ret
    exact ⟨rfl, Below.refl _ _⟩

set_option maxRecDepth 100000 in
theorem lifted (os : Os) (started : os.Started) (H : Type) (enc : TypeId × Value → H) :
    ReturnsInHanded {} Try.checked os 5 .any (Rows.fnTypeJoinSpec.pre6 enc Try.prog Try.f5 Rows.fnTypeJoinRow.domain false) (Rows.fnTypeJoinSpec.post enc Try.prog Try.f5 false true false false) := by
  refine returnsInHanded_of_change (C := Try.checked) own started (by kernel_rfl) Try.func5
    (ChangeSpec.witness6 (enc := enc) (C := Try.checked) false ⟨#[], #[.slice none 0 0], []⟩ 8 (by kernel_rfl) (by kernel_rfl) (by kernel_rfl) (by kernel_rfl)) ?_
  intro W base args ds gs before hval0 hW hcnd _
  have hval : ∀ (j : Nat) t v, Try.f5.params[j]? = some t → args[j]? = some v → Value.okWide Try.prog W .any base t v := hval0
  have hW' := hW
  obtain ⟨p, q, hA0, hV, rfl, hfz, hnd⟩ := hW
  have hA : DataW.TrodAll enc Try.prog W 0 (fun _ => true) true Try.f5.params.toList args.toList ds p := hA0
  rw [Try.params5] at hA hval
  obtain ⟨v0, vs0, d0, ds0, p0, q0, hargs, rfl, rfl, h0, r0⟩ := trodAll_cons hA
  obtain ⟨rfl, rfl, rfl⟩ := trodAll_nil r0
  obtain rfl : args = #[v0] := by cases args; simp_all
  obtain ⟨rfl, rfl⟩ := trodVars_none hV
  obtain ⟨a0, len0, cap0, rfl⟩ := okWide_slice Try.underlying22 (hval 0 22 v0 rfl rfl)
  have k0 := h0
  have lt0 : ∀ x ∈ p0, x.block < W.heap.size := by obtain ⟨m, hm⟩ := k0; exact DataW.trod_lt m _ _ _ hm
  obtain ⟨z0, w0⟩ : ∃ zs, IsRow .u8 W a0 len0 cap0 zs := by
    obtain ⟨fuel, hf⟩ := h0
    rcases open_ints Try.underlying22 Try.underlying5 (by kernel_rfl) hf with ⟨hcs, _⟩ | ⟨x, l, c, zs, hcs, _, hl, hm, hz, _, hcell, hwz⟩
    · simp [Value.cells] at hcs
      obtain ⟨rfl, rfl, rfl⟩ := hcs
      exact ⟨[], .inl ⟨rfl, rfl, rfl, rfl⟩⟩
    · simp [Value.cells] at hcs
      obtain ⟨rfl, rfl, rfl⟩ := hcs
      exact ⟨zs, .inr ⟨_, rfl, hl, hm, by simpa using hz, hcell, hwz⟩⟩
  clear hA0 hval0
  refine (walk a0 len0 cap0 z0 W w0).mono fun e W' ⟨he, bel⟩ => ?_
  subst he
  exact ⟨_, rfl, _, _, _, [], _, [], hW', trodAll_mk1 (shut_bool Try.underlying4 _), (trodAll_cons_mk (Below.trod laidOut (by kernel_rfl) (of_decide_eq_true (by kernel_rfl)) k0 bel lt0) trodAll_mk0), rfl, bel.frame _, fun h => by cases h⟩

theorem over : Rows.fnTypeJoinRow.holds Try.pinned (OpenSpec.ofChange Rows.fnTypeJoinSpec) :=
  OpenClaim.holds_of_wide 5 Try.f5 rfl rfl rfl rfl rfl rfl rfl ⟨rfl, rfl, rfl, rfl, rfl⟩ rfl rfl rfl rfl rfl (by kernel_rfl) Try.func5 (by kernel_rfl)
    (of_decide_eq_true (by kernel_rfl)) (by unfold Func.isWrapper; first | (rw [if_pos (by decide +kernel)]; kernel_rfl) | (rw [if_neg (by decide +kernel)]; exact ⟨rfl, rfl⟩))
    (fun os started H enc _ => lifted os started H enc)

theorem proved : Rows.FnTypeJoinSaid := over
end Go.Proofs.Ytcmjhgpkpiadmaa.fnTypeJoin

namespace Go.Proofs.Ytcmjhgpkpiadmaa
theorem fnTypeJoin_holds : Rows.FnTypeJoinSaid := fnTypeJoin.proved
#print axioms fnTypeJoin_holds
end Go.Proofs.Ytcmjhgpkpiadmaa
