/-
  At every list of classes and every two numbers TypeIn of the program answers as TypeIn of the specification and changes no argument, and the law FnExactTypeIn returns true; no condition.
-/
import Derived.Test.YtcmjhgpkpiadmaaImplT
import Derived.Test.YtcmjhgpkpiadmaaRdCls
namespace Go.Proofs.Ytcmjhgpkpiadmaa.fnExactTypeIn
open Go.ChangeShapes Go.WideShapes Go.ChangeAt Go.RowKit
set_option linter.unusedVariables false

set_option maxRecDepth 100000 in
theorem walk (a : Option Addr) (len cap : Nat) (x y : Int) (L : List Cl) (w : World) {D E : Nat → Prop} (h : ClsAt D E w a len L) (hx : -9223372036854775808 ≤ x ∧ x ≤ 9223372036854775807) (hy : -9223372036854775808 ≤ y ∧ y ≤ 9223372036854775807) :
    Calls Try.prog 6 #[.slice a len cap, .int .i64 x, .int .i64 y] w fun e w' => e = .returned (.bool true) ∧ Below w.heap.size w w' := by
  have H : Hid (ClsAt D E w a len L) := h
  clear h
  have e1 : (tyInB L x y != tyInB L x y) = false := by simp
  go_enter Try.func6, Try.ntmps6
  go_wp2_with fail
  refine (szCls _ _ _ L _ H.out).mono ?_
  rintro e w1 ⟨r, rfl, r0, r1, hsz, hb1⟩
  have B1 : Hid (Below w.heap.size w w1) := hb1
  have HSZ : Hid (0 ≤ r → len ≤ 1048576 ∧ ∀ i, i < len → (cl L i).2.length ≤ 1048576) := hsz
  clear hb1 hsz
  by_cases hr : r < 0
  · go_wp2_with fail
    go_ret
    exact ⟨rfl, B1.out⟩
  · obtain ⟨hl, hf⟩ := HSZ.out (by omega)
    have HL : Hid (∀ i, i < len → (cl L i).2.length ≤ 1048576) := hf
    clear hf
    go_wp2_with fail
    refine (toCls _ _ _ L _ (H.out.later B1.out) hl HL.out).mono ?_
    rintro e w2 ⟨rfl, hc2, hb2⟩
    have C2 : Hid (ClsAt _ _ w2 _ len L) := hc2
    have B2 : Hid (Below w.heap.size w w2) := B1.out.trans (hb2.mono B1.out.size)
    clear hc2 hb2
    go_wp2_with fail
    refine (typeInSpec _ _ _ _ _ L _ C2.out).mono ?_
    rintro e w3 ⟨rfl, hb3⟩
    have B3 : Hid (Below w.heap.size w w3) := B2.out.trans (hb3.mono B2.out.size)
    clear hb3
    go_wp2_with fail
    refine (toCls _ _ _ L _ (H.out.later B3.out) hl HL.out).mono ?_
    rintro e w4 ⟨rfl, hc4, hb4⟩
    have C4 : Hid (ClsAt _ _ w4 _ len L) := hc4
    have B4 : Hid (Below w.heap.size w w4) := B3.out.trans (hb4.mono B3.out.size)
    clear hc4 hb4
    go_wp2_with fail
    refine (typeInImpl _ _ _ _ _ L _ C4.out).mono ?_
    rintro e w5 ⟨rfl, hb5⟩
    have C5 : Hid (ClsAt _ _ w5 _ len L) := C4.out.later hb5
    have B5 : Hid (Below w.heap.size w w5) := B4.out.trans (hb5.mono B4.out.size)
    clear hb5
    go_wp2_with fail
    refine (toCls _ _ _ L _ (H.out.later B5.out) hl HL.out).mono ?_
    rintro e w6 ⟨rfl, hc6, hb6⟩
    have C6 : Hid (ClsAt _ _ w6 _ len L) := hc6
    have C7 : Hid (ClsAt _ _ w6 _ len L) := C5.out.later hb6
    have B6 : Hid (Below w.heap.size w w6) := B5.out.trans (hb6.mono B5.out.size)
    clear hc6 hb6
    go_wp2_with fail
    refine (eqCls _ _ _ L _ _ _ L _ C7.out C6.out).mono ?_
    rintro e w7 ⟨rfl, hb7⟩
    rw [decide_eq_true (rfl : L = L)]
    go_wp2_with fail
    go_ret
    exact ⟨rfl, B6.out.trans (hb7.mono B6.out.size)⟩

set_option maxRecDepth 100000 in
theorem lifted (os : Os) (started : os.Started) (H : Type) (enc : TypeId × Value → H) :
    ReturnsInHanded {} Try.checked os 6 .any (Rows.fnExactTypeInSpec.pre6 enc Try.prog Try.f6 Rows.fnExactTypeInRow.domain false) (Rows.fnExactTypeInSpec.post enc Try.prog Try.f6 false true false false) := by
  refine returnsInHanded_of_change (C := Try.checked) own started (by kernel_rfl) Try.func6
    (ChangeSpec.witness6 (enc := enc) (C := Try.checked) false ⟨#[], #[.slice none 0 0, .int .i64 0, .int .i64 0], []⟩ 8 (by kernel_rfl) (by kernel_rfl) (by kernel_rfl) (by kernel_rfl)) ?_
  intro W base args ds gs before hval0 hW hcnd _
  have hval : ∀ (j : Nat) t v, Try.f6.params[j]? = some t → args[j]? = some v → Value.okWide Try.prog W .any base t v := hval0
  have hW' := hW
  obtain ⟨p, q, hA0, hV, rfl, hfz, hnd⟩ := hW
  have hA : DataW.TrodAll enc Try.prog W 0 (fun _ => true) true Try.f6.params.toList args.toList ds p := hA0
  rw [Try.params6] at hA hval
  obtain ⟨v0, vs0, d0, ds0, p0, q0, hargs, rfl, rfl, h0, r0⟩ := trodAll_cons hA
  obtain ⟨v1, vs1, d1, ds1, p1, q1, rfl, rfl, rfl, h1, r1⟩ := trodAll_cons r0
  obtain ⟨v2, vs2, d2, ds2, p2, q2, rfl, rfl, rfl, h2, r2⟩ := trodAll_cons r1
  obtain ⟨rfl, rfl, rfl⟩ := trodAll_nil r2
  obtain rfl : args = #[v0, v1, v2] := by cases args; simp_all
  obtain ⟨rfl, rfl⟩ := trodVars_none hV
  have k0 := h0
  have lt0 : ∀ x ∈ p0, x.block < W.heap.size := by obtain ⟨m, hm⟩ := k0; exact DataW.trod_lt m _ _ _ hm
  obtain ⟨a0, len0, cap0, L, rfl, w0⟩ := clsOf h0 (okWide_slice Try.underlying31 (hval 0 31 v0 rfl rfl))
  obtain ⟨a1, rfl, rfl, rfl, w1⟩ := open_int Try.underlying3 (hval 1 3 v1 rfl rfl) h1
  obtain ⟨a2, rfl, rfl, rfl, w2⟩ := open_int Try.underlying3 (hval 2 3 v2 rfl rfl) h2
  clear hA0 hval0
  refine (walk a0 len0 cap0 a1 a2 L W w0 (bounds_i64 w1) (bounds_i64 w2)).mono fun e W' ⟨he, bel⟩ => ?_
  subst he
  exact ⟨_, rfl, _, _, _, [], _, [], hW', trodAll_mk1 (shut_bool Try.underlying4 _), (trodAll_cons_mk (Below.trod laidOut (by kernel_rfl) (of_decide_eq_true (by kernel_rfl)) k0 bel lt0) (trodAll_cons_mk (shut_int Try.underlying3 w1) (trodAll_cons_mk (shut_int Try.underlying3 w2) trodAll_mk0))), rfl, bel.frame _, fun h => by cases h⟩

theorem over : Rows.fnExactTypeInRow.holds Try.pinned (OpenSpec.ofChange Rows.fnExactTypeInSpec) :=
  OpenClaim.holds_of_wide 6 Try.f6 rfl rfl rfl rfl rfl rfl rfl ⟨rfl, rfl, rfl, rfl, rfl⟩ rfl rfl rfl rfl rfl (by kernel_rfl) Try.func6 (by kernel_rfl)
    (of_decide_eq_true (by kernel_rfl)) (by unfold Func.isWrapper; first | (rw [if_pos (by decide +kernel)]; kernel_rfl) | (rw [if_neg (by decide +kernel)]; exact ⟨rfl, rfl⟩))
    (fun os started H enc _ => lifted os started H enc)
theorem proved : Rows.FnExactTypeInSaid := over
end Go.Proofs.Ytcmjhgpkpiadmaa.fnExactTypeIn

namespace Go.Proofs.Ytcmjhgpkpiadmaa
theorem fnExactTypeIn_holds : Rows.FnExactTypeInSaid := fnExactTypeIn.proved
#print axioms fnExactTypeIn_holds
end Go.Proofs.Ytcmjhgpkpiadmaa
