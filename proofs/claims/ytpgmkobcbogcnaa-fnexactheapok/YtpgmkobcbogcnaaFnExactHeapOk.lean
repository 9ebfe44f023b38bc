/-
  At every list of things and of roots HeapOk of the program answers as HeapOk of the specification and changes no argument, and the law FnExactHeapOk returns true; no condition.
-/
import Derived.Test.YtpgmkobcbogcnaaHpImpl
import Derived.Test.YtpgmkobcbogcnaaRdCls
namespace Go.Proofs.Ytpgmkobcbogcnaa.fnExactHeapOk
open Go.ChangeShapes Go.WideShapes Go.ChangeAt Go.RowKit
set_option linter.unusedVariables false

set_option maxRecDepth 100000 in
set_option maxHeartbeats 8000000 in
theorem walk (a : Option Addr) (len cap : Nat) (b : Option Addr) (m d : Nat) (X : List Ob) (r : List Vl) (w : World) {D : Nat → Prop} (h : SlAt obR D w a len X) (g : SlAt vaR D w b m r) :
    Calls Try.prog 7 #[.slice a len cap, .slice b m d] w fun e w' => e = .returned (.bool true) ∧ Below w.heap.size w w' := by
  have H : Hid (SlAt obR D w a len X) := h
  have G : Hid (SlAt vaR D w b m r) := g
  clear h g
  have e1 : (heapB X r != heapB X r) = false := by simp
  go_enter Try.func7, Try.ntmps7
  go_wp2_with fail
  refine (szLObj _ _ _ X _ _ H.out (by omega) (by omega)).mono ?_
  rintro e w0 ⟨q, rfl, q0, q1, qm, hb⟩
  have B : Hid (Below w.heap.size w w0) := hb
  clear hb
  have M0 : Hid (0 ≤ q → (Rep.list obR).small X) := qm
  clear qm
  by_cases hq : q < 0
  · go_wp2_with fail
    go_ret
    exact ⟨rfl, B.out⟩
  go_wp2_with fail
  refine (szLVal _ _ _ r _ _ (G.out.later B.out) (by omega) (by omega)).mono ?_
  rintro e w1 ⟨t, rfl, t0, t1, tm, hb⟩
  replace B : Hid (Below w.heap.size w w1) := B.out.trans (hb.mono B.out.size)
  clear hb
  have M1 : Hid (0 ≤ t → (Rep.list vaR).small r) := tm
  clear tm
  by_cases ht : t < 0
  · go_wp2_with fail
    go_ret
    exact ⟨rfl, B.out⟩
  have SX : Hid ((Rep.list obR).small X) := M0.out (by omega)
  have SR : Hid ((Rep.list vaR).small r) := M1.out (by omega)
  clear M0 M1
  go_wp2_with fail
  refine (toLObj _ _ _ X _ (H.out.later B.out) SX.out).mono ?_
  rintro e w2 ⟨Ta, Tc, rfl, hS, hb⟩
  replace B : Hid (Below w.heap.size w w2) := B.out.trans (hb.mono B.out.size)
  have T : Hid (SlAt obR _ w2 Ta len X) := hS
  clear hb hS
  go_wp2_with fail
  refine (toLVal _ _ _ r _ (G.out.later B.out) SR.out).mono ?_
  rintro e w3 ⟨Ua, Uc, rfl, hS, hb⟩
  replace B : Hid (Below w.heap.size w w3) := B.out.trans (hb.mono B.out.size)
  replace T : Hid (SlAt obR _ w3 Ta len X) := T.out.later hb
  have U : Hid (SlAt vaR _ w3 Ua m r) := hS
  clear hb hS
  go_wp2_with fail
  refine (heapSpec _ _ _ _ _ _ X r _ T.out U.out).mono ?_
  rintro e w4 ⟨rfl, hb⟩
  replace B : Hid (Below w.heap.size w w4) := B.out.trans (hb.mono B.out.size)
  clear hb T U
  go_wp2_with fail
  refine (toLObj _ _ _ X _ (H.out.later B.out) SX.out).mono ?_
  rintro e w5 ⟨Ta, Tc, rfl, hS, hb⟩
  replace B : Hid (Below w.heap.size w w5) := B.out.trans (hb.mono B.out.size)
  have T : Hid (SlAt obR _ w5 Ta len X) := hS
  clear hb hS
  go_wp2_with fail
  refine (toLVal _ _ _ r _ (G.out.later B.out) SR.out).mono ?_
  rintro e w6 ⟨Ua, Uc, rfl, hS, hb⟩
  replace B : Hid (Below w.heap.size w w6) := B.out.trans (hb.mono B.out.size)
  replace T : Hid (SlAt obR _ w6 Ta len X) := T.out.later hb
  have U : Hid (SlAt vaR _ w6 Ua m r) := hS
  clear hb hS
  go_wp2_with fail
  refine (heapImpl _ _ _ _ _ _ X r _ T.out U.out).mono ?_
  rintro e w7 ⟨rfl, hb⟩
  replace B : Hid (Below w.heap.size w w7) := B.out.trans (hb.mono B.out.size)
  replace T : Hid (SlAt obR _ w7 Ta len X) := T.out.later hb
  replace U : Hid (SlAt vaR _ w7 Ua m r) := U.out.later hb
  clear hb
  go_wp2_with fail
  refine (toLObj _ _ _ X _ (H.out.later B.out) SX.out).mono ?_
  rintro e w8 ⟨Ya, Yc, rfl, hS, hb⟩
  replace B : Hid (Below w.heap.size w w8) := B.out.trans (hb.mono B.out.size)
  replace T : Hid (SlAt obR _ w8 Ta len X) := T.out.later hb
  replace U : Hid (SlAt vaR _ w8 Ua m r) := U.out.later hb
  have Y : Hid (SlAt obR _ w8 Ya len X) := hS
  clear hb hS
  go_wp2_with fail
  refine (eqLObj _ _ _ _ _ _ X _ T.out Y.out).mono ?_
  rintro e w9 ⟨rfl, hb⟩
  replace B : Hid (Below w.heap.size w w9) := B.out.trans (hb.mono B.out.size)
  replace U : Hid (SlAt vaR _ w9 Ua m r) := U.out.later hb
  clear hb T Y
  go_wp2_with fail
  refine (toLVal _ _ _ r _ (G.out.later B.out) SR.out).mono ?_
  rintro e w10 ⟨Za, Zc, rfl, hS, hb⟩
  replace B : Hid (Below w.heap.size w w10) := B.out.trans (hb.mono B.out.size)
  replace U : Hid (SlAt vaR _ w10 Ua m r) := U.out.later hb
  have Z : Hid (SlAt vaR _ w10 Za m r) := hS
  clear hb hS
  go_wp2_with fail
  refine (eqLVal _ _ _ _ _ _ r _ U.out Z.out).mono ?_
  rintro e w11 ⟨rfl, hb⟩
  replace B : Hid (Below w.heap.size w w11) := B.out.trans (hb.mono B.out.size)
  clear hb U Z
  go_wp2_with fail
  go_ret
  exact ⟨rfl, B.out⟩

/-- What came in, read. -/
theorem slOf {α : Type} {R : Rep α} {t : TypeId} (hr : Reads t (.list R)) {H : Type} {enc : TypeId × Value → H} {W : World} {a : Option Addr} {len cap : Nat} {d : DataW H} {p : List MemPlace} (h : DataW.Trod enc Try.prog W 0 (fun _ => true) true t (.slice a len cap) d p) : ∃ xs, SlAt R (fun _ => True) W a len xs := by
  obtain ⟨fuel, hf⟩ := h
  obtain ⟨xs, a', l', c', e, hS⟩ := hr _ _ _ _ _ _ hf
  simp [Value.cells] at e
  obtain ⟨rfl, rfl, rfl⟩ := e
  exact ⟨xs, hS⟩

set_option maxRecDepth 100000 in
theorem lifted (os : Os) (started : os.Started) (H : Type) (enc : TypeId × Value → H) :
    ReturnsInHanded {} Try.checked os 7 .any (Rows.fnExactHeapOkSpec.pre6 enc Try.prog Try.f7 Rows.fnExactHeapOkRow.domain false) (Rows.fnExactHeapOkSpec.post enc Try.prog Try.f7 false true false false) := by
  refine returnsInHanded_of_change (C := Try.checked) own started (by kernel_rfl) Try.func7
    (ChangeSpec.witness6 (enc := enc) (C := Try.checked) false ⟨#[], #[.slice none 0 0, .slice none 0 0], []⟩ 8 (by kernel_rfl) (by kernel_rfl) (by kernel_rfl) (by kernel_rfl)) ?_
  intro W base args ds gs before hval0 hW hcnd _
  have hval : ∀ (j : Nat) t v, Try.f7.params[j]? = some t → args[j]? = some v → Value.okWide Try.prog W .any base t v := hval0
  have hW' := hW
  obtain ⟨p, q, hA0, hV, rfl, hfz, hnd⟩ := hW
  have hA : DataW.TrodAll enc Try.prog W 0 (fun _ => true) true Try.f7.params.toList args.toList ds p := hA0
  rw [Try.params7] at hA hval
  obtain ⟨v0, vs0, d0, ds0, p0, q0, hargs, rfl, rfl, h0, r0⟩ := trodAll_cons hA
  obtain ⟨v1, vs1, d1, ds1, p1, q1, rfl, rfl, rfl, h1, r1⟩ := trodAll_cons r0
  obtain ⟨rfl, rfl, rfl⟩ := trodAll_nil r1
  obtain rfl : args = #[v0, v1] := by cases args; simp_all
  obtain ⟨rfl, rfl⟩ := trodVars_none hV
  have k0 := h0
  have lt0 : ∀ x ∈ p0, x.block < W.heap.size := by obtain ⟨m, hm⟩ := k0; exact DataW.trod_lt m _ _ _ hm
  have k1 := h1
  have lt1 : ∀ x ∈ p1, x.block < W.heap.size := by obtain ⟨m, hm⟩ := k1; exact DataW.trod_lt m _ _ _ hm
  obtain ⟨a0, len0, cap0, rfl⟩ := okWide_slice Try.underlying38 (hval 0 38 v0 rfl rfl)
  obtain ⟨X, w0⟩ := slOf rdL_Obj h0
  obtain ⟨a1, len1, cap1, rfl⟩ := okWide_slice Try.underlying39 (hval 1 39 v1 rfl rfl)
  obtain ⟨r, w1⟩ := slOf rdL_Val h1
  clear hA0 hval0
  refine (walk a0 len0 cap0 a1 len1 cap1 X r W w0 w1).mono fun e W' ⟨he, bel⟩ => ?_
  subst he
  exact ⟨_, rfl, _, _, _, [], _, [], hW', trodAll_mk1 (shut_bool Try.underlying4 _), (trodAll_cons_mk (Below.trod laidOut (by kernel_rfl) (of_decide_eq_true (by kernel_rfl)) k0 bel lt0) (trodAll_cons_mk (Below.trod laidOut (by kernel_rfl) (of_decide_eq_true (by kernel_rfl)) k1 bel lt1) trodAll_mk0)), rfl, bel.frame _, fun h => by cases h⟩

theorem over : Rows.fnExactHeapOkRow.holds Try.pinned (OpenSpec.ofChange Rows.fnExactHeapOkSpec) :=
  OpenClaim.holds_of_wide 7 Try.f7 rfl rfl rfl rfl rfl rfl rfl ⟨rfl, rfl, rfl, rfl, rfl⟩ rfl rfl rfl rfl rfl (by kernel_rfl) Try.func7 (by kernel_rfl)
    (of_decide_eq_true (by kernel_rfl)) (by unfold Func.isWrapper; first | (rw [if_pos (by decide +kernel)]; kernel_rfl) | (rw [if_neg (by decide +kernel)]; exact ⟨rfl, rfl⟩))
    (fun os started H enc _ => lifted os started H enc)
theorem proved : Rows.FnExactHeapOkSaid := over
end Go.Proofs.Ytpgmkobcbogcnaa.fnExactHeapOk

namespace Go.Proofs.Ytpgmkobcbogcnaa
theorem fnExactHeapOk_holds : Rows.FnExactHeapOkSaid := fnExactHeapOk.proved
#print axioms fnExactHeapOk_holds
end Go.Proofs.Ytpgmkobcbogcnaa
