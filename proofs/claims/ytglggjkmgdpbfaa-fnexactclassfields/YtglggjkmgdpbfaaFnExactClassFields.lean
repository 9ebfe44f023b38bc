/-
  At every list of classes and every number ClassFields of the program answers as ClassFields of the specification, changes no argument, and gives memory of its own, and the law FnExactClassFields returns true; no condition.
-/
import Derived.Test.YtglggjkmgdpbfaaFldImplT
import Derived.Test.YtglggjkmgdpbfaaMark
import Derived.Test.YtglggjkmgdpbfaaRdCls
namespace Go.Proofs.Ytglggjkmgdpbfaa.fnExactClassFields
open Go.ChangeShapes Go.WideShapes Go.ChangeAt Go.RowKit
set_option linter.unusedVariables false

set_option maxRecDepth 100000 in
theorem walk (a : Option Addr) (len cap : Nat) (x : Int) (L : List Cl) (w : World) {D E : Nat → Prop} (h : ClsAt D E w a len L) :
    Calls Try.prog 13 #[.slice a len cap, .int .i64 x] w fun e w' => e = .returned (.bool true) ∧ Below w.heap.size w w' := by
  have H : Hid (ClsAt D E w a len L) := h
  obtain ⟨hfit, hfl⟩ := h.fldV x
  have HFit : Hid (FitsAll (fldV L x)) := hfit
  obtain ⟨nf, hnf⟩ : ∃ n, (fldV L x).length = n := ⟨_, rfl⟩
  rw [hnf] at hfl
  have HN : Hid ((fldV L x).length = nf) := hnf
  clear h hfit hnf
  go_enter Try.func13, Try.ntmps13
  go_wp2_with fail
  refine (szCls _ _ _ L _ H.out).mono ?_
  rintro e w1 ⟨r, rfl, r0, r1, hsz, hb1⟩
  have B1 : Hid (Below w.heap.size w w1) := hb1
  have HSZ : Hid (0 ≤ r → len ≤ 1048576 ∧ ∀ i, i < len → (cl L i).2.length ≤ 1048576) := hsz
  clear hb1 hsz
  by_cases hr : r < 0
  · go_wp2_with fail
    go_ret
    exact ⟨rfl, B1.out⟩
  · obtain ⟨hl, hf⟩ := HSZ.out (by omega)
    have HL : Hid (∀ i, i < len → (cl L i).2.length ≤ 1048576) := hf
    clear hf
    go_wp2_with fail
    refine (toCls _ _ _ L _ (H.out.later B1.out) hl HL.out).mono ?_
    rintro e w2 ⟨rfl, hc2, hb2⟩
    have C2 : Hid (ClsAt _ _ w2 _ len L) := hc2
    have B2 : Hid (Below w.heap.size w w2) := B1.out.trans (hb2.mono B1.out.size)
    clear hc2 hb2
    go_wp2_with fail
    refine (classFieldsSpec _ _ _ _ L _ C2.out).mono ?_
    rintro e w3 ⟨v3, rfl, hn⟩
    have hown := hn.1
    rw [HN.out] at hown
    obtain ⟨ya, yc, rfl, _⟩ := ints_of_own hown (by omega) HFit.out
    have Y3 : Hid (Wr w3 ya nf (fun j => (fldV L x).getD j 0)) := Wr.of hown
    have YB : Hid (∀ z, ya = some z → 0 < nf → z.block < w3.heap.size) := fun z e hp => by
      subst e
      rcases Y3.out.cells with h0 | ⟨b, off, e, hc⟩
      · omega
      · cases e; exact World.block_lt_of_cell? w3 _ (hc 0 hp).1
    have B3 : Hid (Below w.heap.size w w3) := B2.out.trans (hn.2.mono B2.out.size)
    clear hn hown
    go_wp2_with fail
    refine (toClsC _ _ _ L _ (H.out.later B3.out) hl HL.out).mono ?_
    rintro e w4 ⟨rfl, hc4, hb4, hs4⟩
    have X4 : Hid (Cop w3.heap.size len w4 L len) := hc4
    have C4 : Hid (ClsAt _ _ w4 _ len L) := hc4.toCls (H.out.later B3.out) hl HL.out
    have Y4 : Hid (Wr w4 ya nf (fun j => (fldV L x).getD j 0)) := Y3.out.later hb4
    have B4 : Hid (Below w.heap.size w w4) := B3.out.trans (hb4.mono B3.out.size)
    have S4 : w3.heap.size < w4.heap.size := hs4
    clear hc4 hb4 hs4
    go_wp2_with fail
    refine (classFieldsImpl _ _ _ _ L _ C4.out).mono ?_
    rintro e w5 ⟨v5, rfl, hn⟩
    have hown := hn.1
    rw [HN.out] at hown
    obtain ⟨ga, gc, rfl, hIg⟩ := ints_of_own hown (by omega) HFit.out
    have G5 : Hid (Wr w5 ga nf (fun j => (fldV L x).getD j 0)) := Wr.of hown
    have GB : Hid (∀ z, ga = some z → 0 < nf → w4.heap.size ≤ z.block) := fun z e hp => by
      subst e
      rcases hIg.cells with h0 | ⟨b, off, e, hd, _⟩
      · omega
      · cases e; exact hd
    have Y5 : Hid (Wr w5 ya nf (fun j => (fldV L x).getD j 0)) := Y4.out.later hn.2
    have b5 : Hid (Below w4.heap.size w4 w5) := hn.2
    have B5 : Hid (Below w.heap.size w w5) := B4.out.trans (hn.2.mono B4.out.size)
    have S5 : w4.heap.size ≤ w5.heap.size := hn.2.size
    clear hn hown hIg
    go_wp2_with fail
    refine (eqInts _ _ _ (fldV L x) _ _ _ (fldV L x) _ (G5.out.ints HN.out (by omega) HFit.out) (Y5.out.ints HN.out (by omega) HFit.out)).mono ?_
    rintro e w6 ⟨rfl, n6, h6⟩
    have b6 : Below w5.heap.size w5 w6 := by subst h6; exact below_drewN (Below.refl _ _) _
    have G6 : Hid (Wr w6 ga nf (fun j => (fldV L x).getD j 0)) := G5.out.later b6
    have Y6 : Hid (Wr w6 ya nf (fun j => (fldV L x).getD j 0)) := Y5.out.later b6
    have c6 : Hid (Below w4.heap.size w4 w6) := b5.out.trans (b6.mono S5)
    have B6 : Hid (Below w.heap.size w w6) := B5.out.trans (b6.mono B5.out.size)
    have S6 : w4.heap.size ≤ w6.heap.size := Nat.le_trans S5 b6.size
    clear b6 h6
    rw [decide_eq_true (rfl : fldV L x = fldV L x)]
    go_wp2_with fail
    refine (toCls _ _ _ L _ (H.out.later B6.out) hl HL.out).mono ?_
    rintro e w7 ⟨rfl, hc7, hb7⟩
    have D7 : Hid (ClsAt _ _ w7 _ len L) := hc7
    have C7 : Hid (ClsAt _ _ w7 _ len L) := C4.out.later (c6.out.trans (hb7.mono S6))
    have G7 : Hid (Wr w7 ga nf (fun j => (fldV L x).getD j 0)) := G6.out.later hb7
    have Y7 : Hid (Wr w7 ya nf (fun j => (fldV L x).getD j 0)) := Y6.out.later hb7
    have c7 : Hid (Below w4.heap.size w4 w7) := c6.out.trans (hb7.mono S6)
    have B7 : Hid (Below w.heap.size w w7) := B6.out.trans (hb7.mono B6.out.size)
    have S7 : w4.heap.size ≤ w7.heap.size := Nat.le_trans S6 hb7.size
    clear hc7 hb7
    go_wp2_with fail
    refine (eqCls _ _ _ L _ _ _ L _ C7.out D7.out).mono ?_
    rintro e w8 ⟨rfl, hb8⟩
    have G8 : Hid (Wr w8 ga nf (fun j => (fldV L x).getD j 0)) := G7.out.later hb8
    have Y8 : Hid (Wr w8 ya nf (fun j => (fldV L x).getD j 0)) := Y7.out.later hb8
    have c8 : Hid (Below w4.heap.size w4 w8) := c7.out.trans (hb8.mono S7)
    have B8 : Hid (Below w.heap.size w w8) := B7.out.trans (hb8.mono B7.out.size)
    have S8 : w4.heap.size ≤ w8.heap.size := Nat.le_trans S7 hb8.size
    clear hb8
    rw [decide_eq_true (rfl : L = L)]
    go_wp2_with fail
    refine (markCls w3.heap.size len _ w4.heap.size w8 (X4.out.mk rfl HL.out c8.out) hl S4 S8).mono ?_
    rintro e w9 ⟨km, rfl, km0, ch9, s9⟩
    have G9 : Hid (Wr w9 ga nf (fun j => (fldV L x).getD j 0)) := G8.out.ch ch9 (fun z e hp h => by have := GB.out z e hp; omega)
    have Y9 : Hid (Wr w9 ya nf (fun j => (fldV L x).getD j 0)) := Y8.out.ch ch9 (fun z e hp h => by have := YB.out z e hp; omega)
    have h39 := B3.out.size
    have B9 : Hid (Below w.heap.size w w9) := B8.out.trans (ch9.below B8.out.size (fun i hi h => by omega))
    have S9 : w4.heap.size ≤ w9.heap.size := Nat.le_trans S8 ch9.size
    clear ch9 s9
    go_wp2_with fail
    refine (eqInts _ _ _ (fldV L x) _ _ _ (fldV L x) _ (G9.out.ints HN.out (by omega) HFit.out) (Y9.out.ints HN.out (by omega) HFit.out)).mono ?_
    rintro e w10 ⟨rfl, n10, h10⟩
    have b10 : Below w9.heap.size w9 w10 := by subst h10; exact below_drewN (Below.refl _ _) _
    have G10 : Hid (Wr w10 ga nf (fun j => (fldV L x).getD j 0)) := G9.out.later b10
    have Y10 : Hid (Wr w10 ya nf (fun j => (fldV L x).getD j 0)) := Y9.out.later b10
    have B10 : Hid (Below w.heap.size w w10) := B9.out.trans (b10.mono B9.out.size)
    clear b10 h10
    rw [decide_eq_true (rfl : fldV L x = fldV L x)]
    go_wp2_with fail
    refine (markInts _ _ _ _ _ _ G10.out (by omega) (by omega) (by omega)).mono ?_
    rintro e w11 ⟨rfl, g11, ch11, s11, _⟩
    have G11 : Hid (Wr w11 ga nf (fun j => 1 + j)) := g11
    have Y11 : Hid (Wr w11 ya nf (fun j => (fldV L x).getD j 0)) := Y10.out.ch ch11 (fun z e hp h => by
      obtain ⟨y, hy, hyb, _⟩ := h
      have h1 := GB.out y hy hp
      have h2 := YB.out z e hp
      omega)
    have B11 : Hid (Below w.heap.size w w11) := B10.out.trans (ch11.below B10.out.size (fun i hi h => by
      obtain ⟨y, hy, hyb, hp⟩ := h
      have h1 := GB.out y hy hp
      omega))
    clear g11 ch11 s11
    go_wp2_with fail
    refine (heldInts _ _ _ _ _ G11.out (by omega) (by omega) (by omega)).mono ?_
    rintro e w12 ⟨rfl, rfl⟩
    have e9 : ((1 + (nf : Int)) != (1 + (nf : Int))) = false := by simp
    have e8 : 0 ≤ 1 + (nf : Int) := by omega
    go_wp2_with fail
    refine (toCls _ _ _ L _ (H.out.later B11.out) hl HL.out).mono ?_
    rintro e w13 ⟨rfl, hc13, hb13⟩
    have C13 : Hid (ClsAt _ _ w13 _ len L) := hc13
    have G13 : Hid (Wr w13 ga nf (fun j => 1 + j)) := G11.out.later hb13
    have Y13 : Hid (Wr w13 ya nf (fun j => (fldV L x).getD j 0)) := Y11.out.later hb13
    have B13 : Hid (Below w.heap.size w w13) := B11.out.trans (hb13.mono B11.out.size)
    clear hc13 hb13
    go_wp2_with fail
    refine (classFieldsImpl _ _ _ _ L _ C13.out).mono ?_
    rintro e w14 ⟨v14, rfl, hn⟩
    have hown := hn.1
    rw [HN.out] at hown
    obtain ⟨ha, hc, rfl, hIh⟩ := ints_of_own hown (by omega) HFit.out
    have I14 : Hid (IntsAt _ w14 ha nf (fldV L x)) := hIh
    have G14 : Hid (Wr w14 ga nf (fun j => 1 + j)) := G13.out.later hn.2
    have Y14 : Hid (Wr w14 ya nf (fun j => (fldV L x).getD j 0)) := Y13.out.later hn.2
    have B14 : Hid (Below w.heap.size w w14) := B13.out.trans (hn.2.mono B13.out.size)
    clear hn hown hIh
    go_wp2_with fail
    refine (eqInts _ _ _ (fldV L x) _ _ _ (fldV L x) _ I14.out (Y14.out.ints HN.out (by omega) HFit.out)).mono ?_
    rintro e w15 ⟨rfl, n15, h15⟩
    have b15 : Below w14.heap.size w14 w15 := by subst h15; exact below_drewN (Below.refl _ _) _
    have G15 : Hid (Wr w15 ga nf (fun j => 1 + j)) := G14.out.later b15
    have B15 : Hid (Below w.heap.size w w15) := B14.out.trans (b15.mono B14.out.size)
    clear b15 h15
    rw [decide_eq_true (rfl : fldV L x = fldV L x)]
    go_wp2_with fail
    refine (heldInts _ _ _ _ _ G15.out (by omega) (by omega) (by omega)).mono ?_
    rintro e w16 ⟨rfl, rfl⟩
    go_wp2_with fail
    go_ret
    exact ⟨rfl, B15.out⟩

set_option maxRecDepth 100000 in
theorem lifted (os : Os) (started : os.Started) (H : Type) (enc : TypeId × Value → H) :
    ReturnsInHanded {} Try.checked os 13 .any (Rows.fnExactClassFieldsSpec.pre6 enc Try.prog Try.f13 Rows.fnExactClassFieldsRow.domain false) (Rows.fnExactClassFieldsSpec.post enc Try.prog Try.f13 false true false false) := by
  refine returnsInHanded_of_change (C := Try.checked) own started (by kernel_rfl) Try.func13
    (ChangeSpec.witness6 (enc := enc) (C := Try.checked) false ⟨#[], #[.slice none 0 0, .int .i64 0], []⟩ 8 (by kernel_rfl) (by kernel_rfl) (by kernel_rfl) (by kernel_rfl)) ?_
  intro W base args ds gs before hval0 hW hcnd _
  have hval : ∀ (j : Nat) t v, Try.f13.params[j]? = some t → args[j]? = some v → Value.okWide Try.prog W .any base t v := hval0
  have hW' := hW
  obtain ⟨p, q, hA0, hV, rfl, hfz, hnd⟩ := hW
  have hA : DataW.TrodAll enc Try.prog W 0 (fun _ => true) true Try.f13.params.toList args.toList ds p := hA0
  rw [Try.params13] at hA hval
  obtain ⟨v0, vs0, d0, ds0, p0, q0, hargs, rfl, rfl, h0, r0⟩ := trodAll_cons hA
  obtain ⟨v1, vs1, d1, ds1, p1, q1, rfl, rfl, rfl, h1, r1⟩ := trodAll_cons r0
  obtain ⟨rfl, rfl, rfl⟩ := trodAll_nil r1
  obtain rfl : args = #[v0, v1] := by cases args; simp_all
  obtain ⟨rfl, rfl⟩ := trodVars_none hV
  have k0 := h0
  have lt0 : ∀ x ∈ p0, x.block < W.heap.size := by obtain ⟨m, hm⟩ := k0; exact DataW.trod_lt m _ _ _ hm
  obtain ⟨a0, len0, cap0, L, rfl, w0⟩ := clsOf h0 (okWide_slice Try.underlying39 (hval 0 39 v0 rfl rfl))
  obtain ⟨a1, rfl, rfl, rfl, w1⟩ := open_int Try.underlying3 (hval 1 3 v1 rfl rfl) h1
  clear hA0 hval0
  refine (walk a0 len0 cap0 a1 L W w0).mono fun e W' ⟨he, bel⟩ => ?_
  subst he
  exact ⟨_, rfl, _, _, _, [], _, [], hW', trodAll_mk1 (shut_bool Try.underlying4 _), (trodAll_cons_mk (Below.trod laidOut (by kernel_rfl) (of_decide_eq_true (by kernel_rfl)) k0 bel lt0) (trodAll_cons_mk (shut_int Try.underlying3 w1) trodAll_mk0)), rfl, bel.frame _, fun h => by cases h⟩

theorem over : Rows.fnExactClassFieldsRow.holds Try.pinned (OpenSpec.ofChange Rows.fnExactClassFieldsSpec) :=
  OpenClaim.holds_of_wide 13 Try.f13 rfl rfl rfl rfl rfl rfl rfl ⟨rfl, rfl, rfl, rfl, rfl⟩ rfl rfl rfl rfl rfl (by kernel_rfl) Try.func13 (by kernel_rfl)
    (of_decide_eq_true (by kernel_rfl)) (by unfold Func.isWrapper; first | (rw [if_pos (by decide +kernel)]; kernel_rfl) | (rw [if_neg (by decide +kernel)]; exact ⟨rfl, rfl⟩))
    (fun os started H enc _ => lifted os started H enc)
theorem proved : Rows.FnExactClassFieldsSaid := over
end Go.Proofs.Ytglggjkmgdpbfaa.fnExactClassFields

namespace Go.Proofs.Ytglggjkmgdpbfaa
theorem fnExactClassFields_holds : Rows.FnExactClassFieldsSaid := fnExactClassFields.proved
#print axioms fnExactClassFields_holds
end Go.Proofs.Ytglggjkmgdpbfaa
