/-
  For every code: of the classes that are drawn of it ClassFields of the program keeps promise 6, so the law FnFieldsAbove returns true and leaves the code as it was; no condition.
-/
import Derived.Test.YtglggjkmgdpbfaaFldImplT
import Derived.Test.YtglggjkmgdpbfaaLeCls
import Derived.Test.YtglggjkmgdpbfaaClsMath
import Derived.WalkKit
import Derived.ProofKit
import Derived.OpenShut
import Derived.ShutString
import Derived.ChangeOld
import Derived.Below
namespace Go.Proofs.Ytglggjkmgdpbfaa.fnFieldsAbove
open Go.ChangeShapes Go.WideShapes Go.ChangeAt Go.RowKit
open Go.ChangeMaps (open_string shut_string)
set_option linter.unusedVariables false

theorem own : ownKnob Try.prog.godebug = none := by kernel_rfl
theorem laidOut : laidOutB Try.prog = true := by kernel_rfl



set_option maxRecDepth 100000 in
set_option maxHeartbeats 1000000 in
theorem walk (a0 : Option Addr) (len0 cap0 : Nat) (z0 : List Int) (w : World) (w0 : IsRow .u8 w a0 len0 cap0 z0) :
    Calls Try.prog 5 #[.slice a0 len0 cap0] w fun e w' => e = .returned (.bool true) ∧ Below w.heap.size w w' := by
  by_cases hl0 : len0 ≤ 1048576
  · go_enter Try.func5, Try.ntmps5
    go_wp2_with fail
    refine (drawFl a0 len0 cap0 z0 w w0).mono ?_
    rintro e w1 ⟨a, len, cap, L, x, rfl, l1, l10, hL, hx, hb1⟩
    have G1 : Hid (ClsAt _ _ w1 a len L) := hL
    have B1 : Hid (Below w.heap.size w w1) := hb1
    obtain ⟨hfit, hlen⟩ := hL.fldV x
    have HFit : Hid (FitsAll (fldV L x)) := hfit
    obtain ⟨nf, hnf⟩ : ∃ n, (fldV L x).length = n := ⟨_, rfl⟩
    rw [hnf] at hlen
    have HN : Hid ((fldV L x).length = nf) := hnf
    clear hL hb1 w0 hfit hnf
    go_wp2_with fail
    refine (classFieldsImpl _ _ _ _ L _ G1.out).mono ?_
    rintro e w2 ⟨v, rfl, hn⟩
    have hown := hn.1
    rw [HN.out] at hown
    obtain ⟨fa, fc, rfl, hI⟩ := ints_of_own hown (by omega) HFit.out
    have F2 : Hid (IntsAt _ w2 fa nf (fldV L x)) := hI
    have G2 : Hid (ClsAt _ _ w2 a len L) := G1.out.later hn.2
    have B2 : Hid (Below w.heap.size w w2) := B1.out.trans (hn.2.mono B1.out.size)
    clear hn hI hown
    go_wp2_with fail
    refine (classFieldsSpec _ _ _ _ L _ G2.out).mono ?_
    rintro e w3 ⟨v3, rfl, hn⟩
    have hown := hn.1
    rw [HN.out] at hown
    obtain ⟨fa3, fc3, rfl, hI⟩ := ints_of_own hown (by omega) HFit.out
    have F3 : Hid (IntsAt _ w3 fa nf (fldV L x)) := F2.out.later hn.2
    have S3 : Hid (IntsAt _ w3 fa3 nf (fldV L x)) := hI
    have G3 : Hid (ClsAt _ _ w3 a len L) := G2.out.later hn.2
    have B3 : Hid (Below w.heap.size w w3) := B2.out.trans (hn.2.mono B2.out.size)
    clear hn hI hown
    go_wp2_with fail
    refine (leInts _ _ _ (fldV L x) _ _ _ (fldV L x) _ F3.out S3.out).mono ?_
    rintro e w4 ⟨rfl, n4, h4⟩
    have hb4 : Below w3.heap.size w3 w4 := by subst h4; exact below_drewN (Below.refl _ _) _
    have F4 : Hid (IntsAt _ w4 fa nf (fldV L x)) := F3.out.later hb4
    have G4 : Hid (ClsAt _ _ w4 a len L) := G3.out.later hb4
    have B4 : Hid (Below w.heap.size w w4) := B3.out.trans (hb4.mono B3.out.size)
    clear hb4 h4
    rw [decide_eq_true (rfl : fldV L x = fldV L x)]
    go_wp2_with fail
    refine (leIs _ _ _ _ L _ G4.out).mono ?_
    rintro e w5 ⟨rfl, hb5⟩
    have F5 : Hid (IntsAt _ w5 fa nf (fldV L x)) := F4.out.later hb5
    have G5 : Hid (ClsAt _ _ w5 a len L) := G4.out.later hb5
    have B5 : Hid (Below w.heap.size w w5) := B4.out.trans (hb5.mono B4.out.size)
    clear hb5
    by_cases hgo : isB L x = true ∧ x ≠ 0
    · obtain ⟨hX, hx0⟩ := hgo
      have e0 : (x == 0) = false := by simp [hx0]
      rw [hX]
      obtain ⟨m, rfl, hm, ok⟩ := isB_nat hX
      have HS : Hid (L.length = len) := G5.out.size
      have hml : m < len := by rw [← HS.out]; exact hm
      have hm1 : 1 ≤ m := by omega
      have hs := sup_lt ok m hm1 hm
      have hs1 := hs.1
      obtain ⟨b, off, rfl, hc1, ga, gl, gc, hc2, hIg⟩ : ∃ b off, a = some ⟨b, off, none⟩ ∧ w5.cell? ⟨b, off + m * 2, none⟩ = some (.int .i64 (cl L m).1) ∧ ∃ fa fl fc, w5.cell? ⟨b, off + m * 2 + 1, none⟩ = some (.slice fa fl fc) ∧ IntsAt _ w5 fa fl (cl L m).2 := by
        rcases G5.out.cells with h0 | ⟨b, off, ha, _, hc⟩
        · omega
        · exact ⟨b, off, ha, hc m hml⟩
      rw [hs.2] at hc1
      have hgl : gl ≤ 2 := by rw [← hIg.size]; exact own_short ok m hm
      have hbl := World.block_lt_of_cell? w5 _ hc1
      simp only at hbl
      have HI : Hid (IntsAt _ w5 ga gl (cl L m).2) := hIg
      have HE : Hid (fldV L (m : Int) = fldV L ((sup L m : Nat) : Int) ++ (cl L m).2) := by
        show _ = _
        rw [fldV, fldV, hX, isB_mk ok (sup L m) (by omega)]
        simpa using fld_step ok m hm hm1
      obtain ⟨pfit, plen⟩ := G5.out.fldV ((sup L m : Nat) : Int)
      have PFit : Hid (FitsAll (fldV L ((sup L m : Nat) : Int))) := pfit
      obtain ⟨np, hnp⟩ : ∃ n, (fldV L ((sup L m : Nat) : Int)).length = n := ⟨_, rfl⟩
      rw [hnp] at plen
      have HP : Hid ((fldV L ((sup L m : Nat) : Int)).length = np) := hnp
      clear hs ok hIg pfit hnp
      go_wp2_with fail
      refine (classFieldsImpl _ _ _ _ L _ G5.out).mono ?_
      rintro e w6 ⟨v6, rfl, hn⟩
      have hown := hn.1
      rw [HP.out] at hown
      obtain ⟨pa, pc, rfl, hI⟩ := ints_of_own hown (by omega) PFit.out
      have P6 : Hid (IntsAt _ w6 pa np (fldV L ((sup L m : Nat) : Int))) := hI
      have F6 : Hid (IntsAt _ w6 fa nf (fldV L m)) := F5.out.later hn.2
      have I6 : Hid (IntsAt _ w6 ga gl (cl L m).2) := HI.out.later hn.2
      have B6 : Hid (Below w.heap.size w w6) := B5.out.trans (hn.2.mono B5.out.size)
      have d6 : w6.cell? ⟨b, off + m * 2 + 1, none⟩ = some (.slice ga gl gc) := (hn.2.cell (p := ⟨b, off + m * 2 + 1, none⟩) hbl).trans hc2
      have s6 : b < w6.heap.size := Nat.lt_of_lt_of_le hbl hn.2.size
      clear hn hI hown hc1 hc2
      have KN : Hid (∀ w7, Below w6.heap.size w6 w7 → w7.cell? ⟨b, off + m * 2 + 1, none⟩ = some (.slice ga gl gc)) := fun w7 hb => (hb.cell (p := ⟨b, off + m * 2 + 1, none⟩) s6).trans d6
      have HFit2 : Hid (FitsAll (fldV L ((sup L m : Nat) : Int) ++ (cl L m).2)) := by show FitsAll _; rw [← HE.out]; exact HFit.out
      go_wp2_with fail
      go_region_law (first
        | (go_simp
           go_at_call 24
           refine (leInts _ _ _ (fldV L m) _ _ _ (fldV L ((sup L m : Nat) : Int) ++ (cl L m).2) _ (F6.out.later hb8) (ints_at_own hown8 (by omega) HFit2.out)).mono ?_
           rintro e w9 ⟨rfl, n9, h9⟩
           have B9 : Hid (Below w.heap.size w w9) := by subst h9; exact below_drewN (B6.out.trans (hb8.mono B6.out.size)) _
           clear h9
           rw [decide_eq_true HE.out])
        | (refine step_append_ints (by rfl) _ _ (by rfl) w6.heap.size (.slice (some ⟨w6.heap.size, 0, none⟩) 0 0) 0 [] (by rfl) ((World.ownsRow_lit (base := w6.heap.size) (e := 3) (size := 1) w6 #[] 0 (Nat.le_refl _) (by unfold maxLen; omega) rfl).drew) pa np pc (by rfl) (fldV L ((sup L m : Nat) : Int)) (P6.out.later (by go_grown)) (by omega) (by omega) (by simp) ?_
           intro a7 cap7 w7 hown7 hgrow7
           simp only [Nat.zero_add, List.nil_append] at hown7
           have hb7 : Below w6.heap.size w6 w7 := Below.grown (w := (w6.alloc (.cells #[] 3)).drew) (by go_grown) hgrow7 (by simp) (fun k e => by (simp [Value.ownBlock] at e; omega))
           have d7 := KN.out w7 hb7
           clear hgrow7)
        | (refine step_append_ints (by rfl) _ _ (by rfl) w6.heap.size (.slice a7 np cap7) np (fldV L ((sup L m : Nat) : Int)) (by rfl) hown7 ga gl gc (by rfl) (cl L m).2 (I6.out.later hb7) (by omega) (by omega) hb7.size ?_
           intro a8 cap8 w8 hown8 hgrow8
           have hb8 : Below w6.heap.size w6 w8 := hb7.grown hgrow8 hb7.size (fun k e => own_ge hown7 k e.symm)
           clear hgrow8))
      all_goals
        clear hown7 hown8 hb7 hb8 d7
        go_wp2_with fail
        go_ret
        exact ⟨rfl, B9.out⟩
    · have hret : Hid (isB L x = true → x = 0) := fun h => Classical.byContradiction fun h0 => hgo ⟨h, h0⟩
      clear hgo
      cases hX : isB L x
      · go_wp2_with fail
        refine (classFieldsSpec _ _ _ _ L _ G5.out).mono ?_
        rintro e w6 ⟨v3, rfl, hn⟩
        have hown := hn.1
        rw [HN.out] at hown
        obtain ⟨fa6, fc6, rfl, hI⟩ := ints_of_own hown (by omega) HFit.out
        have F6 : Hid (IntsAt _ w6 fa nf (fldV L x)) := F5.out.later hn.2
        have S6 : Hid (IntsAt _ w6 fa6 nf (fldV L x)) := hI
        have B6 : Hid (Below w.heap.size w w6) := B5.out.trans (hn.2.mono B5.out.size)
        clear hn hI hown
        go_wp2_with fail
        refine (leInts _ _ _ (fldV L x) _ _ _ (fldV L x) _ F6.out S6.out).mono ?_
        rintro e w7 ⟨rfl, n7, h7⟩
        have B7 : Hid (Below w.heap.size w w7) := by subst h7; exact below_drewN B6.out _
        clear h7
        rw [decide_eq_true (rfl : fldV L x = fldV L x)]
        go_wp2_with fail
        go_ret
        exact ⟨rfl, B7.out⟩
      · have hx0 := hret.out hX
        subst hx0
        go_wp2_with fail
        refine (classFieldsSpec _ _ _ _ L _ G5.out).mono ?_
        rintro e w6 ⟨v3, rfl, hn⟩
        have hown := hn.1
        rw [HN.out] at hown
        obtain ⟨fa6, fc6, rfl, hI⟩ := ints_of_own hown (by omega) HFit.out
        have F6 : Hid (IntsAt _ w6 fa nf (fldV L 0)) := F5.out.later hn.2
        have S6 : Hid (IntsAt _ w6 fa6 nf (fldV L 0)) := hI
        have B6 : Hid (Below w.heap.size w w6) := B5.out.trans (hn.2.mono B5.out.size)
        clear hn hI hown
        go_wp2_with fail
        refine (leInts _ _ _ (fldV L 0) _ _ _ (fldV L 0) _ F6.out S6.out).mono ?_
        rintro e w7 ⟨rfl, n7, h7⟩
        have B7 : Hid (Below w.heap.size w w7) := by subst h7; exact below_drewN B6.out _
        clear h7
        rw [decide_eq_true (rfl : fldV L 0 = fldV L 0)]
        go_wp2_with fail
        go_ret
        exact ⟨rfl, B7.out⟩
  · go_enter Try.func5, Try.ntmps5
    go_wp2_with fail
    go_ret
    exact ⟨rfl, Below.refl _ _⟩

set_option maxRecDepth 100000 in
theorem lifted (os : Os) (started : os.Started) (H : Type) (enc : TypeId × Value → H) :
    ReturnsInHanded {} Try.checked os 5 .any (Rows.fnFieldsAboveSpec.pre6 enc Try.prog Try.f5 Rows.fnFieldsAboveRow.domain false) (Rows.fnFieldsAboveSpec.post enc Try.prog Try.f5 false true false false) := by
  refine returnsInHanded_of_change (C := Try.checked) own started (by kernel_rfl) Try.func5
    (ChangeSpec.witness6 (enc := enc) (C := Try.checked) false ⟨#[], #[.slice none 0 0], []⟩ 8 (by kernel_rfl) (by kernel_rfl) (by kernel_rfl) (by kernel_rfl)) ?_
  intro W base args ds gs before hval0 hW hcnd _
  have hval : ∀ (j : Nat) t v, Try.f5.params[j]? = some t → args[j]? = some v → Value.okWide Try.prog W .any base t v := hval0
  have hW' := hW
  obtain ⟨p, q, hA0, hV, rfl, hfz, hnd⟩ := hW
  have hA : DataW.TrodAll enc Try.prog W 0 (fun _ => true) true Try.f5.params.toList args.toList ds p := hA0
  rw [Try.params5] at hA hval
  obtain ⟨v0, vs0, d0, ds0, p0, q0, hargs, rfl, rfl, h0, r0⟩ := trodAll_cons hA
  obtain ⟨rfl, rfl, rfl⟩ := trodAll_nil r0
  obtain rfl : args = #[v0] := by cases args; simp_all
  obtain ⟨rfl, rfl⟩ := trodVars_none hV
  obtain ⟨a0, len0, cap0, rfl⟩ := okWide_slice Try.underlying22 (hval 0 22 v0 rfl rfl)
  have k0 := h0
  have lt0 : ∀ x ∈ p0, x.block < W.heap.size := by obtain ⟨m, hm⟩ := k0; exact DataW.trod_lt m _ _ _ hm
  obtain ⟨z0, w0⟩ : ∃ zs, IsRow .u8 W a0 len0 cap0 zs := by
    obtain ⟨fuel, hf⟩ := h0
    rcases open_ints Try.underlying22 Try.underlying5 (by kernel_rfl) hf with ⟨hcs, _⟩ | ⟨x, l, c, zs, hcs, _, hl, hm, hz, _, hcell, hwz⟩
    · simp [Value.cells] at hcs
      obtain ⟨rfl, rfl, rfl⟩ := hcs
      exact ⟨[], .inl ⟨rfl, rfl, rfl, rfl⟩⟩
    · simp [Value.cells] at hcs
      obtain ⟨rfl, rfl, rfl⟩ := hcs
      exact ⟨zs, .inr ⟨_, rfl, hl, hm, by simpa using hz, hcell, hwz⟩⟩
  clear hA0 hval0
  refine (walk a0 len0 cap0 z0 W w0).mono fun e W' ⟨he, bel⟩ => ?_
  subst he
  exact ⟨_, rfl, _, _, _, [], _, [], hW', trodAll_mk1 (shut_bool Try.underlying4 _), (trodAll_cons_mk (Below.trod laidOut (by kernel_rfl) (of_decide_eq_true (by kernel_rfl)) k0 bel lt0) trodAll_mk0), rfl, bel.frame _, fun h => by cases h⟩

theorem over : Rows.fnFieldsAboveRow.holds Try.pinned (OpenSpec.ofChange Rows.fnFieldsAboveSpec) :=
  OpenClaim.holds_of_wide 5 Try.f5 rfl rfl rfl rfl rfl rfl rfl ⟨rfl, rfl, rfl, rfl, rfl⟩ rfl rfl rfl rfl rfl (by kernel_rfl) Try.func5 (by kernel_rfl)
    (of_decide_eq_true (by kernel_rfl)) (by unfold Func.isWrapper; first | (rw [if_pos (by decide +kernel)]; kernel_rfl) | (rw [if_neg (by decide +kernel)]; exact ⟨rfl, rfl⟩))
    (fun os started H enc _ => lifted os started H enc)

theorem proved : Rows.FnFieldsAboveSaid := over
end Go.Proofs.Ytglggjkmgdpbfaa.fnFieldsAbove

namespace Go.Proofs.Ytglggjkmgdpbfaa
theorem fnFieldsAbove_holds : Rows.FnFieldsAboveSaid := fnFieldsAbove.proved
#print axioms fnFieldsAbove_holds
end Go.Proofs.Ytglggjkmgdpbfaa
