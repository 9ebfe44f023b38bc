/-
  For every code: of the things that are drawn of it what HeapGraph leaves is all that is left, so the law FnGraphTwice returns true and leaves the code as it was; no condition.
-/
import Derived.Test.YtpgmkobcbogcnaaLawG
import Derived.WalkKit
import Derived.ProofKit
import Derived.OpenShut
import Derived.ShutString
import Derived.ChangeOld
import Derived.Below
namespace Go.Proofs.Ytpgmkobcbogcnaa.fnGraphTwice
open Go.ChangeShapes Go.WideShapes Go.ChangeAt Go.RowKit
open Go.ChangeMaps (open_string shut_string)
set_option linter.unusedVariables false

theorem own : ownKnob Try.prog.godebug = none := by kernel_rfl
theorem laidOut : laidOutB Try.prog = true := by kernel_rfl



set_option maxRecDepth 100000 in
set_option maxHeartbeats 1000000 in
theorem walk (a0 : Option Addr) (len0 cap0 : Nat) (z0 : List Int) (w : World) (w0 : IsRow .u8 w a0 len0 cap0 z0) :
    Calls Try.prog 3 #[.slice a0 len0 cap0] w fun e w' => e = .returned (.bool true) ∧ Below w.heap.size w w' := by
  by_cases hl0 : len0 ≤ 1048576
  case neg =>
    go_enter Try.func3, Try.ntmps3
    go_wp2_with fail
    go_ret
    exact ⟨rfl, Below.refl _ _⟩
  go_enter Try.func3, Try.ntmps3
  go_wp2_with fail
  refine (drawGraph a0 len0 cap0 z0 w w0).mono ?_
  rintro e w1 ⟨X, r, a, c, b, d, rfl, hX, hr, l1, l2, l3, hb1⟩
  have FW : Hid (Few X r) := ⟨by omega, fun x hx => by have := l2 x hx; omega, by omega⟩
  have B1 : Hid (Below w.heap.size w w1) := hb1
  have H1 : Hid (SlAt obR (fun _ => True) w1 a X.length X) := hX.mono (fun _ _ _ => trivial)
  have G1 : Hid (SlAt vaR (fun _ => True) w1 b r.length r) := hr.mono (fun _ _ _ => trivial)
  have T : Hid (gOf (gOf X r) (rOf X r) = gOf X r ∧ rOf (gOf X r) (rOf X r) = rOf X r ∧ heapB (gOf X r) (rOf X r) = true) := gTwice X r
  have hgl : (gOf X r).length ≤ X.length := gOf_len
  clear hX hr hb1 l2 w0
  go_wp2_with fail
  refine (graphI _ _ _ _ _ _ X r _ H1.out G1.out FW.out).mono ?_
  rintro e w2 ⟨xa, xc, ra, rc, rfl, hx2, hr2, hb2⟩
  have B2 : Hid (Below w1.heap.size w1 w2) := hb2
  have P2 : Hid (SlAt obR (fun _ => True) w2 xa (gOf X r).length (gOf X r)) := hx2
  have Q2 : Hid (SlAt vaR (fun _ => True) w2 ra (rOf X r).length (rOf X r)) := hr2
  clear hx2 hr2 hb2
  go_wp2_with fail
  refine (graphS _ _ _ _ _ _ X r _ (H1.out.later B2.out) (G1.out.later B2.out) FW.out).mono ?_
  rintro e w3 ⟨ya, yc, sa, sc, rfl, hx3, hr3, hb3⟩
  have B3 : Hid (Below w2.heap.size w2 w3) := hb3
  have P3 : Hid (SlAt obR (fun _ => True) w3 ya (gOf X r).length (gOf X r)) := hx3
  have Q3 : Hid (SlAt vaR (fun _ => True) w3 sa (rOf X r).length (rOf X r)) := hr3
  clear hx3 hr3 hb3
  go_wp2_with fail
  refine (leObjs _ _ _ _ _ _ (gOf X r) _ (P2.out.later B3.out) P3.out).mono ?_
  rintro e w4 ⟨rfl, hb4⟩
  have B4 : Hid (Below w3.heap.size w3 w4) := hb4
  clear hb4
  go_wp2_with fail
  refine (leVals _ _ _ _ _ _ (rOf X r) _ ((Q2.out.later B3.out).later B4.out) (Q3.out.later B4.out)).mono ?_
  rintro e w5 ⟨rfl, hb5⟩
  have B5 : Hid (Below w4.heap.size w4 w5) := hb5
  clear hb5
  have P5 : Hid (SlAt obR (fun _ => True) w5 xa (gOf X r).length (gOf X r)) := ((P2.out.later B3.out).later B4.out).later B5.out
  have Q5 : Hid (SlAt vaR (fun _ => True) w5 ra (rOf X r).length (rOf X r)) := ((Q2.out.later B3.out).later B4.out).later B5.out
  go_wp2_with fail
  refine (graphI _ _ _ _ _ _ (gOf X r) (rOf X r) _ P5.out Q5.out FW.out.gOf).mono ?_
  rw [T.out.1, T.out.2.1]
  rintro e w6 ⟨za, zc, ta, tc, rfl, hx6, hr6, hb6⟩
  have B6 : Hid (Below w5.heap.size w5 w6) := hb6
  have P6 : Hid (SlAt obR (fun _ => True) w6 za (gOf X r).length (gOf X r)) := hx6
  have Q6 : Hid (SlAt vaR (fun _ => True) w6 ta (rOf X r).length (rOf X r)) := hr6
  clear hx6 hr6 hb6
  go_wp2_with fail
  refine (leObjs _ _ _ _ _ _ (gOf X r) _ P6.out (P5.out.later B6.out)).mono ?_
  rintro e w7 ⟨rfl, hb7⟩
  have B7 : Hid (Below w6.heap.size w6 w7) := hb7
  clear hb7
  go_wp2_with fail
  refine (leVals _ _ _ _ _ _ (rOf X r) _ (Q6.out.later B7.out) ((Q5.out.later B6.out).later B7.out)).mono ?_
  rintro e w8 ⟨rfl, hb8⟩
  have B8 : Hid (Below w7.heap.size w7 w8) := hb8
  clear hb8
  have hle : decide (((gOf X r).length : Int) ≤ (X.length : Int)) = true := decide_eq_true (by omega)
  go_wp2_with fail
  refine (heapImpl _ _ _ _ _ _ (gOf X r) (rOf X r) _ (((P5.out.later B6.out).later B7.out).later B8.out) (((Q5.out.later B6.out).later B7.out).later B8.out)).mono ?_
  rintro e w9 ⟨rfl, hb9⟩
  have B9 : Hid (Below w8.heap.size w8 w9) := hb9
  clear hb9
  rw [T.out.2.2]
  go_wp2_with fail
  go_ret
  refine ⟨rfl, ?_⟩
  have s1 := B1.out
  have s2 := s1.trans (B2.out.mono s1.size)
  have s3 := s2.trans (B3.out.mono s2.size)
  have s4 := s3.trans (B4.out.mono s3.size)
  have s5 := s4.trans (B5.out.mono s4.size)
  have s6 := s5.trans (B6.out.mono s5.size)
  have s7 := s6.trans (B7.out.mono s6.size)
  have s8 := s7.trans (B8.out.mono s7.size)
  exact s8.trans (B9.out.mono s8.size)

set_option maxRecDepth 100000 in
theorem lifted (os : Os) (started : os.Started) (H : Type) (enc : TypeId × Value → H) :
    ReturnsInHanded {} Try.checked os 3 .any (Rows.fnGraphTwiceSpec.pre6 enc Try.prog Try.f3 Rows.fnGraphTwiceRow.domain false) (Rows.fnGraphTwiceSpec.post enc Try.prog Try.f3 false true false false) := by
  refine returnsInHanded_of_change (C := Try.checked) own started (by kernel_rfl) Try.func3
    (ChangeSpec.witness6 (enc := enc) (C := Try.checked) false ⟨#[], #[.slice none 0 0], []⟩ 8 (by kernel_rfl) (by kernel_rfl) (by kernel_rfl) (by kernel_rfl)) ?_
  intro W base args ds gs before hval0 hW hcnd _
  have hval : ∀ (j : Nat) t v, Try.f3.params[j]? = some t → args[j]? = some v → Value.okWide Try.prog W .any base t v := hval0
  have hW' := hW
  obtain ⟨p, q, hA0, hV, rfl, hfz, hnd⟩ := hW
  have hA : DataW.TrodAll enc Try.prog W 0 (fun _ => true) true Try.f3.params.toList args.toList ds p := hA0
  rw [Try.params3] at hA hval
  obtain ⟨v0, vs0, d0, ds0, p0, q0, hargs, rfl, rfl, h0, r0⟩ := trodAll_cons hA
  obtain ⟨rfl, rfl, rfl⟩ := trodAll_nil r0
  obtain rfl : args = #[v0] := by cases args; simp_all
  obtain ⟨rfl, rfl⟩ := trodVars_none hV
  obtain ⟨a0, len0, cap0, rfl⟩ := okWide_slice Try.underlying22 (hval 0 22 v0 rfl rfl)
  have k0 := h0
  have lt0 : ∀ x ∈ p0, x.block < W.heap.size := by obtain ⟨m, hm⟩ := k0; exact DataW.trod_lt m _ _ _ hm
  obtain ⟨z0, w0⟩ : ∃ zs, IsRow .u8 W a0 len0 cap0 zs := by
    obtain ⟨fuel, hf⟩ := h0
    rcases open_ints Try.underlying22 Try.underlying5 (by kernel_rfl) hf with ⟨hcs, _⟩ | ⟨x, l, c, zs, hcs, _, hl, hm, hz, _, hcell, hwz⟩
    · simp [Value.cells] at hcs
      obtain ⟨rfl, rfl, rfl⟩ := hcs
      exact ⟨[], .inl ⟨rfl, rfl, rfl, rfl⟩⟩
    · simp [Value.cells] at hcs
      obtain ⟨rfl, rfl, rfl⟩ := hcs
      exact ⟨zs, .inr ⟨_, rfl, hl, hm, by simpa using hz, hcell, hwz⟩⟩
  clear hA0 hval0
  refine (walk a0 len0 cap0 z0 W w0).mono fun e W' ⟨he, bel⟩ => ?_
  subst he
  exact ⟨_, rfl, _, _, _, [], _, [], hW', trodAll_mk1 (shut_bool Try.underlying4 _), (trodAll_cons_mk (Below.trod laidOut (by kernel_rfl) (of_decide_eq_true (by kernel_rfl)) k0 bel lt0) trodAll_mk0), rfl, bel.frame _, fun h => by cases h⟩

theorem over : Rows.fnGraphTwiceRow.holds Try.pinned (OpenSpec.ofChange Rows.fnGraphTwiceSpec) :=
  OpenClaim.holds_of_wide 3 Try.f3 rfl rfl rfl rfl rfl rfl rfl ⟨rfl, rfl, rfl, rfl, rfl⟩ rfl rfl rfl rfl rfl (by kernel_rfl) Try.func3 (by kernel_rfl)
    (of_decide_eq_true (by kernel_rfl)) (by unfold Func.isWrapper; first | (rw [if_pos (by decide +kernel)]; kernel_rfl) | (rw [if_neg (by decide +kernel)]; exact ⟨rfl, rfl⟩))
    (fun os started H enc _ => lifted os started H enc)

theorem proved : Rows.FnGraphTwiceSaid := over
end Go.Proofs.Ytpgmkobcbogcnaa.fnGraphTwice

namespace Go.Proofs.Ytpgmkobcbogcnaa
theorem fnGraphTwice_holds : Rows.FnGraphTwiceSaid := fnGraphTwice.proved
#print axioms fnGraphTwice_holds
end Go.Proofs.Ytpgmkobcbogcnaa
