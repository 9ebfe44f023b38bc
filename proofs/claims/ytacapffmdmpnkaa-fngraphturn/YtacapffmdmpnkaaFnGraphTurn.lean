/-
  For every two codes: of the things that are drawn of the first one the same in another order, turned by as many as the second one is long, leave the same by HeapGraph, so the law FnGraphTurn returns true and leaves both codes as they were; no condition.
-/
import Derived.Test.YtacapffmdmpnkaaTurn
import Derived.WalkKit
import Derived.ProofKit
import Derived.OpenShut
import Derived.ShutString
import Derived.ChangeOld
import Derived.Below
namespace Go.Proofs.Ytacapffmdmpnkaa.fnGraphTurn
open Go.ChangeShapes Go.WideShapes Go.ChangeAt Go.RowKit
open Go.ChangeMaps (open_string shut_string)
set_option linter.unusedVariables false

theorem own : ownKnob Try.prog.godebug = none := by kernel_rfl
theorem laidOut : laidOutB Try.prog = true := by kernel_rfl



set_option maxRecDepth 100000 in
set_option maxHeartbeats 1000000 in
theorem walk (a0 : Option Addr) (len0 cap0 : Nat) (z0 : List Int) (a1 : Option Addr) (len1 cap1 : Nat) (z1 : List Int) (w : World) (w0 : IsRow .u8 w a0 len0 cap0 z0) (w1 : IsRow .u8 w a1 len1 cap1 z1) :
    Calls Try.prog 4 #[.slice a0 len0 cap0, .slice a1 len1 cap1] w fun e w' => e = .returned (.bool true) ∧ Below w.heap.size w w' := by
  by_cases hl0 : len0 ≤ 1048576
  case neg =>
    go_enter Try.func4, Try.ntmps4
    go_wp2_with fail
    go_ret
    exact ⟨rfl, Below.refl _ _⟩
  by_cases hl1 : len1 ≤ 1048576
  case neg =>
    go_enter Try.func4, Try.ntmps4
    go_wp2_with fail
    go_ret
    exact ⟨rfl, Below.refl _ _⟩
  go_enter Try.func4, Try.ntmps4
  go_wp2_with fail
  refine (drawGraph a0 len0 cap0 z0 w w0).mono ?_
  rintro e w1 ⟨X, r, a, c, b, d, rfl, hX, hr, l1, l2, l3, hb1⟩
  have FW : Hid (Few X r) := ⟨by omega, fun x hx => by have := l2 x hx; omega, by omega⟩
  have B1 : Hid (Below w.heap.size w w1) := hb1
  have H1 : Hid (SlAt obR (fun _ => True) w1 a X.length X) := hX.mono (fun _ _ _ => trivial)
  have G1 : Hid (SlAt vaR (fun _ => True) w1 b r.length r) := hr.mono (fun _ _ _ => trivial)
  have T : Hid (gOf (gOf X r) (rOf X r) = gOf X r ∧ rOf (gOf X r) (rOf X r) = rOf X r ∧ heapB (gOf X r) (rOf X r) = true) := gTwice X r
  have hgl : (gOf X r).length ≤ X.length := gOf_len
  clear hX hr hb1 l2 w0
  go_wp2_with fail
  refine (graphI _ _ _ _ _ _ X r _ H1.out G1.out FW.out).mono ?_
  rintro e w2 ⟨xa, xc, ra, rc, rfl, hx2, hr2, hb2⟩
  have B2 : Hid (Below w1.heap.size w1 w2) := hb2
  have P2 : Hid (SlAt obR (fun _ => True) w2 xa (gOf X r).length (gOf X r)) := hx2
  have Q2 : Hid (SlAt vaR (fun _ => True) w2 ra (rOf X r).length (rOf X r)) := hr2
  clear hx2 hr2 hb2
  go_wp2_with fail
  refine (graphS _ _ _ _ _ _ X r _ (H1.out.later B2.out) (G1.out.later B2.out) FW.out).mono ?_
  rintro e w3 ⟨ya, yc, sa, sc, rfl, hx3, hr3, hb3⟩
  have B3 : Hid (Below w2.heap.size w2 w3) := hb3
  have P3 : Hid (SlAt obR (fun _ => True) w3 ya (gOf X r).length (gOf X r)) := hx3
  have Q3 : Hid (SlAt vaR (fun _ => True) w3 sa (rOf X r).length (rOf X r)) := hr3
  clear hx3 hr3 hb3
  go_wp2_with fail
  refine (leObjs _ _ _ _ _ _ (gOf X r) _ (P2.out.later B3.out) P3.out).mono ?_
  rintro e w4 ⟨rfl, hb4⟩
  have B4 : Hid (Below w3.heap.size w3 w4) := hb4
  clear hb4
  go_wp2_with fail
  refine (leVals _ _ _ _ _ _ (rOf X r) _ ((Q2.out.later B3.out).later B4.out) (Q3.out.later B4.out)).mono ?_
  rintro e w5 ⟨rfl, hb5⟩
  have B5 : Hid (Below w4.heap.size w4 w5) := hb5
  clear hb5
  have P5 : Hid (SlAt obR (fun _ => True) w5 xa (gOf X r).length (gOf X r)) := ((P2.out.later B3.out).later B4.out).later B5.out
  have Q5 : Hid (SlAt vaR (fun _ => True) w5 ra (rOf X r).length (rOf X r)) := ((Q2.out.later B3.out).later B4.out).later B5.out
  go_wp2_with fail
  refine (heapSpec _ _ _ _ _ _ X r _ ((((H1.out.later B2.out).later B3.out).later B4.out).later B5.out) ((((G1.out.later B2.out).later B3.out).later B4.out).later B5.out)).mono ?_
  rintro e w6 ⟨rfl, hb6⟩
  have B6 : Hid (Below w5.heap.size w5 w6) := hb6
  clear hb6
  have H6 : Hid (SlAt obR (fun _ => True) w6 a X.length X) := ((((H1.out.later B2.out).later B3.out).later B4.out).later B5.out).later B6.out
  have G6 : Hid (SlAt vaR (fun _ => True) w6 b r.length r) := ((((G1.out.later B2.out).later B3.out).later B4.out).later B5.out).later B6.out
  have P6 : Hid (SlAt obR (fun _ => True) w6 xa (gOf X r).length (gOf X r)) := P5.out.later B6.out
  have Q6 : Hid (SlAt vaR (fun _ => True) w6 ra (rOf X r).length (rOf X r)) := Q5.out.later B6.out
  have B : Hid (Below w.heap.size w w6) := by
    show Below _ _ _
    have s1 := B1.out
    have s2 := s1.trans (B2.out.mono s1.size)
    have s3 := s2.trans (B3.out.mono s2.size)
    have s4 := s3.trans (B4.out.mono s3.size)
    have s5 := s4.trans (B5.out.mono s4.size)
    exact s5.trans (B6.out.mono s5.size)
  cases ok : heapB X r
  · go_wp2_with fail
    refine (leObjs _ _ _ _ _ _ (gOf X r) _ P6.out ((((P3.out.later B4.out).later B5.out).later B6.out))).mono ?_
    rintro e w7 ⟨rfl, hb7⟩
    have B7 : Hid (Below w6.heap.size w6 w7) := hb7
    clear hb7
    go_wp2_with fail
    refine (leVals _ _ _ _ _ _ (rOf X r) _ (Q6.out.later B7.out) (((((Q3.out.later B4.out).later B5.out).later B6.out)).later B7.out)).mono ?_
    rintro e w8 ⟨rfl, hb8⟩
    have B8 : Hid (Below w7.heap.size w7 w8) := hb8
    clear hb8
    go_wp2_with fail
    go_ret
    have s7 := B.out.trans (B7.out.mono B.out.size)
    exact ⟨rfl, s7.trans (B8.out.mono s7.size)⟩
  have OK : Hid (heapB X r = true) := ok
  by_cases hx0 : X.length = 0
  · have hx0' : ((X.length : Int) == 0) = true := by rw [beq_iff_eq]; omega
    go_wp2_with fail
    refine (leObjs _ _ _ _ _ _ (gOf X r) _ P6.out ((((P3.out.later B4.out).later B5.out).later B6.out))).mono ?_
    rintro e w7 ⟨rfl, hb7⟩
    have B7 : Hid (Below w6.heap.size w6 w7) := hb7
    clear hb7
    go_wp2_with fail
    refine (leVals _ _ _ _ _ _ (rOf X r) _ (Q6.out.later B7.out) (((((Q3.out.later B4.out).later B5.out).later B6.out)).later B7.out)).mono ?_
    rintro e w8 ⟨rfl, hb8⟩
    have B8 : Hid (Below w7.heap.size w7 w8) := hb8
    clear hb8
    go_wp2_with fail
    go_ret
    have s7 := B.out.trans (B7.out.mono B.out.size)
    exact ⟨rfl, s7.trans (B8.out.mono s7.size)⟩
  have hx0' : ((X.length : Int) == 0) = false := by rw [beq_eq_false_iff_ne]; omega
  have hx1 : ¬ (X.length : Int) = 0 := by omega
  have q2 : (len1 : Int) % (X.length : Int) < X.length := Int.emod_lt_of_pos _ (by omega)
  have q3 : 0 ≤ (len1 : Int) % (X.length : Int) := Int.emod_nonneg _ (by omega)
  obtain ⟨c, hc⟩ : ∃ c : Nat, (len1 : Int) % (X.length : Int) = c := ⟨((len1 : Int) % (X.length : Int)).toNat, by omega⟩
  have hcl : c < X.length := by omega
  have MO : Hid (gOf (tnX X c) (r.map (tnV X.length c)) = gOf X r ∧ rOf (tnX X c) (r.map (tnV X.length c)) = rOf X r) := gTurn ok hcl
  have FY : Hid (Few (tnX X c) (r.map (tnV X.length c))) := tn_few FW.out
  clear ok B1 B2 B3 B4 B5 B6 P2 Q2 P3 Q3 P5 Q5 H1 G1 T hgl
  go_wp2_with fail
  rw [hc]
  refine (leTurned _ _ _ _ X r c _ H6.out G6.out FW.out OK.out hcl).mono ?_
  rintro e w9 ⟨xa3, xc3, sa3, sc3, rfl, hx9, hs9, hb9⟩
  have B9 : Hid (Below w6.heap.size w6 w9) := hb9
  have X9 : Hid (SlAt obR (fun _ => True) w9 xa3 X.length (tnX X c)) := hx9
  have S9 : Hid (SlAt vaR (fun _ => True) w9 sa3 r.length (r.map (tnV X.length c))) := hs9
  clear hx9 hs9 hb9
  go_wp2_with fail
  refine (graphI _ _ _ _ _ _ _ _ _ X9.out S9.out FY.out).mono ?_
  rw [MO.out.1, MO.out.2]
  rintro e w10 ⟨za, zc, ta, tc, rfl, hx10, hr10, hb10⟩
  have B10 : Hid (Below w9.heap.size w9 w10) := hb10
  have P10 : Hid (SlAt obR (fun _ => True) w10 za (gOf X r).length (gOf X r)) := hx10
  have Q10 : Hid (SlAt vaR (fun _ => True) w10 ta (rOf X r).length (rOf X r)) := hr10
  clear hx10 hr10 hb10
  go_wp2_with fail
  refine (leObjs _ _ _ _ _ _ (gOf X r) _ P10.out ((P6.out.later B9.out).later B10.out)).mono ?_
  rintro e w11 ⟨rfl, hb11⟩
  have B11 : Hid (Below w10.heap.size w10 w11) := hb11
  clear hb11
  go_wp2_with fail
  refine (leVals _ _ _ _ _ _ (rOf X r) _ (Q10.out.later B11.out) (((Q6.out.later B9.out).later B10.out).later B11.out)).mono ?_
  rintro e w12 ⟨rfl, hb12⟩
  have B12 : Hid (Below w11.heap.size w11 w12) := hb12
  clear hb12
  go_wp2_with fail
  go_ret
  refine ⟨rfl, ?_⟩
  have s9 := B.out.trans (B9.out.mono B.out.size)
  have s10 := s9.trans (B10.out.mono s9.size)
  have s11 := s10.trans (B11.out.mono s10.size)
  exact s11.trans (B12.out.mono s11.size)

set_option maxRecDepth 100000 in
theorem lifted (os : Os) (started : os.Started) (H : Type) (enc : TypeId × Value → H) :
    ReturnsInHanded {} Try.checked os 4 .any (Rows.fnGraphTurnSpec.pre6 enc Try.prog Try.f4 Rows.fnGraphTurnRow.domain false) (Rows.fnGraphTurnSpec.post enc Try.prog Try.f4 false true false false) := by
  refine returnsInHanded_of_change (C := Try.checked) own started (by kernel_rfl) Try.func4
    (ChangeSpec.witness6 (enc := enc) (C := Try.checked) false ⟨#[], #[.slice none 0 0, .slice none 0 0], []⟩ 8 (by kernel_rfl) (by kernel_rfl) (by kernel_rfl) (by kernel_rfl)) ?_
  intro W base args ds gs before hval0 hW hcnd _
  have hval : ∀ (j : Nat) t v, Try.f4.params[j]? = some t → args[j]? = some v → Value.okWide Try.prog W .any base t v := hval0
  have hW' := hW
  obtain ⟨p, q, hA0, hV, rfl, hfz, hnd⟩ := hW
  have hA : DataW.TrodAll enc Try.prog W 0 (fun _ => true) true Try.f4.params.toList args.toList ds p := hA0
  rw [Try.params4] at hA hval
  obtain ⟨v0, vs0, d0, ds0, p0, q0, hargs, rfl, rfl, h0, r0⟩ := trodAll_cons hA
  obtain ⟨v1, vs1, d1, ds1, p1, q1, rfl, rfl, rfl, h1, r1⟩ := trodAll_cons r0
  obtain ⟨rfl, rfl, rfl⟩ := trodAll_nil r1
  obtain rfl : args = #[v0, v1] := by cases args; simp_all
  obtain ⟨rfl, rfl⟩ := trodVars_none hV
  obtain ⟨a0, len0, cap0, rfl⟩ := okWide_slice Try.underlying22 (hval 0 22 v0 rfl rfl)
  have k0 := h0
  have lt0 : ∀ x ∈ p0, x.block < W.heap.size := by obtain ⟨m, hm⟩ := k0; exact DataW.trod_lt m _ _ _ hm
  obtain ⟨z0, w0⟩ : ∃ zs, IsRow .u8 W a0 len0 cap0 zs := by
    obtain ⟨fuel, hf⟩ := h0
    rcases open_ints Try.underlying22 Try.underlying5 (by kernel_rfl) hf with ⟨hcs, _⟩ | ⟨x, l, c, zs, hcs, _, hl, hm, hz, _, hcell, hwz⟩
    · simp [Value.cells] at hcs
      obtain ⟨rfl, rfl, rfl⟩ := hcs
      exact ⟨[], .inl ⟨rfl, rfl, rfl, rfl⟩⟩
    · simp [Value.cells] at hcs
      obtain ⟨rfl, rfl, rfl⟩ := hcs
      exact ⟨zs, .inr ⟨_, rfl, hl, hm, by simpa using hz, hcell, hwz⟩⟩
  obtain ⟨a1, len1, cap1, rfl⟩ := okWide_slice Try.underlying22 (hval 1 22 v1 rfl rfl)
  have k1 := h1
  have lt1 : ∀ x ∈ p1, x.block < W.heap.size := by obtain ⟨m, hm⟩ := k1; exact DataW.trod_lt m _ _ _ hm
  obtain ⟨z1, w1⟩ : ∃ zs, IsRow .u8 W a1 len1 cap1 zs := by
    obtain ⟨fuel, hf⟩ := h1
    rcases open_ints Try.underlying22 Try.underlying5 (by kernel_rfl) hf with ⟨hcs, _⟩ | ⟨x, l, c, zs, hcs, _, hl, hm, hz, _, hcell, hwz⟩
    · simp [Value.cells] at hcs
      obtain ⟨rfl, rfl, rfl⟩ := hcs
      exact ⟨[], .inl ⟨rfl, rfl, rfl, rfl⟩⟩
    · simp [Value.cells] at hcs
      obtain ⟨rfl, rfl, rfl⟩ := hcs
      exact ⟨zs, .inr ⟨_, rfl, hl, hm, by simpa using hz, hcell, hwz⟩⟩
  clear hA0 hval0
  refine (walk a0 len0 cap0 z0 a1 len1 cap1 z1 W w0 w1).mono fun e W' ⟨he, bel⟩ => ?_
  subst he
  exact ⟨_, rfl, _, _, _, [], _, [], hW', trodAll_mk1 (shut_bool Try.underlying4 _), (trodAll_cons_mk (Below.trod laidOut (by kernel_rfl) (of_decide_eq_true (by kernel_rfl)) k0 bel lt0) (trodAll_cons_mk (Below.trod laidOut (by kernel_rfl) (of_decide_eq_true (by kernel_rfl)) k1 bel lt1) trodAll_mk0)), rfl, bel.frame _, fun h => by cases h⟩

theorem over : Rows.fnGraphTurnRow.holds Try.pinned (OpenSpec.ofChange Rows.fnGraphTurnSpec) :=
  OpenClaim.holds_of_wide 4 Try.f4 rfl rfl rfl rfl rfl rfl rfl ⟨rfl, rfl, rfl, rfl, rfl⟩ rfl rfl rfl rfl rfl (by kernel_rfl) Try.func4 (by kernel_rfl)
    (of_decide_eq_true (by kernel_rfl)) (by unfold Func.isWrapper; first | (rw [if_pos (by decide +kernel)]; kernel_rfl) | (rw [if_neg (by decide +kernel)]; exact ⟨rfl, rfl⟩))
    (fun os started H enc _ => lifted os started H enc)

theorem proved : Rows.FnGraphTurnSaid := over
end Go.Proofs.Ytacapffmdmpnkaa.fnGraphTurn

namespace Go.Proofs.Ytacapffmdmpnkaa
theorem fnGraphTurn_holds : Rows.FnGraphTurnSaid := fnGraphTurn.proved
#print axioms fnGraphTurn_holds
end Go.Proofs.Ytacapffmdmpnkaa
