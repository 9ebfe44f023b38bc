/-
  For every code: of the things that are drawn of it to each thing that HeapGraph leaves something ahead leads, so the law FnGraphLed returns true and leaves the code as it was; no condition.
-/
import Derived.Test.YtpgmkobcbogcnaaLedM
import Derived.WalkKit
import Derived.ProofKit
import Derived.OpenShut
import Derived.ShutString
import Derived.ChangeOld
import Derived.Below
namespace Go.Proofs.Ytpgmkobcbogcnaa.fnGraphLed
open Go.ChangeShapes Go.WideShapes Go.ChangeAt Go.RowKit
open Go.ChangeMaps (open_string shut_string)
set_option linter.unusedVariables false

theorem own : ownKnob Try.prog.godebug = none := by kernel_rfl
theorem laidOut : laidOutB Try.prog = true := by kernel_rfl



set_option maxRecDepth 100000 in
set_option maxHeartbeats 1000000 in
theorem walk (a0 : Option Addr) (len0 cap0 : Nat) (z0 : List Int) (w : World) (w0 : IsRow .u8 w a0 len0 cap0 z0) :
    Calls Try.prog 4 #[.slice a0 len0 cap0] w fun e w' => e = .returned (.bool true) ∧ Below w.heap.size w w' := by
  by_cases hl0 : len0 ≤ 1048576
  case neg =>
    go_enter Try.func4, Try.ntmps4
    go_wp2_with fail
    go_ret
    exact ⟨rfl, Below.refl _ _⟩
  go_enter Try.func4, Try.ntmps4
  go_wp2_with fail
  refine (drawGraph a0 len0 cap0 z0 w w0).mono ?_
  rintro e w1 ⟨X, r, a, c, b, d, rfl, hX, hr, l1, l2, l3, hb1⟩
  have FW : Hid (Few X r) := ⟨by omega, fun x hx => by have := l2 x hx; omega, by omega⟩
  have B1 : Hid (Below w.heap.size w w1) := hb1
  have H1 : Hid (SlAt obR (fun _ => True) w1 a X.length X) := hX.mono (fun _ _ _ => trivial)
  have G1 : Hid (SlAt vaR (fun _ => True) w1 b r.length r) := hr.mono (fun _ _ _ => trivial)
  have LP : Hid (LedP (gOf X r) (rOf X r)) := ledP X r
  have FG : Hid (Few (gOf X r) (rOf X r)) := FW.out.gOf
  clear hX hr hb1 l2 w0
  go_wp2_with fail
  refine (graphI _ _ _ _ _ _ X r _ H1.out G1.out FW.out).mono ?_
  rintro e w2 ⟨xa, xc, ra, rc, rfl, hx2, hr2, hb2⟩
  have B2 : Hid (Below w1.heap.size w1 w2) := hb2
  have P2 : Hid (SlAt obR (fun _ => True) w2 xa (gOf X r).length (gOf X r)) := hx2
  have Q2 : Hid (SlAt vaR (fun _ => True) w2 ra (rOf X r).length (rOf X r)) := hr2
  clear hx2 hr2 hb2
  go_wp2_with fail
  refine (graphS _ _ _ _ _ _ X r _ (H1.out.later B2.out) (G1.out.later B2.out) FW.out).mono ?_
  rintro e w3 ⟨ya, yc, sa, sc, rfl, hx3, hr3, hb3⟩
  have B3 : Hid (Below w2.heap.size w2 w3) := hb3
  have P3 : Hid (SlAt obR (fun _ => True) w3 ya (gOf X r).length (gOf X r)) := hx3
  have Q3 : Hid (SlAt vaR (fun _ => True) w3 sa (rOf X r).length (rOf X r)) := hr3
  clear hx3 hr3 hb3
  go_wp2_with fail
  refine (leObjs _ _ _ _ _ _ (gOf X r) _ (P2.out.later B3.out) P3.out).mono ?_
  rintro e w4 ⟨rfl, hb4⟩
  have B4 : Hid (Below w3.heap.size w3 w4) := hb4
  clear hb4
  go_wp2_with fail
  refine (leVals _ _ _ _ _ _ (rOf X r) _ ((Q2.out.later B3.out).later B4.out) (Q3.out.later B4.out)).mono ?_
  rintro e w5 ⟨rfl, hb5⟩
  have B5 : Hid (Below w4.heap.size w4 w5) := hb5
  clear hb5
  have P5 : Hid (SlAt obR (fun _ => True) w5 xa (gOf X r).length (gOf X r)) := ((P2.out.later B3.out).later B4.out).later B5.out
  have Q5 : Hid (SlAt vaR (fun _ => True) w5 ra (rOf X r).length (rOf X r)) := ((Q2.out.later B3.out).later B4.out).later B5.out
  have B : Hid (Below w.heap.size w w5) := by
    show Below _ _ _
    have s1 := B1.out
    have s2 := s1.trans (B2.out.mono s1.size)
    have s3 := s2.trans (B3.out.mono s2.size)
    have s4 := s3.trans (B4.out.mono s3.size)
    exact s4.trans (B5.out.mono s4.size)
  clear B1 B2 B3 B4 B5 P2 Q2 P3 Q3 H1 G1 FW
  generalize gOf X r = Y at *
  generalize rOf X r = s at *
  have hyl : Y.length ≤ 1000 := FG.out.things
  have hsl : s.length ≤ 1000 := FG.out.roots
  go_wp2_with fail
  go_loop [9, 10] (fun t u => ∃ i : Nat, i ≤ s.length ∧ u = .int .i64 i ∧ t = .int .i64 (maxL 0 (s.take i))) (fun t u => s.length - (intOf u).toNat)
  case atStart => exact ⟨0, Nat.zero_le _, rfl, rfl⟩
  case round =>
    obtain ⟨i, hi, rfl, rfl⟩ := hrel
    obtain ⟨n0, n1⟩ := LP.out.rootsB i
    by_cases hlt : i < s.length
    · obtain ⟨v, hv⟩ : ∃ v, s[i]? = some v := ⟨_, List.getElem?_eq_getElem hlt⟩
      have STEP : Hid (maxL 0 (s.take (i + 1)) = maxV (maxL 0 (s.take i)) v) := maxL_take 0 s hv
      have CH := LP.out.roots i v hv
      obtain ⟨b1, o1, rfl, _, vs, hvs, hc⟩ := Q5.out.at i v hv
      obtain ⟨x0, x1⟩ := v
      obtain ⟨_, _, rfl, rfl, rfl, ub1⟩ := hvs
      have c0x : w5.cell? ⟨b1, o1 + i * 2, none⟩ = some (.bool x0) := hc 0 _ rfl
      have c1x : w5.cell? ⟨b1, o1 + i * 2 + 1, none⟩ = some (.int .i64 x1) := hc 1 _ rfl
      clear hv hc
      generalize maxL 0 (s.take i) = n at *
      cases x0
      · clear CH
        go_wp2_with fail
        exact ⟨⟨i + 1, by omega, by go_num, by rw [STEP.out]; rfl⟩, by simp [intOf]; omega⟩
      · have hle : x1 ≤ n + 1 := CH rfl
        have hd : decide (n + 1 < x1) = false := decide_eq_false (by omega)
        clear CH
        go_wp2_with fail
        exact ⟨⟨i + 1, by omega, by go_num, by rw [STEP.out]; exact congrArg (Value.int .i64) (max_if n x1)⟩, by simp [intOf]; omega⟩
    · have ei : i = s.length := by omega
      subst ei
      clear n0 n1 Q5
      rw [List.take_length]
      have N0 : Hid (maxL 0 s = nAt Y s 0) := rfl
      rw [N0.out]
      go_wp2_with fail
      go_loopw [9, 11] (fun t u wr => ∃ i : Nat, i ≤ Y.length ∧ u = .int .i64 i ∧ t = .int .i64 (nAt Y s i) ∧ Below w5.heap.size w5 wr) (fun t u _ => Y.length - (intOf u).toNat)
      case atStart => exact ⟨0, Nat.zero_le _, rfl, rfl, Below.refl _ _⟩
      case round =>
        obtain ⟨i, hi, rfl, rfl, hb⟩ := hrel
        have HB : Hid (Below w5.heap.size w5 wr) := hb
        clear hb
        by_cases hlt : i < Y.length
        · obtain ⟨x, hx⟩ : ∃ x, Y[i]? = some x := ⟨_, List.getElem?_eq_getElem hlt⟩
          have EX : Hid (Y.getD i (0, []) = x) := by show _ = _; rw [List.getD_eq_getElem?_getD, hx]; rfl
          have AH := LP.out.ahead i hlt
          have hd : decide (nAt Y s i ≤ (i : Int)) = false := decide_eq_false (by omega)
          have NX : Hid (nAt Y s (i + 1) = maxL (nAt Y s i) x.2) := by show _ = _; rw [nAt, EX.out]
          have TH : Hid (∀ (j : Nat) (v : Vl), x.2[j]? = some v → v.1 = true → v.2 ≤ maxL (nAt Y s i) (x.2.take j) + 1) := by show ∀ _, _; have := LP.out.things i hlt; rw [EX.out] at this; exact this
          have TB : Hid (∀ j, 0 ≤ maxL (nAt Y s i) (x.2.take j) ∧ maxL (nAt Y s i) (x.2.take j) ≤ (Y.length : Int)) := by show ∀ _, _; have := LP.out.thingsB hlt; rw [EX.out] at this; exact this
          obtain ⟨f0, f1⟩ := LP.out.few (Nat.le_of_lt hlt)
          obtain ⟨b1, o1, rfl, _, vs, hvs, hc⟩ := P5.out.at i x hx
          obtain ⟨x0, xs⟩ := x
          obtain ⟨_, _, rfl, ⟨rfl, ub0⟩, va, vl, vc, rfl, hva⟩ := hvs
          have VA : Hid (SlAt vaR (fun _ => True) w5 va vl xs) := hva
          have VL : Hid (xs.length = vl) := hva.size
          have hvl : vl ≤ 9223372036854775807 := hva.room
          have c1 : w5.cell? ⟨b1, o1 + i * 2 + 1, none⟩ = some (.slice va vl vc) := hc 1 _ rfl
          have C1 : Hid (∀ x : World, Below w5.heap.size w5 x → x.cell? ⟨b1, o1 + i * 2 + 1, none⟩ = some (.slice va vl vc)) := fun x hx => (hx.cell (p := ⟨b1, _, none⟩) (in_heap c1)).trans c1
          have c2 := C1.out wr HB.out
          clear hx hc hva c1
          generalize nAt Y s i = n at *
          go_wp2_with fail
          go_loopw [9, 12] (fun t u wr => ∃ j : Nat, j ≤ vl ∧ u = .int .i64 j ∧ t = .int .i64 (maxL n (xs.take j)) ∧ Below w5.heap.size w5 wr) (fun t u _ => vl - (intOf u).toNat)
          case atStart => exact ⟨0, Nat.zero_le _, rfl, rfl, HB.out⟩
          case round =>
            obtain ⟨j, hj, rfl, rfl, hb2⟩ := hrel
            have HB2 : Hid (Below w5.heap.size w5 wr) := hb2
            clear hb2
            obtain ⟨m0, m1⟩ := TB.out j
            have c3 := C1.out wr HB2.out
            by_cases hlt2 : j < vl
            · obtain ⟨v, hv⟩ : ∃ v, xs[j]? = some v := ⟨xs[j]'(by rw [VL.out]; exact hlt2), List.getElem?_eq_getElem _⟩
              have STEP : Hid (maxL n (xs.take (j + 1)) = maxV (maxL n (xs.take j)) v) := maxL_take n xs hv
              have CH := TH.out j v hv
              obtain ⟨b2, o2, rfl, _, vs, hvs, hc⟩ := (VA.out.later HB2.out).at j v hv
              obtain ⟨y0, y1⟩ := v
              obtain ⟨_, _, rfl, rfl, rfl, ub1⟩ := hvs
              have d0x : wr.cell? ⟨b2, o2 + j * 2, none⟩ = some (.bool y0) := hc 0 _ rfl
              have d1x : wr.cell? ⟨b2, o2 + j * 2 + 1, none⟩ = some (.int .i64 y1) := hc 1 _ rfl
              clear hv hc
              have CH : y0 = true → y1 ≤ maxL n (xs.take j) + 1 := CH
              generalize maxL n (xs.take j) = q at *
              cases y0
              · clear CH
                go_wp2_with fail
                exact ⟨⟨j + 1, by omega, by go_num, by rw [STEP.out]; rfl, HB2.out.trans (Below.mono (by go_grown) HB2.out.size)⟩, by simp [intOf]; omega⟩
              · have hle : y1 ≤ q + 1 := CH rfl
                have he : decide (q + 1 < y1) = false := decide_eq_false (by omega)
                clear CH
                go_wp2_with fail
                exact ⟨⟨j + 1, by omega, by go_num, by rw [STEP.out]; exact congrArg (Value.int .i64) (max_if q y1), HB2.out.trans (Below.mono (by go_grown) HB2.out.size)⟩, by simp [intOf]; omega⟩
            · have ej : j = vl := by omega
              subst ej
              go_wp2_with fail
              exact ⟨⟨i + 1, by omega, by go_num, by rw [NX.out, ← VL.out, List.take_length], HB2.out⟩, by simp [intOf]; omega⟩
        · have ei : i = Y.length := by omega
          subst ei
          have AL := LP.out.all
          rw [AL]
          go_wp2_with fail
          go_ret
          exact ⟨by simp, B.out.trans (HB.out.mono B.out.size)⟩

set_option maxRecDepth 100000 in
theorem lifted (os : Os) (started : os.Started) (H : Type) (enc : TypeId × Value → H) :
    ReturnsInHanded {} Try.checked os 4 .any (Rows.fnGraphLedSpec.pre6 enc Try.prog Try.f4 Rows.fnGraphLedRow.domain false) (Rows.fnGraphLedSpec.post enc Try.prog Try.f4 false true false false) := by
  refine returnsInHanded_of_change (C := Try.checked) own started (by kernel_rfl) Try.func4
    (ChangeSpec.witness6 (enc := enc) (C := Try.checked) false ⟨#[], #[.slice none 0 0], []⟩ 8 (by kernel_rfl) (by kernel_rfl) (by kernel_rfl) (by kernel_rfl)) ?_
  intro W base args ds gs before hval0 hW hcnd _
  have hval : ∀ (j : Nat) t v, Try.f4.params[j]? = some t → args[j]? = some v → Value.okWide Try.prog W .any base t v := hval0
  have hW' := hW
  obtain ⟨p, q, hA0, hV, rfl, hfz, hnd⟩ := hW
  have hA : DataW.TrodAll enc Try.prog W 0 (fun _ => true) true Try.f4.params.toList args.toList ds p := hA0
  rw [Try.params4] at hA hval
  obtain ⟨v0, vs0, d0, ds0, p0, q0, hargs, rfl, rfl, h0, r0⟩ := trodAll_cons hA
  obtain ⟨rfl, rfl, rfl⟩ := trodAll_nil r0
  obtain rfl : args = #[v0] := by cases args; simp_all
  obtain ⟨rfl, rfl⟩ := trodVars_none hV
  obtain ⟨a0, len0, cap0, rfl⟩ := okWide_slice Try.underlying22 (hval 0 22 v0 rfl rfl)
  have k0 := h0
  have lt0 : ∀ x ∈ p0, x.block < W.heap.size := by obtain ⟨m, hm⟩ := k0; exact DataW.trod_lt m _ _ _ hm
  obtain ⟨z0, w0⟩ : ∃ zs, IsRow .u8 W a0 len0 cap0 zs := by
    obtain ⟨fuel, hf⟩ := h0
    rcases open_ints Try.underlying22 Try.underlying5 (by kernel_rfl) hf with ⟨hcs, _⟩ | ⟨x, l, c, zs, hcs, _, hl, hm, hz, _, hcell, hwz⟩
    · simp [Value.cells] at hcs
      obtain ⟨rfl, rfl, rfl⟩ := hcs
      exact ⟨[], .inl ⟨rfl, rfl, rfl, rfl⟩⟩
    · simp [Value.cells] at hcs
      obtain ⟨rfl, rfl, rfl⟩ := hcs
      exact ⟨zs, .inr ⟨_, rfl, hl, hm, by simpa using hz, hcell, hwz⟩⟩
  clear hA0 hval0
  refine (walk a0 len0 cap0 z0 W w0).mono fun e W' ⟨he, bel⟩ => ?_
  subst he
  exact ⟨_, rfl, _, _, _, [], _, [], hW', trodAll_mk1 (shut_bool Try.underlying4 _), (trodAll_cons_mk (Below.trod laidOut (by kernel_rfl) (of_decide_eq_true (by kernel_rfl)) k0 bel lt0) trodAll_mk0), rfl, bel.frame _, fun h => by cases h⟩

theorem over : Rows.fnGraphLedRow.holds Try.pinned (OpenSpec.ofChange Rows.fnGraphLedSpec) :=
  OpenClaim.holds_of_wide 4 Try.f4 rfl rfl rfl rfl rfl rfl rfl ⟨rfl, rfl, rfl, rfl, rfl⟩ rfl rfl rfl rfl rfl (by kernel_rfl) Try.func4 (by kernel_rfl)
    (of_decide_eq_true (by kernel_rfl)) (by unfold Func.isWrapper; first | (rw [if_pos (by decide +kernel)]; kernel_rfl) | (rw [if_neg (by decide +kernel)]; exact ⟨rfl, rfl⟩))
    (fun os started H enc _ => lifted os started H enc)

theorem proved : Rows.FnGraphLedSaid := over
end Go.Proofs.Ytpgmkobcbogcnaa.fnGraphLed

namespace Go.Proofs.Ytpgmkobcbogcnaa
theorem fnGraphLed_holds : Rows.FnGraphLedSaid := fnGraphLed.proved
#print axioms fnGraphLed_holds
end Go.Proofs.Ytpgmkobcbogcnaa
