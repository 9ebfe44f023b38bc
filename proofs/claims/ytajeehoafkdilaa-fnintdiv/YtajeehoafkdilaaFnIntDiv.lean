/-
  For every code: the operation and the words that are drawn of it and IntDo of the program keep promise 3, so the law FnIntDiv returns true and leaves the code as it was; no condition.
-/
import Derived.Test.YtajeehoafkdilaaDraw
import Derived.Test.YtajeehoafkdilaaMath
import Derived.WalkKit
import Derived.ProofKit
import Derived.OpenShut
import Derived.ShutString
import Derived.ChangeOld
import Derived.Below
namespace Go.Proofs.Ytajeehoafkdilaa.fnIntDiv
open Go.ChangeShapes Go.WideShapes Go.ChangeAt Go.RowKit
open Go.ChangeMaps (open_string shut_string)
set_option linter.unusedVariables false

theorem own : ownKnob Try.prog.godebug = none := by kernel_rfl
theorem laidOut : laidOutB Try.prog = true := by kernel_rfl

theorem tmod_of (a b : Int) (h0 : b ≠ 0) : (0 ≤ a → 0 ≤ a.tmod b ∧ a.tmod b ≤ a) ∧ (a < 0 → a.tmod b ≤ 0 ∧ a ≤ a.tmod b) ∧ (a.tmod b).natAbs < b.natAbs := by
  have hn := Int.natAbs_tmod a b
  have hlt : a.natAbs % b.natAbs < b.natAbs := Nat.mod_lt _ (by omega)
  have hle : a.natAbs % b.natAbs ≤ a.natAbs := Nat.mod_le _ _
  refine ⟨fun h => ?_, fun h => ?_, by omega⟩
  · have := Int.tmod_nonneg b h
    omega
  · have h1 := Int.tmod_nonneg b (show 0 ≤ -a by omega)
    rw [Int.neg_tmod] at h1
    omega

theorem quo_rest (a b : Int) (ha : -128 ≤ a) (ha' : a ≤ 127) (hb : -128 ≤ b) (hb' : b ≤ 127) (h0 : b ≠ 0) :
    ∃ r : Int, doV 2 a (doV 3 (doV 4 a b) b) = r ∧ (r < b ∨ r < -b) ∧ (-r < b ∨ -r < -b) ∧ 0 ≤ r * a ∧ r * a ≤ 16384 ∧ -128 ≤ r ∧ r ≤ 127 := by
  have w1 := doV_word 4 a b
  have w2 := doV_word 3 (doV 4 a b) b
  have y1 := ((doV_yes a b ha ha' hb hb').2.2.2.1 h0).1
  have y2 := (doV_yes (doV 4 a b) b w1.1 w1.2 hb hb').2.2.1.1
  have y3 := (doV_yes a (doV 3 (doV 4 a b) b) ha ha' w2.1 w2.2).2.1.1
  obtain ⟨t1, t2, t3⟩ := tmod_of a b h0
  have hd := Int.tmod_add_mul_tdiv a b
  have e : doV 2 a (doV 3 (doV 4 a b) b) = a.tmod b := by
    have hq : wd (doV 4 a b * b) = wd (b * a.tdiv b) := by
      rw [y1, Int.mul_comm, wd_mul]
    rw [y3, y2, hq, wd_word (b * a.tdiv b) (by omega) (by omega), wd_word _ (by omega) (by omega)]
    omega
  have p1 : 0 ≤ a.tmod b * a := by
    by_cases h : 0 ≤ a
    · exact Int.mul_nonneg (t1 h).1 h
    · exact Int.mul_nonneg_of_nonpos_of_nonpos (t2 (by omega)).1 (by omega)
  have p2 := mul_lo (a.tmod b) a (by omega) (by omega) ha ha'
  exact ⟨a.tmod b, e, by omega, by omega, p1, p2.2, by omega, by omega⟩

set_option maxRecDepth 100000 in
theorem walk (a0 : Option Addr) (len0 cap0 : Nat) (z0 : List Int) (w : World) (w0 : IsRow .u8 w a0 len0 cap0 z0) :
    Calls Try.prog 5 #[.slice a0 len0 cap0] w fun e w' => e = .returned (.bool true) ∧ Below w.heap.size w w' := by
  by_cases hl0 : len0 ≤ 1048576
  · go_enter Try.func5, Try.ntmps5
    go_wp2_with fail
    refine (drawDo a0 len0 cap0 z0 w w0).mono ?_
    rintro e w2 ⟨o, a, b, rfl, o0, o1, a2, a3, b2, b3, B2⟩
    clear w0
    have e1 : (doV o a b != doV o a b) = false := by simp
    have e2 : (doB o a b != doB o a b) = false := by simp
    have e3 : (doV o a b == doV o a b) = true := by simp
    have e4 : (doB o a b == doB o a b) = true := by simp
    go_wp2_with fail
    refine (doImpl _ _ _ _).mono ?_
    rintro e w4 ⟨rfl, _, h4⟩
    have B4 : Below w.heap.size w w4 := B2.trans (h4.mono B2.size)
    clear B2 h4
    go_wp2_with fail
    refine (doSpec _ _ _ _).mono ?_
    rintro e w5 ⟨rfl, rfl⟩
    by_cases ha : -128 ≤ a ∧ a ≤ 127
    · by_cases hb : -128 ≤ b ∧ b ≤ 127
      · have ea : (wd a != a) = false := by rw [wd_word a ha.1 ha.2]; simp
        have eb : (wd b != b) = false := by rw [wd_word b hb.1 hb.2]; simp
        go_wp2_with (go_at_call 9; refine (wrapImpl _ _).mono ?_; rintro e w6 ⟨rfl, rfl⟩)
        refine (doImpl _ _ _ _).mono ?_
        rintro e w5 ⟨rfl, _, h5⟩
        have B5 : Below w.heap.size w w5 := B4.trans (h5.mono B4.size)
        clear B4 h5
        by_cases h0 : b = 0
        · subst h0
          obtain ⟨z1, z2⟩ := (doV_yes a 0 ha.1 ha.2 (by omega) (by omega)).2.2.2.2 rfl
          go_wp2_with fail
          go_ret
          exact ⟨rfl, B5⟩
        · have f1 : (b == 0) = false := by simp [h0]
          have f2 := ((doV_yes a b ha.1 ha.2 hb.1 hb.2).2.2.2.1 h0).2
          obtain ⟨r, R, r1, r2, r3, r4, r5, r6⟩ := quo_rest a b ha.1 ha.2 hb.1 hb.2 h0
          go_wp2_with fail
          refine (doImpl _ _ _ _).mono ?_
          rintro e w6 ⟨rfl, _, h6⟩
          have B6 : Below w.heap.size w w6 := B5.trans (h6.mono B5.size)
          clear B5 h6
          go_wp2_with fail
          refine (doImpl _ _ _ _).mono ?_
          rintro e w7 ⟨rfl, _, h7⟩
          have B7 : Below w.heap.size w w7 := B6.trans (h7.mono B6.size)
          clear B6 h7
          go_wp2_with fail
          all_goals first | (exfalso; omega) | (go_ret; exact ⟨rfl, B7⟩)
      · have ea : (wd a != a) = false := by rw [wd_word a ha.1 ha.2]; simp
        have eb : (wd b != b) = true := by rw [bne_iff_ne]; have := wd_lo b; have := wd_hi b; omega
        go_wp2_with (go_at_call 9; refine (wrapImpl _ _).mono ?_; rintro e w6 ⟨rfl, rfl⟩)
        go_ret
        exact ⟨rfl, B4⟩
    · have ea : (wd a != a) = true := by rw [bne_iff_ne]; have := wd_lo a; have := wd_hi a; omega
      go_wp2_with (go_at_call 9; refine (wrapImpl _ _).mono ?_; rintro e w6 ⟨rfl, rfl⟩)
      go_ret
      exact ⟨rfl, B4⟩
  · go_enter Try.func5, Try.ntmps5
    go_wp2_with fail
    go_ret
    exact ⟨rfl, Below.refl _ _⟩

set_option maxRecDepth 100000 in
theorem lifted (os : Os) (started : os.Started) (H : Type) (enc : TypeId × Value → H) :
    ReturnsInHanded {} Try.checked os 5 .any (Rows.fnIntDivSpec.pre6 enc Try.prog Try.f5 Rows.fnIntDivRow.domain false) (Rows.fnIntDivSpec.post enc Try.prog Try.f5 false true false false) := by
  refine returnsInHanded_of_change (C := Try.checked) own started (by kernel_rfl) Try.func5
    (ChangeSpec.witness6 (enc := enc) (C := Try.checked) false ⟨#[], #[.slice none 0 0], []⟩ 8 (by kernel_rfl) (by kernel_rfl) (by kernel_rfl) (by kernel_rfl)) ?_
  intro W base args ds gs before hval0 hW hcnd _
  have hval : ∀ (j : Nat) t v, Try.f5.params[j]? = some t → args[j]? = some v → Value.okWide Try.prog W .any base t v := hval0
  have hW' := hW
  obtain ⟨p, q, hA0, hV, rfl, hfz, hnd⟩ := hW
  have hA : DataW.TrodAll enc Try.prog W 0 (fun _ => true) true Try.f5.params.toList args.toList ds p := hA0
  rw [Try.params5] at hA hval
  obtain ⟨v0, vs0, d0, ds0, p0, q0, hargs, rfl, rfl, h0, r0⟩ := trodAll_cons hA
  obtain ⟨rfl, rfl, rfl⟩ := trodAll_nil r0
  obtain rfl : args = #[v0] := by cases args; simp_all
  obtain ⟨rfl, rfl⟩ := trodVars_none hV
  obtain ⟨a0, len0, cap0, rfl⟩ := okWide_slice Try.underlying22 (hval 0 22 v0 rfl rfl)
  have k0 := h0
  have lt0 : ∀ x ∈ p0, x.block < W.heap.size := by obtain ⟨m, hm⟩ := k0; exact DataW.trod_lt m _ _ _ hm
  obtain ⟨z0, w0⟩ : ∃ zs, IsRow .u8 W a0 len0 cap0 zs := by
    obtain ⟨fuel, hf⟩ := h0
    rcases open_ints Try.underlying22 Try.underlying5 (by kernel_rfl) hf with ⟨hcs, _⟩ | ⟨x, l, c, zs, hcs, _, hl, hm, hz, _, hcell, hwz⟩
    · simp [Value.cells] at hcs
      obtain ⟨rfl, rfl, rfl⟩ := hcs
      exact ⟨[], .inl ⟨rfl, rfl, rfl, rfl⟩⟩
    · simp [Value.cells] at hcs
      obtain ⟨rfl, rfl, rfl⟩ := hcs
      exact ⟨zs, .inr ⟨_, rfl, hl, hm, by simpa using hz, hcell, hwz⟩⟩
  clear hA0 hval0
  refine (walk a0 len0 cap0 z0 W w0).mono fun e W' ⟨he, bel⟩ => ?_
  subst he
  exact ⟨_, rfl, _, _, _, [], _, [], hW', trodAll_mk1 (shut_bool Try.underlying4 _), (trodAll_cons_mk (Below.trod laidOut (by kernel_rfl) (of_decide_eq_true (by kernel_rfl)) k0 bel lt0) trodAll_mk0), rfl, bel.frame _, fun h => by cases h⟩

theorem over : Rows.fnIntDivRow.holds Try.pinned (OpenSpec.ofChange Rows.fnIntDivSpec) :=
  OpenClaim.holds_of_wide 5 Try.f5 rfl rfl rfl rfl rfl rfl rfl ⟨rfl, rfl, rfl, rfl, rfl⟩ rfl rfl rfl rfl rfl (by kernel_rfl) Try.func5 (by kernel_rfl)
    (of_decide_eq_true (by kernel_rfl)) (by unfold Func.isWrapper; first | (rw [if_pos (by decide +kernel)]; kernel_rfl) | (rw [if_neg (by decide +kernel)]; exact ⟨rfl, rfl⟩))
    (fun os started H enc _ => lifted os started H enc)

theorem proved : Rows.FnIntDivSaid := over
end Go.Proofs.Ytajeehoafkdilaa.fnIntDiv

namespace Go.Proofs.Ytajeehoafkdilaa
theorem fnIntDiv_holds : Rows.FnIntDivSaid := fnIntDiv.proved
#print axioms fnIntDiv_holds
end Go.Proofs.Ytajeehoafkdilaa
