/-
  For every two codes: the operation and the words that are drawn of them and IntDo of the program keep promise 2, so the law FnIntRing returns true and leaves both codes as they were; no condition.
-/
import Derived.Test.YtajeehoafkdilaaDraw
import Derived.Test.YtajeehoafkdilaaMath
import Derived.WalkKit
import Derived.ProofKit
import Derived.OpenShut
import Derived.ShutString
import Derived.ChangeOld
import Derived.Below
namespace Go.Proofs.Ytajeehoafkdilaa.fnIntRing
open Go.ChangeShapes Go.WideShapes Go.ChangeAt Go.RowKit
open Go.ChangeMaps (open_string shut_string)
set_option linter.unusedVariables false

theorem own : ownKnob Try.prog.godebug = none := by kernel_rfl
theorem laidOut : laidOutB Try.prog = true := by kernel_rfl

theorem rowLater {k : IntKind} {w w' : World} {a : Option Addr} {len cap : Nat} {zs : List Int} (h : IsRow k w a len cap zs) (b : Below w.heap.size w w') : IsRow k w' a len cap zs := by
  rcases h with h | ⟨x, hx, hl, hc, hz, hcell, hwz⟩
  · exact .inl h
  · exact .inr ⟨x, hx, hl, hc, hz, fun i hi => by rw [b.cell (World.block_lt_of_cell? w _ (hcell i hi))]; exact hcell i hi, hwz⟩

theorem ring_facts (a b c : Int) (ha : -128 ≤ a) (ha' : a ≤ 127) (hb : -128 ≤ b) (hb' : b ≤ 127) (hc : -128 ≤ c) (hc' : c ≤ 127) :
    doB 1 a b = true ∧ doB 1 b c = true ∧ doB 3 a b = true ∧ doB 3 a c = true ∧ doB 3 a (doV 1 b c) = true ∧ doB 1 (doV 3 a b) (doV 3 a c) = true ∧ doB 2 (doV 1 a b) b = true ∧
    (doV 3 a (doV 1 b c) == doV 1 (doV 3 a b) (doV 3 a c)) = true ∧ (doV 2 (doV 1 a b) b == a) = true := by
  have w1 := doV_word 1 b c
  have w2 := doV_word 3 a b
  have w3 := doV_word 3 a c
  have w4 := doV_word 1 a b
  have yab := doV_yes a b ha ha' hb hb'
  have ybc := doV_yes b c hb hb' hc hc'
  have yac := doV_yes a c ha ha' hc hc'
  have y5 := doV_yes a (doV 1 b c) ha ha' w1.1 w1.2
  have y6 := doV_yes (doV 3 a b) (doV 3 a c) w2.1 w2.2 w3.1 w3.2
  have y7 := doV_yes (doV 1 a b) b w4.1 w4.2 hb hb'
  refine ⟨yab.1.2, ybc.1.2, yab.2.2.1.2, yac.2.2.1.2, y5.2.2.1.2, y6.1.2, y7.2.1.2, ?_, ?_⟩
  · rw [beq_iff_eq, y5.2.2.1.1, y6.1.1, ybc.1.1, yab.2.2.1.1, yac.2.2.1.1, wd_mul, wd_add, Int.mul_add]
  · rw [beq_iff_eq, y7.2.1.1, yab.1.1, wd_sub]
    unfold wd; omega

set_option maxRecDepth 100000 in
theorem walk (a0 : Option Addr) (len0 cap0 : Nat) (z0 : List Int) (a1 : Option Addr) (len1 cap1 : Nat) (z1 : List Int) (w : World) (w0 : IsRow .u8 w a0 len0 cap0 z0) (w1 : IsRow .u8 w a1 len1 cap1 z1) :
    Calls Try.prog 4 #[.slice a0 len0 cap0, .slice a1 len1 cap1] w fun e w' => e = .returned (.bool true) ∧ Below w.heap.size w w' := by
  by_cases hl0 : len0 ≤ 1048576
  · by_cases hl1 : len1 ≤ 1048576
    · go_enter Try.func4, Try.ntmps4
      go_wp2_with fail
      refine (drawDo a0 len0 cap0 z0 w w0).mono ?_
      rintro e w2 ⟨o, a, b, rfl, o0, o1, a2, a3, b2, b3, h2⟩
      have w1' : IsRow .u8 w2 a1 len1 cap1 z1 := rowLater w1 h2
      clear w0 w1
      go_wp2_with fail
      refine (drawDo a1 len1 cap1 z1 w2 w1').mono ?_
      rintro e w3 ⟨o', c, d, rfl, _, _, c0, c1, _, _, h3⟩
      have e1 : (doV o a b != doV o a b) = false := by simp
      have e2 : (doB o a b != doB o a b) = false := by simp
      have e3 : (doV o a b == doV o a b) = true := by simp
      have e4 : (doB o a b == doB o a b) = true := by simp
      have B3 : Below w.heap.size w w3 := h2.trans (h3.mono h2.size)
      clear w1' h2 h3
      go_wp2_with fail
      refine (doImpl _ _ _ _).mono ?_
      rintro e w4 ⟨rfl, _, h4⟩
      have B4 : Below w.heap.size w w4 := B3.trans (h4.mono B3.size)
      clear B3 h4
      go_wp2_with fail
      refine (doSpec _ _ _ _).mono ?_
      rintro e w5 ⟨rfl, rfl⟩
      by_cases ha : -128 ≤ a ∧ a ≤ 127
      · by_cases hb : -128 ≤ b ∧ b ≤ 127
        · by_cases hc : -128 ≤ c ∧ c ≤ 127
          · have ea : (wd a != a) = false := by rw [wd_word a ha.1 ha.2]; simp
            have eb : (wd b != b) = false := by rw [wd_word b hb.1 hb.2]; simp
            have ec : (wd c != c) = false := by rw [wd_word c hc.1 hc.2]; simp
            obtain ⟨f1, f2, f3, f4, f5, f6, f7, f8, f9⟩ := ring_facts a b c ha.1 ha.2 hb.1 hb.2 hc.1 hc.2
            go_wp2_with (go_at_call 9; refine (wrapImpl _ _).mono ?_; rintro e w6 ⟨rfl, rfl⟩)
            refine (doImpl _ _ _ _).mono ?_
            rintro e w5 ⟨rfl, _, h5⟩
            have B5 : Below w.heap.size w w5 := B4.trans (h5.mono B4.size)
            clear B4 h5
            go_wp2_with fail
            refine (doImpl _ _ _ _).mono ?_
            rintro e w6 ⟨rfl, _, h6⟩
            have B6 : Below w.heap.size w w6 := B5.trans (h6.mono B5.size)
            clear B5 h6
            go_wp2_with fail
            refine (doImpl _ _ _ _).mono ?_
            rintro e w7 ⟨rfl, _, h7⟩
            have B7 : Below w.heap.size w w7 := B6.trans (h7.mono B6.size)
            clear B6 h7
            go_wp2_with fail
            refine (doImpl _ _ _ _).mono ?_
            rintro e w8 ⟨rfl, _, h8⟩
            have B8 : Below w.heap.size w w8 := B7.trans (h8.mono B7.size)
            clear B7 h8
            go_wp2_with fail
            refine (doImpl _ _ _ _).mono ?_
            rintro e w9 ⟨rfl, _, h9⟩
            have B9 : Below w.heap.size w w9 := B8.trans (h9.mono B8.size)
            clear B8 h9
            go_wp2_with fail
            refine (doImpl _ _ _ _).mono ?_
            rintro e w10 ⟨rfl, _, h10⟩
            have B10 : Below w.heap.size w w10 := B9.trans (h10.mono B9.size)
            clear B9 h10
            go_wp2_with fail
            refine (doImpl _ _ _ _).mono ?_
            rintro e w11 ⟨rfl, _, h11⟩
            have B11 : Below w.heap.size w w11 := B10.trans (h11.mono B10.size)
            clear B10 h11
            go_wp2_with fail
            go_ret
            exact ⟨rfl, B11⟩
          · have ea : (wd a != a) = false := by rw [wd_word a ha.1 ha.2]; simp
            have eb : (wd b != b) = false := by rw [wd_word b hb.1 hb.2]; simp
            have ec : (wd c != c) = true := by rw [bne_iff_ne]; have := wd_lo c; have := wd_hi c; omega
            go_wp2_with (go_at_call 9; refine (wrapImpl _ _).mono ?_; rintro e w6 ⟨rfl, rfl⟩)
            go_ret
            exact ⟨rfl, B4⟩
        · have ea : (wd a != a) = false := by rw [wd_word a ha.1 ha.2]; simp
          have eb : (wd b != b) = true := by rw [bne_iff_ne]; have := wd_lo b; have := wd_hi b; omega
          go_wp2_with (go_at_call 9; refine (wrapImpl _ _).mono ?_; rintro e w6 ⟨rfl, rfl⟩)
          go_ret
          exact ⟨rfl, B4⟩
      · have ea : (wd a != a) = true := by rw [bne_iff_ne]; have := wd_lo a; have := wd_hi a; omega
        go_wp2_with (go_at_call 9; refine (wrapImpl _ _).mono ?_; rintro e w6 ⟨rfl, rfl⟩)
        go_ret
        exact ⟨rfl, B4⟩
    · go_enter Try.func4, Try.ntmps4
      go_wp2_with fail
      go_ret
      exact ⟨rfl, Below.refl _ _⟩
  · go_enter Try.func4, Try.ntmps4
    go_wp2_with fail
    go_ret
    exact ⟨rfl, Below.refl _ _⟩

set_option maxRecDepth 100000 in
theorem lifted (os : Os) (started : os.Started) (H : Type) (enc : TypeId × Value → H) :
    ReturnsInHanded {} Try.checked os 4 .any (Rows.fnIntRingSpec.pre6 enc Try.prog Try.f4 Rows.fnIntRingRow.domain false) (Rows.fnIntRingSpec.post enc Try.prog Try.f4 false true false false) := by
  refine returnsInHanded_of_change (C := Try.checked) own started (by kernel_rfl) Try.func4
    (ChangeSpec.witness6 (enc := enc) (C := Try.checked) false ⟨#[], #[.slice none 0 0, .slice none 0 0], []⟩ 8 (by kernel_rfl) (by kernel_rfl) (by kernel_rfl) (by kernel_rfl)) ?_
  intro W base args ds gs before hval0 hW hcnd _
  have hval : ∀ (j : Nat) t v, Try.f4.params[j]? = some t → args[j]? = some v → Value.okWide Try.prog W .any base t v := hval0
  have hW' := hW
  obtain ⟨p, q, hA0, hV, rfl, hfz, hnd⟩ := hW
  have hA : DataW.TrodAll enc Try.prog W 0 (fun _ => true) true Try.f4.params.toList args.toList ds p := hA0
  rw [Try.params4] at hA hval
  obtain ⟨v0, vs0, d0, ds0, p0, q0, hargs, rfl, rfl, h0, r0⟩ := trodAll_cons hA
  obtain ⟨v1, vs1, d1, ds1, p1, q1, rfl, rfl, rfl, h1, r1⟩ := trodAll_cons r0
  obtain ⟨rfl, rfl, rfl⟩ := trodAll_nil r1
  obtain rfl : args = #[v0, v1] := by cases args; simp_all
  obtain ⟨rfl, rfl⟩ := trodVars_none hV
  obtain ⟨a0, len0, cap0, rfl⟩ := okWide_slice Try.underlying22 (hval 0 22 v0 rfl rfl)
  have k0 := h0
  have lt0 : ∀ x ∈ p0, x.block < W.heap.size := by obtain ⟨m, hm⟩ := k0; exact DataW.trod_lt m _ _ _ hm
  obtain ⟨z0, w0⟩ : ∃ zs, IsRow .u8 W a0 len0 cap0 zs := by
    obtain ⟨fuel, hf⟩ := h0
    rcases open_ints Try.underlying22 Try.underlying5 (by kernel_rfl) hf with ⟨hcs, _⟩ | ⟨x, l, c, zs, hcs, _, hl, hm, hz, _, hcell, hwz⟩
    · simp [Value.cells] at hcs
      obtain ⟨rfl, rfl, rfl⟩ := hcs
      exact ⟨[], .inl ⟨rfl, rfl, rfl, rfl⟩⟩
    · simp [Value.cells] at hcs
      obtain ⟨rfl, rfl, rfl⟩ := hcs
      exact ⟨zs, .inr ⟨_, rfl, hl, hm, by simpa using hz, hcell, hwz⟩⟩
  obtain ⟨a1, len1, cap1, rfl⟩ := okWide_slice Try.underlying22 (hval 1 22 v1 rfl rfl)
  have k1 := h1
  have lt1 : ∀ x ∈ p1, x.block < W.heap.size := by obtain ⟨m, hm⟩ := k1; exact DataW.trod_lt m _ _ _ hm
  obtain ⟨z1, w1⟩ : ∃ zs, IsRow .u8 W a1 len1 cap1 zs := by
    obtain ⟨fuel, hf⟩ := h1
    rcases open_ints Try.underlying22 Try.underlying5 (by kernel_rfl) hf with ⟨hcs, _⟩ | ⟨x, l, c, zs, hcs, _, hl, hm, hz, _, hcell, hwz⟩
    · simp [Value.cells] at hcs
      obtain ⟨rfl, rfl, rfl⟩ := hcs
      exact ⟨[], .inl ⟨rfl, rfl, rfl, rfl⟩⟩
    · simp [Value.cells] at hcs
      obtain ⟨rfl, rfl, rfl⟩ := hcs
      exact ⟨zs, .inr ⟨_, rfl, hl, hm, by simpa using hz, hcell, hwz⟩⟩
  clear hA0 hval0
  refine (walk a0 len0 cap0 z0 a1 len1 cap1 z1 W w0 w1).mono fun e W' ⟨he, bel⟩ => ?_
  subst he
  exact ⟨_, rfl, _, _, _, [], _, [], hW', trodAll_mk1 (shut_bool Try.underlying4 _), (trodAll_cons_mk (Below.trod laidOut (by kernel_rfl) (of_decide_eq_true (by kernel_rfl)) k0 bel lt0) (trodAll_cons_mk (Below.trod laidOut (by kernel_rfl) (of_decide_eq_true (by kernel_rfl)) k1 bel lt1) trodAll_mk0)), rfl, bel.frame _, fun h => by cases h⟩

theorem over : Rows.fnIntRingRow.holds Try.pinned (OpenSpec.ofChange Rows.fnIntRingSpec) :=
  OpenClaim.holds_of_wide 4 Try.f4 rfl rfl rfl rfl rfl rfl rfl ⟨rfl, rfl, rfl, rfl, rfl⟩ rfl rfl rfl rfl rfl (by kernel_rfl) Try.func4 (by kernel_rfl)
    (of_decide_eq_true (by kernel_rfl)) (by unfold Func.isWrapper; first | (rw [if_pos (by decide +kernel)]; kernel_rfl) | (rw [if_neg (by decide +kernel)]; exact ⟨rfl, rfl⟩))
    (fun os started H enc _ => lifted os started H enc)

theorem proved : Rows.FnIntRingSaid := over
end Go.Proofs.Ytajeehoafkdilaa.fnIntRing

namespace Go.Proofs.Ytajeehoafkdilaa
theorem fnIntRing_holds : Rows.FnIntRingSaid := fnIntRing.proved
#print axioms fnIntRing_holds
end Go.Proofs.Ytajeehoafkdilaa
