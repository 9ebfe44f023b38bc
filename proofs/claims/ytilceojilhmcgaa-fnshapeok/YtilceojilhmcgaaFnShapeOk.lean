/-
  For every code: of the classes and the shape that are drawn of it ShapeOk of the program keeps promise 12, so the law FnShapeOk returns true and leaves the code as it was; no condition.
-/
import Derived.Test.YtilceojilhmcgaaShpImpl
import Derived.Test.YtilceojilhmcgaaDrShp2
import Derived.WalkKit
import Derived.ProofKit
import Derived.OpenShut
import Derived.ShutString
import Derived.ChangeOld
import Derived.Below
namespace Go.Proofs.Ytilceojilhmcgaa.fnShapeOk
open Go.ChangeShapes Go.WideShapes Go.ChangeAt Go.RowKit
open Go.ChangeMaps (open_string shut_string)
set_option linter.unusedVariables false

theorem own : ownKnob Try.prog.godebug = none := by kernel_rfl
theorem laidOut : laidOutB Try.prog = true := by kernel_rfl



set_option maxRecDepth 100000 in
set_option maxHeartbeats 1000000 in
theorem walk (a0 : Option Addr) (len0 cap0 : Nat) (z0 : List Int) (w : World) (w0 : IsRow .u8 w a0 len0 cap0 z0) :
    Calls Try.prog 3 #[.slice a0 len0 cap0] w fun e w' => e = .returned (.bool true) ∧ Below w.heap.size w w' := by
  by_cases hl0 : len0 ≤ 1048576
  case neg =>
    go_enter Try.func3, Try.ntmps3
    go_wp2_with fail
    go_ret
    exact ⟨rfl, Below.refl _ _⟩
  go_enter Try.func3, Try.ntmps3
  go_wp2_with fail
  refine (drawShOk a0 len0 cap0 z0 w w0).mono ?_
  rintro e w1 ⟨a, len, cap, L, n, any, la, ll, lc, ka, kl, kc, us, vs, rfl, hL, hI, hJ, hb1⟩
  have A1 : Hid (Below w1.heap.size w1 (w1.alloc (.cells #[.bool any, .slice la ll lc, .slice ka kl kc] 26))) := (Below.refl _ _).alloc (Nat.le_refl _) _
  have KC : Hid (∀ x : World, Below (w1.heap.size + 1) (w1.alloc (.cells #[.bool any, .slice la ll lc, .slice ka kl kc] 26)) x → x.cell? ⟨w1.heap.size, 0, none⟩ = some (.bool any) ∧ x.cell? ⟨w1.heap.size, 1, none⟩ = some (.slice la ll lc) ∧ x.cell? ⟨w1.heap.size, 2, none⟩ = some (.slice ka kl kc)) :=
    fun x hb => ⟨box_cell hb 0 _ rfl, box_cell hb 1 _ rfl, box_cell hb 2 _ rfl⟩
  have G : Hid (ClsAt _ _ w1 a len L) := hL
  have HI : Hid (IntsAt _ w1 la ll us) := hI
  have HJ : Hid (IntsAt _ w1 ka kl vs) := hJ
  have s1 : Hid (us.length = ll) := hI.size
  have s2 : Hid (vs.length = kl) := hJ.size
  have r1 := hI.room
  have r2 := hJ.room
  have W1 : Hid (Below w.heap.size w w1) := hb1
  have ALL : Hid (∀ x : World, Below (w1.heap.size + 1) (w1.alloc (.cells #[.bool any, .slice la ll lc, .slice ka kl kc] 26)) x → Below w.heap.size w x) := fun x hx => W1.out.trans ((box_below hx).mono W1.out.size)
  clear hL hI hJ hb1 w0
  have e1 : (shB L n (any, us, vs) != shB L n (any, us, vs)) = false := by simp
  have e2 : (shB L n (any, us, vs) == shB L n (any, us, vs)) = true := by simp
  go_wp2_with fail
  refine (shapeOkImpl _ _ _ _ _ _ _ _ _ _ L (any, us, vs) _ (G.out.later A1.out) (HI.out.later A1.out) (HJ.out.later A1.out)).mono ?_
  rintro e w2 ⟨rfl, hb2⟩
  have B2 : Hid (Below (w1.heap.size + 1) (w1.alloc (.cells #[.bool any, .slice la ll lc, .slice ka kl kc] 26)) w2) := by show Below _ _ _; simpa using hb2
  clear hb2
  obtain ⟨p0, p1, p2⟩ := KC.out w2 B2.out
  go_wp2_with fail
  refine (shapeOkSpec _ _ _ _ _ _ _ _ _ _ L (any, us, vs) _ (G.out.later (box_below B2.out)) (HI.out.later (box_below B2.out)) (HJ.out.later (box_below B2.out))).mono ?_
  rintro e w3 ⟨rfl, hb3⟩
  have B3 : Hid (Below (w1.heap.size + 1) (w1.alloc (.cells #[.bool any, .slice la ll lc, .slice ka kl kc] 26)) w3) := B2.out.trans (hb3.mono (by have := B2.out.size; simpa using this))
  clear hb3 p0 p1 p2
  obtain ⟨p0, p1, p2⟩ := KC.out w3 B3.out
  cases hB : shB L n (any, us, vs)
  · rw [hB] at e1 e2
    go_wp2_with fail
    refine (shapeOkSpec _ _ _ _ _ _ _ _ _ _ L (any, us, vs) _ (G.out.later (box_below B3.out)) (HI.out.later (box_below B3.out)) (HJ.out.later (box_below B3.out))).mono ?_
    rintro e w4 ⟨rfl, hb4⟩
    have B4 : Hid (Below (w1.heap.size + 1) (w1.alloc (.cells #[.bool any, .slice la ll lc, .slice ka kl kc] 26)) w4) := B3.out.trans (hb4.mono (by have := B3.out.size; simpa using this))
    clear hb4
    rw [hB]
    go_wp2_with fail
    go_ret
    exact ⟨rfl, ALL.out _ B4.out⟩
  have hok : clsOk L = true := by unfold shB at hB; rw [Bool.and_eq_true] at hB; exact hB.1
  have HB : Hid (shB L n (any, us, vs) = true) := hB
  have HSH : Hid (shB L n (false, [], []) = true) := by show _ = _; unfold shB; rw [hok]; rfl
  rw [hB] at e1 e2
  clear hok
  cases any
  · have hz : ll = 0 ∧ kl = 0 := by
      have := HB.out
      unfold shB at this
      simp at this
      have h1 := this.2
      rw [← s1.out, ← s2.out, h1.1, h1.2]
      exact ⟨rfl, rfl⟩
    obtain ⟨rfl, rfl⟩ := hz
    go_wp2_with fail
    go_ret
    exact ⟨rfl, ALL.out _ B3.out⟩
  have hn : ((ll : Int) == n) = true := by
    have := HB.out
    unfold shB at this
    simp [s1.out, s2.out] at this
    simp
    exact this.2.1.1
  have hk4 : kl ≤ 4 := by
    have := HB.out
    unfold shB at this
    simp [s1.out, s2.out] at this
    exact this.2.1.2
  have HNZ : Hid (∀ j, j < kl → vs.getD j 0 ≠ 0) := fun j hj => by
    have := HB.out
    unfold shB stB at this
    simp only [if_true, Bool.and_eq_true, List.all_eq_true] at this
    have h1 := this.2.2.2 (vs.getD j 0) (by
      rw [List.getD_eq_getElem?_getD, List.getElem?_eq_getElem (by rw [s2.out]; exact hj)]
      exact List.getElem_mem _)
    intro e
    rw [e] at h1
    simp at h1
  clear hB
  go_wp2_with fail
  go_loop [7] (fun t => ∃ j : Nat, j ≤ kl ∧ t = .int .i64 j) (fun t => kl - (intOf t).toNat)
  case atStart => exact ⟨0, Nat.zero_le _, rfl⟩
  case round =>
    obtain ⟨j, hj, rfl⟩ := hrel
    by_cases hlt : j < kl
    · obtain ⟨b, off, rfl, hck⟩ : ∃ b off, ka = some ⟨b, off, none⟩ ∧ w3.cell? ⟨b, off + j, none⟩ = some (.int .i64 (vs.getD j 0)) := by
        rcases (HJ.out.later (box_below B3.out)).cells with h0 | ⟨b, off, ha, _, hc⟩
        · omega
        · exact ⟨b, off, ha, hc j hlt⟩
      have hnz : (vs.getD j 0 == 0) = false := by simpa using HNZ.out j hlt
      generalize vs.getD j 0 = z at hck hnz
      have hltI : (j : Int) < (kl : Int) := by omega
      go_wp2_with fail
      exact ⟨⟨j + 1, by omega, by go_num⟩, by simp [intOf]; omega⟩
    · have ej : j = kl := by omega
      subst ej
      go_wp2_with fail
      refine (shapeOkImpl _ _ _ _ none 0 0 none 0 0 L (false, [], []) _ (G.out.later (box_below B3.out)) (F := fun _ => True) (G := fun _ => True) ⟨rfl, by omega, .inl rfl, by simp⟩ ⟨rfl, by omega, .inl rfl, by simp⟩).mono ?_
      rintro e w4 ⟨rfl, hb4⟩
      have B4 : Hid (Below (w1.heap.size + 1) (w1.alloc (.cells #[.bool true, .slice la ll lc, .slice ka j kc] 26)) w4) := B3.out.trans (hb4.mono (by have := B3.out.size; simpa using this))
      clear hb4
      rw [HSH.out]
      go_wp2_with fail
      go_ret
      exact ⟨rfl, ALL.out _ B4.out⟩

set_option maxRecDepth 100000 in
theorem lifted (os : Os) (started : os.Started) (H : Type) (enc : TypeId × Value → H) :
    ReturnsInHanded {} Try.checked os 3 .any (Rows.fnShapeOkSpec.pre6 enc Try.prog Try.f3 Rows.fnShapeOkRow.domain false) (Rows.fnShapeOkSpec.post enc Try.prog Try.f3 false true false false) := by
  refine returnsInHanded_of_change (C := Try.checked) own started (by kernel_rfl) Try.func3
    (ChangeSpec.witness6 (enc := enc) (C := Try.checked) false ⟨#[], #[.slice none 0 0], []⟩ 8 (by kernel_rfl) (by kernel_rfl) (by kernel_rfl) (by kernel_rfl)) ?_
  intro W base args ds gs before hval0 hW hcnd _
  have hval : ∀ (j : Nat) t v, Try.f3.params[j]? = some t → args[j]? = some v → Value.okWide Try.prog W .any base t v := hval0
  have hW' := hW
  obtain ⟨p, q, hA0, hV, rfl, hfz, hnd⟩ := hW
  have hA : DataW.TrodAll enc Try.prog W 0 (fun _ => true) true Try.f3.params.toList args.toList ds p := hA0
  rw [Try.params3] at hA hval
  obtain ⟨v0, vs0, d0, ds0, p0, q0, hargs, rfl, rfl, h0, r0⟩ := trodAll_cons hA
  obtain ⟨rfl, rfl, rfl⟩ := trodAll_nil r0
  obtain rfl : args = #[v0] := by cases args; simp_all
  obtain ⟨rfl, rfl⟩ := trodVars_none hV
  obtain ⟨a0, len0, cap0, rfl⟩ := okWide_slice Try.underlying22 (hval 0 22 v0 rfl rfl)
  have k0 := h0
  have lt0 : ∀ x ∈ p0, x.block < W.heap.size := by obtain ⟨m, hm⟩ := k0; exact DataW.trod_lt m _ _ _ hm
  obtain ⟨z0, w0⟩ : ∃ zs, IsRow .u8 W a0 len0 cap0 zs := by
    obtain ⟨fuel, hf⟩ := h0
    rcases open_ints Try.underlying22 Try.underlying5 (by kernel_rfl) hf with ⟨hcs, _⟩ | ⟨x, l, c, zs, hcs, _, hl, hm, hz, _, hcell, hwz⟩
    · simp [Value.cells] at hcs
      obtain ⟨rfl, rfl, rfl⟩ := hcs
      exact ⟨[], .inl ⟨rfl, rfl, rfl, rfl⟩⟩
    · simp [Value.cells] at hcs
      obtain ⟨rfl, rfl, rfl⟩ := hcs
      exact ⟨zs, .inr ⟨_, rfl, hl, hm, by simpa using hz, hcell, hwz⟩⟩
  clear hA0 hval0
  refine (walk a0 len0 cap0 z0 W w0).mono fun e W' ⟨he, bel⟩ => ?_
  subst he
  exact ⟨_, rfl, _, _, _, [], _, [], hW', trodAll_mk1 (shut_bool Try.underlying4 _), (trodAll_cons_mk (Below.trod laidOut (by kernel_rfl) (of_decide_eq_true (by kernel_rfl)) k0 bel lt0) trodAll_mk0), rfl, bel.frame _, fun h => by cases h⟩

theorem over : Rows.fnShapeOkRow.holds Try.pinned (OpenSpec.ofChange Rows.fnShapeOkSpec) :=
  OpenClaim.holds_of_wide 3 Try.f3 rfl rfl rfl rfl rfl rfl rfl ⟨rfl, rfl, rfl, rfl, rfl⟩ rfl rfl rfl rfl rfl (by kernel_rfl) Try.func3 (by kernel_rfl)
    (of_decide_eq_true (by kernel_rfl)) (by unfold Func.isWrapper; first | (rw [if_pos (by decide +kernel)]; kernel_rfl) | (rw [if_neg (by decide +kernel)]; exact ⟨rfl, rfl⟩))
    (fun os started H enc _ => lifted os started H enc)

theorem proved : Rows.FnShapeOkSaid := over
end Go.Proofs.Ytilceojilhmcgaa.fnShapeOk

namespace Go.Proofs.Ytilceojilhmcgaa
theorem fnShapeOk_holds : Rows.FnShapeOkSaid := fnShapeOk.proved
#print axioms fnShapeOk_holds
end Go.Proofs.Ytilceojilhmcgaa
