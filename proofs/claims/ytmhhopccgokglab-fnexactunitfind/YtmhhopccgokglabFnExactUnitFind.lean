/-
  At every unit and two numbers UnitFind of the program answers as UnitFind of the specification and changes no argument, and the law FnExactUnitFind returns true; no condition.
-/
import Derived.Test.YtmhhopccgokglabFndImpl
import Derived.Test.YtmhhopccgokglabDtUnit
import Derived.Test.YtmhhopccgokglabRdCls
import Derived.Deep.RegionHeld3
namespace Go.Proofs.Ytmhhopccgokglab.fnExactUnitFind
open Go.ChangeShapes Go.WideShapes Go.ChangeAt Go.RowKit
set_option linter.unusedVariables false

theorem box_elder {w wr : World} {o : Obj} {b j : Nat} {v : Value} (h : Below (w.heap.size + 1) (w.alloc o) wr) (hv : w.cell? ⟨b, j, none⟩ = some v) : wr.cell? ⟨b, j, none⟩ = some v := by
  have hb := World.block_lt_of_cell? w _ hv
  simp only at hb
  rw [h.cell (p := ⟨b, j, none⟩) (by simp only; omega), World.cell?_alloc_past _ _ _ hb]
  exact hv
set_option maxRecDepth 100000 in
set_option maxHeartbeats 8000000 in
theorem walk (a0 : Option Addr) (l0 c0 : Nat) (a1 : Option Addr) (l1 c1 : Nat) (c s : Int) (L : List Cl) (M : List Me) (w : World) {D : Nat → Prop} (h : SlAt clR D w a0 l0 L) (hM : SlAt meR D w a1 l1 M) :
    Calls Try.prog 3 #[.agg #[.slice a0 l0 c0, .slice a1 l1 c1], .int .i64 c, .int .i64 s] w fun e w' => e = .returned (.bool true) ∧ Below w.heap.size w w' := by
  have H : Hid (SlAt clR D w a0 l0 L) := h
  have HM : Hid (SlAt meR D w a1 l1 M) := hM
  have KC : Hid (∀ x : World, Below (w.heap.size + 1) (w.alloc (.cells #[.slice a0 l0 c0, .slice a1 l1 c1] 25)) x → x.cell? ⟨w.heap.size, 0, none⟩ = some (.slice a0 l0 c0) ∧ x.cell? ⟨w.heap.size, 1, none⟩ = some (.slice a1 l1 c1)) := fun x hb => ⟨box_cell hb 0 _ rfl, box_cell hb 1 _ rfl⟩
  have B0 : Hid (Below w.heap.size w (w.alloc (.cells #[.slice a0 l0 c0, .slice a1 l1 c1] 25))) := (Below.refl _ _).alloc (Nat.le_refl _) _
  clear h hM
  go_enter Try.func3, Try.ntmps3
  go_wp2_with fail
  refine (szRUnit _ _ _ _ _ _ L M _ _ (H.out.later B0.out) (HM.out.later B0.out) (by omega) (by omega)).mono ?_
  rintro e w1 ⟨r, rfl, r0, r1, hsz, hb1⟩
  have M0 : Hid (0 ≤ r → Rep.small unR (L, M)) := hsz
  have B1 : Hid (Below (w.heap.size + 1) (w.alloc (.cells #[.slice a0 l0 c0, .slice a1 l1 c1] 25)) w1) := by show Below _ _ _; simpa using hb1
  obtain ⟨p0, p1⟩ := KC.out w1 B1.out
  clear hsz hb1
  by_cases hr : r < 0
  · go_wp2_with fail
    go_ret
    exact ⟨rfl, box_below B1.out⟩
  have SL : Hid ((Rep.list clR).small L) := (M0.out (by omega)).1
  have SM : Hid ((Rep.list meR).small M) := (M0.out (by omega)).2
  go_wp2_with fail
  refine (toRUnit _ _ _ _ _ _ L M _ (H.out.later (box_below B1.out)) SL.out (HM.out.later (box_below B1.out)) SM.out).mono ?_
  rintro e w2 ⟨na0, nc0, na1, nc1, rfl, hU, hV, hb2⟩
  have U2 : Hid (SlAt clR _ w2 na0 l0 L) := hU
  have V2 : Hid (SlAt meR _ w2 na1 l1 M) := hV
  have B2 : Hid (Below (w.heap.size + 1) (w.alloc (.cells #[.slice a0 l0 c0, .slice a1 l1 c1] 25)) w2) := B1.out.trans (hb2.mono (by have := B1.out.size; simpa using this))
  clear hU hV hb2 p0 p1
  go_wp2_with fail
  refine (unitFindSpec _ _ _ _ _ _ c s L M _ U2.out.cls V2.out).mono ?_
  rintro e w3 ⟨rfl, hb3⟩
  have B3 : Hid (Below (w.heap.size + 1) (w.alloc (.cells #[.slice a0 l0 c0, .slice a1 l1 c1] 25)) w3) := B2.out.trans (hb3.mono (by have := B2.out.size; simpa using this))
  clear hb3 U2 V2
  obtain ⟨p0, p1⟩ := KC.out w3 B3.out
  have e1 : (findV L M c s != findV L M c s) = false := by simp
  go_wp2_with fail
  refine (toRUnit _ _ _ _ _ _ L M _ (H.out.later (box_below B3.out)) SL.out (HM.out.later (box_below B3.out)) SM.out).mono ?_
  rintro e w4 ⟨ka0, kc0, ka1, kc1, rfl, hU, hV, hb4⟩
  have T4 : Hid (SlAt clR _ w4 ka0 l0 L) := hU
  have N4 : Hid (SlAt meR _ w4 ka1 l1 M) := hV
  have B4 : Hid (Below (w.heap.size + 1) (w.alloc (.cells #[.slice a0 l0 c0, .slice a1 l1 c1] 25)) w4) := B3.out.trans (hb4.mono (by have := B3.out.size; simpa using this))
  clear hU hV hb4 p0 p1
  obtain ⟨p0, p1⟩ := KC.out w4 B4.out
  have KQ : Hid (∀ x : World, Below (w4.heap.size + 1) (w4.alloc (.cells #[.slice ka0 l0 (l0 + kc0), .slice ka1 l1 (l1 + kc1)] 31)) x → x.cell? ⟨w.heap.size, 0, none⟩ = some (.slice a0 l0 c0) ∧ x.cell? ⟨w.heap.size, 1, none⟩ = some (.slice a1 l1 c1) ∧ x.cell? ⟨w4.heap.size, 0, none⟩ = some (.slice ka0 l0 (l0 + kc0)) ∧ x.cell? ⟨w4.heap.size, 1, none⟩ = some (.slice ka1 l1 (l1 + kc1))) := fun x hb => ⟨box_elder hb p0, box_elder hb p1, box_cell hb 0 _ rfl, box_cell hb 1 _ rfl⟩
  have A4 : Hid (Below w4.heap.size w4 (w4.alloc (.cells #[.slice ka0 l0 (l0 + kc0), .slice ka1 l1 (l1 + kc1)] 31))) := (Below.refl _ _).alloc (Nat.le_refl _) _
  go_wp2_with fail
  refine (unitFindImpl _ _ _ _ _ _ c s L M _ (T4.out.later A4.out).cls (N4.out.later A4.out) (by omega)).mono ?_
  rintro e w5 ⟨rfl, hb5⟩
  have B5 : Hid (Below (w4.heap.size + 1) (w4.alloc (.cells #[.slice ka0 l0 (l0 + kc0), .slice ka1 l1 (l1 + kc1)] 31)) w5) := by show Below _ _ _; simpa using hb5
  have C5 : Hid (Below w4.heap.size w4 w5) := box_below B5.out
  have D5 : Hid (Below w.heap.size w w5) := (box_below B4.out).trans (C5.out.mono (box_below B4.out).size)
  have T5 : Hid (SlAt clR _ w5 ka0 l0 L) := T4.out.later C5.out
  have N5 : Hid (SlAt meR _ w5 ka1 l1 M) := N4.out.later C5.out
  clear hb5 p0 p1 T4 N4
  obtain ⟨p0, p1, s0, s1⟩ := KQ.out w5 B5.out
  go_wp2_with fail
  refine wp_region_held_drew (S := fun x => x.cell? ⟨w.heap.size, 0, none⟩ = some (.slice a0 l0 c0) ∧ x.cell? ⟨w.heap.size, 1, none⟩ = some (.slice a1 l1 c1) ∧ x.cell? ⟨w4.heap.size, 0, none⟩ = some (.slice ka0 l0 (l0 + kc0)) ∧ x.cell? ⟨w4.heap.size, 1, none⟩ = some (.slice ka1 l1 (l1 + kc1))) (by kernel_rfl) ?_ (fun hHeld => ?_)
  · exact KQ.out _ (below_drewN B5.out 1)
  refine wpAnyH_take (i := 0) (v := .agg #[.slice ka0 l0 (l0 + kc0), .slice ka1 l1 (l1 + kc1)]) rfl (by kernel_rfl) (by kernel_rfl) (by kernel_rfl) (fun _ _ _ h => h) (Or.inl ⟨by kernel_rfl, by (intro x hSx; (try dsimp only at hSx); go_simp)⟩) (by assumption) ?_
  try simp only [Act.put, List.getElem_toArray, List.getElem_cons_zero, List.setIfInBounds_toArray, List.set_cons_zero, List.set_cons_succ]
  refine wpAnyH_take (i := 1) (v := .agg #[.slice a0 l0 c0, .slice a1 l1 c1]) rfl (by kernel_rfl) (by kernel_rfl) (by kernel_rfl) (fun _ _ _ h => h) (Or.inl ⟨by kernel_rfl, by (intro x hSx; (try dsimp only at hSx); go_simp)⟩) (by assumption) ?_
  try simp only [Act.put, List.getElem_toArray, List.getElem_cons_zero, List.getElem_cons_succ, List.setIfInBounds_toArray, List.set_cons_zero, List.set_cons_succ]
  refine wpAnyH_ready (rs := [2]) (by kernel_rfl) (by simp) ?_
  refine AllReadyH.cons rfl (fun K hK => ?_) AllReadyH.nil
  go_simp
  go_at_call 6
  refine (toRUnit _ _ _ _ _ _ L M _ (H.out.later (below_drewN D5.out 1)) SL.out (HM.out.later (below_drewN D5.out 1)) SM.out).mono ?_
  rintro e w6 ⟨ja0, jc0, ja1, jc1, rfl, hU, hV, hb6⟩
  have U6 : Hid (SlAt clR _ w6 ja0 l0 L) := hU
  have V6 : Hid (SlAt meR _ w6 ja1 l1 M) := hV
  have E6 : Hid (Below w5.heap.size w5 w6) := (below_drewN (Below.refl _ _) 1).trans (hb6.mono (by simp))
  have B6 : Hid (Below (w4.heap.size + 1) (w4.alloc (.cells #[.slice ka0 l0 (l0 + kc0), .slice ka1 l1 (l1 + kc1)] 31)) w6) := (below_drewN B5.out 1).trans (hb6.mono (by have := B5.out.size; simpa using this))
  clear hU hV hb6
  go_wp2_with fail
  refine hK.out _ _ (KQ.out _ B6.out) (fun hHeld2 => ?_)
  clear hK K
  try simp only [Act.put, List.getElem_toArray, List.getElem_cons_zero, List.getElem_cons_succ, List.setIfInBounds_toArray, List.set_cons_zero, List.set_cons_succ]
  refine wpAnyH_ready (rs := [3]) (by kernel_rfl) (by simp) ?_
  refine AllReadyH.cons rfl (fun K hK => ?_) AllReadyH.nil
  go_simp
  go_at_call 8
  refine (eqRUnit _ _ _ _ _ _ _ _ _ _ _ _ L M _ (T5.out.later E6.out) U6.out (N5.out.later E6.out) V6.out).mono ?_
  rintro e w7 ⟨rfl, hb7⟩
  have B7 : Hid (Below (w4.heap.size + 1) (w4.alloc (.cells #[.slice ka0 l0 (l0 + kc0), .slice ka1 l1 (l1 + kc1)] 31)) w7) := B6.out.trans (hb7.mono (by have := B6.out.size; simpa using this))
  clear hb7
  go_wp2_with fail
  refine hK.out _ _ (KQ.out _ B7.out) (fun hHeld3 => ?_)
  clear hK K
  try simp only [Act.put, List.getElem_toArray, List.getElem_cons_zero, List.getElem_cons_succ, List.setIfInBounds_toArray, List.set_cons_zero, List.set_cons_succ]
  refine wpAnyH_take (i := 4) (v := .bool false) rfl (by kernel_rfl) (by kernel_rfl) (by kernel_rfl) (fun _ _ _ h => h) (Or.inl ⟨by kernel_rfl, by (intro x hSx; (try dsimp only at hSx); go_simp)⟩) (by assumption) ?_
  try simp only [Act.put, List.getElem_toArray, List.getElem_cons_zero, List.getElem_cons_succ, List.setIfInBounds_toArray, List.set_cons_zero, List.set_cons_succ]
  refine wpAnyH_done (by kernel_rfl) ?_ _
  clear hHeld hHeld2 hHeld3
  go_wp2_with fail
  go_ret
  exact ⟨rfl, (box_below B4.out).trans ((box_below B7.out).mono (box_below B4.out).size)⟩

/-- What came in, read. -/
theorem unitOf {H : Type} {enc : TypeId × Value → H} {W : World} {cs : Array Value} {d : DataW H} {p : List MemPlace} (h : DataW.Trod enc Try.prog W 0 (fun _ => true) true 25 (.agg cs) d p) :
    ∃ a0 l0 c0 a1 l1 c1 L M, cs = #[.slice a0 l0 c0, .slice a1 l1 c1] ∧ SlAt clR (fun _ => True) W a0 l0 L ∧ SlAt meR (fun _ => True) W a1 l1 M := by
  obtain ⟨fuel, hf⟩ := h
  obtain ⟨⟨L, M⟩, _, _, e, ⟨a0, l0, c0, rfl, h1⟩, ⟨a1, l1, c1, rfl, h2⟩⟩ := rd_Unit _ _ _ _ _ _ hf
  refine ⟨a0, l0, c0, a1, l1, c1, L, M, ?_, h1, h2⟩
  obtain ⟨l⟩ := cs
  simpa [Value.cells] using e

set_option maxRecDepth 100000 in
theorem lifted (os : Os) (started : os.Started) (H : Type) (enc : TypeId × Value → H) :
    ReturnsInHanded {} Try.checked os 3 .any (Rows.fnExactUnitFindSpec.pre6 enc Try.prog Try.f3 Rows.fnExactUnitFindRow.domain false) (Rows.fnExactUnitFindSpec.post enc Try.prog Try.f3 false true false false) := by
  refine returnsInHanded_of_change (C := Try.checked) own started (by kernel_rfl) Try.func3
    (ChangeSpec.witness6 (enc := enc) (C := Try.checked) false ⟨#[], #[.agg #[.slice none 0 0, .slice none 0 0], .int .i64 0, .int .i64 0], []⟩ 8 (by kernel_rfl) (by kernel_rfl) (by kernel_rfl) (by kernel_rfl)) ?_
  intro W base args ds gs before hval0 hW hcnd _
  have hval : ∀ (j : Nat) t v, Try.f3.params[j]? = some t → args[j]? = some v → Value.okWide Try.prog W .any base t v := hval0
  have hW' := hW
  obtain ⟨p, q, hA0, hV, rfl, hfz, hnd⟩ := hW
  have hA : DataW.TrodAll enc Try.prog W 0 (fun _ => true) true Try.f3.params.toList args.toList ds p := hA0
  rw [Try.params3] at hA hval
  obtain ⟨v0, vs0, d0, ds0, p0, q0, hargs, rfl, rfl, h0, r0⟩ := trodAll_cons hA
  obtain ⟨v1, vs1, d1, ds1, p1, q1, rfl, rfl, rfl, h1, r1⟩ := trodAll_cons r0
  obtain ⟨v2, vs2, d2, ds2, p2, q2, rfl, rfl, rfl, h2, r2⟩ := trodAll_cons r1
  obtain ⟨rfl, rfl, rfl⟩ := trodAll_nil r2
  obtain rfl : args = #[v0, v1, v2] := by cases args; simp_all
  obtain ⟨rfl, rfl⟩ := trodVars_none hV
  have k0 := h0
  have lt0 : ∀ x ∈ p0, x.block < W.heap.size := by obtain ⟨m, hm⟩ := k0; exact DataW.trod_lt m _ _ _ hm
  obtain ⟨cs, rfl, _⟩ := okWide_struct Try.underlying25 (hval 0 25 v0 rfl rfl)
  obtain ⟨b0, l0, c0, b1, l1, c1, L, M, rfl, w0, w1⟩ := unitOf h0
  obtain ⟨i1, rfl, rfl, rfl, y1⟩ := open_int Try.underlying3 (hval 1 3 v1 rfl rfl) h1
  obtain ⟨i2, rfl, rfl, rfl, y2⟩ := open_int Try.underlying3 (hval 2 3 v2 rfl rfl) h2
  clear hA0 hval0
  refine (walk b0 l0 c0 b1 l1 c1 i1 i2 L M W w0 w1).mono fun e W' ⟨he, bel⟩ => ?_
  subst he
  exact ⟨_, rfl, _, _, _, [], _, [], hW', trodAll_mk1 (shut_bool Try.underlying4 _), (trodAll_cons_mk (Below.trod laidOut (by kernel_rfl) (of_decide_eq_true (by kernel_rfl)) k0 bel lt0) (trodAll_cons_mk (shut_int Try.underlying3 y1) (trodAll_cons_mk (shut_int Try.underlying3 y2) trodAll_mk0))), rfl, bel.frame _, fun h => by cases h⟩

theorem over : Rows.fnExactUnitFindRow.holds Try.pinned (OpenSpec.ofChange Rows.fnExactUnitFindSpec) :=
  OpenClaim.holds_of_wide 3 Try.f3 rfl rfl rfl rfl rfl rfl rfl ⟨rfl, rfl, rfl, rfl, rfl⟩ rfl rfl rfl rfl rfl (by kernel_rfl) Try.func3 (by kernel_rfl)
    (of_decide_eq_true (by kernel_rfl)) (by unfold Func.isWrapper; first | (rw [if_pos (by decide +kernel)]; kernel_rfl) | (rw [if_neg (by decide +kernel)]; exact ⟨rfl, rfl⟩))
    (fun os started H enc _ => lifted os started H enc)
theorem proved : Rows.FnExactUnitFindSaid := over
end Go.Proofs.Ytmhhopccgokglab.fnExactUnitFind

namespace Go.Proofs.Ytmhhopccgokglab
theorem fnExactUnitFind_holds : Rows.FnExactUnitFindSaid := fnExactUnitFind.proved
#print axioms fnExactUnitFind_holds
end Go.Proofs.Ytmhhopccgokglab
