/-
  At every list of classes, number and shape ShapeOk of the program answers as ShapeOk of the specification and changes no argument, and the law FnExactShapeOk returns true; no condition.
-/
import Derived.Test.YtmhhopccgokglaaShpImpl
import Derived.Test.YtmhhopccgokglaaDtClass
import Derived.Test.YtmhhopccgokglaaDtShape
import Derived.Test.YtmhhopccgokglaaRdCls
import Derived.Deep.RegionHeld3
namespace Go.Proofs.Ytmhhopccgokglaa.fnExactShapeOk
open Go.ChangeShapes Go.WideShapes Go.ChangeAt Go.RowKit
set_option linter.unusedVariables false

theorem box_elder {w wr : World} {o : Obj} {b j : Nat} {v : Value} (h : Below (w.heap.size + 1) (w.alloc o) wr) (hv : w.cell? ⟨b, j, none⟩ = some v) : wr.cell? ⟨b, j, none⟩ = some v := by
  have hb := World.block_lt_of_cell? w _ hv
  simp only at hb
  rw [h.cell (p := ⟨b, j, none⟩) (by simp only; omega), World.cell?_alloc_past _ _ _ hb]
  exact hv
set_option maxRecDepth 100000 in
set_option maxHeartbeats 8000000 in
theorem walk (a : Option Addr) (len cap : Nat) (n : Int) (x0 : Bool) (a1 : Option Addr) (l1 c1 : Nat) (a2 : Option Addr) (l2 c2 : Nat) (L : List Cl) (us vs : List Int) (w : World) {D : Nat → Prop}
    (h : SlAt clR D w a len L) (h1 : SlAt intR D w a1 l1 us) (h2 : SlAt intR D w a2 l2 vs) :
    Calls Try.prog 4 #[.slice a len cap, .int .i64 n, .agg #[.bool x0, .slice a1 l1 c1, .slice a2 l2 c2]] w fun e w' => e = .returned (.bool true) ∧ Below w.heap.size w w' := by
  have H : Hid (SlAt clR D w a len L) := h
  have H1 : Hid (SlAt intR D w a1 l1 us) := h1
  have H2 : Hid (SlAt intR D w a2 l2 vs) := h2
  have KC : Hid (∀ x : World, Below (w.heap.size + 1) (w.alloc (.cells #[.bool x0, .slice a1 l1 c1, .slice a2 l2 c2] 25)) x → x.cell? ⟨w.heap.size, 0, none⟩ = some (.bool x0) ∧ x.cell? ⟨w.heap.size, 1, none⟩ = some (.slice a1 l1 c1) ∧ x.cell? ⟨w.heap.size, 2, none⟩ = some (.slice a2 l2 c2)) :=
    fun x hb => ⟨box_cell hb 0 _ rfl, box_cell hb 1 _ rfl, box_cell hb 2 _ rfl⟩
  have B0 : Hid (Below w.heap.size w (w.alloc (.cells #[.bool x0, .slice a1 l1 c1, .slice a2 l2 c2] 25))) := (Below.refl _ _).alloc (Nat.le_refl _) _
  have e1 : (shB L n (x0, us, vs) != shB L n (x0, us, vs)) = false := by simp
  clear h h1 h2
  go_enter Try.func4, Try.ntmps4
  go_wp2_with fail
  refine (szLClass _ _ _ L _ _ (H.out.later B0.out) (by omega) (by omega)).mono ?_
  rintro e w1 ⟨r, rfl, r0, r1, hsz, hb1⟩
  have M0 : Hid (0 ≤ r → (Rep.list clR).small L) := hsz
  have B1 : Hid (Below (w.heap.size + 1) (w.alloc (.cells #[.bool x0, .slice a1 l1 c1, .slice a2 l2 c2] 25)) w1) := by show Below _ _ _; simpa using hb1
  obtain ⟨p0, p1, p2⟩ := KC.out w1 B1.out
  clear hsz hb1
  by_cases hr : r < 0
  · go_wp2_with fail
    go_ret
    exact ⟨rfl, box_below B1.out⟩
  go_wp2_with fail
  refine (szRShape _ _ _ _ _ _ _ us vs _ _ (H1.out.later (box_below B1.out)) (H2.out.later (box_below B1.out)) (by omega) (by omega)).mono ?_
  rintro e w2 ⟨q, rfl, q0, q1, qm, hb2⟩
  have MQ : Hid (0 ≤ q → Rep.small shR (x0, us, vs)) := qm
  have B2 : Hid (Below (w.heap.size + 1) (w.alloc (.cells #[.bool x0, .slice a1 l1 c1, .slice a2 l2 c2] 25)) w2) := B1.out.trans (hb2.mono (by have := B1.out.size; simpa using this))
  clear p0 p1 p2 qm hb2
  obtain ⟨p0, p1, p2⟩ := KC.out w2 B2.out
  by_cases hq : q < 0
  · go_wp2_with fail
    go_ret
    exact ⟨rfl, box_below B2.out⟩
  have SL : Hid ((Rep.list clR).small L) := M0.out (by omega)
  have SU : Hid ((Rep.list intR).small us) := (MQ.out (by omega)).2.1
  have SV : Hid ((Rep.list intR).small vs) := (MQ.out (by omega)).2.2
  go_wp2_with fail
  go_region_held3 (fun x => x.cell? ⟨w.heap.size, 0, none⟩ = some (.bool x0) ∧ x.cell? ⟨w.heap.size, 1, none⟩ = some (.slice a1 l1 c1) ∧ x.cell? ⟨w.heap.size, 2, none⟩ = some (.slice a2 l2 c2)) (first | exact KC.out _ (below_drewN B2.out 1) | exact KC.out _ B3.out | exact KC.out _ B4.out | exact KC.out _ B5.out) (first | (go_at_call 9; refine (toLClass _ _ _ L _ (H.out.later (box_below (below_drewN B2.out 1))) SL.out).mono ?_; rintro e w3 ⟨ta, tc, rfl, hS3, hb3⟩; have T3 : Hid (SlAt clR _ w3 ta len L) := hS3; have B3 : Hid (Below (w.heap.size + 1) (w.alloc (.cells #[.bool x0, .slice a1 l1 c1, .slice a2 l2 c2] 25)) w3) := (below_drewN B2.out 1).trans (hb3.mono (by have := B2.out.size; simpa using this)); clear hS3 hb3) | (go_at_call 10; refine (toRShape _ _ _ _ _ _ _ us vs _ (H1.out.later (box_below B3.out)) SU.out (H2.out.later (box_below B3.out)) SV.out).mono ?_; rintro e w4 ⟨na1, nc1, na2, nc2, rfl, hU, hV, hb4⟩; have U4 : Hid (SlAt intR _ w4 na1 l1 us) := hU; have V4 : Hid (SlAt intR _ w4 na2 l2 vs) := hV; have T4 : Hid (SlAt clR _ w4 ta len L) := T3.out.later hb4; have B4 : Hid (Below (w.heap.size + 1) (w.alloc (.cells #[.bool x0, .slice a1 l1 c1, .slice a2 l2 c2] 25)) w4) := B3.out.trans (hb4.mono (by have := B3.out.size; simpa using this)); clear hU hV hb4) | (go_at_call 14; refine (shapeOkSpec _ _ _ _ _ _ _ _ _ _ L (x0, us, vs) _ T4.out.cls U4.out.ints V4.out.ints).mono ?_; rintro e w5 ⟨rfl, hb5⟩; have B5 : Hid (Below (w.heap.size + 1) (w.alloc (.cells #[.bool x0, .slice a1 l1 c1, .slice a2 l2 c2] 25)) w5) := B4.out.trans (hb5.mono (by have := B4.out.size; simpa using this)); clear hb5))
  all_goals
    clear p0 p1 p2 T3 T4 U4 V4
    obtain ⟨p0, p1, p2⟩ := KC.out w5 B5.out
    go_wp2_with fail
    refine (toLClass _ _ _ L _ (H.out.later (box_below B5.out)) SL.out).mono ?_
    rintro e w6 ⟨ga, gc, rfl, hS6, hb6⟩
    have G6 : Hid (SlAt clR _ w6 ga len L) := hS6
    have B6 : Hid (Below (w.heap.size + 1) (w.alloc (.cells #[.bool x0, .slice a1 l1 c1, .slice a2 l2 c2] 25)) w6) := B5.out.trans (hb6.mono (by have := B5.out.size; simpa using this))
    clear hS6 hb6 p0 p1 p2
    obtain ⟨p0, p1, p2⟩ := KC.out w6 B6.out
    go_wp2_with fail
    refine (toRShape _ _ _ _ _ _ _ us vs _ (H1.out.later (box_below B6.out)) SU.out (H2.out.later (box_below B6.out)) SV.out).mono ?_
    rintro e w7 ⟨ka1, kc1, ka2, kc2, rfl, hU, hV, hb7⟩
    have U7 : Hid (SlAt intR _ w7 ka1 l1 us) := hU
    have V7 : Hid (SlAt intR _ w7 ka2 l2 vs) := hV
    have G7 : Hid (SlAt clR _ w7 ga len L) := G6.out.later hb7
    have B7 : Hid (Below (w.heap.size + 1) (w.alloc (.cells #[.bool x0, .slice a1 l1 c1, .slice a2 l2 c2] 25)) w7) := B6.out.trans (hb7.mono (by have := B6.out.size; simpa using this))
    clear hU hV hb7 p0 p1 p2 G6
    obtain ⟨p0, p1, p2⟩ := KC.out w7 B7.out
    have KQ : Hid (∀ x : World, Below (w7.heap.size + 1) (w7.alloc (.cells #[.bool x0, .slice ka1 l1 (l1 + kc1), .slice ka2 l2 (l2 + kc2)] 31)) x → x.cell? ⟨w.heap.size, 0, none⟩ = some (.bool x0) ∧ x.cell? ⟨w.heap.size, 1, none⟩ = some (.slice a1 l1 c1) ∧ x.cell? ⟨w.heap.size, 2, none⟩ = some (.slice a2 l2 c2) ∧ x.cell? ⟨w7.heap.size, 0, none⟩ = some (.bool x0) ∧ x.cell? ⟨w7.heap.size, 1, none⟩ = some (.slice ka1 l1 (l1 + kc1)) ∧ x.cell? ⟨w7.heap.size, 2, none⟩ = some (.slice ka2 l2 (l2 + kc2))) := fun x hb => ⟨box_elder hb p0, box_elder hb p1, box_elder hb p2, box_cell hb 0 _ rfl, box_cell hb 1 _ rfl, box_cell hb 2 _ rfl⟩
    have A7 : Hid (Below w7.heap.size w7 (w7.alloc (.cells #[.bool x0, .slice ka1 l1 (l1 + kc1), .slice ka2 l2 (l2 + kc2)] 31))) := (Below.refl _ _).alloc (Nat.le_refl _) _
    go_wp2_with fail
    refine (shapeOkImpl _ _ _ _ _ _ _ _ _ _ L (x0, us, vs) _ (G7.out.later A7.out).cls (U7.out.later A7.out).ints (V7.out.later A7.out).ints).mono ?_
    rintro e w8 ⟨rfl, hb8⟩
    have B8 : Hid (Below (w7.heap.size + 1) (w7.alloc (.cells #[.bool x0, .slice ka1 l1 (l1 + kc1), .slice ka2 l2 (l2 + kc2)] 31)) w8) := by show Below _ _ _; simpa using hb8
    have C8 : Hid (Below w7.heap.size w7 w8) := box_below B8.out
    have D8 : Hid (Below w.heap.size w w8) := (box_below B7.out).trans (C8.out.mono (box_below B7.out).size)
    have G8 : Hid (SlAt clR _ w8 ga len L) := G7.out.later C8.out
    have U8 : Hid (SlAt intR _ w8 ka1 l1 us) := U7.out.later C8.out
    have V8 : Hid (SlAt intR _ w8 ka2 l2 vs) := V7.out.later C8.out
    clear hb8 p0 p1 p2 G7 U7 V7
    obtain ⟨p0, p1, p2, s0, s1, s2⟩ := KQ.out w8 B8.out
    go_wp2_with fail
    refine (toLClass _ _ _ L _ (H.out.later D8.out) SL.out).mono ?_
    rintro e w9 ⟨ja, jc, rfl, hS9, hb9⟩
    have J9 : Hid (SlAt clR _ w9 ja len L) := hS9
    have G9 : Hid (SlAt clR _ w9 ga len L) := G8.out.later hb9
    have K9 : Hid (Below w8.heap.size w8 w9) := hb9
    have B9 : Hid (Below (w7.heap.size + 1) (w7.alloc (.cells #[.bool x0, .slice ka1 l1 (l1 + kc1), .slice ka2 l2 (l2 + kc2)] 31)) w9) := B8.out.trans (hb9.mono (by have := B8.out.size; simpa using this))
    clear hS9 hb9 p0 p1 p2 s0 s1 s2
    go_wp2_with fail
    refine (eqLClass _ _ _ _ _ _ L _ G9.out J9.out).mono ?_
    rintro e w10 ⟨rfl, hb10⟩
    have B10 : Hid (Below (w7.heap.size + 1) (w7.alloc (.cells #[.bool x0, .slice ka1 l1 (l1 + kc1), .slice ka2 l2 (l2 + kc2)] 31)) w10) := B9.out.trans (hb10.mono (by have := B9.out.size; simpa using this))
    have C10 : Hid (Below w7.heap.size w7 w10) := box_below B10.out
    have D10 : Hid (Below w.heap.size w w10) := (box_below B7.out).trans (C10.out.mono (box_below B7.out).size)
    have K8 : Hid (Below w8.heap.size w8 w10) := K9.out.trans (hb10.mono K9.out.size)
    clear hb10 J9 G9
    obtain ⟨p0, p1, p2, s0, s1, s2⟩ := KQ.out w10 B10.out
    go_wp2_with fail
    go_region_held3 (fun x => x.cell? ⟨w.heap.size, 0, none⟩ = some (.bool x0) ∧ x.cell? ⟨w.heap.size, 1, none⟩ = some (.slice a1 l1 c1) ∧ x.cell? ⟨w.heap.size, 2, none⟩ = some (.slice a2 l2 c2) ∧ x.cell? ⟨w7.heap.size, 0, none⟩ = some (.bool x0) ∧ x.cell? ⟨w7.heap.size, 1, none⟩ = some (.slice ka1 l1 (l1 + kc1)) ∧ x.cell? ⟨w7.heap.size, 2, none⟩ = some (.slice ka2 l2 (l2 + kc2))) (first | exact KQ.out _ (below_drewN B10.out 1) | exact KQ.out _ B11.out | exact KQ.out _ B12.out) (first | (go_at_call 10; refine (toRShape _ _ _ _ _ _ _ us vs _ (H1.out.later (below_drewN D10.out 1)) SU.out (H2.out.later (below_drewN D10.out 1)) SV.out).mono ?_; rintro e w11 ⟨na1', nc1', na2', nc2', rfl, hU, hV, hb11⟩; have U11 : Hid (SlAt intR _ w11 na1' l1 us) := hU; have V11 : Hid (SlAt intR _ w11 na2' l2 vs) := hV; have E11 : Hid (Below w8.heap.size w8 w11) := (below_drewN K8.out 1).trans (hb11.mono (by have := K8.out.size; simpa using this)); have B11 : Hid (Below (w7.heap.size + 1) (w7.alloc (.cells #[.bool x0, .slice ka1 l1 (l1 + kc1), .slice ka2 l2 (l2 + kc2)] 31)) w11) := (below_drewN B10.out 1).trans (hb11.mono (by have := B10.out.size; simpa using this)); clear hU hV hb11) | (go_at_call 13; refine (eqRShape _ _ _ _ _ _ _ _ _ _ _ _ _ us vs _ (U8.out.later E11.out) U11.out (V8.out.later E11.out) V11.out).mono ?_; rintro e w12 ⟨rfl, hb12⟩; have B12 : Hid (Below (w7.heap.size + 1) (w7.alloc (.cells #[.bool x0, .slice ka1 l1 (l1 + kc1), .slice ka2 l2 (l2 + kc2)] 31)) w12) := B11.out.trans (hb12.mono (by have := B11.out.size; simpa using this)); clear hb12))
    all_goals
      go_wp2_with fail
      go_ret
      exact ⟨rfl, (box_below B7.out).trans ((box_below B12.out).mono (box_below B7.out).size)⟩

/-- What came in, read. -/
theorem slOf {α : Type} {R : Rep α} {t : TypeId} (hr : Reads t (.list R)) {H : Type} {enc : TypeId × Value → H} {W : World} {a : Option Addr} {len cap : Nat} {d : DataW H} {p : List MemPlace} (h : DataW.Trod enc Try.prog W 0 (fun _ => true) true t (.slice a len cap) d p) : ∃ xs, SlAt R (fun _ => True) W a len xs := by
  obtain ⟨fuel, hf⟩ := h
  obtain ⟨xs, a', l', c', e, hS⟩ := hr _ _ _ _ _ _ hf
  simp [Value.cells] at e
  obtain ⟨rfl, rfl, rfl⟩ := e
  exact ⟨xs, hS⟩
theorem shapeOf {H : Type} {enc : TypeId × Value → H} {W : World} {cs : Array Value} {d : DataW H} {p : List MemPlace} (h : DataW.Trod enc Try.prog W 0 (fun _ => true) true 25 (.agg cs) d p) :
    ∃ x0 a1 l1 c1 a2 l2 c2 us vs, cs = #[.bool x0, .slice a1 l1 c1, .slice a2 l2 c2] ∧ SlAt intR (fun _ => True) W a1 l1 us ∧ SlAt intR (fun _ => True) W a2 l2 vs := by
  obtain ⟨fuel, hf⟩ := h
  obtain ⟨⟨x0, us, vs⟩, _, _, e, rfl, _, _, rfl, ⟨a1, l1, c1, rfl, h1⟩, ⟨a2, l2, c2, rfl, h2⟩⟩ := rd_Shape _ _ _ _ _ _ hf
  refine ⟨x0, a1, l1, c1, a2, l2, c2, us, vs, ?_, h1, h2⟩
  obtain ⟨l⟩ := cs
  simpa [Value.cells] using e

set_option maxRecDepth 100000 in
theorem lifted (os : Os) (started : os.Started) (H : Type) (enc : TypeId × Value → H) :
    ReturnsInHanded {} Try.checked os 4 .any (Rows.fnExactShapeOkSpec.pre6 enc Try.prog Try.f4 Rows.fnExactShapeOkRow.domain false) (Rows.fnExactShapeOkSpec.post enc Try.prog Try.f4 false true false false) := by
  refine returnsInHanded_of_change (C := Try.checked) own started (by kernel_rfl) Try.func4
    (ChangeSpec.witness6 (enc := enc) (C := Try.checked) false ⟨#[], #[.slice none 0 0, .int .i64 0, .agg #[.bool false, .slice none 0 0, .slice none 0 0]], []⟩ 8 (by kernel_rfl) (by kernel_rfl) (by kernel_rfl) (by kernel_rfl)) ?_
  intro W base args ds gs before hval0 hW hcnd _
  have hval : ∀ (j : Nat) t v, Try.f4.params[j]? = some t → args[j]? = some v → Value.okWide Try.prog W .any base t v := hval0
  have hW' := hW
  obtain ⟨p, q, hA0, hV, rfl, hfz, hnd⟩ := hW
  have hA : DataW.TrodAll enc Try.prog W 0 (fun _ => true) true Try.f4.params.toList args.toList ds p := hA0
  rw [Try.params4] at hA hval
  obtain ⟨v0, vs0, d0, ds0, p0, q0, hargs, rfl, rfl, h0, r0⟩ := trodAll_cons hA
  obtain ⟨v1, vs1, d1, ds1, p1, q1, rfl, rfl, rfl, h1, r1⟩ := trodAll_cons r0
  obtain ⟨v2, vs2, d2, ds2, p2, q2, rfl, rfl, rfl, h2, r2⟩ := trodAll_cons r1
  obtain ⟨rfl, rfl, rfl⟩ := trodAll_nil r2
  obtain rfl : args = #[v0, v1, v2] := by cases args; simp_all
  obtain ⟨rfl, rfl⟩ := trodVars_none hV
  have k0 := h0
  have lt0 : ∀ x ∈ p0, x.block < W.heap.size := by obtain ⟨m, hm⟩ := k0; exact DataW.trod_lt m _ _ _ hm
  have k2 := h2
  have lt2 : ∀ x ∈ p2, x.block < W.heap.size := by obtain ⟨m, hm⟩ := k2; exact DataW.trod_lt m _ _ _ hm
  obtain ⟨a0, len0, cap0, rfl⟩ := okWide_slice Try.underlying22 (hval 0 22 v0 rfl rfl)
  obtain ⟨L, w0⟩ := slOf rdL_Class h0
  obtain ⟨a1, rfl, rfl, rfl, w1⟩ := open_int Try.underlying3 (hval 1 3 v1 rfl rfl) h1
  obtain ⟨cs, rfl, _⟩ := okWide_struct Try.underlying25 (hval 2 25 v2 rfl rfl)
  obtain ⟨x0, b1, l1, c1, b2, l2, c2, us, vs, rfl, w2, w3⟩ := shapeOf h2
  clear hA0 hval0
  refine (walk a0 len0 cap0 a1 x0 b1 l1 c1 b2 l2 c2 L us vs W w0 w2 w3).mono fun e W' ⟨he, bel⟩ => ?_
  subst he
  exact ⟨_, rfl, _, _, _, [], _, [], hW', trodAll_mk1 (shut_bool Try.underlying4 _), (trodAll_cons_mk (Below.trod laidOut (by kernel_rfl) (of_decide_eq_true (by kernel_rfl)) k0 bel lt0) (trodAll_cons_mk (shut_int Try.underlying3 w1) (trodAll_cons_mk (Below.trod laidOut (by kernel_rfl) (of_decide_eq_true (by kernel_rfl)) k2 bel lt2) trodAll_mk0))), rfl, bel.frame _, fun h => by cases h⟩

theorem over : Rows.fnExactShapeOkRow.holds Try.pinned (OpenSpec.ofChange Rows.fnExactShapeOkSpec) :=
  OpenClaim.holds_of_wide 4 Try.f4 rfl rfl rfl rfl rfl rfl rfl ⟨rfl, rfl, rfl, rfl, rfl⟩ rfl rfl rfl rfl rfl (by kernel_rfl) Try.func4 (by kernel_rfl)
    (of_decide_eq_true (by kernel_rfl)) (by unfold Func.isWrapper; first | (rw [if_pos (by decide +kernel)]; kernel_rfl) | (rw [if_neg (by decide +kernel)]; exact ⟨rfl, rfl⟩))
    (fun os started H enc _ => lifted os started H enc)
theorem proved : Rows.FnExactShapeOkSaid := over
end Go.Proofs.Ytmhhopccgokglaa.fnExactShapeOk

namespace Go.Proofs.Ytmhhopccgokglaa
theorem fnExactShapeOk_holds : Rows.FnExactShapeOkSaid := fnExactShapeOk.proved
#print axioms fnExactShapeOk_holds
end Go.Proofs.Ytmhhopccgokglaa
