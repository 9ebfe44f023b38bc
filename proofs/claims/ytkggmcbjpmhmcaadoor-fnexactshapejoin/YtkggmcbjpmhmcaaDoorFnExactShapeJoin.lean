/-
  At all classes and every two shapes ShapeJoin of the program answers as ShapeJoin of the specification, changes no argument, and gives memory of its own, and the law FnExactShapeJoin returns true; the package's variable errApart holds what the program's own text lays (the card ties it).
-/
import Derived.Test.YtkggmcbjpmhmcaaDoorExsjW
import Derived.Test.YtkggmcbjpmhmcaaDoorCards
import Derived.Test.YtkggmcbjpmhmcaaDoorTie
import Derived.WalkKit
import Derived.ProofKit
import Derived.OpenShut
import Derived.Deep.DeepHandedRow
import Derived.Stop.LaidErr
namespace Go.Proofs.YtkggmcbjpmhmcaaDoor.fnExactShapeJoin
open Go.ChangeShapes Go.WideShapes Go.ChangeAt Go.RowKit
set_option linter.unusedVariables false

theorem gN : Tryd.prog.globalNamed "loop.example/entail/impl.errApart" = some 0 := by kernel_rfl
theorem gT : (Tryd.prog.globals[0]?).map (·.type) = some 48 := by kernel_rfl
theorem star : "*" ++ "errors.errorString" = "*errors.errorString" := by decide
theorem rowE (u : TypeId) (h : Tryd.prog.typeName? 3 u = some "*errors.errorString") : u = 114 :=
  typeName_ptr_named (nm := "errors.errorString") (by rw [star]; kernel_rfl) (by kernel_rfl) (by decide) u (by rw [star]; exact h)
/-- What came in, read. -/
theorem slOf {α : Type} {R : Rep α} {t : TypeId} (hr : Reads t (.list R)) {H : Type} {enc : TypeId × Value → H} {W : World} {a : Option Addr} {len cap : Nat} {d : DataW H} {p : List MemPlace} (h : DataW.Trod enc Tryd.prog W 0 (fun _ => true) true t (.slice a len cap) d p) : ∃ xs, SlAt R (fun _ => True) W a len xs := by
  obtain ⟨fuel, hf⟩ := h
  obtain ⟨xs, a', l', c', e, hS⟩ := hr _ _ _ _ _ _ hf
  simp [Value.cells] at e
  obtain ⟨rfl, rfl, rfl⟩ := e
  exact ⟨xs, hS⟩
theorem shapeOf {H : Type} {enc : TypeId × Value → H} {W : World} {cs : Array Value} {d : DataW H} {p : List MemPlace} (h : DataW.Trod enc Tryd.prog W 0 (fun _ => true) true 34 (.agg cs) d p) :
    ∃ x0 a1 l1 c1 a2 l2 c2 us vs, cs = #[.bool x0, .slice a1 l1 c1, .slice a2 l2 c2] ∧ SlAt intR (fun _ => True) W a1 l1 us ∧ SlAt intR (fun _ => True) W a2 l2 vs := by
  obtain ⟨fuel, hf⟩ := h
  obtain ⟨⟨x0, us, vs⟩, _, _, e, rfl, _, _, rfl, ⟨a1, l1, c1, rfl, h1⟩, ⟨a2, l2, c2, rfl, h2⟩⟩ := rd_Shape _ _ _ _ _ _ hf
  refine ⟨x0, a1, l1, c1, a2, l2, c2, us, vs, ?_, h1, h2⟩
  obtain ⟨l⟩ := cs
  simpa [Value.cells] using e


set_option maxRecDepth 100000 in
theorem contract (H : Type) (enc : TypeId × Value → H) (W : World) (base : Nat) (args : Array Value) (ds gs : List (DataW H)) (before : List MemPlace)
    (hval : ∀ (j : Nat) t v, Tryd.f4.params[j]? = some t → args[j]? = some v → Value.okWide Tryd.prog W .any base t v)
    (hW : DataW.Whole enc Tryd.prog Tryd.f4.params.toList Rows.fnExactShapeJoinSpec.vars false W args.toList ds gs before) (hL : laidMetH Tryd.prog Rows.fnExactShapeJoinRow.laid W) :
    Calls Tryd.prog 4 args W fun e W' => ∃ v, e = .returned v ∧ Rows.fnExactShapeJoinSpec.post enc Tryd.prog Tryd.f4 false true false false W args v W' := by
  have hW' := hW
  obtain ⟨p, q, hA0, hV0, rfl, hfz, hnd⟩ := hW
  have hA : DataW.TrodAll enc Tryd.prog W 0 (fun _ => true) true Tryd.f4.params.toList args.toList ds p := hA0
  have hV : DataW.TrodVars enc Tryd.prog W (fun _ => true) ["loop.example/entail/impl.errApart"] gs q := hV0
  rw [Tryd.params4] at hA hval
  obtain ⟨v0, vs0, d0, ds0, p0, q0, hargs, rfl, rfl, h0, r0⟩ := trodAll_cons hA
  obtain ⟨v1, vs1, d1, ds1, p1, q1, rfl, rfl, rfl, h1, r1⟩ := trodAll_cons r0
  obtain ⟨v2, vs2, d2, ds2, p2, q2, rfl, rfl, rfl, h2, r2⟩ := trodAll_cons r1
  obtain ⟨rfl, rfl, rfl⟩ := trodAll_nil r2
  obtain rfl : args = #[v0, v1, v2] := by cases args; simp_all
  have hLm : laidMet Tryd.prog [("loop.example/entail/impl.errApart", Rows.laid_loop_example_entail_impl_errApart)] W := hL
  obtain ⟨ea, s0, hv, hc0, hs0, hz0⟩ := laid_sentinel (r := []) hLm gN gT (tp := 114) (te := 139) (ts := 9) Tryd.underlying48 rowE Tryd.underlying114 Tryd.underlying139 rfl rfl Tryd.underlying9 (by kernel_rfl) (by kernel_rfl)
  have vr : ∀ {X : World}, X.var? Tryd.prog "loop.example/entail/impl.errApart" = some #[.iface 114 (.pointer (some ea))] → ∀ sp : Nat → Bool, DataW.TrodVars enc Tryd.prog X sp ["loop.example/entail/impl.errApart"] [tok enc (.iface 114 (.pointer (some ea)))] [.cell 0 0] := fun x sp => vars_read1 enc gN gT (ti := 48) Tryd.underlying48 x trivial sp
  obtain ⟨rfl, rfl⟩ := hV.unique (vr hv _)
  have hg : W.cell? ⟨0, 0, none⟩ = some (.iface 114 (.pointer (some ea))) := by simpa using World.var?_cell gN hv 0
  have lg : 0 < W.heap.size := World.block_lt_of_cell? W _ hg
  have k0 := h0
  have lt0 : ∀ x ∈ p0, x.block < W.heap.size := by obtain ⟨m, hm⟩ := k0; exact DataW.trod_lt m _ _ _ hm
  have k1 := h1
  have lt1 : ∀ x ∈ p1, x.block < W.heap.size := by obtain ⟨m, hm⟩ := k1; exact DataW.trod_lt m _ _ _ hm
  have k2 := h2
  have lt2 : ∀ x ∈ p2, x.block < W.heap.size := by obtain ⟨m, hm⟩ := k2; exact DataW.trod_lt m _ _ _ hm
  obtain ⟨a0, len0, cap0, rfl⟩ := okWide_slice Tryd.underlying33 (hval 0 33 v0 rfl rfl)
  obtain ⟨L, w0⟩ := slOf rdL_Class h0
  obtain ⟨ds', rfl, _⟩ := okWide_struct Tryd.underlying34 (hval 1 34 v1 rfl rfl)
  obtain ⟨x0, b1, l1, c1, b2, l2, c2, us, vs, rfl, w1, w2⟩ := shapeOf h1
  obtain ⟨cs, rfl, _⟩ := okWide_struct Tryd.underlying34 (hval 2 34 v2 rfl rfl)
  obtain ⟨y0, g1, m1, d1, g2, m2, d2, xs, ys, rfl, w3, w4⟩ := shapeOf h2
  refine (shapeJoinWalk a0 len0 cap0 x0 b1 l1 c1 b2 l2 c2 y0 g1 m1 d1 g2 m2 d2 L us vs xs ys ea W w0 w1 w2 w3 w4 hg).mono fun e W' ⟨he, bel⟩ => ?_
  subst he
  have hv' : W'.var? Tryd.prog "loop.example/entail/impl.errApart" = some #[.iface 114 (.pointer (some ea))] := by
    unfold World.var? at hv ⊢
    simp only [gN, Option.bind_some] at hv ⊢
    rw [bel.block 0 lg]
    exact hv
  exact ⟨_, rfl, _, _, _, [], _, [.cell 0 0], hW', trodAll_mk1 (shut_bool Tryd.underlying4 _), (trodAll_cons_mk (Below.trod laidOut (by kernel_rfl) (of_decide_eq_true (by kernel_rfl)) k0 bel lt0) (trodAll_cons_mk (Below.trod laidOut (by kernel_rfl) (of_decide_eq_true (by kernel_rfl)) k1 bel lt1) (trodAll_cons_mk (Below.trod laidOut (by kernel_rfl) (of_decide_eq_true (by kernel_rfl)) k2 bel lt2) trodAll_mk0))), vr hv' _, bel.frame _, fun h => by cases h⟩

theorem laid_met (os : Os) (args : Array Value) : laidMet Tryd.prog Rows.fnExactShapeJoinRow.laid (({ (World.holding Tryd.prog os ⟨#[.cells #[.string ⟨#[116, 104, 101, 114, 101, 32, 105, 115, 32, 110, 111, 32, 115, 104, 97, 112, 101, 32, 105, 110, 32, 119, 104, 105, 99, 104, 32, 98, 111, 116, 104, 32, 97, 114, 101]⟩] 139], #[], []⟩) with heap := (World.holding Tryd.prog os ⟨#[.cells #[.string ⟨#[116, 104, 101, 114, 101, 32, 105, 115, 32, 110, 111, 32, 115, 104, 97, 112, 101, 32, 105, 110, 32, 119, 104, 105, 99, 104, 32, 98, 111, 116, 104, 32, 97, 114, 101]⟩] 139], #[], []⟩).heap.modify 0 fun
      | .cells _ t frozen => .cells #[.iface 114 (.pointer (some ⟨(World.holding Tryd.prog default ⟨#[], #[], []⟩).heap.size, 0, none⟩))] t frozen
      | o => o }).forCall (fun _ _ => 0) ⟨#[], args, []⟩).memory :=
  laidMet_of_run (ps := [.cell 0 0, .cell (World.holding Tryd.prog default ⟨#[], #[], []⟩).heap.size 0]) 8 (by kernel_rfl) (by kernel_rfl) (by kernel_rfl)
set_option maxRecDepth 100000 in
theorem lifted (os : Os) (started : os.Started) (H : Type) (enc : TypeId × Value → H) (F : Stop.Interp) :
    ReturnsInHanded {} Tryd.checked os 4 .any ((OpenSpec.ofChange Rows.fnExactShapeJoinSpec).preRow enc Tryd.prog Tryd.f4 Rows.fnExactShapeJoinRow.domain false Rows.fnExactShapeJoinRow.laid) (((OpenSpec.ofChange Rows.fnExactShapeJoinSpec).at F).post enc Tryd.prog Tryd.f4 false true false false) := by
  refine returnsInHanded_of_row (C := Tryd.checked) (s := OpenSpec.ofChange Rows.fnExactShapeJoinSpec) own started (by kernel_rfl) Tryd.func4
    (witness_row_at (enc := enc) (C := Tryd.checked) false ({ (World.holding Tryd.prog os ⟨#[.cells #[.string ⟨#[116, 104, 101, 114, 101, 32, 105, 115, 32, 110, 111, 32, 115, 104, 97, 112, 101, 32, 105, 110, 32, 119, 104, 105, 99, 104, 32, 98, 111, 116, 104, 32, 97, 114, 101]⟩] 139], #[], []⟩) with heap := (World.holding Tryd.prog os ⟨#[.cells #[.string ⟨#[116, 104, 101, 114, 101, 32, 105, 115, 32, 110, 111, 32, 115, 104, 97, 112, 101, 32, 105, 110, 32, 119, 104, 105, 99, 104, 32, 98, 111, 116, 104, 32, 97, 114, 101]⟩] 139], #[], []⟩).heap.modify 0 fun
      | .cells _ t frozen => .cells #[.iface 114 (.pointer (some ⟨(World.holding Tryd.prog default ⟨#[], #[], []⟩).heap.size, 0, none⟩))] t frozen
      | o => o }) #[.slice none 0 0, .agg #[.bool false, .slice none 0 0, .slice none 0 0], .agg #[.bool false, .slice none 0 0, .slice none 0 0]] rfl (by kernel_rfl) (by kernel_rfl) (by kernel_rfl)
      (OpenSpec.preRow_of_B rfl 8 (by kernel_rfl) (by kernel_rfl) (laid_met os _))) ?_
  intro W base args ds gs before hval hW _ _ _ hL _ _
  exact contract H enc W base args ds gs before hval hW hL
theorem said : Rows.FnExactShapeJoinSaid :=
  OpenClaim.holds_of_cond 4 Tryd.f4 rfl rfl rfl rfl rfl rfl rfl ⟨rfl, rfl, rfl, rfl, rfl⟩ rfl rfl rfl rfl rfl (by kernel_rfl) Tryd.func4 (by kernel_rfl)
    (of_decide_eq_true (by kernel_rfl)) (by unfold Func.isWrapper; first | (rw [if_pos (by decide +kernel)]; kernel_rfl) | (rw [if_neg (by decide +kernel)]; exact ⟨rfl, rfl⟩))
    (fun os started H enc _ F => by rw [OpenClaim.pre_eq_preRow]; exact lifted os started H enc F)
theorem plain (f : FuncId) (fn : Func) (hf : Tryd.pinned.checked.prog.funcNamed "loop.example/entail/laws.FnExactShapeJoin" = some f) (hfn : Tryd.pinned.checked.prog.funcs[f]? = some fn) :
    true = Tryd.pinned.checked.prog.looks [] ∧ ∀ (j : Nat) t, fn.params[j]? = some t → Tryd.pinned.checked.prog.wantsStandIn t = false := by
  obtain rfl : f = 4 := Option.some.inj ((show Tryd.prog.funcNamed "loop.example/entail/laws.FnExactShapeJoin" = some 4 by kernel_rfl).symm.trans hf) |>.symm
  obtain rfl : fn = Tryd.f4 := (Option.some.inj (Tryd.func4.symm.trans hfn)).symm
  refine ⟨by kernel_rfl, fun j t ht => ?_⟩
  rw [Tryd.params4] at ht
  match j, ht with
  | 0, ht => obtain rfl : 33 = t := by simpa using ht
             exact (show Tryd.prog.wantsStandIn 33 = false by kernel_rfl)
  | 1, ht => obtain rfl : 34 = t := by simpa using ht
             exact (show Tryd.prog.wantsStandIn 34 = false by kernel_rfl)
  | 2, ht => obtain rfl : 34 = t := by simpa using ht
             exact (show Tryd.prog.wantsStandIn 34 = false by kernel_rfl)
  | j + 3, ht => simp at ht
theorem card : Rows.FnExactShapeJoinCardSaid :=
  Claim7.holds_tied_plain_at .later [] _ _ _ _ said (fun _ h => by cases h) (by kernel_rfl) (fun _ h => by cases h) fnExactShapeJoin_row_tie rfl ⟨rfl, rfl⟩ (by kernel_rfl) rfl plain (by kernel_rfl)
end Go.Proofs.YtkggmcbjpmhmcaaDoor.fnExactShapeJoin

namespace Go.Proofs.YtkggmcbjpmhmcaaDoor
theorem fnExactShapeJoin_holds : Rows.FnExactShapeJoinCardSaid := fnExactShapeJoin.card
#print axioms fnExactShapeJoin_holds
end Go.Proofs.YtkggmcbjpmhmcaaDoor
