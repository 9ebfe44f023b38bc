/-
  For every code: of the things that are drawn of it one thing more, to which nothing leads, changes nothing of what HeapGraph leaves, so the law FnGraphMore returns true and leaves the code as it was; no condition.
-/
import Derived.Test.YtacapffmdmpnkaaAppR
import Derived.WalkKit
import Derived.ProofKit
import Derived.OpenShut
import Derived.ShutString
import Derived.ChangeOld
import Derived.Below
namespace Go.Proofs.Ytacapffmdmpnkaa.fnGraphMore
open Go.ChangeShapes Go.WideShapes Go.ChangeAt Go.RowKit
open Go.ChangeMaps (open_string shut_string)
set_option linter.unusedVariables false

theorem own : ownKnob Try.prog.godebug = none := by kernel_rfl
theorem laidOut : laidOutB Try.prog = true := by kernel_rfl



set_option maxRecDepth 100000 in
set_option maxHeartbeats 1000000 in
theorem walk (a0 : Option Addr) (len0 cap0 : Nat) (z0 : List Int) (w : World) (w0 : IsRow .u8 w a0 len0 cap0 z0) :
    Calls Try.prog 3 #[.slice a0 len0 cap0] w fun e w' => e = .returned (.bool true) ∧ Below w.heap.size w w' := by
  by_cases hl0 : len0 ≤ 1048576
  case neg =>
    go_enter Try.func3, Try.ntmps3
    go_wp2_with fail
    go_ret
    exact ⟨rfl, Below.refl _ _⟩
  go_enter Try.func3, Try.ntmps3
  go_wp2_with fail
  refine (drawGraph a0 len0 cap0 z0 w w0).mono ?_
  rintro e w1 ⟨X, r, a, c, b, d, rfl, hX, hr, l1, l2, l3, hb1⟩
  have FW : Hid (Few X r) := ⟨by omega, fun x hx => by have := l2 x hx; omega, by omega⟩
  have B1 : Hid (Below w.heap.size w w1) := hb1
  have H1 : Hid (SlAt obR (fun _ => True) w1 a X.length X) := hX.mono (fun _ _ _ => trivial)
  have G1 : Hid (SlAt vaR (fun _ => True) w1 b r.length r) := hr.mono (fun _ _ _ => trivial)
  have T : Hid (gOf (gOf X r) (rOf X r) = gOf X r ∧ rOf (gOf X r) (rOf X r) = rOf X r ∧ heapB (gOf X r) (rOf X r) = true) := gTwice X r
  have hgl : (gOf X r).length ≤ X.length := gOf_len
  clear hX hr hb1 l2 w0
  go_wp2_with fail
  refine (graphI _ _ _ _ _ _ X r _ H1.out G1.out FW.out).mono ?_
  rintro e w2 ⟨xa, xc, ra, rc, rfl, hx2, hr2, hb2⟩
  have B2 : Hid (Below w1.heap.size w1 w2) := hb2
  have P2 : Hid (SlAt obR (fun _ => True) w2 xa (gOf X r).length (gOf X r)) := hx2
  have Q2 : Hid (SlAt vaR (fun _ => True) w2 ra (rOf X r).length (rOf X r)) := hr2
  clear hx2 hr2 hb2
  go_wp2_with fail
  refine (graphS _ _ _ _ _ _ X r _ (H1.out.later B2.out) (G1.out.later B2.out) FW.out).mono ?_
  rintro e w3 ⟨ya, yc, sa, sc, rfl, hx3, hr3, hb3⟩
  have B3 : Hid (Below w2.heap.size w2 w3) := hb3
  have P3 : Hid (SlAt obR (fun _ => True) w3 ya (gOf X r).length (gOf X r)) := hx3
  have Q3 : Hid (SlAt vaR (fun _ => True) w3 sa (rOf X r).length (rOf X r)) := hr3
  clear hx3 hr3 hb3
  go_wp2_with fail
  refine (leObjs _ _ _ _ _ _ (gOf X r) _ (P2.out.later B3.out) P3.out).mono ?_
  rintro e w4 ⟨rfl, hb4⟩
  have B4 : Hid (Below w3.heap.size w3 w4) := hb4
  clear hb4
  go_wp2_with fail
  refine (leVals _ _ _ _ _ _ (rOf X r) _ ((Q2.out.later B3.out).later B4.out) (Q3.out.later B4.out)).mono ?_
  rintro e w5 ⟨rfl, hb5⟩
  have B5 : Hid (Below w4.heap.size w4 w5) := hb5
  clear hb5
  have P5 : Hid (SlAt obR (fun _ => True) w5 xa (gOf X r).length (gOf X r)) := ((P2.out.later B3.out).later B4.out).later B5.out
  have Q5 : Hid (SlAt vaR (fun _ => True) w5 ra (rOf X r).length (rOf X r)) := ((Q2.out.later B3.out).later B4.out).later B5.out
  go_wp2_with fail
  refine (heapSpec _ _ _ _ _ _ X r _ ((((H1.out.later B2.out).later B3.out).later B4.out).later B5.out) ((((G1.out.later B2.out).later B3.out).later B4.out).later B5.out)).mono ?_
  rintro e w6 ⟨rfl, hb6⟩
  have B6 : Hid (Below w5.heap.size w5 w6) := hb6
  clear hb6
  have H6 : Hid (SlAt obR (fun _ => True) w6 a X.length X) := ((((H1.out.later B2.out).later B3.out).later B4.out).later B5.out).later B6.out
  have G6 : Hid (SlAt vaR (fun _ => True) w6 b r.length r) := ((((G1.out.later B2.out).later B3.out).later B4.out).later B5.out).later B6.out
  have P6 : Hid (SlAt obR (fun _ => True) w6 xa (gOf X r).length (gOf X r)) := P5.out.later B6.out
  have Q6 : Hid (SlAt vaR (fun _ => True) w6 ra (rOf X r).length (rOf X r)) := Q5.out.later B6.out
  have B : Hid (Below w.heap.size w w6) := by
    show Below _ _ _
    have s1 := B1.out
    have s2 := s1.trans (B2.out.mono s1.size)
    have s3 := s2.trans (B3.out.mono s2.size)
    have s4 := s3.trans (B4.out.mono s3.size)
    have s5 := s4.trans (B5.out.mono s4.size)
    exact s5.trans (B6.out.mono s5.size)
  cases ok : heapB X r
  · go_wp2_with fail
    refine (leObjs _ _ _ _ _ _ (gOf X r) _ P6.out ((((P3.out.later B4.out).later B5.out).later B6.out))).mono ?_
    rintro e w7 ⟨rfl, hb7⟩
    have B7 : Hid (Below w6.heap.size w6 w7) := hb7
    clear hb7
    go_wp2_with fail
    refine (leVals _ _ _ _ _ _ (rOf X r) _ (Q6.out.later B7.out) (((((Q3.out.later B4.out).later B5.out).later B6.out)).later B7.out)).mono ?_
    rintro e w8 ⟨rfl, hb8⟩
    have B8 : Hid (Below w7.heap.size w7 w8) := hb8
    clear hb8
    go_wp2_with fail
    go_ret
    have s7 := B.out.trans (B7.out.mono B.out.size)
    exact ⟨rfl, s7.trans (B8.out.mono s7.size)⟩
  have OK : Hid (heapB X r = true) := ok
  have MO : Hid (gOf (X ++ [((1 : Int), [(false, 5), (true, (X.length : Int) + 1), (true, 0)] ++ r)]) r = gOf X r ∧ rOf (X ++ [((1 : Int), [(false, 5), (true, (X.length : Int) + 1), (true, 0)] ++ r)]) r = rOf X r) := gMore ok
  clear ok B1 B2 B3 B4 B5 B6 P2 Q2 P3 Q3 P5 Q5 H1 G1 T hgl
  obtain ⟨i0, hi0, hz0, hz1, hz2⟩ := info_parts info_Val
  obtain ⟨j0, hj0, yz0, yz1, yz2⟩ := info_parts info_Obj
  have s60 : Below w6.heap.size w6 (w6.alloc (.cells (flatV [(false, 5), (true, (X.length : Int) + 1), (true, 0)]).toArray 32)) := (Below.refl _ _).alloc (Nat.le_refl _) _
  have o6 := own_litV w6 (fun b => b < w6.heap.size) [(false, 5), (true, (X.length : Int) + 1), (true, 0)] 3 rfl (by omega) (by intro x hx; simp at hx; unfold i64B; rcases hx with rfl | rfl | rfl <;> constructor <;> simp only <;> omega)
  have r6 : SrcR vaR (fun b => b < w6.heap.size) (w6.alloc (.cells (flatV [(false, 5), (true, (X.length : Int) + 1), (true, 0)]).toArray 32)) b r := SlAt.src rfl ((G6.out.mono (E := fun b => b < w6.heap.size) (fun _ _ h => h)).later s60)
  obtain ⟨va, vc, w7, hrun7, own7, gr7⟩ := own_app (R := vaR) (t := 24) (ty := 24) (sc := d) rfl Try.underlying24 hi0 hz0 hz1 hz2 rfl (by omega) one_V (fun _ h => h) (by simp) o6 r6 rfl (by simp) (by omega)
  have b7 : Below w6.heap.size w6 w7 := Below.grown s60 gr7 (by simp) (fun b hb => by have : some w6.heap.size = some b := hb; simp at this; omega)
  have B7 : Hid (Below w6.heap.size w6 w7) := b7
  have V7 : Hid (SlAt vaR (fun _ => True) w7 va (3 + r.length) ([(false, 5), (true, (X.length : Int) + 1), (true, 0)] ++ r)) := own7.sl rfl (by simp; omega) (by simp only [List.length_cons, List.length_nil]; omega)
  have RUN7 : Hid ((Builtin.append_ #[24, 24] 24 #[.slice (some ⟨w6.heap.size, 0, none⟩) 3 3, .slice b r.length d]).run Try.prog (w6.alloc (.cells #[.bool false, .int .i64 5, .bool true, .int .i64 ((X.length : Int) + 1), .bool true, .int .i64 0] 32)) = .ok (.slice va (3 + r.length) vc) w7) := hrun7
  have s70 : Below w7.heap.size w7 (w7.alloc (.cells #[] 34)) := (Below.refl _ _).alloc (Nat.le_refl _) _
  have o7 := own_noneO w7 (fun b => b < w7.heap.size)
  have r7 : SrcR obR (fun b => b < w7.heap.size) (w7.alloc (.cells #[] 34)) a X := SlAt.src rfl (((H6.out.later b7).mono (E := fun b => b < w7.heap.size) (fun _ _ h => h)).later s70)
  obtain ⟨xa2, xc2, w8, hrun8, own8, gr8⟩ := own_app (R := obR) (t := 23) (ty := 23) (sc := c) rfl Try.underlying23 hj0 yz0 yz1 yz2 rfl (by omega) one_O (fun _ h => h) (by simp) o7 r7 rfl (by simp) (by omega)
  have b8 : Below w7.heap.size w7 w8 := Below.grown s70 gr8 (by simp) (fun b hb => by have : some w7.heap.size = some b := hb; simp at this; omega)
  have RUN8 : Hid ((Builtin.append_ #[23, 23] 23 #[.slice (some ⟨w7.heap.size, 0, none⟩) 0 0, .slice a X.length c]).run Try.prog (w7.alloc (.cells #[] 34)) = .ok (.slice xa2 X.length xc2) w8) := by
    show _ = _
    have := hrun8
    simp only [List.length_nil, Nat.zero_add] at this
    exact this
  have s80 : Below w8.heap.size w8 (w8.alloc (.cells #[.int .i64 1, .slice va (3 + r.length) vc] 34)) := (Below.refl _ _).alloc (Nat.le_refl _) _
  have r8 := srcO w8 (fun b => b < w7.heap.size) va (3 + r.length) vc _ (((V7.out.mono (E := fun b => b < w7.heap.size) (fun _ _ h => h)).later b8).later s80)
  obtain ⟨xa3, xc3, w9, hrun9, own9, gr9⟩ := own_app (R := obR) (t := 23) (ty := 23) (sc := 1) rfl Try.underlying23 hj0 yz0 yz1 yz2 rfl (by omega) one_O (fun _ h => h) (by have := b8.size; simp; omega) (own8.alloc (.cells #[.int .i64 1, .slice va (3 + r.length) vc] 34)) r8 rfl (by simp; omega) (by simp)
  have hge8 : ∀ k, some k = (Value.slice xa2 (0 + X.length) xc2).ownBlock → w7.heap.size ≤ k := by
    obtain ⟨L8, ow8, _⟩ := own8
    exact fun k hk => own_ge ow8 k hk
  have b9 : Below w7.heap.size w7 w9 := Below.grown (b8.trans (s80.mono b8.size)) gr9 (by have := b8.size; simp; omega) (fun b hb => hge8 b hb.symm)
  have B9 : Hid (Below w6.heap.size w6 w9) := b7.trans (b9.mono b7.size)
  have X9 : Hid (SlAt obR (fun _ => True) w9 xa3 (X.length + 1) (X ++ [((1 : Int), [(false, 5), (true, (X.length : Int) + 1), (true, 0)] ++ r)])) := own9.sl rfl (by simp) (by simp; omega)
  have RUN9 : Hid ((Builtin.append_ #[23, 23] 23 #[.slice xa2 X.length xc2, .slice (some ⟨w8.heap.size, 0, none⟩) 1 1]).run Try.prog (w8.alloc (.cells #[.int .i64 1, .slice va (3 + r.length) vc] 34)) = .ok (.slice xa3 (X.length + 1) xc3) w9) := by
    show _ = _
    have := hrun9
    simp only [List.length_nil, Nat.zero_add, List.nil_append] at this
    exact this
  have FY : Hid (Few (X ++ [((1 : Int), [(false, 5), (true, (X.length : Int) + 1), (true, 0)] ++ r)]) r) := by
    refine ⟨by simp; omega, fun x hx => ?_, by omega⟩
    rcases List.mem_append.1 hx with hx | hx
    · exact FW.out.inn x hx
    · simp only [List.mem_singleton] at hx
      subst hx
      simp
      omega
  clear hrun7 hrun8 hrun9 own7 own8 own9 gr7 gr8 gr9 b7 b8 b9 s60 s70 s80 o6 o7 r6 r7 r8 hge8 V7 B7
  go_wp2_with (first
    | (at_builtin
       refine list_appP rfl (.tmp 62) (.tmp 63) 24 rfl (.slice (some ⟨w6.heap.size, 0, none⟩) 3 3) _ _ rfl rfl RUN7.out ?_)
    | (at_builtin
       refine list_appP rfl (.tmp 66) (.tmp 67) 23 rfl (.slice (some ⟨w7.heap.size, 0, none⟩) 0 0) _ _ rfl rfl RUN8.out ?_)
    | (at_builtin
       refine list_appP rfl (.tmp 68) (.tmp 71) 23 rfl (.slice xa2 X.length xc2) _ _ rfl rfl RUN9.out ?_))
  refine (graphI _ _ _ _ _ _ _ r _ X9.out (G6.out.later B9.out) FY.out).mono ?_
  rw [MO.out.1, MO.out.2]
  rintro e w10 ⟨za, zc, ta, tc, rfl, hx10, hr10, hb10⟩
  have B10 : Hid (Below w9.heap.size w9 w10) := hb10
  have P10 : Hid (SlAt obR (fun _ => True) w10 za (gOf X r).length (gOf X r)) := hx10
  have Q10 : Hid (SlAt vaR (fun _ => True) w10 ta (rOf X r).length (rOf X r)) := hr10
  clear hx10 hr10 hb10
  go_wp2_with fail
  refine (leObjs _ _ _ _ _ _ (gOf X r) _ P10.out ((P6.out.later B9.out).later B10.out)).mono ?_
  rintro e w11 ⟨rfl, hb11⟩
  have B11 : Hid (Below w10.heap.size w10 w11) := hb11
  clear hb11
  go_wp2_with fail
  refine (leVals _ _ _ _ _ _ (rOf X r) _ (Q10.out.later B11.out) (((Q6.out.later B9.out).later B10.out).later B11.out)).mono ?_
  rintro e w12 ⟨rfl, hb12⟩
  have B12 : Hid (Below w11.heap.size w11 w12) := hb12
  clear hb12
  go_wp2_with fail
  go_ret
  refine ⟨rfl, ?_⟩
  have s9 := B.out.trans (B9.out.mono B.out.size)
  have s10 := s9.trans (B10.out.mono s9.size)
  have s11 := s10.trans (B11.out.mono s10.size)
  exact s11.trans (B12.out.mono s11.size)

set_option maxRecDepth 100000 in
theorem lifted (os : Os) (started : os.Started) (H : Type) (enc : TypeId × Value → H) :
    ReturnsInHanded {} Try.checked os 3 .any (Rows.fnGraphMoreSpec.pre6 enc Try.prog Try.f3 Rows.fnGraphMoreRow.domain false) (Rows.fnGraphMoreSpec.post enc Try.prog Try.f3 false true false false) := by
  refine returnsInHanded_of_change (C := Try.checked) own started (by kernel_rfl) Try.func3
    (ChangeSpec.witness6 (enc := enc) (C := Try.checked) false ⟨#[], #[.slice none 0 0], []⟩ 8 (by kernel_rfl) (by kernel_rfl) (by kernel_rfl) (by kernel_rfl)) ?_
  intro W base args ds gs before hval0 hW hcnd _
  have hval : ∀ (j : Nat) t v, Try.f3.params[j]? = some t → args[j]? = some v → Value.okWide Try.prog W .any base t v := hval0
  have hW' := hW
  obtain ⟨p, q, hA0, hV, rfl, hfz, hnd⟩ := hW
  have hA : DataW.TrodAll enc Try.prog W 0 (fun _ => true) true Try.f3.params.toList args.toList ds p := hA0
  rw [Try.params3] at hA hval
  obtain ⟨v0, vs0, d0, ds0, p0, q0, hargs, rfl, rfl, h0, r0⟩ := trodAll_cons hA
  obtain ⟨rfl, rfl, rfl⟩ := trodAll_nil r0
  obtain rfl : args = #[v0] := by cases args; simp_all
  obtain ⟨rfl, rfl⟩ := trodVars_none hV
  obtain ⟨a0, len0, cap0, rfl⟩ := okWide_slice Try.underlying22 (hval 0 22 v0 rfl rfl)
  have k0 := h0
  have lt0 : ∀ x ∈ p0, x.block < W.heap.size := by obtain ⟨m, hm⟩ := k0; exact DataW.trod_lt m _ _ _ hm
  obtain ⟨z0, w0⟩ : ∃ zs, IsRow .u8 W a0 len0 cap0 zs := by
    obtain ⟨fuel, hf⟩ := h0
    rcases open_ints Try.underlying22 Try.underlying5 (by kernel_rfl) hf with ⟨hcs, _⟩ | ⟨x, l, c, zs, hcs, _, hl, hm, hz, _, hcell, hwz⟩
    · simp [Value.cells] at hcs
      obtain ⟨rfl, rfl, rfl⟩ := hcs
      exact ⟨[], .inl ⟨rfl, rfl, rfl, rfl⟩⟩
    · simp [Value.cells] at hcs
      obtain ⟨rfl, rfl, rfl⟩ := hcs
      exact ⟨zs, .inr ⟨_, rfl, hl, hm, by simpa using hz, hcell, hwz⟩⟩
  clear hA0 hval0
  refine (walk a0 len0 cap0 z0 W w0).mono fun e W' ⟨he, bel⟩ => ?_
  subst he
  exact ⟨_, rfl, _, _, _, [], _, [], hW', trodAll_mk1 (shut_bool Try.underlying4 _), (trodAll_cons_mk (Below.trod laidOut (by kernel_rfl) (of_decide_eq_true (by kernel_rfl)) k0 bel lt0) trodAll_mk0), rfl, bel.frame _, fun h => by cases h⟩

theorem over : Rows.fnGraphMoreRow.holds Try.pinned (OpenSpec.ofChange Rows.fnGraphMoreSpec) :=
  OpenClaim.holds_of_wide 3 Try.f3 rfl rfl rfl rfl rfl rfl rfl ⟨rfl, rfl, rfl, rfl, rfl⟩ rfl rfl rfl rfl rfl (by kernel_rfl) Try.func3 (by kernel_rfl)
    (of_decide_eq_true (by kernel_rfl)) (by unfold Func.isWrapper; first | (rw [if_pos (by decide +kernel)]; kernel_rfl) | (rw [if_neg (by decide +kernel)]; exact ⟨rfl, rfl⟩))
    (fun os started H enc _ => lifted os started H enc)

theorem proved : Rows.FnGraphMoreSaid := over
end Go.Proofs.Ytacapffmdmpnkaa.fnGraphMore

namespace Go.Proofs.Ytacapffmdmpnkaa
theorem fnGraphMore_holds : Rows.FnGraphMoreSaid := fnGraphMore.proved
#print axioms fnGraphMore_holds
end Go.Proofs.Ytacapffmdmpnkaa
