/-
  For every code: of the classes that are drawn of it, and one more, the program keeps promise 11, so the law FnClassesMore returns true and leaves the code as it was; no condition.
-/
import Derived.Test.YtglggjkmgdpbfaaFldImplT
import Derived.Test.YtglggjkmgdpbfaaDrUp
import Derived.Test.YtglggjkmgdpbfaaLeCls
import Derived.Test.YtglggjkmgdpbfaaMore
import Derived.WalkKit
import Derived.ProofKit
import Derived.OpenShut
import Derived.ShutString
import Derived.ChangeOld
import Derived.Below
namespace Go.Proofs.Ytglggjkmgdpbfaa.fnClassesMore
open Go.ChangeShapes Go.WideShapes Go.ChangeAt Go.RowKit
open Go.ChangeMaps (open_string shut_string)
set_option linter.unusedVariables false

theorem own : ownKnob Try.prog.godebug = none := by kernel_rfl
theorem laidOut : laidOutB Try.prog = true := by kernel_rfl



set_option maxRecDepth 100000 in
set_option maxHeartbeats 1000000 in
theorem walk (a0 : Option Addr) (len0 cap0 : Nat) (z0 : List Int) (w : World) (w0 : IsRow .u8 w a0 len0 cap0 z0) :
    Calls Try.prog 10 #[.slice a0 len0 cap0] w fun e w' => e = .returned (.bool true) ∧ Below w.heap.size w w' := by
  by_cases hl0 : len0 ≤ 1048576
  · go_enter Try.func10, Try.ntmps10
    go_wp2_with fail
    refine (drawUp a0 len0 cap0 z0 w w0).mono ?_
    rintro e w1 ⟨a, len, cap, L, x, y, rfl, l1, l10, hL, hx, hy, hb1⟩
    have G1 : Hid (ClsAt _ _ w1 a len L) := hL
    have B1 : Hid (Below w.heap.size w w1) := hb1
    clear hL hb1 w0
    have e1 : (upB L x y != upB L x y) = false := by simp
    have e2 : (upB L x y == upB L x y) = true := by simp
    go_wp2_with fail
    refine (classUpImpl _ _ _ _ _ L _ G1.out).mono ?_
    rintro e w2 ⟨rfl, hb2⟩
    have G2 : Hid (ClsAt _ _ w2 a len L) := G1.out.later hb2
    have B2 : Hid (Below w.heap.size w w2) := B1.out.trans (hb2.mono B1.out.size)
    clear hb2
    go_wp2_with fail
    refine (classUpSpec _ _ _ _ _ L _ G2.out).mono ?_
    rintro e w3 ⟨rfl, hb3⟩
    have G3 : Hid (ClsAt _ _ w3 a len L) := G2.out.later hb3
    have B3 : Hid (Below w.heap.size w w3) := B2.out.trans (hb3.mono B2.out.size)
    clear hb3
    go_wp2_with fail
    refine (leIs _ _ _ _ L _ G3.out).mono ?_
    rintro e w4 ⟨rfl, hb4⟩
    have G4 : Hid (ClsAt _ _ w4 a len L) := G3.out.later hb4
    have B4 : Hid (Below w.heap.size w w4) := B3.out.trans (hb4.mono B3.out.size)
    clear hb4
    cases hX : isB L x
    · go_wp2_with fail
      refine (classUpSpec _ _ _ _ _ L _ G4.out).mono ?_
      rintro e w5 ⟨rfl, hb5⟩
      have G5 : Hid (ClsAt _ _ w5 a len L) := G4.out.later hb5
      have B5 : Hid (Below w.heap.size w w5) := B4.out.trans (hb5.mono B4.out.size)
      clear hb5
      go_wp2_with fail
      go_ret
      exact ⟨rfl, B5.out⟩
    · go_wp2_with fail
      refine (leIs _ _ _ _ L _ G4.out).mono ?_
      rintro e w5 ⟨rfl, hb5⟩
      have G5 : Hid (ClsAt _ _ w5 a len L) := G4.out.later hb5
      have B5 : Hid (Below w.heap.size w w5) := B4.out.trans (hb5.mono B4.out.size)
      clear hb5
      cases hY : isB L y
      · go_wp2_with fail
        refine (classUpSpec _ _ _ _ _ L _ G5.out).mono ?_
        rintro e w6 ⟨rfl, hb6⟩
        have G6 : Hid (ClsAt _ _ w6 a len L) := G5.out.later hb6
        have B6 : Hid (Below w.heap.size w w6) := B5.out.trans (hb6.mono B5.out.size)
        clear hb6
        go_wp2_with fail
        go_ret
        exact ⟨rfl, B6.out⟩
      · obtain ⟨m, rfl, hm, ok⟩ := isB_nat hX
        obtain ⟨k, rfl, hk, _⟩ := isB_nat hY
        have OK : Hid (clsOk L = true) := ok
        have HS : Hid (L.length = len) := G5.out.size
        have hml : m < len := by rw [← HS.out]; exact hm
        have hkl : k < len := by rw [← HS.out]; exact hk
        by_cases h5 : len = 5
        · have e5 : ((len : Int) == 5) = true := by simp [h5]
          clear h5
          go_wp2_with fail
          refine (classUpSpec _ _ _ _ _ L _ G5.out).mono ?_
          rintro e w6 ⟨rfl, hb6⟩
          have G6 : Hid (ClsAt _ _ w6 a len L) := G5.out.later hb6
          have B6 : Hid (Below w.heap.size w w6) := B5.out.trans (hb6.mono B5.out.size)
          clear hb6
          go_wp2_with fail
          go_ret
          exact ⟨rfl, B6.out⟩
        · have e5 : ((len : Int) == 5) = false := by simp; omega
          have l4 : len ≤ 4 := by have := ok_len OK.out; rw [HS.out] at this; omega
          have hM := ok_more OK.out m hm (by rw [HS.out]; exact l4)
          have q1 : clsOk (more L m) = true := hM
          have q2 : upB (more L m) m k = upB L m k := by rw [upB_nat hM m k (by rw [more_len]; omega) (by rw [more_len]; omega), upB_nat OK.out m k hm hk, up_more OK.out m hM m k hm]
          have HF : Hid (fldV (more L m) m = fldV L m) := by
            show _ = _
            rw [fldV, fldV, isB_mk hM m (by rw [more_len]; omega), isB_mk OK.out m hm]
            simpa using fld_more OK.out m hM m hm
          have q3 : upB (more L m) len m = true := by rw [upB_nat hM len m (by rw [more_len, HS.out]; omega) (by rw [more_len]; omega)]; have := up_last OK.out m hm hM m hm; rw [HS.out] at this; rw [this]; exact up_refl L m
          have q4 : upB (more L m) len k = upB L m k := by rw [upB_nat hM len k (by rw [more_len, HS.out]; omega) (by rw [more_len]; omega), upB_nat OK.out m k hm hk]; have := up_last OK.out m hm hM k hk; rw [HS.out] at this; exact this
          have q5 : joinV (more L m) len k = joinV L m k := by
            rw [joinV, joinV, isB_mk hM len (by rw [more_len, HS.out]; omega), isB_mk hM k (by rw [more_len]; omega), isB_mk OK.out m hm, isB_mk OK.out k hk]
            have := join_last OK.out m hm hM k hk
            rw [HS.out] at this
            simp [this]
          have e6 : (upB L m k == upB L m k) = true := by simp
          have e7 : (joinV L m k == joinV L m k) = true := by simp
          obtain ⟨hfit, hfl⟩ := G5.out.fldV m
          have HFit : Hid (FitsAll (fldV L m)) := hfit
          obtain ⟨nf, hnf⟩ : ∃ n, (fldV L m).length = n := ⟨_, rfl⟩
          rw [hnf] at hfl
          have HN : Hid ((fldV L m).length = nf) := hnf
          clear hfit hnf ok hM
          obtain ⟨b, off, rfl, hcs⟩ : ∃ b off, a = some ⟨b, off, none⟩ ∧ ∀ i, i < len → w5.cell? ⟨b, off + i * 2, none⟩ = some (.int .i64 (cl L i).1) ∧ ∃ fa fl fc, w5.cell? ⟨b, off + i * 2 + 1, none⟩ = some (.slice fa fl fc) ∧ IntsAt _ w5 fa fl (cl L i).2 := by
            rcases G5.out.cells with h0 | ⟨b, off, ha, _, hc⟩
            · omega
            · exact ⟨b, off, ha, hc⟩
          obtain ⟨news, hn1, hn2, hn3, hn4⟩ := cls_cells hcs
          have hbl : b < w5.heap.size := World.block_lt_of_cell? w5 _ (hcs 0 (by omega)).1
          have KN : Hid (∀ W, Below w5.heap.size w5 W → ∀ j u, news[j]? = some u → W.cell? ((⟨b, off, none⟩ : Addr).add j) = some u) := fun W hb j u hu => by rw [hb.cell (by rw [Addr.add_lit]; exact hbl)]; exact hn2 j u hu
          have H1 : Hid (news.length = len * 2) := hn1
          have H3 : Hid (∀ u ∈ news, u.oneCell' = true) := hn3
          have H4 : Hid (∀ i, i < len → news[i * 2]? = some (.int .i64 (cl L i).1) ∧ ∃ fa fl fc, news[i * 2 + 1]? = some (.slice fa fl fc) ∧ IntsAt _ w5 fa fl (cl L i).2) := hn4
          clear hn1 hn2 hn3 hn4 hcs
          obtain ⟨i1, hj0, hj1, hj2, hj3⟩ := info_parts info_cls2
          go_wp2_with (first | (at_builtin; refine wpList_append_lies _ rfl _ _ _ rfl 0 30 i1 _ 2 32 Try.underlying23 hj0 hj1 hj2 hj3 rfl (by omega) (.slice (some ⟨w5.heap.size, 0, none⟩) 0 0) 0 [] rfl (World.ownsRow_lit (base := 0) (e := 30) (size := 2) w5 #[] 0 (Nat.zero_le _) (by unfold maxLen; omega) rfl) ⟨b, off, none⟩ len cap news rfl H1.out (KN.out _ (by go_grown)) H3.out (by omega) (by unfold maxLen; omega) (by omega) (Nat.zero_le _) _ rfl ?_; intro g1 c1 w7 own7 grow7 hat7 hlt7; simp only [Nat.zero_add, List.nil_append] at own7; have hb7 : Below w5.heap.size w5 w7 := Below.grown (w := w5.alloc (.cells #[] 30)) (by go_grown) grow7 (by simp) (fun j e => by (simp [Value.ownBlock] at e; omega)); have hg1 : w5.heap.size ≤ g1 := hat7.elim (fun e => by (simp [Value.ownBlock] at e; omega)) (fun e => by (simp at e; omega)); clear grow7 hat7) | (at_builtin; refine wpList_append_lies _ rfl _ _ _ rfl 0 30 i1 _ 2 32 Try.underlying23 hj0 hj1 hj2 hj3 rfl (by omega) (.slice (some ⟨g1, 0, none⟩) len c1) len news rfl ((own7.alloc _).alloc _) ⟨w7.heap.size + 1, 0, none⟩ 1 1 [.int .i64 m, .slice (some ⟨w7.heap.size, 0, none⟩) 1 1] rfl rfl (World.news_of_block (cs := #[.int .i64 m, .slice (some ⟨w7.heap.size, 0, none⟩) 1 1]) (t := 30) (fr := (0, 0)) (heap_new2 w7 _ _)) (news_one rfl) (by omega) (by unfold maxLen; omega) (by omega) (Nat.zero_le _) _ rfl ?_; intro g2 c2 w9 own9 grow9 hat9 hlt9))
          have hb9 : Below w5.heap.size w5 w9 := Below.grown (w := (w7.alloc (.cells #[.int .i64 1] 3)).alloc (.cells #[.int .i64 m, .slice (some ⟨w7.heap.size, 0, none⟩) 1 1] 30)) ((hb7.alloc hb7.size _).alloc (by have := hb7.size; simp; omega) _) grow9 (by have := hb7.size; simp; omega) (fun j e => by (simp [Value.ownBlock] at e; omega))
          have hI9 : IntsAt (fun _ => True) w9 (some ⟨w7.heap.size, 0, none⟩) 1 [1] := by
            have hB : w9.heap[w7.heap.size]? = some (.cells #[.int .i64 1] 3 (0, 0)) := by
              rw [grow9.block w7.heap.size (by simp; omega) (by simp [Value.ownBlock]; omega), Below.heap_alloc _ _ _ (by simp), heap_alloc_new]
            refine ⟨rfl, by omega, .inr ⟨w7.heap.size, 0, rfl, trivial, fun j hj => ?_⟩, fun j => ?_⟩
            · have : j = 0 := by omega
              subst this
              exact World.news_of_block hB 0 _ rfl
            · match j with
              | 0 => simp
              | j + 1 => simp
          have CM := cls_more G5.out hml (by omega) H1.out H4.out hb9 own9 ⟨_, _, _, rfl, hI9⟩
          have X0 : Hid (ClsAt _ _ w9 (some ⟨g2, 0, none⟩) (len + 1) (more L m)) := CM
          have C0 : Hid (ClsAt _ _ w9 (some ⟨b, off, none⟩) len L) := G5.out.later hb9
          have A0 : Hid (Below w.heap.size w w9) := B5.out.trans (hb9.mono B5.out.size)
          clear CM hI9 hb9 own9 grow9 hat9 hb7 own7
          refine (okImpl _ _ _ (more L m) _ X0.out).mono ?_
          rintro e u1 ⟨rfl, hb1⟩
          have X1 : Hid (ClsAt _ _ u1 (some ⟨g2, 0, none⟩) (len + 1) (more L m)) := X0.out.later hb1
          have C1 : Hid (ClsAt _ _ u1 (some ⟨b, off, none⟩) len L) := C0.out.later hb1
          have A1 : Hid (Below w.heap.size w u1) := A0.out.trans (hb1.mono A0.out.size)
          clear hb1
          rw [q1]
          go_wp2_with fail
          refine (classUpImpl _ _ _ _ _ (more L m) _ X1.out).mono ?_
          rintro e u2 ⟨rfl, hb2⟩
          have X2 : Hid (ClsAt _ _ u2 (some ⟨g2, 0, none⟩) (len + 1) (more L m)) := X1.out.later hb2
          have C2 : Hid (ClsAt _ _ u2 (some ⟨b, off, none⟩) len L) := C1.out.later hb2
          have A2 : Hid (Below w.heap.size w u2) := A1.out.trans (hb2.mono A1.out.size)
          clear hb2
          rw [q2]
          go_wp2_with fail
          refine (classFieldsImpl _ _ _ _ (more L m) _ X2.out).mono ?_
          rintro e u3 ⟨v3, rfl, hn⟩
          have hown := hn.1
          rw [HF.out] at hown
          rw [HN.out] at hown
          obtain ⟨Pa, Pc, rfl, hI⟩ := ints_of_own hown (by omega) HFit.out
          have P3 : Hid (IntsAt _ u3 Pa nf (fldV L m)) := hI
          have X3 : Hid (ClsAt _ _ u3 (some ⟨g2, 0, none⟩) (len + 1) (more L m)) := X2.out.later hn.2
          have C3 : Hid (ClsAt _ _ u3 (some ⟨b, off, none⟩) len L) := C2.out.later hn.2
          have A3 : Hid (Below w.heap.size w u3) := A2.out.trans (hn.2.mono A2.out.size)
          clear hn hI hown
          go_wp2_with fail
          refine (classFieldsImpl _ _ _ _ L _ C3.out).mono ?_
          rintro e u4 ⟨v4, rfl, hn⟩
          have hown := hn.1
          rw [HN.out] at hown
          obtain ⟨Qa, Qc, rfl, hI⟩ := ints_of_own hown (by omega) HFit.out
          have Q4 : Hid (IntsAt _ u4 Qa nf (fldV L m)) := hI
          have X4 : Hid (ClsAt _ _ u4 (some ⟨g2, 0, none⟩) (len + 1) (more L m)) := X3.out.later hn.2
          have C4 : Hid (ClsAt _ _ u4 (some ⟨b, off, none⟩) len L) := C3.out.later hn.2
          have A4 : Hid (Below w.heap.size w u4) := A3.out.trans (hn.2.mono A3.out.size)
          have P4 : Hid (IntsAt _ u4 Pa nf (fldV L m)) := P3.out.later hn.2
          clear hn hI hown
          go_wp2_with fail
          refine (leInts _ _ _ (fldV L m) _ _ _ (fldV L m) _ P4.out Q4.out).mono ?_
          rintro e u5 ⟨rfl, n5, h5'⟩
          have hb5' : Below u4.heap.size u4 u5 := by subst h5'; exact below_drewN (Below.refl _ _) _
          have X5 : Hid (ClsAt _ _ u5 (some ⟨g2, 0, none⟩) (len + 1) (more L m)) := X4.out.later hb5'
          have C5 : Hid (ClsAt _ _ u5 (some ⟨b, off, none⟩) len L) := C4.out.later hb5'
          have A5 : Hid (Below w.heap.size w u5) := A4.out.trans (hb5'.mono A4.out.size)
          clear hb5' h5'
          rw [decide_eq_true (rfl : fldV L m = fldV L m)]
          go_wp2_with fail
          refine (classUpImpl _ _ _ _ _ (more L m) _ X5.out).mono ?_
          rintro e u6 ⟨rfl, hb6⟩
          have X6 : Hid (ClsAt _ _ u6 (some ⟨g2, 0, none⟩) (len + 1) (more L m)) := X5.out.later hb6
          have C6 : Hid (ClsAt _ _ u6 (some ⟨b, off, none⟩) len L) := C5.out.later hb6
          have A6 : Hid (Below w.heap.size w u6) := A5.out.trans (hb6.mono A5.out.size)
          clear hb6
          rw [q3]
          go_wp2_with fail
          refine (classUpImpl _ _ _ _ _ (more L m) _ X6.out).mono ?_
          rintro e u7 ⟨rfl, hb7⟩
          have X7 : Hid (ClsAt _ _ u7 (some ⟨g2, 0, none⟩) (len + 1) (more L m)) := X6.out.later hb7
          have C7 : Hid (ClsAt _ _ u7 (some ⟨b, off, none⟩) len L) := C6.out.later hb7
          have A7 : Hid (Below w.heap.size w u7) := A6.out.trans (hb7.mono A6.out.size)
          clear hb7
          rw [q4]
          go_wp2_with fail
          refine (classJoinImpl _ _ _ _ _ (more L m) _ X7.out).mono ?_
          rintro e u8 ⟨rfl, hb8⟩
          have X8 : Hid (ClsAt _ _ u8 (some ⟨g2, 0, none⟩) (len + 1) (more L m)) := X7.out.later hb8
          have C8 : Hid (ClsAt _ _ u8 (some ⟨b, off, none⟩) len L) := C7.out.later hb8
          have A8 : Hid (Below w.heap.size w u8) := A7.out.trans (hb8.mono A7.out.size)
          clear hb8
          rw [q5]
          go_wp2_with fail
          refine (classJoinImpl _ _ _ _ _ L _ C8.out).mono ?_
          rintro e u9 ⟨rfl, hb9⟩
          have X9 : Hid (ClsAt _ _ u9 (some ⟨g2, 0, none⟩) (len + 1) (more L m)) := X8.out.later hb9
          have C9 : Hid (ClsAt _ _ u9 (some ⟨b, off, none⟩) len L) := C8.out.later hb9
          have A9 : Hid (Below w.heap.size w u9) := A8.out.trans (hb9.mono A8.out.size)
          clear hb9
          go_wp2_with fail
          go_ret
          exact ⟨rfl, A9.out⟩
  · go_enter Try.func10, Try.ntmps10
    go_wp2_with fail
    go_ret
    exact ⟨rfl, Below.refl _ _⟩

set_option maxRecDepth 100000 in
theorem lifted (os : Os) (started : os.Started) (H : Type) (enc : TypeId × Value → H) :
    ReturnsInHanded {} Try.checked os 10 .any (Rows.fnClassesMoreSpec.pre6 enc Try.prog Try.f10 Rows.fnClassesMoreRow.domain false) (Rows.fnClassesMoreSpec.post enc Try.prog Try.f10 false true false false) := by
  refine returnsInHanded_of_change (C := Try.checked) own started (by kernel_rfl) Try.func10
    (ChangeSpec.witness6 (enc := enc) (C := Try.checked) false ⟨#[], #[.slice none 0 0], []⟩ 8 (by kernel_rfl) (by kernel_rfl) (by kernel_rfl) (by kernel_rfl)) ?_
  intro W base args ds gs before hval0 hW hcnd _
  have hval : ∀ (j : Nat) t v, Try.f10.params[j]? = some t → args[j]? = some v → Value.okWide Try.prog W .any base t v := hval0
  have hW' := hW
  obtain ⟨p, q, hA0, hV, rfl, hfz, hnd⟩ := hW
  have hA : DataW.TrodAll enc Try.prog W 0 (fun _ => true) true Try.f10.params.toList args.toList ds p := hA0
  rw [Try.params10] at hA hval
  obtain ⟨v0, vs0, d0, ds0, p0, q0, hargs, rfl, rfl, h0, r0⟩ := trodAll_cons hA
  obtain ⟨rfl, rfl, rfl⟩ := trodAll_nil r0
  obtain rfl : args = #[v0] := by cases args; simp_all
  obtain ⟨rfl, rfl⟩ := trodVars_none hV
  obtain ⟨a0, len0, cap0, rfl⟩ := okWide_slice Try.underlying22 (hval 0 22 v0 rfl rfl)
  have k0 := h0
  have lt0 : ∀ x ∈ p0, x.block < W.heap.size := by obtain ⟨m, hm⟩ := k0; exact DataW.trod_lt m _ _ _ hm
  obtain ⟨z0, w0⟩ : ∃ zs, IsRow .u8 W a0 len0 cap0 zs := by
    obtain ⟨fuel, hf⟩ := h0
    rcases open_ints Try.underlying22 Try.underlying5 (by kernel_rfl) hf with ⟨hcs, _⟩ | ⟨x, l, c, zs, hcs, _, hl, hm, hz, _, hcell, hwz⟩
    · simp [Value.cells] at hcs
      obtain ⟨rfl, rfl, rfl⟩ := hcs
      exact ⟨[], .inl ⟨rfl, rfl, rfl, rfl⟩⟩
    · simp [Value.cells] at hcs
      obtain ⟨rfl, rfl, rfl⟩ := hcs
      exact ⟨zs, .inr ⟨_, rfl, hl, hm, by simpa using hz, hcell, hwz⟩⟩
  clear hA0 hval0
  refine (walk a0 len0 cap0 z0 W w0).mono fun e W' ⟨he, bel⟩ => ?_
  subst he
  exact ⟨_, rfl, _, _, _, [], _, [], hW', trodAll_mk1 (shut_bool Try.underlying4 _), (trodAll_cons_mk (Below.trod laidOut (by kernel_rfl) (of_decide_eq_true (by kernel_rfl)) k0 bel lt0) trodAll_mk0), rfl, bel.frame _, fun h => by cases h⟩

theorem over : Rows.fnClassesMoreRow.holds Try.pinned (OpenSpec.ofChange Rows.fnClassesMoreSpec) :=
  OpenClaim.holds_of_wide 10 Try.f10 rfl rfl rfl rfl rfl rfl rfl ⟨rfl, rfl, rfl, rfl, rfl⟩ rfl rfl rfl rfl rfl (by kernel_rfl) Try.func10 (by kernel_rfl)
    (of_decide_eq_true (by kernel_rfl)) (by unfold Func.isWrapper; first | (rw [if_pos (by decide +kernel)]; kernel_rfl) | (rw [if_neg (by decide +kernel)]; exact ⟨rfl, rfl⟩))
    (fun os started H enc _ => lifted os started H enc)

theorem proved : Rows.FnClassesMoreSaid := over
end Go.Proofs.Ytglggjkmgdpbfaa.fnClassesMore

namespace Go.Proofs.Ytglggjkmgdpbfaa
theorem fnClassesMore_holds : Rows.FnClassesMoreSaid := fnClassesMore.proved
#print axioms fnClassesMore_holds
end Go.Proofs.Ytglggjkmgdpbfaa
