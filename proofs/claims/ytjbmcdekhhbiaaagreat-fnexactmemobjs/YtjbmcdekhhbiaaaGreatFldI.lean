/-
  The program's fields of a class are what is said of the list of classes, in memory of their own, in whatever memory; it writes nothing that was there.
-/
import Derived.Test.YtjbmcdekhhbiaaaGreatAppE
import Derived.Test.YtjbmcdekhhbiaaaGreatImplB
namespace Go.Proofs.YtjbmcdekhhbiaaaGreat
open Go.ChangeShapes Go.WideShapes Go.ChangeAt Go.RowKit

set_option maxHeartbeats 1000000 in
theorem fieldsImpl (a : Option Addr) (len cap : Nat) (L : List Cl) {D E : Nat → Prop} (ok : clsOk L = true) (hS : L.length = len) : ∀ (c : Nat) (w : World), c < len → ClsAt D E w a len L →
    Calls Tryz.prog 110 #[.slice a len cap, .int .i64 c] w fun e w' => ∃ v, e = .returned v ∧ NewInts w v w' (fld L c) := by
  intro c
  induction c using Nat.strongRecOn with
  | ind c ih =>
    intro w hc h
    have IH : Hid (∀ (m : Nat), m < c → ∀ (w : World), m < len → ClsAt D E w a len L → Calls Tryz.prog 110 #[.slice a len cap, .int .i64 m] w fun e w' => ∃ v, e = .returned v ∧ NewInts w v w' (fld L m)) := ih
    have OK : Hid (clsOk L = true) := ok
    have HS : Hid (L.length = len) := hS
    have H : Hid (ClsAt D E w a len L) := h
    clear ih
    by_cases h0 : c = 0
    · subst h0
      go_enter Tryz.func110, Tryz.ntmps110
      go_wp2_with fail
      go_ret
      exact ⟨_, rfl, World.ownsRow_nil _ _ _ _, Below.refl _ _⟩
    · have e0 : ((c : Int) == 0) = false := by simp; omega
      obtain ⟨b, off, rfl, h1, fa, fl, fc, h2, h3⟩ : ∃ b off, a = some ⟨b, off, none⟩ ∧ w.cell? ⟨b, off + c * 2, none⟩ = some (.int .i64 (cl L c).1) ∧ ∃ fa fl fc, w.cell? ⟨b, off + c * 2 + 1, none⟩ = some (.slice fa fl fc) ∧ IntsAt E w fa fl (cl L c).2 := by
        rcases h.cells with h0 | ⟨b, off, ha, _, hc'⟩
        · omega
        · exact ⟨b, off, ha, hc' c hc⟩
      have hs := sup_lt ok c (by omega) (by rw [hS]; exact hc)
      rw [hs.2] at h1
      have hs1 := hs.1
      have hbl := World.block_lt_of_cell? w _ h1
      simp only at hbl
      have HI : Hid (IntsAt E w fa fl (cl L c).2) := h3
      have HF : Hid (fld L c = fld L (sup L c) ++ (cl L c).2) := fld_step ok c (by rw [hS]; exact hc) (by omega)
      have hsh := own_short ok c (by rw [hS]; exact hc)
      rw [h3.size] at hsh
      have hfs := fld_short ok (sup L c) (by rw [hS]; omega)
      have hl5 := (ok_len ok).2
      have hl5' : len ≤ 5 := by rw [← hS]; exact hl5
      have KC : Hid (∀ w1, Below w.heap.size w w1 → w1.cell? ⟨b, off + c * 2, none⟩ = some (.int .i64 (sup L c : Nat)) ∧ w1.cell? ⟨b, off + c * 2 + 1, none⟩ = some (.slice fa fl fc)) :=
        fun w1 hb => ⟨(hb.cell (p := ⟨b, off + c * 2, none⟩) hbl).trans h1, (hb.cell (p := ⟨b, off + c * 2 + 1, none⟩) hbl).trans h2⟩
      obtain ⟨i0, hi0, hz0, hz1, hz2⟩ := info_parts info_int3
      clear hs h3 h hS ok hl5
      by_cases hfl : fl = 0
      · subst hfl
        go_enter Tryz.func110, Tryz.ntmps110
        go_wp2_with fail
        go_region_law (first
          | (go_simp
             go_at_call 110
             refine (IH.out (sup L c) hs1 _ (by omega) (H.out.later (by go_grown))).mono ?_
             rintro e w1 ⟨v, rfl, own1, hb1⟩
             have hb1' : Below w.heap.size w w1 := ⟨hb1.os, hb1.tape, hb1.output, hb1.size, hb1.block⟩
             have d1 := (KC.out w1 hb1').2
             have own1' : w1.ownsRow w.heap.size 3 1 v (fld L (sup L c)).length ((fld L (sup L c)).map (Value.int .i64)) := own1)
          | (refine step_append_empty (by rfl) _ _ _ (by rfl) w.heap.size 3 i0 1 Tryz.underlying23 hi0 v _ _ (by rfl) own1' fa fc (by rfl) ?_))
        all_goals
          have P : Hid (NewInts w v w1 (fld L c)) := by
            have hn : (cl L c).2 = [] := List.eq_nil_of_length_eq_zero HI.out.size
            rw [HF.out, hn, List.append_nil]
            exact ⟨own1', hb1'⟩
          have hone := own_one0 own1'
          clear own1 own1' hb1 hb1' d1
          go_wp2_with fail
          go_ret
          exact ⟨_, rfl, P.out⟩
      · obtain ⟨fb, fo, rfl, hcell⟩ : ∃ fb fo, fa = some ⟨fb, fo, none⟩ ∧ ∀ j, j < fl → w.cell? ⟨fb, fo + j, none⟩ = some (.int .i64 ((cl L c).2.getD j 0)) := by
          rcases HI.out.cells with h0' | ⟨fb, fo, ha, _, hcs⟩
          · omega
          · exact ⟨fb, fo, ha, hcs⟩
        have KN : Hid (∀ w1, Below w.heap.size w w1 → ∀ j u, ((cl L c).2.map (Value.int .i64))[j]? = some u → w1.cell? ((⟨fb, fo, none⟩ : Addr).add j) = some u) := by
          intro w1 hb j u hu
          have hj : j < fl := by
            have := (List.getElem?_eq_some_iff.1 hu).1
            rw [List.length_map, HI.out.size] at this
            exact this
          rw [Addr.add_lit, hb.cell (p := ⟨fb, fo + j, none⟩) (World.block_lt_of_cell? w _ (hcell j hj)), hcell j hj, ← hu, List.getElem?_map, List.getD_eq_getElem?_getD, List.getElem?_eq_getElem (by rw [HI.out.size]; exact hj)]
          rfl
        have HL : Hid (((cl L c).2.map (Value.int .i64)).length = fl * 1) := by show _ = _; rw [List.length_map, HI.out.size, Nat.mul_one]
        clear hcell
        go_enter Tryz.func110, Tryz.ntmps110
        go_wp2_with fail
        go_region_law (first
          | (go_simp
             go_at_call 110
             refine (IH.out (sup L c) hs1 _ (by omega) (H.out.later (by go_grown))).mono ?_
             rintro e w1 ⟨v, rfl, own1, hb1⟩
             have hb1' : Below w.heap.size w w1 := ⟨hb1.os, hb1.tape, hb1.output, hb1.size, hb1.block⟩
             have d1 := (KC.out w1 hb1').2
             have own1' : w1.ownsRow w.heap.size 3 1 v (fld L (sup L c)).length ((fld L (sup L c)).map (Value.int .i64)) := own1)
          | (refine step_append_lies _ (by rfl) _ _ _ (by rfl) w.heap.size 3 i0 _ 1 8 Tryz.underlying23 hi0 hz0 hz1 hz2 rfl (by omega) v _ _ (by rfl) own1' ⟨fb, fo, none⟩ fl fc ((cl L c).2.map (Value.int .i64)) (by rfl) HL.out (KN.out w1 hb1') (ints_one _) (by omega) (by unfold maxLen; omega) (by omega) hb1'.size _ rfl ?_
             intro gg cap' w2 hown2 hgrow2 hat2 hlt2))
        all_goals
          have P : Hid (NewInts w (.slice (some ⟨gg, 0, none⟩) ((fld L (sup L c)).length + fl) cap') w2 (fld L c)) := by
            show NewInts _ _ _ _
            rw [HF.out]
            refine ⟨?_, ?_⟩
            · rw [List.length_append, HI.out.size, List.map_append]; exact hown2
            · exact hb1'.grown hgrow2 hb1'.size (fun k e => own_ge own1' k e.symm)
          clear own1 own1' hb1 hb1' d1 hown2 hgrow2 hat2
          go_wp2_with fail
          go_ret
          exact ⟨_, rfl, P.out⟩

end Go.Proofs.YtjbmcdekhhbiaaaGreat
