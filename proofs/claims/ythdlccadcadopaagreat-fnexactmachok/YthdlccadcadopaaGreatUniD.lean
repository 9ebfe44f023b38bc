/-
  A method's code: what is said of it, and that the program says so, in whatever memory; it writes nothing that was there.
-/
import Derived.Test.YthdlccadcadopaaGreatUniC
import Derived.Test.YthdlccadcadopaaGreatWantMap
import Derived.Test.YthdlccadcadopaaGreatMethSpec
namespace Go.Proofs.YthdlccadcadopaaGreat
open Go.ChangeShapes Go.WideShapes Go.ChangeAt Go.RowKit

/-- An instruction, by what its kind wants. -/
def codK (L : List Cl) (M : List Me) (lo : Int) (n : Nat) (x : In) : Bool := wantOk x.1 && (opdB L M lo n (wantA x.1) x.2.1 x.2.1 && opdB L M lo n (wantB x.1) x.2.1 x.2.2)
theorem want7 {k : Int} (h : wantB k = 7) : wantA k = 5 := by
  by_cases hk : 1 ≤ k ∧ k ≤ 24
  · have : k = 1 ∨ k = 2 ∨ k = 3 ∨ k = 4 ∨ k = 5 ∨ k = 6 ∨ k = 7 ∨ k = 8 ∨ k = 9 ∨ k = 10 ∨ k = 11 ∨ k = 12 ∨ k = 13 ∨ k = 14 ∨ k = 15 ∨ k = 16 ∨ k = 17 ∨ k = 18 ∨ k = 19 ∨ k = 20 ∨ k = 21 ∨ k = 22 ∨ k = 23 ∨ k = 24 := by omega
    rcases this with rfl | rfl | rfl | rfl | rfl | rfl | rfl | rfl | rfl | rfl | rfl | rfl | rfl | rfl | rfl | rfl | rfl | rfl | rfl | rfl | rfl | rfl | rfl | rfl
    all_goals revert h; decide
  · exfalso
    have hf : wantL.find? (fun x => x.1 == k) = none := by
      rw [List.find?_eq_none]; intro x hx
      unfold wantL at hx
      simp only [List.mem_cons, List.not_mem_nil, or_false] at hx
      rcases hx with rfl | rfl | rfl | rfl | rfl | rfl | rfl | rfl | rfl | rfl | rfl | rfl | rfl | rfl | rfl | rfl | rfl | rfl | rfl | rfl | rfl | rfl | rfl | rfl <;> simp <;> omega
    rw [wantB, hf] at h
    simp at h

theorem want_not7 (k : Int) : wantA k ≠ 7 := by
  by_cases hk : 1 ≤ k ∧ k ≤ 24
  · have : k = 1 ∨ k = 2 ∨ k = 3 ∨ k = 4 ∨ k = 5 ∨ k = 6 ∨ k = 7 ∨ k = 8 ∨ k = 9 ∨ k = 10 ∨ k = 11 ∨ k = 12 ∨ k = 13 ∨ k = 14 ∨ k = 15 ∨ k = 16 ∨ k = 17 ∨ k = 18 ∨ k = 19 ∨ k = 20 ∨ k = 21 ∨ k = 22 ∨ k = 23 ∨ k = 24 := by omega
    rcases this with rfl | rfl | rfl | rfl | rfl | rfl | rfl | rfl | rfl | rfl | rfl | rfl | rfl | rfl | rfl | rfl | rfl | rfl | rfl | rfl | rfl | rfl | rfl | rfl
    all_goals decide
  · have hf : wantL.find? (fun x => x.1 == k) = none := by
      rw [List.find?_eq_none]; intro x hx
      unfold wantL at hx
      simp only [List.mem_cons, List.not_mem_nil, or_false] at hx
      rcases hx with rfl | rfl | rfl | rfl | rfl | rfl | rfl | rfl | rfl | rfl | rfl | rfl | rfl | rfl | rfl | rfl | rfl | rfl | rfl | rfl | rfl | rfl | rfl | rfl <;> simp <;> omega
    rw [wantA, hf]
    decide

set_option maxRecDepth 100000 in
set_option maxHeartbeats 8000000 in
theorem codeImpl (ca : Option Addr) (cn cc : Nat) (ma : Option Addr) (mn mc : Nat) (q : Nat) (c s o lo : Int) (aa : Option Addr) (al ac : Nat) (da : Option Addr) (dl dc : Nat) (sa : Option Addr) (sl sc : Nat) (ha : Option Addr) (hl hc : Nat) (X : List In) (L : List Cl) (M : List Me) (w : World) {D E G : Nat → Prop} (h : ClsAt D E w ca cn L) (ok : clsOk L = true) (hM : SlAt meR G w ma mn M) (hX : SlAt inR G w da dl X) (hq : w.heap[q]? = some (.map (wE 24) 24)) :
    Calls Tryz.prog 146 #[.agg #[.slice ca cn cc, .slice ma mn mc, .map (some q)], .agg #[.int .i64 c, .int .i64 s, .slice aa al ac, .int .i64 o, .int .i64 lo, .slice da dl dc, .slice sa sl sc, .slice ha hl hc]] w fun e w' => e = .returned (.bool ((decide (1 ≤ dl) && decide (dl ≤ 12)) && (List.range dl).all (fun i => codK L M lo dl (ins X i)))) ∧ Below w.heap.size w w' := by
  have H : Hid (ClsAt D E w ca cn L) := h
  have OK : Hid (clsOk L = true) := ok
  have HS : Hid (L.length = cn) := h.size
  have HM : Hid (SlAt meR G w ma mn M) := hM
  have HX : Hid (SlAt inR G w da dl X) := hX
  have xr := hX.room
  have hql : q < w.heap.size := (Array.getElem?_eq_some_iff.1 hq).1
  have HQ : Hid (w.heap[q]? = some (.map (wE 24) 24)) := hq
  have KC : Hid (∀ x : World, Below (w.heap.size + 1 + 1) ((w.alloc (.cells #[.slice ca cn cc, .slice ma mn mc, .map (some q)] 116)).alloc (.cells #[.int .i64 c, .int .i64 s, .slice aa al ac, .int .i64 o, .int .i64 lo, .slice da dl dc, .slice sa sl sc, .slice ha hl hc] 68)) x → x.cell? ⟨w.heap.size, 0, none⟩ = some (.slice ca cn cc) ∧ x.cell? ⟨w.heap.size, 1, none⟩ = some (.slice ma mn mc) ∧ x.cell? ⟨w.heap.size, 2, none⟩ = some (.map (some q)) ∧ x.cell? ⟨w.heap.size + 1, 0, none⟩ = some (.int .i64 c) ∧ x.cell? ⟨w.heap.size + 1, 1, none⟩ = some (.int .i64 s) ∧ x.cell? ⟨w.heap.size + 1, 2, none⟩ = some (.slice aa al ac) ∧ x.cell? ⟨w.heap.size + 1, 3, none⟩ = some (.int .i64 o) ∧ x.cell? ⟨w.heap.size + 1, 4, none⟩ = some (.int .i64 lo) ∧ x.cell? ⟨w.heap.size + 1, 5, none⟩ = some (.slice da dl dc) ∧ x.cell? ⟨w.heap.size + 1, 6, none⟩ = some (.slice sa sl sc) ∧ x.cell? ⟨w.heap.size + 1, 7, none⟩ = some (.slice ha hl hc)) := fun x hb => ⟨later2 hb (two_first rfl), later2 hb (two_first rfl), later2 hb (two_first rfl), later2 hb (two_second rfl), later2 hb (two_second rfl), later2 hb (two_second rfl), later2 hb (two_second rfl), later2 hb (two_second rfl), later2 hb (two_second rfl), later2 hb (two_second rfl), later2 hb (two_second rfl)⟩
  have B0 : Hid (Below w.heap.size w ((w.alloc (.cells #[.slice ca cn cc, .slice ma mn mc, .map (some q)] 116)).alloc (.cells #[.int .i64 c, .int .i64 s, .slice aa al ac, .int .i64 o, .int .i64 lo, .slice da dl dc, .slice sa sl sc, .slice ha hl hc] 68))) := ((Below.refl _ _).alloc (Nat.le_refl _) _).alloc (by simp) _
  clear h ok hM hX hq
  by_cases h1 : dl < 1
  · go_enter Tryz.func146, Tryz.ntmps146
    go_wp2_with fail
    go_ret
    exact ⟨by rw [decide_eq_false (show ¬ 1 ≤ dl by omega)]; rfl, by go_grown⟩
  by_cases h2 : 12 < dl
  · go_enter Tryz.func146, Tryz.ntmps146
    go_wp2_with fail
    go_ret
    exact ⟨by rw [decide_eq_false (show ¬ dl ≤ 12 by omega), Bool.and_false]; rfl, by go_grown⟩
  have HF : Hid (((decide (1 ≤ dl) && decide (dl ≤ 12)) && (List.range dl).all (fun i => codK L M lo dl (ins X i))) = (List.range dl).all (fun i => codK L M lo dl (ins X i))) := by show _ = _; rw [decide_eq_true (show 1 ≤ dl by omega), decide_eq_true (show dl ≤ 12 by omega)]; rfl
  go_enter Tryz.func146, Tryz.ntmps146
  go_wp2_with fail
  go_loopw [22] (fun t wr => ∃ k : Nat, k ≤ dl ∧ t = .int .i64 k ∧ (List.range k).all (fun i => codK L M lo dl (ins X i)) = true ∧ Below (w.heap.size + 1 + 1) ((w.alloc (.cells #[.slice ca cn cc, .slice ma mn mc, .map (some q)] 116)).alloc (.cells #[.int .i64 c, .int .i64 s, .slice aa al ac, .int .i64 o, .int .i64 lo, .slice da dl dc, .slice sa sl sc, .slice ha hl hc] 68)) wr) (fun t _ => dl - (intOf t).toNat)
  case atStart => exact ⟨0, Nat.zero_le _, rfl, rfl, Below.refl _ _⟩
  case round =>
    obtain ⟨k, hk, rfl, hu, hb⟩ := hrel
    have HU : Hid ((List.range k).all (fun i => codK L M lo dl (ins X i)) = true) := hu
    have HB : Hid (Below (w.heap.size + 1 + 1) ((w.alloc (.cells #[.slice ca cn cc, .slice ma mn mc, .map (some q)] 116)).alloc (.cells #[.int .i64 c, .int .i64 s, .slice aa al ac, .int .i64 o, .int .i64 lo, .slice da dl dc, .slice sa sl sc, .slice ha hl hc] 68)) wr) := hb
    have hws : w.heap.size + 1 + 1 ≤ wr.heap.size := by have := hb.size; simpa using this
    clear hu hb
    by_cases hlt : k < dl
    · obtain ⟨cb, co, i0, i1, i2, rfl, ei, c0, c1, c2⟩ := insOf HX.out k hlt
      have hcb := World.block_lt_of_cell? w _ c0
      simp only at hcb
      have HE : Hid (codK L M lo dl (ins X k) = (wantOk i0 && (opdB L M lo dl (wantA i0) i1 i1 && opdB L M lo dl (wantB i0) i1 i2))) := by show _ = _; rw [ei]; rfl
      have HN : Hid (codK L M lo dl (ins X k) = false → (List.range dl).all (fun i => codK L M lo dl (ins X i)) = false) := fun e => range_false hlt e
      obtain ⟨p0, p1, p2, m0, m1, m2, m3, m4, m5, m6, m7⟩ := KC.out wr HB.out
      have d0 : wr.cell? ⟨cb, co + k * 3, none⟩ = some (.int .i64 i0) := later2 HB.out (two_elder c0)
      have d1 : wr.cell? ⟨cb, co + k * 3 + 1, none⟩ = some (.int .i64 i1) := later2 HB.out (two_elder c1)
      have d2 : wr.cell? ⟨cb, co + k * 3 + 2, none⟩ = some (.int .i64 i2) := later2 HB.out (two_elder c2)
      have hltI : (k : Int) < (dl : Int) := by omega
      have hmap : wr.heap[q]? = some (.map (wE 24) 24) := by rw [(below2 HB.out).block q hql]; exact HQ.out
      have hlook := lookWants (wr.alloc (.cells #[.int .i64 i0, .int .i64 i1, .int .i64 i2] 149)) q i0 (by rw [Below.heap_alloc _ _ _ (by omega)]; exact hmap)
      clear hmap ei c0 c1 c2
      have hww : w.heap.size < wr.heap.size := by omega
      have hww2 : w.heap.size + 1 < wr.heap.size := by omega
      have hcw : cb < wr.heap.size := by omega
      have B2 : Hid (Below (w.heap.size + 1 + 1) ((w.alloc (.cells #[.slice ca cn cc, .slice ma mn mc, .map (some q)] 116)).alloc (.cells #[.int .i64 c, .int .i64 s, .slice aa al ac, .int .i64 o, .int .i64 lo, .slice (some ⟨cb, co, none⟩) dl dc, .slice sa sl sc, .slice ha hl hc] 68)) ((wr.alloc (.cells #[.int .i64 i0, .int .i64 i1, .int .i64 i2] 149)).alloc (.cells #[.int .i64 (wantA i0), .int .i64 (wantB i0)] 162))) := (HB.out.alloc hws _).alloc (by simp; omega) _
      cases g1 : wantOk i0
      · rw [g1] at hlook
        go_wp2_with fail
        go_ret
        exact ⟨by rw [HF.out, HN.out (by rw [HE.out, g1]; rfl)]; rfl, below2 B2.out⟩
      rw [g1] at hlook
      go_wp2_with fail
      refine (operandImpl _ _ _ _ _ _ _ _ _ _ _ _ _ _ _ _ _ _ _ _ _ _ _ _ _ _ L M _ (H.out.later (below2 B2.out)) OK.out (HM.out.later (below2 B2.out)) xr (fun e => absurd e (want_not7 i0))).mono ?_
      rintro e w2 ⟨rfl, hb2⟩
      have b3 : Below (wr.heap.size + 1 + 1) ((wr.alloc (.cells #[.int .i64 i0, .int .i64 i1, .int .i64 i2] 149)).alloc (.cells #[.int .i64 (wantA i0), .int .i64 (wantB i0)] 162)) w2 := by simpa using hb2
      have f0 : w2.cell? ⟨wr.heap.size, 1, none⟩ = some (.int .i64 i1) := later2 b3 (two_first rfl)
      have f1 : w2.cell? ⟨wr.heap.size, 2, none⟩ = some (.int .i64 i2) := later2 b3 (two_first rfl)
      have f2 : w2.cell? ⟨wr.heap.size + 1, 1, none⟩ = some (.int .i64 (wantB i0)) := later2 b3 (two_second rfl)
      have B3 : Hid (Below (w.heap.size + 1 + 1) ((w.alloc (.cells #[.slice ca cn cc, .slice ma mn mc, .map (some q)] 116)).alloc (.cells #[.int .i64 c, .int .i64 s, .slice aa al ac, .int .i64 o, .int .i64 lo, .slice (some ⟨cb, co, none⟩) dl dc, .slice sa sl sc, .slice ha hl hc] 68)) w2) := B2.out.trans (hb2.mono (by simp; omega))
      clear hb2 b3 p0 p1 p2 m0 m1 m2 m3 m4 m5 m6 m7 hlook d0 d1 d2
      obtain ⟨p0, p1, p2, m0, m1, m2, m3, m4, m5, m6, m7⟩ := KC.out w2 B3.out
      cases g2 : opdB L M lo dl (wantA i0) i1 i1
      · go_wp2_with fail
        go_ret
        exact ⟨by rw [HF.out, HN.out (by rw [HE.out, g1, g2]; rfl)]; rfl, below2 B3.out⟩
      go_wp2_with fail
      refine (operandImpl _ _ _ _ _ _ _ _ _ _ _ _ _ _ _ _ _ _ _ _ _ _ _ _ _ _ L M _ (H.out.later (below2 B3.out)) OK.out (HM.out.later (below2 B3.out)) xr (fun e => ?_)).mono ?_
      · have h5 := want7 e
        rw [h5] at g2
        unfold opdB at g2
        rw [← HS.out]
        simpa using g2
      rintro e w3 ⟨rfl, hb3⟩
      have B4 : Hid (Below (w.heap.size + 1 + 1) ((w.alloc (.cells #[.slice ca cn cc, .slice ma mn mc, .map (some q)] 116)).alloc (.cells #[.int .i64 c, .int .i64 s, .slice aa al ac, .int .i64 o, .int .i64 lo, .slice (some ⟨cb, co, none⟩) dl dc, .slice sa sl sc, .slice ha hl hc] 68)) w3) := B3.out.trans (hb3.mono (by have := B3.out.size; simpa using this))
      clear hb3
      cases g3 : opdB L M lo dl (wantB i0) i1 i2
      · go_wp2_with fail
        go_ret
        exact ⟨by rw [HF.out, HN.out (by rw [HE.out, g1, g2, g3]; rfl)]; rfl, below2 B4.out⟩
      · go_wp2_with fail
        exact ⟨⟨k + 1, by omega, by go_num, by rw [range_more, HU.out, HE.out, g1, g2, g3]; rfl, B4.out⟩, by simp [intOf]; omega⟩
    · have ek : k = dl := by omega
      subst ek
      go_wp2_with fail
      go_ret
      exact ⟨by rw [HF.out, HU.out]; rfl, below2 HB.out⟩

end Go.Proofs.YthdlccadcadopaaGreat
