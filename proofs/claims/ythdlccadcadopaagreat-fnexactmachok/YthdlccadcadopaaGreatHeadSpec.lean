/-
  What is told ahead of a method's code is ok just where the specification says so, in whatever memory; it writes nothing that was there.
-/
import Derived.Test.YthdlccadcadopaaGreatCatSpec
import Derived.Deep.RegionHeld3
namespace Go.Proofs.YthdlccadcadopaaGreat
open Go.ChangeShapes Go.WideShapes Go.ChangeAt Go.RowKit

theorem fieldSame (a : Option Addr) (len cap : Nat) (t : Int) (r : Bool) (w : World) (hr : len ≤ 1000000000000000) (h : fieldB len t = r) :
    Calls Tryz.prog 137 #[.slice a len cap, .int .i64 t] w fun e w' => e = .returned (.bool r) ∧ w' = w := by
  subst h
  refine (fieldSpec a len cap t w hr).mono ?_
  rintro e w' ⟨he, hw⟩
  exact ⟨he, hw.symm⟩

/-- What is in two blocks that were laid, and in elder ones. -/
theorem cell_heap {x y : World} (h : x.heap = y.heap) (b o : Nat) : x.cell? ⟨b, o, none⟩ = y.cell? ⟨b, o, none⟩ := World.cell?_of_block (w := y) (by rw [h])
theorem two_first {w : World} {cs : Array Value} {t : TypeId} {q : Obj} {j : Nat} {v : Value} (hv : cs[j]? = some v) : ((w.alloc (.cells cs t)).alloc q).cell? ⟨w.heap.size, j, none⟩ = some v := by
  rw [World.cell?_alloc_past _ _ _ (by simp), World.cell?_alloc_at _ _ _ _ rfl]
  exact hv
theorem two_second {w : World} {cs : Array Value} {t : TypeId} {q : Obj} {j : Nat} {v : Value} (hv : cs[j]? = some v) : ((w.alloc q).alloc (.cells cs t)).cell? ⟨w.heap.size + 1, j, none⟩ = some v := by
  rw [World.cell?_alloc_at _ _ _ _ (by simp)]
  exact hv
theorem two_elder {w : World} {q r : Obj} {b j : Nat} {v : Value} (hv : w.cell? ⟨b, j, none⟩ = some v) : ((w.alloc q).alloc r).cell? ⟨b, j, none⟩ = some v := by
  have hb := World.block_lt_of_cell? w _ hv
  simp only at hb
  rw [World.cell?_alloc_past _ _ _ (by simp; omega), World.cell?_alloc_past _ _ _ hb]
  exact hv

set_option maxRecDepth 100000 in
set_option maxHeartbeats 8000000 in
theorem headSpec (ca : Option Addr) (cn cc : Nat) (ma : Option Addr) (mn mc : Nat) (c s o lo : Int) (aa : Option Addr) (al ac : Nat) (da : Option Addr) (dl dc : Nat) (sa : Option Addr) (sl sc : Nat) (ha : Option Addr) (hl hc : Nat)
    (args : List Int) (X : List In) (Y : List Sh) (Z : List Ca) (w : World) {D : Nat → Prop} (h : IntsAt D w aa al args) (hcn : cn ≤ 1000000000000000) :
    Calls Tryz.prog 105 #[.agg #[.slice ca cn cc, .slice ma mn mc], .agg #[.int .i64 c, .int .i64 s, .slice aa al ac, .int .i64 o, .int .i64 lo, .slice da dl dc, .slice sa sl sc, .slice ha hl hc]] w fun e w' => e = .returned (.bool (hdB cn (c, s, args, o, lo, X, Y, Z))) ∧ Below w.heap.size w w' := by
  have H : Hid (IntsAt D w aa al args) := h
  have HS : Hid (args.length = al) := h.size
  have hal := h.room
  have HF : Hid (hdB cn (c, s, args, o, lo, X, Y, Z) = (((((!(c == 0) && inI c (-1) ((cn : Int) - 1)) && decide (al ≤ 2)) && fieldB cn o) && inI lo (selfN c + (al : Int)) 3) && (args.all (fieldB cn) && (if 0 ≤ c then inI s 0 2 else (s == 0))))) := by
    show _ = _; rw [hdB]; simp only; rw [HS.out]
  clear h
  by_cases hc0 : 0 ≤ c
  · have hsf : Hid (selfN c = 1) := if_pos hc0
    by_cases h1 : c = 0
    · subst h1
      go_enter Tryz.func105, Tryz.ntmps105
      go_wp2_with fail
      go_ret
      exact ⟨by rw [HF.out]; rfl, by go_grown⟩
    have e1 : (c == 0) = false := by simp [h1]
    have e1' : (!(c == 0)) = true := by rw [e1]; rfl
    cases h2 : inI c (-1) ((cn : Int) - 1)
    · go_enter Tryz.func105, Tryz.ntmps105
      go_wp2_with fail
      refine (inSpec' _ _ _ _ h2 _).mono ?_
      rintro e w' ⟨rfl, rfl⟩
      go_wp2_with fail
      go_ret
      exact ⟨by rw [HF.out, e1', h2]; rfl, by go_grown⟩
    by_cases h3 : 2 < al
    · go_enter Tryz.func105, Tryz.ntmps105
      go_wp2_with fail
      refine (inSpec' _ _ _ _ h2 _).mono ?_
      rintro e w' ⟨rfl, rfl⟩
      go_wp2_with fail
      go_ret
      exact ⟨by rw [HF.out, e1', h2, decide_eq_false (show ¬ al ≤ 2 by omega)]; rfl, by go_grown⟩
    have h3' : decide (al ≤ 2) = true := decide_eq_true (by omega)
    cases h4 : fieldB cn o
    · go_enter Tryz.func105, Tryz.ntmps105
      go_wp2_with fail
      refine (inSpec' _ _ _ _ h2 _).mono ?_
      rintro e w' ⟨rfl, rfl⟩
      go_wp2_with fail
      refine (fieldSame _ _ _ _ _ _ hcn h4).mono ?_
      rintro e w' ⟨rfl, rfl⟩
      go_wp2_with fail
      go_ret
      exact ⟨by rw [HF.out, e1', h2, h3', h4]; rfl, by go_grown⟩
    cases h5 : inI lo (1 + (al : Int)) 3
    · have HG : Hid (hdB cn (c, s, args, o, lo, X, Y, Z) = false) := by show _ = _; rw [HF.out, hsf.out, e1', h2, h3', h4, h5]; rfl
      go_enter Tryz.func105, Tryz.ntmps105
      go_wp2_with fail
      refine (inSpec' _ _ _ _ h2 _).mono ?_
      rintro e w' ⟨rfl, rfl⟩
      go_wp2_with fail
      refine (fieldSame _ _ _ _ _ _ hcn h4).mono ?_
      rintro e w' ⟨rfl, rfl⟩
      go_wp2_with fail
      refine (inSpec' _ _ _ _ h5 _).mono ?_
      rintro e w' ⟨rfl, rfl⟩
      go_wp2_with fail
      go_ret
      exact ⟨by rw [HG.out]; rfl, by go_grown⟩
    have HG : Hid (hdB cn (c, s, args, o, lo, X, Y, Z) = (args.all (fieldB cn) && inI s 0 2)) := by show _ = _; rw [HF.out, hsf.out, e1', h2, h3', h4, h5, if_pos hc0]; rfl
    clear HF
    go_enter Tryz.func105, Tryz.ntmps105
    go_wp2_with fail
    refine (inSpec' _ _ _ _ h2 _).mono ?_
    rintro e w' ⟨rfl, rfl⟩
    go_wp2_with fail
    refine (fieldSame _ _ _ _ _ _ hcn h4).mono ?_
    rintro e w' ⟨rfl, rfl⟩
    go_wp2_with fail
    refine (inSpec' _ _ _ _ h5 _).mono ?_
    rintro e w' ⟨rfl, rfl⟩
    go_wp2_with fail
    go_loopw [6] (fun t wr => ∃ k : Nat, k ≤ al ∧ t = .int .i64 k ∧ (args.take k).all (fieldB cn) = true ∧ ∃ n, wr = ((w.alloc (.cells #[.slice ca cn cc, .slice ma mn mc] 38)).alloc (.cells #[.int .i64 c, .int .i64 s, .slice aa al ac, .int .i64 o, .int .i64 lo, .slice da dl dc, .slice sa sl sc, .slice ha hl hc] 68)).drewN n) (fun t _ => al - (intOf t).toNat)
    case atStart => exact ⟨0, Nat.zero_le _, rfl, rfl, 0, rfl⟩
    case round =>
      obtain ⟨k, hk, rfl, hu, n, rfl⟩ := hrel
      have Hu : Hid ((args.take k).all (fieldB cn) = true) := hu
      clear hu
      by_cases hlt : k < al
      · obtain ⟨b, off, rfl, hck⟩ : ∃ b off, aa = some ⟨b, off, none⟩ ∧ w.cell? ⟨b, off + k, none⟩ = some (.int .i64 (args.getD k 0)) := by
          rcases H.out.cells with h0 | ⟨b, off, ha, _, hcs⟩
          · omega
          · exact ⟨b, off, ha, hcs k hlt⟩
        have hbl := World.block_lt_of_cell? w _ hck
        simp only at hbl
        have hbl1 : b < w.heap.size + 1 := by omega
        have hbk : Hid ((args.take (k + 1)).all (fieldB cn) = ((args.take k).all (fieldB cn) && fieldB cn (args.getD k 0))) := all_take args (fieldB cn) k (by rw [HS.out]; exact hlt)
        have hbf : Hid (fieldB cn (args.getD k 0) = false → args.all (fieldB cn) = false) := all_false args (fieldB cn) k (by rw [HS.out]; exact hlt)
        have hltI : (k : Int) < (al : Int) := by omega
        generalize args.getD k 0 = f at hck hbk hbf
        have KS : Hid (∀ x : World, x.heap = ((w.alloc (.cells #[.slice ca cn cc, .slice ma mn mc] 38)).alloc (.cells #[.int .i64 c, .int .i64 s, .slice (some ⟨b, off, none⟩) al ac, .int .i64 o, .int .i64 lo, .slice da dl dc, .slice sa sl sc, .slice ha hl hc] 68)).heap → x.cell? ⟨w.heap.size, 0, none⟩ = some (.slice ca cn cc) ∧ x.cell? ⟨w.heap.size + 1, 2, none⟩ = some (.slice (some ⟨b, off, none⟩) al ac) ∧ x.cell? ⟨b, off + k, none⟩ = some (.int .i64 f)) := fun x hx =>
          ⟨(cell_heap hx _ _).trans (two_first rfl), (cell_heap hx _ _).trans (two_second rfl), (cell_heap hx _ _).trans (two_elder hck)⟩
        cases hB : fieldB cn f
        · go_wp2_with fail
          go_region_held3 (fun x => x.cell? ⟨w.heap.size, 0, none⟩ = some (.slice ca cn cc) ∧ x.cell? ⟨w.heap.size + 1, 2, none⟩ = some (.slice (some ⟨b, off, none⟩) al ac) ∧ x.cell? ⟨b, off + k, none⟩ = some (.int .i64 f)) (exact KS.out _ rfl) ((go_at_call 137; refine (fieldSame _ _ _ _ _ _ hcn hB).mono ?_; rintro e w' ⟨rfl, rfl⟩))
          go_wp2_with fail
          go_ret
          exact ⟨by rw [HG.out, hbf.out hB]; rfl, below_drewN (by go_grown) _⟩
        · go_wp2_with fail
          go_region_held3 (fun x => x.cell? ⟨w.heap.size, 0, none⟩ = some (.slice ca cn cc) ∧ x.cell? ⟨w.heap.size + 1, 2, none⟩ = some (.slice (some ⟨b, off, none⟩) al ac) ∧ x.cell? ⟨b, off + k, none⟩ = some (.int .i64 f)) (exact KS.out _ rfl) ((go_at_call 137; refine (fieldSame _ _ _ _ _ _ hcn hB).mono ?_; rintro e w' ⟨rfl, rfl⟩))
          go_wp2_with fail
          exact ⟨⟨k + 1, by omega, by go_num, by rw [hbk.out, Hu.out, hB]; rfl, n + 1, rfl⟩, by simp [intOf]; omega⟩
      · have ek : k = al := by omega
        subst ek
        have HA : Hid (hdB cn (c, s, args, o, lo, X, Y, Z) = inI s 0 2) := by
          show _ = _
          have := Hu.out
          rw [← HS.out, List.take_length] at this
          rw [HG.out, this]; rfl
        clear Hu HG
        go_wp2_with fail
        refine (inSpec' _ _ _ _ rfl _).mono ?_
        rintro e w' ⟨rfl, rfl⟩
        cases hI : inI s 0 2
        all_goals
          go_wp2_with fail
          go_ret
          exact ⟨by rw [HA.out, hI]; rfl, below_drewN (by go_grown) _⟩
  · have hsf : Hid (selfN c = 0) := if_neg hc0
    have e1 : (c == 0) = false := by simp; omega
    have e1' : (!(c == 0)) = true := by rw [e1]; rfl
    cases h2 : inI c (-1) ((cn : Int) - 1)
    · go_enter Tryz.func105, Tryz.ntmps105
      go_wp2_with fail
      refine (inSpec' _ _ _ _ h2 _).mono ?_
      rintro e w' ⟨rfl, rfl⟩
      go_wp2_with fail
      go_ret
      exact ⟨by rw [HF.out, e1', h2]; rfl, by go_grown⟩
    by_cases h3 : 2 < al
    · go_enter Tryz.func105, Tryz.ntmps105
      go_wp2_with fail
      refine (inSpec' _ _ _ _ h2 _).mono ?_
      rintro e w' ⟨rfl, rfl⟩
      go_wp2_with fail
      go_ret
      exact ⟨by rw [HF.out, e1', h2, decide_eq_false (show ¬ al ≤ 2 by omega)]; rfl, by go_grown⟩
    have h3' : decide (al ≤ 2) = true := decide_eq_true (by omega)
    cases h4 : fieldB cn o
    · go_enter Tryz.func105, Tryz.ntmps105
      go_wp2_with fail
      refine (inSpec' _ _ _ _ h2 _).mono ?_
      rintro e w' ⟨rfl, rfl⟩
      go_wp2_with fail
      refine (fieldSame _ _ _ _ _ _ hcn h4).mono ?_
      rintro e w' ⟨rfl, rfl⟩
      go_wp2_with fail
      go_ret
      exact ⟨by rw [HF.out, e1', h2, h3', h4]; rfl, by go_grown⟩
    cases h5 : inI lo ((al : Int)) 3
    · have HG : Hid (hdB cn (c, s, args, o, lo, X, Y, Z) = false) := by show _ = _; rw [HF.out, hsf.out, e1', h2, h3', h4, Int.zero_add, h5]; rfl
      go_enter Tryz.func105, Tryz.ntmps105
      go_wp2_with fail
      refine (inSpec' _ _ _ _ h2 _).mono ?_
      rintro e w' ⟨rfl, rfl⟩
      go_wp2_with fail
      refine (fieldSame _ _ _ _ _ _ hcn h4).mono ?_
      rintro e w' ⟨rfl, rfl⟩
      go_wp2_with fail
      refine (inSpec' _ _ _ _ h5 _).mono ?_
      rintro e w' ⟨rfl, rfl⟩
      go_wp2_with fail
      go_ret
      exact ⟨by rw [HG.out]; rfl, by go_grown⟩
    have HG : Hid (hdB cn (c, s, args, o, lo, X, Y, Z) = (args.all (fieldB cn) && (s == 0))) := by show _ = _; rw [HF.out, hsf.out, e1', h2, h3', h4, Int.zero_add, h5, if_neg hc0]; rfl
    clear HF
    go_enter Tryz.func105, Tryz.ntmps105
    go_wp2_with fail
    refine (inSpec' _ _ _ _ h2 _).mono ?_
    rintro e w' ⟨rfl, rfl⟩
    go_wp2_with fail
    refine (fieldSame _ _ _ _ _ _ hcn h4).mono ?_
    rintro e w' ⟨rfl, rfl⟩
    go_wp2_with fail
    refine (inSpec' _ _ _ _ h5 _).mono ?_
    rintro e w' ⟨rfl, rfl⟩
    go_wp2_with fail
    go_loopw [6] (fun t wr => ∃ k : Nat, k ≤ al ∧ t = .int .i64 k ∧ (args.take k).all (fieldB cn) = true ∧ ∃ n, wr = ((w.alloc (.cells #[.slice ca cn cc, .slice ma mn mc] 38)).alloc (.cells #[.int .i64 c, .int .i64 s, .slice aa al ac, .int .i64 o, .int .i64 lo, .slice da dl dc, .slice sa sl sc, .slice ha hl hc] 68)).drewN n) (fun t _ => al - (intOf t).toNat)
    case atStart => exact ⟨0, Nat.zero_le _, rfl, rfl, 0, rfl⟩
    case round =>
      obtain ⟨k, hk, rfl, hu, n, rfl⟩ := hrel
      have Hu : Hid ((args.take k).all (fieldB cn) = true) := hu
      clear hu
      by_cases hlt : k < al
      · obtain ⟨b, off, rfl, hck⟩ : ∃ b off, aa = some ⟨b, off, none⟩ ∧ w.cell? ⟨b, off + k, none⟩ = some (.int .i64 (args.getD k 0)) := by
          rcases H.out.cells with h0 | ⟨b, off, ha, _, hcs⟩
          · omega
          · exact ⟨b, off, ha, hcs k hlt⟩
        have hbl := World.block_lt_of_cell? w _ hck
        simp only at hbl
        have hbl1 : b < w.heap.size + 1 := by omega
        have hbk : Hid ((args.take (k + 1)).all (fieldB cn) = ((args.take k).all (fieldB cn) && fieldB cn (args.getD k 0))) := all_take args (fieldB cn) k (by rw [HS.out]; exact hlt)
        have hbf : Hid (fieldB cn (args.getD k 0) = false → args.all (fieldB cn) = false) := all_false args (fieldB cn) k (by rw [HS.out]; exact hlt)
        have hltI : (k : Int) < (al : Int) := by omega
        generalize args.getD k 0 = f at hck hbk hbf
        have KS : Hid (∀ x : World, x.heap = ((w.alloc (.cells #[.slice ca cn cc, .slice ma mn mc] 38)).alloc (.cells #[.int .i64 c, .int .i64 s, .slice (some ⟨b, off, none⟩) al ac, .int .i64 o, .int .i64 lo, .slice da dl dc, .slice sa sl sc, .slice ha hl hc] 68)).heap → x.cell? ⟨w.heap.size, 0, none⟩ = some (.slice ca cn cc) ∧ x.cell? ⟨w.heap.size + 1, 2, none⟩ = some (.slice (some ⟨b, off, none⟩) al ac) ∧ x.cell? ⟨b, off + k, none⟩ = some (.int .i64 f)) := fun x hx =>
          ⟨(cell_heap hx _ _).trans (two_first rfl), (cell_heap hx _ _).trans (two_second rfl), (cell_heap hx _ _).trans (two_elder hck)⟩
        cases hB : fieldB cn f
        · go_wp2_with fail
          go_region_held3 (fun x => x.cell? ⟨w.heap.size, 0, none⟩ = some (.slice ca cn cc) ∧ x.cell? ⟨w.heap.size + 1, 2, none⟩ = some (.slice (some ⟨b, off, none⟩) al ac) ∧ x.cell? ⟨b, off + k, none⟩ = some (.int .i64 f)) (exact KS.out _ rfl) ((go_at_call 137; refine (fieldSame _ _ _ _ _ _ hcn hB).mono ?_; rintro e w' ⟨rfl, rfl⟩))
          go_wp2_with fail
          go_ret
          exact ⟨by rw [HG.out, hbf.out hB]; rfl, below_drewN (by go_grown) _⟩
        · go_wp2_with fail
          go_region_held3 (fun x => x.cell? ⟨w.heap.size, 0, none⟩ = some (.slice ca cn cc) ∧ x.cell? ⟨w.heap.size + 1, 2, none⟩ = some (.slice (some ⟨b, off, none⟩) al ac) ∧ x.cell? ⟨b, off + k, none⟩ = some (.int .i64 f)) (exact KS.out _ rfl) ((go_at_call 137; refine (fieldSame _ _ _ _ _ _ hcn hB).mono ?_; rintro e w' ⟨rfl, rfl⟩))
          go_wp2_with fail
          exact ⟨⟨k + 1, by omega, by go_num, by rw [hbk.out, Hu.out, hB]; rfl, n + 1, rfl⟩, by simp [intOf]; omega⟩
      · have ek : k = al := by omega
        subst ek
        have HA : Hid (hdB cn (c, s, args, o, lo, X, Y, Z) = (s == 0)) := by
          show _ = _
          have := Hu.out
          rw [← HS.out, List.take_length] at this
          rw [HG.out, this]; rfl
        clear Hu HG
        go_wp2_with fail
        go_ret
        exact ⟨by rw [HA.out]; rfl, below_drewN (by go_grown) _⟩

end Go.Proofs.YthdlccadcadopaaGreat
