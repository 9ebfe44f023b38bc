/-
  Whether there is room for what a method is given: what is said of it, and that the program says so, in whatever memory; it writes nothing that was there.
-/
import Derived.Test.YthdlccadcadopaaGreatUniA
import Derived.Deep.RegionHeld3
namespace Go.Proofs.YthdlccadcadopaaGreat
open Go.ChangeShapes Go.WideShapes Go.ChangeAt Go.RowKit

def locK (c lo : Int) (al : Nat) : Bool := decide (givN c al ≤ lo) && decide (lo ≤ 3)
set_option maxRecDepth 100000 in
set_option maxHeartbeats 4000000 in
theorem localsImpl (c s o lo : Int) (aa : Option Addr) (al ac : Nat) (da : Option Addr) (dl dc : Nat) (sa : Option Addr) (sl sc : Nat) (ha : Option Addr) (hl hc : Nat) (w : World) (hal : al ≤ 1000000000000) :
    Calls Tryz.prog 145 #[.agg #[.int .i64 c, .int .i64 s, .slice aa al ac, .int .i64 o, .int .i64 lo, .slice da dl dc, .slice sa sl sc, .slice ha hl hc]] w fun e w' => e = .returned (.bool (locK c lo al)) ∧ Below w.heap.size w w' := by
  have KS : Hid (∀ x : World, Below (w.heap.size + 1) (w.alloc (.cells #[.int .i64 c, .int .i64 s, .slice aa al ac, .int .i64 o, .int .i64 lo, .slice da dl dc, .slice sa sl sc, .slice ha hl hc] 68)) x → x.cell? ⟨w.heap.size, 0, none⟩ = some (.int .i64 c) ∧ x.cell? ⟨w.heap.size, 1, none⟩ = some (.int .i64 s) ∧ x.cell? ⟨w.heap.size, 2, none⟩ = some (.slice aa al ac) ∧ x.cell? ⟨w.heap.size, 3, none⟩ = some (.int .i64 o) ∧ x.cell? ⟨w.heap.size, 4, none⟩ = some (.int .i64 lo) ∧ x.cell? ⟨w.heap.size, 5, none⟩ = some (.slice da dl dc) ∧ x.cell? ⟨w.heap.size, 6, none⟩ = some (.slice sa sl sc) ∧ x.cell? ⟨w.heap.size, 7, none⟩ = some (.slice ha hl hc)) := fun x hb => ⟨box_cell hb 0 _ rfl, box_cell hb 1 _ rfl, box_cell hb 2 _ rfl, box_cell hb 3 _ rfl, box_cell hb 4 _ rfl, box_cell hb 5 _ rfl, box_cell hb 6 _ rfl, box_cell hb 7 _ rfl⟩
  have HF : Hid (locK c lo al = (decide (givN c al ≤ lo) && decide (lo ≤ 3))) := rfl
  cases h1 : decide (givN c al ≤ lo)
  · go_enter Tryz.func145, Tryz.ntmps145
    go_wp2_with fail
    refine wp_region_held_drew (S := fun x => x.cell? ⟨w.heap.size, 0, none⟩ = some (.int .i64 c) ∧ x.cell? ⟨w.heap.size, 1, none⟩ = some (.int .i64 s) ∧ x.cell? ⟨w.heap.size, 2, none⟩ = some (.slice aa al ac) ∧ x.cell? ⟨w.heap.size, 3, none⟩ = some (.int .i64 o) ∧ x.cell? ⟨w.heap.size, 4, none⟩ = some (.int .i64 lo) ∧ x.cell? ⟨w.heap.size, 5, none⟩ = some (.slice da dl dc) ∧ x.cell? ⟨w.heap.size, 6, none⟩ = some (.slice sa sl sc) ∧ x.cell? ⟨w.heap.size, 7, none⟩ = some (.slice ha hl hc)) (by kernel_rfl) ?_ (fun hHeld => ?_)
    · exact KS.out _ (below_drewN (Below.refl _ _) 1)
    refine wpAnyH_take (i := 0) (v := .agg #[.int .i64 c, .int .i64 s, .slice aa al ac, .int .i64 o, .int .i64 lo, .slice da dl dc, .slice sa sl sc, .slice ha hl hc]) rfl (by kernel_rfl) (by kernel_rfl) (by kernel_rfl) (fun _ _ _ h => h) (Or.inl ⟨by kernel_rfl, by (intro x hSx; (try dsimp only at hSx); go_simp)⟩) (by assumption) ?_
    try simp only [Act.put, List.getElem_toArray, List.getElem_cons_zero, List.setIfInBounds_toArray, List.set_cons_zero, List.set_cons_succ]
    refine wpAnyH_take (i := 2) (v := .pointer (some ⟨w.heap.size, 4, none⟩)) rfl (by kernel_rfl) (by kernel_rfl) (by kernel_rfl) (fun _ _ _ h => h) (Or.inl ⟨by kernel_rfl, by (intro x hSx; (try dsimp only at hSx); go_simp)⟩) (by assumption) ?_
    try simp only [Act.put, List.getElem_toArray, List.getElem_cons_zero, List.getElem_cons_succ, List.setIfInBounds_toArray, List.set_cons_zero, List.set_cons_succ]
    refine wpAnyH_take (i := 3) (v := .int .i64 lo) rfl (by kernel_rfl) (by kernel_rfl) (by kernel_rfl) (fun _ _ _ h => h) (Or.inl ⟨by kernel_rfl, by (intro x hSx; (try dsimp only at hSx); go_simp)⟩) (by assumption) ?_
    try simp only [Act.put, List.getElem_toArray, List.getElem_cons_zero, List.getElem_cons_succ, List.setIfInBounds_toArray, List.set_cons_zero, List.set_cons_succ]
    refine wpAnyH_ready (rs := [1]) (by kernel_rfl) (by simp) ?_
    refine AllReadyH.cons rfl (fun K hK => ?_) AllReadyH.nil
    go_simp
    go_at_call 155
    refine (givenImpl _ _ _ _ _ _ _ _ _ _ _ _ _ _ _ _ _ hal).mono ?_
    rintro e w2 ⟨rfl, hw2⟩
    have D1 : Hid (Below (w.heap.size + 1) (w.alloc (.cells #[.int .i64 c, .int .i64 s, .slice aa al ac, .int .i64 o, .int .i64 lo, .slice da dl dc, .slice sa sl sc, .slice ha hl hc] 68)) w2) := by rw [hw2]; exact (below_drewN (Below.refl _ _) 1).alloc (by simp) _
    clear hw2
    go_wp2_with fail
    refine hK.out _ _ (KS.out _ D1.out) (fun hHeld2 => ?_)
    clear hK K
    try simp only [Act.put, List.getElem_toArray, List.getElem_cons_zero, List.getElem_cons_succ, List.setIfInBounds_toArray, List.set_cons_zero, List.set_cons_succ]
    refine wpAnyH_take (i := 4) (v := .bool false) rfl (by kernel_rfl) (by kernel_rfl) (by kernel_rfl) (fun _ _ _ h => h) (Or.inl ⟨by kernel_rfl, by (intro x hSx; (try dsimp only at hSx); go_simp)⟩) (by assumption) ?_
    try simp only [Act.put, List.getElem_toArray, List.getElem_cons_zero, List.getElem_cons_succ, List.setIfInBounds_toArray, List.set_cons_zero, List.set_cons_succ]
    refine wpAnyH_take (i := 5) (v := .bool false) rfl (by kernel_rfl) (by kernel_rfl) (by kernel_rfl) (fun _ _ _ h => h) (Or.inl ⟨by kernel_rfl, by (intro x hSx; (try dsimp only at hSx); go_simp)⟩) (by assumption) ?_
    try simp only [Act.put, List.getElem_toArray, List.getElem_cons_zero, List.getElem_cons_succ, List.setIfInBounds_toArray, List.set_cons_zero, List.set_cons_succ]
    refine wpAnyH_take (i := 6) (v := undef) rfl (by kernel_rfl) (by kernel_rfl) (by kernel_rfl) (fun _ _ _ h => h) (Or.inr ⟨by kernel_rfl, rfl⟩) (by assumption) ?_
    try simp only [Act.put, List.getElem_toArray, List.getElem_cons_zero, List.getElem_cons_succ, List.setIfInBounds_toArray, List.set_cons_zero, List.set_cons_succ]
    refine wpAnyH_take (i := 7) (v := undef) rfl (by kernel_rfl) (by kernel_rfl) (by kernel_rfl) (fun _ _ _ h => h) (Or.inr ⟨by kernel_rfl, rfl⟩) (by assumption) ?_
    try simp only [Act.put, List.getElem_toArray, List.getElem_cons_zero, List.getElem_cons_succ, List.setIfInBounds_toArray, List.set_cons_zero, List.set_cons_succ]
    refine wpAnyH_take (i := 8) (v := undef) rfl (by kernel_rfl) (by kernel_rfl) (by kernel_rfl) (fun _ _ _ h => h) (Or.inr ⟨by kernel_rfl, rfl⟩) (by assumption) ?_
    try simp only [Act.put, List.getElem_toArray, List.getElem_cons_zero, List.getElem_cons_succ, List.setIfInBounds_toArray, List.set_cons_zero, List.set_cons_succ]
    refine wpAnyH_take (i := 9) (v := .bool false) rfl (by kernel_rfl) (by kernel_rfl) (by kernel_rfl) (fun _ _ _ h => h) (Or.inl ⟨by kernel_rfl, by (intro x hSx; (try dsimp only at hSx); go_simp)⟩) (by assumption) ?_
    try simp only [Act.put, List.getElem_toArray, List.getElem_cons_zero, List.getElem_cons_succ, List.setIfInBounds_toArray, List.set_cons_zero, List.set_cons_succ]
    refine wpAnyH_take (i := 10) (v := .bool false) rfl (by kernel_rfl) (by kernel_rfl) (by kernel_rfl) (fun _ _ _ h => h) (Or.inl ⟨by kernel_rfl, by (intro x hSx; (try dsimp only at hSx); go_simp)⟩) (by assumption) ?_
    try simp only [Act.put, List.getElem_toArray, List.getElem_cons_zero, List.getElem_cons_succ, List.setIfInBounds_toArray, List.set_cons_zero, List.set_cons_succ]
    refine wpAnyH_done (by kernel_rfl) ?_ _
    clear hHeld hHeld2
    go_wp2_with fail
    go_ret
    exact ⟨by rw [HF.out, h1]; rfl, box_below D1.out⟩
  · go_enter Tryz.func145, Tryz.ntmps145
    go_wp2_with fail
    refine wp_region_held_drew (S := fun x => x.cell? ⟨w.heap.size, 0, none⟩ = some (.int .i64 c) ∧ x.cell? ⟨w.heap.size, 1, none⟩ = some (.int .i64 s) ∧ x.cell? ⟨w.heap.size, 2, none⟩ = some (.slice aa al ac) ∧ x.cell? ⟨w.heap.size, 3, none⟩ = some (.int .i64 o) ∧ x.cell? ⟨w.heap.size, 4, none⟩ = some (.int .i64 lo) ∧ x.cell? ⟨w.heap.size, 5, none⟩ = some (.slice da dl dc) ∧ x.cell? ⟨w.heap.size, 6, none⟩ = some (.slice sa sl sc) ∧ x.cell? ⟨w.heap.size, 7, none⟩ = some (.slice ha hl hc)) (by kernel_rfl) ?_ (fun hHeld => ?_)
    · exact KS.out _ (below_drewN (Below.refl _ _) 1)
    refine wpAnyH_take (i := 0) (v := .agg #[.int .i64 c, .int .i64 s, .slice aa al ac, .int .i64 o, .int .i64 lo, .slice da dl dc, .slice sa sl sc, .slice ha hl hc]) rfl (by kernel_rfl) (by kernel_rfl) (by kernel_rfl) (fun _ _ _ h => h) (Or.inl ⟨by kernel_rfl, by (intro x hSx; (try dsimp only at hSx); go_simp)⟩) (by assumption) ?_
    try simp only [Act.put, List.getElem_toArray, List.getElem_cons_zero, List.setIfInBounds_toArray, List.set_cons_zero, List.set_cons_succ]
    refine wpAnyH_take (i := 2) (v := .pointer (some ⟨w.heap.size, 4, none⟩)) rfl (by kernel_rfl) (by kernel_rfl) (by kernel_rfl) (fun _ _ _ h => h) (Or.inl ⟨by kernel_rfl, by (intro x hSx; (try dsimp only at hSx); go_simp)⟩) (by assumption) ?_
    try simp only [Act.put, List.getElem_toArray, List.getElem_cons_zero, List.getElem_cons_succ, List.setIfInBounds_toArray, List.set_cons_zero, List.set_cons_succ]
    refine wpAnyH_take (i := 3) (v := .int .i64 lo) rfl (by kernel_rfl) (by kernel_rfl) (by kernel_rfl) (fun _ _ _ h => h) (Or.inl ⟨by kernel_rfl, by (intro x hSx; (try dsimp only at hSx); go_simp)⟩) (by assumption) ?_
    try simp only [Act.put, List.getElem_toArray, List.getElem_cons_zero, List.getElem_cons_succ, List.setIfInBounds_toArray, List.set_cons_zero, List.set_cons_succ]
    refine wpAnyH_ready (rs := [1]) (by kernel_rfl) (by simp) ?_
    refine AllReadyH.cons rfl (fun K hK => ?_) AllReadyH.nil
    go_simp
    go_at_call 155
    refine (givenImpl _ _ _ _ _ _ _ _ _ _ _ _ _ _ _ _ _ hal).mono ?_
    rintro e w2 ⟨rfl, hw2⟩
    have D1 : Hid (Below (w.heap.size + 1) (w.alloc (.cells #[.int .i64 c, .int .i64 s, .slice aa al ac, .int .i64 o, .int .i64 lo, .slice da dl dc, .slice sa sl sc, .slice ha hl hc] 68)) w2) := by rw [hw2]; exact (below_drewN (Below.refl _ _) 1).alloc (by simp) _
    clear hw2
    go_wp2_with fail
    refine hK.out _ _ (KS.out _ D1.out) (fun hHeld2 => ?_)
    clear hK K
    try simp only [Act.put, List.getElem_toArray, List.getElem_cons_zero, List.getElem_cons_succ, List.setIfInBounds_toArray, List.set_cons_zero, List.set_cons_succ]
    refine wpAnyH_take (i := 4) (v := .bool true) rfl (by kernel_rfl) (by kernel_rfl) (by kernel_rfl) (fun _ _ _ h => h) (Or.inl ⟨by kernel_rfl, by (intro x hSx; (try dsimp only at hSx); go_simp)⟩) (by assumption) ?_
    try simp only [Act.put, List.getElem_toArray, List.getElem_cons_zero, List.getElem_cons_succ, List.setIfInBounds_toArray, List.set_cons_zero, List.set_cons_succ]
    refine wpAnyH_take (i := 5) (v := .bool true) rfl (by kernel_rfl) (by kernel_rfl) (by kernel_rfl) (fun _ _ _ h => h) (Or.inl ⟨by kernel_rfl, by (intro x hSx; (try dsimp only at hSx); go_simp)⟩) (by assumption) ?_
    try simp only [Act.put, List.getElem_toArray, List.getElem_cons_zero, List.getElem_cons_succ, List.setIfInBounds_toArray, List.set_cons_zero, List.set_cons_succ]
    refine wpAnyH_take (i := 6) (v := .pointer (some ⟨w.heap.size, 4, none⟩)) rfl (by kernel_rfl) (by kernel_rfl) (by kernel_rfl) (fun _ _ _ h => h) (Or.inl ⟨by kernel_rfl, by (intro x hSx; (try dsimp only at hSx); go_simp)⟩) (by assumption) ?_
    try simp only [Act.put, List.getElem_toArray, List.getElem_cons_zero, List.getElem_cons_succ, List.setIfInBounds_toArray, List.set_cons_zero, List.set_cons_succ]
    refine wpAnyH_take (i := 7) (v := .int .i64 lo) rfl (by kernel_rfl) (by kernel_rfl) (by kernel_rfl) (fun _ _ _ h => h) (Or.inl ⟨by kernel_rfl, by (intro x hSx; (try dsimp only at hSx); go_simp)⟩) (by assumption) ?_
    try simp only [Act.put, List.getElem_toArray, List.getElem_cons_zero, List.getElem_cons_succ, List.setIfInBounds_toArray, List.set_cons_zero, List.set_cons_succ]
    refine wpAnyH_take (i := 8) (v := .bool (decide (lo ≤ 3))) rfl (by kernel_rfl) (by kernel_rfl) (by kernel_rfl) (fun _ _ _ h => h) (Or.inl ⟨by kernel_rfl, by (intro x hSx; (try dsimp only at hSx); go_simp)⟩) (by assumption) ?_
    try simp only [Act.put, List.getElem_toArray, List.getElem_cons_zero, List.getElem_cons_succ, List.setIfInBounds_toArray, List.set_cons_zero, List.set_cons_succ]
    refine wpAnyH_take (i := 9) (v := .bool (decide (lo ≤ 3))) rfl (by kernel_rfl) (by kernel_rfl) (by kernel_rfl) (fun _ _ _ h => h) (Or.inl ⟨by kernel_rfl, by (intro x hSx; (try dsimp only at hSx); go_simp)⟩) (by assumption) ?_
    try simp only [Act.put, List.getElem_toArray, List.getElem_cons_zero, List.getElem_cons_succ, List.setIfInBounds_toArray, List.set_cons_zero, List.set_cons_succ]
    refine wpAnyH_take (i := 10) (v := .bool (decide (lo ≤ 3))) rfl (by kernel_rfl) (by kernel_rfl) (by kernel_rfl) (fun _ _ _ h => h) (Or.inl ⟨by kernel_rfl, by (intro x hSx; (try dsimp only at hSx); go_simp)⟩) (by assumption) ?_
    try simp only [Act.put, List.getElem_toArray, List.getElem_cons_zero, List.getElem_cons_succ, List.setIfInBounds_toArray, List.set_cons_zero, List.set_cons_succ]
    refine wpAnyH_done (by kernel_rfl) ?_ _
    clear hHeld hHeld2
    go_wp2_with fail
    go_ret
    exact ⟨by rw [HF.out, h1]; rfl, box_below D1.out⟩

end Go.Proofs.YthdlccadcadopaaGreat
