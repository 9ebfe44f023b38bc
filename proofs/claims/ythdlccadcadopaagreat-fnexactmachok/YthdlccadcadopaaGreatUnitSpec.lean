/-
  Whether a unit is ok: what is said of it, and that the specification says so, in whatever memory; it writes nothing that was there.
-/
import Derived.Test.YthdlccadcadopaaGreatApaSpec
import Derived.Deep.RegionHeld3
namespace Go.Proofs.YthdlccadcadopaaGreat
open Go.ChangeShapes Go.WideShapes Go.ChangeAt Go.RowKit

def fstU (m : Me) : Bool := ((m.1 == -1) && decide (m.2.2.1.length = 0)) && (m.2.2.2.1 == 1)
def unitB (L : List Cl) (M : List Me) : Bool :=
  (((clsOk L && inI M.length 1 4) && fstU (me M 0)) && (List.range M.length).all (fun i => methB L M (me M i))) && apart L M
theorem meth_class {L : List Cl} {M : List Me} {m : Me} (h : methB L M m = true) : m.1 < L.length := by
  unfold methB hdB inI at h
  simp only [Bool.and_eq_true, decide_eq_true_eq] at h
  omega

set_option maxRecDepth 100000 in
set_option maxHeartbeats 8000000 in
theorem unitSpec (ca : Option Addr) (cn cc : Nat) (ma : Option Addr) (mn mc : Nat) (L : List Cl) (M : List Me) (w : World) {D E G : Nat → Prop} (h : ClsAt D E w ca cn L) (hM : SlAt meR G w ma mn M) :
    Calls Tryz.prog 20 #[.agg #[.slice ca cn cc, .slice ma mn mc]] w fun e w' => e = .returned (.bool (unitB L M)) ∧ Below w.heap.size w w' := by
  have H : Hid (ClsAt D E w ca cn L) := h
  have HS : Hid (L.length = cn) := h.size
  have HM : Hid (SlAt meR G w ma mn M) := hM
  have MS : Hid (M.length = mn) := hM.size
  have hmr := hM.room
  have HF : Hid (unitB L M = ((((clsOk L && inI mn 1 4) && fstU (me M 0)) && (List.range mn).all (fun i => methB L M (me M i))) && apart L M)) := by show _ = _; rw [unitB, hM.size]
  have KC : Hid (∀ x : World, Below (w.heap.size + 1) (w.alloc (.cells #[.slice ca cn cc, .slice ma mn mc] 38)) x → x.cell? ⟨w.heap.size, 0, none⟩ = some (.slice ca cn cc) ∧ x.cell? ⟨w.heap.size, 1, none⟩ = some (.slice ma mn mc)) := fun x hb => ⟨box_cell hb 0 _ rfl, box_cell hb 1 _ rfl⟩
  have B0 : Hid (Below w.heap.size w (w.alloc (.cells #[.slice ca cn cc, .slice ma mn mc] 38))) := (Below.refl _ _).alloc (Nat.le_refl _) _
  obtain ⟨mb, mo, hmb⟩ := meBlock hM
  clear h hM
  go_enter Tryz.func20, Tryz.ntmps20
  go_wp2_with fail
  refine (okSpec _ _ _ L _ (H.out.later B0.out)).mono ?_
  rintro e w1 ⟨rfl, hb1⟩
  have B1 : Hid (Below (w.heap.size + 1) (w.alloc (.cells #[.slice ca cn cc, .slice ma mn mc] 38)) w1) := by show Below _ _ _; simpa using hb1
  clear hb1
  obtain ⟨p0, p1⟩ := KC.out w1 B1.out
  cases g1 : clsOk L
  · go_wp2_with fail
    go_ret
    exact ⟨by rw [HF.out, g1]; rfl, box_below B1.out⟩
  have OK : Hid (clsOk L = true) := g1
  go_wp2_with fail
  cases g2 : inI (mn : Int) 1 4
  · refine (inSpec' _ _ _ _ g2 _).mono ?_
    rintro e w' ⟨rfl, rfl⟩
    go_wp2_with fail
    go_ret
    exact ⟨by rw [HF.out, g1, g2]; rfl, box_below B1.out⟩
  refine (inSpec' _ _ _ _ g2 _).mono ?_
  rintro e w' ⟨rfl, rfl⟩
  have hm1 : 1 ≤ mn := by unfold inI at g2; simp at g2; omega
  have hm4 : mn ≤ 4 := by unfold inI at g2; simp at g2; omega
  obtain ⟨rfl, hmb'⟩ := hmb (by omega)
  clear hmb
  obtain ⟨xc, xs, xargs, xo, xlo, xX, xY, xZ, xaa, xal, xac, xda, xdl, xdc, xsa, xsl, xsc, xha, xhl, xhc, MX, x0, _, x2, x3, _⟩ := meAt HM.out 0 (by omega)
  have HE : Hid (fstU (me M 0) = (((xc == -1) && decide (xal = 0)) && (xo == 1))) := by show _ = _; rw [MX.is, fstU]; simp only; rw [MX.args.size]
  have xr := MX.args.room
  clear MX
  replace x0 := later1 B1.out x0
  replace x2 := later1 B1.out x2
  replace x3 := later1 B1.out x3
  simp only [Nat.zero_mul, Nat.add_zero] at x0 x2 x3
  have hmI : (0 : Int) < (mn : Int) := by omega
  have hmn' : 0 < mn := by omega
  by_cases g3 : xc = -1
  case neg =>
    have e3 : (xc != -1) = true := by simp [g3]
    have e3' : (xc == -1) = false := by simp [g3]
    go_wp2_with fail
    go_ret
    exact ⟨by rw [HF.out, g1, g2, HE.out, e3']; rfl, box_below B1.out⟩
  subst g3
  have e3 : ((-1 : Int) != -1) = false := by decide
  by_cases g4 : xal = 0
  case neg =>
    have e4 : decide ((0 : Int) < (xal : Int)) = true := by simp; omega
    go_wp2_with fail
    go_ret
    exact ⟨by rw [HF.out, g1, g2, HE.out, decide_eq_false g4]; rfl, box_below B1.out⟩
  subst g4
  by_cases g5 : xo = 1
  case neg =>
    have e5 : (xo != 1) = true := by simp [g5]
    have e5' : (xo == 1) = false := by simp [g5]
    go_wp2_with fail
    go_ret
    exact ⟨by rw [HF.out, g1, g2, HE.out, e5']; simp, box_below B1.out⟩
  subst g5
  have e5 : ((1 : Int) != 1) = false := by decide
  have HG : Hid (unitB L M = ((List.range mn).all (fun i => methB L M (me M i)) && apart L M)) := by show _ = _; rw [HF.out, g1, g2, HE.out]; rfl
  clear HF HE
  go_wp2_with fail
  clear p0 p1 x0 x2 x3
  go_loopw [3] (fun t wr => ∃ k : Nat, k ≤ mn ∧ t = .int .i64 k ∧ (List.range k).all (fun i => methB L M (me M i)) = true ∧ Below (w.heap.size + 1) (w.alloc (.cells #[.slice ca cn cc, .slice (some ⟨mb, mo, none⟩) mn mc] 38)) wr) (fun t _ => mn - (intOf t).toNat)
  case atStart => exact ⟨0, Nat.zero_le _, rfl, rfl, B1.out⟩
  case round =>
    clear B1
    obtain ⟨k, hk, rfl, hu, hb⟩ := hrel
    have HU : Hid ((List.range k).all (fun i => methB L M (me M i)) = true) := hu
    have HB : Hid (Below (w.heap.size + 1) (w.alloc (.cells #[.slice ca cn cc, .slice (some ⟨mb, mo, none⟩) mn mc] 38)) wr) := hb
    clear hu hb
    obtain ⟨p0, p1⟩ := KC.out wr HB.out
    by_cases hlt : k < mn
    · obtain ⟨xc, xs, xargs, xo, xlo, xX, xY, xZ, xaa, xal, xac, xda, xdl, xdc, xsa, xsl, xsc, xha, xhl, xhc, MX, x0, x1, x2, x3, x4, x5, x6, x7⟩ := meAt HM.out k hlt
      have HX : Hid (MeAt G w (me M k) xc xs xargs xo xlo xX xY xZ xaa xal xda xdl xsa xsl xha xhl) := MX
      have HE : Hid (methB L M (me M k) = methB L M (xc, xs, xargs, xo, xlo, xX, xY, xZ)) := by show _ = _; rw [MX.is]
      have KS : Hid (∀ x : World, Below (w.heap.size + 1) (w.alloc (.cells #[.slice ca cn cc, .slice (some ⟨mb, mo, none⟩) mn mc] 38)) x → x.cell? ⟨w.heap.size, 0, none⟩ = some (.slice ca cn cc) ∧ x.cell? ⟨w.heap.size, 1, none⟩ = some (.slice (some ⟨mb, mo, none⟩) mn mc) ∧ x.cell? ⟨mb, mo + k * 8, none⟩ = some (.int .i64 xc) ∧ x.cell? ⟨mb, mo + k * 8 + 1, none⟩ = some (.int .i64 xs) ∧ x.cell? ⟨mb, mo + k * 8 + 2, none⟩ = some (.slice xaa xal xac) ∧ x.cell? ⟨mb, mo + k * 8 + 3, none⟩ = some (.int .i64 xo) ∧ x.cell? ⟨mb, mo + k * 8 + 4, none⟩ = some (.int .i64 xlo) ∧ x.cell? ⟨mb, mo + k * 8 + 5, none⟩ = some (.slice xda xdl xdc) ∧ x.cell? ⟨mb, mo + k * 8 + 6, none⟩ = some (.slice xsa xsl xsc) ∧ x.cell? ⟨mb, mo + k * 8 + 7, none⟩ = some (.slice xha xhl xhc)) := fun x hb => ⟨box_cell hb 0 _ rfl, box_cell hb 1 _ rfl, later1 hb x0, later1 hb x1, later1 hb x2, later1 hb x3, later1 hb x4, later1 hb x5, later1 hb x6, later1 hb x7⟩
      have hltI : (k : Int) < (mn : Int) := by omega
      clear MX x0 x1 x2 x3 x4 x5 x6 x7
      cases hI : methB L M (xc, xs, xargs, xo, xlo, xX, xY, xZ)
      · have HN : Hid ((List.range mn).all (fun i => methB L M (me M i)) = false) := range_false hlt (by rw [HE.out, hI])
        go_wp2_with fail
        refine wp_region_held_drew (S := fun x => x.cell? ⟨w.heap.size, 0, none⟩ = some (.slice ca cn cc) ∧ x.cell? ⟨w.heap.size, 1, none⟩ = some (.slice (some ⟨mb, mo, none⟩) mn mc) ∧ x.cell? ⟨mb, mo + k * 8, none⟩ = some (.int .i64 xc) ∧ x.cell? ⟨mb, mo + k * 8 + 1, none⟩ = some (.int .i64 xs) ∧ x.cell? ⟨mb, mo + k * 8 + 2, none⟩ = some (.slice xaa xal xac) ∧ x.cell? ⟨mb, mo + k * 8 + 3, none⟩ = some (.int .i64 xo) ∧ x.cell? ⟨mb, mo + k * 8 + 4, none⟩ = some (.int .i64 xlo) ∧ x.cell? ⟨mb, mo + k * 8 + 5, none⟩ = some (.slice xda xdl xdc) ∧ x.cell? ⟨mb, mo + k * 8 + 6, none⟩ = some (.slice xsa xsl xsc) ∧ x.cell? ⟨mb, mo + k * 8 + 7, none⟩ = some (.slice xha xhl xhc)) (by kernel_rfl) ?_ (fun hHeld => ?_)
        · exact KS.out _ (below_drewN HB.out 1)
        refine wpAnyH_take (i := 0) (v := .agg #[.slice ca cn cc, .slice (some ⟨mb, mo, none⟩) mn mc]) rfl (by kernel_rfl) (by kernel_rfl) (by kernel_rfl) (fun _ _ _ h => h) (Or.inl ⟨by kernel_rfl, by (intro x hSx; (try dsimp only at hSx); go_simp)⟩) (by assumption) ?_
        try simp only [Act.put, List.getElem_toArray, List.getElem_cons_zero, List.setIfInBounds_toArray, List.set_cons_zero, List.set_cons_succ]
        refine wpAnyH_take (i := 1) (v := .pointer (some ⟨w.heap.size, 1, none⟩)) rfl (by kernel_rfl) (by kernel_rfl) (by kernel_rfl) (fun _ _ _ h => h) (Or.inl ⟨by kernel_rfl, by (intro x hSx; (try dsimp only at hSx); go_simp)⟩) (by assumption) ?_
        try simp only [Act.put, List.getElem_toArray, List.getElem_cons_zero, List.getElem_cons_succ, List.setIfInBounds_toArray, List.set_cons_zero, List.set_cons_succ]
        refine wpAnyH_take (i := 2) (v := .slice (some ⟨mb, mo, none⟩) mn mc) rfl (by kernel_rfl) (by kernel_rfl) (by kernel_rfl) (fun _ _ _ h => h) (Or.inl ⟨by kernel_rfl, by (intro x hSx; (try dsimp only at hSx); go_simp)⟩) (by assumption) ?_
        try simp only [Act.put, List.getElem_toArray, List.getElem_cons_zero, List.getElem_cons_succ, List.setIfInBounds_toArray, List.set_cons_zero, List.set_cons_succ]
        refine wpAnyH_take (i := 3) (v := .int .i64 k) rfl (by kernel_rfl) (by kernel_rfl) (by kernel_rfl) (fun _ _ _ h => h) (Or.inl ⟨by kernel_rfl, by (intro x hSx; (try dsimp only at hSx); go_simp)⟩) (by assumption) ?_
        try simp only [Act.put, List.getElem_toArray, List.getElem_cons_zero, List.getElem_cons_succ, List.setIfInBounds_toArray, List.set_cons_zero, List.set_cons_succ]
        refine wpAnyH_take (i := 4) (v := .pointer (some ⟨mb, mo + k * 8, none⟩)) rfl (by kernel_rfl) (by kernel_rfl) (by kernel_rfl) (fun _ _ _ h => h) (Or.inl ⟨by kernel_rfl, by (intro x hSx; (try dsimp only at hSx); go_simp)⟩) (by assumption) ?_
        try simp only [Act.put, List.getElem_toArray, List.getElem_cons_zero, List.getElem_cons_succ, List.setIfInBounds_toArray, List.set_cons_zero, List.set_cons_succ]
        refine wpAnyH_take (i := 5) (v := .agg #[.int .i64 xc, .int .i64 xs, .slice xaa xal xac, .int .i64 xo, .int .i64 xlo, .slice xda xdl xdc, .slice xsa xsl xsc, .slice xha xhl xhc]) rfl (by kernel_rfl) (by kernel_rfl) (by kernel_rfl) (fun _ _ _ h => h) (Or.inl ⟨by kernel_rfl, by (intro x hSx; (try dsimp only at hSx); go_simp)⟩) (by assumption) ?_
        try simp only [Act.put, List.getElem_toArray, List.getElem_cons_zero, List.getElem_cons_succ, List.setIfInBounds_toArray, List.set_cons_zero, List.set_cons_succ]
        refine wpAnyH_ready (rs := [6]) (by kernel_rfl) (by simp) ?_
        refine AllReadyH.cons rfl (fun K hK => ?_) AllReadyH.nil
        go_simp
        go_at_call 58
        refine (methSpec _ _ _ _ _ _ _ _ _ _ _ _ _ _ _ _ _ _ _ _ _ _ xargs xX xY xZ L M _ (H.out.later (box_below (below_drewN HB.out 1))) OK.out (HM.out.later (box_below (below_drewN HB.out 1))) (HX.out.args.later (box_below (below_drewN HB.out 1))) (HX.out.code.later (box_below (below_drewN HB.out 1))) (HX.out.shapes.later (box_below (below_drewN HB.out 1))) (HX.out.catches.later (box_below (below_drewN HB.out 1)))).mono ?_
        rintro e w2 ⟨rfl, hb2⟩
        rw [hI]
        have D1 : Hid (Below (w.heap.size + 1) (w.alloc (.cells #[.slice ca cn cc, .slice (some ⟨mb, mo, none⟩) mn mc] 38)) w2) := (below_drewN HB.out 1).trans (hb2.mono (by have := HB.out.size; simpa using this))
        clear hb2
        go_wp2_with fail
        refine hK.out _ _ (KS.out _ D1.out) (fun hHeld2 => ?_)
        clear hK K
        try simp only [Act.put, List.getElem_toArray, List.getElem_cons_zero, List.getElem_cons_succ, List.setIfInBounds_toArray, List.set_cons_zero, List.set_cons_succ]
        refine wpAnyH_take (i := 7) (v := .bool true) rfl (by kernel_rfl) (by kernel_rfl) (by kernel_rfl) (fun _ _ _ h => h) (Or.inl ⟨by kernel_rfl, by (intro x hSx; (try dsimp only at hSx); go_simp)⟩) (by assumption) ?_
        try simp only [Act.put, List.getElem_toArray, List.getElem_cons_zero, List.getElem_cons_succ, List.setIfInBounds_toArray, List.set_cons_zero, List.set_cons_succ]
        refine wpAnyH_done (by kernel_rfl) ?_ _
        clear hHeld hHeld2
        go_wp2_with fail
        go_ret
        exact ⟨by rw [HG.out, HN.out]; rfl, box_below D1.out⟩
      · go_wp2_with fail
        refine wp_region_held_drew (S := fun x => x.cell? ⟨w.heap.size, 0, none⟩ = some (.slice ca cn cc) ∧ x.cell? ⟨w.heap.size, 1, none⟩ = some (.slice (some ⟨mb, mo, none⟩) mn mc) ∧ x.cell? ⟨mb, mo + k * 8, none⟩ = some (.int .i64 xc) ∧ x.cell? ⟨mb, mo + k * 8 + 1, none⟩ = some (.int .i64 xs) ∧ x.cell? ⟨mb, mo + k * 8 + 2, none⟩ = some (.slice xaa xal xac) ∧ x.cell? ⟨mb, mo + k * 8 + 3, none⟩ = some (.int .i64 xo) ∧ x.cell? ⟨mb, mo + k * 8 + 4, none⟩ = some (.int .i64 xlo) ∧ x.cell? ⟨mb, mo + k * 8 + 5, none⟩ = some (.slice xda xdl xdc) ∧ x.cell? ⟨mb, mo + k * 8 + 6, none⟩ = some (.slice xsa xsl xsc) ∧ x.cell? ⟨mb, mo + k * 8 + 7, none⟩ = some (.slice xha xhl xhc)) (by kernel_rfl) ?_ (fun hHeld => ?_)
        · exact KS.out _ (below_drewN HB.out 1)
        refine wpAnyH_take (i := 0) (v := .agg #[.slice ca cn cc, .slice (some ⟨mb, mo, none⟩) mn mc]) rfl (by kernel_rfl) (by kernel_rfl) (by kernel_rfl) (fun _ _ _ h => h) (Or.inl ⟨by kernel_rfl, by (intro x hSx; (try dsimp only at hSx); go_simp)⟩) (by assumption) ?_
        try simp only [Act.put, List.getElem_toArray, List.getElem_cons_zero, List.setIfInBounds_toArray, List.set_cons_zero, List.set_cons_succ]
        refine wpAnyH_take (i := 1) (v := .pointer (some ⟨w.heap.size, 1, none⟩)) rfl (by kernel_rfl) (by kernel_rfl) (by kernel_rfl) (fun _ _ _ h => h) (Or.inl ⟨by kernel_rfl, by (intro x hSx; (try dsimp only at hSx); go_simp)⟩) (by assumption) ?_
        try simp only [Act.put, List.getElem_toArray, List.getElem_cons_zero, List.getElem_cons_succ, List.setIfInBounds_toArray, List.set_cons_zero, List.set_cons_succ]
        refine wpAnyH_take (i := 2) (v := .slice (some ⟨mb, mo, none⟩) mn mc) rfl (by kernel_rfl) (by kernel_rfl) (by kernel_rfl) (fun _ _ _ h => h) (Or.inl ⟨by kernel_rfl, by (intro x hSx; (try dsimp only at hSx); go_simp)⟩) (by assumption) ?_
        try simp only [Act.put, List.getElem_toArray, List.getElem_cons_zero, List.getElem_cons_succ, List.setIfInBounds_toArray, List.set_cons_zero, List.set_cons_succ]
        refine wpAnyH_take (i := 3) (v := .int .i64 k) rfl (by kernel_rfl) (by kernel_rfl) (by kernel_rfl) (fun _ _ _ h => h) (Or.inl ⟨by kernel_rfl, by (intro x hSx; (try dsimp only at hSx); go_simp)⟩) (by assumption) ?_
        try simp only [Act.put, List.getElem_toArray, List.getElem_cons_zero, List.getElem_cons_succ, List.setIfInBounds_toArray, List.set_cons_zero, List.set_cons_succ]
        refine wpAnyH_take (i := 4) (v := .pointer (some ⟨mb, mo + k * 8, none⟩)) rfl (by kernel_rfl) (by kernel_rfl) (by kernel_rfl) (fun _ _ _ h => h) (Or.inl ⟨by kernel_rfl, by (intro x hSx; (try dsimp only at hSx); go_simp)⟩) (by assumption) ?_
        try simp only [Act.put, List.getElem_toArray, List.getElem_cons_zero, List.getElem_cons_succ, List.setIfInBounds_toArray, List.set_cons_zero, List.set_cons_succ]
        refine wpAnyH_take (i := 5) (v := .agg #[.int .i64 xc, .int .i64 xs, .slice xaa xal xac, .int .i64 xo, .int .i64 xlo, .slice xda xdl xdc, .slice xsa xsl xsc, .slice xha xhl xhc]) rfl (by kernel_rfl) (by kernel_rfl) (by kernel_rfl) (fun _ _ _ h => h) (Or.inl ⟨by kernel_rfl, by (intro x hSx; (try dsimp only at hSx); go_simp)⟩) (by assumption) ?_
        try simp only [Act.put, List.getElem_toArray, List.getElem_cons_zero, List.getElem_cons_succ, List.setIfInBounds_toArray, List.set_cons_zero, List.set_cons_succ]
        refine wpAnyH_ready (rs := [6]) (by kernel_rfl) (by simp) ?_
        refine AllReadyH.cons rfl (fun K hK => ?_) AllReadyH.nil
        go_simp
        go_at_call 58
        refine (methSpec _ _ _ _ _ _ _ _ _ _ _ _ _ _ _ _ _ _ _ _ _ _ xargs xX xY xZ L M _ (H.out.later (box_below (below_drewN HB.out 1))) OK.out (HM.out.later (box_below (below_drewN HB.out 1))) (HX.out.args.later (box_below (below_drewN HB.out 1))) (HX.out.code.later (box_below (below_drewN HB.out 1))) (HX.out.shapes.later (box_below (below_drewN HB.out 1))) (HX.out.catches.later (box_below (below_drewN HB.out 1)))).mono ?_
        rintro e w2 ⟨rfl, hb2⟩
        rw [hI]
        have D1 : Hid (Below (w.heap.size + 1) (w.alloc (.cells #[.slice ca cn cc, .slice (some ⟨mb, mo, none⟩) mn mc] 38)) w2) := (below_drewN HB.out 1).trans (hb2.mono (by have := HB.out.size; simpa using this))
        clear hb2
        go_wp2_with fail
        refine hK.out _ _ (KS.out _ D1.out) (fun hHeld2 => ?_)
        clear hK K
        try simp only [Act.put, List.getElem_toArray, List.getElem_cons_zero, List.getElem_cons_succ, List.setIfInBounds_toArray, List.set_cons_zero, List.set_cons_succ]
        refine wpAnyH_take (i := 7) (v := .bool false) rfl (by kernel_rfl) (by kernel_rfl) (by kernel_rfl) (fun _ _ _ h => h) (Or.inl ⟨by kernel_rfl, by (intro x hSx; (try dsimp only at hSx); go_simp)⟩) (by assumption) ?_
        try simp only [Act.put, List.getElem_toArray, List.getElem_cons_zero, List.getElem_cons_succ, List.setIfInBounds_toArray, List.set_cons_zero, List.set_cons_succ]
        refine wpAnyH_done (by kernel_rfl) ?_ _
        clear hHeld hHeld2
        go_wp2_with fail
        exact ⟨⟨k + 1, by omega, by go_num, by rw [range_more, HU.out, HE.out, hI]; rfl, D1.out⟩, by simp [intOf]; omega⟩
    · have ek : k = mn := by omega
      subst ek
      have HJ : Hid (unitB L M = apart L M) := by show _ = _; rw [HG.out, HU.out]; rfl
      have HC : Hid (∀ i, i < k → (me M i).1 < cn) := fun i hi => by
        have := HU.out
        rw [List.all_eq_true] at this
        have := meth_class (this i (List.mem_range.2 hi))
        rw [HS.out] at this
        exact this
      go_wp2_with fail
      refine (apartSpec _ _ _ _ _ _ L M _ (H.out.later (box_below HB.out)) OK.out (HM.out.later (box_below HB.out)) (by omega) HC.out).mono ?_
      rintro e w2 ⟨rfl, hb2⟩
      have B2 : Hid (Below w.heap.size w w2) := (box_below HB.out).trans (hb2.mono (by have := (box_below HB.out).size; omega))
      clear hb2
      go_wp2_with fail
      go_ret
      exact ⟨by rw [HJ.out]; rfl, B2.out⟩

end Go.Proofs.YthdlccadcadopaaGreat
