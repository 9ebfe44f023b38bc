/-
  Whether a unit is ok: that the program says so, in whatever memory; it writes nothing that was there.
-/
import Derived.Test.YthdlccadcadopaaGreatUniG
import Derived.Test.YthdlccadcadopaaGreatUnitSpec
namespace Go.Proofs.YthdlccadcadopaaGreat
open Go.ChangeShapes Go.WideShapes Go.ChangeAt Go.RowKit

theorem up_refl' (L : List Cl) (a : Nat) : up L a a = true := by rw [up_stop L a a (by omega)]; simp
/-- Two methods may stand beside each other just if neither parts from the other. -/
theorem ag_ap {L : List Cl} {x y : Me} (hx : x.1 = -1 ∨ 0 ≤ x.1 ∧ x.1 < L.length) (hy : y.1 = -1 ∨ 0 ≤ y.1 ∧ y.1 < L.length) : agM L x y = (!(apP L x y) && !(apP L y x)) := by
  obtain ⟨c, s, args, o, lo, X, Y, Z⟩ := x
  obtain ⟨d, t, brgs, p, mo, X', Y', Z'⟩ := y
  simp only at hx hy
  unfold agM agK apP samB
  simp only
  by_cases h1 : c = -1
  · subst h1; simp
  by_cases h2 : d = -1
  · subst h2; simp
  have e1 : (c == -1) = false := by simp [h1]
  have e2 : (d == -1) = false := by simp [h2]
  have e3 : decide (0 ≤ c) = true := by simp; omega
  have e4 : decide (0 ≤ d) = true := by simp; omega
  rw [e1, e2, e3, e4]
  by_cases h3 : s = t
  case neg =>
    have e5 : (s == t) = false := by simp [h3]
    have e6 : (t == s) = false := by simp; exact fun e => h3 e.symm
    have e7 : (s != t) = true := by simp [h3]
    rw [e5, e6, e7]; rfl
  subst h3
  have e5 : (s == s) = true := by simp
  have e7 : (s != s) = false := by simp
  rw [e5, e7]
  by_cases h4 : c = d
  · subst h4
    have e8 : (c == c) = true := by simp
    rw [e8, up_refl']; rfl
  have e8 : (c == d) = false := by simp [h4]
  have e9 : (d == c) = false := by simp; exact fun e => h4 e.symm
  rw [e8, e9]
  have e10 : decide (p = o) = decide (o = p) := by rw [decide_eq_decide]; exact eq_comm
  have e11 : decide (brgs = args) = decide (args = brgs) := by rw [decide_eq_decide]; exact eq_comm
  have e12 : (o == p) = decide (o = p) := rfl
  rw [e10, e11, e12]
  cases up L c.toNat d.toNat <;> cases up L d.toNat c.toNat <;> cases decide (o = p) <;> cases decide (args = brgs) <;> rfl
theorem range_true {p : Nat → Bool} {n : Nat} : (List.range n).all p = true ↔ ∀ i, i < n → p i = true := by
  rw [List.all_eq_true]
  exact ⟨fun h i hi => h i (List.mem_range.2 hi), fun h i hi => h i (List.mem_range.1 hi)⟩
theorem mts_units {L : List Cl} {M : List Me} (ok : clsOk L = true) : (List.range M.length).all (mtK L M) = ((List.range M.length).all (fun i => methB L M (me M i)) && apart L M) := by
  rw [Bool.eq_iff_iff, Bool.and_eq_true, range_true, range_true]
  unfold apart
  rw [range_true]
  have hm : ∀ i, methK L M (me M i) = methB L M (me M i) := fun i => meth_K ok M (me M i)
  constructor
  · intro h
    have h1 : ∀ i, i < M.length → methB L M (me M i) = true := fun i hi => by
      have := h i hi
      rw [mtK, Bool.and_eq_true, hm] at this
      exact this.1
    have hc : ∀ i, i < M.length → (me M i).1 = -1 ∨ 0 ≤ (me M i).1 ∧ (me M i).1 < L.length := fun i hi => methK_class (by rw [hm]; exact h1 i hi)
    have h2 : ∀ i k, k < i → i < M.length → apP L (me M k) (me M i) = false ∧ apP L (me M i) (me M k) = false := fun i k hk hi => by
      have := h i hi
      rw [mtK, Bool.and_eq_true, range_true] at this
      have := this.2 k hk
      rw [ag_ap (hc k (by omega)) (hc i hi)] at this
      simpa using this
    refine ⟨h1, fun i hi => range_true.2 fun k hk => ?_⟩
    unfold apB
    by_cases e : i = k
    · subst e; simp
    · rcases Nat.lt_or_gt_of_ne e with e' | e'
      · rw [(h2 k i e' hk).1]; simp
      · rw [(h2 i k e' hi).2]; simp
  · rintro ⟨h1, h2⟩ i hi
    have hc : ∀ i, i < M.length → (me M i).1 = -1 ∨ 0 ≤ (me M i).1 ∧ (me M i).1 < L.length := fun i hi => methK_class (by rw [hm]; exact h1 i hi)
    have h3 : ∀ i k, i < M.length → k < M.length → i ≠ k → apP L (me M i) (me M k) = false := fun i k hi hk e => by
      have := range_true.1 (h2 i hi) k hk
      unfold apB at this
      simpa [e] using this
    rw [mtK, Bool.and_eq_true, hm, range_true]
    refine ⟨h1 i hi, fun k hk => ?_⟩
    rw [ag_ap (hc k (by omega)) (hc i hi), h3 k i (by omega) hi (by omega), h3 i k hi (by omega) (by omega)]
    rfl

set_option maxRecDepth 100000 in
set_option maxHeartbeats 8000000 in
theorem unitImpl (ca : Option Addr) (cn cc : Nat) (ma : Option Addr) (mn mc : Nat) (L : List Cl) (M : List Me) (w : World) {D E G : Nat → Prop} (h : ClsAt D E w ca cn L) (hM : SlAt meR G w ma mn M) (hmc : mn ≤ mc) :
    Calls Tryz.prog 25 #[.agg #[.slice ca cn cc, .slice ma mn mc]] w fun e w' => e = .returned (.bool (unitB L M)) ∧ Below w.heap.size w w' := by
  have H : Hid (ClsAt D E w ca cn L) := h
  have HS : Hid (L.length = cn) := h.size
  have HM : Hid (SlAt meR G w ma mn M) := hM
  have MS : Hid (M.length = mn) := hM.size
  have hmr := hM.room
  have HF : Hid (unitB L M = ((((clsOk L && inI mn 1 4) && fstU (me M 0)) && (List.range mn).all (fun i => methB L M (me M i))) && apart L M)) := by show _ = _; rw [unitB, hM.size]
  have KC : Hid (∀ x : World, Below (w.heap.size + 1) (w.alloc (.cells #[.slice ca cn cc, .slice ma mn mc] 38)) x → x.cell? ⟨w.heap.size, 0, none⟩ = some (.slice ca cn cc) ∧ x.cell? ⟨w.heap.size, 1, none⟩ = some (.slice ma mn mc)) := fun x hb => ⟨box_cell hb 0 _ rfl, box_cell hb 1 _ rfl⟩
  have B0 : Hid (Below w.heap.size w (w.alloc (.cells #[.slice ca cn cc, .slice ma mn mc] 38))) := (Below.refl _ _).alloc (Nat.le_refl _) _
  obtain ⟨mb, mo, hmb⟩ := meBlock hM
  clear h hM
  go_enter Tryz.func25, Tryz.ntmps25
  go_wp2_with fail
  refine (okImpl _ _ _ L _ (H.out.later B0.out)).mono ?_
  rintro e w1 ⟨rfl, hb1⟩
  have B1 : Hid (Below (w.heap.size + 1) (w.alloc (.cells #[.slice ca cn cc, .slice ma mn mc] 38)) w1) := by show Below _ _ _; simpa using hb1
  clear hb1
  obtain ⟨p0, p1⟩ := KC.out w1 B1.out
  cases g1 : clsOk L
  · go_wp2_with fail
    go_ret
    exact ⟨by rw [HF.out, g1]; rfl, box_below B1.out⟩
  have OK : Hid (clsOk L = true) := g1
  by_cases g2 : mn < 1
  · have e2 : inI (mn : Int) 1 4 = false := by unfold inI; simp; omega
    go_wp2_with fail
    go_ret
    exact ⟨by rw [HF.out, g1, e2]; rfl, box_below B1.out⟩
  by_cases g3 : 4 < mn
  · have e2 : inI (mn : Int) 1 4 = false := by unfold inI; simp; omega
    go_wp2_with fail
    go_ret
    exact ⟨by rw [HF.out, g1, e2]; rfl, box_below B1.out⟩
  have e2 : inI (mn : Int) 1 4 = true := by unfold inI; simp; omega
  obtain ⟨rfl, hmb'⟩ := hmb (by omega)
  clear hmb
  have KS : Hid (∀ x : World, Below (w.heap.size + 1) (w.alloc (.cells #[.slice ca cn cc, .slice (some ⟨mb, mo, none⟩) mn mc] 38)) x → x.cell? ⟨w.heap.size, 0, none⟩ = some (.slice ca cn cc) ∧ x.cell? ⟨w.heap.size, 1, none⟩ = some (.slice (some ⟨mb, mo, none⟩) mn mc)) := KC
  go_wp2_with fail
  refine wp_region_held_drew (S := fun x => x.cell? ⟨w.heap.size, 0, none⟩ = some (.slice ca cn cc) ∧ x.cell? ⟨w.heap.size, 1, none⟩ = some (.slice (some ⟨mb, mo, none⟩) mn mc)) (by kernel_rfl) ?_ (fun hHeld => ?_)
  · exact KS.out _ (below_drewN B1.out 1)
  refine wpAnyH_take (i := 0) (v := .pointer (some ⟨w.heap.size, 0, none⟩)) rfl (by kernel_rfl) (by kernel_rfl) (by kernel_rfl) (fun _ _ _ h => h) (Or.inl ⟨by kernel_rfl, by (intro x hSx; (try dsimp only at hSx); go_simp)⟩) (by assumption) ?_
  try simp only [Act.put, List.getElem_toArray, List.getElem_cons_zero, List.setIfInBounds_toArray, List.set_cons_zero, List.set_cons_succ]
  refine wpAnyH_take (i := 1) (v := .slice ca cn cc) rfl (by kernel_rfl) (by kernel_rfl) (by kernel_rfl) (fun _ _ _ h => h) (Or.inl ⟨by kernel_rfl, by (intro x hSx; (try dsimp only at hSx); go_simp)⟩) (by assumption) ?_
  try simp only [Act.put, List.getElem_toArray, List.getElem_cons_zero, List.getElem_cons_succ, List.setIfInBounds_toArray, List.set_cons_zero, List.set_cons_succ]
  refine wpAnyH_take (i := 2) (v := .pointer (some ⟨w.heap.size, 1, none⟩)) rfl (by kernel_rfl) (by kernel_rfl) (by kernel_rfl) (fun _ _ _ h => h) (Or.inl ⟨by kernel_rfl, by (intro x hSx; (try dsimp only at hSx); go_simp)⟩) (by assumption) ?_
  try simp only [Act.put, List.getElem_toArray, List.getElem_cons_zero, List.getElem_cons_succ, List.setIfInBounds_toArray, List.set_cons_zero, List.set_cons_succ]
  refine wpAnyH_take (i := 3) (v := .slice (some ⟨mb, mo, none⟩) mn mc) rfl (by kernel_rfl) (by kernel_rfl) (by kernel_rfl) (fun _ _ _ h => h) (Or.inl ⟨by kernel_rfl, by (intro x hSx; (try dsimp only at hSx); go_simp)⟩) (by assumption) ?_
  try simp only [Act.put, List.getElem_toArray, List.getElem_cons_zero, List.getElem_cons_succ, List.setIfInBounds_toArray, List.set_cons_zero, List.set_cons_succ]
  refine wpAnyH_ready (rs := [4, 6]) (by kernel_rfl) (by simp) ?_
  refine AllReadyH.cons rfl (fun K hK => ?_) (AllReadyH.cons rfl (fun K hK => ?_) AllReadyH.nil)
  · go_simp
    go_at_call 64
    refine (wantsImpl _).mono ?_
    rintro e w2 ⟨rfl, hw2⟩
    have D2 : Hid (Below (w.heap.size + 1) (w.alloc (.cells #[.slice ca cn cc, .slice (some ⟨mb, mo, none⟩) mn mc] 38)) w2) := by rw [hw2]; exact (below_drewN B1.out 1).alloc (by have := B1.out.size; simpa using this) _
    have HW : Hid (w2.heap[w1.heap.size]? = some (.map (wE 24) 24)) := by rw [hw2]; exact (Go.MapKept.heap_alloc w1.drew (.map (wE 24) 24)).1
    have hz2 : w2.heap.size = w1.heap.size + 1 := by rw [hw2]; simp
    clear hw2
    go_wp2_with fail
    refine hK.out _ _ (KS.out _ D2.out) (fun hHeld2 => ?_)
    clear hK K
    try simp only [Act.put, List.getElem_toArray, List.getElem_cons_zero, List.getElem_cons_succ, List.setIfInBounds_toArray, List.set_cons_zero, List.set_cons_succ]
    refine wpAnyH_take (i := 5) (v := .agg #[.slice ca cn cc, .slice (some ⟨mb, mo, none⟩) mn mc, .map (some w1.heap.size)]) rfl (by kernel_rfl) (by kernel_rfl) (by kernel_rfl) (fun _ _ _ h => h) (Or.inl ⟨by kernel_rfl, by (intro x hSx; (try dsimp only at hSx); go_simp)⟩) (by assumption) ?_
    try simp only [Act.put, List.getElem_toArray, List.getElem_cons_zero, List.getElem_cons_succ, List.setIfInBounds_toArray, List.set_cons_zero, List.set_cons_succ]
    refine wpAnyH_ready (rs := [6]) (by kernel_rfl) (by simp) ?_
    refine AllReadyH.cons rfl (fun K hK => ?_) AllReadyH.nil
    go_simp
    refine hK.out _ _ (KS.out _ (D2.out.alloc (by have := D2.out.size; simpa using this) _)) (fun hHeld3 => ?_)
    clear hK K
    try simp only [Act.put, List.getElem_toArray, List.getElem_cons_zero, List.getElem_cons_succ, List.setIfInBounds_toArray, List.set_cons_zero, List.set_cons_succ]
    refine wpAnyH_ready (rs := [7]) (by kernel_rfl) (by simp) ?_
    refine AllReadyH.cons rfl (fun K hK => ?_) AllReadyH.nil
    go_simp
    refine hK.out _ _ (KS.out _ (D2.out.alloc (by have := D2.out.size; simpa using this) _)) (fun hHeld4 => ?_)
    clear hK K
    try simp only [Act.put, List.getElem_toArray, List.getElem_cons_zero, List.getElem_cons_succ, List.setIfInBounds_toArray, List.set_cons_zero, List.set_cons_succ]
    refine wpAnyH_done (by kernel_rfl) ?_ _
    clear hHeld hHeld2 hHeld3 hHeld4
    have B3 : Hid (Below (w.heap.size + 1) (w.alloc (.cells #[.slice ca cn cc, .slice (some ⟨mb, mo, none⟩) mn mc] 38)) (w2.alloc (.cells #[.slice ca cn cc, .slice (some ⟨mb, mo, none⟩) mn mc, .map (some w1.heap.size)] 116))) := D2.out.alloc (by have := D2.out.size; simpa using this) _
    have Q3 : Hid ((w2.alloc (.cells #[.slice ca cn cc, .slice (some ⟨mb, mo, none⟩) mn mc, .map (some w1.heap.size)] 116)).heap[w1.heap.size]? = some (.map (wE 24) 24)) := by show _ = _; rw [Below.heap_alloc _ _ _ (by omega)]; exact HW.out
    have q0 : (w2.alloc (.cells #[.slice ca cn cc, .slice (some ⟨mb, mo, none⟩) mn mc, .map (some w1.heap.size)] 116)).cell? ⟨w1.heap.size + 1, 0, none⟩ = some (.slice ca cn cc) := by rw [← hz2]; exact World.cell?_alloc_at _ _ _ _ rfl
    have q1 : (w2.alloc (.cells #[.slice ca cn cc, .slice (some ⟨mb, mo, none⟩) mn mc, .map (some w1.heap.size)] 116)).cell? ⟨w1.heap.size + 1, 1, none⟩ = some (.slice (some ⟨mb, mo, none⟩) mn mc) := by rw [← hz2]; exact World.cell?_alloc_at _ _ _ _ rfl
    have q2 : (w2.alloc (.cells #[.slice ca cn cc, .slice (some ⟨mb, mo, none⟩) mn mc, .map (some w1.heap.size)] 116)).cell? ⟨w1.heap.size + 1, 2, none⟩ = some (.map (some w1.heap.size)) := by rw [← hz2]; exact World.cell?_alloc_at _ _ _ _ rfl
    have hPb : w1.heap.size + 1 < (w2.alloc (.cells #[.slice ca cn cc, .slice (some ⟨mb, mo, none⟩) mn mc, .map (some w1.heap.size)] 116)).heap.size := by simp; omega
    obtain ⟨w3, hw3⟩ : ∃ x : World, x = (w2.alloc (.cells #[.slice ca cn cc, .slice (some ⟨mb, mo, none⟩) mn mc, .map (some w1.heap.size)] 116)) := ⟨_, rfl⟩
    rw [← hw3]
    rw [← hw3] at B3 Q3 q0 q1 q2 hPb
    clear hw3 p0 p1
    obtain ⟨xc, xs, xargs, xo, xlo, xX, xY, xZ, xaa, xal, xac, xda, xdl, xdc, xsa, xsl, xsc, xha, xhl, xhc, MX, x0, x1, x2, x3, x4, x5, x6, x7⟩ := meAt HM.out 0 (by omega)
    have HE : Hid (fstU (me M 0) = fstB xc xo xal) := by
      show _ = _
      rw [MX.is, fstU, fstB]; simp only; rw [MX.args.size]
      congr 2
      rw [Bool.eq_iff_iff]; simp
    have xr := MX.args.room
    clear MX
    replace x0 := later1 B3.out x0
    replace x1 := later1 B3.out x1
    replace x2 := later1 B3.out x2
    replace x3 := later1 B3.out x3
    replace x4 := later1 B3.out x4
    replace x5 := later1 B3.out x5
    replace x6 := later1 B3.out x6
    replace x7 := later1 B3.out x7
    simp only [Nat.zero_mul, Nat.add_zero] at x0 x1 x2 x3 x4 x5 x6 x7
    have X : Hid (_ ∧ _ ∧ _ ∧ _ ∧ _ ∧ _ ∧ _ ∧ _) := ⟨x0, x1, x2, x3, x4, x5, x6, x7⟩
    clear x0 x1 x2 x3 x4 x5 x6 x7
    go_wp2_with fail
    refine (firstImpl _ _ _ _ _ _ _ _ _ _ _ _ _ _ _ _ _ _ _ _ _ _ _ _ _ xr (by omega) hmr X.out.1 X.out.2.1 X.out.2.2.1 X.out.2.2.2.1 X.out.2.2.2.2.1 X.out.2.2.2.2.2.1 X.out.2.2.2.2.2.2.1 X.out.2.2.2.2.2.2.2).mono ?_
    rintro e w4 ⟨rfl, hb4⟩
    have B4 : Hid (Below (w.heap.size + 1) (w.alloc (.cells #[.slice ca cn cc, .slice (some ⟨mb, mo, none⟩) mn mc] 38)) w4) := B3.out.trans (hb4.mono (by have := B3.out.size; simpa using this))
    have Q4 : Hid (w4.heap[w1.heap.size]? = some (.map (wE 24) 24)) := by
      show _ = _
      rw [hb4.block _ (Array.getElem?_eq_some_iff.1 Q3.out).1]; exact Q3.out
    replace q0 := (hb4.cell (p := ⟨w1.heap.size + 1, 0, none⟩) hPb).trans q0
    replace q1 := (hb4.cell (p := ⟨w1.heap.size + 1, 1, none⟩) hPb).trans q1
    replace q2 := (hb4.cell (p := ⟨w1.heap.size + 1, 2, none⟩) hPb).trans q2
    clear hb4 hPb
    cases g4 : fstB xc xo xal
    · go_wp2_with fail
      go_ret
      exact ⟨by rw [HF.out, g1, e2, HE.out, g4]; rfl, box_below B4.out⟩
    have HG : Hid (unitB L M = (List.range mn).all (mtK L M)) := by
      show _ = _
      rw [HF.out, g1, e2, HE.out, g4, ← MS.out, mts_units OK.out]; rfl
    go_wp2_with fail
    refine (methodsImpl _ _ _ _ _ _ _ L M _ (H.out.later (box_below B4.out)) OK.out (HM.out.later (box_below B4.out)) hmc Q4.out).mono ?_
    rintro e w5 ⟨rfl, hb5⟩
    have B5 : Hid (Below w.heap.size w w5) := (box_below B4.out).trans (hb5.mono (box_below B4.out).size)
    clear hb5
    go_wp2_with fail
    go_ret
    exact ⟨by rw [HG.out]; rfl, B5.out⟩
  · go_simp
    refine hK.out _ _ (KS.out _ ((below_drewN B1.out 1).alloc (by have := B1.out.size; simpa using this) _)) (fun hHeld2 => ?_)
    clear hK K
    try simp only [Act.put, List.getElem_toArray, List.getElem_cons_zero, List.getElem_cons_succ, List.setIfInBounds_toArray, List.set_cons_zero, List.set_cons_succ]
    refine wpAnyH_ready (rs := [4]) (by kernel_rfl) (by simp) ?_
    refine AllReadyH.cons rfl (fun K hK => ?_) AllReadyH.nil
    go_simp
    go_at_call 64
    refine (wantsImpl _).mono ?_
    rintro e w2 ⟨rfl, hw2⟩
    have D2 : Hid (Below (w.heap.size + 1) (w.alloc (.cells #[.slice ca cn cc, .slice (some ⟨mb, mo, none⟩) mn mc] 38)) w2) := by rw [hw2]; exact ((below_drewN B1.out 1).alloc (by have := B1.out.size; simpa using this) _).alloc (by have := B1.out.size; simp at this ⊢; omega) _
    have HW : Hid (w2.heap[w1.heap.size + 1]? = some (.map (wE 24) 24)) := by show _ = _; rw [hw2]; have := (Go.MapKept.heap_alloc (w1.alloc (.cells #[.slice none 0 0, .slice none 0 0, .map none] 116)).drew (.map (wE 24) 24)).1; rw [show (w1.alloc (.cells #[.slice none 0 0, .slice none 0 0, .map none] 116)).drew.heap.size = w1.heap.size + 1 from by simp] at this; exact this
    have hz2 : w2.heap.size = w1.heap.size + 1 + 1 := by rw [hw2]; simp
    have z0 : w2.cell? ⟨w1.heap.size, 0, none⟩ = some (.slice none 0 0) := by rw [hw2]; exact two_first (w := w1.drew) rfl
    have z1 : w2.cell? ⟨w1.heap.size, 1, none⟩ = some (.slice none 0 0) := by rw [hw2]; exact two_first (w := w1.drew) rfl
    have z2 : w2.cell? ⟨w1.heap.size, 2, none⟩ = some (.map none) := by rw [hw2]; exact two_first (w := w1.drew) rfl
    have zf : ∀ j, w2.frozen? ⟨w1.heap.size, j, none⟩ = false := fun j => by rw [hw2, World.frozen?_alloc_past _ _ _ (by simp)]; exact World.frozen?_alloc_at _ _ _ _ rfl
    have zf0 := zf 0
    have zf1 := zf 1
    have zf2 := zf 2
    clear zf hw2
    go_wp2_with fail
    refine hK.out _ _ (KS.out _ D2.out) (fun hHeld3 => ?_)
    clear hK K
    try simp only [Act.put, List.getElem_toArray, List.getElem_cons_zero, List.getElem_cons_succ, List.setIfInBounds_toArray, List.set_cons_zero, List.set_cons_succ]
    refine wpAnyH_take (i := 5) (v := .agg #[.slice ca cn cc, .slice (some ⟨mb, mo, none⟩) mn mc, .map (some (w1.heap.size + 1))]) rfl (by kernel_rfl) (by kernel_rfl) (by kernel_rfl) (fun _ _ _ h => h) (Or.inl ⟨by kernel_rfl, by (intro x hSx; (try dsimp only at hSx); go_simp)⟩) (by assumption) ?_
    try simp only [Act.put, List.getElem_toArray, List.getElem_cons_zero, List.getElem_cons_succ, List.setIfInBounds_toArray, List.set_cons_zero, List.set_cons_succ]
    refine wpAnyH_ready (rs := [7]) (by kernel_rfl) (by simp) ?_
    refine AllReadyH.cons rfl (fun K hK => ?_) AllReadyH.nil
    go_simp
    refine hK.out _ _ (KS.out _ (((D2.out.setCell (by have := B1.out.size; simpa using this) _).setCell (by have := B1.out.size; simpa using this) _).setCell (by have := B1.out.size; simpa using this) _)) (fun hHeld4 => ?_)
    clear hK K
    try simp only [Act.put, List.getElem_toArray, List.getElem_cons_zero, List.getElem_cons_succ, List.setIfInBounds_toArray, List.set_cons_zero, List.set_cons_succ]
    refine wpAnyH_done (by kernel_rfl) ?_ _
    clear hHeld hHeld2 hHeld3 hHeld4
    have hn : w.heap.size + 1 ≤ w1.heap.size := by have := B1.out.size; simpa using this
    have B3 : Hid (Below (w.heap.size + 1) (w.alloc (.cells #[.slice ca cn cc, .slice (some ⟨mb, mo, none⟩) mn mc] 38)) (((w2.setCell ⟨w1.heap.size, 0, none⟩ (.slice ca cn cc)).setCell ⟨w1.heap.size, 1, none⟩ (.slice (some ⟨mb, mo, none⟩) mn mc)).setCell ⟨w1.heap.size, 2, none⟩ (.map (some (w1.heap.size + 1))))) := ((D2.out.setCell hn _).setCell hn _).setCell hn _
    have Q3 : Hid ((((w2.setCell ⟨w1.heap.size, 0, none⟩ (.slice ca cn cc)).setCell ⟨w1.heap.size, 1, none⟩ (.slice (some ⟨mb, mo, none⟩) mn mc)).setCell ⟨w1.heap.size, 2, none⟩ (.map (some (w1.heap.size + 1)))).heap[w1.heap.size + 1]? = some (.map (wE 24) 24)) := by show _ = _; rw [Below.heap_setCell _ _ _ _ (by simp), Below.heap_setCell _ _ _ _ (by simp), Below.heap_setCell _ _ _ _ (by simp)]; exact HW.out
    have q0 : (((w2.setCell ⟨w1.heap.size, 0, none⟩ (.slice ca cn cc)).setCell ⟨w1.heap.size, 1, none⟩ (.slice (some ⟨mb, mo, none⟩) mn mc)).setCell ⟨w1.heap.size, 2, none⟩ (.map (some (w1.heap.size + 1)))).cell? ⟨w1.heap.size, 0, none⟩ = some (.slice ca cn cc) := by go_simp
    have q1 : (((w2.setCell ⟨w1.heap.size, 0, none⟩ (.slice ca cn cc)).setCell ⟨w1.heap.size, 1, none⟩ (.slice (some ⟨mb, mo, none⟩) mn mc)).setCell ⟨w1.heap.size, 2, none⟩ (.map (some (w1.heap.size + 1)))).cell? ⟨w1.heap.size, 1, none⟩ = some (.slice (some ⟨mb, mo, none⟩) mn mc) := by go_simp
    have q2 : (((w2.setCell ⟨w1.heap.size, 0, none⟩ (.slice ca cn cc)).setCell ⟨w1.heap.size, 1, none⟩ (.slice (some ⟨mb, mo, none⟩) mn mc)).setCell ⟨w1.heap.size, 2, none⟩ (.map (some (w1.heap.size + 1)))).cell? ⟨w1.heap.size, 2, none⟩ = some (.map (some (w1.heap.size + 1))) := by go_simp
    have hPb : w1.heap.size < (((w2.setCell ⟨w1.heap.size, 0, none⟩ (.slice ca cn cc)).setCell ⟨w1.heap.size, 1, none⟩ (.slice (some ⟨mb, mo, none⟩) mn mc)).setCell ⟨w1.heap.size, 2, none⟩ (.map (some (w1.heap.size + 1)))).heap.size := by simp; omega
    obtain ⟨w3, hw3⟩ : ∃ x : World, x = (((w2.setCell ⟨w1.heap.size, 0, none⟩ (.slice ca cn cc)).setCell ⟨w1.heap.size, 1, none⟩ (.slice (some ⟨mb, mo, none⟩) mn mc)).setCell ⟨w1.heap.size, 2, none⟩ (.map (some (w1.heap.size + 1)))) := ⟨_, rfl⟩
    rw [← hw3]
    rw [← hw3] at B3 Q3 q0 q1 q2 hPb
    clear hw3 p0 p1
    obtain ⟨xc, xs, xargs, xo, xlo, xX, xY, xZ, xaa, xal, xac, xda, xdl, xdc, xsa, xsl, xsc, xha, xhl, xhc, MX, x0, x1, x2, x3, x4, x5, x6, x7⟩ := meAt HM.out 0 (by omega)
    have HE : Hid (fstU (me M 0) = fstB xc xo xal) := by
      show _ = _
      rw [MX.is, fstU, fstB]; simp only; rw [MX.args.size]
      congr 2
      rw [Bool.eq_iff_iff]; simp
    have xr := MX.args.room
    clear MX
    replace x0 := later1 B3.out x0
    replace x1 := later1 B3.out x1
    replace x2 := later1 B3.out x2
    replace x3 := later1 B3.out x3
    replace x4 := later1 B3.out x4
    replace x5 := later1 B3.out x5
    replace x6 := later1 B3.out x6
    replace x7 := later1 B3.out x7
    simp only [Nat.zero_mul, Nat.add_zero] at x0 x1 x2 x3 x4 x5 x6 x7
    have X : Hid (_ ∧ _ ∧ _ ∧ _ ∧ _ ∧ _ ∧ _ ∧ _) := ⟨x0, x1, x2, x3, x4, x5, x6, x7⟩
    clear x0 x1 x2 x3 x4 x5 x6 x7
    go_wp2_with fail
    refine (firstImpl _ _ _ _ _ _ _ _ _ _ _ _ _ _ _ _ _ _ _ _ _ _ _ _ _ xr (by omega) hmr X.out.1 X.out.2.1 X.out.2.2.1 X.out.2.2.2.1 X.out.2.2.2.2.1 X.out.2.2.2.2.2.1 X.out.2.2.2.2.2.2.1 X.out.2.2.2.2.2.2.2).mono ?_
    rintro e w4 ⟨rfl, hb4⟩
    have B4 : Hid (Below (w.heap.size + 1) (w.alloc (.cells #[.slice ca cn cc, .slice (some ⟨mb, mo, none⟩) mn mc] 38)) w4) := B3.out.trans (hb4.mono (by have := B3.out.size; simpa using this))
    have Q4 : Hid (w4.heap[w1.heap.size + 1]? = some (.map (wE 24) 24)) := by
      show _ = _
      rw [hb4.block _ (Array.getElem?_eq_some_iff.1 Q3.out).1]; exact Q3.out
    replace q0 := (hb4.cell (p := ⟨w1.heap.size, 0, none⟩) hPb).trans q0
    replace q1 := (hb4.cell (p := ⟨w1.heap.size, 1, none⟩) hPb).trans q1
    replace q2 := (hb4.cell (p := ⟨w1.heap.size, 2, none⟩) hPb).trans q2
    clear hb4 hPb
    cases g4 : fstB xc xo xal
    · go_wp2_with fail
      go_ret
      exact ⟨by rw [HF.out, g1, e2, HE.out, g4]; rfl, box_below B4.out⟩
    have HG : Hid (unitB L M = (List.range mn).all (mtK L M)) := by
      show _ = _
      rw [HF.out, g1, e2, HE.out, g4, ← MS.out, mts_units OK.out]; rfl
    go_wp2_with fail
    refine (methodsImpl _ _ _ _ _ _ _ L M _ (H.out.later (box_below B4.out)) OK.out (HM.out.later (box_below B4.out)) hmc Q4.out).mono ?_
    rintro e w5 ⟨rfl, hb5⟩
    have B5 : Hid (Below w.heap.size w w5) := (box_below B4.out).trans (hb5.mono (box_below B4.out).size)
    clear hb5
    go_wp2_with fail
    go_ret
    exact ⟨by rw [HG.out]; rfl, B5.out⟩

end Go.Proofs.YthdlccadcadopaaGreat
