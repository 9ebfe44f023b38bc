/-
  A new memory, of both: what is answered; nothing is written that was there.
-/
import Derived.Test.YtjeabgkcmfjjlaaMemIa
import Derived.Test.YtjeabgkcmfjjlaaMemSc
namespace Go.Proofs.Ytjeabgkcmfjjlaa
open Go.ChangeShapes Go.WideShapes Go.ChangeAt Go.RowKit
set_option linter.unusedVariables false

theorem RowAt.below {w y : World} {B G n : Nat} {f : Nat → Value} (h : RowAt w G n f) (b : Below B w y) (hG : G < B) : RowAt y G n f :=
  fun j hj => ⟨(b.cell (p := ⟨G, j, none⟩) hG).trans (h j hj).1, (b.frozen (p := ⟨G, j, none⟩) hG).trans (h j hj).2⟩
theorem made_row {w y : World} {z : Value} {n B G : Nat} {t : TypeId} (h : Below B (w.alloc (.cells (madeCells #[z] n) t)) y) (hB : G < B) (hG : w.heap.size = G) : RowAt y G n (fun _ => z) := by
  subst hG
  have h1 := (RowAt.made w #[z] n t).congr (g := fun _ => z) (fun j _ => by simp [Nat.mod_one])
  exact h1.below h hB
theorem info_int9 : (Try.prog.info? 3).map (fun i => (i.zero, i.size, i.bytes)) = some (some (.int .i64 0), 1, 8) := by kernel_rfl
def newOk (yg od : Int) : Bool := inI yg 0 40 && inI od 14 120
def crdN (n : Nat) : Nat := (n + 3) / 4
theorem crd_nat (n : Nat) : crd (n : Int) = (crdN n : Nat) := by rw [crd_eq (by omega)]; unfold crdN; omega
/-- What is given back of a new memory. -/
def NewMP (w : World) (yg od : Int) (e : Ending) (w' : World) : Prop :=
  (newOk yg od = false → e = .returned (.agg #[.slice none 0 0, .int .i64 0, .int .i64 0, .int .i64 0, .slice none 0 0])) ∧
  (newOk yg od = true → ∃ (A C yn on : Nat), yg = yn ∧ od = on ∧ A ≠ C ∧ w.heap.size ≤ A ∧ w.heap.size ≤ C ∧ e = .returned (.agg #[.slice (some ⟨A, 0, none⟩) (yn + on) (yn + on), .int .i64 (yn : Nat), .int .i64 0, .int .i64 (yn : Nat), .slice (some ⟨C, 0, none⟩) (crdN on) (crdN on)]) ∧ RowAt w' A (yn + on) (fun _ => .int .i64 0) ∧ RowAt w' C (crdN on) (fun _ => .bool false)) ∧ Below w.heap.size w w'
set_option maxRecDepth 100000 in
set_option maxHeartbeats 8000000 in
theorem newSpec21 (yg od : Int) (w : World) : Calls Try.prog 7 #[.int .i64 yg, .int .i64 od] w (NewMP w yg od) := by
  have hz : w.heap.size + 1 ≤ (w.alloc (.cells #[.slice none 0 0, .int .i64 0, .int .i64 0, .int .i64 0, .slice none 0 0] 28)).heap.size := by simp
  have B : Hid (∀ y, Below (w.heap.size + 1) (w.alloc (.cells #[.slice none 0 0, .int .i64 0, .int .i64 0, .int .i64 0, .slice none 0 0] 28)) y → Below w.heap.size w y) := fun y hy => (bR.alloc (by first | exact Nat.le_refl _ | (simp; done) | (simp; omega)) _).trans (hy.mono (by omega))
  have XR : Hid (∀ y, Below (w.heap.size + 1) (w.alloc (.cells #[.slice none 0 0, .int .i64 0, .int .i64 0, .int .i64 0, .slice none 0 0] 28)) y → y.heap[w.heap.size]? = some (.cells #[.slice none 0 0, .int .i64 0, .int .i64 0, .int .i64 0, .slice none 0 0] 28 (0, 0))) := fun y hy => (hy.block _ (by omega)).trans (boxN _ _ _ _ (by simp))
  have lR : w.heap.size < w.heap.size + 1 := by omega
  cases q1 : inI yg 0 40
  · have NO : Hid (newOk yg od = false) := by show _ = _; unfold newOk; rw [q1]; rfl
    go_enter Try.func7, Try.ntmps7
    go_wp2_with fail
    refine (inSpec' _ _ _ _ q1 _).mono ?_
    rintro r w9 ⟨rfl, rfl⟩
    obtain ⟨kR0, kR1, kR2, kR3, kR4⟩ := bk5 (XR.out (w.alloc (.cells #[.slice none 0 0, .int .i64 0, .int .i64 0, .int .i64 0, .slice none 0 0] 28)) bR)
    obtain ⟨qkR0, qkR1, qkR2, qkR3, qkR4⟩ := bq5 (XR.out (w.alloc (.cells #[.slice none 0 0, .int .i64 0, .int .i64 0, .int .i64 0, .slice none 0 0] 28)) bR)
    go_wp2_with fail
    refine bodyPost_ret (v := .agg #[.slice none 0 0, .int .i64 0, .int .i64 0, .int .i64 0, .slice none 0 0]) ?_ rfl ?_
    · simp [results, Try.results7, go_sem, *]
    · exact ⟨fun _ => rfl, (fun h => by rw [NO.out] at h; cases h), by (repeat (refine Below.setCell ?_ (by first | omega | (simp; done) | (simp; omega)) _)); exact B.out _ (Below.refl _ _)⟩
  cases q2 : inI od 14 120
  · have NO : Hid (newOk yg od = false) := by show _ = _; unfold newOk; rw [q1, q2]; rfl
    go_enter Try.func7, Try.ntmps7
    go_wp2_with fail
    refine (inSpec' _ _ _ _ q1 _).mono ?_
    rintro r w9 ⟨rfl, rfl⟩
    go_wp2_with fail
    refine (inSpec' _ _ _ _ q2 _).mono ?_
    rintro r w9 ⟨rfl, rfl⟩
    obtain ⟨kR0, kR1, kR2, kR3, kR4⟩ := bk5 (XR.out (w.alloc (.cells #[.slice none 0 0, .int .i64 0, .int .i64 0, .int .i64 0, .slice none 0 0] 28)) bR)
    obtain ⟨qkR0, qkR1, qkR2, qkR3, qkR4⟩ := bq5 (XR.out (w.alloc (.cells #[.slice none 0 0, .int .i64 0, .int .i64 0, .int .i64 0, .slice none 0 0] 28)) bR)
    go_wp2_with fail
    refine bodyPost_ret (v := .agg #[.slice none 0 0, .int .i64 0, .int .i64 0, .int .i64 0, .slice none 0 0]) ?_ rfl ?_
    · simp [results, Try.results7, go_sem, *]
    · exact ⟨fun _ => rfl, (fun h => by rw [NO.out] at h; cases h), by (repeat (refine Below.setCell ?_ (by first | omega | (simp; done) | (simp; omega)) _)); exact B.out _ (Below.refl _ _)⟩
  have YES : Hid (newOk yg od = true) := by show _ = _; unfold newOk; rw [q1, q2]; rfl
  have h1 := inI_iff.1 q1
  have h2 := inI_iff.1 q2
  go_enter Try.func7, Try.ntmps7
  go_wp2_with fail
  refine (inSpec' _ _ _ _ q1 _).mono ?_
  rintro r w9 ⟨rfl, rfl⟩
  go_wp2_with fail
  refine (inSpec' _ _ _ _ q2 _).mono ?_
  rintro r w9 ⟨rfl, rfl⟩
  clear q1 q2
  obtain ⟨yn, rfl⟩ : ∃ n : Nat, yg = n := ⟨yg.toNat, by omega⟩
  obtain ⟨on, rfl⟩ : ∃ n : Nat, od = n := ⟨od.toNat, by omega⟩
  obtain ⟨n, hn⟩ : ∃ n, yn + on = n := ⟨_, rfl⟩
  obtain ⟨c, hc⟩ : ∃ c, crdN on = c := ⟨_, rfl⟩
  have HN : Hid (yn + on = n) := hn
  have HC : Hid (crdN on = c) := hc
  have hc2 : c ≤ 40 := by rw [← hc]; unfold crdN; omega
  have hadd : IntKind.i64.wrap ((yn : Int) + (on : Int)) = (n : Int) := by rw [IntKind.wrap_i64] <;> omega
  have CR : Hid (crd (on : Int) = (c : Int)) := by show _ = _; rw [crd_nat, hc]
  have hmk1 := fun wx => run_make_row' (P := Try.prog) 25 3 (.int .i64 0) 8 Try.underlying25 info_int9 rfl .i64 .i64 n (by omega) (by omega) wx
  have hmk2 := fun wx => run_make_row' (P := Try.prog) 26 4 (.bool false) 1 Try.underlying26 info_boo2 rfl .i64 .i64 c (by omega) (by omega) wx
  clear hc
  go_wp2_with fail
  have KS : Hid (∀ x, Below (w.heap.size + 1) (w.alloc (.cells #[.slice none 0 0, .int .i64 0, .int .i64 0, .int .i64 0, .slice none 0 0] 28)) x → True) := fun x hx => trivial
  refine wp_region_held_drew (S := fun x => True) (by kernel_rfl) ?_ (fun hHeld => ?_)
  · exact KS.out _ (bdrew bR)
  refine tV 0 (v := ?_) rfl (by kernel_rfl) (fun _ _ _ h => h) ?_ (by assumption) ?_
  rotate_left 1
  · (intro x hSx; (try dsimp only at hSx); go_simp; try with_reducible rfl)
  try simp only [Act.put, List.getElem_toArray, List.getElem_cons_zero, List.setIfInBounds_toArray, List.set_cons_zero, List.set_cons_succ]
  refine tV 1 (v := ?_) rfl (by kernel_rfl) (fun _ _ _ h => h) ?_ (by assumption) ?_
  rotate_left 1
  · (intro x hSx; (try dsimp only at hSx); go_simp; try with_reducible rfl)
  try simp only [Act.put, List.getElem_toArray, List.getElem_cons_zero, List.getElem_cons_succ, List.setIfInBounds_toArray, List.set_cons_zero, List.set_cons_succ]
  refine tV 2 (v := ?_) rfl (by kernel_rfl) (fun _ _ _ h => h) ?_ (by assumption) ?_
  rotate_left 1
  · (intro x hSx; (try dsimp only at hSx); go_simp; try with_reducible rfl)
  try simp only [Act.put, List.getElem_toArray, List.getElem_cons_zero, List.getElem_cons_succ, List.setIfInBounds_toArray, List.set_cons_zero, List.set_cons_succ]
  refine tV 4 (v := ?_) rfl (by kernel_rfl) (fun _ _ _ h => h) ?_ (by assumption) ?_
  rotate_left 1
  · (intro x hSx; (try dsimp only at hSx); go_simp; try with_reducible rfl)
  try simp only [Act.put, List.getElem_toArray, List.getElem_cons_zero, List.getElem_cons_succ, List.setIfInBounds_toArray, List.set_cons_zero, List.set_cons_succ]
  refine tV 5 (v := ?_) rfl (by kernel_rfl) (fun _ _ _ h => h) ?_ (by assumption) ?_
  rotate_left 1
  · (intro x hSx; (try dsimp only at hSx); go_simp; try with_reducible rfl)
  try simp only [Act.put, List.getElem_toArray, List.getElem_cons_zero, List.getElem_cons_succ, List.setIfInBounds_toArray, List.set_cons_zero, List.set_cons_succ]
  refine tV 6 (v := ?_) rfl (by kernel_rfl) (fun _ _ _ h => h) ?_ (by assumption) ?_
  rotate_left 1
  · (intro x hSx; (try dsimp only at hSx); go_simp; try with_reducible rfl)
  try simp only [Act.put, List.getElem_toArray, List.getElem_cons_zero, List.getElem_cons_succ, List.setIfInBounds_toArray, List.set_cons_zero, List.set_cons_succ]
  refine wpAnyH_ready (rs := [3, 7]) (by kernel_rfl) (by simp) ?_
  refine AllReadyH.cons rfl (fun K hK => ?_) (AllReadyH.cons rfl (fun K hK => ?_) AllReadyH.nil)
  · go_simp
    have BP : Hid (Below (w.heap.size + 1) (w.alloc (.cells #[.slice none 0 0, .int .i64 0, .int .i64 0, .int .i64 0, .slice none 0 0] 28)) ((w.alloc (.cells #[.slice none 0 0, .int .i64 0, .int .i64 0, .int .i64 0, .slice none 0 0] 28)).alloc (.cells (madeCells #[.int .i64 0] n) 3))) := bR.alloc (by first | exact hz | (simp; done) | (simp; omega) | (have := hz; simp at this ⊢; omega)) _
    replace B := lA B BP
    replace KS := lA KS BP
    replace XR := lA XR BP
    replace lR := lL lR
    have RA : Hid (∀ y, Below (w.heap.size + 1 + 1) ((w.alloc (.cells #[.slice none 0 0, .int .i64 0, .int .i64 0, .int .i64 0, .slice none 0 0] 28)).alloc (.cells (madeCells #[.int .i64 0] n) 3)) y → RowAt y (w.heap.size + 1) n (fun _ => .int .i64 0)) := fun y hy => made_row hy (by omega) (by simp)
    replace hz : w.heap.size + 1 + 1 ≤ (((w.alloc (.cells #[.slice none 0 0, .int .i64 0, .int .i64 0, .int .i64 0, .slice none 0 0] 28)).alloc (.cells (madeCells #[.int .i64 0] n) 3))).heap.size := by simp
    clear BP
    refine hK.out _ _ (KS.out _ (bdrew bR)) (fun hHeld2 => ?_)
    clear hK K
    try simp only [Act.put, List.getElem_toArray, List.getElem_cons_zero, List.getElem_cons_succ, List.setIfInBounds_toArray, List.set_cons_zero, List.set_cons_succ]
    refine wpAnyH_ready (rs := [7]) (by kernel_rfl) (by simp) ?_
    refine AllReadyH.cons rfl (fun K hK => ?_) AllReadyH.nil
    go_simp
    go_at_call 16
    refine (cardsSpec (on : Int) (by omega) (by omega) _).mono ?_
    rintro e w9 ⟨rfl, rfl⟩
    rw [CR.out]
    go_wp2_with fail
    refine hK.out _ _ (KS.out _ (bdrew bR)) (fun hHeld3 => ?_)
    clear hK K
    try simp only [Act.put, List.getElem_toArray, List.getElem_cons_zero, List.getElem_cons_succ, List.setIfInBounds_toArray, List.set_cons_zero, List.set_cons_succ]
    refine wpAnyH_ready (rs := [8]) (by kernel_rfl) (by simp) ?_
    refine AllReadyH.cons rfl (fun K hK => ?_) AllReadyH.nil
    go_simp
    have BP : Hid (Below (w.heap.size + 1 + 1) ((w.alloc (.cells #[.slice none 0 0, .int .i64 0, .int .i64 0, .int .i64 0, .slice none 0 0] 28)).alloc (.cells (madeCells #[.int .i64 0] n) 3)) (((w.alloc (.cells #[.slice none 0 0, .int .i64 0, .int .i64 0, .int .i64 0, .slice none 0 0] 28)).alloc (.cells (madeCells #[.int .i64 0] n) 3)).alloc (.cells (madeCells #[.bool false] c) 4))) := bR.alloc (by first | exact hz | (simp; done) | (simp; omega) | (have := hz; simp at this ⊢; omega)) _
    replace B := lA B BP
    replace KS := lA KS BP
    replace RA := lA RA BP
    replace XR := lA XR BP
    replace lR := lL lR
    have RC : Hid (∀ y, Below (w.heap.size + 1 + 1 + 1) (((w.alloc (.cells #[.slice none 0 0, .int .i64 0, .int .i64 0, .int .i64 0, .slice none 0 0] 28)).alloc (.cells (madeCells #[.int .i64 0] n) 3)).alloc (.cells (madeCells #[.bool false] c) 4)) y → RowAt y (w.heap.size + 1 + 1) c (fun _ => .bool false)) := fun y hy => made_row hy (by omega) (by simp)
    replace hz : w.heap.size + 1 + 1 + 1 ≤ ((((w.alloc (.cells #[.slice none 0 0, .int .i64 0, .int .i64 0, .int .i64 0, .slice none 0 0] 28)).alloc (.cells (madeCells #[.int .i64 0] n) 3)).alloc (.cells (madeCells #[.bool false] c) 4))).heap.size := by simp
    clear BP
    refine hK.out _ _ (KS.out _ (bdrew bR)) (fun hHeld4 => ?_)
    clear hK K
    try simp only [Act.put, List.getElem_toArray, List.getElem_cons_zero, List.getElem_cons_succ, List.setIfInBounds_toArray, List.set_cons_zero, List.set_cons_succ]
    refine tV 9 (v := ?_) rfl (by kernel_rfl) (fun _ _ _ h => h) ?_ (by assumption) ?_
    rotate_left 1
    · (intro x hSx; (try dsimp only at hSx); go_simp; try with_reducible rfl)
    try simp only [Act.put, List.getElem_toArray, List.getElem_cons_zero, List.getElem_cons_succ, List.setIfInBounds_toArray, List.set_cons_zero, List.set_cons_succ]
    refine wpAnyH_ready (rs := [10]) (by kernel_rfl) (by simp) ?_
    refine AllReadyH.cons rfl (fun K hK => ?_) AllReadyH.nil
    generalize (((w.alloc (.cells #[.slice none 0 0, .int .i64 0, .int .i64 0, .int .i64 0, .slice none 0 0] 28)).alloc (.cells (madeCells #[.int .i64 0] n) 3)).alloc (.cells (madeCells #[.bool false] c) 4)) = wq at B KS RA RC XR hz ⊢
    have hzn : w.heap.size + 1 + 1 + 1 ≤ wq.heap.size := Nat.le_trans hz (Below.size (Below.refl (w.heap.size + 1 + 1 + 1) wq))
    replace B := lF B (Below.refl (w.heap.size + 1 + 1 + 1) wq) hzn
    replace KS := lF KS (Below.refl (w.heap.size + 1 + 1 + 1) wq) hzn
    replace RA := lF RA (Below.refl (w.heap.size + 1 + 1 + 1) wq) hzn
    replace RC := lF RC (Below.refl (w.heap.size + 1 + 1 + 1) wq) hzn
    replace XR := lF XR (Below.refl (w.heap.size + 1 + 1 + 1) wq) hzn
    replace lR := Nat.lt_of_lt_of_le lR hzn
    clear hz
    have hz : wq.heap.size ≤ wq.heap.size := Nat.le_refl _
    obtain ⟨kR0, kR1, kR2, kR3, kR4⟩ := bk5 (XR.out wq bR)
    obtain ⟨qkR0, qkR1, qkR2, qkR3, qkR4⟩ := bq5 (XR.out wq bR)
    go_simp
    clear kR0 kR1 kR2 kR3 kR4 qkR0 qkR1 qkR2 qkR3 qkR4
    have hw0 : w.heap.size ≤ w.heap.size := (by first | omega | (simp; done) | (simp; omega) | (simp at *; omega))
    replace XR : Hid (∀ y, Below (wq.heap.size) (((((wq.setCell ⟨w.heap.size, 0, none⟩ (.slice (some ⟨w.heap.size + 1, 0, none⟩) n n)).setCell ⟨w.heap.size, 1, none⟩ (.int .i64 (yn : Nat))).setCell ⟨w.heap.size, 2, none⟩ (.int .i64 0)).setCell ⟨w.heap.size, 3, none⟩ (.int .i64 (yn : Nat))).setCell ⟨w.heap.size, 4, none⟩ (.slice (some ⟨w.heap.size + 1 + 1, 0, none⟩) c c)) y → y.heap[w.heap.size]? = some (.cells #[.slice (some ⟨w.heap.size + 1, 0, none⟩) n n, .int .i64 (yn : Nat), .int .i64 0, .int .i64 (yn : Nat), .slice (some ⟨w.heap.size + 1 + 1, 0, none⟩) c c] 28 (0, 0))) := fun y hy => (hy.block _ (by omega)).trans (boxS (boxS (boxS (boxS (boxS (XR.out wq bR) 0 _) 1 _) 2 _) 3 _) 4 _)
    clear KS
    replace RA : Hid (∀ y, Below (wq.heap.size) (((((wq.setCell ⟨w.heap.size, 0, none⟩ (.slice (some ⟨w.heap.size + 1, 0, none⟩) n n)).setCell ⟨w.heap.size, 1, none⟩ (.int .i64 (yn : Nat))).setCell ⟨w.heap.size, 2, none⟩ (.int .i64 0)).setCell ⟨w.heap.size, 3, none⟩ (.int .i64 (yn : Nat))).setCell ⟨w.heap.size, 4, none⟩ (.slice (some ⟨w.heap.size + 1 + 1, 0, none⟩) c c)) y → RowAt y (w.heap.size + 1) n (fun _ => .int .i64 0)) := fun y hy => RowAt.below ((((((RA.out wq (Below.refl _ _)).other _ _ (by show w.heap.size ≠ _; omega)).other _ _ (by show w.heap.size ≠ _; omega)).other _ _ (by show w.heap.size ≠ _; omega)).other _ _ (by show w.heap.size ≠ _; omega)).other _ _ (by show w.heap.size ≠ _; omega)) hy (by omega)
    replace RC : Hid (∀ y, Below (wq.heap.size) (((((wq.setCell ⟨w.heap.size, 0, none⟩ (.slice (some ⟨w.heap.size + 1, 0, none⟩) n n)).setCell ⟨w.heap.size, 1, none⟩ (.int .i64 (yn : Nat))).setCell ⟨w.heap.size, 2, none⟩ (.int .i64 0)).setCell ⟨w.heap.size, 3, none⟩ (.int .i64 (yn : Nat))).setCell ⟨w.heap.size, 4, none⟩ (.slice (some ⟨w.heap.size + 1 + 1, 0, none⟩) c c)) y → RowAt y (w.heap.size + 1 + 1) c (fun _ => .bool false)) := fun y hy => RowAt.below ((((((RC.out wq (Below.refl _ _)).other _ _ (by show w.heap.size ≠ _; omega)).other _ _ (by show w.heap.size ≠ _; omega)).other _ _ (by show w.heap.size ≠ _; omega)).other _ _ (by show w.heap.size ≠ _; omega)).other _ _ (by show w.heap.size ≠ _; omega)) hy (by omega)
    replace B : Hid (∀ y, Below (wq.heap.size) (((((wq.setCell ⟨w.heap.size, 0, none⟩ (.slice (some ⟨w.heap.size + 1, 0, none⟩) n n)).setCell ⟨w.heap.size, 1, none⟩ (.int .i64 (yn : Nat))).setCell ⟨w.heap.size, 2, none⟩ (.int .i64 0)).setCell ⟨w.heap.size, 3, none⟩ (.int .i64 (yn : Nat))).setCell ⟨w.heap.size, 4, none⟩ (.slice (some ⟨w.heap.size + 1 + 1, 0, none⟩) c c)) y → Below w.heap.size w y) := fun y hy => ((((((B.out wq bR).setCell hw0 _).setCell hw0 _).setCell hw0 _).setCell hw0 _).setCell hw0 _).trans (hy.mono (by first | omega | exact Nat.le_trans (B.out wq bR).size hz | (have := (B.out wq bR).size; omega)))
    replace hz : wq.heap.size ≤ (((((wq.setCell ⟨w.heap.size, 0, none⟩ (.slice (some ⟨w.heap.size + 1, 0, none⟩) n n)).setCell ⟨w.heap.size, 1, none⟩ (.int .i64 (yn : Nat))).setCell ⟨w.heap.size, 2, none⟩ (.int .i64 0)).setCell ⟨w.heap.size, 3, none⟩ (.int .i64 (yn : Nat))).setCell ⟨w.heap.size, 4, none⟩ (.slice (some ⟨w.heap.size + 1 + 1, 0, none⟩) c c)).heap.size := by first | (simp; done) | simpa using hz
    clear hw0
    have KS : Hid (∀ x, Below (wq.heap.size) (((((wq.setCell ⟨w.heap.size, 0, none⟩ (.slice (some ⟨w.heap.size + 1, 0, none⟩) n n)).setCell ⟨w.heap.size, 1, none⟩ (.int .i64 (yn : Nat))).setCell ⟨w.heap.size, 2, none⟩ (.int .i64 0)).setCell ⟨w.heap.size, 3, none⟩ (.int .i64 (yn : Nat))).setCell ⟨w.heap.size, 4, none⟩ (.slice (some ⟨w.heap.size + 1 + 1, 0, none⟩) c c)) x → True) := fun x hx => trivial
    refine hK.out _ _ (KS.out _ (bdrew bR)) (fun hHeld5 => ?_)
    clear hK K
    try simp only [Act.put, List.getElem_toArray, List.getElem_cons_zero, List.getElem_cons_succ, List.setIfInBounds_toArray, List.set_cons_zero, List.set_cons_succ]
    refine wpAnyH_done (by kernel_rfl) ?_ _
    clear hHeld hHeld2 hHeld3 hHeld4 hHeld5
    clear KS hmk1 hmk2
    replace B := lD B
    replace RA := lD RA
    replace RC := lD RC
    replace XR := lD XR
    replace hz : wq.heap.size ≤ ((((((wq.setCell ⟨w.heap.size, 0, none⟩ (.slice (some ⟨w.heap.size + 1, 0, none⟩) n n)).setCell ⟨w.heap.size, 1, none⟩ (.int .i64 (yn : Nat))).setCell ⟨w.heap.size, 2, none⟩ (.int .i64 0)).setCell ⟨w.heap.size, 3, none⟩ (.int .i64 (yn : Nat))).setCell ⟨w.heap.size, 4, none⟩ (.slice (some ⟨w.heap.size + 1 + 1, 0, none⟩) c c)).drew).heap.size := Nat.le_trans hz (Below.size (bdrew (Below.refl (wq.heap.size) (((((wq.setCell ⟨w.heap.size, 0, none⟩ (.slice (some ⟨w.heap.size + 1, 0, none⟩) n n)).setCell ⟨w.heap.size, 1, none⟩ (.int .i64 (yn : Nat))).setCell ⟨w.heap.size, 2, none⟩ (.int .i64 0)).setCell ⟨w.heap.size, 3, none⟩ (.int .i64 (yn : Nat))).setCell ⟨w.heap.size, 4, none⟩ (.slice (some ⟨w.heap.size + 1 + 1, 0, none⟩) c c)))))
    have BF : Hid (Below w.heap.size w (((((((wq.setCell ⟨w.heap.size, 0, none⟩ (.slice (some ⟨w.heap.size + 1, 0, none⟩) n n)).setCell ⟨w.heap.size, 1, none⟩ (.int .i64 (yn : Nat))).setCell ⟨w.heap.size, 2, none⟩ (.int .i64 0)).setCell ⟨w.heap.size, 3, none⟩ (.int .i64 (yn : Nat))).setCell ⟨w.heap.size, 4, none⟩ (.slice (some ⟨w.heap.size + 1 + 1, 0, none⟩) c c)).drew))) := B.out _ (Below.refl _ _)
    have RF : Hid (RowAt (((((((wq.setCell ⟨w.heap.size, 0, none⟩ (.slice (some ⟨w.heap.size + 1, 0, none⟩) n n)).setCell ⟨w.heap.size, 1, none⟩ (.int .i64 (yn : Nat))).setCell ⟨w.heap.size, 2, none⟩ (.int .i64 0)).setCell ⟨w.heap.size, 3, none⟩ (.int .i64 (yn : Nat))).setCell ⟨w.heap.size, 4, none⟩ (.slice (some ⟨w.heap.size + 1 + 1, 0, none⟩) c c)).drew)) (w.heap.size + 1) n (fun _ => .int .i64 0)) := RA.out _ (Below.refl _ _)
    have CF : Hid (RowAt (((((((wq.setCell ⟨w.heap.size, 0, none⟩ (.slice (some ⟨w.heap.size + 1, 0, none⟩) n n)).setCell ⟨w.heap.size, 1, none⟩ (.int .i64 (yn : Nat))).setCell ⟨w.heap.size, 2, none⟩ (.int .i64 0)).setCell ⟨w.heap.size, 3, none⟩ (.int .i64 (yn : Nat))).setCell ⟨w.heap.size, 4, none⟩ (.slice (some ⟨w.heap.size + 1 + 1, 0, none⟩) c c)).drew)) (w.heap.size + 1 + 1) c (fun _ => .bool false)) := RC.out _ (Below.refl _ _)
    have XC : Hid ((((((((wq.setCell ⟨w.heap.size, 0, none⟩ (.slice (some ⟨w.heap.size + 1, 0, none⟩) n n)).setCell ⟨w.heap.size, 1, none⟩ (.int .i64 (yn : Nat))).setCell ⟨w.heap.size, 2, none⟩ (.int .i64 0)).setCell ⟨w.heap.size, 3, none⟩ (.int .i64 (yn : Nat))).setCell ⟨w.heap.size, 4, none⟩ (.slice (some ⟨w.heap.size + 1 + 1, 0, none⟩) c c)).drew)).heap[w.heap.size]? = some (.cells #[.slice (some ⟨w.heap.size + 1, 0, none⟩) n n, .int .i64 (yn : Nat), .int .i64 0, .int .i64 (yn : Nat), .slice (some ⟨w.heap.size + 1 + 1, 0, none⟩) c c] 28 (0, 0))) := XR.out _ (Below.refl _ _)
    clear B RA RC XR hz
    generalize ((((((wq.setCell ⟨w.heap.size, 0, none⟩ (.slice (some ⟨w.heap.size + 1, 0, none⟩) n n)).setCell ⟨w.heap.size, 1, none⟩ (.int .i64 (yn : Nat))).setCell ⟨w.heap.size, 2, none⟩ (.int .i64 0)).setCell ⟨w.heap.size, 3, none⟩ (.int .i64 (yn : Nat))).setCell ⟨w.heap.size, 4, none⟩ (.slice (some ⟨w.heap.size + 1 + 1, 0, none⟩) c c)).drew) = wF at RF CF BF XC ⊢
    have kXC0 : wF.cell? ⟨w.heap.size, 0, none⟩ = some (.slice (some ⟨w.heap.size + 1, 0, none⟩) n n) := (boxG XC.out 0).1
    have kXC1 : wF.cell? ⟨w.heap.size, 1, none⟩ = some (.int .i64 (yn : Nat)) := (boxG XC.out 1).1
    have kXC2 : wF.cell? ⟨w.heap.size, 2, none⟩ = some (.int .i64 0) := (boxG XC.out 2).1
    have kXC3 : wF.cell? ⟨w.heap.size, 3, none⟩ = some (.int .i64 (yn : Nat)) := (boxG XC.out 3).1
    have kXC4 : wF.cell? ⟨w.heap.size, 4, none⟩ = some (.slice (some ⟨w.heap.size + 1 + 1, 0, none⟩) c c) := (boxG XC.out 4).1
    rename_i K0 hK0
    refine hK0 _ _ (wp_ret ?_)
    refine bodyPost_ret (v := .agg #[.slice (some ⟨w.heap.size + 1, 0, none⟩) n n, .int .i64 (yn : Nat), .int .i64 0, .int .i64 (yn : Nat), .slice (some ⟨w.heap.size + 1 + 1, 0, none⟩) c c]) ?_ rfl ?_
    · simp [results, Try.results7, go_sem, kXC0, kXC1, kXC2, kXC3, kXC4]
    · refine ⟨(fun h => by rw [YES.out] at h; cases h), fun _ => ⟨w.heap.size + 1, w.heap.size + 1 + 1, yn, on, rfl, rfl, by omega, by omega, by omega, by rw [HN.out, HC.out], ?_, ?_⟩, BF.out⟩
      · rw [HN.out]; exact RF.out
      · rw [HC.out]; exact CF.out
  · go_simp
    go_at_call 16
    refine (cardsSpec (on : Int) (by omega) (by omega) _).mono ?_
    rintro e w9 ⟨rfl, rfl⟩
    rw [CR.out]
    go_wp2_with fail
    refine hK.out _ _ (KS.out _ (bdrew bR)) (fun hHeld2 => ?_)
    clear hK K
    try simp only [Act.put, List.getElem_toArray, List.getElem_cons_zero, List.getElem_cons_succ, List.setIfInBounds_toArray, List.set_cons_zero, List.set_cons_succ]
    refine wpAnyH_ready (rs := [3, 8]) (by kernel_rfl) (by simp) ?_
    refine AllReadyH.cons rfl (fun K hK => ?_) (AllReadyH.cons rfl (fun K hK => ?_) AllReadyH.nil)
    · go_simp
      have BP : Hid (Below (w.heap.size + 1) (w.alloc (.cells #[.slice none 0 0, .int .i64 0, .int .i64 0, .int .i64 0, .slice none 0 0] 28)) ((w.alloc (.cells #[.slice none 0 0, .int .i64 0, .int .i64 0, .int .i64 0, .slice none 0 0] 28)).alloc (.cells (madeCells #[.int .i64 0] n) 3))) := bR.alloc (by first | exact hz | (simp; done) | (simp; omega) | (have := hz; simp at this ⊢; omega)) _
      replace B := lA B BP
      replace KS := lA KS BP
      replace XR := lA XR BP
      replace lR := lL lR
      have RA : Hid (∀ y, Below (w.heap.size + 1 + 1) ((w.alloc (.cells #[.slice none 0 0, .int .i64 0, .int .i64 0, .int .i64 0, .slice none 0 0] 28)).alloc (.cells (madeCells #[.int .i64 0] n) 3)) y → RowAt y (w.heap.size + 1) n (fun _ => .int .i64 0)) := fun y hy => made_row hy (by omega) (by simp)
      replace hz : w.heap.size + 1 + 1 ≤ (((w.alloc (.cells #[.slice none 0 0, .int .i64 0, .int .i64 0, .int .i64 0, .slice none 0 0] 28)).alloc (.cells (madeCells #[.int .i64 0] n) 3))).heap.size := by simp
      clear BP
      refine hK.out _ _ (KS.out _ (bdrew bR)) (fun hHeld3 => ?_)
      clear hK K
      try simp only [Act.put, List.getElem_toArray, List.getElem_cons_zero, List.getElem_cons_succ, List.setIfInBounds_toArray, List.set_cons_zero, List.set_cons_succ]
      refine wpAnyH_ready (rs := [8]) (by kernel_rfl) (by simp) ?_
      refine AllReadyH.cons rfl (fun K hK => ?_) AllReadyH.nil
      go_simp
      have BP : Hid (Below (w.heap.size + 1 + 1) ((w.alloc (.cells #[.slice none 0 0, .int .i64 0, .int .i64 0, .int .i64 0, .slice none 0 0] 28)).alloc (.cells (madeCells #[.int .i64 0] n) 3)) (((w.alloc (.cells #[.slice none 0 0, .int .i64 0, .int .i64 0, .int .i64 0, .slice none 0 0] 28)).alloc (.cells (madeCells #[.int .i64 0] n) 3)).alloc (.cells (madeCells #[.bool false] c) 4))) := bR.alloc (by first | exact hz | (simp; done) | (simp; omega) | (have := hz; simp at this ⊢; omega)) _
      replace B := lA B BP
      replace KS := lA KS BP
      replace RA := lA RA BP
      replace XR := lA XR BP
      replace lR := lL lR
      have RC : Hid (∀ y, Below (w.heap.size + 1 + 1 + 1) (((w.alloc (.cells #[.slice none 0 0, .int .i64 0, .int .i64 0, .int .i64 0, .slice none 0 0] 28)).alloc (.cells (madeCells #[.int .i64 0] n) 3)).alloc (.cells (madeCells #[.bool false] c) 4)) y → RowAt y (w.heap.size + 1 + 1) c (fun _ => .bool false)) := fun y hy => made_row hy (by omega) (by simp)
      replace hz : w.heap.size + 1 + 1 + 1 ≤ ((((w.alloc (.cells #[.slice none 0 0, .int .i64 0, .int .i64 0, .int .i64 0, .slice none 0 0] 28)).alloc (.cells (madeCells #[.int .i64 0] n) 3)).alloc (.cells (madeCells #[.bool false] c) 4))).heap.size := by simp
      clear BP
      refine hK.out _ _ (KS.out _ (bdrew bR)) (fun hHeld4 => ?_)
      clear hK K
      try simp only [Act.put, List.getElem_toArray, List.getElem_cons_zero, List.getElem_cons_succ, List.setIfInBounds_toArray, List.set_cons_zero, List.set_cons_succ]
      refine tV 9 (v := ?_) rfl (by kernel_rfl) (fun _ _ _ h => h) ?_ (by assumption) ?_
      rotate_left 1
      · (intro x hSx; (try dsimp only at hSx); go_simp; try with_reducible rfl)
      try simp only [Act.put, List.getElem_toArray, List.getElem_cons_zero, List.getElem_cons_succ, List.setIfInBounds_toArray, List.set_cons_zero, List.set_cons_succ]
      refine wpAnyH_ready (rs := [10]) (by kernel_rfl) (by simp) ?_
      refine AllReadyH.cons rfl (fun K hK => ?_) AllReadyH.nil
      generalize (((w.alloc (.cells #[.slice none 0 0, .int .i64 0, .int .i64 0, .int .i64 0, .slice none 0 0] 28)).alloc (.cells (madeCells #[.int .i64 0] n) 3)).alloc (.cells (madeCells #[.bool false] c) 4)) = wq at B KS RA RC XR hz ⊢
      have hzn : w.heap.size + 1 + 1 + 1 ≤ wq.heap.size := Nat.le_trans hz (Below.size (Below.refl (w.heap.size + 1 + 1 + 1) wq))
      replace B := lF B (Below.refl (w.heap.size + 1 + 1 + 1) wq) hzn
      replace KS := lF KS (Below.refl (w.heap.size + 1 + 1 + 1) wq) hzn
      replace RA := lF RA (Below.refl (w.heap.size + 1 + 1 + 1) wq) hzn
      replace RC := lF RC (Below.refl (w.heap.size + 1 + 1 + 1) wq) hzn
      replace XR := lF XR (Below.refl (w.heap.size + 1 + 1 + 1) wq) hzn
      replace lR := Nat.lt_of_lt_of_le lR hzn
      clear hz
      have hz : wq.heap.size ≤ wq.heap.size := Nat.le_refl _
      obtain ⟨kR0, kR1, kR2, kR3, kR4⟩ := bk5 (XR.out wq bR)
      obtain ⟨qkR0, qkR1, qkR2, qkR3, qkR4⟩ := bq5 (XR.out wq bR)
      go_simp
      clear kR0 kR1 kR2 kR3 kR4 qkR0 qkR1 qkR2 qkR3 qkR4
      have hw0 : w.heap.size ≤ w.heap.size := (by first | omega | (simp; done) | (simp; omega) | (simp at *; omega))
      replace XR : Hid (∀ y, Below (wq.heap.size) (((((wq.setCell ⟨w.heap.size, 0, none⟩ (.slice (some ⟨w.heap.size + 1, 0, none⟩) n n)).setCell ⟨w.heap.size, 1, none⟩ (.int .i64 (yn : Nat))).setCell ⟨w.heap.size, 2, none⟩ (.int .i64 0)).setCell ⟨w.heap.size, 3, none⟩ (.int .i64 (yn : Nat))).setCell ⟨w.heap.size, 4, none⟩ (.slice (some ⟨w.heap.size + 1 + 1, 0, none⟩) c c)) y → y.heap[w.heap.size]? = some (.cells #[.slice (some ⟨w.heap.size + 1, 0, none⟩) n n, .int .i64 (yn : Nat), .int .i64 0, .int .i64 (yn : Nat), .slice (some ⟨w.heap.size + 1 + 1, 0, none⟩) c c] 28 (0, 0))) := fun y hy => (hy.block _ (by omega)).trans (boxS (boxS (boxS (boxS (boxS (XR.out wq bR) 0 _) 1 _) 2 _) 3 _) 4 _)
      clear KS
      replace RA : Hid (∀ y, Below (wq.heap.size) (((((wq.setCell ⟨w.heap.size, 0, none⟩ (.slice (some ⟨w.heap.size + 1, 0, none⟩) n n)).setCell ⟨w.heap.size, 1, none⟩ (.int .i64 (yn : Nat))).setCell ⟨w.heap.size, 2, none⟩ (.int .i64 0)).setCell ⟨w.heap.size, 3, none⟩ (.int .i64 (yn : Nat))).setCell ⟨w.heap.size, 4, none⟩ (.slice (some ⟨w.heap.size + 1 + 1, 0, none⟩) c c)) y → RowAt y (w.heap.size + 1) n (fun _ => .int .i64 0)) := fun y hy => RowAt.below ((((((RA.out wq (Below.refl _ _)).other _ _ (by show w.heap.size ≠ _; omega)).other _ _ (by show w.heap.size ≠ _; omega)).other _ _ (by show w.heap.size ≠ _; omega)).other _ _ (by show w.heap.size ≠ _; omega)).other _ _ (by show w.heap.size ≠ _; omega)) hy (by omega)
      replace RC : Hid (∀ y, Below (wq.heap.size) (((((wq.setCell ⟨w.heap.size, 0, none⟩ (.slice (some ⟨w.heap.size + 1, 0, none⟩) n n)).setCell ⟨w.heap.size, 1, none⟩ (.int .i64 (yn : Nat))).setCell ⟨w.heap.size, 2, none⟩ (.int .i64 0)).setCell ⟨w.heap.size, 3, none⟩ (.int .i64 (yn : Nat))).setCell ⟨w.heap.size, 4, none⟩ (.slice (some ⟨w.heap.size + 1 + 1, 0, none⟩) c c)) y → RowAt y (w.heap.size + 1 + 1) c (fun _ => .bool false)) := fun y hy => RowAt.below ((((((RC.out wq (Below.refl _ _)).other _ _ (by show w.heap.size ≠ _; omega)).other _ _ (by show w.heap.size ≠ _; omega)).other _ _ (by show w.heap.size ≠ _; omega)).other _ _ (by show w.heap.size ≠ _; omega)).other _ _ (by show w.heap.size ≠ _; omega)) hy (by omega)
      replace B : Hid (∀ y, Below (wq.heap.size) (((((wq.setCell ⟨w.heap.size, 0, none⟩ (.slice (some ⟨w.heap.size + 1, 0, none⟩) n n)).setCell ⟨w.heap.size, 1, none⟩ (.int .i64 (yn : Nat))).setCell ⟨w.heap.size, 2, none⟩ (.int .i64 0)).setCell ⟨w.heap.size, 3, none⟩ (.int .i64 (yn : Nat))).setCell ⟨w.heap.size, 4, none⟩ (.slice (some ⟨w.heap.size + 1 + 1, 0, none⟩) c c)) y → Below w.heap.size w y) := fun y hy => ((((((B.out wq bR).setCell hw0 _).setCell hw0 _).setCell hw0 _).setCell hw0 _).setCell hw0 _).trans (hy.mono (by first | omega | exact Nat.le_trans (B.out wq bR).size hz | (have := (B.out wq bR).size; omega)))
      replace hz : wq.heap.size ≤ (((((wq.setCell ⟨w.heap.size, 0, none⟩ (.slice (some ⟨w.heap.size + 1, 0, none⟩) n n)).setCell ⟨w.heap.size, 1, none⟩ (.int .i64 (yn : Nat))).setCell ⟨w.heap.size, 2, none⟩ (.int .i64 0)).setCell ⟨w.heap.size, 3, none⟩ (.int .i64 (yn : Nat))).setCell ⟨w.heap.size, 4, none⟩ (.slice (some ⟨w.heap.size + 1 + 1, 0, none⟩) c c)).heap.size := by first | (simp; done) | simpa using hz
      clear hw0
      have KS : Hid (∀ x, Below (wq.heap.size) (((((wq.setCell ⟨w.heap.size, 0, none⟩ (.slice (some ⟨w.heap.size + 1, 0, none⟩) n n)).setCell ⟨w.heap.size, 1, none⟩ (.int .i64 (yn : Nat))).setCell ⟨w.heap.size, 2, none⟩ (.int .i64 0)).setCell ⟨w.heap.size, 3, none⟩ (.int .i64 (yn : Nat))).setCell ⟨w.heap.size, 4, none⟩ (.slice (some ⟨w.heap.size + 1 + 1, 0, none⟩) c c)) x → True) := fun x hx => trivial
      refine hK.out _ _ (KS.out _ (bdrew bR)) (fun hHeld5 => ?_)
      clear hK K
      try simp only [Act.put, List.getElem_toArray, List.getElem_cons_zero, List.getElem_cons_succ, List.setIfInBounds_toArray, List.set_cons_zero, List.set_cons_succ]
      refine wpAnyH_done (by kernel_rfl) ?_ _
      clear hHeld hHeld2 hHeld3 hHeld4 hHeld5
      clear KS hmk1 hmk2
      replace B := lD B
      replace RA := lD RA
      replace RC := lD RC
      replace XR := lD XR
      replace hz : wq.heap.size ≤ ((((((wq.setCell ⟨w.heap.size, 0, none⟩ (.slice (some ⟨w.heap.size + 1, 0, none⟩) n n)).setCell ⟨w.heap.size, 1, none⟩ (.int .i64 (yn : Nat))).setCell ⟨w.heap.size, 2, none⟩ (.int .i64 0)).setCell ⟨w.heap.size, 3, none⟩ (.int .i64 (yn : Nat))).setCell ⟨w.heap.size, 4, none⟩ (.slice (some ⟨w.heap.size + 1 + 1, 0, none⟩) c c)).drew).heap.size := Nat.le_trans hz (Below.size (bdrew (Below.refl (wq.heap.size) (((((wq.setCell ⟨w.heap.size, 0, none⟩ (.slice (some ⟨w.heap.size + 1, 0, none⟩) n n)).setCell ⟨w.heap.size, 1, none⟩ (.int .i64 (yn : Nat))).setCell ⟨w.heap.size, 2, none⟩ (.int .i64 0)).setCell ⟨w.heap.size, 3, none⟩ (.int .i64 (yn : Nat))).setCell ⟨w.heap.size, 4, none⟩ (.slice (some ⟨w.heap.size + 1 + 1, 0, none⟩) c c)))))
      have BF : Hid (Below w.heap.size w (((((((wq.setCell ⟨w.heap.size, 0, none⟩ (.slice (some ⟨w.heap.size + 1, 0, none⟩) n n)).setCell ⟨w.heap.size, 1, none⟩ (.int .i64 (yn : Nat))).setCell ⟨w.heap.size, 2, none⟩ (.int .i64 0)).setCell ⟨w.heap.size, 3, none⟩ (.int .i64 (yn : Nat))).setCell ⟨w.heap.size, 4, none⟩ (.slice (some ⟨w.heap.size + 1 + 1, 0, none⟩) c c)).drew))) := B.out _ (Below.refl _ _)
      have RF : Hid (RowAt (((((((wq.setCell ⟨w.heap.size, 0, none⟩ (.slice (some ⟨w.heap.size + 1, 0, none⟩) n n)).setCell ⟨w.heap.size, 1, none⟩ (.int .i64 (yn : Nat))).setCell ⟨w.heap.size, 2, none⟩ (.int .i64 0)).setCell ⟨w.heap.size, 3, none⟩ (.int .i64 (yn : Nat))).setCell ⟨w.heap.size, 4, none⟩ (.slice (some ⟨w.heap.size + 1 + 1, 0, none⟩) c c)).drew)) (w.heap.size + 1) n (fun _ => .int .i64 0)) := RA.out _ (Below.refl _ _)
      have CF : Hid (RowAt (((((((wq.setCell ⟨w.heap.size, 0, none⟩ (.slice (some ⟨w.heap.size + 1, 0, none⟩) n n)).setCell ⟨w.heap.size, 1, none⟩ (.int .i64 (yn : Nat))).setCell ⟨w.heap.size, 2, none⟩ (.int .i64 0)).setCell ⟨w.heap.size, 3, none⟩ (.int .i64 (yn : Nat))).setCell ⟨w.heap.size, 4, none⟩ (.slice (some ⟨w.heap.size + 1 + 1, 0, none⟩) c c)).drew)) (w.heap.size + 1 + 1) c (fun _ => .bool false)) := RC.out _ (Below.refl _ _)
      have XC : Hid ((((((((wq.setCell ⟨w.heap.size, 0, none⟩ (.slice (some ⟨w.heap.size + 1, 0, none⟩) n n)).setCell ⟨w.heap.size, 1, none⟩ (.int .i64 (yn : Nat))).setCell ⟨w.heap.size, 2, none⟩ (.int .i64 0)).setCell ⟨w.heap.size, 3, none⟩ (.int .i64 (yn : Nat))).setCell ⟨w.heap.size, 4, none⟩ (.slice (some ⟨w.heap.size + 1 + 1, 0, none⟩) c c)).drew)).heap[w.heap.size]? = some (.cells #[.slice (some ⟨w.heap.size + 1, 0, none⟩) n n, .int .i64 (yn : Nat), .int .i64 0, .int .i64 (yn : Nat), .slice (some ⟨w.heap.size + 1 + 1, 0, none⟩) c c] 28 (0, 0))) := XR.out _ (Below.refl _ _)
      clear B RA RC XR hz
      generalize ((((((wq.setCell ⟨w.heap.size, 0, none⟩ (.slice (some ⟨w.heap.size + 1, 0, none⟩) n n)).setCell ⟨w.heap.size, 1, none⟩ (.int .i64 (yn : Nat))).setCell ⟨w.heap.size, 2, none⟩ (.int .i64 0)).setCell ⟨w.heap.size, 3, none⟩ (.int .i64 (yn : Nat))).setCell ⟨w.heap.size, 4, none⟩ (.slice (some ⟨w.heap.size + 1 + 1, 0, none⟩) c c)).drew) = wF at RF CF BF XC ⊢
      have kXC0 : wF.cell? ⟨w.heap.size, 0, none⟩ = some (.slice (some ⟨w.heap.size + 1, 0, none⟩) n n) := (boxG XC.out 0).1
      have kXC1 : wF.cell? ⟨w.heap.size, 1, none⟩ = some (.int .i64 (yn : Nat)) := (boxG XC.out 1).1
      have kXC2 : wF.cell? ⟨w.heap.size, 2, none⟩ = some (.int .i64 0) := (boxG XC.out 2).1
      have kXC3 : wF.cell? ⟨w.heap.size, 3, none⟩ = some (.int .i64 (yn : Nat)) := (boxG XC.out 3).1
      have kXC4 : wF.cell? ⟨w.heap.size, 4, none⟩ = some (.slice (some ⟨w.heap.size + 1 + 1, 0, none⟩) c c) := (boxG XC.out 4).1
      rename_i K0 hK0
      refine hK0 _ _ (wp_ret ?_)
      refine bodyPost_ret (v := .agg #[.slice (some ⟨w.heap.size + 1, 0, none⟩) n n, .int .i64 (yn : Nat), .int .i64 0, .int .i64 (yn : Nat), .slice (some ⟨w.heap.size + 1 + 1, 0, none⟩) c c]) ?_ rfl ?_
      · simp [results, Try.results7, go_sem, kXC0, kXC1, kXC2, kXC3, kXC4]
      · refine ⟨(fun h => by rw [YES.out] at h; cases h), fun _ => ⟨w.heap.size + 1, w.heap.size + 1 + 1, yn, on, rfl, rfl, by omega, by omega, by omega, by rw [HN.out, HC.out], ?_, ?_⟩, BF.out⟩
        · rw [HN.out]; exact RF.out
        · rw [HC.out]; exact CF.out
    · go_simp
      have BP : Hid (Below (w.heap.size + 1) (w.alloc (.cells #[.slice none 0 0, .int .i64 0, .int .i64 0, .int .i64 0, .slice none 0 0] 28)) ((w.alloc (.cells #[.slice none 0 0, .int .i64 0, .int .i64 0, .int .i64 0, .slice none 0 0] 28)).alloc (.cells (madeCells #[.bool false] c) 4))) := bR.alloc (by first | exact hz | (simp; done) | (simp; omega) | (have := hz; simp at this ⊢; omega)) _
      replace B := lA B BP
      replace KS := lA KS BP
      replace XR := lA XR BP
      replace lR := lL lR
      have RC : Hid (∀ y, Below (w.heap.size + 1 + 1) ((w.alloc (.cells #[.slice none 0 0, .int .i64 0, .int .i64 0, .int .i64 0, .slice none 0 0] 28)).alloc (.cells (madeCells #[.bool false] c) 4)) y → RowAt y (w.heap.size + 1) c (fun _ => .bool false)) := fun y hy => made_row hy (by omega) (by simp)
      replace hz : w.heap.size + 1 + 1 ≤ (((w.alloc (.cells #[.slice none 0 0, .int .i64 0, .int .i64 0, .int .i64 0, .slice none 0 0] 28)).alloc (.cells (madeCells #[.bool false] c) 4))).heap.size := by simp
      clear BP
      refine hK.out _ _ (KS.out _ (bdrew bR)) (fun hHeld3 => ?_)
      clear hK K
      try simp only [Act.put, List.getElem_toArray, List.getElem_cons_zero, List.getElem_cons_succ, List.setIfInBounds_toArray, List.set_cons_zero, List.set_cons_succ]
      refine wpAnyH_ready (rs := [3]) (by kernel_rfl) (by simp) ?_
      refine AllReadyH.cons rfl (fun K hK => ?_) AllReadyH.nil
      go_simp
      have BP : Hid (Below (w.heap.size + 1 + 1) ((w.alloc (.cells #[.slice none 0 0, .int .i64 0, .int .i64 0, .int .i64 0, .slice none 0 0] 28)).alloc (.cells (madeCells #[.bool false] c) 4)) (((w.alloc (.cells #[.slice none 0 0, .int .i64 0, .int .i64 0, .int .i64 0, .slice none 0 0] 28)).alloc (.cells (madeCells #[.bool false] c) 4)).alloc (.cells (madeCells #[.int .i64 0] n) 3))) := bR.alloc (by first | exact hz | (simp; done) | (simp; omega) | (have := hz; simp at this ⊢; omega)) _
      replace B := lA B BP
      replace KS := lA KS BP
      replace RC := lA RC BP
      replace XR := lA XR BP
      replace lR := lL lR
      have RA : Hid (∀ y, Below (w.heap.size + 1 + 1 + 1) (((w.alloc (.cells #[.slice none 0 0, .int .i64 0, .int .i64 0, .int .i64 0, .slice none 0 0] 28)).alloc (.cells (madeCells #[.bool false] c) 4)).alloc (.cells (madeCells #[.int .i64 0] n) 3)) y → RowAt y (w.heap.size + 1 + 1) n (fun _ => .int .i64 0)) := fun y hy => made_row hy (by omega) (by simp)
      replace hz : w.heap.size + 1 + 1 + 1 ≤ ((((w.alloc (.cells #[.slice none 0 0, .int .i64 0, .int .i64 0, .int .i64 0, .slice none 0 0] 28)).alloc (.cells (madeCells #[.bool false] c) 4)).alloc (.cells (madeCells #[.int .i64 0] n) 3))).heap.size := by simp
      clear BP
      refine hK.out _ _ (KS.out _ (bdrew bR)) (fun hHeld4 => ?_)
      clear hK K
      try simp only [Act.put, List.getElem_toArray, List.getElem_cons_zero, List.getElem_cons_succ, List.setIfInBounds_toArray, List.set_cons_zero, List.set_cons_succ]
      refine tV 9 (v := ?_) rfl (by kernel_rfl) (fun _ _ _ h => h) ?_ (by assumption) ?_
      rotate_left 1
      · (intro x hSx; (try dsimp only at hSx); go_simp; try with_reducible rfl)
      try simp only [Act.put, List.getElem_toArray, List.getElem_cons_zero, List.getElem_cons_succ, List.setIfInBounds_toArray, List.set_cons_zero, List.set_cons_succ]
      refine wpAnyH_ready (rs := [10]) (by kernel_rfl) (by simp) ?_
      refine AllReadyH.cons rfl (fun K hK => ?_) AllReadyH.nil
      generalize (((w.alloc (.cells #[.slice none 0 0, .int .i64 0, .int .i64 0, .int .i64 0, .slice none 0 0] 28)).alloc (.cells (madeCells #[.bool false] c) 4)).alloc (.cells (madeCells #[.int .i64 0] n) 3)) = wq at B KS RC RA XR hz ⊢
      have hzn : w.heap.size + 1 + 1 + 1 ≤ wq.heap.size := Nat.le_trans hz (Below.size (Below.refl (w.heap.size + 1 + 1 + 1) wq))
      replace B := lF B (Below.refl (w.heap.size + 1 + 1 + 1) wq) hzn
      replace KS := lF KS (Below.refl (w.heap.size + 1 + 1 + 1) wq) hzn
      replace RC := lF RC (Below.refl (w.heap.size + 1 + 1 + 1) wq) hzn
      replace RA := lF RA (Below.refl (w.heap.size + 1 + 1 + 1) wq) hzn
      replace XR := lF XR (Below.refl (w.heap.size + 1 + 1 + 1) wq) hzn
      replace lR := Nat.lt_of_lt_of_le lR hzn
      clear hz
      have hz : wq.heap.size ≤ wq.heap.size := Nat.le_refl _
      obtain ⟨kR0, kR1, kR2, kR3, kR4⟩ := bk5 (XR.out wq bR)
      obtain ⟨qkR0, qkR1, qkR2, qkR3, qkR4⟩ := bq5 (XR.out wq bR)
      go_simp
      clear kR0 kR1 kR2 kR3 kR4 qkR0 qkR1 qkR2 qkR3 qkR4
      have hw0 : w.heap.size ≤ w.heap.size := (by first | omega | (simp; done) | (simp; omega) | (simp at *; omega))
      replace XR : Hid (∀ y, Below (wq.heap.size) (((((wq.setCell ⟨w.heap.size, 0, none⟩ (.slice (some ⟨w.heap.size + 1 + 1, 0, none⟩) n n)).setCell ⟨w.heap.size, 1, none⟩ (.int .i64 (yn : Nat))).setCell ⟨w.heap.size, 2, none⟩ (.int .i64 0)).setCell ⟨w.heap.size, 3, none⟩ (.int .i64 (yn : Nat))).setCell ⟨w.heap.size, 4, none⟩ (.slice (some ⟨w.heap.size + 1, 0, none⟩) c c)) y → y.heap[w.heap.size]? = some (.cells #[.slice (some ⟨w.heap.size + 1 + 1, 0, none⟩) n n, .int .i64 (yn : Nat), .int .i64 0, .int .i64 (yn : Nat), .slice (some ⟨w.heap.size + 1, 0, none⟩) c c] 28 (0, 0))) := fun y hy => (hy.block _ (by omega)).trans (boxS (boxS (boxS (boxS (boxS (XR.out wq bR) 0 _) 1 _) 2 _) 3 _) 4 _)
      clear KS
      replace RC : Hid (∀ y, Below (wq.heap.size) (((((wq.setCell ⟨w.heap.size, 0, none⟩ (.slice (some ⟨w.heap.size + 1 + 1, 0, none⟩) n n)).setCell ⟨w.heap.size, 1, none⟩ (.int .i64 (yn : Nat))).setCell ⟨w.heap.size, 2, none⟩ (.int .i64 0)).setCell ⟨w.heap.size, 3, none⟩ (.int .i64 (yn : Nat))).setCell ⟨w.heap.size, 4, none⟩ (.slice (some ⟨w.heap.size + 1, 0, none⟩) c c)) y → RowAt y (w.heap.size + 1) c (fun _ => .bool false)) := fun y hy => RowAt.below ((((((RC.out wq (Below.refl _ _)).other _ _ (by show w.heap.size ≠ _; omega)).other _ _ (by show w.heap.size ≠ _; omega)).other _ _ (by show w.heap.size ≠ _; omega)).other _ _ (by show w.heap.size ≠ _; omega)).other _ _ (by show w.heap.size ≠ _; omega)) hy (by omega)
      replace RA : Hid (∀ y, Below (wq.heap.size) (((((wq.setCell ⟨w.heap.size, 0, none⟩ (.slice (some ⟨w.heap.size + 1 + 1, 0, none⟩) n n)).setCell ⟨w.heap.size, 1, none⟩ (.int .i64 (yn : Nat))).setCell ⟨w.heap.size, 2, none⟩ (.int .i64 0)).setCell ⟨w.heap.size, 3, none⟩ (.int .i64 (yn : Nat))).setCell ⟨w.heap.size, 4, none⟩ (.slice (some ⟨w.heap.size + 1, 0, none⟩) c c)) y → RowAt y (w.heap.size + 1 + 1) n (fun _ => .int .i64 0)) := fun y hy => RowAt.below ((((((RA.out wq (Below.refl _ _)).other _ _ (by show w.heap.size ≠ _; omega)).other _ _ (by show w.heap.size ≠ _; omega)).other _ _ (by show w.heap.size ≠ _; omega)).other _ _ (by show w.heap.size ≠ _; omega)).other _ _ (by show w.heap.size ≠ _; omega)) hy (by omega)
      replace B : Hid (∀ y, Below (wq.heap.size) (((((wq.setCell ⟨w.heap.size, 0, none⟩ (.slice (some ⟨w.heap.size + 1 + 1, 0, none⟩) n n)).setCell ⟨w.heap.size, 1, none⟩ (.int .i64 (yn : Nat))).setCell ⟨w.heap.size, 2, none⟩ (.int .i64 0)).setCell ⟨w.heap.size, 3, none⟩ (.int .i64 (yn : Nat))).setCell ⟨w.heap.size, 4, none⟩ (.slice (some ⟨w.heap.size + 1, 0, none⟩) c c)) y → Below w.heap.size w y) := fun y hy => ((((((B.out wq bR).setCell hw0 _).setCell hw0 _).setCell hw0 _).setCell hw0 _).setCell hw0 _).trans (hy.mono (by first | omega | exact Nat.le_trans (B.out wq bR).size hz | (have := (B.out wq bR).size; omega)))
      replace hz : wq.heap.size ≤ (((((wq.setCell ⟨w.heap.size, 0, none⟩ (.slice (some ⟨w.heap.size + 1 + 1, 0, none⟩) n n)).setCell ⟨w.heap.size, 1, none⟩ (.int .i64 (yn : Nat))).setCell ⟨w.heap.size, 2, none⟩ (.int .i64 0)).setCell ⟨w.heap.size, 3, none⟩ (.int .i64 (yn : Nat))).setCell ⟨w.heap.size, 4, none⟩ (.slice (some ⟨w.heap.size + 1, 0, none⟩) c c)).heap.size := by first | (simp; done) | simpa using hz
      clear hw0
      have KS : Hid (∀ x, Below (wq.heap.size) (((((wq.setCell ⟨w.heap.size, 0, none⟩ (.slice (some ⟨w.heap.size + 1 + 1, 0, none⟩) n n)).setCell ⟨w.heap.size, 1, none⟩ (.int .i64 (yn : Nat))).setCell ⟨w.heap.size, 2, none⟩ (.int .i64 0)).setCell ⟨w.heap.size, 3, none⟩ (.int .i64 (yn : Nat))).setCell ⟨w.heap.size, 4, none⟩ (.slice (some ⟨w.heap.size + 1, 0, none⟩) c c)) x → True) := fun x hx => trivial
      refine hK.out _ _ (KS.out _ (bdrew bR)) (fun hHeld5 => ?_)
      clear hK K
      try simp only [Act.put, List.getElem_toArray, List.getElem_cons_zero, List.getElem_cons_succ, List.setIfInBounds_toArray, List.set_cons_zero, List.set_cons_succ]
      refine wpAnyH_done (by kernel_rfl) ?_ _
      clear hHeld hHeld2 hHeld3 hHeld4 hHeld5
      clear KS hmk1 hmk2
      replace B := lD B
      replace RC := lD RC
      replace RA := lD RA
      replace XR := lD XR
      replace hz : wq.heap.size ≤ ((((((wq.setCell ⟨w.heap.size, 0, none⟩ (.slice (some ⟨w.heap.size + 1 + 1, 0, none⟩) n n)).setCell ⟨w.heap.size, 1, none⟩ (.int .i64 (yn : Nat))).setCell ⟨w.heap.size, 2, none⟩ (.int .i64 0)).setCell ⟨w.heap.size, 3, none⟩ (.int .i64 (yn : Nat))).setCell ⟨w.heap.size, 4, none⟩ (.slice (some ⟨w.heap.size + 1, 0, none⟩) c c)).drew).heap.size := Nat.le_trans hz (Below.size (bdrew (Below.refl (wq.heap.size) (((((wq.setCell ⟨w.heap.size, 0, none⟩ (.slice (some ⟨w.heap.size + 1 + 1, 0, none⟩) n n)).setCell ⟨w.heap.size, 1, none⟩ (.int .i64 (yn : Nat))).setCell ⟨w.heap.size, 2, none⟩ (.int .i64 0)).setCell ⟨w.heap.size, 3, none⟩ (.int .i64 (yn : Nat))).setCell ⟨w.heap.size, 4, none⟩ (.slice (some ⟨w.heap.size + 1, 0, none⟩) c c)))))
      have BF : Hid (Below w.heap.size w (((((((wq.setCell ⟨w.heap.size, 0, none⟩ (.slice (some ⟨w.heap.size + 1 + 1, 0, none⟩) n n)).setCell ⟨w.heap.size, 1, none⟩ (.int .i64 (yn : Nat))).setCell ⟨w.heap.size, 2, none⟩ (.int .i64 0)).setCell ⟨w.heap.size, 3, none⟩ (.int .i64 (yn : Nat))).setCell ⟨w.heap.size, 4, none⟩ (.slice (some ⟨w.heap.size + 1, 0, none⟩) c c)).drew))) := B.out _ (Below.refl _ _)
      have RF : Hid (RowAt (((((((wq.setCell ⟨w.heap.size, 0, none⟩ (.slice (some ⟨w.heap.size + 1 + 1, 0, none⟩) n n)).setCell ⟨w.heap.size, 1, none⟩ (.int .i64 (yn : Nat))).setCell ⟨w.heap.size, 2, none⟩ (.int .i64 0)).setCell ⟨w.heap.size, 3, none⟩ (.int .i64 (yn : Nat))).setCell ⟨w.heap.size, 4, none⟩ (.slice (some ⟨w.heap.size + 1, 0, none⟩) c c)).drew)) (w.heap.size + 1 + 1) n (fun _ => .int .i64 0)) := RA.out _ (Below.refl _ _)
      have CF : Hid (RowAt (((((((wq.setCell ⟨w.heap.size, 0, none⟩ (.slice (some ⟨w.heap.size + 1 + 1, 0, none⟩) n n)).setCell ⟨w.heap.size, 1, none⟩ (.int .i64 (yn : Nat))).setCell ⟨w.heap.size, 2, none⟩ (.int .i64 0)).setCell ⟨w.heap.size, 3, none⟩ (.int .i64 (yn : Nat))).setCell ⟨w.heap.size, 4, none⟩ (.slice (some ⟨w.heap.size + 1, 0, none⟩) c c)).drew)) (w.heap.size + 1) c (fun _ => .bool false)) := RC.out _ (Below.refl _ _)
      have XC : Hid ((((((((wq.setCell ⟨w.heap.size, 0, none⟩ (.slice (some ⟨w.heap.size + 1 + 1, 0, none⟩) n n)).setCell ⟨w.heap.size, 1, none⟩ (.int .i64 (yn : Nat))).setCell ⟨w.heap.size, 2, none⟩ (.int .i64 0)).setCell ⟨w.heap.size, 3, none⟩ (.int .i64 (yn : Nat))).setCell ⟨w.heap.size, 4, none⟩ (.slice (some ⟨w.heap.size + 1, 0, none⟩) c c)).drew)).heap[w.heap.size]? = some (.cells #[.slice (some ⟨w.heap.size + 1 + 1, 0, none⟩) n n, .int .i64 (yn : Nat), .int .i64 0, .int .i64 (yn : Nat), .slice (some ⟨w.heap.size + 1, 0, none⟩) c c] 28 (0, 0))) := XR.out _ (Below.refl _ _)
      clear B RC RA XR hz
      generalize ((((((wq.setCell ⟨w.heap.size, 0, none⟩ (.slice (some ⟨w.heap.size + 1 + 1, 0, none⟩) n n)).setCell ⟨w.heap.size, 1, none⟩ (.int .i64 (yn : Nat))).setCell ⟨w.heap.size, 2, none⟩ (.int .i64 0)).setCell ⟨w.heap.size, 3, none⟩ (.int .i64 (yn : Nat))).setCell ⟨w.heap.size, 4, none⟩ (.slice (some ⟨w.heap.size + 1, 0, none⟩) c c)).drew) = wF at RF CF BF XC ⊢
      have kXC0 : wF.cell? ⟨w.heap.size, 0, none⟩ = some (.slice (some ⟨w.heap.size + 1 + 1, 0, none⟩) n n) := (boxG XC.out 0).1
      have kXC1 : wF.cell? ⟨w.heap.size, 1, none⟩ = some (.int .i64 (yn : Nat)) := (boxG XC.out 1).1
      have kXC2 : wF.cell? ⟨w.heap.size, 2, none⟩ = some (.int .i64 0) := (boxG XC.out 2).1
      have kXC3 : wF.cell? ⟨w.heap.size, 3, none⟩ = some (.int .i64 (yn : Nat)) := (boxG XC.out 3).1
      have kXC4 : wF.cell? ⟨w.heap.size, 4, none⟩ = some (.slice (some ⟨w.heap.size + 1, 0, none⟩) c c) := (boxG XC.out 4).1
      rename_i K0 hK0
      refine hK0 _ _ (wp_ret ?_)
      refine bodyPost_ret (v := .agg #[.slice (some ⟨w.heap.size + 1 + 1, 0, none⟩) n n, .int .i64 (yn : Nat), .int .i64 0, .int .i64 (yn : Nat), .slice (some ⟨w.heap.size + 1, 0, none⟩) c c]) ?_ rfl ?_
      · simp [results, Try.results7, go_sem, kXC0, kXC1, kXC2, kXC3, kXC4]
      · refine ⟨(fun h => by rw [YES.out] at h; cases h), fun _ => ⟨w.heap.size + 1 + 1, w.heap.size + 1, yn, on, rfl, rfl, by omega, by omega, by omega, by rw [HN.out, HC.out], ?_, ?_⟩, BF.out⟩
        · rw [HN.out]; exact RF.out
        · rw [HC.out]; exact CF.out
set_option maxRecDepth 100000 in
set_option maxHeartbeats 8000000 in
theorem newImpl21 (yg od : Int) (w : World) : Calls Try.prog 5 #[.int .i64 yg, .int .i64 od] w (NewMP w yg od) := by
  have hz : w.heap.size + 1 ≤ (w.alloc (.cells #[.slice none 0 0, .int .i64 0, .int .i64 0, .int .i64 0, .slice none 0 0] 28)).heap.size := by simp
  have B : Hid (∀ y, Below (w.heap.size + 1) (w.alloc (.cells #[.slice none 0 0, .int .i64 0, .int .i64 0, .int .i64 0, .slice none 0 0] 28)) y → Below w.heap.size w y) := fun y hy => (bR.alloc (by first | exact Nat.le_refl _ | (simp; done) | (simp; omega)) _).trans (hy.mono (by omega))
  have XR : Hid (∀ y, Below (w.heap.size + 1) (w.alloc (.cells #[.slice none 0 0, .int .i64 0, .int .i64 0, .int .i64 0, .slice none 0 0] 28)) y → y.heap[w.heap.size]? = some (.cells #[.slice none 0 0, .int .i64 0, .int .i64 0, .int .i64 0, .slice none 0 0] 28 (0, 0))) := fun y hy => (hy.block _ (by omega)).trans (boxN _ _ _ _ (by simp))
  have lR : w.heap.size < w.heap.size + 1 := by omega
  go_enter Try.func5, Try.ntmps5
  go_wp2_with fail
  refine (areSizesImpl yg od _).mono ?_
  rintro e w9 ⟨rfl, rfl⟩
  cases q : (inI yg 0 40 && inI od 14 120)
  · have NO : Hid (newOk yg od = false) := q
    obtain ⟨kR0, kR1, kR2, kR3, kR4⟩ := bk5 (XR.out (w.alloc (.cells #[.slice none 0 0, .int .i64 0, .int .i64 0, .int .i64 0, .slice none 0 0] 28)) bR)
    obtain ⟨qkR0, qkR1, qkR2, qkR3, qkR4⟩ := bq5 (XR.out (w.alloc (.cells #[.slice none 0 0, .int .i64 0, .int .i64 0, .int .i64 0, .slice none 0 0] 28)) bR)
    go_wp2_with fail
    refine bodyPost_ret (v := .agg #[.slice none 0 0, .int .i64 0, .int .i64 0, .int .i64 0, .slice none 0 0]) ?_ rfl ?_
    · simp [results, Try.results5, go_sem, *]
    · exact ⟨fun _ => rfl, (fun h => by rw [NO.out] at h; cases h), by (repeat (refine Below.setCell ?_ (by first | omega | (simp; done) | (simp; omega)) _)); exact B.out _ (Below.refl _ _)⟩
  have YES : Hid (newOk yg od = true) := q
  obtain ⟨q1, q2⟩ := Bool.and_eq_true_iff.1 q
  have h1 := inI_iff.1 q1
  have h2 := inI_iff.1 q2
  clear q q1 q2
  obtain ⟨yn, rfl⟩ : ∃ n : Nat, yg = n := ⟨yg.toNat, by omega⟩
  obtain ⟨on, rfl⟩ : ∃ n : Nat, od = n := ⟨od.toNat, by omega⟩
  obtain ⟨n, hn⟩ : ∃ n, yn + on = n := ⟨_, rfl⟩
  obtain ⟨c, hc⟩ : ∃ c, crdN on = c := ⟨_, rfl⟩
  have HN : Hid (yn + on = n) := hn
  have HC : Hid (crdN on = c) := hc
  have hc2 : c ≤ 40 := by rw [← hc]; unfold crdN; omega
  have hadd : IntKind.i64.wrap ((yn : Int) + (on : Int)) = (n : Int) := by rw [IntKind.wrap_i64] <;> omega
  have CR : Hid (crd (on : Int) = (c : Int)) := by show _ = _; rw [crd_nat, hc]
  have hmk1 := fun wx => run_make_row' (P := Try.prog) 25 3 (.int .i64 0) 8 Try.underlying25 info_int9 rfl .i64 .i64 n (by omega) (by omega) wx
  have hmk2 := fun wx => run_make_row' (P := Try.prog) 26 4 (.bool false) 1 Try.underlying26 info_boo2 rfl .i64 .i64 c (by omega) (by omega) wx
  clear hc
  go_wp2_with fail
  have KS : Hid (∀ x, Below (w.heap.size + 1) (w.alloc (.cells #[.slice none 0 0, .int .i64 0, .int .i64 0, .int .i64 0, .slice none 0 0] 28)) x → True) := fun x hx => trivial
  refine wp_region_held_drew (S := fun x => True) (by kernel_rfl) ?_ (fun hHeld => ?_)
  · exact KS.out _ (bdrew bR)
  refine tV 0 (v := ?_) rfl (by kernel_rfl) (fun _ _ _ h => h) ?_ (by assumption) ?_
  rotate_left 1
  · (intro x hSx; (try dsimp only at hSx); go_simp; try with_reducible rfl)
  try simp only [Act.put, List.getElem_toArray, List.getElem_cons_zero, List.setIfInBounds_toArray, List.set_cons_zero, List.set_cons_succ]
  refine tV 1 (v := ?_) rfl (by kernel_rfl) (fun _ _ _ h => h) ?_ (by assumption) ?_
  rotate_left 1
  · (intro x hSx; (try dsimp only at hSx); go_simp; try with_reducible rfl)
  try simp only [Act.put, List.getElem_toArray, List.getElem_cons_zero, List.getElem_cons_succ, List.setIfInBounds_toArray, List.set_cons_zero, List.set_cons_succ]
  refine tV 2 (v := ?_) rfl (by kernel_rfl) (fun _ _ _ h => h) ?_ (by assumption) ?_
  rotate_left 1
  · (intro x hSx; (try dsimp only at hSx); go_simp; try with_reducible rfl)
  try simp only [Act.put, List.getElem_toArray, List.getElem_cons_zero, List.getElem_cons_succ, List.setIfInBounds_toArray, List.set_cons_zero, List.set_cons_succ]
  refine tV 4 (v := ?_) rfl (by kernel_rfl) (fun _ _ _ h => h) ?_ (by assumption) ?_
  rotate_left 1
  · (intro x hSx; (try dsimp only at hSx); go_simp; try with_reducible rfl)
  try simp only [Act.put, List.getElem_toArray, List.getElem_cons_zero, List.getElem_cons_succ, List.setIfInBounds_toArray, List.set_cons_zero, List.set_cons_succ]
  refine tV 5 (v := ?_) rfl (by kernel_rfl) (fun _ _ _ h => h) ?_ (by assumption) ?_
  rotate_left 1
  · (intro x hSx; (try dsimp only at hSx); go_simp; try with_reducible rfl)
  try simp only [Act.put, List.getElem_toArray, List.getElem_cons_zero, List.getElem_cons_succ, List.setIfInBounds_toArray, List.set_cons_zero, List.set_cons_succ]
  refine tV 6 (v := ?_) rfl (by kernel_rfl) (fun _ _ _ h => h) ?_ (by assumption) ?_
  rotate_left 1
  · (intro x hSx; (try dsimp only at hSx); go_simp; try with_reducible rfl)
  try simp only [Act.put, List.getElem_toArray, List.getElem_cons_zero, List.getElem_cons_succ, List.setIfInBounds_toArray, List.set_cons_zero, List.set_cons_succ]
  refine wpAnyH_ready (rs := [3, 7]) (by kernel_rfl) (by simp) ?_
  refine AllReadyH.cons rfl (fun K hK => ?_) (AllReadyH.cons rfl (fun K hK => ?_) AllReadyH.nil)
  · go_simp
    have BP : Hid (Below (w.heap.size + 1) (w.alloc (.cells #[.slice none 0 0, .int .i64 0, .int .i64 0, .int .i64 0, .slice none 0 0] 28)) ((w.alloc (.cells #[.slice none 0 0, .int .i64 0, .int .i64 0, .int .i64 0, .slice none 0 0] 28)).alloc (.cells (madeCells #[.int .i64 0] n) 3))) := bR.alloc (by first | exact hz | (simp; done) | (simp; omega) | (have := hz; simp at this ⊢; omega)) _
    replace B := lA B BP
    replace KS := lA KS BP
    replace XR := lA XR BP
    replace lR := lL lR
    have RA : Hid (∀ y, Below (w.heap.size + 1 + 1) ((w.alloc (.cells #[.slice none 0 0, .int .i64 0, .int .i64 0, .int .i64 0, .slice none 0 0] 28)).alloc (.cells (madeCells #[.int .i64 0] n) 3)) y → RowAt y (w.heap.size + 1) n (fun _ => .int .i64 0)) := fun y hy => made_row hy (by omega) (by simp)
    replace hz : w.heap.size + 1 + 1 ≤ (((w.alloc (.cells #[.slice none 0 0, .int .i64 0, .int .i64 0, .int .i64 0, .slice none 0 0] 28)).alloc (.cells (madeCells #[.int .i64 0] n) 3))).heap.size := by simp
    clear BP
    refine hK.out _ _ (KS.out _ (bdrew bR)) (fun hHeld2 => ?_)
    clear hK K
    try simp only [Act.put, List.getElem_toArray, List.getElem_cons_zero, List.getElem_cons_succ, List.setIfInBounds_toArray, List.set_cons_zero, List.set_cons_succ]
    refine wpAnyH_ready (rs := [7]) (by kernel_rfl) (by simp) ?_
    refine AllReadyH.cons rfl (fun K hK => ?_) AllReadyH.nil
    go_simp
    go_at_call 13
    refine (cardCountImpl (on : Int) (by omega) (by omega) _).mono ?_
    rintro e w9 ⟨rfl, rfl⟩
    rw [CR.out]
    go_wp2_with fail
    refine hK.out _ _ (KS.out _ (bdrew bR)) (fun hHeld3 => ?_)
    clear hK K
    try simp only [Act.put, List.getElem_toArray, List.getElem_cons_zero, List.getElem_cons_succ, List.setIfInBounds_toArray, List.set_cons_zero, List.set_cons_succ]
    refine wpAnyH_ready (rs := [8]) (by kernel_rfl) (by simp) ?_
    refine AllReadyH.cons rfl (fun K hK => ?_) AllReadyH.nil
    go_simp
    have BP : Hid (Below (w.heap.size + 1 + 1) ((w.alloc (.cells #[.slice none 0 0, .int .i64 0, .int .i64 0, .int .i64 0, .slice none 0 0] 28)).alloc (.cells (madeCells #[.int .i64 0] n) 3)) (((w.alloc (.cells #[.slice none 0 0, .int .i64 0, .int .i64 0, .int .i64 0, .slice none 0 0] 28)).alloc (.cells (madeCells #[.int .i64 0] n) 3)).alloc (.cells (madeCells #[.bool false] c) 4))) := bR.alloc (by first | exact hz | (simp; done) | (simp; omega) | (have := hz; simp at this ⊢; omega)) _
    replace B := lA B BP
    replace KS := lA KS BP
    replace RA := lA RA BP
    replace XR := lA XR BP
    replace lR := lL lR
    have RC : Hid (∀ y, Below (w.heap.size + 1 + 1 + 1) (((w.alloc (.cells #[.slice none 0 0, .int .i64 0, .int .i64 0, .int .i64 0, .slice none 0 0] 28)).alloc (.cells (madeCells #[.int .i64 0] n) 3)).alloc (.cells (madeCells #[.bool false] c) 4)) y → RowAt y (w.heap.size + 1 + 1) c (fun _ => .bool false)) := fun y hy => made_row hy (by omega) (by simp)
    replace hz : w.heap.size + 1 + 1 + 1 ≤ ((((w.alloc (.cells #[.slice none 0 0, .int .i64 0, .int .i64 0, .int .i64 0, .slice none 0 0] 28)).alloc (.cells (madeCells #[.int .i64 0] n) 3)).alloc (.cells (madeCells #[.bool false] c) 4))).heap.size := by simp
    clear BP
    refine hK.out _ _ (KS.out _ (bdrew bR)) (fun hHeld4 => ?_)
    clear hK K
    try simp only [Act.put, List.getElem_toArray, List.getElem_cons_zero, List.getElem_cons_succ, List.setIfInBounds_toArray, List.set_cons_zero, List.set_cons_succ]
    refine tV 9 (v := ?_) rfl (by kernel_rfl) (fun _ _ _ h => h) ?_ (by assumption) ?_
    rotate_left 1
    · (intro x hSx; (try dsimp only at hSx); go_simp; try with_reducible rfl)
    try simp only [Act.put, List.getElem_toArray, List.getElem_cons_zero, List.getElem_cons_succ, List.setIfInBounds_toArray, List.set_cons_zero, List.set_cons_succ]
    refine wpAnyH_ready (rs := [10]) (by kernel_rfl) (by simp) ?_
    refine AllReadyH.cons rfl (fun K hK => ?_) AllReadyH.nil
    generalize (((w.alloc (.cells #[.slice none 0 0, .int .i64 0, .int .i64 0, .int .i64 0, .slice none 0 0] 28)).alloc (.cells (madeCells #[.int .i64 0] n) 3)).alloc (.cells (madeCells #[.bool false] c) 4)) = wq at B KS RA RC XR hz ⊢
    have hzn : w.heap.size + 1 + 1 + 1 ≤ wq.heap.size := Nat.le_trans hz (Below.size (Below.refl (w.heap.size + 1 + 1 + 1) wq))
    replace B := lF B (Below.refl (w.heap.size + 1 + 1 + 1) wq) hzn
    replace KS := lF KS (Below.refl (w.heap.size + 1 + 1 + 1) wq) hzn
    replace RA := lF RA (Below.refl (w.heap.size + 1 + 1 + 1) wq) hzn
    replace RC := lF RC (Below.refl (w.heap.size + 1 + 1 + 1) wq) hzn
    replace XR := lF XR (Below.refl (w.heap.size + 1 + 1 + 1) wq) hzn
    replace lR := Nat.lt_of_lt_of_le lR hzn
    clear hz
    have hz : wq.heap.size ≤ wq.heap.size := Nat.le_refl _
    obtain ⟨kR0, kR1, kR2, kR3, kR4⟩ := bk5 (XR.out wq bR)
    obtain ⟨qkR0, qkR1, qkR2, qkR3, qkR4⟩ := bq5 (XR.out wq bR)
    go_simp
    clear kR0 kR1 kR2 kR3 kR4 qkR0 qkR1 qkR2 qkR3 qkR4
    have hw0 : w.heap.size ≤ w.heap.size := (by first | omega | (simp; done) | (simp; omega) | (simp at *; omega))
    replace XR : Hid (∀ y, Below (wq.heap.size) (((((wq.setCell ⟨w.heap.size, 0, none⟩ (.slice (some ⟨w.heap.size + 1, 0, none⟩) n n)).setCell ⟨w.heap.size, 1, none⟩ (.int .i64 (yn : Nat))).setCell ⟨w.heap.size, 2, none⟩ (.int .i64 0)).setCell ⟨w.heap.size, 3, none⟩ (.int .i64 (yn : Nat))).setCell ⟨w.heap.size, 4, none⟩ (.slice (some ⟨w.heap.size + 1 + 1, 0, none⟩) c c)) y → y.heap[w.heap.size]? = some (.cells #[.slice (some ⟨w.heap.size + 1, 0, none⟩) n n, .int .i64 (yn : Nat), .int .i64 0, .int .i64 (yn : Nat), .slice (some ⟨w.heap.size + 1 + 1, 0, none⟩) c c] 28 (0, 0))) := fun y hy => (hy.block _ (by omega)).trans (boxS (boxS (boxS (boxS (boxS (XR.out wq bR) 0 _) 1 _) 2 _) 3 _) 4 _)
    clear KS
    replace RA : Hid (∀ y, Below (wq.heap.size) (((((wq.setCell ⟨w.heap.size, 0, none⟩ (.slice (some ⟨w.heap.size + 1, 0, none⟩) n n)).setCell ⟨w.heap.size, 1, none⟩ (.int .i64 (yn : Nat))).setCell ⟨w.heap.size, 2, none⟩ (.int .i64 0)).setCell ⟨w.heap.size, 3, none⟩ (.int .i64 (yn : Nat))).setCell ⟨w.heap.size, 4, none⟩ (.slice (some ⟨w.heap.size + 1 + 1, 0, none⟩) c c)) y → RowAt y (w.heap.size + 1) n (fun _ => .int .i64 0)) := fun y hy => RowAt.below ((((((RA.out wq (Below.refl _ _)).other _ _ (by show w.heap.size ≠ _; omega)).other _ _ (by show w.heap.size ≠ _; omega)).other _ _ (by show w.heap.size ≠ _; omega)).other _ _ (by show w.heap.size ≠ _; omega)).other _ _ (by show w.heap.size ≠ _; omega)) hy (by omega)
    replace RC : Hid (∀ y, Below (wq.heap.size) (((((wq.setCell ⟨w.heap.size, 0, none⟩ (.slice (some ⟨w.heap.size + 1, 0, none⟩) n n)).setCell ⟨w.heap.size, 1, none⟩ (.int .i64 (yn : Nat))).setCell ⟨w.heap.size, 2, none⟩ (.int .i64 0)).setCell ⟨w.heap.size, 3, none⟩ (.int .i64 (yn : Nat))).setCell ⟨w.heap.size, 4, none⟩ (.slice (some ⟨w.heap.size + 1 + 1, 0, none⟩) c c)) y → RowAt y (w.heap.size + 1 + 1) c (fun _ => .bool false)) := fun y hy => RowAt.below ((((((RC.out wq (Below.refl _ _)).other _ _ (by show w.heap.size ≠ _; omega)).other _ _ (by show w.heap.size ≠ _; omega)).other _ _ (by show w.heap.size ≠ _; omega)).other _ _ (by show w.heap.size ≠ _; omega)).other _ _ (by show w.heap.size ≠ _; omega)) hy (by omega)
    replace B : Hid (∀ y, Below (wq.heap.size) (((((wq.setCell ⟨w.heap.size, 0, none⟩ (.slice (some ⟨w.heap.size + 1, 0, none⟩) n n)).setCell ⟨w.heap.size, 1, none⟩ (.int .i64 (yn : Nat))).setCell ⟨w.heap.size, 2, none⟩ (.int .i64 0)).setCell ⟨w.heap.size, 3, none⟩ (.int .i64 (yn : Nat))).setCell ⟨w.heap.size, 4, none⟩ (.slice (some ⟨w.heap.size + 1 + 1, 0, none⟩) c c)) y → Below w.heap.size w y) := fun y hy => ((((((B.out wq bR).setCell hw0 _).setCell hw0 _).setCell hw0 _).setCell hw0 _).setCell hw0 _).trans (hy.mono (by first | omega | exact Nat.le_trans (B.out wq bR).size hz | (have := (B.out wq bR).size; omega)))
    replace hz : wq.heap.size ≤ (((((wq.setCell ⟨w.heap.size, 0, none⟩ (.slice (some ⟨w.heap.size + 1, 0, none⟩) n n)).setCell ⟨w.heap.size, 1, none⟩ (.int .i64 (yn : Nat))).setCell ⟨w.heap.size, 2, none⟩ (.int .i64 0)).setCell ⟨w.heap.size, 3, none⟩ (.int .i64 (yn : Nat))).setCell ⟨w.heap.size, 4, none⟩ (.slice (some ⟨w.heap.size + 1 + 1, 0, none⟩) c c)).heap.size := by first | (simp; done) | simpa using hz
    clear hw0
    have KS : Hid (∀ x, Below (wq.heap.size) (((((wq.setCell ⟨w.heap.size, 0, none⟩ (.slice (some ⟨w.heap.size + 1, 0, none⟩) n n)).setCell ⟨w.heap.size, 1, none⟩ (.int .i64 (yn : Nat))).setCell ⟨w.heap.size, 2, none⟩ (.int .i64 0)).setCell ⟨w.heap.size, 3, none⟩ (.int .i64 (yn : Nat))).setCell ⟨w.heap.size, 4, none⟩ (.slice (some ⟨w.heap.size + 1 + 1, 0, none⟩) c c)) x → True) := fun x hx => trivial
    refine hK.out _ _ (KS.out _ (bdrew bR)) (fun hHeld5 => ?_)
    clear hK K
    try simp only [Act.put, List.getElem_toArray, List.getElem_cons_zero, List.getElem_cons_succ, List.setIfInBounds_toArray, List.set_cons_zero, List.set_cons_succ]
    refine wpAnyH_done (by kernel_rfl) ?_ _
    clear hHeld hHeld2 hHeld3 hHeld4 hHeld5
    clear KS hmk1 hmk2
    replace B := lD B
    replace RA := lD RA
    replace RC := lD RC
    replace XR := lD XR
    replace hz : wq.heap.size ≤ ((((((wq.setCell ⟨w.heap.size, 0, none⟩ (.slice (some ⟨w.heap.size + 1, 0, none⟩) n n)).setCell ⟨w.heap.size, 1, none⟩ (.int .i64 (yn : Nat))).setCell ⟨w.heap.size, 2, none⟩ (.int .i64 0)).setCell ⟨w.heap.size, 3, none⟩ (.int .i64 (yn : Nat))).setCell ⟨w.heap.size, 4, none⟩ (.slice (some ⟨w.heap.size + 1 + 1, 0, none⟩) c c)).drew).heap.size := Nat.le_trans hz (Below.size (bdrew (Below.refl (wq.heap.size) (((((wq.setCell ⟨w.heap.size, 0, none⟩ (.slice (some ⟨w.heap.size + 1, 0, none⟩) n n)).setCell ⟨w.heap.size, 1, none⟩ (.int .i64 (yn : Nat))).setCell ⟨w.heap.size, 2, none⟩ (.int .i64 0)).setCell ⟨w.heap.size, 3, none⟩ (.int .i64 (yn : Nat))).setCell ⟨w.heap.size, 4, none⟩ (.slice (some ⟨w.heap.size + 1 + 1, 0, none⟩) c c)))))
    have BF : Hid (Below w.heap.size w (((((((wq.setCell ⟨w.heap.size, 0, none⟩ (.slice (some ⟨w.heap.size + 1, 0, none⟩) n n)).setCell ⟨w.heap.size, 1, none⟩ (.int .i64 (yn : Nat))).setCell ⟨w.heap.size, 2, none⟩ (.int .i64 0)).setCell ⟨w.heap.size, 3, none⟩ (.int .i64 (yn : Nat))).setCell ⟨w.heap.size, 4, none⟩ (.slice (some ⟨w.heap.size + 1 + 1, 0, none⟩) c c)).drew))) := B.out _ (Below.refl _ _)
    have RF : Hid (RowAt (((((((wq.setCell ⟨w.heap.size, 0, none⟩ (.slice (some ⟨w.heap.size + 1, 0, none⟩) n n)).setCell ⟨w.heap.size, 1, none⟩ (.int .i64 (yn : Nat))).setCell ⟨w.heap.size, 2, none⟩ (.int .i64 0)).setCell ⟨w.heap.size, 3, none⟩ (.int .i64 (yn : Nat))).setCell ⟨w.heap.size, 4, none⟩ (.slice (some ⟨w.heap.size + 1 + 1, 0, none⟩) c c)).drew)) (w.heap.size + 1) n (fun _ => .int .i64 0)) := RA.out _ (Below.refl _ _)
    have CF : Hid (RowAt (((((((wq.setCell ⟨w.heap.size, 0, none⟩ (.slice (some ⟨w.heap.size + 1, 0, none⟩) n n)).setCell ⟨w.heap.size, 1, none⟩ (.int .i64 (yn : Nat))).setCell ⟨w.heap.size, 2, none⟩ (.int .i64 0)).setCell ⟨w.heap.size, 3, none⟩ (.int .i64 (yn : Nat))).setCell ⟨w.heap.size, 4, none⟩ (.slice (some ⟨w.heap.size + 1 + 1, 0, none⟩) c c)).drew)) (w.heap.size + 1 + 1) c (fun _ => .bool false)) := RC.out _ (Below.refl _ _)
    have XC : Hid ((((((((wq.setCell ⟨w.heap.size, 0, none⟩ (.slice (some ⟨w.heap.size + 1, 0, none⟩) n n)).setCell ⟨w.heap.size, 1, none⟩ (.int .i64 (yn : Nat))).setCell ⟨w.heap.size, 2, none⟩ (.int .i64 0)).setCell ⟨w.heap.size, 3, none⟩ (.int .i64 (yn : Nat))).setCell ⟨w.heap.size, 4, none⟩ (.slice (some ⟨w.heap.size + 1 + 1, 0, none⟩) c c)).drew)).heap[w.heap.size]? = some (.cells #[.slice (some ⟨w.heap.size + 1, 0, none⟩) n n, .int .i64 (yn : Nat), .int .i64 0, .int .i64 (yn : Nat), .slice (some ⟨w.heap.size + 1 + 1, 0, none⟩) c c] 28 (0, 0))) := XR.out _ (Below.refl _ _)
    clear B RA RC XR hz
    generalize ((((((wq.setCell ⟨w.heap.size, 0, none⟩ (.slice (some ⟨w.heap.size + 1, 0, none⟩) n n)).setCell ⟨w.heap.size, 1, none⟩ (.int .i64 (yn : Nat))).setCell ⟨w.heap.size, 2, none⟩ (.int .i64 0)).setCell ⟨w.heap.size, 3, none⟩ (.int .i64 (yn : Nat))).setCell ⟨w.heap.size, 4, none⟩ (.slice (some ⟨w.heap.size + 1 + 1, 0, none⟩) c c)).drew) = wF at RF CF BF XC ⊢
    have kXC0 : wF.cell? ⟨w.heap.size, 0, none⟩ = some (.slice (some ⟨w.heap.size + 1, 0, none⟩) n n) := (boxG XC.out 0).1
    have kXC1 : wF.cell? ⟨w.heap.size, 1, none⟩ = some (.int .i64 (yn : Nat)) := (boxG XC.out 1).1
    have kXC2 : wF.cell? ⟨w.heap.size, 2, none⟩ = some (.int .i64 0) := (boxG XC.out 2).1
    have kXC3 : wF.cell? ⟨w.heap.size, 3, none⟩ = some (.int .i64 (yn : Nat)) := (boxG XC.out 3).1
    have kXC4 : wF.cell? ⟨w.heap.size, 4, none⟩ = some (.slice (some ⟨w.heap.size + 1 + 1, 0, none⟩) c c) := (boxG XC.out 4).1
    rename_i K0 hK0
    refine hK0 _ _ (wp_ret ?_)
    refine bodyPost_ret (v := .agg #[.slice (some ⟨w.heap.size + 1, 0, none⟩) n n, .int .i64 (yn : Nat), .int .i64 0, .int .i64 (yn : Nat), .slice (some ⟨w.heap.size + 1 + 1, 0, none⟩) c c]) ?_ rfl ?_
    · simp [results, Try.results5, go_sem, kXC0, kXC1, kXC2, kXC3, kXC4]
    · refine ⟨(fun h => by rw [YES.out] at h; cases h), fun _ => ⟨w.heap.size + 1, w.heap.size + 1 + 1, yn, on, rfl, rfl, by omega, by omega, by omega, by rw [HN.out, HC.out], ?_, ?_⟩, BF.out⟩
      · rw [HN.out]; exact RF.out
      · rw [HC.out]; exact CF.out
  · go_simp
    go_at_call 13
    refine (cardCountImpl (on : Int) (by omega) (by omega) _).mono ?_
    rintro e w9 ⟨rfl, rfl⟩
    rw [CR.out]
    go_wp2_with fail
    refine hK.out _ _ (KS.out _ (bdrew bR)) (fun hHeld2 => ?_)
    clear hK K
    try simp only [Act.put, List.getElem_toArray, List.getElem_cons_zero, List.getElem_cons_succ, List.setIfInBounds_toArray, List.set_cons_zero, List.set_cons_succ]
    refine wpAnyH_ready (rs := [3, 8]) (by kernel_rfl) (by simp) ?_
    refine AllReadyH.cons rfl (fun K hK => ?_) (AllReadyH.cons rfl (fun K hK => ?_) AllReadyH.nil)
    · go_simp
      have BP : Hid (Below (w.heap.size + 1) (w.alloc (.cells #[.slice none 0 0, .int .i64 0, .int .i64 0, .int .i64 0, .slice none 0 0] 28)) ((w.alloc (.cells #[.slice none 0 0, .int .i64 0, .int .i64 0, .int .i64 0, .slice none 0 0] 28)).alloc (.cells (madeCells #[.int .i64 0] n) 3))) := bR.alloc (by first | exact hz | (simp; done) | (simp; omega) | (have := hz; simp at this ⊢; omega)) _
      replace B := lA B BP
      replace KS := lA KS BP
      replace XR := lA XR BP
      replace lR := lL lR
      have RA : Hid (∀ y, Below (w.heap.size + 1 + 1) ((w.alloc (.cells #[.slice none 0 0, .int .i64 0, .int .i64 0, .int .i64 0, .slice none 0 0] 28)).alloc (.cells (madeCells #[.int .i64 0] n) 3)) y → RowAt y (w.heap.size + 1) n (fun _ => .int .i64 0)) := fun y hy => made_row hy (by omega) (by simp)
      replace hz : w.heap.size + 1 + 1 ≤ (((w.alloc (.cells #[.slice none 0 0, .int .i64 0, .int .i64 0, .int .i64 0, .slice none 0 0] 28)).alloc (.cells (madeCells #[.int .i64 0] n) 3))).heap.size := by simp
      clear BP
      refine hK.out _ _ (KS.out _ (bdrew bR)) (fun hHeld3 => ?_)
      clear hK K
      try simp only [Act.put, List.getElem_toArray, List.getElem_cons_zero, List.getElem_cons_succ, List.setIfInBounds_toArray, List.set_cons_zero, List.set_cons_succ]
      refine wpAnyH_ready (rs := [8]) (by kernel_rfl) (by simp) ?_
      refine AllReadyH.cons rfl (fun K hK => ?_) AllReadyH.nil
      go_simp
      have BP : Hid (Below (w.heap.size + 1 + 1) ((w.alloc (.cells #[.slice none 0 0, .int .i64 0, .int .i64 0, .int .i64 0, .slice none 0 0] 28)).alloc (.cells (madeCells #[.int .i64 0] n) 3)) (((w.alloc (.cells #[.slice none 0 0, .int .i64 0, .int .i64 0, .int .i64 0, .slice none 0 0] 28)).alloc (.cells (madeCells #[.int .i64 0] n) 3)).alloc (.cells (madeCells #[.bool false] c) 4))) := bR.alloc (by first | exact hz | (simp; done) | (simp; omega) | (have := hz; simp at this ⊢; omega)) _
      replace B := lA B BP
      replace KS := lA KS BP
      replace RA := lA RA BP
      replace XR := lA XR BP
      replace lR := lL lR
      have RC : Hid (∀ y, Below (w.heap.size + 1 + 1 + 1) (((w.alloc (.cells #[.slice none 0 0, .int .i64 0, .int .i64 0, .int .i64 0, .slice none 0 0] 28)).alloc (.cells (madeCells #[.int .i64 0] n) 3)).alloc (.cells (madeCells #[.bool false] c) 4)) y → RowAt y (w.heap.size + 1 + 1) c (fun _ => .bool false)) := fun y hy => made_row hy (by omega) (by simp)
      replace hz : w.heap.size + 1 + 1 + 1 ≤ ((((w.alloc (.cells #[.slice none 0 0, .int .i64 0, .int .i64 0, .int .i64 0, .slice none 0 0] 28)).alloc (.cells (madeCells #[.int .i64 0] n) 3)).alloc (.cells (madeCells #[.bool false] c) 4))).heap.size := by simp
      clear BP
      refine hK.out _ _ (KS.out _ (bdrew bR)) (fun hHeld4 => ?_)
      clear hK K
      try simp only [Act.put, List.getElem_toArray, List.getElem_cons_zero, List.getElem_cons_succ, List.setIfInBounds_toArray, List.set_cons_zero, List.set_cons_succ]
      refine tV 9 (v := ?_) rfl (by kernel_rfl) (fun _ _ _ h => h) ?_ (by assumption) ?_
      rotate_left 1
      · (intro x hSx; (try dsimp only at hSx); go_simp; try with_reducible rfl)
      try simp only [Act.put, List.getElem_toArray, List.getElem_cons_zero, List.getElem_cons_succ, List.setIfInBounds_toArray, List.set_cons_zero, List.set_cons_succ]
      refine wpAnyH_ready (rs := [10]) (by kernel_rfl) (by simp) ?_
      refine AllReadyH.cons rfl (fun K hK => ?_) AllReadyH.nil
      generalize (((w.alloc (.cells #[.slice none 0 0, .int .i64 0, .int .i64 0, .int .i64 0, .slice none 0 0] 28)).alloc (.cells (madeCells #[.int .i64 0] n) 3)).alloc (.cells (madeCells #[.bool false] c) 4)) = wq at B KS RA RC XR hz ⊢
      have hzn : w.heap.size + 1 + 1 + 1 ≤ wq.heap.size := Nat.le_trans hz (Below.size (Below.refl (w.heap.size + 1 + 1 + 1) wq))
      replace B := lF B (Below.refl (w.heap.size + 1 + 1 + 1) wq) hzn
      replace KS := lF KS (Below.refl (w.heap.size + 1 + 1 + 1) wq) hzn
      replace RA := lF RA (Below.refl (w.heap.size + 1 + 1 + 1) wq) hzn
      replace RC := lF RC (Below.refl (w.heap.size + 1 + 1 + 1) wq) hzn
      replace XR := lF XR (Below.refl (w.heap.size + 1 + 1 + 1) wq) hzn
      replace lR := Nat.lt_of_lt_of_le lR hzn
      clear hz
      have hz : wq.heap.size ≤ wq.heap.size := Nat.le_refl _
      obtain ⟨kR0, kR1, kR2, kR3, kR4⟩ := bk5 (XR.out wq bR)
      obtain ⟨qkR0, qkR1, qkR2, qkR3, qkR4⟩ := bq5 (XR.out wq bR)
      go_simp
      clear kR0 kR1 kR2 kR3 kR4 qkR0 qkR1 qkR2 qkR3 qkR4
      have hw0 : w.heap.size ≤ w.heap.size := (by first | omega | (simp; done) | (simp; omega) | (simp at *; omega))
      replace XR : Hid (∀ y, Below (wq.heap.size) (((((wq.setCell ⟨w.heap.size, 0, none⟩ (.slice (some ⟨w.heap.size + 1, 0, none⟩) n n)).setCell ⟨w.heap.size, 1, none⟩ (.int .i64 (yn : Nat))).setCell ⟨w.heap.size, 2, none⟩ (.int .i64 0)).setCell ⟨w.heap.size, 3, none⟩ (.int .i64 (yn : Nat))).setCell ⟨w.heap.size, 4, none⟩ (.slice (some ⟨w.heap.size + 1 + 1, 0, none⟩) c c)) y → y.heap[w.heap.size]? = some (.cells #[.slice (some ⟨w.heap.size + 1, 0, none⟩) n n, .int .i64 (yn : Nat), .int .i64 0, .int .i64 (yn : Nat), .slice (some ⟨w.heap.size + 1 + 1, 0, none⟩) c c] 28 (0, 0))) := fun y hy => (hy.block _ (by omega)).trans (boxS (boxS (boxS (boxS (boxS (XR.out wq bR) 0 _) 1 _) 2 _) 3 _) 4 _)
      clear KS
      replace RA : Hid (∀ y, Below (wq.heap.size) (((((wq.setCell ⟨w.heap.size, 0, none⟩ (.slice (some ⟨w.heap.size + 1, 0, none⟩) n n)).setCell ⟨w.heap.size, 1, none⟩ (.int .i64 (yn : Nat))).setCell ⟨w.heap.size, 2, none⟩ (.int .i64 0)).setCell ⟨w.heap.size, 3, none⟩ (.int .i64 (yn : Nat))).setCell ⟨w.heap.size, 4, none⟩ (.slice (some ⟨w.heap.size + 1 + 1, 0, none⟩) c c)) y → RowAt y (w.heap.size + 1) n (fun _ => .int .i64 0)) := fun y hy => RowAt.below ((((((RA.out wq (Below.refl _ _)).other _ _ (by show w.heap.size ≠ _; omega)).other _ _ (by show w.heap.size ≠ _; omega)).other _ _ (by show w.heap.size ≠ _; omega)).other _ _ (by show w.heap.size ≠ _; omega)).other _ _ (by show w.heap.size ≠ _; omega)) hy (by omega)
      replace RC : Hid (∀ y, Below (wq.heap.size) (((((wq.setCell ⟨w.heap.size, 0, none⟩ (.slice (some ⟨w.heap.size + 1, 0, none⟩) n n)).setCell ⟨w.heap.size, 1, none⟩ (.int .i64 (yn : Nat))).setCell ⟨w.heap.size, 2, none⟩ (.int .i64 0)).setCell ⟨w.heap.size, 3, none⟩ (.int .i64 (yn : Nat))).setCell ⟨w.heap.size, 4, none⟩ (.slice (some ⟨w.heap.size + 1 + 1, 0, none⟩) c c)) y → RowAt y (w.heap.size + 1 + 1) c (fun _ => .bool false)) := fun y hy => RowAt.below ((((((RC.out wq (Below.refl _ _)).other _ _ (by show w.heap.size ≠ _; omega)).other _ _ (by show w.heap.size ≠ _; omega)).other _ _ (by show w.heap.size ≠ _; omega)).other _ _ (by show w.heap.size ≠ _; omega)).other _ _ (by show w.heap.size ≠ _; omega)) hy (by omega)
      replace B : Hid (∀ y, Below (wq.heap.size) (((((wq.setCell ⟨w.heap.size, 0, none⟩ (.slice (some ⟨w.heap.size + 1, 0, none⟩) n n)).setCell ⟨w.heap.size, 1, none⟩ (.int .i64 (yn : Nat))).setCell ⟨w.heap.size, 2, none⟩ (.int .i64 0)).setCell ⟨w.heap.size, 3, none⟩ (.int .i64 (yn : Nat))).setCell ⟨w.heap.size, 4, none⟩ (.slice (some ⟨w.heap.size + 1 + 1, 0, none⟩) c c)) y → Below w.heap.size w y) := fun y hy => ((((((B.out wq bR).setCell hw0 _).setCell hw0 _).setCell hw0 _).setCell hw0 _).setCell hw0 _).trans (hy.mono (by first | omega | exact Nat.le_trans (B.out wq bR).size hz | (have := (B.out wq bR).size; omega)))
      replace hz : wq.heap.size ≤ (((((wq.setCell ⟨w.heap.size, 0, none⟩ (.slice (some ⟨w.heap.size + 1, 0, none⟩) n n)).setCell ⟨w.heap.size, 1, none⟩ (.int .i64 (yn : Nat))).setCell ⟨w.heap.size, 2, none⟩ (.int .i64 0)).setCell ⟨w.heap.size, 3, none⟩ (.int .i64 (yn : Nat))).setCell ⟨w.heap.size, 4, none⟩ (.slice (some ⟨w.heap.size + 1 + 1, 0, none⟩) c c)).heap.size := by first | (simp; done) | simpa using hz
      clear hw0
      have KS : Hid (∀ x, Below (wq.heap.size) (((((wq.setCell ⟨w.heap.size, 0, none⟩ (.slice (some ⟨w.heap.size + 1, 0, none⟩) n n)).setCell ⟨w.heap.size, 1, none⟩ (.int .i64 (yn : Nat))).setCell ⟨w.heap.size, 2, none⟩ (.int .i64 0)).setCell ⟨w.heap.size, 3, none⟩ (.int .i64 (yn : Nat))).setCell ⟨w.heap.size, 4, none⟩ (.slice (some ⟨w.heap.size + 1 + 1, 0, none⟩) c c)) x → True) := fun x hx => trivial
      refine hK.out _ _ (KS.out _ (bdrew bR)) (fun hHeld5 => ?_)
      clear hK K
      try simp only [Act.put, List.getElem_toArray, List.getElem_cons_zero, List.getElem_cons_succ, List.setIfInBounds_toArray, List.set_cons_zero, List.set_cons_succ]
      refine wpAnyH_done (by kernel_rfl) ?_ _
      clear hHeld hHeld2 hHeld3 hHeld4 hHeld5
      clear KS hmk1 hmk2
      replace B := lD B
      replace RA := lD RA
      replace RC := lD RC
      replace XR := lD XR
      replace hz : wq.heap.size ≤ ((((((wq.setCell ⟨w.heap.size, 0, none⟩ (.slice (some ⟨w.heap.size + 1, 0, none⟩) n n)).setCell ⟨w.heap.size, 1, none⟩ (.int .i64 (yn : Nat))).setCell ⟨w.heap.size, 2, none⟩ (.int .i64 0)).setCell ⟨w.heap.size, 3, none⟩ (.int .i64 (yn : Nat))).setCell ⟨w.heap.size, 4, none⟩ (.slice (some ⟨w.heap.size + 1 + 1, 0, none⟩) c c)).drew).heap.size := Nat.le_trans hz (Below.size (bdrew (Below.refl (wq.heap.size) (((((wq.setCell ⟨w.heap.size, 0, none⟩ (.slice (some ⟨w.heap.size + 1, 0, none⟩) n n)).setCell ⟨w.heap.size, 1, none⟩ (.int .i64 (yn : Nat))).setCell ⟨w.heap.size, 2, none⟩ (.int .i64 0)).setCell ⟨w.heap.size, 3, none⟩ (.int .i64 (yn : Nat))).setCell ⟨w.heap.size, 4, none⟩ (.slice (some ⟨w.heap.size + 1 + 1, 0, none⟩) c c)))))
      have BF : Hid (Below w.heap.size w (((((((wq.setCell ⟨w.heap.size, 0, none⟩ (.slice (some ⟨w.heap.size + 1, 0, none⟩) n n)).setCell ⟨w.heap.size, 1, none⟩ (.int .i64 (yn : Nat))).setCell ⟨w.heap.size, 2, none⟩ (.int .i64 0)).setCell ⟨w.heap.size, 3, none⟩ (.int .i64 (yn : Nat))).setCell ⟨w.heap.size, 4, none⟩ (.slice (some ⟨w.heap.size + 1 + 1, 0, none⟩) c c)).drew))) := B.out _ (Below.refl _ _)
      have RF : Hid (RowAt (((((((wq.setCell ⟨w.heap.size, 0, none⟩ (.slice (some ⟨w.heap.size + 1, 0, none⟩) n n)).setCell ⟨w.heap.size, 1, none⟩ (.int .i64 (yn : Nat))).setCell ⟨w.heap.size, 2, none⟩ (.int .i64 0)).setCell ⟨w.heap.size, 3, none⟩ (.int .i64 (yn : Nat))).setCell ⟨w.heap.size, 4, none⟩ (.slice (some ⟨w.heap.size + 1 + 1, 0, none⟩) c c)).drew)) (w.heap.size + 1) n (fun _ => .int .i64 0)) := RA.out _ (Below.refl _ _)
      have CF : Hid (RowAt (((((((wq.setCell ⟨w.heap.size, 0, none⟩ (.slice (some ⟨w.heap.size + 1, 0, none⟩) n n)).setCell ⟨w.heap.size, 1, none⟩ (.int .i64 (yn : Nat))).setCell ⟨w.heap.size, 2, none⟩ (.int .i64 0)).setCell ⟨w.heap.size, 3, none⟩ (.int .i64 (yn : Nat))).setCell ⟨w.heap.size, 4, none⟩ (.slice (some ⟨w.heap.size + 1 + 1, 0, none⟩) c c)).drew)) (w.heap.size + 1 + 1) c (fun _ => .bool false)) := RC.out _ (Below.refl _ _)
      have XC : Hid ((((((((wq.setCell ⟨w.heap.size, 0, none⟩ (.slice (some ⟨w.heap.size + 1, 0, none⟩) n n)).setCell ⟨w.heap.size, 1, none⟩ (.int .i64 (yn : Nat))).setCell ⟨w.heap.size, 2, none⟩ (.int .i64 0)).setCell ⟨w.heap.size, 3, none⟩ (.int .i64 (yn : Nat))).setCell ⟨w.heap.size, 4, none⟩ (.slice (some ⟨w.heap.size + 1 + 1, 0, none⟩) c c)).drew)).heap[w.heap.size]? = some (.cells #[.slice (some ⟨w.heap.size + 1, 0, none⟩) n n, .int .i64 (yn : Nat), .int .i64 0, .int .i64 (yn : Nat), .slice (some ⟨w.heap.size + 1 + 1, 0, none⟩) c c] 28 (0, 0))) := XR.out _ (Below.refl _ _)
      clear B RA RC XR hz
      generalize ((((((wq.setCell ⟨w.heap.size, 0, none⟩ (.slice (some ⟨w.heap.size + 1, 0, none⟩) n n)).setCell ⟨w.heap.size, 1, none⟩ (.int .i64 (yn : Nat))).setCell ⟨w.heap.size, 2, none⟩ (.int .i64 0)).setCell ⟨w.heap.size, 3, none⟩ (.int .i64 (yn : Nat))).setCell ⟨w.heap.size, 4, none⟩ (.slice (some ⟨w.heap.size + 1 + 1, 0, none⟩) c c)).drew) = wF at RF CF BF XC ⊢
      have kXC0 : wF.cell? ⟨w.heap.size, 0, none⟩ = some (.slice (some ⟨w.heap.size + 1, 0, none⟩) n n) := (boxG XC.out 0).1
      have kXC1 : wF.cell? ⟨w.heap.size, 1, none⟩ = some (.int .i64 (yn : Nat)) := (boxG XC.out 1).1
      have kXC2 : wF.cell? ⟨w.heap.size, 2, none⟩ = some (.int .i64 0) := (boxG XC.out 2).1
      have kXC3 : wF.cell? ⟨w.heap.size, 3, none⟩ = some (.int .i64 (yn : Nat)) := (boxG XC.out 3).1
      have kXC4 : wF.cell? ⟨w.heap.size, 4, none⟩ = some (.slice (some ⟨w.heap.size + 1 + 1, 0, none⟩) c c) := (boxG XC.out 4).1
      rename_i K0 hK0
      refine hK0 _ _ (wp_ret ?_)
      refine bodyPost_ret (v := .agg #[.slice (some ⟨w.heap.size + 1, 0, none⟩) n n, .int .i64 (yn : Nat), .int .i64 0, .int .i64 (yn : Nat), .slice (some ⟨w.heap.size + 1 + 1, 0, none⟩) c c]) ?_ rfl ?_
      · simp [results, Try.results5, go_sem, kXC0, kXC1, kXC2, kXC3, kXC4]
      · refine ⟨(fun h => by rw [YES.out] at h; cases h), fun _ => ⟨w.heap.size + 1, w.heap.size + 1 + 1, yn, on, rfl, rfl, by omega, by omega, by omega, by rw [HN.out, HC.out], ?_, ?_⟩, BF.out⟩
        · rw [HN.out]; exact RF.out
        · rw [HC.out]; exact CF.out
    · go_simp
      have BP : Hid (Below (w.heap.size + 1) (w.alloc (.cells #[.slice none 0 0, .int .i64 0, .int .i64 0, .int .i64 0, .slice none 0 0] 28)) ((w.alloc (.cells #[.slice none 0 0, .int .i64 0, .int .i64 0, .int .i64 0, .slice none 0 0] 28)).alloc (.cells (madeCells #[.bool false] c) 4))) := bR.alloc (by first | exact hz | (simp; done) | (simp; omega) | (have := hz; simp at this ⊢; omega)) _
      replace B := lA B BP
      replace KS := lA KS BP
      replace XR := lA XR BP
      replace lR := lL lR
      have RC : Hid (∀ y, Below (w.heap.size + 1 + 1) ((w.alloc (.cells #[.slice none 0 0, .int .i64 0, .int .i64 0, .int .i64 0, .slice none 0 0] 28)).alloc (.cells (madeCells #[.bool false] c) 4)) y → RowAt y (w.heap.size + 1) c (fun _ => .bool false)) := fun y hy => made_row hy (by omega) (by simp)
      replace hz : w.heap.size + 1 + 1 ≤ (((w.alloc (.cells #[.slice none 0 0, .int .i64 0, .int .i64 0, .int .i64 0, .slice none 0 0] 28)).alloc (.cells (madeCells #[.bool false] c) 4))).heap.size := by simp
      clear BP
      refine hK.out _ _ (KS.out _ (bdrew bR)) (fun hHeld3 => ?_)
      clear hK K
      try simp only [Act.put, List.getElem_toArray, List.getElem_cons_zero, List.getElem_cons_succ, List.setIfInBounds_toArray, List.set_cons_zero, List.set_cons_succ]
      refine wpAnyH_ready (rs := [3]) (by kernel_rfl) (by simp) ?_
      refine AllReadyH.cons rfl (fun K hK => ?_) AllReadyH.nil
      go_simp
      have BP : Hid (Below (w.heap.size + 1 + 1) ((w.alloc (.cells #[.slice none 0 0, .int .i64 0, .int .i64 0, .int .i64 0, .slice none 0 0] 28)).alloc (.cells (madeCells #[.bool false] c) 4)) (((w.alloc (.cells #[.slice none 0 0, .int .i64 0, .int .i64 0, .int .i64 0, .slice none 0 0] 28)).alloc (.cells (madeCells #[.bool false] c) 4)).alloc (.cells (madeCells #[.int .i64 0] n) 3))) := bR.alloc (by first | exact hz | (simp; done) | (simp; omega) | (have := hz; simp at this ⊢; omega)) _
      replace B := lA B BP
      replace KS := lA KS BP
      replace RC := lA RC BP
      replace XR := lA XR BP
      replace lR := lL lR
      have RA : Hid (∀ y, Below (w.heap.size + 1 + 1 + 1) (((w.alloc (.cells #[.slice none 0 0, .int .i64 0, .int .i64 0, .int .i64 0, .slice none 0 0] 28)).alloc (.cells (madeCells #[.bool false] c) 4)).alloc (.cells (madeCells #[.int .i64 0] n) 3)) y → RowAt y (w.heap.size + 1 + 1) n (fun _ => .int .i64 0)) := fun y hy => made_row hy (by omega) (by simp)
      replace hz : w.heap.size + 1 + 1 + 1 ≤ ((((w.alloc (.cells #[.slice none 0 0, .int .i64 0, .int .i64 0, .int .i64 0, .slice none 0 0] 28)).alloc (.cells (madeCells #[.bool false] c) 4)).alloc (.cells (madeCells #[.int .i64 0] n) 3))).heap.size := by simp
      clear BP
      refine hK.out _ _ (KS.out _ (bdrew bR)) (fun hHeld4 => ?_)
      clear hK K
      try simp only [Act.put, List.getElem_toArray, List.getElem_cons_zero, List.getElem_cons_succ, List.setIfInBounds_toArray, List.set_cons_zero, List.set_cons_succ]
      refine tV 9 (v := ?_) rfl (by kernel_rfl) (fun _ _ _ h => h) ?_ (by assumption) ?_
      rotate_left 1
      · (intro x hSx; (try dsimp only at hSx); go_simp; try with_reducible rfl)
      try simp only [Act.put, List.getElem_toArray, List.getElem_cons_zero, List.getElem_cons_succ, List.setIfInBounds_toArray, List.set_cons_zero, List.set_cons_succ]
      refine wpAnyH_ready (rs := [10]) (by kernel_rfl) (by simp) ?_
      refine AllReadyH.cons rfl (fun K hK => ?_) AllReadyH.nil
      generalize (((w.alloc (.cells #[.slice none 0 0, .int .i64 0, .int .i64 0, .int .i64 0, .slice none 0 0] 28)).alloc (.cells (madeCells #[.bool false] c) 4)).alloc (.cells (madeCells #[.int .i64 0] n) 3)) = wq at B KS RC RA XR hz ⊢
      have hzn : w.heap.size + 1 + 1 + 1 ≤ wq.heap.size := Nat.le_trans hz (Below.size (Below.refl (w.heap.size + 1 + 1 + 1) wq))
      replace B := lF B (Below.refl (w.heap.size + 1 + 1 + 1) wq) hzn
      replace KS := lF KS (Below.refl (w.heap.size + 1 + 1 + 1) wq) hzn
      replace RC := lF RC (Below.refl (w.heap.size + 1 + 1 + 1) wq) hzn
      replace RA := lF RA (Below.refl (w.heap.size + 1 + 1 + 1) wq) hzn
      replace XR := lF XR (Below.refl (w.heap.size + 1 + 1 + 1) wq) hzn
      replace lR := Nat.lt_of_lt_of_le lR hzn
      clear hz
      have hz : wq.heap.size ≤ wq.heap.size := Nat.le_refl _
      obtain ⟨kR0, kR1, kR2, kR3, kR4⟩ := bk5 (XR.out wq bR)
      obtain ⟨qkR0, qkR1, qkR2, qkR3, qkR4⟩ := bq5 (XR.out wq bR)
      go_simp
      clear kR0 kR1 kR2 kR3 kR4 qkR0 qkR1 qkR2 qkR3 qkR4
      have hw0 : w.heap.size ≤ w.heap.size := (by first | omega | (simp; done) | (simp; omega) | (simp at *; omega))
      replace XR : Hid (∀ y, Below (wq.heap.size) (((((wq.setCell ⟨w.heap.size, 0, none⟩ (.slice (some ⟨w.heap.size + 1 + 1, 0, none⟩) n n)).setCell ⟨w.heap.size, 1, none⟩ (.int .i64 (yn : Nat))).setCell ⟨w.heap.size, 2, none⟩ (.int .i64 0)).setCell ⟨w.heap.size, 3, none⟩ (.int .i64 (yn : Nat))).setCell ⟨w.heap.size, 4, none⟩ (.slice (some ⟨w.heap.size + 1, 0, none⟩) c c)) y → y.heap[w.heap.size]? = some (.cells #[.slice (some ⟨w.heap.size + 1 + 1, 0, none⟩) n n, .int .i64 (yn : Nat), .int .i64 0, .int .i64 (yn : Nat), .slice (some ⟨w.heap.size + 1, 0, none⟩) c c] 28 (0, 0))) := fun y hy => (hy.block _ (by omega)).trans (boxS (boxS (boxS (boxS (boxS (XR.out wq bR) 0 _) 1 _) 2 _) 3 _) 4 _)
      clear KS
      replace RC : Hid (∀ y, Below (wq.heap.size) (((((wq.setCell ⟨w.heap.size, 0, none⟩ (.slice (some ⟨w.heap.size + 1 + 1, 0, none⟩) n n)).setCell ⟨w.heap.size, 1, none⟩ (.int .i64 (yn : Nat))).setCell ⟨w.heap.size, 2, none⟩ (.int .i64 0)).setCell ⟨w.heap.size, 3, none⟩ (.int .i64 (yn : Nat))).setCell ⟨w.heap.size, 4, none⟩ (.slice (some ⟨w.heap.size + 1, 0, none⟩) c c)) y → RowAt y (w.heap.size + 1) c (fun _ => .bool false)) := fun y hy => RowAt.below ((((((RC.out wq (Below.refl _ _)).other _ _ (by show w.heap.size ≠ _; omega)).other _ _ (by show w.heap.size ≠ _; omega)).other _ _ (by show w.heap.size ≠ _; omega)).other _ _ (by show w.heap.size ≠ _; omega)).other _ _ (by show w.heap.size ≠ _; omega)) hy (by omega)
      replace RA : Hid (∀ y, Below (wq.heap.size) (((((wq.setCell ⟨w.heap.size, 0, none⟩ (.slice (some ⟨w.heap.size + 1 + 1, 0, none⟩) n n)).setCell ⟨w.heap.size, 1, none⟩ (.int .i64 (yn : Nat))).setCell ⟨w.heap.size, 2, none⟩ (.int .i64 0)).setCell ⟨w.heap.size, 3, none⟩ (.int .i64 (yn : Nat))).setCell ⟨w.heap.size, 4, none⟩ (.slice (some ⟨w.heap.size + 1, 0, none⟩) c c)) y → RowAt y (w.heap.size + 1 + 1) n (fun _ => .int .i64 0)) := fun y hy => RowAt.below ((((((RA.out wq (Below.refl _ _)).other _ _ (by show w.heap.size ≠ _; omega)).other _ _ (by show w.heap.size ≠ _; omega)).other _ _ (by show w.heap.size ≠ _; omega)).other _ _ (by show w.heap.size ≠ _; omega)).other _ _ (by show w.heap.size ≠ _; omega)) hy (by omega)
      replace B : Hid (∀ y, Below (wq.heap.size) (((((wq.setCell ⟨w.heap.size, 0, none⟩ (.slice (some ⟨w.heap.size + 1 + 1, 0, none⟩) n n)).setCell ⟨w.heap.size, 1, none⟩ (.int .i64 (yn : Nat))).setCell ⟨w.heap.size, 2, none⟩ (.int .i64 0)).setCell ⟨w.heap.size, 3, none⟩ (.int .i64 (yn : Nat))).setCell ⟨w.heap.size, 4, none⟩ (.slice (some ⟨w.heap.size + 1, 0, none⟩) c c)) y → Below w.heap.size w y) := fun y hy => ((((((B.out wq bR).setCell hw0 _).setCell hw0 _).setCell hw0 _).setCell hw0 _).setCell hw0 _).trans (hy.mono (by first | omega | exact Nat.le_trans (B.out wq bR).size hz | (have := (B.out wq bR).size; omega)))
      replace hz : wq.heap.size ≤ (((((wq.setCell ⟨w.heap.size, 0, none⟩ (.slice (some ⟨w.heap.size + 1 + 1, 0, none⟩) n n)).setCell ⟨w.heap.size, 1, none⟩ (.int .i64 (yn : Nat))).setCell ⟨w.heap.size, 2, none⟩ (.int .i64 0)).setCell ⟨w.heap.size, 3, none⟩ (.int .i64 (yn : Nat))).setCell ⟨w.heap.size, 4, none⟩ (.slice (some ⟨w.heap.size + 1, 0, none⟩) c c)).heap.size := by first | (simp; done) | simpa using hz
      clear hw0
      have KS : Hid (∀ x, Below (wq.heap.size) (((((wq.setCell ⟨w.heap.size, 0, none⟩ (.slice (some ⟨w.heap.size + 1 + 1, 0, none⟩) n n)).setCell ⟨w.heap.size, 1, none⟩ (.int .i64 (yn : Nat))).setCell ⟨w.heap.size, 2, none⟩ (.int .i64 0)).setCell ⟨w.heap.size, 3, none⟩ (.int .i64 (yn : Nat))).setCell ⟨w.heap.size, 4, none⟩ (.slice (some ⟨w.heap.size + 1, 0, none⟩) c c)) x → True) := fun x hx => trivial
      refine hK.out _ _ (KS.out _ (bdrew bR)) (fun hHeld5 => ?_)
      clear hK K
      try simp only [Act.put, List.getElem_toArray, List.getElem_cons_zero, List.getElem_cons_succ, List.setIfInBounds_toArray, List.set_cons_zero, List.set_cons_succ]
      refine wpAnyH_done (by kernel_rfl) ?_ _
      clear hHeld hHeld2 hHeld3 hHeld4 hHeld5
      clear KS hmk1 hmk2
      replace B := lD B
      replace RC := lD RC
      replace RA := lD RA
      replace XR := lD XR
      replace hz : wq.heap.size ≤ ((((((wq.setCell ⟨w.heap.size, 0, none⟩ (.slice (some ⟨w.heap.size + 1 + 1, 0, none⟩) n n)).setCell ⟨w.heap.size, 1, none⟩ (.int .i64 (yn : Nat))).setCell ⟨w.heap.size, 2, none⟩ (.int .i64 0)).setCell ⟨w.heap.size, 3, none⟩ (.int .i64 (yn : Nat))).setCell ⟨w.heap.size, 4, none⟩ (.slice (some ⟨w.heap.size + 1, 0, none⟩) c c)).drew).heap.size := Nat.le_trans hz (Below.size (bdrew (Below.refl (wq.heap.size) (((((wq.setCell ⟨w.heap.size, 0, none⟩ (.slice (some ⟨w.heap.size + 1 + 1, 0, none⟩) n n)).setCell ⟨w.heap.size, 1, none⟩ (.int .i64 (yn : Nat))).setCell ⟨w.heap.size, 2, none⟩ (.int .i64 0)).setCell ⟨w.heap.size, 3, none⟩ (.int .i64 (yn : Nat))).setCell ⟨w.heap.size, 4, none⟩ (.slice (some ⟨w.heap.size + 1, 0, none⟩) c c)))))
      have BF : Hid (Below w.heap.size w (((((((wq.setCell ⟨w.heap.size, 0, none⟩ (.slice (some ⟨w.heap.size + 1 + 1, 0, none⟩) n n)).setCell ⟨w.heap.size, 1, none⟩ (.int .i64 (yn : Nat))).setCell ⟨w.heap.size, 2, none⟩ (.int .i64 0)).setCell ⟨w.heap.size, 3, none⟩ (.int .i64 (yn : Nat))).setCell ⟨w.heap.size, 4, none⟩ (.slice (some ⟨w.heap.size + 1, 0, none⟩) c c)).drew))) := B.out _ (Below.refl _ _)
      have RF : Hid (RowAt (((((((wq.setCell ⟨w.heap.size, 0, none⟩ (.slice (some ⟨w.heap.size + 1 + 1, 0, none⟩) n n)).setCell ⟨w.heap.size, 1, none⟩ (.int .i64 (yn : Nat))).setCell ⟨w.heap.size, 2, none⟩ (.int .i64 0)).setCell ⟨w.heap.size, 3, none⟩ (.int .i64 (yn : Nat))).setCell ⟨w.heap.size, 4, none⟩ (.slice (some ⟨w.heap.size + 1, 0, none⟩) c c)).drew)) (w.heap.size + 1 + 1) n (fun _ => .int .i64 0)) := RA.out _ (Below.refl _ _)
      have CF : Hid (RowAt (((((((wq.setCell ⟨w.heap.size, 0, none⟩ (.slice (some ⟨w.heap.size + 1 + 1, 0, none⟩) n n)).setCell ⟨w.heap.size, 1, none⟩ (.int .i64 (yn : Nat))).setCell ⟨w.heap.size, 2, none⟩ (.int .i64 0)).setCell ⟨w.heap.size, 3, none⟩ (.int .i64 (yn : Nat))).setCell ⟨w.heap.size, 4, none⟩ (.slice (some ⟨w.heap.size + 1, 0, none⟩) c c)).drew)) (w.heap.size + 1) c (fun _ => .bool false)) := RC.out _ (Below.refl _ _)
      have XC : Hid ((((((((wq.setCell ⟨w.heap.size, 0, none⟩ (.slice (some ⟨w.heap.size + 1 + 1, 0, none⟩) n n)).setCell ⟨w.heap.size, 1, none⟩ (.int .i64 (yn : Nat))).setCell ⟨w.heap.size, 2, none⟩ (.int .i64 0)).setCell ⟨w.heap.size, 3, none⟩ (.int .i64 (yn : Nat))).setCell ⟨w.heap.size, 4, none⟩ (.slice (some ⟨w.heap.size + 1, 0, none⟩) c c)).drew)).heap[w.heap.size]? = some (.cells #[.slice (some ⟨w.heap.size + 1 + 1, 0, none⟩) n n, .int .i64 (yn : Nat), .int .i64 0, .int .i64 (yn : Nat), .slice (some ⟨w.heap.size + 1, 0, none⟩) c c] 28 (0, 0))) := XR.out _ (Below.refl _ _)
      clear B RC RA XR hz
      generalize ((((((wq.setCell ⟨w.heap.size, 0, none⟩ (.slice (some ⟨w.heap.size + 1 + 1, 0, none⟩) n n)).setCell ⟨w.heap.size, 1, none⟩ (.int .i64 (yn : Nat))).setCell ⟨w.heap.size, 2, none⟩ (.int .i64 0)).setCell ⟨w.heap.size, 3, none⟩ (.int .i64 (yn : Nat))).setCell ⟨w.heap.size, 4, none⟩ (.slice (some ⟨w.heap.size + 1, 0, none⟩) c c)).drew) = wF at RF CF BF XC ⊢
      have kXC0 : wF.cell? ⟨w.heap.size, 0, none⟩ = some (.slice (some ⟨w.heap.size + 1 + 1, 0, none⟩) n n) := (boxG XC.out 0).1
      have kXC1 : wF.cell? ⟨w.heap.size, 1, none⟩ = some (.int .i64 (yn : Nat)) := (boxG XC.out 1).1
      have kXC2 : wF.cell? ⟨w.heap.size, 2, none⟩ = some (.int .i64 0) := (boxG XC.out 2).1
      have kXC3 : wF.cell? ⟨w.heap.size, 3, none⟩ = some (.int .i64 (yn : Nat)) := (boxG XC.out 3).1
      have kXC4 : wF.cell? ⟨w.heap.size, 4, none⟩ = some (.slice (some ⟨w.heap.size + 1, 0, none⟩) c c) := (boxG XC.out 4).1
      rename_i K0 hK0
      refine hK0 _ _ (wp_ret ?_)
      refine bodyPost_ret (v := .agg #[.slice (some ⟨w.heap.size + 1 + 1, 0, none⟩) n n, .int .i64 (yn : Nat), .int .i64 0, .int .i64 (yn : Nat), .slice (some ⟨w.heap.size + 1, 0, none⟩) c c]) ?_ rfl ?_
      · simp [results, Try.results5, go_sem, kXC0, kXC1, kXC2, kXC3, kXC4]
      · refine ⟨(fun h => by rw [YES.out] at h; cases h), fun _ => ⟨w.heap.size + 1 + 1, w.heap.size + 1, yn, on, rfl, rfl, by omega, by omega, by omega, by rw [HN.out, HC.out], ?_, ?_⟩, BF.out⟩
        · rw [HN.out]; exact RF.out
        · rw [HC.out]; exact CF.out

end Go.Proofs.Ytjeabgkcmfjjlaa
