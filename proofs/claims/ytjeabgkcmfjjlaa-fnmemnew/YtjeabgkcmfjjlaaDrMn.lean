/-
  What is drawn of a new memory's sizes, whatever the code.
-/
import Derived.Test.YtjeabgkcmfjjlaaOpen
import Derived.Test.YtjeabgkcmfjjlaaSxB
import Derived.Deep.RegionHeld3
namespace Go.Proofs.Ytjeabgkcmfjjlaa
open Go.ChangeShapes Go.WideShapes Go.ChangeAt Go.RowKit
set_option linter.unusedVariables false

theorem six_of (m : Nat) (h : (m : Int) < 6) : m = 0 ∨ m = 1 ∨ m = 2 ∨ m = 3 ∨ m = 4 ∨ m = 5 := by omega
theorem rd_drew {B R k : Nat} {w : World} (h : Rd B w R k) : Rd B w.drew R k := ⟨h.low, h.size, h.at0, h.free, h.code⟩
set_option maxRecDepth 100000 in
set_option maxHeartbeats 4000000 in
theorem drawMemNew (a : Option Addr) (len cap : Nat) (zs : List Int) (w : World) (h : IsRow .u8 w a len cap zs) :
    Calls Try.prog 4 #[.slice a len cap] w fun e w' => ∃ yg od, e = .returned (.tuple #[.int .i64 yg, .int .i64 od]) ∧ -1 ≤ yg ∧ yg ≤ 41 ∧ 13 ≤ od ∧ od ≤ 121 ∧ Below w.heap.size w w' := by
  go_enter Try.func4, Try.ntmps4
  go_wp2_with fail
  refine (openRd a len cap zs w h).mono ?_
  rintro e w1 ⟨rfl, hr1, hb1, hs1⟩
  have R1 : Hid (Rd w.heap.size w1 w.heap.size 0) := hr1
  have B1 : Hid (Below w.heap.size w w1) := hb1
  clear hr1 hb1 h hs1
  go_wp2_with fail
  refine wp_region_held_drew (S := fun x => True) (by kernel_rfl) ?_ (fun hHeld => ?_)
  · exact trivial
  refine tV 0 (v := ?_) rfl (by kernel_rfl) (fun _ _ _ h => h) ?_ (by assumption) ?_
  rotate_left 1
  · (intro x hSx; (try dsimp only at hSx); go_simp; try with_reducible rfl)
  try simp only [Act.put, List.getElem_toArray, List.getElem_cons_zero, List.setIfInBounds_toArray, List.set_cons_zero, List.set_cons_succ]
  refine tV 4 (v := ?_) rfl (by kernel_rfl) (fun _ _ _ h => h) ?_ (by assumption) ?_
  rotate_left 1
  · (intro x hSx; (try dsimp only at hSx); go_simp; try with_reducible rfl)
  try simp only [Act.put, List.getElem_toArray, List.getElem_cons_zero, List.getElem_cons_succ, List.setIfInBounds_toArray, List.set_cons_zero, List.set_cons_succ]
  refine wpAnyH_ready (rs := [1, 3]) (by kernel_rfl) (by simp) ?_
  refine AllReadyH.cons rfl (fun K hK => ?_) (AllReadyH.cons rfl (fun K hK => ?_) AllReadyH.nil)
  · go_simp
    go_at_call 11
    refine (pick w.heap.size w.heap.size 0 43 _ (rd_drew R1.out) (by omega) (by omega)).mono ?_
    rintro e w2 ⟨v, rfl, v0, v1, hw2⟩
    have Rw2 : Hid (Rd w.heap.size w2 w.heap.size 1) := hw2.rd
    have Sw2 : Hid (Stp w.heap.size w.heap.size 0 _ w2) := hw2
    clear hw2
    have hsub : IntKind.i64.wrap (v - 1) = v - 1 := by rw [IntKind.wrap_i64]; omega
    go_wp2_with fail
    refine hK.out _ _ (trivial) (fun hHeld2 => ?_)
    clear hK K
    try simp only [Act.put, List.getElem_toArray, List.getElem_cons_zero, List.getElem_cons_succ, List.setIfInBounds_toArray, List.set_cons_zero, List.set_cons_succ]
    refine tV 2 (v := ?_) rfl (by kernel_rfl) (fun _ _ _ h => h) ?_ (by assumption) ?_
    rotate_left 1
    · (intro x hSx; (try dsimp only at hSx); go_simp; try with_reducible rfl)
    try simp only [Act.put, List.getElem_toArray, List.getElem_cons_zero, List.getElem_cons_succ, List.setIfInBounds_toArray, List.set_cons_zero, List.set_cons_succ]
    refine wpAnyH_ready (rs := [3, 5]) (by kernel_rfl) (by simp) ?_
    refine AllReadyH.cons rfl (fun K hK => ?_) (AllReadyH.cons rfl (fun K hK => ?_) AllReadyH.nil)
    · go_simp
      refine hK.out _ _ (trivial) (fun hHeld3 => ?_)
      clear hK K
      try simp only [Act.put, List.getElem_toArray, List.getElem_cons_zero, List.getElem_cons_succ, List.setIfInBounds_toArray, List.set_cons_zero, List.set_cons_succ]
      refine wpAnyH_ready (rs := [5]) (by kernel_rfl) (by simp) ?_
      refine AllReadyH.cons rfl (fun K hK => ?_) AllReadyH.nil
      go_simp
      go_at_call 11
      refine (pick w.heap.size w.heap.size 1 6 _ (Rw2.out.alloc _) (by omega) (by omega)).mono ?_
      rintro e w3 ⟨u, rfl, u0, u1, hw3⟩
      have Rw3 : Hid (Rd w.heap.size w3 w.heap.size 2) := hw3.rd
      have Sw3 : Hid (Stp w.heap.size w.heap.size 1 _ w3) := hw3
      clear hw3
      go_wp2_with fail
      obtain ⟨m, rfl⟩ := Int.eq_ofNat_of_zero_le u0
      refine hK.out _ _ (trivial) (fun hHeld4 => ?_)
      clear hK K
      try simp only [Act.put, List.getElem_toArray, List.getElem_cons_zero, List.getElem_cons_succ, List.setIfInBounds_toArray, List.set_cons_zero, List.set_cons_succ]
      refine tV 6 (v := ?_) rfl (by kernel_rfl) (fun _ _ _ h => h) ?_ (by assumption) ?_
      rotate_left 1
      · (intro x hSx; (try dsimp only at hSx); go_simp; try with_reducible rfl)
      try simp only [Act.put, List.getElem_toArray, List.getElem_cons_zero, List.getElem_cons_succ, List.setIfInBounds_toArray, List.set_cons_zero, List.set_cons_succ]
      refine tV 8 (v := ?_) rfl (by kernel_rfl) (fun _ _ _ h => h) ?_ (by assumption) ?_
      rotate_left 1
      · (intro x hSx; (try dsimp only at hSx); go_simp; try with_reducible rfl)
      try simp only [Act.put, List.getElem_toArray, List.getElem_cons_zero, List.getElem_cons_succ, List.setIfInBounds_toArray, List.set_cons_zero, List.set_cons_succ]
      refine wpAnyH_ready (rs := [7]) (by kernel_rfl) (by simp) ?_
      refine AllReadyH.cons rfl (fun K hK => ?_) AllReadyH.nil
      obtain ⟨x, x0, x1, hx⟩ : ∃ x : Int, 13 ≤ x ∧ x ≤ 121 ∧ w3.cell? ⟨w2.heap.size, m, none⟩ = some (.int .i64 x) := by
        rw [Sw3.out.cell _ _ (by have := Rw2.out.size; omega), World.cell?_alloc_at _ _ _ _ rfl]
        rcases six_of m u1 with rfl | rfl | rfl | rfl | rfl | rfl <;> exact ⟨_, by decide, by decide, rfl⟩
      go_simp
      refine hK.out _ _ (trivial) (fun hHeld5 => ?_)
      clear hK K
      try simp only [Act.put, List.getElem_toArray, List.getElem_cons_zero, List.getElem_cons_succ, List.setIfInBounds_toArray, List.set_cons_zero, List.set_cons_succ]
      refine tV 9 (v := ?_) rfl (by kernel_rfl) (fun _ _ _ h => h) ?_ (by assumption) ?_
      rotate_left 1
      · (intro x hSx; (try dsimp only at hSx); go_simp; try with_reducible rfl)
      try simp only [Act.put, List.getElem_toArray, List.getElem_cons_zero, List.getElem_cons_succ, List.setIfInBounds_toArray, List.set_cons_zero, List.set_cons_succ]
      refine wpAnyH_done (by kernel_rfl) ?_ _
      clear hHeld hHeld2 hHeld3 hHeld4 hHeld5
      have BF : Hid (Below w.heap.size w _) := ((B1.out.trans ((bdrew (Below.refl _ w1)).trans Sw2.out.below)).alloc (by have := Rw2.out.size; omega) _).trans Sw3.out.below
      go_wp2_with fail
      go_ret2
      exact ⟨_, _, rfl, by omega, by omega, x0, x1, BF.out⟩
    · go_simp
      go_at_call 11
      refine (pick w.heap.size w.heap.size 1 6 _ (Rw2.out) (by omega) (by omega)).mono ?_
      rintro e w3 ⟨u, rfl, u0, u1, hw3⟩
      have Rw3 : Hid (Rd w.heap.size w3 w.heap.size 2) := hw3.rd
      have Sw3 : Hid (Stp w.heap.size w.heap.size 1 _ w3) := hw3
      clear hw3
      go_wp2_with fail
      obtain ⟨m, rfl⟩ := Int.eq_ofNat_of_zero_le u0
      refine hK.out _ _ (trivial) (fun hHeld3 => ?_)
      clear hK K
      try simp only [Act.put, List.getElem_toArray, List.getElem_cons_zero, List.getElem_cons_succ, List.setIfInBounds_toArray, List.set_cons_zero, List.set_cons_succ]
      refine tV 8 (v := ?_) rfl (by kernel_rfl) (fun _ _ _ h => h) ?_ (by assumption) ?_
      rotate_left 1
      · (intro x hSx; (try dsimp only at hSx); go_simp; try with_reducible rfl)
      try simp only [Act.put, List.getElem_toArray, List.getElem_cons_zero, List.getElem_cons_succ, List.setIfInBounds_toArray, List.set_cons_zero, List.set_cons_succ]
      refine wpAnyH_ready (rs := [3]) (by kernel_rfl) (by simp) ?_
      refine AllReadyH.cons rfl (fun K hK => ?_) AllReadyH.nil
      go_simp
      refine hK.out _ _ (trivial) (fun hHeld4 => ?_)
      clear hK K
      try simp only [Act.put, List.getElem_toArray, List.getElem_cons_zero, List.getElem_cons_succ, List.setIfInBounds_toArray, List.set_cons_zero, List.set_cons_succ]
      refine tV 6 (v := ?_) rfl (by kernel_rfl) (fun _ _ _ h => h) ?_ (by assumption) ?_
      rotate_left 1
      · (intro x hSx; (try dsimp only at hSx); go_simp; try with_reducible rfl)
      try simp only [Act.put, List.getElem_toArray, List.getElem_cons_zero, List.getElem_cons_succ, List.setIfInBounds_toArray, List.set_cons_zero, List.set_cons_succ]
      refine wpAnyH_ready (rs := [7]) (by kernel_rfl) (by simp) ?_
      refine AllReadyH.cons rfl (fun K hK => ?_) AllReadyH.nil
      obtain ⟨x, x0, x1, hx⟩ : ∃ x : Int, 13 ≤ x ∧ x ≤ 121 ∧ (w3.alloc (.cells #[.int .i64 13, .int .i64 14, .int .i64 20, .int .i64 50, .int .i64 120, .int .i64 121] 3)).cell? ⟨w3.heap.size, m, none⟩ = some (.int .i64 x) := by
        rw [World.cell?_alloc_at _ _ _ _ rfl]
        rcases six_of m u1 with rfl | rfl | rfl | rfl | rfl | rfl <;> exact ⟨_, by decide, by decide, rfl⟩
      go_simp
      refine hK.out _ _ (trivial) (fun hHeld5 => ?_)
      clear hK K
      try simp only [Act.put, List.getElem_toArray, List.getElem_cons_zero, List.getElem_cons_succ, List.setIfInBounds_toArray, List.set_cons_zero, List.set_cons_succ]
      refine tV 9 (v := ?_) rfl (by kernel_rfl) (fun _ _ _ h => h) ?_ (by assumption) ?_
      rotate_left 1
      · (intro x hSx; (try dsimp only at hSx); go_simp; try with_reducible rfl)
      try simp only [Act.put, List.getElem_toArray, List.getElem_cons_zero, List.getElem_cons_succ, List.setIfInBounds_toArray, List.set_cons_zero, List.set_cons_succ]
      refine wpAnyH_done (by kernel_rfl) ?_ _
      clear hHeld hHeld2 hHeld3 hHeld4 hHeld5
      have BF : Hid (Below w.heap.size w _) := ((B1.out.trans ((bdrew (Below.refl _ w1)).trans Sw2.out.below)).trans Sw3.out.below).alloc (by have := Rw3.out.size; omega) (.cells #[.int .i64 13, .int .i64 14, .int .i64 20, .int .i64 50, .int .i64 120, .int .i64 121] 3)
      go_wp2_with fail
      go_ret2
      exact ⟨_, _, rfl, by omega, by omega, x0, x1, BF.out⟩
  · go_simp
    refine hK.out _ _ (trivial) (fun hHeld2 => ?_)
    clear hK K
    try simp only [Act.put, List.getElem_toArray, List.getElem_cons_zero, List.getElem_cons_succ, List.setIfInBounds_toArray, List.set_cons_zero, List.set_cons_succ]
    refine wpAnyH_ready (rs := [1]) (by kernel_rfl) (by simp) ?_
    refine AllReadyH.cons rfl (fun K hK => ?_) AllReadyH.nil
    go_simp
    go_at_call 11
    refine (pick w.heap.size w.heap.size 0 43 _ (rd_drew (R1.out.alloc _)) (by omega) (by omega)).mono ?_
    rintro e w2 ⟨v, rfl, v0, v1, hw2⟩
    have Rw2 : Hid (Rd w.heap.size w2 w.heap.size 1) := hw2.rd
    have Sw2 : Hid (Stp w.heap.size w.heap.size 0 _ w2) := hw2
    clear hw2
    have hsub : IntKind.i64.wrap (v - 1) = v - 1 := by rw [IntKind.wrap_i64]; omega
    go_wp2_with fail
    refine hK.out _ _ (trivial) (fun hHeld3 => ?_)
    clear hK K
    try simp only [Act.put, List.getElem_toArray, List.getElem_cons_zero, List.getElem_cons_succ, List.setIfInBounds_toArray, List.set_cons_zero, List.set_cons_succ]
    refine tV 2 (v := ?_) rfl (by kernel_rfl) (fun _ _ _ h => h) ?_ (by assumption) ?_
    rotate_left 1
    · (intro x hSx; (try dsimp only at hSx); go_simp; try with_reducible rfl)
    try simp only [Act.put, List.getElem_toArray, List.getElem_cons_zero, List.getElem_cons_succ, List.setIfInBounds_toArray, List.set_cons_zero, List.set_cons_succ]
    refine wpAnyH_ready (rs := [5]) (by kernel_rfl) (by simp) ?_
    refine AllReadyH.cons rfl (fun K hK => ?_) AllReadyH.nil
    go_simp
    go_at_call 11
    refine (pick w.heap.size w.heap.size 1 6 _ (Rw2.out) (by omega) (by omega)).mono ?_
    rintro e w3 ⟨u, rfl, u0, u1, hw3⟩
    have Rw3 : Hid (Rd w.heap.size w3 w.heap.size 2) := hw3.rd
    have Sw3 : Hid (Stp w.heap.size w.heap.size 1 _ w3) := hw3
    clear hw3
    go_wp2_with fail
    obtain ⟨m, rfl⟩ := Int.eq_ofNat_of_zero_le u0
    refine hK.out _ _ (trivial) (fun hHeld4 => ?_)
    clear hK K
    try simp only [Act.put, List.getElem_toArray, List.getElem_cons_zero, List.getElem_cons_succ, List.setIfInBounds_toArray, List.set_cons_zero, List.set_cons_succ]
    refine tV 6 (v := ?_) rfl (by kernel_rfl) (fun _ _ _ h => h) ?_ (by assumption) ?_
    rotate_left 1
    · (intro x hSx; (try dsimp only at hSx); go_simp; try with_reducible rfl)
    try simp only [Act.put, List.getElem_toArray, List.getElem_cons_zero, List.getElem_cons_succ, List.setIfInBounds_toArray, List.set_cons_zero, List.set_cons_succ]
    refine tV 8 (v := ?_) rfl (by kernel_rfl) (fun _ _ _ h => h) ?_ (by assumption) ?_
    rotate_left 1
    · (intro x hSx; (try dsimp only at hSx); go_simp; try with_reducible rfl)
    try simp only [Act.put, List.getElem_toArray, List.getElem_cons_zero, List.getElem_cons_succ, List.setIfInBounds_toArray, List.set_cons_zero, List.set_cons_succ]
    refine wpAnyH_ready (rs := [7]) (by kernel_rfl) (by simp) ?_
    refine AllReadyH.cons rfl (fun K hK => ?_) AllReadyH.nil
    obtain ⟨x, x0, x1, hx⟩ : ∃ x : Int, 13 ≤ x ∧ x ≤ 121 ∧ w3.cell? ⟨w1.heap.size, m, none⟩ = some (.int .i64 x) := by
      have hr9 := R1.out.size
      rw [Sw3.out.cell _ _ (by omega), Sw2.out.cell _ _ (by omega), show ((w1.alloc (.cells #[.int .i64 13, .int .i64 14, .int .i64 20, .int .i64 50, .int .i64 120, .int .i64 121] 3)).drew).cell? ⟨w1.heap.size, m, none⟩ = (w1.alloc (.cells #[.int .i64 13, .int .i64 14, .int .i64 20, .int .i64 50, .int .i64 120, .int .i64 121] 3)).cell? ⟨w1.heap.size, m, none⟩ from rfl, World.cell?_alloc_at _ _ _ _ rfl]
      rcases six_of m u1 with rfl | rfl | rfl | rfl | rfl | rfl <;> exact ⟨_, by decide, by decide, rfl⟩
    go_simp
    refine hK.out _ _ (trivial) (fun hHeld5 => ?_)
    clear hK K
    try simp only [Act.put, List.getElem_toArray, List.getElem_cons_zero, List.getElem_cons_succ, List.setIfInBounds_toArray, List.set_cons_zero, List.set_cons_succ]
    refine tV 9 (v := ?_) rfl (by kernel_rfl) (fun _ _ _ h => h) ?_ (by assumption) ?_
    rotate_left 1
    · (intro x hSx; (try dsimp only at hSx); go_simp; try with_reducible rfl)
    try simp only [Act.put, List.getElem_toArray, List.getElem_cons_zero, List.getElem_cons_succ, List.setIfInBounds_toArray, List.set_cons_zero, List.set_cons_succ]
    refine wpAnyH_done (by kernel_rfl) ?_ _
    clear hHeld hHeld2 hHeld3 hHeld4 hHeld5
    have BF : Hid (Below w.heap.size w _) := ((B1.out.trans ((bdrew ((Below.refl _ w1).alloc (by have := R1.out.size; omega) _)).trans Sw2.out.below))).trans Sw3.out.below
    go_wp2_with fail
    go_ret2
    exact ⟨_, _, rfl, by omega, by omega, x0, x1, BF.out⟩

end Go.Proofs.Ytjeabgkcmfjjlaa
