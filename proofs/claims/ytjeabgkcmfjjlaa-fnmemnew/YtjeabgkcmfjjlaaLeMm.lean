/-
  Two memories that are one, held against each other by the laws.
-/
import Derived.Test.YtjeabgkcmfjjlaaLeIn
import Derived.Test.YtjeabgkcmfjjlaaSxB
import Derived.Test.YtjeabgkcmfjjlaaDtMem
import Derived.Deep.RegionHeld3
namespace Go.Proofs.Ytjeabgkcmfjjlaa
open Go.ChangeShapes Go.WideShapes Go.ChangeAt Go.RowKit
set_option linter.unusedVariables false

set_option maxRecDepth 100000 in
set_option maxHeartbeats 4000000 in
theorem leRMem (x1 x2 x3 : Int) (a0 : Option Addr) (n c0 : Nat) (a4 : Option Addr) (m c4 : Nat) (b0 : Option Addr) (d0 : Nat) (b4 : Option Addr) (d4 : Nat) (xs : List Int) (cd : List Bool) (w : World) {D E D2 E2 : Nat → Prop} (h0 : IntsAt D w a0 n xs) (g0 : IntsAt E w b0 n xs) (h4 : SlAt boolR D2 w a4 m cd) (g4 : SlAt boolR E2 w b4 m cd) (hm : m ≤ 1048576) :
    Calls Try.prog 6 #[.agg #[.slice a0 n c0, .int .i64 x1, .int .i64 x2, .int .i64 x3, .slice a4 m c4], .agg #[.slice b0 n d0, .int .i64 x1, .int .i64 x2, .int .i64 x3, .slice b4 m d4]] w fun e w' => e = .returned (.bool true) ∧ Below w.heap.size w w' := by
  have H0 : Hid (IntsAt D w a0 n xs) := h0
  have G0 : Hid (IntsAt E w b0 n xs) := g0
  have H4 : Hid (SlAt boolR D2 w a4 m cd) := h4
  have G4 : Hid (SlAt boolR E2 w b4 m cd) := g4
  have hm2 := h4.room
  clear h0 g0 h4 g4
  have ne1 : (x1 != x1) = false := by simp
  have ne2 : (x2 != x2) = false := by simp
  have ne3 : (x3 != x3) = false := by simp
  have ne4 : ((m : Int) != (m : Int)) = false := by simp
  have hz : w.heap.size + 1 + 1 ≤ ((w.alloc (.cells #[.slice a0 n c0, .int .i64 x1, .int .i64 x2, .int .i64 x3, .slice a4 m c4] 28)).alloc (.cells #[.slice b0 n d0, .int .i64 x1, .int .i64 x2, .int .i64 x3, .slice b4 m d4] 28)).heap.size := by simp
  have B : Hid (∀ y, Below (w.heap.size + 1 + 1) ((w.alloc (.cells #[.slice a0 n c0, .int .i64 x1, .int .i64 x2, .int .i64 x3, .slice a4 m c4] 28)).alloc (.cells #[.slice b0 n d0, .int .i64 x1, .int .i64 x2, .int .i64 x3, .slice b4 m d4] 28)) y → Below w.heap.size w y) := fun y hy => ((bR.alloc (by first | exact Nat.le_refl _ | (simp; done) | (simp; omega)) _).alloc (by first | exact Nat.le_refl _ | (simp; done) | (simp; omega)) _).trans (hy.mono (by omega))
  have XM : Hid (∀ y, Below (w.heap.size + 1 + 1) ((w.alloc (.cells #[.slice a0 n c0, .int .i64 x1, .int .i64 x2, .int .i64 x3, .slice a4 m c4] 28)).alloc (.cells #[.slice b0 n d0, .int .i64 x1, .int .i64 x2, .int .i64 x3, .slice b4 m d4] 28)) y → y.heap[w.heap.size]? = some (.cells #[.slice a0 n c0, .int .i64 x1, .int .i64 x2, .int .i64 x3, .slice a4 m c4] 28 (0, 0))) := fun y hy => (hy.block _ (by omega)).trans ((Below.heap_alloc _ _ _ (by first | (simp; done) | (simp; omega))).trans (boxN _ _ _ _ (by simp)))
  have lM : w.heap.size < w.heap.size + 1 + 1 := by omega
  have XK : Hid (∀ y, Below (w.heap.size + 1 + 1) ((w.alloc (.cells #[.slice a0 n c0, .int .i64 x1, .int .i64 x2, .int .i64 x3, .slice a4 m c4] 28)).alloc (.cells #[.slice b0 n d0, .int .i64 x1, .int .i64 x2, .int .i64 x3, .slice b4 m d4] 28)) y → y.heap[w.heap.size + 1]? = some (.cells #[.slice b0 n d0, .int .i64 x1, .int .i64 x2, .int .i64 x3, .slice b4 m d4] 28 (0, 0))) := fun y hy => (hy.block _ (by omega)).trans (boxN _ _ _ _ (by simp))
  have lK : w.heap.size + 1 < w.heap.size + 1 + 1 := by omega
  go_enter Try.func6, Try.ntmps6
  go_wp2_with fail
  have BP : Hid (Below (w.heap.size + 1 + 1) ((w.alloc (.cells #[.slice a0 n c0, .int .i64 x1, .int .i64 x2, .int .i64 x3, .slice a4 m c4] 28)).alloc (.cells #[.slice b0 n d0, .int .i64 x1, .int .i64 x2, .int .i64 x3, .slice b4 m d4] 28)) ((w.alloc (.cells #[.slice a0 n c0, .int .i64 x1, .int .i64 x2, .int .i64 x3, .slice a4 m c4] 28)).alloc (.cells #[.slice b0 n d0, .int .i64 x1, .int .i64 x2, .int .i64 x3, .slice b4 m d4] 28))) := bR
  refine (leInts a0 n c0 xs b0 n d0 xs _ (H0.out.later (B.out _ BP.out)) (G0.out.later (B.out _ BP.out))).mono ?_
  rintro e w1 ⟨rfl, nq, hdw⟩
  have hb : Below (((w.alloc (.cells #[.slice a0 n c0, .int .i64 x1, .int .i64 x2, .int .i64 x3, .slice a4 m c4] 28)).alloc (.cells #[.slice b0 n d0, .int .i64 x1, .int .i64 x2, .int .i64 x3, .slice b4 m d4] 28))).heap.size (((w.alloc (.cells #[.slice a0 n c0, .int .i64 x1, .int .i64 x2, .int .i64 x3, .slice a4 m c4] 28)).alloc (.cells #[.slice b0 n d0, .int .i64 x1, .int .i64 x2, .int .i64 x3, .slice b4 m d4] 28))) w1 := by rw [hdw]; exact below_drewN (Below.refl _ _) nq
  clear hdw
  rw [decide_eq_true (rfl : xs = xs)]
  have hq : Below (w.heap.size + 1 + 1) ((w.alloc (.cells #[.slice a0 n c0, .int .i64 x1, .int .i64 x2, .int .i64 x3, .slice a4 m c4] 28)).alloc (.cells #[.slice b0 n d0, .int .i64 x1, .int .i64 x2, .int .i64 x3, .slice b4 m d4] 28)) w1 := BP.out.trans (Below.mono hb (Nat.le_trans hz BP.out.size))
  have hzn : w.heap.size + 1 + 1 ≤ w1.heap.size := Nat.le_trans hz hq.size
  replace B := lF B hq hzn
  replace XM := lF XM hq hzn
  replace lM := Nat.lt_of_lt_of_le lM hzn
  replace XK := lF XK hq hzn
  replace lK := Nat.lt_of_lt_of_le lK hzn
  clear hq BP hz
  have hz : w1.heap.size ≤ w1.heap.size := Nat.le_refl _
  clear hb
  obtain ⟨kM0, kM1, kM2, kM3, kM4⟩ := bk5 (XM.out w1 bR)
  obtain ⟨kK0, kK1, kK2, kK3, kK4⟩ := bk5 (XK.out w1 bR)
  go_wp2_with fail
  go_loopw [5] (fun t wr => ∃ k : Nat, k ≤ m ∧ t = .int .i64 k ∧ Below w1.heap.size w1 wr) (fun t _ => m - (intOf t).toNat)
  case atStart => exact ⟨0, Nat.zero_le _, rfl, Below.refl _ _⟩
  case round =>
    obtain ⟨k, hk, rfl, hr⟩ := hrel
    have HR1 : Hid (Below w1.heap.size w1 wr) := hr
    clear kM0 kM1 kM2 kM3 kM4 kK0 kK1 kK2 kK3 kK4
    have hzn : w1.heap.size ≤ wr.heap.size := Nat.le_trans hz (Below.size hr)
    replace B := lF B hr hzn
    replace XM := lF XM hr hzn
    replace lM := Nat.lt_of_lt_of_le lM hzn
    replace XK := lF XK hr hzn
    replace lK := Nat.lt_of_lt_of_le lK hzn
    clear hz
    have hz : wr.heap.size ≤ wr.heap.size := Nat.le_refl _
    clear hr
    by_cases hlt : k < m
    · obtain ⟨q, hq⟩ : ∃ q, cd.getD k false = q := ⟨_, rfl⟩
      obtain ⟨ab, ao, rfl, _, ca⟩ := (H4.out.later (B.out wr (Below.refl _ _))).tru k hlt
      obtain ⟨bb, bo, rfl, _, cb⟩ := (G4.out.later (B.out wr (Below.refl _ _))).tru k hlt
      rw [hq] at ca cb
      have ha9 := World.block_lt_of_cell? wr _ ca
      have hb9 := World.block_lt_of_cell? wr _ cb
      simp only at ha9 hb9
      have GA : Hid (∀ y, Below wr.heap.size wr y → y.cell? ⟨ab, ao + k, none⟩ = some (.bool q)) := fun y hy => (hy.cell (p := ⟨ab, ao + k, none⟩) ha9).trans ca
      have GB : Hid (∀ y, Below wr.heap.size wr y → y.cell? ⟨bb, bo + k, none⟩ = some (.bool q)) := fun y hy => (hy.cell (p := ⟨bb, bo + k, none⟩) hb9).trans cb
      have neq : (q != q) = false := by cases q <;> rfl
      clear hq ca cb
      obtain ⟨kM0, kM1, kM2, kM3, kM4⟩ := bk5 (XM.out wr bR)
      obtain ⟨kK0, kK1, kK2, kK3, kK4⟩ := bk5 (XK.out wr bR)
      go_wp2_with fail
      clear kM0 kM1 kM2 kM3 kM4 kK0 kK1 kK2 kK3 kK4
      have KS : Hid (∀ x, Below (wr.heap.size) wr x → x.cell? ⟨w.heap.size, 0, none⟩ = some (.slice a0 n c0) ∧ x.cell? ⟨w.heap.size, 1, none⟩ = some (.int .i64 x1) ∧ x.cell? ⟨w.heap.size, 2, none⟩ = some (.int .i64 x2) ∧ x.cell? ⟨w.heap.size, 3, none⟩ = some (.int .i64 x3) ∧ x.cell? ⟨w.heap.size, 4, none⟩ = some (.slice (some ⟨ab, ao, none⟩) m c4) ∧ x.cell? ⟨w.heap.size + 1, 0, none⟩ = some (.slice b0 n d0) ∧ x.cell? ⟨w.heap.size + 1, 1, none⟩ = some (.int .i64 x1) ∧ x.cell? ⟨w.heap.size + 1, 2, none⟩ = some (.int .i64 x2) ∧ x.cell? ⟨w.heap.size + 1, 3, none⟩ = some (.int .i64 x3) ∧ x.cell? ⟨w.heap.size + 1, 4, none⟩ = some (.slice (some ⟨bb, bo, none⟩) m d4) ∧ x.cell? ⟨ab, ao + k, none⟩ = some (.bool q) ∧ x.cell? ⟨bb, bo + k, none⟩ = some (.bool q)) := fun x hx => ⟨(boxG (XM.out x hx) 0).1, (boxG (XM.out x hx) 1).1, (boxG (XM.out x hx) 2).1, (boxG (XM.out x hx) 3).1, (boxG (XM.out x hx) 4).1, (boxG (XK.out x hx) 0).1, (boxG (XK.out x hx) 1).1, (boxG (XK.out x hx) 2).1, (boxG (XK.out x hx) 3).1, (boxG (XK.out x hx) 4).1, GA.out x hx, GB.out x hx⟩
      refine wp_region_held_drew (S := fun x => x.cell? ⟨w.heap.size, 0, none⟩ = some (.slice a0 n c0) ∧ x.cell? ⟨w.heap.size, 1, none⟩ = some (.int .i64 x1) ∧ x.cell? ⟨w.heap.size, 2, none⟩ = some (.int .i64 x2) ∧ x.cell? ⟨w.heap.size, 3, none⟩ = some (.int .i64 x3) ∧ x.cell? ⟨w.heap.size, 4, none⟩ = some (.slice (some ⟨ab, ao, none⟩) m c4) ∧ x.cell? ⟨w.heap.size + 1, 0, none⟩ = some (.slice b0 n d0) ∧ x.cell? ⟨w.heap.size + 1, 1, none⟩ = some (.int .i64 x1) ∧ x.cell? ⟨w.heap.size + 1, 2, none⟩ = some (.int .i64 x2) ∧ x.cell? ⟨w.heap.size + 1, 3, none⟩ = some (.int .i64 x3) ∧ x.cell? ⟨w.heap.size + 1, 4, none⟩ = some (.slice (some ⟨bb, bo, none⟩) m d4) ∧ x.cell? ⟨ab, ao + k, none⟩ = some (.bool q) ∧ x.cell? ⟨bb, bo + k, none⟩ = some (.bool q)) (by kernel_rfl) ?_ (fun hHeld => ?_)
      · exact KS.out _ (bdrew bR)
      refine tV 0 (v := ?_) rfl (by kernel_rfl) (fun _ _ _ h => h) ?_ (by assumption) ?_
      rotate_left 1
      · (intro x hSx; (try dsimp only at hSx); go_simp; try with_reducible rfl)
      try simp only [Act.put, List.getElem_toArray, List.getElem_cons_zero, List.setIfInBounds_toArray, List.set_cons_zero, List.set_cons_succ]
      refine tV 1 (v := ?_) rfl (by kernel_rfl) (fun _ _ _ h => h) ?_ (by assumption) ?_
      rotate_left 1
      · (intro x hSx; (try dsimp only at hSx); go_simp; try with_reducible rfl)
      try simp only [Act.put, List.getElem_toArray, List.getElem_cons_zero, List.getElem_cons_succ, List.setIfInBounds_toArray, List.set_cons_zero, List.set_cons_succ]
      refine tV 2 (v := ?_) rfl (by kernel_rfl) (fun _ _ _ h => h) ?_ (by assumption) ?_
      rotate_left 1
      · (intro x hSx; (try dsimp only at hSx); go_simp; try with_reducible rfl)
      try simp only [Act.put, List.getElem_toArray, List.getElem_cons_zero, List.getElem_cons_succ, List.setIfInBounds_toArray, List.set_cons_zero, List.set_cons_succ]
      refine tV 3 (v := ?_) rfl (by kernel_rfl) (fun _ _ _ h => h) ?_ (by assumption) ?_
      rotate_left 1
      · (intro x hSx; (try dsimp only at hSx); go_simp; try with_reducible rfl)
      try simp only [Act.put, List.getElem_toArray, List.getElem_cons_zero, List.getElem_cons_succ, List.setIfInBounds_toArray, List.set_cons_zero, List.set_cons_succ]
      refine tV 4 (v := ?_) rfl (by kernel_rfl) (fun _ _ _ h => h) ?_ (by assumption) ?_
      rotate_left 1
      · (intro x hSx; (try dsimp only at hSx); go_simp; try with_reducible rfl)
      try simp only [Act.put, List.getElem_toArray, List.getElem_cons_zero, List.getElem_cons_succ, List.setIfInBounds_toArray, List.set_cons_zero, List.set_cons_succ]
      refine tV 5 (v := ?_) rfl (by kernel_rfl) (fun _ _ _ h => h) ?_ (by assumption) ?_
      rotate_left 1
      · (intro x hSx; (try dsimp only at hSx); go_simp; try with_reducible rfl)
      try simp only [Act.put, List.getElem_toArray, List.getElem_cons_zero, List.getElem_cons_succ, List.setIfInBounds_toArray, List.set_cons_zero, List.set_cons_succ]
      refine tV 6 (v := ?_) rfl (by kernel_rfl) (fun _ _ _ h => h) ?_ (by assumption) ?_
      rotate_left 1
      · (intro x hSx; (try dsimp only at hSx); go_simp; try with_reducible rfl)
      try simp only [Act.put, List.getElem_toArray, List.getElem_cons_zero, List.getElem_cons_succ, List.setIfInBounds_toArray, List.set_cons_zero, List.set_cons_succ]
      refine tV 7 (v := ?_) rfl (by kernel_rfl) (fun _ _ _ h => h) ?_ (by assumption) ?_
      rotate_left 1
      · (intro x hSx; (try dsimp only at hSx); go_simp; try with_reducible rfl)
      try simp only [Act.put, List.getElem_toArray, List.getElem_cons_zero, List.getElem_cons_succ, List.setIfInBounds_toArray, List.set_cons_zero, List.set_cons_succ]
      refine tV 8 (v := ?_) rfl (by kernel_rfl) (fun _ _ _ h => h) ?_ (by assumption) ?_
      rotate_left 1
      · (intro x hSx; (try dsimp only at hSx); go_simp; try with_reducible rfl)
      try simp only [Act.put, List.getElem_toArray, List.getElem_cons_zero, List.getElem_cons_succ, List.setIfInBounds_toArray, List.set_cons_zero, List.set_cons_succ]
      refine tV 9 (v := ?_) rfl (by kernel_rfl) (fun _ _ _ h => h) ?_ (by assumption) ?_
      rotate_left 1
      · (intro x hSx; (try dsimp only at hSx); go_simp; try with_reducible rfl)
      try simp only [Act.put, List.getElem_toArray, List.getElem_cons_zero, List.getElem_cons_succ, List.setIfInBounds_toArray, List.set_cons_zero, List.set_cons_succ]
      refine tV 10 (v := ?_) rfl (by kernel_rfl) (fun _ _ _ h => h) ?_ (by assumption) ?_
      rotate_left 1
      · (intro x hSx; (try dsimp only at hSx); go_simp; try with_reducible rfl)
      try simp only [Act.put, List.getElem_toArray, List.getElem_cons_zero, List.getElem_cons_succ, List.setIfInBounds_toArray, List.set_cons_zero, List.set_cons_succ]
      refine wpAnyH_done (by kernel_rfl) ?_ _
      clear hHeld
      clear KS
      replace B := lD B
      replace XM := lD XM
      replace XK := lD XK
      replace hz : wr.heap.size ≤ (wr.drew).heap.size := Nat.le_trans hz (Below.size (bdrew (Below.refl (wr.heap.size) wr)))
      obtain ⟨kM0, kM1, kM2, kM3, kM4⟩ := bk5 (XM.out (wr.drew) bR)
      obtain ⟨kK0, kK1, kK2, kK3, kK4⟩ := bk5 (XK.out (wr.drew) bR)
      go_wp2_with fail
      exact ⟨⟨k + 1, by omega, by go_num, HR1.out.trans (bdrew (Below.refl _ _))⟩, by simp [intOf]; omega⟩
    · have ek : m = k := by omega
      subst ek
      obtain ⟨kM0, kM1, kM2, kM3, kM4⟩ := bk5 (XM.out wr bR)
      obtain ⟨kK0, kK1, kK2, kK3, kK4⟩ := bk5 (XK.out wr bR)
      go_wp2_with fail
      go_ret
      exact ⟨rfl, B.out wr (Below.refl _ _)⟩

end Go.Proofs.Ytjeabgkcmfjjlaa
