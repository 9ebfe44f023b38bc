/-
  The program's small questions on things and parts: what they say; they write nothing that was there.
-/
import Derived.Test.YtjbmcdekhhbiaaaGreatMemRep
import Derived.Test.YtjbmcdekhhbiaaaGreatFldI
import Derived.Test.YtjbmcdekhhbiaaaGreatImplB
import Derived.Test.YtjbmcdekhhbiaaaGreatMemSa
namespace Go.Proofs.YtjbmcdekhhbiaaaGreat
open Go.ChangeShapes Go.WideShapes Go.ChangeAt Go.RowKit
set_option linter.unusedVariables false

theorem isZeroImpl (n : Int) (w : World) : Calls Tryz.prog 105 #[.int .i64 n] w fun e w' => e = .returned (.bool (n == 0)) ∧ w = w' := by
  go_enter Tryz.func105, Tryz.ntmps105
  go_wp2_with fail
  go_ret
  exact ⟨rfl, rfl⟩
theorem cardCountImpl (n : Int) (h0 : -1000000000 ≤ n) (h1 : n ≤ 1000000000000) (w : World) : Calls Tryz.prog 102 #[.int .i64 n] w fun e w' => e = .returned (.int .i64 (crd n)) ∧ w = w' := by
  have HF : Hid (crd n = (n + 3).tdiv 4) := rfl
  go_enter Tryz.func102, Tryz.ntmps102
  go_wp2_with fail
  go_ret
  refine ⟨?_, rfl⟩
  rw [HF.out, show n + 3 = n + 4 - 1 by omega]
  rfl
theorem areSizesImpl (y o : Int) (w : World) : Calls Tryz.prog 99 #[.int .i64 y, .int .i64 o] w fun e w' => e = .returned (.bool (inI y 0 40 && inI o 14 120)) ∧ w = w' := by
  obtain ⟨q, hq⟩ : ∃ q, inI y 0 40 = q := ⟨_, rfl⟩
  have HQ : Hid (inI y 0 40 = q) := hq
  clear hq
  cases q
  all_goals
    go_enter Tryz.func99, Tryz.ntmps99
    go_wp2_with fail
    refine (isAmongImpl y 0 40 _).mono ?_
    rintro e w1 ⟨rfl, rfl⟩
    rw [HQ.out]
    go_wp2_with fail
    try refine (isAmongImpl o 14 120 _).mono ?_
    try rintro e w2 ⟨rfl, rfl⟩
    try go_wp2_with fail
    go_ret
    exact ⟨by first | rfl | (rw [HQ.out]; rfl), rfl⟩
theorem headImpl (at0 c : Int) (ta : Option Addr) (tl tc : Nat) (w : World) : Calls Tryz.prog 113 #[.agg #[.int .i64 at0, .int .i64 c, .slice ta tl tc]] w fun e w' => e = .returned (.int .i64 (hdN c)) ∧ Below w.heap.size w w' := by
  by_cases h : c = -1 ∨ c = -2
  · have HF : Hid (hdN c = 2) := if_pos h
    have hb : ((c == -1) || (c == -2)) = true := by rcases h with rfl | rfl <;> rfl
    go_enter Tryz.func113, Tryz.ntmps113
    go_wp2_with fail
    refine (isArrayImpl c _).mono ?_
    rintro e w1 ⟨rfl, rfl⟩
    rw [hb]
    go_wp2_with fail
    go_ret
    exact ⟨by rw [HF.out]; rfl, by go_grown⟩
  · have HF : Hid (hdN c = 1) := if_neg h
    have hb : ((c == -1) || (c == -2)) = false := by simp; omega
    go_enter Tryz.func113, Tryz.ntmps113
    go_wp2_with fail
    refine (isArrayImpl c _).mono ?_
    rintro e w1 ⟨rfl, rfl⟩
    rw [hb]
    go_wp2_with fail
    go_ret
    exact ⟨by rw [HF.out]; rfl, by go_grown⟩

set_option maxRecDepth 100000 in
theorem sizeImpl (at0 c : Int) (ta : Option Addr) (tl tc : Nat) (w : World) (ht : tl ≤ 1000000) : Calls Tryz.prog 75 #[.agg #[.int .i64 at0, .int .i64 c, .slice ta tl tc]] w fun e w' => e = .returned (.int .i64 ((hdN c + tl : Nat) : Int)) ∧ Below w.heap.size w w' := by
  have hd0 := hdN_pos c
  obtain ⟨hd, hhd⟩ : ∃ hd, hdN c = hd := ⟨_, rfl⟩
  have HH : Hid (hdN c = hd) := hhd
  rw [hhd] at hd0 ⊢
  clear hhd
  have hw1 : IntKind.i64.wrap ((hd : Int) + (tl : Int)) = hd + tl := by rw [IntKind.wrap_i64] <;> omega
  have hz : w.heap.size + 1 ≤ (w.alloc (.cells #[.int .i64 at0, .int .i64 c, .slice ta tl tc] 69)).heap.size := by simp
  have B : Hid (∀ y, Below (w.heap.size + 1) (w.alloc (.cells #[.int .i64 at0, .int .i64 c, .slice ta tl tc] 69)) y → Below w.heap.size w y) := fun y hy => (bR.alloc (by first | exact Nat.le_refl _ | (simp; done) | (simp; omega)) _).trans (hy.mono (by omega))
  have XT : Hid (∀ y, Below (w.heap.size + 1) (w.alloc (.cells #[.int .i64 at0, .int .i64 c, .slice ta tl tc] 69)) y → y.heap[w.heap.size]? = some (.cells #[.int .i64 at0, .int .i64 c, .slice ta tl tc] 69 (0, 0))) := fun y hy => (hy.block _ (by omega)).trans (boxN _ _ _ _ (by simp))
  have lT : w.heap.size < w.heap.size + 1 := by omega
  go_enter Tryz.func75, Tryz.ntmps75
  go_wp2_with fail
  have KS : Hid (∀ x, Below (w.heap.size + 1) (w.alloc (.cells #[.int .i64 at0, .int .i64 c, .slice ta tl tc] 69)) x → x.cell? ⟨w.heap.size, 0, none⟩ = some (.int .i64 at0) ∧ x.cell? ⟨w.heap.size, 1, none⟩ = some (.int .i64 c) ∧ x.cell? ⟨w.heap.size, 2, none⟩ = some (.slice ta tl tc)) := fun x hx => bk3 (XT.out x hx)
  refine wp_region_held_drew (S := fun x => x.cell? ⟨w.heap.size, 0, none⟩ = some (.int .i64 at0) ∧ x.cell? ⟨w.heap.size, 1, none⟩ = some (.int .i64 c) ∧ x.cell? ⟨w.heap.size, 2, none⟩ = some (.slice ta tl tc)) (by kernel_rfl) ?_ (fun hHeld => ?_)
  · exact KS.out _ (bdrew bR)
  refine tV 0 (v := ?_) rfl (by kernel_rfl) (fun _ _ _ h => h) ?_ (by assumption) ?_
  rotate_left 1
  · (intro x hSx; (try dsimp only at hSx); go_simp; try with_reducible rfl)
  try simp only [Act.put, zgT, zg0, zsT, zs0, zsS]
  refine tV 2 (v := ?_) rfl (by kernel_rfl) (fun _ _ _ h => h) ?_ (by assumption) ?_
  rotate_left 1
  · (intro x hSx; (try dsimp only at hSx); go_simp; try with_reducible rfl)
  try simp only [Act.put, zgT, zg0, zgS, zsT, zs0, zsS]
  refine tV 3 (v := ?_) rfl (by kernel_rfl) (fun _ _ _ h => h) ?_ (by assumption) ?_
  rotate_left 1
  · (intro x hSx; (try dsimp only at hSx); go_simp; try with_reducible rfl)
  try simp only [Act.put, zgT, zg0, zgS, zsT, zs0, zsS]
  refine tV 4 (v := ?_) rfl (by kernel_rfl) (fun _ _ _ h => h) ?_ (by assumption) ?_
  rotate_left 1
  · (intro x hSx; (try dsimp only at hSx); go_simp; try with_reducible rfl)
  try simp only [Act.put, zgT, zg0, zgS, zsT, zs0, zsS]
  refine wpAnyH_ready (rs := [1]) (by kernel_rfl) (by simp) ?_
  refine AllReadyH.cons rfl (fun K hK => ?_) AllReadyH.nil
  go_simp
  go_at_call 113
  have BP : Hid (Below (w.heap.size + 1) (w.alloc (.cells #[.int .i64 at0, .int .i64 c, .slice ta tl tc] 69)) (w.alloc (.cells #[.int .i64 at0, .int .i64 c, .slice ta tl tc] 69)).drew) := (bdrew bR)
  refine (headImpl at0 c ta tl tc _).mono ?_
  rintro e w1 ⟨rfl, hb⟩
  have hq : Below (w.heap.size + 1) (w.alloc (.cells #[.int .i64 at0, .int .i64 c, .slice ta tl tc] 69)) w1 := BP.out.trans (Below.mono hb (Nat.le_trans hz BP.out.size))
  have hzn : w.heap.size + 1 ≤ w1.heap.size := Nat.le_trans hz hq.size
  replace B := lF B hq hzn
  replace KS := lF KS hq hzn
  replace XT := lF XT hq hzn
  replace lT := Nat.lt_of_lt_of_le lT hzn
  clear hq BP hz
  have hz : w1.heap.size ≤ w1.heap.size := Nat.le_refl _
  clear hb
  rw [HH.out]
  go_wp2_with fail
  refine hK.out _ _ (KS.out _ bR) (fun hHeld2 => ?_)
  clear hK K
  try simp only [Act.put, zgT, zg0, zgS, zsT, zs0, zsS]
  refine tV 5 (v := ?_) rfl (by kernel_rfl) (fun _ _ _ h => h) ?_ (by assumption) ?_
  rotate_left 1
  · (intro x hSx; (try dsimp only at hSx); go_simp; try with_reducible rfl)
  try simp only [Act.put, zgT, zg0, zgS, zsT, zs0, zsS]
  refine tV 6 (v := ?_) rfl (by kernel_rfl) (fun _ _ _ h => h) ?_ (by assumption) ?_
  rotate_left 1
  · (intro x hSx; (try dsimp only at hSx); go_simp; try with_reducible rfl)
  try simp only [Act.put, zgT, zg0, zgS, zsT, zs0, zsS]
  refine wpAnyH_done (by kernel_rfl) ?_ _
  clear hHeld hHeld2
  clear KS
  obtain ⟨kT0, kT1, kT2⟩ := bk3 (XT.out w1 bR)
  go_wp2_with fail
  go_ret
  exact ⟨by show Ending.returned (.int .i64 ((hd : Int) + tl)) = _; rw [Int.natCast_add], B.out w1 (Below.refl _ _)⟩

set_option maxRecDepth 100000 in
theorem placeImpl21 (at0 c : Int) (ta : Option Addr) (tl tc : Nat) (k : Nat) (w : World) (h0 : 0 ≤ at0) (h1 : at0 ≤ 1000000) (hk : k ≤ 1000000) : Calls Tryz.prog 86 #[.agg #[.int .i64 at0, .int .i64 c, .slice ta tl tc], .int .i64 k] w fun e w' => e = .returned (.int .i64 (at0 + (hdN c : Nat) + k)) ∧ Below w.heap.size w w' := by
  have hd0 := hdN_pos c
  obtain ⟨hd, hhd⟩ : ∃ hd, hdN c = hd := ⟨_, rfl⟩
  have HH : Hid (hdN c = hd) := hhd
  rw [hhd] at hd0 ⊢
  clear hhd
  have hw1 : IntKind.i64.wrap (at0 + (hd : Int)) = at0 + hd := by rw [IntKind.wrap_i64] <;> omega
  have hw2 : IntKind.i64.wrap (at0 + (hd : Int) + k) = at0 + hd + k := by rw [IntKind.wrap_i64] <;> omega
  have hz : w.heap.size + 1 ≤ (w.alloc (.cells #[.int .i64 at0, .int .i64 c, .slice ta tl tc] 69)).heap.size := by simp
  have B : Hid (∀ y, Below (w.heap.size + 1) (w.alloc (.cells #[.int .i64 at0, .int .i64 c, .slice ta tl tc] 69)) y → Below w.heap.size w y) := fun y hy => (bR.alloc (by first | exact Nat.le_refl _ | (simp; done) | (simp; omega)) _).trans (hy.mono (by omega))
  have XT : Hid (∀ y, Below (w.heap.size + 1) (w.alloc (.cells #[.int .i64 at0, .int .i64 c, .slice ta tl tc] 69)) y → y.heap[w.heap.size]? = some (.cells #[.int .i64 at0, .int .i64 c, .slice ta tl tc] 69 (0, 0))) := fun y hy => (hy.block _ (by omega)).trans (boxN _ _ _ _ (by simp))
  have lT : w.heap.size < w.heap.size + 1 := by omega
  go_enter Tryz.func86, Tryz.ntmps86
  go_wp2_with fail
  have KS : Hid (∀ x, Below (w.heap.size + 1) (w.alloc (.cells #[.int .i64 at0, .int .i64 c, .slice ta tl tc] 69)) x → x.cell? ⟨w.heap.size, 0, none⟩ = some (.int .i64 at0) ∧ x.cell? ⟨w.heap.size, 1, none⟩ = some (.int .i64 c) ∧ x.cell? ⟨w.heap.size, 2, none⟩ = some (.slice ta tl tc)) := fun x hx => bk3 (XT.out x hx)
  refine wp_region_held_drew (S := fun x => x.cell? ⟨w.heap.size, 0, none⟩ = some (.int .i64 at0) ∧ x.cell? ⟨w.heap.size, 1, none⟩ = some (.int .i64 c) ∧ x.cell? ⟨w.heap.size, 2, none⟩ = some (.slice ta tl tc)) (by kernel_rfl) ?_ (fun hHeld => ?_)
  · exact KS.out _ (bdrew bR)
  refine tV 0 (v := ?_) rfl (by kernel_rfl) (fun _ _ _ h => h) ?_ (by assumption) ?_
  rotate_left 1
  · (intro x hSx; (try dsimp only at hSx); go_simp; try with_reducible rfl)
  try simp only [Act.put, zgT, zg0, zsT, zs0, zsS]
  refine tV 1 (v := ?_) rfl (by kernel_rfl) (fun _ _ _ h => h) ?_ (by assumption) ?_
  rotate_left 1
  · (intro x hSx; (try dsimp only at hSx); go_simp; try with_reducible rfl)
  try simp only [Act.put, zgT, zg0, zgS, zsT, zs0, zsS]
  refine tV 2 (v := ?_) rfl (by kernel_rfl) (fun _ _ _ h => h) ?_ (by assumption) ?_
  rotate_left 1
  · (intro x hSx; (try dsimp only at hSx); go_simp; try with_reducible rfl)
  try simp only [Act.put, zgT, zg0, zgS, zsT, zs0, zsS]
  refine tV 5 (v := ?_) rfl (by kernel_rfl) (fun _ _ _ h => h) ?_ (by assumption) ?_
  rotate_left 1
  · (intro x hSx; (try dsimp only at hSx); go_simp; try with_reducible rfl)
  try simp only [Act.put, zgT, zg0, zgS, zsT, zs0, zsS]
  refine wpAnyH_ready (rs := [3]) (by kernel_rfl) (by simp) ?_
  refine AllReadyH.cons rfl (fun K hK => ?_) AllReadyH.nil
  go_simp
  go_at_call 113
  have BP : Hid (Below (w.heap.size + 1) (w.alloc (.cells #[.int .i64 at0, .int .i64 c, .slice ta tl tc] 69)) (w.alloc (.cells #[.int .i64 at0, .int .i64 c, .slice ta tl tc] 69)).drew) := (bdrew bR)
  refine (headImpl at0 c ta tl tc _).mono ?_
  rintro e w1 ⟨rfl, hb⟩
  have hq : Below (w.heap.size + 1) (w.alloc (.cells #[.int .i64 at0, .int .i64 c, .slice ta tl tc] 69)) w1 := BP.out.trans (Below.mono hb (Nat.le_trans hz BP.out.size))
  have hzn : w.heap.size + 1 ≤ w1.heap.size := Nat.le_trans hz hq.size
  replace B := lF B hq hzn
  replace KS := lF KS hq hzn
  replace XT := lF XT hq hzn
  replace lT := Nat.lt_of_lt_of_le lT hzn
  clear hq BP hz
  have hz : w1.heap.size ≤ w1.heap.size := Nat.le_refl _
  clear hb
  rw [HH.out]
  go_wp2_with fail
  refine hK.out _ _ (KS.out _ bR) (fun hHeld2 => ?_)
  clear hK K
  try simp only [Act.put, zgT, zg0, zgS, zsT, zs0, zsS]
  refine tV 4 (v := ?_) rfl (by kernel_rfl) (fun _ _ _ h => h) ?_ (by assumption) ?_
  rotate_left 1
  · (intro x hSx; (try dsimp only at hSx); go_simp; try with_reducible rfl)
  try simp only [Act.put, zgT, zg0, zgS, zsT, zs0, zsS]
  refine tV 6 (v := ?_) rfl (by kernel_rfl) (fun _ _ _ h => h) ?_ (by assumption) ?_
  rotate_left 1
  · (intro x hSx; (try dsimp only at hSx); go_simp; try with_reducible rfl)
  try simp only [Act.put, zgT, zg0, zgS, zsT, zs0, zsS]
  refine tV 7 (v := ?_) rfl (by kernel_rfl) (fun _ _ _ h => h) ?_ (by assumption) ?_
  rotate_left 1
  · (intro x hSx; (try dsimp only at hSx); go_simp; try with_reducible rfl)
  try simp only [Act.put, zgT, zg0, zgS, zsT, zs0, zsS]
  refine wpAnyH_done (by kernel_rfl) ?_ _
  clear hHeld hHeld2
  clear KS
  obtain ⟨kT0, kT1, kT2⟩ := bk3 (XT.out w1 bR)
  go_wp2_with fail
  go_ret
  exact ⟨rfl, B.out w1 (Below.refl _ _)⟩

set_option maxRecDepth 100000 in
theorem behindImpl (at0 c : Int) (ta : Option Addr) (tl tc : Nat) (w : World) (h0 : 0 ≤ at0) (h1 : at0 ≤ 1000000) (ht : tl ≤ 1000000) : Calls Tryz.prog 128 #[.agg #[.int .i64 at0, .int .i64 c, .slice ta tl tc]] w fun e w' => e = .returned (.int .i64 (at0 + ((hdN c + tl : Nat) : Int))) ∧ Below w.heap.size w w' := by
  have hd0 := hdN_pos c
  obtain ⟨sz, hsz⟩ : ∃ sz, hdN c + tl = sz := ⟨_, rfl⟩
  have HS : Hid (hdN c + tl = sz) := hsz
  have hsb : sz ≤ 1000002 := by omega
  rw [hsz]
  have hw1 : IntKind.i64.wrap (at0 + (sz : Int)) = at0 + sz := by rw [IntKind.wrap_i64] <;> omega
  clear hsz
  have hz : w.heap.size + 1 ≤ (w.alloc (.cells #[.int .i64 at0, .int .i64 c, .slice ta tl tc] 69)).heap.size := by simp
  have B : Hid (∀ y, Below (w.heap.size + 1) (w.alloc (.cells #[.int .i64 at0, .int .i64 c, .slice ta tl tc] 69)) y → Below w.heap.size w y) := fun y hy => (bR.alloc (by first | exact Nat.le_refl _ | (simp; done) | (simp; omega)) _).trans (hy.mono (by omega))
  have XT : Hid (∀ y, Below (w.heap.size + 1) (w.alloc (.cells #[.int .i64 at0, .int .i64 c, .slice ta tl tc] 69)) y → y.heap[w.heap.size]? = some (.cells #[.int .i64 at0, .int .i64 c, .slice ta tl tc] 69 (0, 0))) := fun y hy => (hy.block _ (by omega)).trans (boxN _ _ _ _ (by simp))
  have lT : w.heap.size < w.heap.size + 1 := by omega
  go_enter Tryz.func128, Tryz.ntmps128
  go_wp2_with fail
  have KS : Hid (∀ x, Below (w.heap.size + 1) (w.alloc (.cells #[.int .i64 at0, .int .i64 c, .slice ta tl tc] 69)) x → x.cell? ⟨w.heap.size, 0, none⟩ = some (.int .i64 at0) ∧ x.cell? ⟨w.heap.size, 1, none⟩ = some (.int .i64 c) ∧ x.cell? ⟨w.heap.size, 2, none⟩ = some (.slice ta tl tc)) := fun x hx => bk3 (XT.out x hx)
  refine wp_region_held_drew (S := fun x => x.cell? ⟨w.heap.size, 0, none⟩ = some (.int .i64 at0) ∧ x.cell? ⟨w.heap.size, 1, none⟩ = some (.int .i64 c) ∧ x.cell? ⟨w.heap.size, 2, none⟩ = some (.slice ta tl tc)) (by kernel_rfl) ?_ (fun hHeld => ?_)
  · exact KS.out _ (bdrew bR)
  refine tV 0 (v := ?_) rfl (by kernel_rfl) (fun _ _ _ h => h) ?_ (by assumption) ?_
  rotate_left 1
  · (intro x hSx; (try dsimp only at hSx); go_simp; try with_reducible rfl)
  try simp only [Act.put, zgT, zg0, zsT, zs0, zsS]
  refine tV 1 (v := ?_) rfl (by kernel_rfl) (fun _ _ _ h => h) ?_ (by assumption) ?_
  rotate_left 1
  · (intro x hSx; (try dsimp only at hSx); go_simp; try with_reducible rfl)
  try simp only [Act.put, zgT, zg0, zgS, zsT, zs0, zsS]
  refine tV 2 (v := ?_) rfl (by kernel_rfl) (fun _ _ _ h => h) ?_ (by assumption) ?_
  rotate_left 1
  · (intro x hSx; (try dsimp only at hSx); go_simp; try with_reducible rfl)
  try simp only [Act.put, zgT, zg0, zgS, zsT, zs0, zsS]
  refine wpAnyH_ready (rs := [3]) (by kernel_rfl) (by simp) ?_
  refine AllReadyH.cons rfl (fun K hK => ?_) AllReadyH.nil
  go_simp
  go_at_call 75
  have BP : Hid (Below (w.heap.size + 1) (w.alloc (.cells #[.int .i64 at0, .int .i64 c, .slice ta tl tc] 69)) (w.alloc (.cells #[.int .i64 at0, .int .i64 c, .slice ta tl tc] 69)).drew) := (bdrew bR)
  refine (sizeImpl at0 c ta tl tc _ ht).mono ?_
  rintro e w1 ⟨rfl, hb⟩
  have hq : Below (w.heap.size + 1) (w.alloc (.cells #[.int .i64 at0, .int .i64 c, .slice ta tl tc] 69)) w1 := BP.out.trans (Below.mono hb (Nat.le_trans hz BP.out.size))
  have hzn : w.heap.size + 1 ≤ w1.heap.size := Nat.le_trans hz hq.size
  replace B := lF B hq hzn
  replace KS := lF KS hq hzn
  replace XT := lF XT hq hzn
  replace lT := Nat.lt_of_lt_of_le lT hzn
  clear hq BP hz
  have hz : w1.heap.size ≤ w1.heap.size := Nat.le_refl _
  clear hb
  rw [HS.out]
  go_wp2_with fail
  refine hK.out _ _ (KS.out _ bR) (fun hHeld2 => ?_)
  clear hK K
  try simp only [Act.put, zgT, zg0, zgS, zsT, zs0, zsS]
  refine tV 4 (v := ?_) rfl (by kernel_rfl) (fun _ _ _ h => h) ?_ (by assumption) ?_
  rotate_left 1
  · (intro x hSx; (try dsimp only at hSx); go_simp; try with_reducible rfl)
  try simp only [Act.put, zgT, zg0, zgS, zsT, zs0, zsS]
  refine tV 5 (v := ?_) rfl (by kernel_rfl) (fun _ _ _ h => h) ?_ (by assumption) ?_
  rotate_left 1
  · (intro x hSx; (try dsimp only at hSx); go_simp; try with_reducible rfl)
  try simp only [Act.put, zgT, zg0, zgS, zsT, zs0, zsS]
  refine wpAnyH_done (by kernel_rfl) ?_ _
  clear hHeld hHeld2
  clear KS
  obtain ⟨kT0, kT1, kT2⟩ := bk3 (XT.out w1 bR)
  go_wp2_with fail
  go_ret
  exact ⟨rfl, B.out w1 (Below.refl _ _)⟩

theorem isLeadImpl (x : Int) (w : World) (h : x ≠ 0) : Calls Tryz.prog 126 #[.int .i64 x] w fun e w' => e = .returned (.bool (x != 1)) ∧ w = w' := by
  have e0 : (x != 0) = true := by simpa using h
  go_enter Tryz.func126, Tryz.ntmps126
  go_wp2_with fail
  go_ret
  exact ⟨rfl, rfl⟩
theorem leadsImpl (at0 c : Int) (ta : Option Addr) (tl tc : Nat) (k : Nat) (ty : List Int) (w : World) {D : Nat → Prop} (h : IntsAt D w ta tl ty) (hk : k < tl) (hz : ty.getD k 0 ≠ 0) : Calls Tryz.prog 116 #[.agg #[.int .i64 at0, .int .i64 c, .slice ta tl tc], .int .i64 k] w fun e w' => e = .returned (.bool (ty.getD k 0 != 1)) ∧ Below w.heap.size w w' := by
  obtain ⟨b, off, rfl, _, hcs⟩ := h.one k hk
  have c0 := hcs k hk
  have hb := World.block_lt_of_cell? w _ c0
  simp only at hb
  generalize ty.getD k 0 = x at c0 hz
  have htr := h.room
  clear hcs h
  go_enter Tryz.func116, Tryz.ntmps116
  go_wp2_with fail
  refine (isLeadImpl x _ hz).mono ?_
  rintro e w1 ⟨rfl, rfl⟩
  go_wp2_with fail
  go_ret
  exact ⟨rfl, by go_grown⟩
theorem isNaNImpl (x : Int) (w : World) : Calls Tryz.prog 136 #[.int .i64 x] w fun e w' => e = .returned (.bool false) ∧ w = w' := by
  have e1 : (x != x) = false := by simp
  go_enter Tryz.func136, Tryz.ntmps136
  go_wp2_with fail
  go_ret
  exact ⟨rfl, rfl⟩
theorem compareImpl (x y : Int) (w : World) : Calls Tryz.prog 133 #[.int .i64 x, .int .i64 y] w fun e w' => ∃ r : Int, e = .returned (.int .i64 r) ∧ (r < 0 ↔ x < y) ∧ (r = 0 ↔ x = y) ∧ -1 ≤ r ∧ r ≤ 1 ∧ w = w' := by
  rcases Int.lt_trichotomy x y with h | h | h
  · go_enter Tryz.func133, Tryz.ntmps133
    go_wp2_with fail
    refine (isNaNImpl _ _).mono ?_
    rintro e w1 ⟨rfl, rfl⟩
    go_wp2_with fail
    refine (isNaNImpl _ _).mono ?_
    rintro e w1 ⟨rfl, rfl⟩
    go_wp2_with fail
    go_ret
    exact ⟨-1, rfl, by omega, by omega, by omega, by omega, rfl⟩
  · subst h
    go_enter Tryz.func133, Tryz.ntmps133
    go_wp2_with fail
    refine (isNaNImpl _ _).mono ?_
    rintro e w1 ⟨rfl, rfl⟩
    go_wp2_with fail
    refine (isNaNImpl _ _).mono ?_
    rintro e w1 ⟨rfl, rfl⟩
    go_wp2_with fail
    go_ret
    exact ⟨0, rfl, by simp, by simp, by omega, by omega, rfl⟩
  · go_enter Tryz.func133, Tryz.ntmps133
    go_wp2_with fail
    refine (isNaNImpl _ _).mono ?_
    rintro e w1 ⟨rfl, rfl⟩
    go_wp2_with fail
    refine (isNaNImpl _ _).mono ?_
    rintro e w1 ⟨rfl, rfl⟩
    go_wp2_with fail
    go_ret
    exact ⟨1, rfl, by omega, by omega, by omega, by omega, rfl⟩
theorem compareAtImpl (at0 c : Int) (ta : Option Addr) (tl tc : Nat) (v : Int) (w : World) : Calls Tryz.prog 125 #[.agg #[.int .i64 at0, .int .i64 c, .slice ta tl tc], .int .i64 v] w fun e w' => ∃ r : Int, e = .returned (.int .i64 r) ∧ (r < 0 ↔ at0 < v) ∧ (r = 0 ↔ at0 = v) ∧ -1 ≤ r ∧ r ≤ 1 ∧ Below w.heap.size w w' := by
  go_enter Tryz.func125, Tryz.ntmps125
  go_wp2_with fail
  refine (compareImpl _ _ _).mono ?_
  rintro e w1 ⟨r, rfl, h1, h2, h3, h4, rfl⟩
  go_wp2_with fail
  go_ret
  exact ⟨r, rfl, h1, h2, h3, h4, by go_grown⟩
/-- The types of what is in a thing. -/
theorem typesInImpl (a : Option Addr) (len cap : Nat) (x n : Int) (L : List Cl) (w : World) {D E : Nat → Prop} (h : ClsAt D E w a len L) (ok : clsOk L = true) (hT : isT L x n = true) :
    Calls Tryz.prog 73 #[.slice a len cap, .int .i64 x, .int .i64 n] w fun e w' => ∃ v, e = .returned v ∧ NewInts w v w' (typ L x n) := by
  have CN : Hid (L.length = len) := h.size
  have H : Hid (ClsAt D E w a len L) := h
  have OK : Hid (clsOk L = true) := ok
  have hl5 := (ok_len ok).2
  rw [h.size] at hl5
  unfold isT at hT
  by_cases h1 : x = -1
  · have HF : Hid (typ L x n = List.replicate n.toNat 1) := if_pos h1
    rw [if_pos (.inl h1), inI_iff] at hT
    obtain ⟨m, rfl⟩ : ∃ m : Nat, n = m := ⟨n.toNat, by omega⟩
    have hm : m ≤ 6 := by omega
    clear h ok
    subst h1
    go_enter Tryz.func73, Tryz.ntmps73
    go_wp2_with fail
    refine (repeatImpl w.heap.size 1 ⟨by omega, by omega⟩ m hm _ (World.cell?_alloc_at _ _ _ _ rfl)).mono ?_
    rintro e w1 ⟨v, rfl, hn⟩
    have B1 : Hid (Below w.heap.size w w1) := ((Below.refl _ _).alloc (Nat.le_refl _) _).trans (hn.2.mono (by simp))
    have NI : Hid (NewInts w v w1 (typ L (-1) m)) := ⟨by rw [HF.out, Int.toNat_natCast]; exact own_low hn.1 (by simp), B1.out⟩
    have hone := own_one0 hn.1
    clear hn
    go_wp2_with fail
    go_ret
    exact ⟨_, rfl, NI.out⟩
  by_cases h2 : x = -2
  · have HF : Hid (typ L x n = List.replicate n.toNat 8) := by show _ = _; unfold typ; rw [if_neg h1, if_pos h2]
    rw [if_pos (.inr h2), inI_iff] at hT
    obtain ⟨m, rfl⟩ : ∃ m : Nat, n = m := ⟨n.toNat, by omega⟩
    have hm : m ≤ 6 := by omega
    clear h ok h1
    subst h2
    go_enter Tryz.func73, Tryz.ntmps73
    go_wp2_with fail
    refine (repeatImpl w.heap.size 8 ⟨by omega, by omega⟩ m hm _ (World.cell?_alloc_at _ _ _ _ rfl)).mono ?_
    rintro e w1 ⟨v, rfl, hn⟩
    have B1 : Hid (Below w.heap.size w w1) := ((Below.refl _ _).alloc (Nat.le_refl _) _).trans (hn.2.mono (by simp))
    have NI : Hid (NewInts w v w1 (typ L (-2) m)) := ⟨by rw [HF.out, Int.toNat_natCast]; exact own_low hn.1 (by simp), B1.out⟩
    have hone := own_one0 hn.1
    clear hn
    go_wp2_with fail
    go_ret
    exact ⟨_, rfl, NI.out⟩
  have hn : ¬ (x = -1 ∨ x = -2) := by omega
  rw [if_neg hn, inI_iff] at hT
  have HF : Hid (typ L x n = fld L x.toNat) := by show _ = _; unfold typ; rw [if_neg h1, if_neg h2]
  have e1 : (x == -1) = false := by simp [h1]
  have e2 : (x == -2) = false := by simp [h2]
  rw [h.size] at hT
  obtain ⟨c, rfl⟩ : ∃ c : Nat, x = c := ⟨x.toNat, by omega⟩
  have hc : c < len := by omega
  clear h ok
  go_enter Tryz.func73, Tryz.ntmps73
  go_wp2_with fail
  refine (fieldsImpl _ _ _ L OK.out CN.out c _ hc H.out).mono ?_
  rintro e w1 ⟨v, rfl, hn⟩
  have NI : Hid (NewInts w v w1 (typ L c n)) := by show NewInts _ _ _ _; rw [HF.out, Int.toNat_natCast]; exact hn
  have hone := own_one0 hn.1
  clear hn
  go_wp2_with fail
  go_ret
  exact ⟨_, rfl, NI.out⟩

end Go.Proofs.YtjbmcdekhhbiaaaGreat
