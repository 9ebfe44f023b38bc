/-
  For every code: of the sizes that are drawn of it MemNew of the program makes a memory as MemNew of the specification, that is ok, and in which nothing is, so the law FnMemNew returns true and leaves the code as it was; no condition.
-/
import Derived.Test.YtjeabgkcmfjjlaaMemNw
import Derived.Test.YtjeabgkcmfjjlaaLeMm
import Derived.Test.YtjeabgkcmfjjlaaDrMn
import Derived.Test.YtjeabgkcmfjjlaaMemIq
import Derived.Test.YtjeabgkcmfjjlaaMemIk
import Derived.Deep.Cut
import Derived.WalkKit
import Derived.ProofKit
import Derived.OpenShut
import Derived.ShutString
import Derived.ChangeOld
import Derived.Below
namespace Go.Proofs.Ytjeabgkcmfjjlaa.fnMemNew
open Go.ChangeShapes Go.WideShapes Go.ChangeAt Go.RowKit
open Go.ChangeMaps (open_string shut_string)
set_option linter.unusedVariables false

theorem own : ownKnob Try.prog.godebug = none := by kernel_rfl
theorem laidOut : laidOutB Try.prog = true := by kernel_rfl

theorem cls_lit {y : World} {F S : Nat} (h1 : y.heap[F]? = some (.cells #[.int .i64 1] 3 (0, 0))) (h2 : y.heap[S]? = some (.cells #[.int .i64 (-1), .slice none 0 0, .int .i64 0, .slice (some ⟨F, 0, none⟩) 1 1] 32 (0, 0))) : ClsAt (fun _ => True) (fun _ => True) y (some ⟨S, 0, none⟩) 2 [(-1, []), (0, [1])] := by
  refine ⟨rfl, by omega, .inr ⟨S, 0, rfl, trivial, fun i hi => ?_⟩, fun i => ?_⟩
  · match i, hi with
    | 0, _ => exact ⟨(boxG h2 0).1, none, 0, 0, (boxG h2 1).1, ints_nil⟩
    | 1, _ =>
      refine ⟨(boxG h2 2).1, _, _, _, (boxG h2 3).1, rfl, by omega, .inr ⟨F, 0, rfl, trivial, fun j hj => ?_⟩, fun j => ?_⟩
      · match j, hj with
        | 0, _ => exact (boxG h1 0).1
      · match j with
        | 0 => exact ⟨by decide, by decide⟩
        | j + 1 => exact ⟨by simp [cl], by simp [cl]⟩
  · match i with
    | 0 => exact ⟨by decide, by decide⟩
    | 1 => exact ⟨by decide, by decide⟩
    | i + 2 => exact ⟨by simp [cl], by simp [cl]⟩

set_option maxRecDepth 100000 in
set_option maxHeartbeats 1000000 in
theorem walk (a0 : Option Addr) (len0 cap0 : Nat) (z0 : List Int) (w : World) (w0 : IsRow .u8 w a0 len0 cap0 z0) :
    Calls Try.prog 3 #[.slice a0 len0 cap0] w fun e w' => e = .returned (.bool true) ∧ Below w.heap.size w w' := by
  by_cases hl0 : len0 ≤ 1048576
  case neg =>
    go_enter Try.func3, Try.ntmps3
    go_wp2_with fail
    go_ret
    exact ⟨rfl, Below.refl _ _⟩
  have hz : w.heap.size ≤ w.heap.size := Nat.le_refl _
  have B : Hid (∀ y, Below (w.heap.size) w y → Below w.heap.size w y) := fun y hy => bR.trans (hy.mono (by omega))
  go_enter Try.func3, Try.ntmps3
  go_wp2_with fail
  have BP : Hid (Below (w.heap.size) w w) := bR
  refine (drawMemNew a0 len0 cap0 z0 _ w0).mono ?_
  rintro e w1 ⟨yg, od, rfl, y0, y1, d0, d1, hb⟩
  have hq : Below (w.heap.size) w w1 := BP.out.trans (Below.mono hb (Nat.le_trans hz BP.out.size))
  have hzn : w.heap.size ≤ w1.heap.size := Nat.le_trans hz hq.size
  replace B := lF B hq hzn
  clear hq BP hz
  have hz : w1.heap.size ≤ w1.heap.size := Nat.le_refl _
  clear hb w0
  cases hq : newOk yg od
  · have BP : Hid (Below (w1.heap.size) w1 w1) := bR
    have NSH : Hid (NewAll yg od 0 0 0) := newNo hq
    go_wp2_with fail
    refine (newImpl21 yg od _).mono ?_
    rintro e w2 hP
    obtain ⟨a2, b2, rfl, hA, hC, hla, hlb, hab, hb⟩ := NSH.out _ _ _ hP
    have hq : Below (w1.heap.size) w1 w2 := BP.out.trans (Below.mono hb (Nat.le_trans hz BP.out.size))
    have hzn : w1.heap.size ≤ w2.heap.size := Nat.le_trans hz hq.size
    replace B := lF B hq hzn
    clear hq BP hz
    have hz : w2.heap.size ≤ w2.heap.size := Nat.le_refl _
    have A2 : Hid (∀ y, Below (w2.heap.size) w2 y → Wri y a2 0 (fun _ => 0)) := fun y hy => hA.later hy
    have C2 : Hid (∀ y, Below (w2.heap.size) w2 y → WriB y b2 0 (fun _ => false)) := fun y hy => hC.later hy
    clear hb hA hC hla hlb hab hP
    go_upto_region 5 with fail
    have BP : Hid (Below (w2.heap.size) w2 (w2.alloc (.cells #[.slice a2 0 0, .int .i64 0, .int .i64 0, .int .i64 0, .slice b2 0 0] 28))) := (bR.alloc (by first | exact hz | (simp; done) | (simp; omega) | (have := hz; simp at this ⊢; omega)) _)
    replace B := lA B BP
    replace A2 := lA A2 BP
    replace C2 := lA C2 BP
    have XM : Hid (∀ y, Below (w2.heap.size + 1) (w2.alloc (.cells #[.slice a2 0 0, .int .i64 0, .int .i64 0, .int .i64 0, .slice b2 0 0] 28)) y → y.heap[w2.heap.size]? = some (.cells #[.slice a2 0 0, .int .i64 0, .int .i64 0, .int .i64 0, .slice b2 0 0] 28 (0, 0))) := fun y hy => (hy.block _ (by omega)).trans (boxN _ _ _ _ (by simp))
    have lM : w2.heap.size < w2.heap.size + 1 := by omega
    replace hz : w2.heap.size + 1 ≤ ((w2.alloc (.cells #[.slice a2 0 0, .int .i64 0, .int .i64 0, .int .i64 0, .slice b2 0 0] 28))).heap.size := by simp
    clear BP
    generalize (w2.alloc (.cells #[.slice a2 0 0, .int .i64 0, .int .i64 0, .int .i64 0, .slice b2 0 0] 28)) = w2g at B A2 C2 XM hz ⊢
    have hzn : w2.heap.size + 1 ≤ w2g.heap.size := Nat.le_trans hz (Below.size (Below.refl (w2.heap.size + 1) w2g))
    replace B := lF B (Below.refl (w2.heap.size + 1) w2g) hzn
    replace A2 := lF A2 (Below.refl (w2.heap.size + 1) w2g) hzn
    replace C2 := lF C2 (Below.refl (w2.heap.size + 1) w2g) hzn
    replace XM := lF XM (Below.refl (w2.heap.size + 1) w2g) hzn
    replace lM := Nat.lt_of_lt_of_le lM hzn
    clear hz
    have hz : w2g.heap.size ≤ w2g.heap.size := Nat.le_refl _
    have KS : Hid (∀ x, Below (w2g.heap.size) w2g x → x.cell? ⟨w2.heap.size, 0, none⟩ = some (.slice a2 0 0) ∧ x.cell? ⟨w2.heap.size, 1, none⟩ = some (.int .i64 0) ∧ x.cell? ⟨w2.heap.size, 2, none⟩ = some (.int .i64 0) ∧ x.cell? ⟨w2.heap.size, 3, none⟩ = some (.int .i64 0) ∧ x.cell? ⟨w2.heap.size, 4, none⟩ = some (.slice b2 0 0)) := fun x hx => bk5 (XM.out x hx)
    refine wp_region_held_drew (S := fun x => x.cell? ⟨w2.heap.size, 0, none⟩ = some (.slice a2 0 0) ∧ x.cell? ⟨w2.heap.size, 1, none⟩ = some (.int .i64 0) ∧ x.cell? ⟨w2.heap.size, 2, none⟩ = some (.int .i64 0) ∧ x.cell? ⟨w2.heap.size, 3, none⟩ = some (.int .i64 0) ∧ x.cell? ⟨w2.heap.size, 4, none⟩ = some (.slice b2 0 0)) (by kernel_rfl) ?_ (fun hHeld => ?_)
    · exact KS.out _ (bdrew bR)
    refine tV 0 (v := ?_) rfl (by kernel_rfl) (fun _ _ _ h => h) ?_ (by assumption) ?_
    rotate_left 1
    · (intro x hSx; (try dsimp only at hSx); go_simp; try with_reducible rfl)
    try simp only [Act.put, List.getElem_toArray, List.getElem_cons_zero, List.setIfInBounds_toArray, List.set_cons_zero, List.set_cons_succ]
    refine tV 1 (v := ?_) rfl (by kernel_rfl) (fun _ _ _ h => h) ?_ (by assumption) ?_
    rotate_left 1
    · (intro x hSx; (try dsimp only at hSx); go_simp; try with_reducible rfl)
    try simp only [Act.put, List.getElem_toArray, List.getElem_cons_zero, List.getElem_cons_succ, List.setIfInBounds_toArray, List.set_cons_zero, List.set_cons_succ]
    refine tV 2 (v := ?_) rfl (by kernel_rfl) (fun _ _ _ h => h) ?_ (by assumption) ?_
    rotate_left 1
    · (intro x hSx; (try dsimp only at hSx); go_simp; try with_reducible rfl)
    try simp only [Act.put, List.getElem_toArray, List.getElem_cons_zero, List.getElem_cons_succ, List.setIfInBounds_toArray, List.set_cons_zero, List.set_cons_succ]
    refine wpAnyH_ready (rs := [3]) (by kernel_rfl) (by simp) ?_
    refine AllReadyH.cons rfl (fun K hK => ?_) AllReadyH.nil
    go_simp
    go_at_call 7
    have BP : Hid (Below (w2g.heap.size) w2g w2g.drew) := (bdrew bR)
    refine (newSpec21 yg od _).mono ?_
    rintro e w3 hP
    obtain ⟨a1, b1, rfl, hA, hC, hla, hlb, hab, hb⟩ := NSH.out _ _ _ hP
    have hq : Below (w2g.heap.size) w2g w3 := BP.out.trans (Below.mono hb (Nat.le_trans hz BP.out.size))
    have hzn : w2g.heap.size ≤ w3.heap.size := Nat.le_trans hz hq.size
    replace B := lF B hq hzn
    replace A2 := lF A2 hq hzn
    replace C2 := lF C2 hq hzn
    replace KS := lF KS hq hzn
    replace XM := lF XM hq hzn
    replace lM := Nat.lt_of_lt_of_le lM hzn
    clear hq BP hz
    have hz : w3.heap.size ≤ w3.heap.size := Nat.le_refl _
    have A1 : Hid (∀ y, Below (w3.heap.size) w3 y → Wri y a1 0 (fun _ => 0)) := fun y hy => hA.later hy
    have C1 : Hid (∀ y, Below (w3.heap.size) w3 y → WriB y b1 0 (fun _ => false)) := fun y hy => hC.later hy
    clear hb hA hC hla hlb hab hP
    go_wp2_with fail
    refine hK.out _ _ (KS.out _ bR) (fun hHeld2 => ?_)
    clear hK K
    try simp only [Act.put, List.getElem_toArray, List.getElem_cons_zero, List.getElem_cons_succ, List.setIfInBounds_toArray, List.set_cons_zero, List.set_cons_succ]
    refine wpAnyH_ready (rs := [4]) (by kernel_rfl) (by simp) ?_
    refine AllReadyH.cons rfl (fun K hK => ?_) AllReadyH.nil
    go_simp
    go_at_call 6
    have BP : Hid (Below (w3.heap.size) w3 w3) := bR
    refine (leRMem 0 0 0 a2 0 0 b2 0 0 a1 0 b1 0 (List.replicate 0 0) (List.replicate 0 false) _ (zero_sl (A2.out _ BP.out) (by omega)).ints (zero_sl (A1.out _ BP.out) (by omega)).ints (zero_slB (C2.out _ BP.out) (by omega)) (zero_slB (C1.out _ BP.out) (by omega)) (by omega)).mono ?_
    rintro e w4 ⟨rfl, hb⟩
    have hq : Below (w3.heap.size) w3 w4 := BP.out.trans (Below.mono hb (Nat.le_trans hz BP.out.size))
    have hzn : w3.heap.size ≤ w4.heap.size := Nat.le_trans hz hq.size
    replace B := lF B hq hzn
    replace A2 := lF A2 hq hzn
    replace C2 := lF C2 hq hzn
    replace KS := lF KS hq hzn
    replace A1 := lF A1 hq hzn
    replace C1 := lF C1 hq hzn
    replace XM := lF XM hq hzn
    replace lM := Nat.lt_of_lt_of_le lM hzn
    clear hq BP hz
    have hz : w4.heap.size ≤ w4.heap.size := Nat.le_refl _
    clear hb
    go_wp2_with fail
    refine hK.out _ _ (KS.out _ bR) (fun hHeld3 => ?_)
    clear hK K
    try simp only [Act.put, List.getElem_toArray, List.getElem_cons_zero, List.getElem_cons_succ, List.setIfInBounds_toArray, List.set_cons_zero, List.set_cons_succ]
    refine tV 5 (v := ?_) rfl (by kernel_rfl) (fun _ _ _ h => h) ?_ (by assumption) ?_
    rotate_left 1
    · (intro x hSx; (try dsimp only at hSx); go_simp; try with_reducible rfl)
    try simp only [Act.put, List.getElem_toArray, List.getElem_cons_zero, List.getElem_cons_succ, List.setIfInBounds_toArray, List.set_cons_zero, List.set_cons_succ]
    refine tV 6 (v := ?_) rfl (by kernel_rfl) (fun _ _ _ h => h) ?_ (by assumption) ?_
    rotate_left 1
    · (intro x hSx; (try dsimp only at hSx); go_simp; try with_reducible rfl)
    try simp only [Act.put, List.getElem_toArray, List.getElem_cons_zero, List.getElem_cons_succ, List.setIfInBounds_toArray, List.set_cons_zero, List.set_cons_succ]
    refine tV 7 (v := ?_) rfl (by kernel_rfl) (fun _ _ _ h => h) ?_ (by assumption) ?_
    rotate_left 1
    · (intro x hSx; (try dsimp only at hSx); go_simp; try with_reducible rfl)
    try simp only [Act.put, List.getElem_toArray, List.getElem_cons_zero, List.getElem_cons_succ, List.setIfInBounds_toArray, List.set_cons_zero, List.set_cons_succ]
    refine tV 8 (v := ?_) rfl (by kernel_rfl) (fun _ _ _ h => h) ?_ (by assumption) ?_
    rotate_left 1
    · (intro x hSx; (try dsimp only at hSx); go_simp; try with_reducible rfl)
    try simp only [Act.put, List.getElem_toArray, List.getElem_cons_zero, List.getElem_cons_succ, List.setIfInBounds_toArray, List.set_cons_zero, List.set_cons_succ]
    refine tV 9 (v := ?_) rfl (by kernel_rfl) (fun _ _ _ h => h) ?_ (by assumption) ?_
    rotate_left 1
    · (intro x hSx; (try dsimp only at hSx); go_simp; try with_reducible rfl)
    try simp only [Act.put, List.getElem_toArray, List.getElem_cons_zero, List.getElem_cons_succ, List.setIfInBounds_toArray, List.set_cons_zero, List.set_cons_succ]
    refine tV 10 (v := ?_) rfl (by kernel_rfl) (fun _ _ _ h => h) ?_ (by assumption) ?_
    rotate_left 1
    · (intro x hSx; (try dsimp only at hSx); go_simp; try with_reducible rfl)
    try simp only [Act.put, List.getElem_toArray, List.getElem_cons_zero, List.getElem_cons_succ, List.setIfInBounds_toArray, List.set_cons_zero, List.set_cons_succ]
    refine tV 11 (v := ?_) rfl (by kernel_rfl) (fun _ _ _ h => h) ?_ (by assumption) ?_
    rotate_left 1
    · (intro x hSx; (try dsimp only at hSx); go_simp; try with_reducible rfl)
    try simp only [Act.put, List.getElem_toArray, List.getElem_cons_zero, List.getElem_cons_succ, List.setIfInBounds_toArray, List.set_cons_zero, List.set_cons_succ]
    refine wpAnyH_done (by kernel_rfl) ?_ _
    clear hHeld hHeld2 hHeld3
    clear KS
    obtain ⟨kM0, kM1, kM2, kM3, kM4⟩ := bk5 (XM.out w4 bR)
    go_wp2_with fail
    clear kM0 kM1 kM2 kM3 kM4
    have KS : Hid (∀ x, Below (w4.heap.size) w4 x → x.cell? ⟨w2.heap.size, 0, none⟩ = some (.slice a2 0 0) ∧ x.cell? ⟨w2.heap.size, 1, none⟩ = some (.int .i64 0) ∧ x.cell? ⟨w2.heap.size, 2, none⟩ = some (.int .i64 0) ∧ x.cell? ⟨w2.heap.size, 3, none⟩ = some (.int .i64 0) ∧ x.cell? ⟨w2.heap.size, 4, none⟩ = some (.slice b2 0 0)) := fun x hx => bk5 (XM.out x hx)
    refine wp_region_held_drew (S := fun x => x.cell? ⟨w2.heap.size, 0, none⟩ = some (.slice a2 0 0) ∧ x.cell? ⟨w2.heap.size, 1, none⟩ = some (.int .i64 0) ∧ x.cell? ⟨w2.heap.size, 2, none⟩ = some (.int .i64 0) ∧ x.cell? ⟨w2.heap.size, 3, none⟩ = some (.int .i64 0) ∧ x.cell? ⟨w2.heap.size, 4, none⟩ = some (.slice b2 0 0)) (by kernel_rfl) ?_ (fun hHeld => ?_)
    · exact KS.out _ (bdrew bR)
    refine tV 0 (v := ?_) rfl (by kernel_rfl) (fun _ _ _ h => h) ?_ (by assumption) ?_
    rotate_left 1
    · (intro x hSx; (try dsimp only at hSx); go_simp; try with_reducible rfl)
    try simp only [Act.put, List.getElem_toArray, List.getElem_cons_zero, List.setIfInBounds_toArray, List.set_cons_zero, List.set_cons_succ]
    refine tV 1 (v := ?_) rfl (by kernel_rfl) (fun _ _ _ h => h) ?_ (by assumption) ?_
    rotate_left 1
    · (intro x hSx; (try dsimp only at hSx); go_simp; try with_reducible rfl)
    try simp only [Act.put, List.getElem_toArray, List.getElem_cons_zero, List.getElem_cons_succ, List.setIfInBounds_toArray, List.set_cons_zero, List.set_cons_succ]
    refine tV 2 (v := ?_) rfl (by kernel_rfl) (fun _ _ _ h => h) ?_ (by assumption) ?_
    rotate_left 1
    · (intro x hSx; (try dsimp only at hSx); go_simp; try with_reducible rfl)
    try simp only [Act.put, List.getElem_toArray, List.getElem_cons_zero, List.getElem_cons_succ, List.setIfInBounds_toArray, List.set_cons_zero, List.set_cons_succ]
    refine wpAnyH_ready (rs := [3]) (by kernel_rfl) (by simp) ?_
    refine AllReadyH.cons rfl (fun K hK => ?_) AllReadyH.nil
    go_simp
    go_at_call 7
    have BP : Hid (Below (w4.heap.size) w4 w4.drew) := (bdrew bR)
    refine (newSpec21 yg od _).mono ?_
    rintro e w5 hP
    obtain ⟨a1x, b1x, rfl, hA, hC, hla, hlb, hab, hb⟩ := NSH.out _ _ _ hP
    have hq : Below (w4.heap.size) w4 w5 := BP.out.trans (Below.mono hb (Nat.le_trans hz BP.out.size))
    have hzn : w4.heap.size ≤ w5.heap.size := Nat.le_trans hz hq.size
    replace B := lF B hq hzn
    replace A2 := lF A2 hq hzn
    replace C2 := lF C2 hq hzn
    replace A1 := lF A1 hq hzn
    replace C1 := lF C1 hq hzn
    replace KS := lF KS hq hzn
    replace XM := lF XM hq hzn
    replace lM := Nat.lt_of_lt_of_le lM hzn
    clear hq BP hz
    have hz : w5.heap.size ≤ w5.heap.size := Nat.le_refl _
    have A1x : Hid (∀ y, Below (w5.heap.size) w5 y → Wri y a1x 0 (fun _ => 0)) := fun y hy => hA.later hy
    have C1x : Hid (∀ y, Below (w5.heap.size) w5 y → WriB y b1x 0 (fun _ => false)) := fun y hy => hC.later hy
    clear hb hA hC hla hlb hab hP
    go_wp2_with fail
    refine hK.out _ _ (KS.out _ bR) (fun hHeld2 => ?_)
    clear hK K
    try simp only [Act.put, List.getElem_toArray, List.getElem_cons_zero, List.getElem_cons_succ, List.setIfInBounds_toArray, List.set_cons_zero, List.set_cons_succ]
    refine wpAnyH_ready (rs := [4]) (by kernel_rfl) (by simp) ?_
    refine AllReadyH.cons rfl (fun K hK => ?_) AllReadyH.nil
    go_simp
    go_at_call 6
    have BP : Hid (Below (w5.heap.size) w5 w5) := bR
    refine (leRMem 0 0 0 a2 0 0 b2 0 0 a1x 0 b1x 0 (List.replicate 0 0) (List.replicate 0 false) _ (zero_sl (A2.out _ BP.out) (by omega)).ints (zero_sl (A1x.out _ BP.out) (by omega)).ints (zero_slB (C2.out _ BP.out) (by omega)) (zero_slB (C1x.out _ BP.out) (by omega)) (by omega)).mono ?_
    rintro e w6 ⟨rfl, hb⟩
    have hq : Below (w5.heap.size) w5 w6 := BP.out.trans (Below.mono hb (Nat.le_trans hz BP.out.size))
    have hzn : w5.heap.size ≤ w6.heap.size := Nat.le_trans hz hq.size
    replace B := lF B hq hzn
    replace A2 := lF A2 hq hzn
    replace C2 := lF C2 hq hzn
    replace A1 := lF A1 hq hzn
    replace C1 := lF C1 hq hzn
    replace KS := lF KS hq hzn
    replace A1x := lF A1x hq hzn
    replace C1x := lF C1x hq hzn
    replace XM := lF XM hq hzn
    replace lM := Nat.lt_of_lt_of_le lM hzn
    clear hq BP hz
    have hz : w6.heap.size ≤ w6.heap.size := Nat.le_refl _
    clear hb
    go_wp2_with fail
    refine hK.out _ _ (KS.out _ bR) (fun hHeld3 => ?_)
    clear hK K
    try simp only [Act.put, List.getElem_toArray, List.getElem_cons_zero, List.getElem_cons_succ, List.setIfInBounds_toArray, List.set_cons_zero, List.set_cons_succ]
    refine tV 5 (v := ?_) rfl (by kernel_rfl) (fun _ _ _ h => h) ?_ (by assumption) ?_
    rotate_left 1
    · (intro x hSx; (try dsimp only at hSx); go_simp; try with_reducible rfl)
    try simp only [Act.put, List.getElem_toArray, List.getElem_cons_zero, List.getElem_cons_succ, List.setIfInBounds_toArray, List.set_cons_zero, List.set_cons_succ]
    refine wpAnyH_done (by kernel_rfl) ?_ _
    clear hHeld hHeld2 hHeld3
    clear KS
    go_wp2_with fail
    go_ret
    exact ⟨rfl, B.out _ (Below.refl _ _)⟩
  obtain ⟨yn, on, rfl, rfl, hy4, ho1, ho2, NS0⟩ := newYes hq
  have MB0 := newMemB yn on hy4 ho1 ho2
  obtain ⟨n, hn0⟩ : ∃ n, yn + on = n := ⟨_, rfl⟩
  obtain ⟨m, hm0⟩ : ∃ m, crdN on = m := ⟨_, rfl⟩
  have hm : m ≤ 40 := by rw [← hm0]; unfold crdN; omega
  have hn : n ≤ 160 := by omega
  rw [hn0, hm0] at NS0 MB0
  have NS : NewAll (yn : Int) (on : Int) n m (yn : Int) := NS0
  have MB : Hid (memB [(-1, []), (0, [1])] (List.replicate n 0, (yn : Int), 0, (yn : Int), List.replicate m false) = true) := MB0.1
  have MV : Hid (walkV [(-1, []), (0, [1])] (List.replicate n 0, (yn : Int), 0, (yn : Int), List.replicate m false) = []) := by show _ = _; rw [walkV_yes MB0.1, MB0.2]; rfl
  have hadd : IntKind.i64.wrap ((yn : Int) + (on : Int)) = (n : Int) := by rw [IntKind.wrap_i64] <;> omega
  have e1 : ((n : Int) == (n : Int)) = true := by simp
  have e2 : ((yn : Int) == (yn : Int)) = true := by simp
  have e3 : ((n : Int) == 0) = false := by simp; omega
  clear hm0 MB0 NS0 hq
  have BP : Hid (Below (w1.heap.size) w1 w1) := bR
  have NSH : Hid (NewAll (yn : Int) (on : Int) n m (yn : Int)) := NS
  go_wp2_with fail
  refine (newImpl21 (yn : Int) (on : Int) _).mono ?_
  rintro e w2 hP
  obtain ⟨a2, b2, rfl, hA, hC, hla, hlb, hab, hb⟩ := NSH.out _ _ _ hP
  have hq : Below (w1.heap.size) w1 w2 := BP.out.trans (Below.mono hb (Nat.le_trans hz BP.out.size))
  have hzn : w1.heap.size ≤ w2.heap.size := Nat.le_trans hz hq.size
  replace B := lF B hq hzn
  clear hq BP hz
  have hz : w2.heap.size ≤ w2.heap.size := Nat.le_refl _
  have A2 : Hid (∀ y, Below (w2.heap.size) w2 y → Wri y a2 n (fun _ => 0)) := fun y hy => hA.later hy
  have C2 : Hid (∀ y, Below (w2.heap.size) w2 y → WriB y b2 m (fun _ => false)) := fun y hy => hC.later hy
  clear hb hA hC hla hlb hab hP
  go_upto_region 5 with fail
  have BP : Hid (Below (w2.heap.size) w2 (w2.alloc (.cells #[.slice a2 n n, .int .i64 (yn : Nat), .int .i64 0, .int .i64 (yn : Nat), .slice b2 m m] 28))) := (bR.alloc (by first | exact hz | (simp; done) | (simp; omega) | (have := hz; simp at this ⊢; omega)) _)
  replace B := lA B BP
  replace A2 := lA A2 BP
  replace C2 := lA C2 BP
  have XM : Hid (∀ y, Below (w2.heap.size + 1) (w2.alloc (.cells #[.slice a2 n n, .int .i64 (yn : Nat), .int .i64 0, .int .i64 (yn : Nat), .slice b2 m m] 28)) y → y.heap[w2.heap.size]? = some (.cells #[.slice a2 n n, .int .i64 (yn : Nat), .int .i64 0, .int .i64 (yn : Nat), .slice b2 m m] 28 (0, 0))) := fun y hy => (hy.block _ (by omega)).trans (boxN _ _ _ _ (by simp))
  have lM : w2.heap.size < w2.heap.size + 1 := by omega
  replace hz : w2.heap.size + 1 ≤ ((w2.alloc (.cells #[.slice a2 n n, .int .i64 (yn : Nat), .int .i64 0, .int .i64 (yn : Nat), .slice b2 m m] 28))).heap.size := by simp
  clear BP
  generalize (w2.alloc (.cells #[.slice a2 n n, .int .i64 (yn : Nat), .int .i64 0, .int .i64 (yn : Nat), .slice b2 m m] 28)) = w2g at B A2 C2 XM hz ⊢
  have hzn : w2.heap.size + 1 ≤ w2g.heap.size := Nat.le_trans hz (Below.size (Below.refl (w2.heap.size + 1) w2g))
  replace B := lF B (Below.refl (w2.heap.size + 1) w2g) hzn
  replace A2 := lF A2 (Below.refl (w2.heap.size + 1) w2g) hzn
  replace C2 := lF C2 (Below.refl (w2.heap.size + 1) w2g) hzn
  replace XM := lF XM (Below.refl (w2.heap.size + 1) w2g) hzn
  replace lM := Nat.lt_of_lt_of_le lM hzn
  clear hz
  have hz : w2g.heap.size ≤ w2g.heap.size := Nat.le_refl _
  have KS : Hid (∀ x, Below (w2g.heap.size) w2g x → x.cell? ⟨w2.heap.size, 0, none⟩ = some (.slice a2 n n) ∧ x.cell? ⟨w2.heap.size, 1, none⟩ = some (.int .i64 (yn : Nat)) ∧ x.cell? ⟨w2.heap.size, 2, none⟩ = some (.int .i64 0) ∧ x.cell? ⟨w2.heap.size, 3, none⟩ = some (.int .i64 (yn : Nat)) ∧ x.cell? ⟨w2.heap.size, 4, none⟩ = some (.slice b2 m m)) := fun x hx => bk5 (XM.out x hx)
  refine wp_region_held_drew (S := fun x => x.cell? ⟨w2.heap.size, 0, none⟩ = some (.slice a2 n n) ∧ x.cell? ⟨w2.heap.size, 1, none⟩ = some (.int .i64 (yn : Nat)) ∧ x.cell? ⟨w2.heap.size, 2, none⟩ = some (.int .i64 0) ∧ x.cell? ⟨w2.heap.size, 3, none⟩ = some (.int .i64 (yn : Nat)) ∧ x.cell? ⟨w2.heap.size, 4, none⟩ = some (.slice b2 m m)) (by kernel_rfl) ?_ (fun hHeld => ?_)
  · exact KS.out _ (bdrew bR)
  refine tV 0 (v := ?_) rfl (by kernel_rfl) (fun _ _ _ h => h) ?_ (by assumption) ?_
  rotate_left 1
  · (intro x hSx; (try dsimp only at hSx); go_simp; try with_reducible rfl)
  try simp only [Act.put, List.getElem_toArray, List.getElem_cons_zero, List.setIfInBounds_toArray, List.set_cons_zero, List.set_cons_succ]
  refine tV 1 (v := ?_) rfl (by kernel_rfl) (fun _ _ _ h => h) ?_ (by assumption) ?_
  rotate_left 1
  · (intro x hSx; (try dsimp only at hSx); go_simp; try with_reducible rfl)
  try simp only [Act.put, List.getElem_toArray, List.getElem_cons_zero, List.getElem_cons_succ, List.setIfInBounds_toArray, List.set_cons_zero, List.set_cons_succ]
  refine tV 2 (v := ?_) rfl (by kernel_rfl) (fun _ _ _ h => h) ?_ (by assumption) ?_
  rotate_left 1
  · (intro x hSx; (try dsimp only at hSx); go_simp; try with_reducible rfl)
  try simp only [Act.put, List.getElem_toArray, List.getElem_cons_zero, List.getElem_cons_succ, List.setIfInBounds_toArray, List.set_cons_zero, List.set_cons_succ]
  refine wpAnyH_ready (rs := [3]) (by kernel_rfl) (by simp) ?_
  refine AllReadyH.cons rfl (fun K hK => ?_) AllReadyH.nil
  go_simp
  go_at_call 7
  have BP : Hid (Below (w2g.heap.size) w2g w2g.drew) := (bdrew bR)
  refine (newSpec21 (yn : Int) (on : Int) _).mono ?_
  rintro e w3 hP
  obtain ⟨a1, b1, rfl, hA, hC, hla, hlb, hab, hb⟩ := NSH.out _ _ _ hP
  have hq : Below (w2g.heap.size) w2g w3 := BP.out.trans (Below.mono hb (Nat.le_trans hz BP.out.size))
  have hzn : w2g.heap.size ≤ w3.heap.size := Nat.le_trans hz hq.size
  replace B := lF B hq hzn
  replace A2 := lF A2 hq hzn
  replace C2 := lF C2 hq hzn
  replace KS := lF KS hq hzn
  replace XM := lF XM hq hzn
  replace lM := Nat.lt_of_lt_of_le lM hzn
  clear hq BP hz
  have hz : w3.heap.size ≤ w3.heap.size := Nat.le_refl _
  have A1 : Hid (∀ y, Below (w3.heap.size) w3 y → Wri y a1 n (fun _ => 0)) := fun y hy => hA.later hy
  have C1 : Hid (∀ y, Below (w3.heap.size) w3 y → WriB y b1 m (fun _ => false)) := fun y hy => hC.later hy
  clear hb hA hC hla hlb hab hP
  go_wp2_with fail
  refine hK.out _ _ (KS.out _ bR) (fun hHeld2 => ?_)
  clear hK K
  try simp only [Act.put, List.getElem_toArray, List.getElem_cons_zero, List.getElem_cons_succ, List.setIfInBounds_toArray, List.set_cons_zero, List.set_cons_succ]
  refine wpAnyH_ready (rs := [4]) (by kernel_rfl) (by simp) ?_
  refine AllReadyH.cons rfl (fun K hK => ?_) AllReadyH.nil
  go_simp
  go_at_call 6
  have BP : Hid (Below (w3.heap.size) w3 w3) := bR
  refine (leRMem (yn : Int) 0 (yn : Int) a2 n n b2 m m a1 n b1 m (List.replicate n 0) (List.replicate m false) _ (zero_sl (A2.out _ BP.out) (by omega)).ints (zero_sl (A1.out _ BP.out) (by omega)).ints (zero_slB (C2.out _ BP.out) (by omega)) (zero_slB (C1.out _ BP.out) (by omega)) (by omega)).mono ?_
  rintro e w4 ⟨rfl, hb⟩
  have hq : Below (w3.heap.size) w3 w4 := BP.out.trans (Below.mono hb (Nat.le_trans hz BP.out.size))
  have hzn : w3.heap.size ≤ w4.heap.size := Nat.le_trans hz hq.size
  replace B := lF B hq hzn
  replace A2 := lF A2 hq hzn
  replace C2 := lF C2 hq hzn
  replace KS := lF KS hq hzn
  replace A1 := lF A1 hq hzn
  replace C1 := lF C1 hq hzn
  replace XM := lF XM hq hzn
  replace lM := Nat.lt_of_lt_of_le lM hzn
  clear hq BP hz
  have hz : w4.heap.size ≤ w4.heap.size := Nat.le_refl _
  clear hb
  go_wp2_with fail
  refine hK.out _ _ (KS.out _ bR) (fun hHeld3 => ?_)
  clear hK K
  try simp only [Act.put, List.getElem_toArray, List.getElem_cons_zero, List.getElem_cons_succ, List.setIfInBounds_toArray, List.set_cons_zero, List.set_cons_succ]
  refine tV 5 (v := ?_) rfl (by kernel_rfl) (fun _ _ _ h => h) ?_ (by assumption) ?_
  rotate_left 1
  · (intro x hSx; (try dsimp only at hSx); go_simp; try with_reducible rfl)
  try simp only [Act.put, List.getElem_toArray, List.getElem_cons_zero, List.getElem_cons_succ, List.setIfInBounds_toArray, List.set_cons_zero, List.set_cons_succ]
  refine tV 6 (v := ?_) rfl (by kernel_rfl) (fun _ _ _ h => h) ?_ (by assumption) ?_
  rotate_left 1
  · (intro x hSx; (try dsimp only at hSx); go_simp; try with_reducible rfl)
  try simp only [Act.put, List.getElem_toArray, List.getElem_cons_zero, List.getElem_cons_succ, List.setIfInBounds_toArray, List.set_cons_zero, List.set_cons_succ]
  refine tV 7 (v := ?_) rfl (by kernel_rfl) (fun _ _ _ h => h) ?_ (by assumption) ?_
  rotate_left 1
  · (intro x hSx; (try dsimp only at hSx); go_simp; try with_reducible rfl)
  try simp only [Act.put, List.getElem_toArray, List.getElem_cons_zero, List.getElem_cons_succ, List.setIfInBounds_toArray, List.set_cons_zero, List.set_cons_succ]
  refine tV 8 (v := ?_) rfl (by kernel_rfl) (fun _ _ _ h => h) ?_ (by assumption) ?_
  rotate_left 1
  · (intro x hSx; (try dsimp only at hSx); go_simp; try with_reducible rfl)
  try simp only [Act.put, List.getElem_toArray, List.getElem_cons_zero, List.getElem_cons_succ, List.setIfInBounds_toArray, List.set_cons_zero, List.set_cons_succ]
  refine tV 9 (v := ?_) rfl (by kernel_rfl) (fun _ _ _ h => h) ?_ (by assumption) ?_
  rotate_left 1
  · (intro x hSx; (try dsimp only at hSx); go_simp; try with_reducible rfl)
  try simp only [Act.put, List.getElem_toArray, List.getElem_cons_zero, List.getElem_cons_succ, List.setIfInBounds_toArray, List.set_cons_zero, List.set_cons_succ]
  refine tV 10 (v := ?_) rfl (by kernel_rfl) (fun _ _ _ h => h) ?_ (by assumption) ?_
  rotate_left 1
  · (intro x hSx; (try dsimp only at hSx); go_simp; try with_reducible rfl)
  try simp only [Act.put, List.getElem_toArray, List.getElem_cons_zero, List.getElem_cons_succ, List.setIfInBounds_toArray, List.set_cons_zero, List.set_cons_succ]
  refine tV 11 (v := ?_) rfl (by kernel_rfl) (fun _ _ _ h => h) ?_ (by assumption) ?_
  rotate_left 1
  · (intro x hSx; (try dsimp only at hSx); go_simp; try with_reducible rfl)
  try simp only [Act.put, List.getElem_toArray, List.getElem_cons_zero, List.getElem_cons_succ, List.setIfInBounds_toArray, List.set_cons_zero, List.set_cons_succ]
  refine wpAnyH_done (by kernel_rfl) ?_ _
  clear hHeld hHeld2 hHeld3
  clear KS
  obtain ⟨kM0, kM1, kM2, kM3, kM4⟩ := bk5 (XM.out w4 bR)
  go_upto_region 8 with fail
  clear kM0 kM1 kM2 kM3 kM4
  have BP : Hid (Below (w4.heap.size) w4 (w4.alloc (.cells #[.int .i64 1] 3))) := (bR.alloc (by first | exact hz | (simp; done) | (simp; omega) | (have := hz; simp at this ⊢; omega)) _)
  replace B := lA B BP
  replace A2 := lA A2 BP
  replace C2 := lA C2 BP
  replace A1 := lA A1 BP
  replace C1 := lA C1 BP
  replace XM := lA XM BP
  replace lM := lL lM
  have XF : Hid (∀ y, Below (w4.heap.size + 1) (w4.alloc (.cells #[.int .i64 1] 3)) y → y.heap[w4.heap.size]? = some (.cells #[.int .i64 1] 3 (0, 0))) := fun y hy => (hy.block _ (by omega)).trans (boxN _ _ _ _ (by simp))
  have lF : w4.heap.size < w4.heap.size + 1 := by omega
  replace hz : w4.heap.size + 1 ≤ ((w4.alloc (.cells #[.int .i64 1] 3))).heap.size := by simp
  clear BP
  have BP : Hid (Below (w4.heap.size + 1) (w4.alloc (.cells #[.int .i64 1] 3)) ((w4.alloc (.cells #[.int .i64 1] 3)).alloc (.cells #[.int .i64 (-1), .slice none 0 0, .int .i64 0, .slice (some ⟨w4.heap.size, 0, none⟩) 1 1] 32))) := (bR.alloc (by first | exact hz | (simp; done) | (simp; omega) | (have := hz; simp at this ⊢; omega)) _)
  replace B := lA B BP
  replace A2 := lA A2 BP
  replace C2 := lA C2 BP
  replace A1 := lA A1 BP
  replace C1 := lA C1 BP
  replace XM := lA XM BP
  replace lM := lL lM
  replace XF := lA XF BP
  replace lF := lL lF
  have XS : Hid (∀ y, Below (w4.heap.size + 1 + 1) ((w4.alloc (.cells #[.int .i64 1] 3)).alloc (.cells #[.int .i64 (-1), .slice none 0 0, .int .i64 0, .slice (some ⟨w4.heap.size, 0, none⟩) 1 1] 32)) y → y.heap[w4.heap.size + 1]? = some (.cells #[.int .i64 (-1), .slice none 0 0, .int .i64 0, .slice (some ⟨w4.heap.size, 0, none⟩) 1 1] 32 (0, 0))) := fun y hy => (hy.block _ (by omega)).trans (boxN _ _ _ _ (by simp))
  have lS : w4.heap.size + 1 < w4.heap.size + 1 + 1 := by omega
  replace hz : w4.heap.size + 1 + 1 ≤ (((w4.alloc (.cells #[.int .i64 1] 3)).alloc (.cells #[.int .i64 (-1), .slice none 0 0, .int .i64 0, .slice (some ⟨w4.heap.size, 0, none⟩) 1 1] 32))).heap.size := by simp
  clear BP
  generalize ((w4.alloc (.cells #[.int .i64 1] 3)).alloc (.cells #[.int .i64 (-1), .slice none 0 0, .int .i64 0, .slice (some ⟨w4.heap.size, 0, none⟩) 1 1] 32)) = w4g at B A2 C2 A1 C1 XM XF XS hz ⊢
  have hzn : w4.heap.size + 1 + 1 ≤ w4g.heap.size := Nat.le_trans hz (Below.size (Below.refl (w4.heap.size + 1 + 1) w4g))
  replace B := Proofs.Ytjeabgkcmfjjlaa.lF B (Below.refl (w4.heap.size + 1 + 1) w4g) hzn
  replace A2 := Proofs.Ytjeabgkcmfjjlaa.lF A2 (Below.refl (w4.heap.size + 1 + 1) w4g) hzn
  replace C2 := Proofs.Ytjeabgkcmfjjlaa.lF C2 (Below.refl (w4.heap.size + 1 + 1) w4g) hzn
  replace A1 := Proofs.Ytjeabgkcmfjjlaa.lF A1 (Below.refl (w4.heap.size + 1 + 1) w4g) hzn
  replace C1 := Proofs.Ytjeabgkcmfjjlaa.lF C1 (Below.refl (w4.heap.size + 1 + 1) w4g) hzn
  replace XM := Proofs.Ytjeabgkcmfjjlaa.lF XM (Below.refl (w4.heap.size + 1 + 1) w4g) hzn
  replace lM := Nat.lt_of_lt_of_le lM hzn
  replace XF := Proofs.Ytjeabgkcmfjjlaa.lF XF (Below.refl (w4.heap.size + 1 + 1) w4g) hzn
  replace lF := Nat.lt_of_lt_of_le lF hzn
  replace XS := Proofs.Ytjeabgkcmfjjlaa.lF XS (Below.refl (w4.heap.size + 1 + 1) w4g) hzn
  replace lS := Nat.lt_of_lt_of_le lS hzn
  clear hz
  have hz : w4g.heap.size ≤ w4g.heap.size := Nat.le_refl _
  have CL : Hid (∀ y, Below (w4g.heap.size) w4g y → ClsAt (fun _ => True) (fun _ => True) y (some ⟨w4.heap.size + 1, 0, none⟩) 2 [(-1, []), (0, [1])]) := fun y hy => cls_lit (XF.out y hy) (XS.out y hy)
  obtain ⟨kM0, kM1, kM2, kM3, kM4⟩ := bk5 (XM.out w4g bR)
  obtain kF0 := bk1 (XF.out w4g bR)
  obtain ⟨kS0, kS1, kS2, kS3⟩ := bk4 (XS.out w4g bR)
  go_wp2_with fail
  clear kM0 kM1 kM2 kM3 kM4 kF0 kS0 kS1 kS2 kS3
  have BP : Hid (Below (w4g.heap.size) w4g w4g) := bR
  refine (memOkImpl (some ⟨w4.heap.size + 1, 0, none⟩) 2 2 a2 n n (yn : Int) 0 (yn : Int) b2 m m (List.replicate n 0) (List.replicate m false) [(-1, []), (0, [1])] _ (CL.out _ BP.out) (zero_sl (A2.out _ BP.out) hn).ints (zero_slB (C2.out _ BP.out) hm) (by constructor <;> omega) (by omega) (by omega) (by omega)).mono ?_
  rintro e w5 ⟨rfl, hb⟩
  rw [MB.out]
  have hq : Below (w4g.heap.size) w4g w5 := BP.out.trans (Below.mono hb (Nat.le_trans hz BP.out.size))
  have hzn : w4g.heap.size ≤ w5.heap.size := Nat.le_trans hz hq.size
  replace B := Proofs.Ytjeabgkcmfjjlaa.lF B hq hzn
  replace A2 := Proofs.Ytjeabgkcmfjjlaa.lF A2 hq hzn
  replace C2 := Proofs.Ytjeabgkcmfjjlaa.lF C2 hq hzn
  replace A1 := Proofs.Ytjeabgkcmfjjlaa.lF A1 hq hzn
  replace C1 := Proofs.Ytjeabgkcmfjjlaa.lF C1 hq hzn
  replace CL := Proofs.Ytjeabgkcmfjjlaa.lF CL hq hzn
  replace XM := Proofs.Ytjeabgkcmfjjlaa.lF XM hq hzn
  replace lM := Nat.lt_of_lt_of_le lM hzn
  replace XF := Proofs.Ytjeabgkcmfjjlaa.lF XF hq hzn
  replace lF := Nat.lt_of_lt_of_le lF hzn
  replace XS := Proofs.Ytjeabgkcmfjjlaa.lF XS hq hzn
  replace lS := Nat.lt_of_lt_of_le lS hzn
  clear hq BP hz
  have hz : w5.heap.size ≤ w5.heap.size := Nat.le_refl _
  clear hb
  obtain ⟨kM0, kM1, kM2, kM3, kM4⟩ := bk5 (XM.out w5 bR)
  obtain kF0 := bk1 (XF.out w5 bR)
  obtain ⟨kS0, kS1, kS2, kS3⟩ := bk4 (XS.out w5 bR)
  go_wp2_with fail
  clear kM0 kM1 kM2 kM3 kM4 kF0 kS0 kS1 kS2 kS3
  have BP : Hid (Below (w5.heap.size) w5 w5) := bR
  refine (walkVImpl (some ⟨w4.heap.size + 1, 0, none⟩) 2 2 a2 n n (yn : Int) 0 (yn : Int) b2 m m (List.replicate n 0) (List.replicate m false) [(-1, []), (0, [1])] _ (CL.out _ BP.out) (zero_sl (A2.out _ BP.out) hn).ints (zero_slB (C2.out _ BP.out) hm) (by constructor <;> omega) (by omega) (by omega) (by omega)).mono ?_
  rintro e w6 ⟨a9, c9, rfl, _, _, hb⟩
  rw [MV.out]
  have hq : Below (w5.heap.size) w5 w6 := BP.out.trans (Below.mono hb (Nat.le_trans hz BP.out.size))
  have hzn : w5.heap.size ≤ w6.heap.size := Nat.le_trans hz hq.size
  replace B := Proofs.Ytjeabgkcmfjjlaa.lF B hq hzn
  replace A2 := Proofs.Ytjeabgkcmfjjlaa.lF A2 hq hzn
  replace C2 := Proofs.Ytjeabgkcmfjjlaa.lF C2 hq hzn
  replace A1 := Proofs.Ytjeabgkcmfjjlaa.lF A1 hq hzn
  replace C1 := Proofs.Ytjeabgkcmfjjlaa.lF C1 hq hzn
  replace CL := Proofs.Ytjeabgkcmfjjlaa.lF CL hq hzn
  replace XM := Proofs.Ytjeabgkcmfjjlaa.lF XM hq hzn
  replace lM := Nat.lt_of_lt_of_le lM hzn
  replace XF := Proofs.Ytjeabgkcmfjjlaa.lF XF hq hzn
  replace lF := Nat.lt_of_lt_of_le lF hzn
  replace XS := Proofs.Ytjeabgkcmfjjlaa.lF XS hq hzn
  replace lS := Nat.lt_of_lt_of_le lS hzn
  clear hq BP hz
  have hz : w6.heap.size ≤ w6.heap.size := Nat.le_refl _
  clear hb
  go_wp2_with fail
  go_ret
  exact ⟨rfl, B.out _ (Below.refl _ _)⟩

set_option maxRecDepth 100000 in
theorem lifted (os : Os) (started : os.Started) (H : Type) (enc : TypeId × Value → H) :
    ReturnsInHanded {} Try.checked os 3 .any (Rows.fnMemNewSpec.pre6 enc Try.prog Try.f3 Rows.fnMemNewRow.domain false) (Rows.fnMemNewSpec.post enc Try.prog Try.f3 false true false false) := by
  refine returnsInHanded_of_change (C := Try.checked) own started (by kernel_rfl) Try.func3
    (ChangeSpec.witness6 (enc := enc) (C := Try.checked) false ⟨#[], #[.slice none 0 0], []⟩ 8 (by kernel_rfl) (by kernel_rfl) (by kernel_rfl) (by kernel_rfl)) ?_
  intro W base args ds gs before hval0 hW hcnd _
  have hval : ∀ (j : Nat) t v, Try.f3.params[j]? = some t → args[j]? = some v → Value.okWide Try.prog W .any base t v := hval0
  have hW' := hW
  obtain ⟨p, q, hA0, hV, rfl, hfz, hnd⟩ := hW
  have hA : DataW.TrodAll enc Try.prog W 0 (fun _ => true) true Try.f3.params.toList args.toList ds p := hA0
  rw [Try.params3] at hA hval
  obtain ⟨v0, vs0, d0, ds0, p0, q0, hargs, rfl, rfl, h0, r0⟩ := trodAll_cons hA
  obtain ⟨rfl, rfl, rfl⟩ := trodAll_nil r0
  obtain rfl : args = #[v0] := by cases args; simp_all
  obtain ⟨rfl, rfl⟩ := trodVars_none hV
  obtain ⟨a0, len0, cap0, rfl⟩ := okWide_slice Try.underlying22 (hval 0 22 v0 rfl rfl)
  have k0 := h0
  have lt0 : ∀ x ∈ p0, x.block < W.heap.size := by obtain ⟨m, hm⟩ := k0; exact DataW.trod_lt m _ _ _ hm
  obtain ⟨z0, w0⟩ : ∃ zs, IsRow .u8 W a0 len0 cap0 zs := by
    obtain ⟨fuel, hf⟩ := h0
    rcases open_ints Try.underlying22 Try.underlying5 (by kernel_rfl) hf with ⟨hcs, _⟩ | ⟨x, l, c, zs, hcs, _, hl, hm, hz, _, hcell, hwz⟩
    · simp [Value.cells] at hcs
      obtain ⟨rfl, rfl, rfl⟩ := hcs
      exact ⟨[], .inl ⟨rfl, rfl, rfl, rfl⟩⟩
    · simp [Value.cells] at hcs
      obtain ⟨rfl, rfl, rfl⟩ := hcs
      exact ⟨zs, .inr ⟨_, rfl, hl, hm, by simpa using hz, hcell, hwz⟩⟩
  clear hA0 hval0
  refine (walk a0 len0 cap0 z0 W w0).mono fun e W' ⟨he, bel⟩ => ?_
  subst he
  exact ⟨_, rfl, _, _, _, [], _, [], hW', trodAll_mk1 (shut_bool Try.underlying4 _), (trodAll_cons_mk (Below.trod laidOut (by kernel_rfl) (of_decide_eq_true (by kernel_rfl)) k0 bel lt0) trodAll_mk0), rfl, bel.frame _, fun h => by cases h⟩

theorem over : Rows.fnMemNewRow.holds Try.pinned (OpenSpec.ofChange Rows.fnMemNewSpec) :=
  OpenClaim.holds_of_wide 3 Try.f3 rfl rfl rfl rfl rfl rfl rfl ⟨rfl, rfl, rfl, rfl, rfl⟩ rfl rfl rfl rfl rfl (by kernel_rfl) Try.func3 (by kernel_rfl)
    (of_decide_eq_true (by kernel_rfl)) (by unfold Func.isWrapper; first | (rw [if_pos (by decide +kernel)]; kernel_rfl) | (rw [if_neg (by decide +kernel)]; exact ⟨rfl, rfl⟩))
    (fun os started H enc _ => lifted os started H enc)

theorem proved : Rows.FnMemNewSaid := over
end Go.Proofs.Ytjeabgkcmfjjlaa.fnMemNew

namespace Go.Proofs.Ytjeabgkcmfjjlaa
theorem fnMemNew_holds : Rows.FnMemNewSaid := fnMemNew.proved
#print axioms fnMemNew_holds
end Go.Proofs.Ytjeabgkcmfjjlaa
