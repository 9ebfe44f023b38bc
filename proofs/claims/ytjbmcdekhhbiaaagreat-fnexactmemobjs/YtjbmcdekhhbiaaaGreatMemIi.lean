/-
  Whether a memory can be cut into its parts, by the program: what it says; it writes nothing that was there.
-/
import Derived.Test.YtjbmcdekhhbiaaaGreatMemIh
namespace Go.Proofs.YtjbmcdekhhbiaaaGreat
open Go.ChangeShapes Go.WideShapes Go.ChangeAt Go.RowKit
set_option linter.unusedVariables false

def p1B (wl : Nat) (yg : Int) : Bool := inI yg 0 40 && inI ((wl : Int) - yg) 14 120
def p2B (wl : Nat) (yg tp od : Int) : Bool := inI tp 0 yg && inI od yg wl
def p3B (wl dl : Nat) (yg : Int) : Bool := (dl : Int) == crd ((wl : Int) - yg)
theorem bnd_parts (L : List Cl) (ws : List Int) (yg tp od : Int) (cd : List Bool) (wl dl : Nat) (h1 : ws.length = wl) (h2 : cd.length = dl) : bndB L (ws, yg, tp, od, cd) = (clsOk L && (p1B wl yg && (p2B wl yg tp od && p3B wl dl yg))) := by
  rw [bnd_if]
  simp only [h1, h2]
  unfold p1B p2B p3B
  cases clsOk L <;> cases inI yg 0 40 <;> cases inI ((wl : Int) - yg) 14 120 <;> cases inI tp 0 yg <;> cases inI od yg wl <;> rfl

set_option maxRecDepth 100000 in
set_option maxHeartbeats 4000000 in
theorem part1Impl (wa : Option Addr) (wl wc : Nat) (yg tp od : Int) (da : Option Addr) (dl dc : Nat) (MB : Nat) (w : World) (hM : w.heap[MB]? = some (.cells #[.slice wa wl wc, .int .i64 yg, .int .i64 tp, .int .i64 od, .slice da dl dc] 29 (0, 0))) (hl : wl ≤ 1048576) (hy : i64B yg) : Calls Tryz.prog 98 #[.pointer (some ⟨MB, 0, none⟩)] w fun e w' => e = .returned (.bool (p1B wl yg)) ∧ Below w.heap.size w w' := by
  have lM := (Array.getElem?_eq_some_iff.1 hM).1
  have m0 : w.cell? ⟨MB, 0, none⟩ = some (.slice wa wl wc) := (boxG hM 0).1
  have m1 : w.cell? ⟨MB, 1, none⟩ = some (.int .i64 yg) := (boxG hM 1).1
  have m2 : w.cell? ⟨MB, 2, none⟩ = some (.int .i64 tp) := (boxG hM 2).1
  have m3 : w.cell? ⟨MB, 3, none⟩ = some (.int .i64 od) := (boxG hM 3).1
  have m4 : w.cell? ⟨MB, 4, none⟩ = some (.slice da dl dc) := (boxG hM 4).1
  obtain ⟨y0, y1⟩ := hy
  have HP : Hid ((inI yg 0 40 && inI (wrap64 ((wl : Int) - yg)) 14 120) = p1B wl yg) := by
    show _ = _
    unfold p1B
    cases hq : inI yg 0 40
    · rfl
    · have := inI_iff.1 hq
      rw [IntWalk.wrap64_in _ (by omega)]
  clear hM
  go_enter Tryz.func98, Tryz.ntmps98
  go_wp2_with fail
  refine (areSizesImpl _ _ _).mono ?_
  rintro e w1 ⟨rfl, rfl⟩
  rw [HP.out]
  go_wp2_with fail
  go_ret
  exact ⟨rfl, Below.refl _ _⟩

set_option maxRecDepth 100000 in
set_option maxHeartbeats 4000000 in
theorem part2Impl (wa : Option Addr) (wl wc : Nat) (yg tp od : Int) (da : Option Addr) (dl dc : Nat) (MB : Nat) (w : World) (hM : w.heap[MB]? = some (.cells #[.slice wa wl wc, .int .i64 yg, .int .i64 tp, .int .i64 od, .slice da dl dc] 29 (0, 0))) : Calls Tryz.prog 100 #[.pointer (some ⟨MB, 0, none⟩)] w fun e w' => e = .returned (.bool (p2B wl yg tp od)) ∧ Below w.heap.size w w' := by
  have lM := (Array.getElem?_eq_some_iff.1 hM).1
  have m0 : w.cell? ⟨MB, 0, none⟩ = some (.slice wa wl wc) := (boxG hM 0).1
  have m1 : w.cell? ⟨MB, 1, none⟩ = some (.int .i64 yg) := (boxG hM 1).1
  have m2 : w.cell? ⟨MB, 2, none⟩ = some (.int .i64 tp) := (boxG hM 2).1
  have m3 : w.cell? ⟨MB, 3, none⟩ = some (.int .i64 od) := (boxG hM 3).1
  have m4 : w.cell? ⟨MB, 4, none⟩ = some (.slice da dl dc) := (boxG hM 4).1
  have HP : Hid (p2B wl yg tp od = (inI tp 0 yg && inI od yg wl)) := rfl
  clear hM
  go_enter Tryz.func100, Tryz.ntmps100
  go_wp2_with fail
  refine (isAmongImpl _ _ _ _).mono ?_
  rintro e w1 ⟨rfl, rfl⟩
  cases q1 : inI tp 0 yg
  · go_wp2_with fail
    go_ret
    exact ⟨by rw [HP.out, q1]; rfl, Below.refl _ _⟩
  · go_wp2_with fail
    refine (isAmongImpl _ _ _ _).mono ?_
    rintro e w1 ⟨rfl, rfl⟩
    go_wp2_with fail
    go_ret
    exact ⟨by rw [HP.out, q1]; rfl, Below.refl _ _⟩

set_option maxRecDepth 100000 in
set_option maxHeartbeats 4000000 in
theorem part3Impl (wa : Option Addr) (wl wc : Nat) (yg tp od : Int) (da : Option Addr) (dl dc : Nat) (MB : Nat) (w : World) (hM : w.heap[MB]? = some (.cells #[.slice wa wl wc, .int .i64 yg, .int .i64 tp, .int .i64 od, .slice da dl dc] 29 (0, 0))) (hl : wl ≤ 1048576) (hd : dl ≤ 1048576) (hp : p1B wl yg = true) : Calls Tryz.prog 101 #[.pointer (some ⟨MB, 0, none⟩)] w fun e w' => e = .returned (.bool (p3B wl dl yg)) ∧ Below w.heap.size w w' := by
  have lM := (Array.getElem?_eq_some_iff.1 hM).1
  have m0 : w.cell? ⟨MB, 0, none⟩ = some (.slice wa wl wc) := (boxG hM 0).1
  have m1 : w.cell? ⟨MB, 1, none⟩ = some (.int .i64 yg) := (boxG hM 1).1
  have m2 : w.cell? ⟨MB, 2, none⟩ = some (.int .i64 tp) := (boxG hM 2).1
  have m3 : w.cell? ⟨MB, 3, none⟩ = some (.int .i64 od) := (boxG hM 3).1
  have m4 : w.cell? ⟨MB, 4, none⟩ = some (.slice da dl dc) := (boxG hM 4).1
  have HP : Hid (p3B wl dl yg = ((dl : Int) == crd ((wl : Int) - yg))) := rfl
  have q1 : 0 ≤ yg ∧ yg ≤ 40 := by unfold p1B at hp; rw [Bool.and_eq_true, inI_iff] at hp; exact hp.1
  have hw1 : IntKind.i64.wrap ((wl : Int) - yg) = (wl : Int) - yg := by rw [IntKind.wrap_i64] <;> omega
  have XMM : Hid (∀ y, Below w.heap.size w y → y.heap[MB]? = some (.cells #[.slice wa wl wc, .int .i64 yg, .int .i64 tp, .int .i64 od, .slice da dl dc] 29 (0, 0))) := fun y hy => (hy.block _ lM).trans hM
  clear hM hp
  have hz : w.heap.size ≤ w.heap.size := Nat.le_refl _
  have B : Hid (∀ y, Below (w.heap.size) w y → Below w.heap.size w y) := fun y hy => bR.trans (hy.mono (by omega))
  have XM : Hid (∀ y, Below (w.heap.size) w y → y.heap[MB]? = some (.cells #[.slice wa wl wc, .int .i64 yg, .int .i64 tp, .int .i64 od, .slice da dl dc] 29 (0, 0))) := fun y hy => XMM.out y hy
  clear XMM
  go_enter Tryz.func101, Tryz.ntmps101
  go_wp2_with fail
  have KS : Hid (∀ x, Below (w.heap.size) w x → x.cell? ⟨MB, 0, none⟩ = some (.slice wa wl wc) ∧ x.cell? ⟨MB, 1, none⟩ = some (.int .i64 yg) ∧ x.cell? ⟨MB, 2, none⟩ = some (.int .i64 tp) ∧ x.cell? ⟨MB, 3, none⟩ = some (.int .i64 od) ∧ x.cell? ⟨MB, 4, none⟩ = some (.slice da dl dc)) := fun x hx => bk5 (XM.out x hx)
  refine wp_region_held_drew (S := fun x => x.cell? ⟨MB, 0, none⟩ = some (.slice wa wl wc) ∧ x.cell? ⟨MB, 1, none⟩ = some (.int .i64 yg) ∧ x.cell? ⟨MB, 2, none⟩ = some (.int .i64 tp) ∧ x.cell? ⟨MB, 3, none⟩ = some (.int .i64 od) ∧ x.cell? ⟨MB, 4, none⟩ = some (.slice da dl dc)) (by kernel_rfl) ?_ (fun hHeld => ?_)
  · exact KS.out _ (bdrew bR)
  refine tV 0 (v := ?_) rfl (by kernel_rfl) (fun _ _ _ h => h) ?_ (by assumption) ?_
  rotate_left 1
  · (intro x hSx; (try dsimp only at hSx); go_simp; try with_reducible rfl)
  try simp only [Act.put, zgT, zg0, zsT, zs0, zsS]
  refine tV 1 (v := ?_) rfl (by kernel_rfl) (fun _ _ _ h => h) ?_ (by assumption) ?_
  rotate_left 1
  · (intro x hSx; (try dsimp only at hSx); go_simp; try with_reducible rfl)
  try simp only [Act.put, zgT, zg0, zgS, zsT, zs0, zsS]
  refine tV 2 (v := ?_) rfl (by kernel_rfl) (fun _ _ _ h => h) ?_ (by assumption) ?_
  rotate_left 1
  · (intro x hSx; (try dsimp only at hSx); go_simp; try with_reducible rfl)
  try simp only [Act.put, zgT, zg0, zgS, zsT, zs0, zsS]
  refine tV 3 (v := ?_) rfl (by kernel_rfl) (fun _ _ _ h => h) ?_ (by assumption) ?_
  rotate_left 1
  · (intro x hSx; (try dsimp only at hSx); go_simp; try with_reducible rfl)
  try simp only [Act.put, zgT, zg0, zgS, zsT, zs0, zsS]
  refine tV 4 (v := ?_) rfl (by kernel_rfl) (fun _ _ _ h => h) ?_ (by assumption) ?_
  rotate_left 1
  · (intro x hSx; (try dsimp only at hSx); go_simp; try with_reducible rfl)
  try simp only [Act.put, zgT, zg0, zgS, zsT, zs0, zsS]
  refine tV 5 (v := ?_) rfl (by kernel_rfl) (fun _ _ _ h => h) ?_ (by assumption) ?_
  rotate_left 1
  · (intro x hSx; (try dsimp only at hSx); go_simp; try with_reducible rfl)
  try simp only [Act.put, zgT, zg0, zgS, zsT, zs0, zsS]
  refine tV 6 (v := ?_) rfl (by kernel_rfl) (fun _ _ _ h => h) ?_ (by assumption) ?_
  rotate_left 1
  · (intro x hSx; (try dsimp only at hSx); go_simp; try with_reducible rfl)
  try simp only [Act.put, zgT, zg0, zgS, zsT, zs0, zsS]
  refine tV 7 (v := ?_) rfl (by kernel_rfl) (fun _ _ _ h => h) ?_ (by assumption) ?_
  rotate_left 1
  · (intro x hSx; (try dsimp only at hSx); go_simp; try with_reducible rfl)
  try simp only [Act.put, zgT, zg0, zgS, zsT, zs0, zsS]
  refine tV 8 (v := ?_) rfl (by kernel_rfl) (fun _ _ _ h => h) ?_ (by assumption) ?_
  rotate_left 1
  · (intro x hSx; (try dsimp only at hSx); go_simp; try with_reducible rfl)
  try simp only [Act.put, zgT, zg0, zgS, zsT, zs0, zsS]
  refine wpAnyH_ready (rs := [9]) (by kernel_rfl) (by simp) ?_
  refine AllReadyH.cons rfl (fun K hK => ?_) AllReadyH.nil
  go_simp
  go_at_call 102
  refine (cardCountImpl _ (by omega) (by omega) _).mono ?_
  rintro e wz ⟨rfl, rfl⟩
  go_wp2_with fail
  refine hK.out _ _ (KS.out _ (bdrew bR)) (fun hHeld2 => ?_)
  clear hK K
  try simp only [Act.put, zgT, zg0, zgS, zsT, zs0, zsS]
  refine tV 10 (v := ?_) rfl (by kernel_rfl) (fun _ _ _ h => h) ?_ (by assumption) ?_
  rotate_left 1
  · (intro x hSx; (try dsimp only at hSx); go_simp; try with_reducible rfl)
  try simp only [Act.put, zgT, zg0, zgS, zsT, zs0, zsS]
  refine tV 11 (v := ?_) rfl (by kernel_rfl) (fun _ _ _ h => h) ?_ (by assumption) ?_
  rotate_left 1
  · (intro x hSx; (try dsimp only at hSx); go_simp; try with_reducible rfl)
  try simp only [Act.put, zgT, zg0, zgS, zsT, zs0, zsS]
  refine wpAnyH_done (by kernel_rfl) ?_ _
  clear hHeld hHeld2
  clear KS
  go_wp2_with fail
  go_ret
  exact ⟨by rw [HP.out]; rfl, by first | exact bdrew (Below.refl _ _) | exact Below.refl _ _⟩

set_option maxRecDepth 100000 in
set_option maxHeartbeats 4000000 in
theorem allParts (wa : Option Addr) (wl wc : Nat) (yg tp od : Int) (da : Option Addr) (dl dc : Nat) (AB MB : Nat) (t : TypeId) (w : World) (hM : w.heap[MB]? = some (.cells #[.slice wa wl wc, .int .i64 yg, .int .i64 tp, .int .i64 od, .slice da dl dc] 29 (0, 0))) (hA : w.heap[AB]? = some (.cells #[.func (.func 98) #[] #[.pointer (some ⟨MB, 0, none⟩)], .func (.func 100) #[] #[.pointer (some ⟨MB, 0, none⟩)], .func (.func 101) #[] #[.pointer (some ⟨MB, 0, none⟩)]] t (0, 0))) (hl : wl ≤ 1048576) (hd : dl ≤ 1048576) (hy : i64B yg) :
    Calls Tryz.prog 67 #[.slice (some ⟨AB, 0, none⟩) 3 3] w fun e w' => e = .returned (.bool (p1B wl yg && (p2B wl yg tp od && p3B wl dl yg))) ∧ Below w.heap.size w w' := by
  have B : Hid (∀ y, Below w.heap.size w y → Below w.heap.size w y) := fun _ h => h
  have lA : AB < w.heap.size := (Array.getElem?_eq_some_iff.1 hA).1
  have XA : Hid (∀ y, Below w.heap.size w y → y.heap[AB]? = some (.cells #[.func (.func 98) #[] #[.pointer (some ⟨MB, 0, none⟩)], .func (.func 100) #[] #[.pointer (some ⟨MB, 0, none⟩)], .func (.func 101) #[] #[.pointer (some ⟨MB, 0, none⟩)]] t (0, 0))) := fun y hy => (hy.block _ lA).trans hA
  have lM : MB < w.heap.size := (Array.getElem?_eq_some_iff.1 hM).1
  have XM : Hid (∀ y, Below w.heap.size w y → y.heap[MB]? = some (.cells #[.slice wa wl wc, .int .i64 yg, .int .i64 tp, .int .i64 od, .slice da dl dc] 29 (0, 0))) := fun y hy => (hy.block _ lM).trans hM
  clear hA hM
  go_enter Tryz.func67, Tryz.ntmps67
  go_wp2_with fail
  refine wp_loop_rounds 4 ?_
  rw [rounds_succ]
  have kA0 : w.cell? ⟨AB, 0, none⟩ = some (.func (.func 98) #[] #[.pointer (some ⟨MB, 0, none⟩)]) := (boxG (XA.out w (Below.refl _ _)) 0).1
  have kA1 : w.cell? ⟨AB, 1, none⟩ = some (.func (.func 100) #[] #[.pointer (some ⟨MB, 0, none⟩)]) := (boxG (XA.out w (Below.refl _ _)) 1).1
  have kA2 : w.cell? ⟨AB, 2, none⟩ = some (.func (.func 101) #[] #[.pointer (some ⟨MB, 0, none⟩)]) := (boxG (XA.out w (Below.refl _ _)) 2).1
  have BP : Hid (Below w.heap.size w w) := Below.refl _ _
  go_wp2_with fail
  refine (part1Impl _ _ _ _ _ _ _ _ _  MB _ (XM.out _ (Below.refl _ _)) hl hy).mono ?_
  rintro e w1 ⟨rfl, hb⟩
  have hq : Below w.heap.size w w1 := BP.out.trans (Below.mono hb BP.out.size)
  replace B : Hid (∀ y, Below w1.heap.size w1 y → Below w.heap.size w y) := fun y hy => B.out y (hq.trans (hy.mono hq.size))
  replace XA : Hid (∀ y, Below w1.heap.size w1 y → y.heap[AB]? = some (.cells #[.func (.func 98) #[] #[.pointer (some ⟨MB, 0, none⟩)], .func (.func 100) #[] #[.pointer (some ⟨MB, 0, none⟩)], .func (.func 101) #[] #[.pointer (some ⟨MB, 0, none⟩)]] t (0, 0))) := fun y hy => XA.out y (hq.trans (hy.mono hq.size))
  replace lA : AB < w1.heap.size := Nat.lt_of_lt_of_le lA hq.size
  replace XM : Hid (∀ y, Below w1.heap.size w1 y → y.heap[MB]? = some (.cells #[.slice wa wl wc, .int .i64 yg, .int .i64 tp, .int .i64 od, .slice da dl dc] 29 (0, 0))) := fun y hy => XM.out y (hq.trans (hy.mono hq.size))
  replace lM : MB < w1.heap.size := Nat.lt_of_lt_of_le lM hq.size
  have zw1 : w.heap.size ≤ w1.heap.size := hq.size
  clear hq BP
  clear kA0 kA1 kA2
  clear hb
  cases h0 : p1B wl yg
  · have H0 : Hid ((p1B wl yg) = false) := h0
    go_wp2_with fail
    go_ret
    exact ⟨by rw [H0.out]; rfl, B.out _ (Below.refl _ _)⟩
  have H0 : Hid ((p1B wl yg) = true) := h0
  clear h0
  go_wp2_with fail
  rw [rounds_succ]
  have kA0 : w1.cell? ⟨AB, 0, none⟩ = some (.func (.func 98) #[] #[.pointer (some ⟨MB, 0, none⟩)]) := (boxG (XA.out w1 (Below.refl _ _)) 0).1
  have kA1 : w1.cell? ⟨AB, 1, none⟩ = some (.func (.func 100) #[] #[.pointer (some ⟨MB, 0, none⟩)]) := (boxG (XA.out w1 (Below.refl _ _)) 1).1
  have kA2 : w1.cell? ⟨AB, 2, none⟩ = some (.func (.func 101) #[] #[.pointer (some ⟨MB, 0, none⟩)]) := (boxG (XA.out w1 (Below.refl _ _)) 2).1
  have BP : Hid (Below w1.heap.size w1 w1) := Below.refl _ _
  go_wp2_with fail
  refine (part2Impl _ _ _ _ _ _ _ _ _  MB _ (XM.out _ (Below.refl _ _))).mono ?_
  rintro e w2 ⟨rfl, hb⟩
  have hq : Below w1.heap.size w1 w2 := BP.out.trans (Below.mono hb BP.out.size)
  replace B : Hid (∀ y, Below w2.heap.size w2 y → Below w.heap.size w y) := fun y hy => B.out y (hq.trans (hy.mono hq.size))
  replace XA : Hid (∀ y, Below w2.heap.size w2 y → y.heap[AB]? = some (.cells #[.func (.func 98) #[] #[.pointer (some ⟨MB, 0, none⟩)], .func (.func 100) #[] #[.pointer (some ⟨MB, 0, none⟩)], .func (.func 101) #[] #[.pointer (some ⟨MB, 0, none⟩)]] t (0, 0))) := fun y hy => XA.out y (hq.trans (hy.mono hq.size))
  replace lA : AB < w2.heap.size := Nat.lt_of_lt_of_le lA hq.size
  replace XM : Hid (∀ y, Below w2.heap.size w2 y → y.heap[MB]? = some (.cells #[.slice wa wl wc, .int .i64 yg, .int .i64 tp, .int .i64 od, .slice da dl dc] 29 (0, 0))) := fun y hy => XM.out y (hq.trans (hy.mono hq.size))
  replace lM : MB < w2.heap.size := Nat.lt_of_lt_of_le lM hq.size
  have zw2 : w1.heap.size ≤ w2.heap.size := hq.size
  clear hq BP
  clear kA0 kA1 kA2
  clear hb
  cases h1 : p2B wl yg tp od
  · have H1 : Hid ((p2B wl yg tp od) = false) := h1
    go_wp2_with fail
    go_ret
    exact ⟨by rw [H0.out, H1.out]; rfl, B.out _ (Below.refl _ _)⟩
  have H1 : Hid ((p2B wl yg tp od) = true) := h1
  clear h1
  go_wp2_with fail
  rw [rounds_succ]
  have kA0 : w2.cell? ⟨AB, 0, none⟩ = some (.func (.func 98) #[] #[.pointer (some ⟨MB, 0, none⟩)]) := (boxG (XA.out w2 (Below.refl _ _)) 0).1
  have kA1 : w2.cell? ⟨AB, 1, none⟩ = some (.func (.func 100) #[] #[.pointer (some ⟨MB, 0, none⟩)]) := (boxG (XA.out w2 (Below.refl _ _)) 1).1
  have kA2 : w2.cell? ⟨AB, 2, none⟩ = some (.func (.func 101) #[] #[.pointer (some ⟨MB, 0, none⟩)]) := (boxG (XA.out w2 (Below.refl _ _)) 2).1
  have BP : Hid (Below w2.heap.size w2 w2) := Below.refl _ _
  go_wp2_with fail
  refine (part3Impl _ _ _ _ _ _ _ _ _  MB _ (XM.out _ (Below.refl _ _)) hl hd H0.out).mono ?_
  rintro e w3 ⟨rfl, hb⟩
  have hq : Below w2.heap.size w2 w3 := BP.out.trans (Below.mono hb BP.out.size)
  replace B : Hid (∀ y, Below w3.heap.size w3 y → Below w.heap.size w y) := fun y hy => B.out y (hq.trans (hy.mono hq.size))
  replace XA : Hid (∀ y, Below w3.heap.size w3 y → y.heap[AB]? = some (.cells #[.func (.func 98) #[] #[.pointer (some ⟨MB, 0, none⟩)], .func (.func 100) #[] #[.pointer (some ⟨MB, 0, none⟩)], .func (.func 101) #[] #[.pointer (some ⟨MB, 0, none⟩)]] t (0, 0))) := fun y hy => XA.out y (hq.trans (hy.mono hq.size))
  replace lA : AB < w3.heap.size := Nat.lt_of_lt_of_le lA hq.size
  replace XM : Hid (∀ y, Below w3.heap.size w3 y → y.heap[MB]? = some (.cells #[.slice wa wl wc, .int .i64 yg, .int .i64 tp, .int .i64 od, .slice da dl dc] 29 (0, 0))) := fun y hy => XM.out y (hq.trans (hy.mono hq.size))
  replace lM : MB < w3.heap.size := Nat.lt_of_lt_of_le lM hq.size
  have zw3 : w2.heap.size ≤ w3.heap.size := hq.size
  clear hq BP
  clear kA0 kA1 kA2
  clear hb
  cases h2 : p3B wl dl yg
  · have H2 : Hid ((p3B wl dl yg) = false) := h2
    go_wp2_with fail
    go_ret
    exact ⟨by rw [H0.out, H1.out, H2.out]; rfl, B.out _ (Below.refl _ _)⟩
  have H2 : Hid ((p3B wl dl yg) = true) := h2
  clear h2
  go_wp2_with fail
  rw [rounds_succ]
  have kA0 : w3.cell? ⟨AB, 0, none⟩ = some (.func (.func 98) #[] #[.pointer (some ⟨MB, 0, none⟩)]) := (boxG (XA.out w3 (Below.refl _ _)) 0).1
  have kA1 : w3.cell? ⟨AB, 1, none⟩ = some (.func (.func 100) #[] #[.pointer (some ⟨MB, 0, none⟩)]) := (boxG (XA.out w3 (Below.refl _ _)) 1).1
  have kA2 : w3.cell? ⟨AB, 2, none⟩ = some (.func (.func 101) #[] #[.pointer (some ⟨MB, 0, none⟩)]) := (boxG (XA.out w3 (Below.refl _ _)) 2).1
  go_wp2_with fail
  go_ret
  exact ⟨by rw [H0.out, H1.out, H2.out]; rfl, B.out _ (Below.refl _ _)⟩
set_option maxRecDepth 100000 in
set_option maxHeartbeats 4000000 in
theorem partsImpl (wa : Option Addr) (wl wc : Nat) (yg tp od : Int) (da : Option Addr) (dl dc : Nat) (w : World) (hl : wl ≤ 1048576) (hd : dl ≤ 1048576) (hy : i64B yg) :
    Calls Tryz.prog 65 #[.agg #[.slice wa wl wc, .int .i64 yg, .int .i64 tp, .int .i64 od, .slice da dl dc]] w fun e w' => e = .returned (.bool (p1B wl yg && (p2B wl yg tp od && p3B wl dl yg))) ∧ Below w.heap.size w w' := by
  have BX : Hid (∀ o : Obj, Below w.heap.size w ((w.alloc (.cells #[.slice wa wl wc, .int .i64 yg, .int .i64 tp, .int .i64 od, .slice da dl dc] 29)).alloc o)) := fun o => ((Below.refl _ _).alloc (Nat.le_refl _) _).alloc (by simp) _
  have hmf : ∀ (fn : Fn) (first cap : Array Value) (w : World), (Instr.makeFunc fn first cap).run Tryz.prog w = .ok (.func fn first cap) w := fun _ _ _ _ => rfl
  go_enter Tryz.func65, Tryz.ntmps65
  go_wp2_with fail
  refine (allParts _ _ _ _ _ _ _ _ _ (w.heap.size + 1) w.heap.size _ _ ((Below.heap_alloc _ _ _ (by simp)).trans (boxN _ _ _ _ rfl)) (boxN _ _ _ _ (by simp)) hl hd hy).mono ?_
  rintro e w1 ⟨rfl, hb⟩
  have B1 : Hid (Below w.heap.size w w1) := (BX.out _).trans (hb.mono (by simp; omega))
  clear hb
  go_wp2_with fail
  go_ret
  exact ⟨rfl, B1.out⟩

/-- What is given back of a memory: where it is ok, its parts, and its things in memory of their own. -/
def MoP (w : World) (ca : Option Addr) (cn cc : Nat) (wa : Option Addr) (wl wc : Nat) (yg tp od : Int) (da : Option Addr) (dl dc : Nat) (L : List Cl) (ws : List Int) (cd : List Bool) (e : Ending) (w' : World) : Prop :=
  (memB L (ws, yg, tp, od, cd) = false → ∃ a0 l0 c0 a1 l1 c1 i2 i3 i4 a5 l5 c5 a6 l6 c6 i7 i8 a9 l9 c9 i10 i11 a12 l12 c12, e = .returned (.tuple #[.agg #[.slice a0 l0 c0, .slice a1 l1 c1, .int .i64 i2, .int .i64 i3, .int .i64 i4, .slice a5 l5 c5, .slice a6 l6 c6, .int .i64 i7, .int .i64 i8, .slice a9 l9 c9, .int .i64 i10, .int .i64 i11, .slice a12 l12 c12], .bool false])) ∧
  (memB L (ws, yg, tp, od, cd) = true → ∃ (wb wo yn tn on : Nat) (ta : Option Addr) (tc : Nat), wa = some ⟨wb, wo, none⟩ ∧ yg = yn ∧ tp = tn ∧ od = on ∧ e = .returned (.tuple #[.agg #[.slice ca cn cc, .slice (some ⟨wb, wo, none⟩) wl wc, .int .i64 (yn : Nat), .int .i64 (tn : Nat), .int .i64 (on : Nat), .slice da dl dc, .slice (some ⟨wb, wo, none⟩) yn wc, .int .i64 0, .int .i64 (tn : Nat), .slice (some ⟨wb, wo + yn, none⟩) (wl - yn) (wc - yn), .int .i64 (yn : Nat), .int .i64 ((on - yn : Nat) : Int), .slice ta (thT L (ws, (yn : Int), (tn : Int), (on : Int), cd)).length tc], .bool true]) ∧ ThRow (fun b => w.heap.size ≤ b) w' (.slice ta (thT L (ws, (yn : Int), (tn : Int), (on : Int), cd)).length tc) (thT L (ws, (yn : Int), (tn : Int), (on : Int), cd))) ∧ Below w.heap.size w w'
theorem all_and_all {p q : Th → Bool} : ∀ (T : List Th), T.all (fun t => p t && q t) = (T.all p && T.all q)
  | [] => rfl
  | t :: T => by
    simp only [List.all_cons]
    rw [all_and_all T]
    cases p t <;> cases q t <;> cases T.all p <;> cases T.all q <;> rfl
theorem Inc.len {T : List Th} (h : Inc T) {n : Nat} (hb : ∀ t ∈ T, 1 ≤ t.1 ∧ t.1 ≤ (n : Int)) : T.length ≤ n := by
  have key : ∀ (i : Nat) (t : Th), T[i]? = some t → (i : Int) + 1 ≤ t.1 := by
    intro i
    induction i with
    | zero => intro t ht; have := (hb t (List.mem_of_getElem? ht)).1; omega
    | succ i ih =>
      intro t ht
      have hl := (List.getElem?_eq_some_iff.1 ht).1
      have hs : T[i]? = some (T[i]'(by omega)) := List.getElem?_eq_getElem _
      have := ih _ hs
      have := h i (i + 1) _ t hs ht (by omega)
      omega
  rcases Nat.eq_zero_or_pos T.length with h0 | h0
  · omega
  · have hs : T[T.length - 1]? = some (T[T.length - 1]'(by omega)) := List.getElem?_eq_getElem _
    have := key _ _ hs
    have := (hb _ (List.mem_of_getElem? hs)).2
    omega
theorem thT_len {L : List Cl} {m : Mm} (h : Bnd L m) : (thT L m).length ≤ m.1.length := Inc.len (thT_ok h).2.inc (fun t ht => ((thT_ok h).1 t ht).most)
theorem memB_eq {L : List Cl} {m : Mm} (h : bndB L m = true) (h1 : (yPs L m).isSome = true) (h2 : (oPs L m).isSome = true) : memB L m = (zerB m && ((thT L m).all (valB' m (thT L m)) && (thT L m).all (crdB m))) := by
  unfold memB
  rw [h, h1, h2, all_and_all]
  cases zerB m <;> rfl
theorem yPs_of {L : List Cl} {ws : List Int} {yn tn on : Nat} {cd : List Bool} (h : tn ≤ yn) : parse L 0 ((ws.take yn).take tn) = yPs L (ws, (yn : Int), (tn : Int), (on : Int), cd) := by
  show _ = parse L 0 (ws.take tn)
  rw [List.take_take, Nat.min_eq_left h]
theorem oPs_of {L : List Cl} {ws : List Int} {yn tn on wl : Nat} {cd : List Bool} (h : yn ≤ on) (h2 : on ≤ wl) : parse L yn (((ws.take wl).drop yn).take (on - yn)) = oPs L (ws, (yn : Int), (tn : Int), (on : Int), cd) := by
  show _ = parse L yn ((ws.take on).drop yn)
  congr 1
  rw [List.drop_take, List.drop_take, List.take_take]
  congr 1
  omega
theorem Prt.row {w w' : World} {r : Option (List Th)} {e : Ending} (h : PrtP w r e w') : ∃ a c, e = .returned (.tuple #[.slice a (r.getD []).length c, .bool r.isSome]) ∧ ThRow (fun b => w.heap.size ≤ b) w' (.slice a (r.getD []).length c) (r.getD []) ∧ (r.getD []).length ≤ 1000 ∧ Below w.heap.size w w' := by
  obtain ⟨h1, h2, h3⟩ := h
  cases r with
  | none => exact ⟨none, 0, h1 rfl, ⟨[], World.ownsRow_nil _ _ _ _, (by intro b e; simp [Value.ownBlock] at e), by simp⟩, by simp, h3⟩
  | some ts =>
    obtain ⟨a, c, he, hr, hl⟩ := h2 ts rfl
    exact ⟨a, c, he, hr, hl, h3⟩

set_option maxRecDepth 100000 in
set_option maxHeartbeats 4000000 in
theorem allTwo (ca : Option Addr) (cn cc wb wo wl wc yg tp od : Nat) (da : Option Addr) (dl dc pc ol oc ou : Nat) (ta : Option Addr) (tl tc : Nat) (T : List Th) (ws : List Int) (cd : List Bool) (L : List Cl) (AB : Nat) (t : TypeId) (w : World) {D G G2 : Nat → Prop} (h : SlAt thR D w ta tl T) (hi : Inc T) (hl : tl ≤ 1000) (hw : IntsAt G w (some ⟨wb, wo, none⟩) wl ws) (hc : SlAt boolR G2 w da dl cd) (hto : ∀ t ∈ T, TOk L (ws, (yg : Int), (tp : Int), (od : Int), cd) t) (h2 : wl ≤ wc) (h3 : wl ≤ 1000) (hdl : wl ≤ yg + dl * 4) (q1 : tp ≤ yg) (q2 : yg ≤ od) (q3 : od ≤ wl) (hpc : yg ≤ pc) (hol : ol = wl - yg) (hoc : ol ≤ oc) (hou : ou = od - yg) (hA : w.heap[AB]? = some (.cells #[.func (.func 68) #[.agg #[.slice ca cn cc, .slice (some ⟨wb, wo, none⟩) wl wc, .int .i64 (yg : Nat), .int .i64 (tp : Nat), .int .i64 (od : Nat), .slice da dl dc, .slice (some ⟨wb, wo, none⟩) yg pc, .int .i64 0, .int .i64 (tp : Nat), .slice (some ⟨wb, wo + yg, none⟩) ol oc, .int .i64 (yg : Nat), .int .i64 (ou : Nat), .slice ta tl tc]] #[], .func (.func 69) #[.agg #[.slice ca cn cc, .slice (some ⟨wb, wo, none⟩) wl wc, .int .i64 (yg : Nat), .int .i64 (tp : Nat), .int .i64 (od : Nat), .slice da dl dc, .slice (some ⟨wb, wo, none⟩) yg pc, .int .i64 0, .int .i64 (tp : Nat), .slice (some ⟨wb, wo + yg, none⟩) ol oc, .int .i64 (yg : Nat), .int .i64 (ou : Nat), .slice ta tl tc]] #[]] t (0, 0))) :
    Calls Tryz.prog 67 #[.slice (some ⟨AB, 0, none⟩) 2 2] w fun e w' => e = .returned (.bool (zerB (ws, (yg : Int), (tp : Int), (od : Int), cd) && (T.all (valB' (ws, (yg : Int), (tp : Int), (od : Int), cd) T) && T.all (crdB (ws, (yg : Int), (tp : Int), (od : Int), cd))))) ∧ Below w.heap.size w w' := by
  have H : Hid (SlAt thR D w ta tl T) := h
  have HW : Hid (IntsAt G w (some ⟨wb, wo, none⟩) wl ws) := hw
  have HC : Hid (SlAt boolR G2 w da dl cd) := hc
  have TO : Hid (∀ t ∈ T, TOk L (ws, (yg : Int), (tp : Int), (od : Int), cd) t) := hto
  have OL : Hid (ol = wl - yg) := hol
  have OU : Hid (ou = od - yg) := hou
  clear h hw hc hto hol hou
  have B : Hid (∀ y, Below w.heap.size w y → Below w.heap.size w y) := fun _ h => h
  have lA : AB < w.heap.size := (Array.getElem?_eq_some_iff.1 hA).1
  have XA : Hid (∀ y, Below w.heap.size w y → y.heap[AB]? = some (.cells #[.func (.func 68) #[.agg #[.slice ca cn cc, .slice (some ⟨wb, wo, none⟩) wl wc, .int .i64 (yg : Nat), .int .i64 (tp : Nat), .int .i64 (od : Nat), .slice da dl dc, .slice (some ⟨wb, wo, none⟩) yg pc, .int .i64 0, .int .i64 (tp : Nat), .slice (some ⟨wb, wo + yg, none⟩) ol oc, .int .i64 (yg : Nat), .int .i64 (ou : Nat), .slice ta tl tc]] #[], .func (.func 69) #[.agg #[.slice ca cn cc, .slice (some ⟨wb, wo, none⟩) wl wc, .int .i64 (yg : Nat), .int .i64 (tp : Nat), .int .i64 (od : Nat), .slice da dl dc, .slice (some ⟨wb, wo, none⟩) yg pc, .int .i64 0, .int .i64 (tp : Nat), .slice (some ⟨wb, wo + yg, none⟩) ol oc, .int .i64 (yg : Nat), .int .i64 (ou : Nat), .slice ta tl tc]] #[]] t (0, 0))) := fun y hy => (hy.block _ lA).trans hA
  clear hA
  go_enter Tryz.func67, Tryz.ntmps67
  go_wp2_with fail
  refine wp_loop_rounds 3 ?_
  rw [rounds_succ]
  have kA0 : w.cell? ⟨AB, 0, none⟩ = some (.func (.func 68) #[.agg #[.slice ca cn cc, .slice (some ⟨wb, wo, none⟩) wl wc, .int .i64 (yg : Nat), .int .i64 (tp : Nat), .int .i64 (od : Nat), .slice da dl dc, .slice (some ⟨wb, wo, none⟩) yg pc, .int .i64 0, .int .i64 (tp : Nat), .slice (some ⟨wb, wo + yg, none⟩) ol oc, .int .i64 (yg : Nat), .int .i64 (ou : Nat), .slice ta tl tc]] #[]) := (boxG (XA.out w (Below.refl _ _)) 0).1
  have kA1 : w.cell? ⟨AB, 1, none⟩ = some (.func (.func 69) #[.agg #[.slice ca cn cc, .slice (some ⟨wb, wo, none⟩) wl wc, .int .i64 (yg : Nat), .int .i64 (tp : Nat), .int .i64 (od : Nat), .slice da dl dc, .slice (some ⟨wb, wo, none⟩) yg pc, .int .i64 0, .int .i64 (tp : Nat), .slice (some ⟨wb, wo + yg, none⟩) ol oc, .int .i64 (yg : Nat), .int .i64 (ou : Nat), .slice ta tl tc]] #[]) := (boxG (XA.out w (Below.refl _ _)) 1).1
  have BP : Hid (Below w.heap.size w w) := Below.refl _ _
  go_wp2_with fail
  refine (restImpl ca cn cc wb wo wl wc yg tp od da dl dc pc ol oc ou ta tl tc ws cd _ (HW.out.later (B.out _ (Below.refl _ _))) q1 q2 q3 h3 hpc OL.out hoc OU.out).mono ?_
  rintro e w1 ⟨rfl, hb⟩
  have hq : Below w.heap.size w w1 := BP.out.trans (Below.mono hb BP.out.size)
  replace B : Hid (∀ y, Below w1.heap.size w1 y → Below w.heap.size w y) := fun y hy => B.out y (hq.trans (hy.mono hq.size))
  replace XA : Hid (∀ y, Below w1.heap.size w1 y → y.heap[AB]? = some (.cells #[.func (.func 68) #[.agg #[.slice ca cn cc, .slice (some ⟨wb, wo, none⟩) wl wc, .int .i64 (yg : Nat), .int .i64 (tp : Nat), .int .i64 (od : Nat), .slice da dl dc, .slice (some ⟨wb, wo, none⟩) yg pc, .int .i64 0, .int .i64 (tp : Nat), .slice (some ⟨wb, wo + yg, none⟩) ol oc, .int .i64 (yg : Nat), .int .i64 (ou : Nat), .slice ta tl tc]] #[], .func (.func 69) #[.agg #[.slice ca cn cc, .slice (some ⟨wb, wo, none⟩) wl wc, .int .i64 (yg : Nat), .int .i64 (tp : Nat), .int .i64 (od : Nat), .slice da dl dc, .slice (some ⟨wb, wo, none⟩) yg pc, .int .i64 0, .int .i64 (tp : Nat), .slice (some ⟨wb, wo + yg, none⟩) ol oc, .int .i64 (yg : Nat), .int .i64 (ou : Nat), .slice ta tl tc]] #[]] t (0, 0))) := fun y hy => XA.out y (hq.trans (hy.mono hq.size))
  replace lA : AB < w1.heap.size := Nat.lt_of_lt_of_le lA hq.size
  have zw1 : w.heap.size ≤ w1.heap.size := hq.size
  clear hq BP
  clear kA0 kA1
  clear hb
  cases h0 : zerB (ws, (yg : Int), (tp : Int), (od : Int), cd)
  · have H0 : Hid ((zerB (ws, (yg : Int), (tp : Int), (od : Int), cd)) = false) := h0
    go_wp2_with fail
    go_ret
    exact ⟨by rw [H0.out]; rfl, B.out _ (Below.refl _ _)⟩
  have H0 : Hid ((zerB (ws, (yg : Int), (tp : Int), (od : Int), cd)) = true) := h0
  clear h0
  go_wp2_with fail
  rw [rounds_succ]
  have kA0 : w1.cell? ⟨AB, 0, none⟩ = some (.func (.func 68) #[.agg #[.slice ca cn cc, .slice (some ⟨wb, wo, none⟩) wl wc, .int .i64 (yg : Nat), .int .i64 (tp : Nat), .int .i64 (od : Nat), .slice da dl dc, .slice (some ⟨wb, wo, none⟩) yg pc, .int .i64 0, .int .i64 (tp : Nat), .slice (some ⟨wb, wo + yg, none⟩) ol oc, .int .i64 (yg : Nat), .int .i64 (ou : Nat), .slice ta tl tc]] #[]) := (boxG (XA.out w1 (Below.refl _ _)) 0).1
  have kA1 : w1.cell? ⟨AB, 1, none⟩ = some (.func (.func 69) #[.agg #[.slice ca cn cc, .slice (some ⟨wb, wo, none⟩) wl wc, .int .i64 (yg : Nat), .int .i64 (tp : Nat), .int .i64 (od : Nat), .slice da dl dc, .slice (some ⟨wb, wo, none⟩) yg pc, .int .i64 0, .int .i64 (tp : Nat), .slice (some ⟨wb, wo + yg, none⟩) ol oc, .int .i64 (yg : Nat), .int .i64 (ou : Nat), .slice ta tl tc]] #[]) := (boxG (XA.out w1 (Below.refl _ _)) 1).1
  have BP : Hid (Below w1.heap.size w1 w1) := Below.refl _ _
  go_wp2_with fail
  refine (thingsOkImpl21 ca cn cc wb wo wl wc yg tp od da dl dc pc ol oc ou ta tl tc T ws cd L _ (H.out.later (B.out _ (Below.refl _ _))) hi hl (HW.out.later (B.out _ (Below.refl _ _))) (HC.out.later (B.out _ (Below.refl _ _))) TO.out h2 h3 hdl).mono ?_
  rintro e w2 ⟨rfl, hb⟩
  have hq : Below w1.heap.size w1 w2 := BP.out.trans (Below.mono hb BP.out.size)
  replace B : Hid (∀ y, Below w2.heap.size w2 y → Below w.heap.size w y) := fun y hy => B.out y (hq.trans (hy.mono hq.size))
  replace XA : Hid (∀ y, Below w2.heap.size w2 y → y.heap[AB]? = some (.cells #[.func (.func 68) #[.agg #[.slice ca cn cc, .slice (some ⟨wb, wo, none⟩) wl wc, .int .i64 (yg : Nat), .int .i64 (tp : Nat), .int .i64 (od : Nat), .slice da dl dc, .slice (some ⟨wb, wo, none⟩) yg pc, .int .i64 0, .int .i64 (tp : Nat), .slice (some ⟨wb, wo + yg, none⟩) ol oc, .int .i64 (yg : Nat), .int .i64 (ou : Nat), .slice ta tl tc]] #[], .func (.func 69) #[.agg #[.slice ca cn cc, .slice (some ⟨wb, wo, none⟩) wl wc, .int .i64 (yg : Nat), .int .i64 (tp : Nat), .int .i64 (od : Nat), .slice da dl dc, .slice (some ⟨wb, wo, none⟩) yg pc, .int .i64 0, .int .i64 (tp : Nat), .slice (some ⟨wb, wo + yg, none⟩) ol oc, .int .i64 (yg : Nat), .int .i64 (ou : Nat), .slice ta tl tc]] #[]] t (0, 0))) := fun y hy => XA.out y (hq.trans (hy.mono hq.size))
  replace lA : AB < w2.heap.size := Nat.lt_of_lt_of_le lA hq.size
  have zw2 : w1.heap.size ≤ w2.heap.size := hq.size
  clear hq BP
  clear kA0 kA1
  clear hb
  cases h1 : (T.all (valB' (ws, (yg : Int), (tp : Int), (od : Int), cd) T) && T.all (crdB (ws, (yg : Int), (tp : Int), (od : Int), cd)))
  · have H1 : Hid (((T.all (valB' (ws, (yg : Int), (tp : Int), (od : Int), cd) T) && T.all (crdB (ws, (yg : Int), (tp : Int), (od : Int), cd)))) = false) := h1
    go_wp2_with fail
    go_ret
    exact ⟨by rw [H0.out, H1.out]; rfl, B.out _ (Below.refl _ _)⟩
  have H1 : Hid (((T.all (valB' (ws, (yg : Int), (tp : Int), (od : Int), cd) T) && T.all (crdB (ws, (yg : Int), (tp : Int), (od : Int), cd)))) = true) := h1
  clear h1
  go_wp2_with fail
  rw [rounds_succ]
  have kA0 : w2.cell? ⟨AB, 0, none⟩ = some (.func (.func 68) #[.agg #[.slice ca cn cc, .slice (some ⟨wb, wo, none⟩) wl wc, .int .i64 (yg : Nat), .int .i64 (tp : Nat), .int .i64 (od : Nat), .slice da dl dc, .slice (some ⟨wb, wo, none⟩) yg pc, .int .i64 0, .int .i64 (tp : Nat), .slice (some ⟨wb, wo + yg, none⟩) ol oc, .int .i64 (yg : Nat), .int .i64 (ou : Nat), .slice ta tl tc]] #[]) := (boxG (XA.out w2 (Below.refl _ _)) 0).1
  have kA1 : w2.cell? ⟨AB, 1, none⟩ = some (.func (.func 69) #[.agg #[.slice ca cn cc, .slice (some ⟨wb, wo, none⟩) wl wc, .int .i64 (yg : Nat), .int .i64 (tp : Nat), .int .i64 (od : Nat), .slice da dl dc, .slice (some ⟨wb, wo, none⟩) yg pc, .int .i64 0, .int .i64 (tp : Nat), .slice (some ⟨wb, wo + yg, none⟩) ol oc, .int .i64 (yg : Nat), .int .i64 (ou : Nat), .slice ta tl tc]] #[]) := (boxG (XA.out w2 (Below.refl _ _)) 1).1
  go_wp2_with fail
  go_ret
  exact ⟨by rw [H0.out, H1.out]; rfl, B.out _ (Below.refl _ _)⟩

end Go.Proofs.YtjbmcdekhhbiaaaGreat
