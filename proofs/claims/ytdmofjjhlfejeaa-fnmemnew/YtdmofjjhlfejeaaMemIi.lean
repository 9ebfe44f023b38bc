/-
  Whether a memory can be cut into its parts, by the program: what it says; it writes nothing that was there.
-/
import Derived.Test.YtdmofjjhlfejeaaMemIh
namespace Go.Proofs.Ytdmofjjhlfejeaa
open Go.ChangeShapes Go.WideShapes Go.ChangeAt Go.RowKit
set_option linter.unusedVariables false

def p1B (wl : Nat) (yg : Int) : Bool := inI yg 0 40 && inI ((wl : Int) - yg) 14 120
def p2B (wl : Nat) (yg tp od : Int) : Bool := inI tp 0 yg && inI od yg wl
def p3B (wl dl : Nat) (yg : Int) : Bool := (dl : Int) == crd ((wl : Int) - yg)
theorem bnd_parts (L : List Cl) (ws : List Int) (yg tp od : Int) (cd : List Bool) (wl dl : Nat) (h1 : ws.length = wl) (h2 : cd.length = dl) : bndB L (ws, yg, tp, od, cd) = (clsOk L && (p1B wl yg && (p2B wl yg tp od && p3B wl dl yg))) := by
  rw [bnd_if]
  simp only [h1, h2]
  unfold p1B p2B p3B
  cases clsOk L <;> cases inI yg 0 40 <;> cases inI ((wl : Int) - yg) 14 120 <;> cases inI tp 0 yg <;> cases inI od yg wl <;> rfl

set_option maxRecDepth 100000 in
set_option maxHeartbeats 4000000 in
theorem part1Impl (wa : Option Addr) (wl wc : Nat) (yg tp od : Int) (da : Option Addr) (dl dc : Nat) (MB : Nat) (w : World) (hM : w.heap[MB]? = some (.cells #[.slice wa wl wc, .int .i64 yg, .int .i64 tp, .int .i64 od, .slice da dl dc] 28 (0, 0))) (hl : wl ≤ 1048576) (hy : i64B yg) : Calls Try.prog 52 #[.pointer (some ⟨MB, 0, none⟩)] w fun e w' => e = .returned (.bool (p1B wl yg)) ∧ Below w.heap.size w w' := by
  have lM := (Array.getElem?_eq_some_iff.1 hM).1
  have m0 : w.cell? ⟨MB, 0, none⟩ = some (.slice wa wl wc) := (boxG hM 0).1
  have m1 : w.cell? ⟨MB, 1, none⟩ = some (.int .i64 yg) := (boxG hM 1).1
  have m2 : w.cell? ⟨MB, 2, none⟩ = some (.int .i64 tp) := (boxG hM 2).1
  have m3 : w.cell? ⟨MB, 3, none⟩ = some (.int .i64 od) := (boxG hM 3).1
  have m4 : w.cell? ⟨MB, 4, none⟩ = some (.slice da dl dc) := (boxG hM 4).1
  obtain ⟨y0, y1⟩ := hy
  have HP : Hid ((inI yg 0 40 && inI (wrap64 ((wl : Int) - yg)) 14 120) = p1B wl yg) := by
    show _ = _
    unfold p1B
    cases hq : inI yg 0 40
    · rfl
    · have := inI_iff.1 hq
      rw [IntWalk.wrap64_in _ (by omega)]
  clear hM
  go_enter Try.func52, Try.ntmps52
  go_wp2_with fail
  refine (areSizesImpl _ _ _).mono ?_
  rintro e w1 ⟨rfl, rfl⟩
  rw [HP.out]
  go_wp2_with fail
  go_ret
  exact ⟨rfl, Below.refl _ _⟩

set_option maxRecDepth 100000 in
set_option maxHeartbeats 4000000 in
theorem part2Impl (wa : Option Addr) (wl wc : Nat) (yg tp od : Int) (da : Option Addr) (dl dc : Nat) (MB : Nat) (w : World) (hM : w.heap[MB]? = some (.cells #[.slice wa wl wc, .int .i64 yg, .int .i64 tp, .int .i64 od, .slice da dl dc] 28 (0, 0))) : Calls Try.prog 53 #[.pointer (some ⟨MB, 0, none⟩)] w fun e w' => e = .returned (.bool (p2B wl yg tp od)) ∧ Below w.heap.size w w' := by
  have lM := (Array.getElem?_eq_some_iff.1 hM).1
  have m0 : w.cell? ⟨MB, 0, none⟩ = some (.slice wa wl wc) := (boxG hM 0).1
  have m1 : w.cell? ⟨MB, 1, none⟩ = some (.int .i64 yg) := (boxG hM 1).1
  have m2 : w.cell? ⟨MB, 2, none⟩ = some (.int .i64 tp) := (boxG hM 2).1
  have m3 : w.cell? ⟨MB, 3, none⟩ = some (.int .i64 od) := (boxG hM 3).1
  have m4 : w.cell? ⟨MB, 4, none⟩ = some (.slice da dl dc) := (boxG hM 4).1
  have HP : Hid (p2B wl yg tp od = (inI tp 0 yg && inI od yg wl)) := rfl
  clear hM
  go_enter Try.func53, Try.ntmps53
  go_wp2_with fail
  refine (isAmongImpl _ _ _ _).mono ?_
  rintro e w1 ⟨rfl, rfl⟩
  cases q1 : inI tp 0 yg
  · go_wp2_with fail
    go_ret
    exact ⟨by rw [HP.out, q1]; rfl, Below.refl _ _⟩
  · go_wp2_with fail
    refine (isAmongImpl _ _ _ _).mono ?_
    rintro e w1 ⟨rfl, rfl⟩
    go_wp2_with fail
    go_ret
    exact ⟨by rw [HP.out, q1]; rfl, Below.refl _ _⟩

set_option maxRecDepth 100000 in
set_option maxHeartbeats 4000000 in
theorem part3Impl (wa : Option Addr) (wl wc : Nat) (yg tp od : Int) (da : Option Addr) (dl dc : Nat) (MB : Nat) (w : World) (hM : w.heap[MB]? = some (.cells #[.slice wa wl wc, .int .i64 yg, .int .i64 tp, .int .i64 od, .slice da dl dc] 28 (0, 0))) (hl : wl ≤ 1048576) (hd : dl ≤ 1048576) (hp : p1B wl yg = true) : Calls Try.prog 54 #[.pointer (some ⟨MB, 0, none⟩)] w fun e w' => e = .returned (.bool (p3B wl dl yg)) ∧ Below w.heap.size w w' := by
  have lM := (Array.getElem?_eq_some_iff.1 hM).1
  have m0 : w.cell? ⟨MB, 0, none⟩ = some (.slice wa wl wc) := (boxG hM 0).1
  have m1 : w.cell? ⟨MB, 1, none⟩ = some (.int .i64 yg) := (boxG hM 1).1
  have m2 : w.cell? ⟨MB, 2, none⟩ = some (.int .i64 tp) := (boxG hM 2).1
  have m3 : w.cell? ⟨MB, 3, none⟩ = some (.int .i64 od) := (boxG hM 3).1
  have m4 : w.cell? ⟨MB, 4, none⟩ = some (.slice da dl dc) := (boxG hM 4).1
  have HP : Hid (p3B wl dl yg = ((dl : Int) == crd ((wl : Int) - yg))) := rfl
  have q1 : 0 ≤ yg ∧ yg ≤ 40 := by unfold p1B at hp; rw [Bool.and_eq_true, inI_iff] at hp; exact hp.1
  have hw1 : IntKind.i64.wrap ((wl : Int) - yg) = (wl : Int) - yg := by rw [IntKind.wrap_i64] <;> omega
  have XMM : Hid (∀ y, Below w.heap.size w y → y.heap[MB]? = some (.cells #[.slice wa wl wc, .int .i64 yg, .int .i64 tp, .int .i64 od, .slice da dl dc] 28 (0, 0))) := fun y hy => (hy.block _ lM).trans hM
  clear hM hp
  have hz : w.heap.size ≤ w.heap.size := Nat.le_refl _
  have B : Hid (∀ y, Below (w.heap.size) w y → Below w.heap.size w y) := fun y hy => (Below.refl _ _).trans (hy.mono (by omega))
  have XM : Hid (∀ y, Below (w.heap.size) w y → y.heap[MB]? = some (.cells #[.slice wa wl wc, .int .i64 yg, .int .i64 tp, .int .i64 od, .slice da dl dc] 28 (0, 0))) := fun y hy => XMM.out y hy
  clear XMM
  go_enter Try.func54, Try.ntmps54
  go_wp2_with fail
  have KS : Hid (∀ x, Below (w.heap.size) w x → x.cell? ⟨MB, 0, none⟩ = some (.slice wa wl wc) ∧ x.cell? ⟨MB, 1, none⟩ = some (.int .i64 yg) ∧ x.cell? ⟨MB, 2, none⟩ = some (.int .i64 tp) ∧ x.cell? ⟨MB, 3, none⟩ = some (.int .i64 od) ∧ x.cell? ⟨MB, 4, none⟩ = some (.slice da dl dc)) := fun x hx => ⟨(boxG (XM.out x hx) 0).1, (boxG (XM.out x hx) 1).1, (boxG (XM.out x hx) 2).1, (boxG (XM.out x hx) 3).1, (boxG (XM.out x hx) 4).1⟩
  refine wp_region_held_drew (S := fun x => x.cell? ⟨MB, 0, none⟩ = some (.slice wa wl wc) ∧ x.cell? ⟨MB, 1, none⟩ = some (.int .i64 yg) ∧ x.cell? ⟨MB, 2, none⟩ = some (.int .i64 tp) ∧ x.cell? ⟨MB, 3, none⟩ = some (.int .i64 od) ∧ x.cell? ⟨MB, 4, none⟩ = some (.slice da dl dc)) (by kernel_rfl) ?_ (fun hHeld => ?_)
  · exact KS.out _ (bdrew (Below.refl _ _))
  refine wpAnyH_take (i := 0) (v := ?_) rfl (by kernel_rfl) (by kernel_rfl) (by kernel_rfl) (fun _ _ _ h => h) (Or.inl ⟨by kernel_rfl, ?_⟩) (by assumption) ?_
  rotate_left 1
  · intro x hSx
    (try dsimp only at hSx)
    go_simp
    try with_reducible rfl
  try simp only [Act.put, List.getElem_toArray, List.getElem_cons_zero, List.setIfInBounds_toArray, List.set_cons_zero, List.set_cons_succ]
  refine wpAnyH_take (i := 1) (v := ?_) rfl (by kernel_rfl) (by kernel_rfl) (by kernel_rfl) (fun _ _ _ h => h) (Or.inl ⟨by kernel_rfl, ?_⟩) (by assumption) ?_
  rotate_left 1
  · intro x hSx
    (try dsimp only at hSx)
    go_simp
    try with_reducible rfl
  try simp only [Act.put, List.getElem_toArray, List.getElem_cons_zero, List.getElem_cons_succ, List.setIfInBounds_toArray, List.set_cons_zero, List.set_cons_succ]
  refine wpAnyH_take (i := 2) (v := ?_) rfl (by kernel_rfl) (by kernel_rfl) (by kernel_rfl) (fun _ _ _ h => h) (Or.inl ⟨by kernel_rfl, ?_⟩) (by assumption) ?_
  rotate_left 1
  · intro x hSx
    (try dsimp only at hSx)
    go_simp
    try with_reducible rfl
  try simp only [Act.put, List.getElem_toArray, List.getElem_cons_zero, List.getElem_cons_succ, List.setIfInBounds_toArray, List.set_cons_zero, List.set_cons_succ]
  refine wpAnyH_take (i := 3) (v := ?_) rfl (by kernel_rfl) (by kernel_rfl) (by kernel_rfl) (fun _ _ _ h => h) (Or.inl ⟨by kernel_rfl, ?_⟩) (by assumption) ?_
  rotate_left 1
  · intro x hSx
    (try dsimp only at hSx)
    go_simp
    try with_reducible rfl
  try simp only [Act.put, List.getElem_toArray, List.getElem_cons_zero, List.getElem_cons_succ, List.setIfInBounds_toArray, List.set_cons_zero, List.set_cons_succ]
  refine wpAnyH_take (i := 4) (v := ?_) rfl (by kernel_rfl) (by kernel_rfl) (by kernel_rfl) (fun _ _ _ h => h) (Or.inl ⟨by kernel_rfl, ?_⟩) (by assumption) ?_
  rotate_left 1
  · intro x hSx
    (try dsimp only at hSx)
    go_simp
    try with_reducible rfl
  try simp only [Act.put, List.getElem_toArray, List.getElem_cons_zero, List.getElem_cons_succ, List.setIfInBounds_toArray, List.set_cons_zero, List.set_cons_succ]
  refine wpAnyH_take (i := 5) (v := ?_) rfl (by kernel_rfl) (by kernel_rfl) (by kernel_rfl) (fun _ _ _ h => h) (Or.inl ⟨by kernel_rfl, ?_⟩) (by assumption) ?_
  rotate_left 1
  · intro x hSx
    (try dsimp only at hSx)
    go_simp
    try with_reducible rfl
  try simp only [Act.put, List.getElem_toArray, List.getElem_cons_zero, List.getElem_cons_succ, List.setIfInBounds_toArray, List.set_cons_zero, List.set_cons_succ]
  refine wpAnyH_take (i := 6) (v := ?_) rfl (by kernel_rfl) (by kernel_rfl) (by kernel_rfl) (fun _ _ _ h => h) (Or.inl ⟨by kernel_rfl, ?_⟩) (by assumption) ?_
  rotate_left 1
  · intro x hSx
    (try dsimp only at hSx)
    go_simp
    try with_reducible rfl
  try simp only [Act.put, List.getElem_toArray, List.getElem_cons_zero, List.getElem_cons_succ, List.setIfInBounds_toArray, List.set_cons_zero, List.set_cons_succ]
  refine wpAnyH_take (i := 7) (v := ?_) rfl (by kernel_rfl) (by kernel_rfl) (by kernel_rfl) (fun _ _ _ h => h) (Or.inl ⟨by kernel_rfl, ?_⟩) (by assumption) ?_
  rotate_left 1
  · intro x hSx
    (try dsimp only at hSx)
    go_simp
    try with_reducible rfl
  try simp only [Act.put, List.getElem_toArray, List.getElem_cons_zero, List.getElem_cons_succ, List.setIfInBounds_toArray, List.set_cons_zero, List.set_cons_succ]
  refine wpAnyH_take (i := 8) (v := ?_) rfl (by kernel_rfl) (by kernel_rfl) (by kernel_rfl) (fun _ _ _ h => h) (Or.inl ⟨by kernel_rfl, ?_⟩) (by assumption) ?_
  rotate_left 1
  · intro x hSx
    (try dsimp only at hSx)
    go_simp
    try with_reducible rfl
  try simp only [Act.put, List.getElem_toArray, List.getElem_cons_zero, List.getElem_cons_succ, List.setIfInBounds_toArray, List.set_cons_zero, List.set_cons_succ]
  refine wpAnyH_ready (rs := [9]) (by kernel_rfl) (by simp) ?_
  refine AllReadyH.cons rfl (fun K hK => ?_) AllReadyH.nil
  go_simp
  go_at_call 21
  refine (cardCountImpl _ (by omega) (by omega) _).mono ?_
  rintro e wz ⟨rfl, rfl⟩
  go_wp2_with fail
  refine hK.out _ _ (KS.out _ (bdrew (Below.refl _ _))) (fun hHeld2 => ?_)
  clear hK K
  try simp only [Act.put, List.getElem_toArray, List.getElem_cons_zero, List.getElem_cons_succ, List.setIfInBounds_toArray, List.set_cons_zero, List.set_cons_succ]
  refine wpAnyH_take (i := 10) (v := ?_) rfl (by kernel_rfl) (by kernel_rfl) (by kernel_rfl) (fun _ _ _ h => h) (Or.inl ⟨by kernel_rfl, ?_⟩) (by assumption) ?_
  rotate_left 1
  · intro x hSx
    (try dsimp only at hSx)
    go_simp
    try with_reducible rfl
  try simp only [Act.put, List.getElem_toArray, List.getElem_cons_zero, List.getElem_cons_succ, List.setIfInBounds_toArray, List.set_cons_zero, List.set_cons_succ]
  refine wpAnyH_take (i := 11) (v := ?_) rfl (by kernel_rfl) (by kernel_rfl) (by kernel_rfl) (fun _ _ _ h => h) (Or.inl ⟨by kernel_rfl, ?_⟩) (by assumption) ?_
  rotate_left 1
  · intro x hSx
    (try dsimp only at hSx)
    go_simp
    try with_reducible rfl
  try simp only [Act.put, List.getElem_toArray, List.getElem_cons_zero, List.getElem_cons_succ, List.setIfInBounds_toArray, List.set_cons_zero, List.set_cons_succ]
  refine wpAnyH_done (by kernel_rfl) ?_ _
  clear hHeld hHeld2
  clear KS
  go_wp2_with fail
  go_ret
  exact ⟨by rw [HP.out]; rfl, by first | exact bdrew (Below.refl _ _) | exact Below.refl _ _⟩

set_option maxRecDepth 100000 in
set_option maxHeartbeats 4000000 in
theorem allParts (wa : Option Addr) (wl wc : Nat) (yg tp od : Int) (da : Option Addr) (dl dc : Nat) (AB MB : Nat) (t : TypeId) (w : World) (hM : w.heap[MB]? = some (.cells #[.slice wa wl wc, .int .i64 yg, .int .i64 tp, .int .i64 od, .slice da dl dc] 28 (0, 0))) (hA : w.heap[AB]? = some (.cells #[.func (.func 52) #[] #[.pointer (some ⟨MB, 0, none⟩)], .func (.func 53) #[] #[.pointer (some ⟨MB, 0, none⟩)], .func (.func 54) #[] #[.pointer (some ⟨MB, 0, none⟩)]] t (0, 0))) (hl : wl ≤ 1048576) (hd : dl ≤ 1048576) (hy : i64B yg) :
    Calls Try.prog 38 #[.slice (some ⟨AB, 0, none⟩) 3 3] w fun e w' => e = .returned (.bool (p1B wl yg && (p2B wl yg tp od && p3B wl dl yg))) ∧ Below w.heap.size w w' := by
  have B : Hid (∀ y, Below w.heap.size w y → Below w.heap.size w y) := fun _ h => h
  have lA : AB < w.heap.size := (Array.getElem?_eq_some_iff.1 hA).1
  have XA : Hid (∀ y, Below w.heap.size w y → y.heap[AB]? = some (.cells #[.func (.func 52) #[] #[.pointer (some ⟨MB, 0, none⟩)], .func (.func 53) #[] #[.pointer (some ⟨MB, 0, none⟩)], .func (.func 54) #[] #[.pointer (some ⟨MB, 0, none⟩)]] t (0, 0))) := fun y hy => (hy.block _ lA).trans hA
  have lM : MB < w.heap.size := (Array.getElem?_eq_some_iff.1 hM).1
  have XM : Hid (∀ y, Below w.heap.size w y → y.heap[MB]? = some (.cells #[.slice wa wl wc, .int .i64 yg, .int .i64 tp, .int .i64 od, .slice da dl dc] 28 (0, 0))) := fun y hy => (hy.block _ lM).trans hM
  clear hA hM
  go_enter Try.func38, Try.ntmps38
  go_wp2_with fail
  refine wp_loop_rounds 4 ?_
  rw [rounds_succ]
  have kA0 : w.cell? ⟨AB, 0, none⟩ = some (.func (.func 52) #[] #[.pointer (some ⟨MB, 0, none⟩)]) := (boxG (XA.out w (Below.refl _ _)) 0).1
  have kA1 : w.cell? ⟨AB, 1, none⟩ = some (.func (.func 53) #[] #[.pointer (some ⟨MB, 0, none⟩)]) := (boxG (XA.out w (Below.refl _ _)) 1).1
  have kA2 : w.cell? ⟨AB, 2, none⟩ = some (.func (.func 54) #[] #[.pointer (some ⟨MB, 0, none⟩)]) := (boxG (XA.out w (Below.refl _ _)) 2).1
  have BP : Hid (Below w.heap.size w w) := Below.refl _ _
  go_wp2_with fail
  refine (part1Impl _ _ _ _ _ _ _ _ _  MB _ (XM.out _ (Below.refl _ _)) hl hy).mono ?_
  rintro e w1 ⟨rfl, hb⟩
  have hq : Below w.heap.size w w1 := BP.out.trans (Below.mono hb BP.out.size)
  replace B : Hid (∀ y, Below w1.heap.size w1 y → Below w.heap.size w y) := fun y hy => B.out y (hq.trans (hy.mono hq.size))
  replace XA : Hid (∀ y, Below w1.heap.size w1 y → y.heap[AB]? = some (.cells #[.func (.func 52) #[] #[.pointer (some ⟨MB, 0, none⟩)], .func (.func 53) #[] #[.pointer (some ⟨MB, 0, none⟩)], .func (.func 54) #[] #[.pointer (some ⟨MB, 0, none⟩)]] t (0, 0))) := fun y hy => XA.out y (hq.trans (hy.mono hq.size))
  replace lA : AB < w1.heap.size := Nat.lt_of_lt_of_le lA hq.size
  replace XM : Hid (∀ y, Below w1.heap.size w1 y → y.heap[MB]? = some (.cells #[.slice wa wl wc, .int .i64 yg, .int .i64 tp, .int .i64 od, .slice da dl dc] 28 (0, 0))) := fun y hy => XM.out y (hq.trans (hy.mono hq.size))
  replace lM : MB < w1.heap.size := Nat.lt_of_lt_of_le lM hq.size
  have zw1 : w.heap.size ≤ w1.heap.size := hq.size
  clear hq BP
  clear kA0 kA1 kA2
  clear hb
  cases h0 : p1B wl yg
  · have H0 : Hid ((p1B wl yg) = false) := h0
    go_wp2_with fail
    go_ret
    exact ⟨by rw [H0.out]; rfl, B.out _ (Below.refl _ _)⟩
  have H0 : Hid ((p1B wl yg) = true) := h0
  clear h0
  go_wp2_with fail
  rw [rounds_succ]
  have kA0 : w1.cell? ⟨AB, 0, none⟩ = some (.func (.func 52) #[] #[.pointer (some ⟨MB, 0, none⟩)]) := (boxG (XA.out w1 (Below.refl _ _)) 0).1
  have kA1 : w1.cell? ⟨AB, 1, none⟩ = some (.func (.func 53) #[] #[.pointer (some ⟨MB, 0, none⟩)]) := (boxG (XA.out w1 (Below.refl _ _)) 1).1
  have kA2 : w1.cell? ⟨AB, 2, none⟩ = some (.func (.func 54) #[] #[.pointer (some ⟨MB, 0, none⟩)]) := (boxG (XA.out w1 (Below.refl _ _)) 2).1
  have BP : Hid (Below w1.heap.size w1 w1) := Below.refl _ _
  go_wp2_with fail
  refine (part2Impl _ _ _ _ _ _ _ _ _  MB _ (XM.out _ (Below.refl _ _))).mono ?_
  rintro e w2 ⟨rfl, hb⟩
  have hq : Below w1.heap.size w1 w2 := BP.out.trans (Below.mono hb BP.out.size)
  replace B : Hid (∀ y, Below w2.heap.size w2 y → Below w.heap.size w y) := fun y hy => B.out y (hq.trans (hy.mono hq.size))
  replace XA : Hid (∀ y, Below w2.heap.size w2 y → y.heap[AB]? = some (.cells #[.func (.func 52) #[] #[.pointer (some ⟨MB, 0, none⟩)], .func (.func 53) #[] #[.pointer (some ⟨MB, 0, none⟩)], .func (.func 54) #[] #[.pointer (some ⟨MB, 0, none⟩)]] t (0, 0))) := fun y hy => XA.out y (hq.trans (hy.mono hq.size))
  replace lA : AB < w2.heap.size := Nat.lt_of_lt_of_le lA hq.size
  replace XM : Hid (∀ y, Below w2.heap.size w2 y → y.heap[MB]? = some (.cells #[.slice wa wl wc, .int .i64 yg, .int .i64 tp, .int .i64 od, .slice da dl dc] 28 (0, 0))) := fun y hy => XM.out y (hq.trans (hy.mono hq.size))
  replace lM : MB < w2.heap.size := Nat.lt_of_lt_of_le lM hq.size
  have zw2 : w1.heap.size ≤ w2.heap.size := hq.size
  clear hq BP
  clear kA0 kA1 kA2
  clear hb
  cases h1 : p2B wl yg tp od
  · have H1 : Hid ((p2B wl yg tp od) = false) := h1
    go_wp2_with fail
    go_ret
    exact ⟨by rw [H0.out, H1.out]; rfl, B.out _ (Below.refl _ _)⟩
  have H1 : Hid ((p2B wl yg tp od) = true) := h1
  clear h1
  go_wp2_with fail
  rw [rounds_succ]
  have kA0 : w2.cell? ⟨AB, 0, none⟩ = some (.func (.func 52) #[] #[.pointer (some ⟨MB, 0, none⟩)]) := (boxG (XA.out w2 (Below.refl _ _)) 0).1
  have kA1 : w2.cell? ⟨AB, 1, none⟩ = some (.func (.func 53) #[] #[.pointer (some ⟨MB, 0, none⟩)]) := (boxG (XA.out w2 (Below.refl _ _)) 1).1
  have kA2 : w2.cell? ⟨AB, 2, none⟩ = some (.func (.func 54) #[] #[.pointer (some ⟨MB, 0, none⟩)]) := (boxG (XA.out w2 (Below.refl _ _)) 2).1
  have BP : Hid (Below w2.heap.size w2 w2) := Below.refl _ _
  go_wp2_with fail
  refine (part3Impl _ _ _ _ _ _ _ _ _  MB _ (XM.out _ (Below.refl _ _)) hl hd H0.out).mono ?_
  rintro e w3 ⟨rfl, hb⟩
  have hq : Below w2.heap.size w2 w3 := BP.out.trans (Below.mono hb BP.out.size)
  replace B : Hid (∀ y, Below w3.heap.size w3 y → Below w.heap.size w y) := fun y hy => B.out y (hq.trans (hy.mono hq.size))
  replace XA : Hid (∀ y, Below w3.heap.size w3 y → y.heap[AB]? = some (.cells #[.func (.func 52) #[] #[.pointer (some ⟨MB, 0, none⟩)], .func (.func 53) #[] #[.pointer (some ⟨MB, 0, none⟩)], .func (.func 54) #[] #[.pointer (some ⟨MB, 0, none⟩)]] t (0, 0))) := fun y hy => XA.out y (hq.trans (hy.mono hq.size))
  replace lA : AB < w3.heap.size := Nat.lt_of_lt_of_le lA hq.size
  replace XM : Hid (∀ y, Below w3.heap.size w3 y → y.heap[MB]? = some (.cells #[.slice wa wl wc, .int .i64 yg, .int .i64 tp, .int .i64 od, .slice da dl dc] 28 (0, 0))) := fun y hy => XM.out y (hq.trans (hy.mono hq.size))
  replace lM : MB < w3.heap.size := Nat.lt_of_lt_of_le lM hq.size
  have zw3 : w2.heap.size ≤ w3.heap.size := hq.size
  clear hq BP
  clear kA0 kA1 kA2
  clear hb
  cases h2 : p3B wl dl yg
  · have H2 : Hid ((p3B wl dl yg) = false) := h2
    go_wp2_with fail
    go_ret
    exact ⟨by rw [H0.out, H1.out, H2.out]; rfl, B.out _ (Below.refl _ _)⟩
  have H2 : Hid ((p3B wl dl yg) = true) := h2
  clear h2
  go_wp2_with fail
  rw [rounds_succ]
  have kA0 : w3.cell? ⟨AB, 0, none⟩ = some (.func (.func 52) #[] #[.pointer (some ⟨MB, 0, none⟩)]) := (boxG (XA.out w3 (Below.refl _ _)) 0).1
  have kA1 : w3.cell? ⟨AB, 1, none⟩ = some (.func (.func 53) #[] #[.pointer (some ⟨MB, 0, none⟩)]) := (boxG (XA.out w3 (Below.refl _ _)) 1).1
  have kA2 : w3.cell? ⟨AB, 2, none⟩ = some (.func (.func 54) #[] #[.pointer (some ⟨MB, 0, none⟩)]) := (boxG (XA.out w3 (Below.refl _ _)) 2).1
  go_wp2_with fail
  go_ret
  exact ⟨by rw [H0.out, H1.out, H2.out]; rfl, B.out _ (Below.refl _ _)⟩
set_option maxRecDepth 100000 in
set_option maxHeartbeats 4000000 in
theorem partsImpl (wa : Option Addr) (wl wc : Nat) (yg tp od : Int) (da : Option Addr) (dl dc : Nat) (w : World) (hl : wl ≤ 1048576) (hd : dl ≤ 1048576) (hy : i64B yg) :
    Calls Try.prog 36 #[.agg #[.slice wa wl wc, .int .i64 yg, .int .i64 tp, .int .i64 od, .slice da dl dc]] w fun e w' => e = .returned (.bool (p1B wl yg && (p2B wl yg tp od && p3B wl dl yg))) ∧ Below w.heap.size w w' := by
  have BX : Hid (∀ o : Obj, Below w.heap.size w ((w.alloc (.cells #[.slice wa wl wc, .int .i64 yg, .int .i64 tp, .int .i64 od, .slice da dl dc] 28)).alloc o)) := fun o => ((Below.refl _ _).alloc (Nat.le_refl _) _).alloc (by simp) _
  have hmf : ∀ (fn : Fn) (first cap : Array Value) (w : World), (Instr.makeFunc fn first cap).run Try.prog w = .ok (.func fn first cap) w := fun _ _ _ _ => rfl
  go_enter Try.func36, Try.ntmps36
  go_wp2_with fail
  refine (allParts _ _ _ _ _ _ _ _ _ (w.heap.size + 1) w.heap.size _ _ ((Below.heap_alloc _ _ _ (by simp)).trans (boxN _ _ _ _ rfl)) (boxN _ _ _ _ (by simp)) hl hd hy).mono ?_
  rintro e w1 ⟨rfl, hb⟩
  have B1 : Hid (Below w.heap.size w w1) := (BX.out _).trans (hb.mono (by simp; omega))
  clear hb
  go_wp2_with fail
  go_ret
  exact ⟨rfl, B1.out⟩

end Go.Proofs.Ytdmofjjhlfejeaa
