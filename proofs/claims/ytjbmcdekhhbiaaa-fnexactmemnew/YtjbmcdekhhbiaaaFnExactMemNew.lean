/-
  At every two sizes MemNew of the program answers as MemNew of the specification, in memory of its own, and the law FnExactMemNew returns true; no condition.
-/
import Derived.Test.YtjbmcdekhhbiaaaMemIp
import Derived.Test.YtjbmcdekhhbiaaaMrkM
import Derived.Test.YtjbmcdekhhbiaaaDtMem
import Derived.Test.YtjbmcdekhhbiaaaRdCls
namespace Go.Proofs.Ytjbmcdekhhbiaaa.fnExactMemNew
open Go.ChangeShapes Go.WideShapes Go.ChangeAt Go.RowKit
set_option linter.unusedVariables false

/-- What is answered, whether the sizes are ok or not. -/
def NewAll (yg od : Int) (n m : Nat) (x1 : Int) : Prop := ∀ (w : World) (e : Ending) (w' : World), NewMP w yg od e w' → ∃ (a b : Option Addr), e = .returned (.agg #[.slice a n n, .int .i64 x1, .int .i64 0, .int .i64 x1, .slice b m m]) ∧ Wri w' a n (fun _ => 0) ∧ WriB w' b m (fun _ => false) ∧ (∀ x, a = some x → 0 < n → w.heap.size ≤ x.block) ∧ (∀ x, b = some x → 0 < m → w.heap.size ≤ x.block) ∧ (∀ x y, a = some x → b = some y → 0 < n → 0 < m → x.block ≠ y.block) ∧ Below w.heap.size w w'
theorem newWhat (yg od : Int) : ∃ (n m : Nat) (x1 : Int), n ≤ 160 ∧ m ≤ 40 ∧ NewAll yg od n m x1 := by
  cases hq : newOk yg od
  · refine ⟨0, 0, 0, by omega, by omega, fun w e w' h => ⟨none, none, h.1 hq, ⟨.inl rfl⟩, ⟨.inl rfl⟩, (fun x e => by cases e), (fun x e => by cases e), (fun x y e => by cases e), h.2.2⟩⟩
  · have h0 := hq
    unfold newOk at hq
    rw [Bool.and_eq_true] at hq
    have h1 := inI_iff.1 hq.1
    have h2 := inI_iff.1 hq.2
    obtain ⟨yn, rfl⟩ : ∃ k : Nat, yg = k := ⟨yg.toNat, by omega⟩
    obtain ⟨on, rfl⟩ : ∃ k : Nat, od = k := ⟨od.toNat, by omega⟩
    refine ⟨yn + on, crdN on, yn, by omega, by unfold crdN; omega, fun w e w' h => ?_⟩
    obtain ⟨A, C, yn', on', e1, e2, hne, hA, hC, rfl, rA, rC⟩ := h.2.1 h0
    obtain rfl : yn = yn' := by omega
    obtain rfl : on = on' := by omega
    refine ⟨_, _, rfl, ⟨.inr ⟨A, 0, rfl, fun j hj => ?_⟩⟩, ⟨.inr ⟨C, 0, rfl, fun j hj => ?_⟩⟩, (fun x e _ => by obtain rfl := Option.some.inj e; exact hA), (fun x e _ => by obtain rfl := Option.some.inj e; exact hC), (fun x y e e2 _ _ => by obtain rfl := Option.some.inj e; obtain rfl := Option.some.inj e2; exact hne), h.2.2⟩
    · simpa using rA j hj
    · simpa using rC j hj
theorem zero_sl {w : World} {a : Option Addr} {n : Nat} (h : Wri w a n (fun _ => 0)) (hn : n ≤ 160) : SlAt intR (fun _ => True) w a n (List.replicate n 0) := by
  have e : ∀ j : Nat, (List.replicate n (0 : Int)).getD j 0 = 0 := fun j => by
    rw [List.getD_eq_getElem?_getD, List.getElem?_replicate]; split <;> rfl
  refine Wri.sl (xs := List.replicate n 0) ?_ (by simp) (by omega) (fun j => by rw [e]; exact ⟨by omega, by omega⟩)
  have : (fun j : Nat => (List.replicate n (0 : Int)).getD j 0) = fun _ => 0 := funext e
  rw [this]; exact h
theorem zero_slB {w : World} {a : Option Addr} {n : Nat} (h : WriB w a n (fun _ => false)) (hn : n ≤ 40) : SlAt boolR (fun _ => True) w a n (List.replicate n false) := by
  have e : ∀ j : Nat, (List.replicate n false).getD j false = false := fun j => by
    rw [List.getD_eq_getElem?_getD, List.getElem?_replicate]; split <;> rfl
  refine WriB.sl (xs := List.replicate n false) ?_ (by simp) (by omega)
  have : (fun j : Nat => (List.replicate n false).getD j false) = fun _ => false := funext e
  rw [this]; exact h
set_option maxRecDepth 100000 in
set_option maxHeartbeats 16000000 in
theorem walk (yg od : Int) (w : World) (hyg : i64B yg) (hod : i64B od) :
    Calls Try.prog 3 #[.int .i64 yg, .int .i64 od] w fun e w' => e = .returned (.bool true) ∧ Below w.heap.size w w' := by
  have B0 : Hid (Below w.heap.size w w) := Below.refl _ _
  obtain ⟨n, m, x1, hn, hm, NS⟩ := newWhat yg od
  have NSH : Hid (NewAll yg od n m x1) := NS
  clear NS
  have hz : w.heap.size ≤ w.heap.size := Nat.le_refl _
  have B : Hid (∀ y, Below w.heap.size w y → Below w.heap.size w y) := fun _ h => h
  go_enter Try.func3, Try.ntmps3
  go_wp2_with fail
  have BP : Hid (Below w.heap.size w w) := Below.refl _ _
  refine (newSpec21 yg od _).mono ?_
  rintro e w1 hP
  obtain ⟨a1, b1, rfl, hA, hC, hla, hlb, hab, hb⟩ := NSH.out _ _ _ hP
  have hq : Below w.heap.size w w1 := BP.out.trans (Below.mono hb BP.out.size)
  replace B : Hid (∀ y, Below w1.heap.size w1 y → Below w.heap.size w y) := fun y hy => B.out y (hq.trans (hy.mono hq.size))
  have zw1 : w.heap.size ≤ w1.heap.size := hq.size
  clear hq BP
  have A1 : Hid (∀ y, Below w1.heap.size w1 y → Wri y a1 n (fun _ => 0)) := fun y hy => hA.later hy
  have C1 : Hid (∀ y, Below w1.heap.size w1 y → WriB y b1 m (fun _ => false)) := fun y hy => hC.later hy
  have LA1 : Hid (∀ x, a1 = some x → 0 < n → _ ≤ x.block ∧ x.block < w1.heap.size) := fun x e h0 => ⟨hla x e h0, hA.lt x e h0⟩
  have LB1 : Hid (∀ x, b1 = some x → 0 < m → _ ≤ x.block ∧ x.block < w1.heap.size) := fun x e h0 => ⟨hlb x e h0, hC.lt x e h0⟩
  have AB1 : Hid (∀ x y, a1 = some x → b1 = some y → 0 < n → 0 < m → x.block ≠ y.block) := hab
  clear hb hA hC hla hlb hab hP
  have BP : Hid (Below w1.heap.size w1 (w1.alloc (.cells #[.slice a1 n n, .int .i64 x1, .int .i64 0, .int .i64 x1, .slice b1 m m] 25))) := (Below.refl _ _).alloc (Nat.le_refl _) _
  go_wp2_with fail
  refine (newImpl21 yg od _).mono ?_
  rintro e w2 hP
  obtain ⟨a2, b2, rfl, hA, hC, hla, hlb, hab, hb⟩ := NSH.out _ _ _ hP
  have hq : Below w1.heap.size w1 w2 := BP.out.trans (Below.mono hb BP.out.size)
  replace B : Hid (∀ y, Below w2.heap.size w2 y → Below w.heap.size w y) := fun y hy => B.out y (hq.trans (hy.mono hq.size))
  replace A1 : Hid (∀ y, Below w2.heap.size w2 y → Wri y a1 n (fun _ => 0)) := fun y hy => A1.out y (hq.trans (hy.mono hq.size))
  replace C1 : Hid (∀ y, Below w2.heap.size w2 y → WriB y b1 m (fun _ => false)) := fun y hy => C1.out y (hq.trans (hy.mono hq.size))
  have lS : w1.heap.size < w2.heap.size := Nat.lt_of_lt_of_le (by simp) (Below.size hb)
  have XS : Hid (∀ y, Below w2.heap.size w2 y → y.heap[w1.heap.size]? = some (.cells #[.slice a1 n n, .int .i64 x1, .int .i64 0, .int .i64 x1, .slice b1 m m] 25 (0, 0))) := fun y hy => (hy.block _ lS).trans ((Below.block hb _ (by simp)).trans (boxN _ _ _ _ rfl))
  have zw2 : w1.heap.size + 1 ≤ w2.heap.size := Nat.le_trans (Nat.le_of_eq (by simp)) (Below.size hb)
  clear hq BP
  have A2 : Hid (∀ y, Below w2.heap.size w2 y → Wri y a2 n (fun _ => 0)) := fun y hy => hA.later hy
  have C2 : Hid (∀ y, Below w2.heap.size w2 y → WriB y b2 m (fun _ => false)) := fun y hy => hC.later hy
  have LA2 : Hid (∀ x, a2 = some x → 0 < n → w1.heap.size + 1 ≤ x.block ∧ x.block < w2.heap.size) := fun x e h0 => ⟨by simpa using hla x e h0, hA.lt x e h0⟩
  have LB2 : Hid (∀ x, b2 = some x → 0 < m → w1.heap.size + 1 ≤ x.block ∧ x.block < w2.heap.size) := fun x e h0 => ⟨by simpa using hlb x e h0, hC.lt x e h0⟩
  have AB2 : Hid (∀ x y, a2 = some x → b2 = some y → 0 < n → 0 < m → x.block ≠ y.block) := hab
  clear hb hA hC hla hlb hab hP
  have kS0 : w2.cell? ⟨w1.heap.size, 0, none⟩ = some (.slice a1 n n) := (boxG (XS.out w2 (Below.refl _ _)) 0).1
  have kS1 : w2.cell? ⟨w1.heap.size, 1, none⟩ = some (.int .i64 x1) := (boxG (XS.out w2 (Below.refl _ _)) 1).1
  have kS2 : w2.cell? ⟨w1.heap.size, 2, none⟩ = some (.int .i64 0) := (boxG (XS.out w2 (Below.refl _ _)) 2).1
  have kS3 : w2.cell? ⟨w1.heap.size, 3, none⟩ = some (.int .i64 x1) := (boxG (XS.out w2 (Below.refl _ _)) 3).1
  have kS4 : w2.cell? ⟨w1.heap.size, 4, none⟩ = some (.slice b1 m m) := (boxG (XS.out w2 (Below.refl _ _)) 4).1
  have BP : Hid (Below w2.heap.size w2 (w2.alloc (.cells #[.slice a2 n n, .int .i64 x1, .int .i64 0, .int .i64 x1, .slice b2 m m] 25))) := (Below.refl _ _).alloc (Nat.le_refl _) _
  go_wp2_with fail
  refine (eqRMem x1 0 x1 a2 n n b2 m m a1 n n b1 m m (List.replicate n 0) (List.replicate m false) _ (zero_sl (A2.out _ BP.out) hn) (zero_sl (A1.out _ BP.out) hn) (zero_slB (C2.out _ BP.out) hm) (zero_slB (C1.out _ BP.out) hm)).mono ?_
  rintro e w3 ⟨rfl, hb⟩
  have hq : Below w2.heap.size w2 w3 := BP.out.trans (Below.mono hb BP.out.size)
  replace B : Hid (∀ y, Below w3.heap.size w3 y → Below w.heap.size w y) := fun y hy => B.out y (hq.trans (hy.mono hq.size))
  replace A1 : Hid (∀ y, Below w3.heap.size w3 y → Wri y a1 n (fun _ => 0)) := fun y hy => A1.out y (hq.trans (hy.mono hq.size))
  replace C1 : Hid (∀ y, Below w3.heap.size w3 y → WriB y b1 m (fun _ => false)) := fun y hy => C1.out y (hq.trans (hy.mono hq.size))
  replace A2 : Hid (∀ y, Below w3.heap.size w3 y → Wri y a2 n (fun _ => 0)) := fun y hy => A2.out y (hq.trans (hy.mono hq.size))
  replace C2 : Hid (∀ y, Below w3.heap.size w3 y → WriB y b2 m (fun _ => false)) := fun y hy => C2.out y (hq.trans (hy.mono hq.size))
  replace XS : Hid (∀ y, Below w3.heap.size w3 y → y.heap[w1.heap.size]? = some (.cells #[.slice a1 n n, .int .i64 x1, .int .i64 0, .int .i64 x1, .slice b1 m m] 25 (0, 0))) := fun y hy => XS.out y (hq.trans (hy.mono hq.size))
  replace lS : w1.heap.size < w3.heap.size := Nat.lt_of_lt_of_le lS hq.size
  have lG : w2.heap.size < w3.heap.size := Nat.lt_of_lt_of_le (by simp) (Below.size hb)
  have XG : Hid (∀ y, Below w3.heap.size w3 y → y.heap[w2.heap.size]? = some (.cells #[.slice a2 n n, .int .i64 x1, .int .i64 0, .int .i64 x1, .slice b2 m m] 25 (0, 0))) := fun y hy => (hy.block _ lG).trans ((Below.block hb _ (by simp)).trans (boxN _ _ _ _ rfl))
  have zw3 : w2.heap.size + 1 ≤ w3.heap.size := Nat.le_trans (Nat.le_of_eq (by simp)) (Below.size hb)
  clear hq BP
  clear kS0 kS1 kS2 kS3 kS4
  clear hb
  have kS0 : w3.cell? ⟨w1.heap.size, 0, none⟩ = some (.slice a1 n n) := (boxG (XS.out w3 (Below.refl _ _)) 0).1
  have kS1 : w3.cell? ⟨w1.heap.size, 1, none⟩ = some (.int .i64 x1) := (boxG (XS.out w3 (Below.refl _ _)) 1).1
  have kS2 : w3.cell? ⟨w1.heap.size, 2, none⟩ = some (.int .i64 0) := (boxG (XS.out w3 (Below.refl _ _)) 2).1
  have kS3 : w3.cell? ⟨w1.heap.size, 3, none⟩ = some (.int .i64 x1) := (boxG (XS.out w3 (Below.refl _ _)) 3).1
  have kS4 : w3.cell? ⟨w1.heap.size, 4, none⟩ = some (.slice b1 m m) := (boxG (XS.out w3 (Below.refl _ _)) 4).1
  have kG0 : w3.cell? ⟨w2.heap.size, 0, none⟩ = some (.slice a2 n n) := (boxG (XG.out w3 (Below.refl _ _)) 0).1
  have kG1 : w3.cell? ⟨w2.heap.size, 1, none⟩ = some (.int .i64 x1) := (boxG (XG.out w3 (Below.refl _ _)) 1).1
  have kG2 : w3.cell? ⟨w2.heap.size, 2, none⟩ = some (.int .i64 0) := (boxG (XG.out w3 (Below.refl _ _)) 2).1
  have kG3 : w3.cell? ⟨w2.heap.size, 3, none⟩ = some (.int .i64 x1) := (boxG (XG.out w3 (Below.refl _ _)) 3).1
  have kG4 : w3.cell? ⟨w2.heap.size, 4, none⟩ = some (.slice b2 m m) := (boxG (XG.out w3 (Below.refl _ _)) 4).1
  have BP : Hid (Below w3.heap.size w3 w3) := Below.refl _ _
  go_wp2_with fail
  refine (markRMem x1 0 x1 a2 n n b2 m m 1 _ _ _ (A2.out _ BP.out) (C2.out _ BP.out) (by omega) (by omega) AB2.out (by omega) (by omega)).mono ?_
  rintro e w4 ⟨rfl, hM1, hM2, hc⟩
  clear BP
  have NDL : ∀ i, MemD a2 n b2 m i → w1.heap.size + 1 ≤ i ∧ i < w2.heap.size := by
    rintro i (⟨x, e, rfl, h0⟩ | ⟨x, e, rfl, h0⟩)
    · exact LA2.out x e h0
    · exact LB2.out x e h0
  have DS : Hid (∀ i, MemD a2 n b2 m i → w1.heap.size + 1 ≤ i ∧ i < w2.heap.size) := NDL
  clear NDL
  clear kS0 kS1 kS2 kS3 kS4 kG0 kG1 kG2 kG3 kG4
  replace XS : Hid (∀ y, Below w4.heap.size w4 y → y.heap[w1.heap.size]? = some (.cells #[.slice a1 n n, .int .i64 x1, .int .i64 0, .int .i64 x1, .slice b1 m m] 25 (0, 0))) := fun y hy => (hy.block _ (Nat.lt_of_lt_of_le lS (Chg.size hc))).trans ((Chg.block hc _ lS (fun hd => by have h9 := DS.out _ hd; omega)).trans (XS.out w3 (Below.refl _ _)))
  replace lS : w1.heap.size < w4.heap.size := Nat.lt_of_lt_of_le lS (Chg.size hc)
  replace XG : Hid (∀ y, Below w4.heap.size w4 y → y.heap[w2.heap.size]? = some (.cells #[.slice a2 n n, .int .i64 x1, .int .i64 0, .int .i64 x1, .slice b2 m m] 25 (0, 0))) := fun y hy => (hy.block _ (Nat.lt_of_lt_of_le lG (Chg.size hc))).trans ((Chg.block hc _ lG (fun hd => by have h9 := DS.out _ hd; omega)).trans (XG.out w3 (Below.refl _ _)))
  replace lG : w2.heap.size < w4.heap.size := Nat.lt_of_lt_of_le lG (Chg.size hc)
  have zw4 : w3.heap.size ≤ w4.heap.size := Chg.size hc
  replace B : Hid (∀ y, Below w4.heap.size w4 y → Below w.heap.size w y) := fun y hy => ((B.out _ (Below.refl _ _)).trans (hc.below (Below.size (B.out _ (Below.refl _ _))) (fun i hi hd => by have := (DS.out i hd).1; have := zw1; omega))).trans (hy.mono (by omega))
  replace A1 : Hid (∀ y, Below w4.heap.size w4 y → Wri y a1 n (fun _ => 0)) := fun y hy => ((A1.out _ (Below.refl _ _)).keep hc (fun x ex h0 hd => by have h9 := DS.out _ hd; have h8 := (LA1.out x ex h0).2; omega)).later hy
  replace C1 : Hid (∀ y, Below w4.heap.size w4 y → WriB y b1 m (fun _ => false)) := fun y hy => ((C1.out _ (Below.refl _ _)).keep hc (fun x ex h0 hd => by have h9 := DS.out _ hd; have h8 := (LB1.out x ex h0).2; omega)).later hy
  clear A2
  clear C2
  have M1 : Hid (∀ y, Below w4.heap.size w4 y → Wri y a2 n (fun j => 1 + j)) := fun y hy => hM1.later hy
  have M2 : Hid (∀ y, Below w4.heap.size w4 y → WriB y b2 m (fun j => (1 + n + (j : Int)) % 3 == 0)) := fun y hy => hM2.later hy
  clear hc hM1 hM2
  have e9 : ((1 + (n : Int) + (m : Int)) != (1 + (n : Int) + (m : Int))) = false := by simp
  have e8 : ¬ ((1 + (n : Int) + (m : Int)) < 0) := by omega
  have kS0 : w4.cell? ⟨w1.heap.size, 0, none⟩ = some (.slice a1 n n) := (boxG (XS.out w4 (Below.refl _ _)) 0).1
  have kS1 : w4.cell? ⟨w1.heap.size, 1, none⟩ = some (.int .i64 x1) := (boxG (XS.out w4 (Below.refl _ _)) 1).1
  have kS2 : w4.cell? ⟨w1.heap.size, 2, none⟩ = some (.int .i64 0) := (boxG (XS.out w4 (Below.refl _ _)) 2).1
  have kS3 : w4.cell? ⟨w1.heap.size, 3, none⟩ = some (.int .i64 x1) := (boxG (XS.out w4 (Below.refl _ _)) 3).1
  have kS4 : w4.cell? ⟨w1.heap.size, 4, none⟩ = some (.slice b1 m m) := (boxG (XS.out w4 (Below.refl _ _)) 4).1
  have kG0 : w4.cell? ⟨w2.heap.size, 0, none⟩ = some (.slice a2 n n) := (boxG (XG.out w4 (Below.refl _ _)) 0).1
  have kG1 : w4.cell? ⟨w2.heap.size, 1, none⟩ = some (.int .i64 x1) := (boxG (XG.out w4 (Below.refl _ _)) 1).1
  have kG2 : w4.cell? ⟨w2.heap.size, 2, none⟩ = some (.int .i64 0) := (boxG (XG.out w4 (Below.refl _ _)) 2).1
  have kG3 : w4.cell? ⟨w2.heap.size, 3, none⟩ = some (.int .i64 x1) := (boxG (XG.out w4 (Below.refl _ _)) 3).1
  have kG4 : w4.cell? ⟨w2.heap.size, 4, none⟩ = some (.slice b2 m m) := (boxG (XG.out w4 (Below.refl _ _)) 4).1
  have BP : Hid (Below w4.heap.size w4 w4) := Below.refl _ _
  go_wp2_with fail
  refine (heldRMem x1 0 x1 a2 n n b2 m m 1 _ (M1.out _ BP.out) (M2.out _ BP.out) (by omega) (by omega) (by omega) (by omega)).mono ?_
  rintro e w5 ⟨rfl, hb⟩
  have hq : Below w4.heap.size w4 w5 := BP.out.trans (Below.mono hb BP.out.size)
  replace B : Hid (∀ y, Below w5.heap.size w5 y → Below w.heap.size w y) := fun y hy => B.out y (hq.trans (hy.mono hq.size))
  replace A1 : Hid (∀ y, Below w5.heap.size w5 y → Wri y a1 n (fun _ => 0)) := fun y hy => A1.out y (hq.trans (hy.mono hq.size))
  replace C1 : Hid (∀ y, Below w5.heap.size w5 y → WriB y b1 m (fun _ => false)) := fun y hy => C1.out y (hq.trans (hy.mono hq.size))
  replace M1 : Hid (∀ y, Below w5.heap.size w5 y → Wri y a2 n (fun j => 1 + j)) := fun y hy => M1.out y (hq.trans (hy.mono hq.size))
  replace M2 : Hid (∀ y, Below w5.heap.size w5 y → WriB y b2 m (fun j => (1 + n + (j : Int)) % 3 == 0)) := fun y hy => M2.out y (hq.trans (hy.mono hq.size))
  replace XS : Hid (∀ y, Below w5.heap.size w5 y → y.heap[w1.heap.size]? = some (.cells #[.slice a1 n n, .int .i64 x1, .int .i64 0, .int .i64 x1, .slice b1 m m] 25 (0, 0))) := fun y hy => XS.out y (hq.trans (hy.mono hq.size))
  replace lS : w1.heap.size < w5.heap.size := Nat.lt_of_lt_of_le lS hq.size
  replace XG : Hid (∀ y, Below w5.heap.size w5 y → y.heap[w2.heap.size]? = some (.cells #[.slice a2 n n, .int .i64 x1, .int .i64 0, .int .i64 x1, .slice b2 m m] 25 (0, 0))) := fun y hy => XG.out y (hq.trans (hy.mono hq.size))
  replace lG : w2.heap.size < w5.heap.size := Nat.lt_of_lt_of_le lG hq.size
  have zw5 : w4.heap.size ≤ w5.heap.size := hq.size
  clear hq BP
  clear kS0 kS1 kS2 kS3 kS4 kG0 kG1 kG2 kG3 kG4
  clear hb
  have kS0 : w5.cell? ⟨w1.heap.size, 0, none⟩ = some (.slice a1 n n) := (boxG (XS.out w5 (Below.refl _ _)) 0).1
  have kS1 : w5.cell? ⟨w1.heap.size, 1, none⟩ = some (.int .i64 x1) := (boxG (XS.out w5 (Below.refl _ _)) 1).1
  have kS2 : w5.cell? ⟨w1.heap.size, 2, none⟩ = some (.int .i64 0) := (boxG (XS.out w5 (Below.refl _ _)) 2).1
  have kS3 : w5.cell? ⟨w1.heap.size, 3, none⟩ = some (.int .i64 x1) := (boxG (XS.out w5 (Below.refl _ _)) 3).1
  have kS4 : w5.cell? ⟨w1.heap.size, 4, none⟩ = some (.slice b1 m m) := (boxG (XS.out w5 (Below.refl _ _)) 4).1
  have kG0 : w5.cell? ⟨w2.heap.size, 0, none⟩ = some (.slice a2 n n) := (boxG (XG.out w5 (Below.refl _ _)) 0).1
  have kG1 : w5.cell? ⟨w2.heap.size, 1, none⟩ = some (.int .i64 x1) := (boxG (XG.out w5 (Below.refl _ _)) 1).1
  have kG2 : w5.cell? ⟨w2.heap.size, 2, none⟩ = some (.int .i64 0) := (boxG (XG.out w5 (Below.refl _ _)) 2).1
  have kG3 : w5.cell? ⟨w2.heap.size, 3, none⟩ = some (.int .i64 x1) := (boxG (XG.out w5 (Below.refl _ _)) 3).1
  have kG4 : w5.cell? ⟨w2.heap.size, 4, none⟩ = some (.slice b2 m m) := (boxG (XG.out w5 (Below.refl _ _)) 4).1
  have BP : Hid (Below w5.heap.size w5 w5) := Below.refl _ _
  go_wp2_with fail
  refine (newImpl21 yg od _).mono ?_
  rintro e w6 hP
  obtain ⟨a3, b3, rfl, hA, hC, hla, hlb, hab, hb⟩ := NSH.out _ _ _ hP
  have hq : Below w5.heap.size w5 w6 := BP.out.trans (Below.mono hb BP.out.size)
  replace B : Hid (∀ y, Below w6.heap.size w6 y → Below w.heap.size w y) := fun y hy => B.out y (hq.trans (hy.mono hq.size))
  replace A1 : Hid (∀ y, Below w6.heap.size w6 y → Wri y a1 n (fun _ => 0)) := fun y hy => A1.out y (hq.trans (hy.mono hq.size))
  replace C1 : Hid (∀ y, Below w6.heap.size w6 y → WriB y b1 m (fun _ => false)) := fun y hy => C1.out y (hq.trans (hy.mono hq.size))
  replace M1 : Hid (∀ y, Below w6.heap.size w6 y → Wri y a2 n (fun j => 1 + j)) := fun y hy => M1.out y (hq.trans (hy.mono hq.size))
  replace M2 : Hid (∀ y, Below w6.heap.size w6 y → WriB y b2 m (fun j => (1 + n + (j : Int)) % 3 == 0)) := fun y hy => M2.out y (hq.trans (hy.mono hq.size))
  replace XS : Hid (∀ y, Below w6.heap.size w6 y → y.heap[w1.heap.size]? = some (.cells #[.slice a1 n n, .int .i64 x1, .int .i64 0, .int .i64 x1, .slice b1 m m] 25 (0, 0))) := fun y hy => XS.out y (hq.trans (hy.mono hq.size))
  replace lS : w1.heap.size < w6.heap.size := Nat.lt_of_lt_of_le lS hq.size
  replace XG : Hid (∀ y, Below w6.heap.size w6 y → y.heap[w2.heap.size]? = some (.cells #[.slice a2 n n, .int .i64 x1, .int .i64 0, .int .i64 x1, .slice b2 m m] 25 (0, 0))) := fun y hy => XG.out y (hq.trans (hy.mono hq.size))
  replace lG : w2.heap.size < w6.heap.size := Nat.lt_of_lt_of_le lG hq.size
  have zw6 : w5.heap.size ≤ w6.heap.size := hq.size
  clear hq BP
  clear kS0 kS1 kS2 kS3 kS4 kG0 kG1 kG2 kG3 kG4
  have A3 : Hid (∀ y, Below w6.heap.size w6 y → Wri y a3 n (fun _ => 0)) := fun y hy => hA.later hy
  have C3 : Hid (∀ y, Below w6.heap.size w6 y → WriB y b3 m (fun _ => false)) := fun y hy => hC.later hy
  have LA3 : Hid (∀ x, a3 = some x → 0 < n → w5.heap.size ≤ x.block ∧ x.block < w6.heap.size) := fun x e h0 => ⟨by simpa using hla x e h0, hA.lt x e h0⟩
  have LB3 : Hid (∀ x, b3 = some x → 0 < m → w5.heap.size ≤ x.block ∧ x.block < w6.heap.size) := fun x e h0 => ⟨by simpa using hlb x e h0, hC.lt x e h0⟩
  have AB3 : Hid (∀ x y, a3 = some x → b3 = some y → 0 < n → 0 < m → x.block ≠ y.block) := hab
  clear hb hA hC hla hlb hab hP
  have kS0 : w6.cell? ⟨w1.heap.size, 0, none⟩ = some (.slice a1 n n) := (boxG (XS.out w6 (Below.refl _ _)) 0).1
  have kS1 : w6.cell? ⟨w1.heap.size, 1, none⟩ = some (.int .i64 x1) := (boxG (XS.out w6 (Below.refl _ _)) 1).1
  have kS2 : w6.cell? ⟨w1.heap.size, 2, none⟩ = some (.int .i64 0) := (boxG (XS.out w6 (Below.refl _ _)) 2).1
  have kS3 : w6.cell? ⟨w1.heap.size, 3, none⟩ = some (.int .i64 x1) := (boxG (XS.out w6 (Below.refl _ _)) 3).1
  have kS4 : w6.cell? ⟨w1.heap.size, 4, none⟩ = some (.slice b1 m m) := (boxG (XS.out w6 (Below.refl _ _)) 4).1
  have kG0 : w6.cell? ⟨w2.heap.size, 0, none⟩ = some (.slice a2 n n) := (boxG (XG.out w6 (Below.refl _ _)) 0).1
  have kG1 : w6.cell? ⟨w2.heap.size, 1, none⟩ = some (.int .i64 x1) := (boxG (XG.out w6 (Below.refl _ _)) 1).1
  have kG2 : w6.cell? ⟨w2.heap.size, 2, none⟩ = some (.int .i64 0) := (boxG (XG.out w6 (Below.refl _ _)) 2).1
  have kG3 : w6.cell? ⟨w2.heap.size, 3, none⟩ = some (.int .i64 x1) := (boxG (XG.out w6 (Below.refl _ _)) 3).1
  have kG4 : w6.cell? ⟨w2.heap.size, 4, none⟩ = some (.slice b2 m m) := (boxG (XG.out w6 (Below.refl _ _)) 4).1
  have BP : Hid (Below w6.heap.size w6 (w6.alloc (.cells #[.slice a3 n n, .int .i64 x1, .int .i64 0, .int .i64 x1, .slice b3 m m] 25))) := (Below.refl _ _).alloc (Nat.le_refl _) _
  go_wp2_with fail
  refine (eqRMem x1 0 x1 a3 n n b3 m m a1 n n b1 m m (List.replicate n 0) (List.replicate m false) _ (zero_sl (A3.out _ BP.out) hn) (zero_sl (A1.out _ BP.out) hn) (zero_slB (C3.out _ BP.out) hm) (zero_slB (C1.out _ BP.out) hm)).mono ?_
  rintro e w7 ⟨rfl, hb⟩
  have hq : Below w6.heap.size w6 w7 := BP.out.trans (Below.mono hb BP.out.size)
  replace B : Hid (∀ y, Below w7.heap.size w7 y → Below w.heap.size w y) := fun y hy => B.out y (hq.trans (hy.mono hq.size))
  replace A1 : Hid (∀ y, Below w7.heap.size w7 y → Wri y a1 n (fun _ => 0)) := fun y hy => A1.out y (hq.trans (hy.mono hq.size))
  replace C1 : Hid (∀ y, Below w7.heap.size w7 y → WriB y b1 m (fun _ => false)) := fun y hy => C1.out y (hq.trans (hy.mono hq.size))
  replace M1 : Hid (∀ y, Below w7.heap.size w7 y → Wri y a2 n (fun j => 1 + j)) := fun y hy => M1.out y (hq.trans (hy.mono hq.size))
  replace M2 : Hid (∀ y, Below w7.heap.size w7 y → WriB y b2 m (fun j => (1 + n + (j : Int)) % 3 == 0)) := fun y hy => M2.out y (hq.trans (hy.mono hq.size))
  replace A3 : Hid (∀ y, Below w7.heap.size w7 y → Wri y a3 n (fun _ => 0)) := fun y hy => A3.out y (hq.trans (hy.mono hq.size))
  replace C3 : Hid (∀ y, Below w7.heap.size w7 y → WriB y b3 m (fun _ => false)) := fun y hy => C3.out y (hq.trans (hy.mono hq.size))
  replace XS : Hid (∀ y, Below w7.heap.size w7 y → y.heap[w1.heap.size]? = some (.cells #[.slice a1 n n, .int .i64 x1, .int .i64 0, .int .i64 x1, .slice b1 m m] 25 (0, 0))) := fun y hy => XS.out y (hq.trans (hy.mono hq.size))
  replace lS : w1.heap.size < w7.heap.size := Nat.lt_of_lt_of_le lS hq.size
  replace XG : Hid (∀ y, Below w7.heap.size w7 y → y.heap[w2.heap.size]? = some (.cells #[.slice a2 n n, .int .i64 x1, .int .i64 0, .int .i64 x1, .slice b2 m m] 25 (0, 0))) := fun y hy => XG.out y (hq.trans (hy.mono hq.size))
  replace lG : w2.heap.size < w7.heap.size := Nat.lt_of_lt_of_le lG hq.size
  have lH : w6.heap.size < w7.heap.size := Nat.lt_of_lt_of_le (by simp) (Below.size hb)
  have XH : Hid (∀ y, Below w7.heap.size w7 y → y.heap[w6.heap.size]? = some (.cells #[.slice a3 n n, .int .i64 x1, .int .i64 0, .int .i64 x1, .slice b3 m m] 25 (0, 0))) := fun y hy => (hy.block _ lH).trans ((Below.block hb _ (by simp)).trans (boxN _ _ _ _ rfl))
  have zw7 : w6.heap.size + 1 ≤ w7.heap.size := Nat.le_trans (Nat.le_of_eq (by simp)) (Below.size hb)
  clear hq BP
  clear kS0 kS1 kS2 kS3 kS4 kG0 kG1 kG2 kG3 kG4
  clear hb
  have kS0 : w7.cell? ⟨w1.heap.size, 0, none⟩ = some (.slice a1 n n) := (boxG (XS.out w7 (Below.refl _ _)) 0).1
  have kS1 : w7.cell? ⟨w1.heap.size, 1, none⟩ = some (.int .i64 x1) := (boxG (XS.out w7 (Below.refl _ _)) 1).1
  have kS2 : w7.cell? ⟨w1.heap.size, 2, none⟩ = some (.int .i64 0) := (boxG (XS.out w7 (Below.refl _ _)) 2).1
  have kS3 : w7.cell? ⟨w1.heap.size, 3, none⟩ = some (.int .i64 x1) := (boxG (XS.out w7 (Below.refl _ _)) 3).1
  have kS4 : w7.cell? ⟨w1.heap.size, 4, none⟩ = some (.slice b1 m m) := (boxG (XS.out w7 (Below.refl _ _)) 4).1
  have kG0 : w7.cell? ⟨w2.heap.size, 0, none⟩ = some (.slice a2 n n) := (boxG (XG.out w7 (Below.refl _ _)) 0).1
  have kG1 : w7.cell? ⟨w2.heap.size, 1, none⟩ = some (.int .i64 x1) := (boxG (XG.out w7 (Below.refl _ _)) 1).1
  have kG2 : w7.cell? ⟨w2.heap.size, 2, none⟩ = some (.int .i64 0) := (boxG (XG.out w7 (Below.refl _ _)) 2).1
  have kG3 : w7.cell? ⟨w2.heap.size, 3, none⟩ = some (.int .i64 x1) := (boxG (XG.out w7 (Below.refl _ _)) 3).1
  have kG4 : w7.cell? ⟨w2.heap.size, 4, none⟩ = some (.slice b2 m m) := (boxG (XG.out w7 (Below.refl _ _)) 4).1
  have kH0 : w7.cell? ⟨w6.heap.size, 0, none⟩ = some (.slice a3 n n) := (boxG (XH.out w7 (Below.refl _ _)) 0).1
  have kH1 : w7.cell? ⟨w6.heap.size, 1, none⟩ = some (.int .i64 x1) := (boxG (XH.out w7 (Below.refl _ _)) 1).1
  have kH2 : w7.cell? ⟨w6.heap.size, 2, none⟩ = some (.int .i64 0) := (boxG (XH.out w7 (Below.refl _ _)) 2).1
  have kH3 : w7.cell? ⟨w6.heap.size, 3, none⟩ = some (.int .i64 x1) := (boxG (XH.out w7 (Below.refl _ _)) 3).1
  have kH4 : w7.cell? ⟨w6.heap.size, 4, none⟩ = some (.slice b3 m m) := (boxG (XH.out w7 (Below.refl _ _)) 4).1
  have BP : Hid (Below w7.heap.size w7 w7) := Below.refl _ _
  go_wp2_with fail
  refine (heldRMem x1 0 x1 a2 n n b2 m m 1 _ (M1.out _ BP.out) (M2.out _ BP.out) (by omega) (by omega) (by omega) (by omega)).mono ?_
  rintro e w8 ⟨rfl, hb⟩
  have hq : Below w7.heap.size w7 w8 := BP.out.trans (Below.mono hb BP.out.size)
  replace B : Hid (∀ y, Below w8.heap.size w8 y → Below w.heap.size w y) := fun y hy => B.out y (hq.trans (hy.mono hq.size))
  replace A1 : Hid (∀ y, Below w8.heap.size w8 y → Wri y a1 n (fun _ => 0)) := fun y hy => A1.out y (hq.trans (hy.mono hq.size))
  replace C1 : Hid (∀ y, Below w8.heap.size w8 y → WriB y b1 m (fun _ => false)) := fun y hy => C1.out y (hq.trans (hy.mono hq.size))
  replace M1 : Hid (∀ y, Below w8.heap.size w8 y → Wri y a2 n (fun j => 1 + j)) := fun y hy => M1.out y (hq.trans (hy.mono hq.size))
  replace M2 : Hid (∀ y, Below w8.heap.size w8 y → WriB y b2 m (fun j => (1 + n + (j : Int)) % 3 == 0)) := fun y hy => M2.out y (hq.trans (hy.mono hq.size))
  replace A3 : Hid (∀ y, Below w8.heap.size w8 y → Wri y a3 n (fun _ => 0)) := fun y hy => A3.out y (hq.trans (hy.mono hq.size))
  replace C3 : Hid (∀ y, Below w8.heap.size w8 y → WriB y b3 m (fun _ => false)) := fun y hy => C3.out y (hq.trans (hy.mono hq.size))
  replace XS : Hid (∀ y, Below w8.heap.size w8 y → y.heap[w1.heap.size]? = some (.cells #[.slice a1 n n, .int .i64 x1, .int .i64 0, .int .i64 x1, .slice b1 m m] 25 (0, 0))) := fun y hy => XS.out y (hq.trans (hy.mono hq.size))
  replace lS : w1.heap.size < w8.heap.size := Nat.lt_of_lt_of_le lS hq.size
  replace XG : Hid (∀ y, Below w8.heap.size w8 y → y.heap[w2.heap.size]? = some (.cells #[.slice a2 n n, .int .i64 x1, .int .i64 0, .int .i64 x1, .slice b2 m m] 25 (0, 0))) := fun y hy => XG.out y (hq.trans (hy.mono hq.size))
  replace lG : w2.heap.size < w8.heap.size := Nat.lt_of_lt_of_le lG hq.size
  replace XH : Hid (∀ y, Below w8.heap.size w8 y → y.heap[w6.heap.size]? = some (.cells #[.slice a3 n n, .int .i64 x1, .int .i64 0, .int .i64 x1, .slice b3 m m] 25 (0, 0))) := fun y hy => XH.out y (hq.trans (hy.mono hq.size))
  replace lH : w6.heap.size < w8.heap.size := Nat.lt_of_lt_of_le lH hq.size
  have zw8 : w7.heap.size ≤ w8.heap.size := hq.size
  clear hq BP
  clear kS0 kS1 kS2 kS3 kS4 kG0 kG1 kG2 kG3 kG4 kH0 kH1 kH2 kH3 kH4
  clear hb
  have kS0 : w8.cell? ⟨w1.heap.size, 0, none⟩ = some (.slice a1 n n) := (boxG (XS.out w8 (Below.refl _ _)) 0).1
  have kS1 : w8.cell? ⟨w1.heap.size, 1, none⟩ = some (.int .i64 x1) := (boxG (XS.out w8 (Below.refl _ _)) 1).1
  have kS2 : w8.cell? ⟨w1.heap.size, 2, none⟩ = some (.int .i64 0) := (boxG (XS.out w8 (Below.refl _ _)) 2).1
  have kS3 : w8.cell? ⟨w1.heap.size, 3, none⟩ = some (.int .i64 x1) := (boxG (XS.out w8 (Below.refl _ _)) 3).1
  have kS4 : w8.cell? ⟨w1.heap.size, 4, none⟩ = some (.slice b1 m m) := (boxG (XS.out w8 (Below.refl _ _)) 4).1
  have kG0 : w8.cell? ⟨w2.heap.size, 0, none⟩ = some (.slice a2 n n) := (boxG (XG.out w8 (Below.refl _ _)) 0).1
  have kG1 : w8.cell? ⟨w2.heap.size, 1, none⟩ = some (.int .i64 x1) := (boxG (XG.out w8 (Below.refl _ _)) 1).1
  have kG2 : w8.cell? ⟨w2.heap.size, 2, none⟩ = some (.int .i64 0) := (boxG (XG.out w8 (Below.refl _ _)) 2).1
  have kG3 : w8.cell? ⟨w2.heap.size, 3, none⟩ = some (.int .i64 x1) := (boxG (XG.out w8 (Below.refl _ _)) 3).1
  have kG4 : w8.cell? ⟨w2.heap.size, 4, none⟩ = some (.slice b2 m m) := (boxG (XG.out w8 (Below.refl _ _)) 4).1
  have kH0 : w8.cell? ⟨w6.heap.size, 0, none⟩ = some (.slice a3 n n) := (boxG (XH.out w8 (Below.refl _ _)) 0).1
  have kH1 : w8.cell? ⟨w6.heap.size, 1, none⟩ = some (.int .i64 x1) := (boxG (XH.out w8 (Below.refl _ _)) 1).1
  have kH2 : w8.cell? ⟨w6.heap.size, 2, none⟩ = some (.int .i64 0) := (boxG (XH.out w8 (Below.refl _ _)) 2).1
  have kH3 : w8.cell? ⟨w6.heap.size, 3, none⟩ = some (.int .i64 x1) := (boxG (XH.out w8 (Below.refl _ _)) 3).1
  have kH4 : w8.cell? ⟨w6.heap.size, 4, none⟩ = some (.slice b3 m m) := (boxG (XH.out w8 (Below.refl _ _)) 4).1
  go_wp2_with fail
  go_ret
  exact ⟨rfl, B.out _ (Below.refl _ _)⟩

set_option maxRecDepth 100000 in
theorem lifted (os : Os) (started : os.Started) (H : Type) (enc : TypeId × Value → H) :
    ReturnsInHanded {} Try.checked os 3 .any (Rows.fnExactMemNewSpec.pre6 enc Try.prog Try.f3 Rows.fnExactMemNewRow.domain false) (Rows.fnExactMemNewSpec.post enc Try.prog Try.f3 false true false false) := by
  refine returnsInHanded_of_change (C := Try.checked) own started (by kernel_rfl) Try.func3
    (ChangeSpec.witness6 (enc := enc) (C := Try.checked) false ⟨#[], #[.int .i64 0, .int .i64 0], []⟩ 8 (by kernel_rfl) (by kernel_rfl) (by kernel_rfl) (by kernel_rfl)) ?_
  intro W base args ds gs before hval0 hW hcnd _
  have hval : ∀ (j : Nat) t v, Try.f3.params[j]? = some t → args[j]? = some v → Value.okWide Try.prog W .any base t v := hval0
  have hW' := hW
  obtain ⟨p, q, hA0, hV, rfl, hfz, hnd⟩ := hW
  have hA : DataW.TrodAll enc Try.prog W 0 (fun _ => true) true Try.f3.params.toList args.toList ds p := hA0
  rw [Try.params3] at hA hval
  obtain ⟨v0, vs0, d0, ds0, p0, q0, hargs, rfl, rfl, h0, r0⟩ := trodAll_cons hA
  obtain ⟨v1, vs1, d1, ds1, p1, q1, rfl, rfl, rfl, h1, r1⟩ := trodAll_cons r0
  obtain ⟨rfl, rfl, rfl⟩ := trodAll_nil r1
  obtain rfl : args = #[v0, v1] := by cases args; simp_all
  obtain ⟨rfl, rfl⟩ := trodVars_none hV
  obtain ⟨yg, rfl, rfl, rfl, w0⟩ := open_int Try.underlying3 (hval 0 3 v0 rfl rfl) h0
  obtain ⟨od, rfl, rfl, rfl, w1⟩ := open_int Try.underlying3 (hval 1 3 v1 rfl rfl) h1
  clear hA0 hval0
  refine (walk yg od W (bounds_i64 w0) (bounds_i64 w1)).mono fun e W' ⟨he, bel⟩ => ?_
  subst he
  exact ⟨_, rfl, _, _, _, [], _, [], hW', trodAll_mk1 (shut_bool Try.underlying4 _), (trodAll_cons_mk (shut_int Try.underlying3 w0) (trodAll_cons_mk (shut_int Try.underlying3 w1) trodAll_mk0)), rfl, bel.frame _, fun h => by cases h⟩

theorem over : Rows.fnExactMemNewRow.holds Try.pinned (OpenSpec.ofChange Rows.fnExactMemNewSpec) :=
  OpenClaim.holds_of_wide 3 Try.f3 rfl rfl rfl rfl rfl rfl rfl ⟨rfl, rfl, rfl, rfl, rfl⟩ rfl rfl rfl rfl rfl (by kernel_rfl) Try.func3 (by kernel_rfl)
    (of_decide_eq_true (by kernel_rfl)) (by unfold Func.isWrapper; first | (rw [if_pos (by decide +kernel)]; kernel_rfl) | (rw [if_neg (by decide +kernel)]; exact ⟨rfl, rfl⟩))
    (fun os started H enc _ => lifted os started H enc)
theorem proved : Rows.FnExactMemNewSaid := over
end Go.Proofs.Ytjbmcdekhhbiaaa.fnExactMemNew

namespace Go.Proofs.Ytjbmcdekhhbiaaa
theorem fnExactMemNew_holds : Rows.FnExactMemNewSaid := fnExactMemNew.proved
#print axioms fnExactMemNew_holds
end Go.Proofs.Ytjbmcdekhhbiaaa
