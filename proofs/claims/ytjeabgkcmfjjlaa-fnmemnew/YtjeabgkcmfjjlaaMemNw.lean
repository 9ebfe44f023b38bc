/-
  A new memory, whether its sizes are ok or not.
-/
import Derived.Test.YtjeabgkcmfjjlaaMemIp
import Derived.Test.YtjeabgkcmfjjlaaMrkB
import Derived.Test.YtjeabgkcmfjjlaaDtMem
namespace Go.Proofs.Ytjeabgkcmfjjlaa
open Go.ChangeShapes Go.WideShapes Go.ChangeAt Go.RowKit
set_option linter.unusedVariables false

/-- What is answered, whether the sizes are ok or not. -/
def NewAll (yg od : Int) (n m : Nat) (x1 : Int) : Prop := ∀ (w : World) (e : Ending) (w' : World), NewMP w yg od e w' → ∃ (a b : Option Addr), e = .returned (.agg #[.slice a n n, .int .i64 x1, .int .i64 0, .int .i64 x1, .slice b m m]) ∧ Wri w' a n (fun _ => 0) ∧ WriB w' b m (fun _ => false) ∧ (∀ x, a = some x → 0 < n → w.heap.size ≤ x.block) ∧ (∀ x, b = some x → 0 < m → w.heap.size ≤ x.block) ∧ (∀ x y, a = some x → b = some y → 0 < n → 0 < m → x.block ≠ y.block) ∧ Below w.heap.size w w'
theorem newNo {yg od : Int} (hq : newOk yg od = false) : NewAll yg od 0 0 0 := fun w e w' h => ⟨none, none, h.1 hq, ⟨.inl rfl⟩, ⟨.inl rfl⟩, (fun x e => by cases e), (fun x e => by cases e), (fun x y e => by cases e), h.2.2⟩
theorem newYes {yg od : Int} (h0 : newOk yg od = true) : ∃ yn on : Nat, yg = yn ∧ od = on ∧ yn ≤ 40 ∧ 14 ≤ on ∧ on ≤ 120 ∧ NewAll yg od (yn + on) (crdN on) yn := by
  have hq := h0
  unfold newOk at hq
  rw [Bool.and_eq_true] at hq
  have h1 := inI_iff.1 hq.1
  have h2 := inI_iff.1 hq.2
  obtain ⟨yn, rfl⟩ : ∃ k : Nat, yg = k := ⟨yg.toNat, by omega⟩
  obtain ⟨on, rfl⟩ : ∃ k : Nat, od = k := ⟨od.toNat, by omega⟩
  refine ⟨yn, on, rfl, rfl, by omega, by omega, by omega, fun w e w' h => ?_⟩
  obtain ⟨A, C, yn', on', e1, e2, hne, hA, hC, rfl, rA, rC⟩ := h.2.1 h0
  obtain rfl : yn = yn' := by omega
  obtain rfl : on = on' := by omega
  refine ⟨_, _, rfl, ⟨.inr ⟨A, 0, rfl, fun j hj => ?_⟩⟩, ⟨.inr ⟨C, 0, rfl, fun j hj => ?_⟩⟩, (fun x e _ => by obtain rfl := Option.some.inj e; exact hA), (fun x e _ => by obtain rfl := Option.some.inj e; exact hC), (fun x y e e2 _ _ => by obtain rfl := Option.some.inj e; obtain rfl := Option.some.inj e2; exact hne), h.2.2⟩
  · simpa using rA j hj
  · simpa using rC j hj
theorem zero_sl {w : World} {a : Option Addr} {n : Nat} (h : Wri w a n (fun _ => 0)) (hn : n ≤ 160) : SlAt intR (fun _ => True) w a n (List.replicate n 0) := by
  have e : ∀ j : Nat, (List.replicate n (0 : Int)).getD j 0 = 0 := fun j => by
    rw [List.getD_eq_getElem?_getD, List.getElem?_replicate]; split <;> rfl
  refine Wri.sl (xs := List.replicate n 0) ?_ (by simp) (by omega) (fun j => by rw [e]; exact ⟨by omega, by omega⟩)
  have : (fun j : Nat => (List.replicate n (0 : Int)).getD j 0) = fun _ => 0 := funext e
  rw [this]; exact h
theorem zero_slB {w : World} {a : Option Addr} {n : Nat} (h : WriB w a n (fun _ => false)) (hn : n ≤ 40) : SlAt boolR (fun _ => True) w a n (List.replicate n false) := by
  have e : ∀ j : Nat, (List.replicate n false).getD j false = false := fun j => by
    rw [List.getD_eq_getElem?_getD, List.getElem?_replicate]; split <;> rfl
  refine WriB.sl (xs := List.replicate n false) ?_ (by simp) (by omega)
  have : (fun j : Nat => (List.replicate n false).getD j false) = fun _ => false := funext e
  rw [this]; exact h
theorem newMemB (yn on : Nat) (h1 : yn ≤ 40) (h2 : 14 ≤ on) (h3 : on ≤ 120) : memB [(-1, []), (0, [1])] (List.replicate (yn + on) 0, (yn : Int), 0, (yn : Int), List.replicate (crdN on) false) = true ∧ thT [(-1, []), (0, [1])] (List.replicate (yn + on) 0, (yn : Int), 0, (yn : Int), List.replicate (crdN on) false) = [] := by
  have hy : yPs [(-1, []), (0, [1])] (List.replicate (yn + on) 0, (yn : Int), 0, (yn : Int), List.replicate (crdN on) false) = some [] := by
    unfold yPs
    exact parse_nil _ _ (by simp)
  have ho : oPs [(-1, []), (0, [1])] (List.replicate (yn + on) 0, (yn : Int), 0, (yn : Int), List.replicate (crdN on) false) = some [] := by
    unfold oPs
    exact parse_nil _ _ (by simp)
  have hT : thT [(-1, []), (0, [1])] (List.replicate (yn + on) 0, (yn : Int), 0, (yn : Int), List.replicate (crdN on) false) = [] := by
    unfold thT
    rw [hy, ho]; rfl
  have hb : bndB [(-1, []), (0, [1])] (List.replicate (yn + on) 0, (yn : Int), 0, (yn : Int), List.replicate (crdN on) false) = true := by
    refine Bnd.to ⟨by decide, ?_, ?_, ?_, ?_, ?_⟩ <;> simp only [List.length_replicate]
    · omega
    · omega
    · omega
    · omega
    · rw [crd_eq (by omega)]; unfold crdN; omega
  have hz : zerB (List.replicate (yn + on) 0, (yn : Int), 0, (yn : Int), List.replicate (crdN on) false) = true := by
    unfold zerB
    rw [List.all_eq_true]
    intro i _
    have : (List.replicate (yn + on) (0 : Int)).getD i 0 = 0 := by rw [List.getD_eq_getElem?_getD, List.getElem?_replicate]; split <;> rfl
    show (!_ || ((List.replicate (yn + on) (0 : Int)).getD i 0 == 0)) = true
    rw [this]
    simp
  refine ⟨?_, hT⟩
  unfold memB
  rw [hb, hz, hy, ho, hT]; rfl

end Go.Proofs.Ytjeabgkcmfjjlaa
