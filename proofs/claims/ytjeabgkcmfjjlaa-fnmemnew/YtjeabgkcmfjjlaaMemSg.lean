/-
  Whether a memory is ok: the specification says so; it writes nothing that was there.
-/
import Derived.Test.YtjeabgkcmfjjlaaMemSe
import Derived.Test.YtjeabgkcmfjjlaaMemSf
namespace Go.Proofs.Ytjeabgkcmfjjlaa
open Go.ChangeShapes Go.WideShapes Go.ChangeAt Go.RowKit
set_option linter.unusedVariables false

theorem memB_bnd {L : List Cl} {m : Mm} (h : (bndB L m && zerB m) = false) : memB L m = false := by
  unfold memB; cases h1 : bndB L m
  · rfl
  · rw [h1] at h; simp at h; rw [h]; rfl
theorem memB_walk {L : List Cl} {m : Mm} (h : ((yPs L m).isSome && (oPs L m).isSome) = false) : memB L m = false := by
  unfold memB; rw [h]; simp
theorem memB_all {L : List Cl} {m : Mm} (h0 : (bndB L m && zerB m) = true) (h : ((yPs L m).isSome && (oPs L m).isSome) = true) : memB L m = (thT L m).all (fun t => valB' m (thT L m) t && crdB m t) := by
  unfold memB; rw [h]; simp only [Bool.and_eq_true] at h0; rw [h0.1, h0.2]; rfl
theorem TOk.most {L : List Cl} {m : Mm} {t : Th} (h : TOk L m t) : 1 ≤ t.1 ∧ t.1 ≤ m.1.length := by
  have := h.lo
  have := h.hi
  have := tSz_pos t
  omega
theorem memB_ok {L : List Cl} {m : Mm} (h : memB L m = true) : Bnd L m ∧ zerB m = true ∧ (yPs L m).isSome = true ∧ (oPs L m).isSome = true ∧ ∀ t ∈ thT L m, valB' m (thT L m) t = true ∧ crdB m t = true := by
  unfold memB at h
  simp only [Bool.and_eq_true, List.all_eq_true] at h
  exact ⟨Bnd.of h.1, h.2.1, h.2.2.1.1, h.2.2.1.2, h.2.2.2⟩
theorem Bnd.cards {L : List Cl} {m : Mm} (h : Bnd L m) : (m.1.length : Int) ≤ m.2.1 + m.2.2.2.2.length * 4 ∧ (m.2.2.2.2.length : Int) ≤ 31 := by
  have h1 := h.cd
  have h2 := h.od
  rw [crd_eq (by omega)] at h1
  omega
theorem plN_at {T : List Th} {k : Nat} {t : Th} (h : T[k]? = some t) : (plN T).getD k 0 = t.1 - 1 := by
  unfold plN
  rw [List.getD_eq_getElem?_getD, List.getElem?_map, h]; rfl
theorem all_take_on {α : Type} {p : α → Bool} {xs : List α} {k : Nat} {x : α} (h : (xs.take k).all p = true) (hx : xs[k]? = some x) (hp : p x = true) : (xs.take (k + 1)).all p = true := by
  rw [List.take_succ_eq_append_getElem (List.getElem?_eq_some_iff.1 hx).1, List.all_append, h]
  have := (List.getElem?_eq_some_iff.1 hx).2
  simp [this, hp]
theorem all_no_on {α : Type} {p : α → Bool} {xs : List α} {k : Nat} {x : α} (hx : xs[k]? = some x) (hp : p x = false) : xs.all p = false := by
  rw [List.all_eq_false]
  exact ⟨x, List.mem_of_getElem? hx, by simp [hp]⟩

end Go.Proofs.Ytjeabgkcmfjjlaa
