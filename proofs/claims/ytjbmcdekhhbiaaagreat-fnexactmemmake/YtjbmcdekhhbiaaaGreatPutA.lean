/-
  A memory of one's own that is written; an answer with one.
-/
import Derived.Test.YtjbmcdekhhbiaaaGreatCpM
import Derived.Test.YtjbmcdekhhbiaaaGreatInI
import Derived.Test.YtjbmcdekhhbiaaaGreatMemM
namespace Go.Proofs.YtjbmcdekhhbiaaaGreat
open Go.ChangeShapes Go.WideShapes Go.ChangeAt Go.RowKit
set_option linter.unusedVariables false

theorem Wri.put {w : World} {n g off i : Nat} {f : Nat → Int} (h : Wri w (some ⟨g, off, none⟩) n f) (hi : i < n) (v : Int) : Wri (w.setCell ⟨g, off + i, none⟩ (.int .i64 v)) (some ⟨g, off, none⟩) n (fun j => if j = i then v else f j) := by
  rcases h.cells with h0 | ⟨g2, off2, e, hc⟩
  · omega
  · obtain ⟨rfl, rfl⟩ : g = g2 ∧ off = off2 := by simpa using e
    refine ⟨.inr ⟨g, off, rfl, fun j hj => ⟨?_, (World.frozen?_setCell _ _ _ _).trans (hc j hj).2⟩⟩⟩
    by_cases e : j = i
    · subst e; rw [if_pos rfl]; exact World.cell?_setCell_same _ _ _ (hc j hj).1
    · rw [if_neg e, World.cell?_setCell_other _ _ _ _ (by intro h9; have h8 := congrArg Addr.off h9; simp only at h8; omega)]; exact (hc j hj).1
theorem WriB.put {w : World} {n g off i : Nat} {f : Nat → Bool} (h : WriB w (some ⟨g, off, none⟩) n f) (hi : i < n) (v : Bool) : WriB (w.setCell ⟨g, off + i, none⟩ (.bool v)) (some ⟨g, off, none⟩) n (fun j => if j = i then v else f j) := by
  rcases h.cells with h0 | ⟨g2, off2, e, hc⟩
  · omega
  · obtain ⟨rfl, rfl⟩ : g = g2 ∧ off = off2 := by simpa using e
    refine ⟨.inr ⟨g, off, rfl, fun j hj => ⟨?_, (World.frozen?_setCell _ _ _ _).trans (hc j hj).2⟩⟩⟩
    by_cases e : j = i
    · subst e; rw [if_pos rfl]; exact World.cell?_setCell_same _ _ _ (hc j hj).1
    · rw [if_neg e, World.cell?_setCell_other _ _ _ _ (by intro h9; have h8 := congrArg Addr.off h9; simp only at h8; omega)]; exact (hc j hj).1
theorem set_getD {α : Type} (xs : List α) (i : Nat) (v z : α) (hi : i < xs.length) (j : Nat) : (xs.set i v).getD j z = if j = i then v else xs.getD j z := by
  rw [List.getD_eq_getElem?_getD, List.getElem?_set]
  by_cases e : i = j
  · subst e; simp [hi]
  · rw [if_neg e, if_neg (fun h => e h.symm), List.getD_eq_getElem?_getD]
theorem Wri.congr {w : World} {n : Nat} {a : Option Addr} {f g : Nat → Int} (h : Wri w a n f) (e : ∀ j, j < n → f j = g j) : Wri w a n g := by
  rcases h.cells with h0 | ⟨b, off, ha, hc⟩
  · exact ⟨.inl h0⟩
  · exact ⟨.inr ⟨b, off, ha, fun j hj => by rw [← e j hj]; exact hc j hj⟩⟩
theorem WriB.congr {w : World} {n : Nat} {a : Option Addr} {f g : Nat → Bool} (h : WriB w a n f) (e : ∀ j, j < n → f j = g j) : WriB w a n g := by
  rcases h.cells with h0 | ⟨b, off, ha, hc⟩
  · exact ⟨.inl h0⟩
  · exact ⟨.inr ⟨b, off, ha, fun j hj => by rw [← e j hj]; exact hc j hj⟩⟩
/-- The cards behind it. -/
def cdPut (yg i : Nat) (v : Int) (ref : Bool) (cd : List Bool) : List Bool := if (ref && (decide (yg ≤ i) && inI v 1 yg)) = true then cd.set ((i - yg) / 4) true else cd
theorem chg5 (w : World) (X : Nat) (v0 v1 v2 v3 v4 : Value) : Chg (fun k => k = X) w (((((w.setCell ⟨X, 0, none⟩ v0).setCell ⟨X, 1, none⟩ v1).setCell ⟨X, 2, none⟩ v2).setCell ⟨X, 3, none⟩ v3).setCell ⟨X, 4, none⟩ v4) :=
  (((((Chg.set (D := fun k => k = X) w ⟨X, 0, none⟩ v0 rfl).trans (Chg.set (D := fun k => k = X) _ ⟨X, 1, none⟩ v1 rfl) fun _ _ h => h).trans (Chg.set (D := fun k => k = X) _ ⟨X, 2, none⟩ v2 rfl) fun _ _ h => h).trans (Chg.set (D := fun k => k = X) _ ⟨X, 3, none⟩ v3 rfl) fun _ _ h => h).trans (Chg.set (D := fun k => k = X) _ ⟨X, 4, none⟩ v4 rfl) fun _ _ h => h)
def zM : Mm := ([], 0, 0, 0, [])
/-- What is given back: a memory of its own, and something with it. -/
def AnsM (w : World) (r : Mm) (u : Value) (e : Ending) (w' : World) : Prop :=
  ∃ a n c b m d, e = .returned (.tuple #[.agg #[.slice a n c, .int .i64 r.2.1, .int .i64 r.2.2.1, .int .i64 r.2.2.2.1, .slice b m d], u]) ∧ r.1.length = n ∧ r.2.2.2.2.length = m ∧ Wri w' a n (fun j => r.1.getD j 0) ∧ WriB w' b m (fun j => r.2.2.2.2.getD j false) ∧ (∀ x, a = some x → 0 < n → w.heap.size ≤ x.block) ∧ (∀ x, b = some x → 0 < m → w.heap.size ≤ x.block) ∧ (∀ x y, a = some x → b = some y → 0 < n → 0 < m → x.block ≠ y.block) ∧ Below w.heap.size w w'
theorem ansM_zero {w w' : World} (u : Value) (h : Below w.heap.size w w') : AnsM w zM u (.returned (.tuple #[.agg #[.slice none 0 0, .int .i64 0, .int .i64 0, .int .i64 0, .slice none 0 0], u])) w' :=
  ⟨none, 0, 0, none, 0, 0, rfl, rfl, rfl, ⟨.inl rfl⟩, ⟨.inl rfl⟩, (fun _ h => by cases h), (fun _ h => by cases h), (fun _ _ h => by cases h), h⟩

end Go.Proofs.YtjbmcdekhhbiaaaGreat
