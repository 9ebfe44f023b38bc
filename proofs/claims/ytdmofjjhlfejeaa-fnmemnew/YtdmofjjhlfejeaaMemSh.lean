/-
  Things by their places: the specification says so; it writes nothing that was there.
-/
import Derived.Test.YtdmofjjhlfejeaaMemSg
namespace Go.Proofs.Ytdmofjjhlfejeaa
open Go.ChangeShapes Go.WideShapes Go.ChangeAt Go.RowKit
set_option linter.unusedVariables false

/-- The thing at a place. -/
def atT (T : List Th) (v : Int) : Th := (T.find? (fun t => t.1 == v)).getD (0, 0, [])
theorem atT_mem {T : List Th} {v : Int} (h : isAt T v = true) : atT T v ∈ T ∧ (atT T v).1 = v := by
  unfold atT
  cases hf : T.find? (fun t => t.1 == v) with
  | none =>
    obtain ⟨t, ht, e⟩ := isAt_iff.1 h
    have := List.find?_eq_none.1 hf t ht
    simp [e] at this
  | some t =>
    have h1 := List.mem_of_find?_eq_some hf
    have h2 := List.find?_some hf
    exact ⟨h1, by simpa using h2⟩
/-- How many words the thing at a place has; what is k-th in it. -/
def sizV (L : List Cl) (m : Mm) (v : Int) : Int := if memB L m = true ∧ isAt (thT L m) v = true then (tSz (atT (thT L m) v) : Nat) else 0
def getB (L : List Cl) (m : Mm) (v k : Int) : Bool := memB L m && (isAt (thT L m) v && inI k 0 ((atT (thT L m) v).2.2.length - 1))
def getV (L : List Cl) (m : Mm) (v k : Int) : Int := if getB L m v k = true then m.1.getD (plc (atT (thT L m) v) k.toNat) 0 else 0
theorem sizV_no {L : List Cl} {m : Mm} {v : Int} (h : memB L m = false) : sizV L m v = 0 := by unfold sizV; rw [h, if_neg (by simp)]
theorem sizV_none {L : List Cl} {m : Mm} {v : Int} (h : isAt (thT L m) v = false) : sizV L m v = 0 := by unfold sizV; rw [h, if_neg (by simp)]
theorem sizV_at {L : List Cl} {m : Mm} {v : Int} (h : memB L m = true) (h2 : isAt (thT L m) v = true) : sizV L m v = (tSz (atT (thT L m) v) : Nat) := if_pos ⟨h, h2⟩
theorem getB_no {L : List Cl} {m : Mm} {v k : Int} (h : memB L m = false) : getB L m v k = false := by unfold getB; rw [h]; rfl
theorem getB_none {L : List Cl} {m : Mm} {v k : Int} (h : isAt (thT L m) v = false) : getB L m v k = false := by unfold getB; rw [h]; simp
theorem getB_at {L : List Cl} {m : Mm} {v k : Int} (h : memB L m = true) (h2 : isAt (thT L m) v = true) : getB L m v k = inI k 0 ((atT (thT L m) v).2.2.length - 1) := by unfold getB; rw [h, h2]; rfl
theorem getV_not {L : List Cl} {m : Mm} {v k : Int} (h : getB L m v k = false) : getV L m v k = 0 := by unfold getV; rw [h, if_neg (by simp)]
theorem getV_yes {L : List Cl} {m : Mm} {v k : Int} (h : getB L m v k = true) : getV L m v k = m.1.getD (plc (atT (thT L m) v) k.toNat) 0 := if_pos h
/-- What is so of the thing at a place. -/
theorem atT_ok {L : List Cl} {m : Mm} {v : Int} (h : memB L m = true) (h2 : isAt (thT L m) v = true) : ∃ (p : Nat) (c0 : Int) (ty : List Int), atT (thT L m) v = ((p : Int) + 1, c0, ty) ∧ v = (p : Int) + 1 ∧ TOk L m ((p : Int) + 1, c0, ty) ∧ (c0 = -1 ∨ c0 = -2 ∨ 0 ≤ c0) ∧ ty.length ≤ 10 ∧ p + hdN c0 + ty.length ≤ m.1.length ∧ tsz L (m.1.drop p) = hdN c0 + ty.length ∧ m.1.getD p 0 = c0 := by
  have hB := (memB_ok h).1
  obtain ⟨hm, hv⟩ := atT_mem h2
  have hT := (thT_ok hB).1 _ hm
  generalize atT (thT L m) v = t at hm hv hT ⊢
  obtain ⟨x0, c0, ty⟩ := t
  simp only at hv
  subst hv
  have h1 := hT.lo
  simp only at h1
  obtain ⟨p, rfl⟩ : ∃ p : Nat, x0 = (p : Int) + 1 := ⟨x0.toNat - 1, by omega⟩
  have e : ((p : Int) + 1).toNat - 1 = p := by omega
  have hhi := hT.hi
  have hsz := hT.sz
  have hcl := hT.cls
  have his := hT.ist
  have hty := hT.ty
  simp only [tSz, e] at hhi hsz hcl his hty
  refine ⟨p, c0, ty, rfl, rfl, hT, ?_, by rw [hty]; exact typ_len hB.ok his, by omega, hsz, hcl⟩
  unfold isT at his
  split at his
  · rename_i h9; rcases h9 with h9 | h9 <;> simp [h9]
  · have := inI_iff.1 his; omega
def InsP (T : List Th) (v k : Int) (w : World) (e : Ending) (w' : World) : Prop := (isAt T v = false → e = .returned (.tuple #[.int .i64 0, .bool false])) ∧ (isAt T v = true → ∃ x, e = .returned (.tuple #[.int .i64 x, .bool (inI k 0 ((atT T v).2.2.length - 1))]) ∧ (inI k 0 ((atT T v).2.2.length - 1) = true → x = (plc (atT T v) k.toNat : Nat))) ∧ Below w.heap.size w w'
end Go.Proofs.Ytdmofjjhlfejeaa
