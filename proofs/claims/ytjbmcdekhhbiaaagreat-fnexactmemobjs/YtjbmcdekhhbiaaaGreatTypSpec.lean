/-
  The specification's ClassUp, ClassJoin, TypeOk, TypeIn and TypeJoin give what is said of the list of classes, in whatever memory; they write nothing that was there.
-/
import Derived.Test.YtjbmcdekhhbiaaaGreatClsSpec
namespace Go.Proofs.YtjbmcdekhhbiaaaGreat
open Go.ChangeShapes Go.WideShapes Go.ChangeAt Go.RowKit

theorem isB_nat {L : List Cl} {c : Int} (h : isB L c = true) : ∃ k : Nat, c = k ∧ k < L.length ∧ clsOk L = true := by
  unfold isB at h
  simp at h
  have := ok_len h.1
  exact ⟨c.toNat, by omega, by omega, h.1⟩

end Go.Proofs.YtjbmcdekhhbiaaaGreat
