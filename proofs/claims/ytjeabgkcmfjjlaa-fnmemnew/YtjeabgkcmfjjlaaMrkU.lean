/-
  What marking does, of slices of structs, of a shape and of a unit: numbers and truths of the call's own are overwritten, all else stays.
-/
import Derived.Test.YtjeabgkcmfjjlaaMrk
namespace Go.Proofs.Ytjeabgkcmfjjlaa
open Go.ChangeShapes Go.WideShapes Go.ChangeAt Go.RowKit

theorem Sty.slice {w w' : World} (s : Sty w w') {p : Addr} {a : Option Addr} {l c : Nat} (h : w.cell? p = some (.slice a l c)) : w'.cell? p = some (.slice a l c) := by
  rcases s.cell _ _ h with h1 | ⟨_, _, e, _⟩ | ⟨_, _, e, _⟩
  · exact h1
  · cases e
  · cases e
theorem Sty.int {w w' : World} (s : Sty w w') {p : Addr} {x : Int} (h : w.cell? p = some (.int .i64 x)) : ∃ z, w'.cell? p = some (.int .i64 z) := by
  rcases s.cell _ _ h with h1 | ⟨_, z, _, h1, _⟩ | ⟨_, _, e, _⟩
  · exact ⟨_, h1⟩
  · exact ⟨z, h1⟩
  · cases e
theorem Sty.bool {w w' : World} (s : Sty w w') {p : Addr} {x : Bool} (h : w.cell? p = some (.bool x)) : ∃ z, w'.cell? p = some (.bool z) := by
  rcases s.cell _ _ h with h1 | ⟨_, _, e, _⟩ | ⟨_, z, _, h1⟩
  · exact ⟨_, h1⟩
  · cases e
  · exact ⟨z, h1⟩
theorem sts_Class : Sts clR := (sts_pair sts_int (sts_list sts_int))
theorem sts_Ins : Sts inR := (sts_pair sts_int (sts_pair sts_int sts_int))
theorem sts_Shape : Sts shR := (sts_pair sts_bool (sts_pair (sts_list sts_int) (sts_list sts_int)))
theorem sts_Catch : Sts caR := (sts_pair sts_int (sts_pair sts_int (sts_pair sts_int sts_int)))
theorem sts_Method : Sts meR := (sts_pair sts_int (sts_pair sts_int (sts_pair (sts_list sts_int) (sts_pair sts_int (sts_pair sts_int (sts_pair (sts_list sts_Ins) (sts_pair (sts_list sts_Shape) (sts_list sts_Catch))))))))
theorem sts_Val : Sts vaR := (sts_pair sts_bool sts_int)
theorem sts_Obj : Sts obR := (sts_pair sts_int (sts_list sts_Val))
end Go.Proofs.Ytjeabgkcmfjjlaa
