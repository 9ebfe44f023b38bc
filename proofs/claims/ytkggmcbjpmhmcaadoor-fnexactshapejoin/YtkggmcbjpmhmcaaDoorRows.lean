/-
  NARROWER THAN 'FOR EVERY INPUT', by the rows' own cells (each row's printed sentence says how): FnShapeJoin: ifaces, laid · FnExactShapeJoin: ifaces, laid.
  DERIVED. THE GIVEN ROWS OF THIS SEAT. 2 by the template 'for every input the law returns true; each argument reads behind the call as it read before'; 0 by the template 'total and deterministic' (their statements: YtkggmcbjpmhmcaaDoorTotals.lean).
  GIVEN WITH THE SEED: the statements are not yours to turn. If you find one false, say at which input.
  Laid BY PROGRAM, IN A SANDBOX (cutbox-rows.mjs): the forced cells as the released guide's own fill.sh prints them over the translation 2df481be0e560c7f… (all of the seat's roots in one cut). By AI agents, Wed Nov 11 2026. No macro, syntax, notation, axiom, sorry.
-/
import Derived.Test.YtkggmcbjpmhmcaaDoorChecked
import GoSem.Claim
import GoSem.ClaimJoined
import GoSem.ClaimMapViews
import Derived.JoinedTies
import Derived.KernelRfl
namespace Go.Proofs.YtkggmcbjpmhmcaaDoor
/- THE CELL 'sum', in the pinned program and in every row, IS THE sha256 OF THE DUMP (.gsa) THAT YtkggmcbjpmhmcaaDoorProg.lean LOADS. Nothing in Lean hashes anything: it is a label: what it is worth is what the hold of that sum in a sandbox is worth. -/
noncomputable def Tryd.pinned : Pinned := { name := "ytkggmcbjpmhmcaadoor", sum := "2df481be0e560c7fa23c4fc8b7499d1e1668a5ed22c2f7eed6d9d8269f6c54f5", checked := Tryd.checked }
namespace Rows
def none {H : Type} : Left H := { results := [], args := [] }

/- WHAT THE LISTED PACKAGE-LEVEL VARIABLES READ AS WHEN THE CALL BEGINS. Each datum BY PROGRAM (the guide's laid-datum.mjs) off the statement by which the dump's own 'gosem.cut.vars' lays the variable. In a bare row this is a premise. The card (YtkggmcbjpmhmcaaDoorCards.lean) ties it to the program's text. -/
def laid_loop_example_entail_impl_errApart {H : Type} : DataW H := .iface "*errors.errorString" (.ptr (.agg [.lit (.string [116, 104, 101, 114, 101, 32, 105, 115, 32, 110, 111, 32, 115, 104, 97, 112, 101, 32, 105, 110, 32, 119, 104, 105, 99, 104, 32, 98, 111, 116, 104, 32, 97, 114, 101])]))

/-- 'laws.FnShapeJoin': WHATEVER THE INPUT: true; the input reads as it did. -/
def fnShapeJoinSpec : ChangeSpec := { name := "fnShapeJoin", vars := ["loop.example/entail/impl.errApart"], fn := fun _ => fun
  | [d1, d2, g1] => { results := [.lit (.bool true)], args := [d1, d2], vars := [g1] }
  | _ => none }
def fnShapeJoinRow : OpenClaim := { program := "ytkggmcbjpmhmcaadoor", sum := "2df481be0e560c7fa23c4fc8b7499d1e1668a5ed22c2f7eed6d9d8269f6c54f5", func := "loop.example/entail/laws.FnShapeJoin", spec := "fnShapeJoin", inPlace := ["internal/reflectlite.TypeOf"], unfollowed := true, recurses := true, named := ["loop.example/entail/impl.errApart"], ifaces := true, apart := false, laid := [("loop.example/entail/impl.errApart", laid_loop_example_entail_impl_errApart)] }
def FnShapeJoinSaid : Prop := fnShapeJoinRow.holds Tryd.pinned (OpenSpec.ofChange fnShapeJoinSpec)

/-- ITS FALSE NEIGHBOUR: 'it returns false'. Refute it at one input. -/
def fnShapeJoinWrong : ChangeSpec := { name := "fnShapeJoin", vars := ["loop.example/entail/impl.errApart"], fn := fun _ => fun
  | [d1, d2, g1] => { results := [.lit (.bool false)], args := [d1, d2], vars := [g1] }
  | _ => none }
def FnShapeJoinWrongFalsely : Prop := fnShapeJoinRow.holds Tryd.pinned (OpenSpec.ofChange fnShapeJoinWrong)

/-- 'laws.FnExactShapeJoin': WHATEVER THE INPUT: true; the input reads as it did. -/
def fnExactShapeJoinSpec : ChangeSpec := { name := "fnExactShapeJoin", vars := ["loop.example/entail/impl.errApart"], fn := fun _ => fun
  | [d1, d2, d3, g1] => { results := [.lit (.bool true)], args := [d1, d2, d3], vars := [g1] }
  | _ => none }
def fnExactShapeJoinRow : OpenClaim := { program := "ytkggmcbjpmhmcaadoor", sum := "2df481be0e560c7fa23c4fc8b7499d1e1668a5ed22c2f7eed6d9d8269f6c54f5", func := "loop.example/entail/laws.FnExactShapeJoin", spec := "fnExactShapeJoin", inPlace := ["internal/reflectlite.TypeOf"], unfollowed := true, recurses := true, named := ["loop.example/entail/impl.errApart"], ifaces := true, apart := false, laid := [("loop.example/entail/impl.errApart", laid_loop_example_entail_impl_errApart)] }
def FnExactShapeJoinSaid : Prop := fnExactShapeJoinRow.holds Tryd.pinned (OpenSpec.ofChange fnExactShapeJoinSpec)

/-- ITS FALSE NEIGHBOUR: 'it returns false'. Refute it at one input. -/
def fnExactShapeJoinWrong : ChangeSpec := { name := "fnExactShapeJoin", vars := ["loop.example/entail/impl.errApart"], fn := fun _ => fun
  | [d1, d2, d3, g1] => { results := [.lit (.bool false)], args := [d1, d2, d3], vars := [g1] }
  | _ => none }
def FnExactShapeJoinWrongFalsely : Prop := fnExactShapeJoinRow.holds Tryd.pinned (OpenSpec.ofChange fnExactShapeJoinWrong)

/- THE SECOND FORM. 'bulk': how many values and letters a reading holds, each counted each time it is reached (what is shared counts as often as it is met; a slice's spare places count too). A statement '..UptoSaid' is the law's where the arguments, and the package variables that the reading takes, are together of bulk at most 1048576: NARROWER than '..Said'. Prove '..Said' where nothing that the law and all that it calls make is longer than what came in: it says more and counts as full. Else prove '..UptoSaid'. A law counts once. -/
mutual
def uptoBulk {H : Type} : DataW H → Nat
  | .lit (.string bytes) => bytes.length + 1
  | .lit _ => 1
  | .nil => 1
  | .ptr d => uptoBulk d + 1
  | .slice elems spare => uptoBulkAll elems + uptoBulkAll spare + 1
  | .agg parts => uptoBulkAll parts + 1
  | .iface _ d => uptoBulk d + 1
  | .map entries => uptoBulkEntries entries + 1
  | .held _ => 1
def uptoBulkAll {H : Type} : List (DataW H) → Nat
  | [] => 0
  | d :: r => uptoBulk d + uptoBulkAll r
def uptoBulkEntries {H : Type} : List (Lit × DataW H) → Nat
  | [] => 0
  | x :: r => uptoBulkEntry x + uptoBulkEntries r
def uptoBulkEntry {H : Type} : Lit × DataW H → Nat
  | (.string bytes, d) => bytes.length + uptoBulk d + 1
  | (_, d) => uptoBulk d + 1
 end
def uptoSmall : (H : Type) → List (DataW H) → Bool := fun _ ds => decide (uptoBulkAll ds ≤ 1048576)
def OpenSpec.upto (s : _root_.Go.ChangeSpec) : _root_.Go.OpenSpec := { _root_.Go.OpenSpec.ofChange s with cond := some uptoSmall }

/-- 'laws.FnShapeJoin', WHERE WHAT IT READS IS OF BULK AT MOST 1048576: true; the input reads as it did. -/
def fnShapeJoinUptoRow : OpenClaim := { program := "ytkggmcbjpmhmcaadoor", sum := "2df481be0e560c7fa23c4fc8b7499d1e1668a5ed22c2f7eed6d9d8269f6c54f5", func := "loop.example/entail/laws.FnShapeJoin", spec := "fnShapeJoin", inPlace := ["internal/reflectlite.TypeOf"], unfollowed := true, recurses := true, named := ["loop.example/entail/impl.errApart"], ifaces := true, apart := false, laid := [("loop.example/entail/impl.errApart", laid_loop_example_entail_impl_errApart)], narrowed := true }
def FnShapeJoinUptoSaid : Prop := fnShapeJoinUptoRow.holds Tryd.pinned (OpenSpec.upto fnShapeJoinSpec)

/-- 'laws.FnExactShapeJoin', WHERE WHAT IT READS IS OF BULK AT MOST 1048576: true; the input reads as it did. -/
def fnExactShapeJoinUptoRow : OpenClaim := { program := "ytkggmcbjpmhmcaadoor", sum := "2df481be0e560c7fa23c4fc8b7499d1e1668a5ed22c2f7eed6d9d8269f6c54f5", func := "loop.example/entail/laws.FnExactShapeJoin", spec := "fnExactShapeJoin", inPlace := ["internal/reflectlite.TypeOf"], unfollowed := true, recurses := true, named := ["loop.example/entail/impl.errApart"], ifaces := true, apart := false, laid := [("loop.example/entail/impl.errApart", laid_loop_example_entail_impl_errApart)], narrowed := true }
def FnExactShapeJoinUptoSaid : Prop := fnExactShapeJoinUptoRow.holds Tryd.pinned (OpenSpec.upto fnExactShapeJoinSpec)

end Rows
end Go.Proofs.YtkggmcbjpmhmcaaDoor
