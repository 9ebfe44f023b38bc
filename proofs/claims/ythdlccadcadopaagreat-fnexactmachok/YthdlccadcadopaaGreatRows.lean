/-
  No cell of these rows narrows 'for every input' (looked for: loops, veiled, ifaces, maps, wideKeys, modest, calm, conditions, laid).
  DERIVED. THE GIVEN ROWS OF THIS SEAT. 2 by the template 'for every input the law returns true; each argument reads behind the call as it read before'; 0 by the template 'total and deterministic' (their statements: YthdlccadcadopaaGreatTotals.lean).
  GIVEN WITH THE SEED: the statements are not yours to turn. If you find one false, say at which input.
  Laid BY PROGRAM, IN A SANDBOX (cutbox-rows.mjs): the forced cells as the released guide's own fill.sh prints them over the translation 02306d78af027f97… (all of the seat's roots in one cut). By AI agents, Wed Nov 11 2026. No macro, syntax, notation, axiom, sorry.
-/
import Derived.Test.YthdlccadcadopaaGreatChecked
import GoSem.Claim
import GoSem.ClaimJoined
import GoSem.ClaimMapViews
import Derived.JoinedTies
import Derived.KernelRfl
namespace Go.Proofs.YthdlccadcadopaaGreat
/- THE CELL 'sum', in the pinned program and in every row, IS THE sha256 OF THE DUMP (.gsa) THAT YthdlccadcadopaaGreatProg.lean LOADS. Nothing in Lean hashes anything: it is a label: what it is worth is what the hold of that sum in a sandbox is worth. -/
noncomputable def Tryz.pinned : Pinned := { name := "ythdlccadcadopaagreat", sum := "02306d78af027f973e9c7b31d54fefb3996026318ba550e2a51fe7a754d30ab0", checked := Tryz.checked }
namespace Rows
def none {H : Type} : Left H := { results := [], args := [] }

/-- 'laws.FnExactMachNew': WHATEVER THE INPUT: true; the input reads as it did. -/
def fnExactMachNewSpec : ChangeSpec := { name := "fnExactMachNew", fn := fun _ => fun
  | [d] => { results := [.lit (.bool true)], args := [d] }
  | _ => none }
def fnExactMachNewRow : OpenClaim := { program := "ythdlccadcadopaagreat", sum := "02306d78af027f973e9c7b31d54fefb3996026318ba550e2a51fe7a754d30ab0", func := "loop.example/entail/laws.FnExactMachNew", spec := "fnExactMachNew", recurses := true, apart := false }
def FnExactMachNewSaid : Prop := fnExactMachNewRow.holds Tryz.pinned (OpenSpec.ofChange fnExactMachNewSpec)

/-- ITS FALSE NEIGHBOUR: 'it returns false'. Refute it at one input. -/
def fnExactMachNewWrong : ChangeSpec := { name := "fnExactMachNew", fn := fun _ => fun
  | [d] => { results := [.lit (.bool false)], args := [d] }
  | _ => none }
def FnExactMachNewWrongFalsely : Prop := fnExactMachNewRow.holds Tryz.pinned (OpenSpec.ofChange fnExactMachNewWrong)

/-- 'laws.FnExactMachOk': WHATEVER THE INPUT: true; the input reads as it did. -/
def fnExactMachOkSpec : ChangeSpec := { name := "fnExactMachOk", fn := fun _ => fun
  | [d1, d2] => { results := [.lit (.bool true)], args := [d1, d2] }
  | _ => none }
def fnExactMachOkRow : OpenClaim := { program := "ythdlccadcadopaagreat", sum := "02306d78af027f973e9c7b31d54fefb3996026318ba550e2a51fe7a754d30ab0", func := "loop.example/entail/laws.FnExactMachOk", spec := "fnExactMachOk", unfollowed := true, recurses := true, apart := false }
def FnExactMachOkSaid : Prop := fnExactMachOkRow.holds Tryz.pinned (OpenSpec.ofChange fnExactMachOkSpec)

/-- ITS FALSE NEIGHBOUR: 'it returns false'. Refute it at one input. -/
def fnExactMachOkWrong : ChangeSpec := { name := "fnExactMachOk", fn := fun _ => fun
  | [d1, d2] => { results := [.lit (.bool false)], args := [d1, d2] }
  | _ => none }
def FnExactMachOkWrongFalsely : Prop := fnExactMachOkRow.holds Tryz.pinned (OpenSpec.ofChange fnExactMachOkWrong)

/- THE SECOND FORM. 'bulk': how many values and letters a reading holds, each counted each time it is reached (what is shared counts as often as it is met; a slice's spare places count too). A statement '..UptoSaid' is the law's where the arguments, and the package variables that the reading takes, are together of bulk at most 1048576: NARROWER than '..Said'. Prove '..Said' where nothing that the law and all that it calls make is longer than what came in: it says more and counts as full. Else prove '..UptoSaid'. A law counts once. -/
mutual
def uptoBulk {H : Type} : DataW H → Nat
  | .lit (.string bytes) => bytes.length + 1
  | .lit _ => 1
  | .nil => 1
  | .ptr d => uptoBulk d + 1
  | .slice elems spare => uptoBulkAll elems + uptoBulkAll spare + 1
  | .agg parts => uptoBulkAll parts + 1
  | .iface _ d => uptoBulk d + 1
  | .map entries => uptoBulkEntries entries + 1
  | .held _ => 1
def uptoBulkAll {H : Type} : List (DataW H) → Nat
  | [] => 0
  | d :: r => uptoBulk d + uptoBulkAll r
def uptoBulkEntries {H : Type} : List (Lit × DataW H) → Nat
  | [] => 0
  | x :: r => uptoBulkEntry x + uptoBulkEntries r
def uptoBulkEntry {H : Type} : Lit × DataW H → Nat
  | (.string bytes, d) => bytes.length + uptoBulk d + 1
  | (_, d) => uptoBulk d + 1
 end
def uptoSmall : (H : Type) → List (DataW H) → Bool := fun _ ds => decide (uptoBulkAll ds ≤ 1048576)
def OpenSpec.upto (s : _root_.Go.ChangeSpec) : _root_.Go.OpenSpec := { _root_.Go.OpenSpec.ofChange s with cond := some uptoSmall }

/-- 'laws.FnExactMachNew', WHERE WHAT IT READS IS OF BULK AT MOST 1048576: true; the input reads as it did. -/
def fnExactMachNewUptoRow : OpenClaim := { program := "ythdlccadcadopaagreat", sum := "02306d78af027f973e9c7b31d54fefb3996026318ba550e2a51fe7a754d30ab0", func := "loop.example/entail/laws.FnExactMachNew", spec := "fnExactMachNew", recurses := true, apart := false, narrowed := true }
def FnExactMachNewUptoSaid : Prop := fnExactMachNewUptoRow.holds Tryz.pinned (OpenSpec.upto fnExactMachNewSpec)

/-- 'laws.FnExactMachOk', WHERE WHAT IT READS IS OF BULK AT MOST 1048576: true; the input reads as it did. -/
def fnExactMachOkUptoRow : OpenClaim := { program := "ythdlccadcadopaagreat", sum := "02306d78af027f973e9c7b31d54fefb3996026318ba550e2a51fe7a754d30ab0", func := "loop.example/entail/laws.FnExactMachOk", spec := "fnExactMachOk", unfollowed := true, recurses := true, apart := false, narrowed := true }
def FnExactMachOkUptoSaid : Prop := fnExactMachOkUptoRow.holds Tryz.pinned (OpenSpec.upto fnExactMachOkSpec)

end Rows
end Go.Proofs.YthdlccadcadopaaGreat
