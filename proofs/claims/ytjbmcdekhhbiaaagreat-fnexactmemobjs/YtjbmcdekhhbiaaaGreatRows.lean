/-
  No cell of these rows narrows 'for every input' (looked for: loops, veiled, ifaces, maps, wideKeys, modest, calm, conditions, laid).
  DERIVED. THE GIVEN ROWS OF THIS SEAT. 3 by the template 'for every input the law returns true; each argument reads behind the call as it read before'; 0 by the template 'total and deterministic' (their statements: YtjbmcdekhhbiaaaGreatTotals.lean).
  GIVEN WITH THE SEED: the statements are not yours to turn. If you find one false, say at which input.
  Laid BY PROGRAM, IN A SANDBOX (cutbox-rows.mjs): the forced cells as the released guide's own fill.sh prints them over the translation dc0843c980977de6… (all of the seat's roots in one cut). By AI agents, Wed Nov 11 2026. No macro, syntax, notation, axiom, sorry.
-/
import Derived.Test.YtjbmcdekhhbiaaaGreatChecked
import GoSem.Claim
import GoSem.ClaimJoined
import GoSem.ClaimMapViews
import Derived.JoinedTies
import Derived.KernelRfl
namespace Go.Proofs.YtjbmcdekhhbiaaaGreat
/- THE CELL 'sum', in the pinned program and in every row, IS THE sha256 OF THE DUMP (.gsa) THAT YtjbmcdekhhbiaaaGreatProg.lean LOADS. Nothing in Lean hashes anything: it is a label: what it is worth is what the hold of that sum in a sandbox is worth. -/
noncomputable def Tryz.pinned : Pinned := { name := "ytjbmcdekhhbiaaagreat", sum := "dc0843c980977de6d8f8583ce5c5d70434709c594280bbaf3376a80ea7b8cccb", checked := Tryz.checked }
namespace Rows
def none {H : Type} : Left H := { results := [], args := [] }

/-- 'laws.FnExactMemMake': WHATEVER THE INPUT: true; the input reads as it did. -/
def fnExactMemMakeSpec : ChangeSpec := { name := "fnExactMemMake", fn := fun _ => fun
  | [d1, d2, d3, d4, d5] => { results := [.lit (.bool true)], args := [d1, d2, d3, d4, d5] }
  | _ => none }
def fnExactMemMakeRow : OpenClaim := { program := "ytjbmcdekhhbiaaagreat", sum := "dc0843c980977de6d8f8583ce5c5d70434709c594280bbaf3376a80ea7b8cccb", func := "loop.example/entail/laws.FnExactMemMake", spec := "fnExactMemMake", unfollowed := true, recurses := true, apart := false }
def FnExactMemMakeSaid : Prop := fnExactMemMakeRow.holds Tryz.pinned (OpenSpec.ofChange fnExactMemMakeSpec)

/-- ITS FALSE NEIGHBOUR: 'it returns false'. Refute it at one input. -/
def fnExactMemMakeWrong : ChangeSpec := { name := "fnExactMemMake", fn := fun _ => fun
  | [d1, d2, d3, d4, d5] => { results := [.lit (.bool false)], args := [d1, d2, d3, d4, d5] }
  | _ => none }
def FnExactMemMakeWrongFalsely : Prop := fnExactMemMakeRow.holds Tryz.pinned (OpenSpec.ofChange fnExactMemMakeWrong)

/-- 'laws.FnExactMemPut': WHATEVER THE INPUT: true; the input reads as it did. -/
def fnExactMemPutSpec : ChangeSpec := { name := "fnExactMemPut", fn := fun _ => fun
  | [d1, d2, d3, d4, d5] => { results := [.lit (.bool true)], args := [d1, d2, d3, d4, d5] }
  | _ => none }
def fnExactMemPutRow : OpenClaim := { program := "ytjbmcdekhhbiaaagreat", sum := "dc0843c980977de6d8f8583ce5c5d70434709c594280bbaf3376a80ea7b8cccb", func := "loop.example/entail/laws.FnExactMemPut", spec := "fnExactMemPut", unfollowed := true, recurses := true, apart := false }
def FnExactMemPutSaid : Prop := fnExactMemPutRow.holds Tryz.pinned (OpenSpec.ofChange fnExactMemPutSpec)

/-- ITS FALSE NEIGHBOUR: 'it returns false'. Refute it at one input. -/
def fnExactMemPutWrong : ChangeSpec := { name := "fnExactMemPut", fn := fun _ => fun
  | [d1, d2, d3, d4, d5] => { results := [.lit (.bool false)], args := [d1, d2, d3, d4, d5] }
  | _ => none }
def FnExactMemPutWrongFalsely : Prop := fnExactMemPutRow.holds Tryz.pinned (OpenSpec.ofChange fnExactMemPutWrong)

/-- 'laws.FnExactMemObjs': WHATEVER THE INPUT: true; the input reads as it did. -/
def fnExactMemObjsSpec : ChangeSpec := { name := "fnExactMemObjs", fn := fun _ => fun
  | [d1, d2] => { results := [.lit (.bool true)], args := [d1, d2] }
  | _ => none }
def fnExactMemObjsRow : OpenClaim := { program := "ytjbmcdekhhbiaaagreat", sum := "dc0843c980977de6d8f8583ce5c5d70434709c594280bbaf3376a80ea7b8cccb", func := "loop.example/entail/laws.FnExactMemObjs", spec := "fnExactMemObjs", unfollowed := true, recurses := true, apart := false }
def FnExactMemObjsSaid : Prop := fnExactMemObjsRow.holds Tryz.pinned (OpenSpec.ofChange fnExactMemObjsSpec)

/-- ITS FALSE NEIGHBOUR: 'it returns false'. Refute it at one input. -/
def fnExactMemObjsWrong : ChangeSpec := { name := "fnExactMemObjs", fn := fun _ => fun
  | [d1, d2] => { results := [.lit (.bool false)], args := [d1, d2] }
  | _ => none }
def FnExactMemObjsWrongFalsely : Prop := fnExactMemObjsRow.holds Tryz.pinned (OpenSpec.ofChange fnExactMemObjsWrong)

/- THE SECOND FORM. 'bulk': how many values and letters a reading holds, each counted each time it is reached (what is shared counts as often as it is met; a slice's spare places count too). A statement '..UptoSaid' is the law's where the arguments, and the package variables that the reading takes, are together of bulk at most 1048576: NARROWER than '..Said'. Prove '..Said' where nothing that the law and all that it calls make is longer than what came in: it says more and counts as full. Else prove '..UptoSaid'. A law counts once. -/
mutual
def uptoBulk {H : Type} : DataW H → Nat
  | .lit (.string bytes) => bytes.length + 1
  | .lit _ => 1
  | .nil => 1
  | .ptr d => uptoBulk d + 1
  | .slice elems spare => uptoBulkAll elems + uptoBulkAll spare + 1
  | .agg parts => uptoBulkAll parts + 1
  | .iface _ d => uptoBulk d + 1
  | .map entries => uptoBulkEntries entries + 1
  | .held _ => 1
def uptoBulkAll {H : Type} : List (DataW H) → Nat
  | [] => 0
  | d :: r => uptoBulk d + uptoBulkAll r
def uptoBulkEntries {H : Type} : List (Lit × DataW H) → Nat
  | [] => 0
  | x :: r => uptoBulkEntry x + uptoBulkEntries r
def uptoBulkEntry {H : Type} : Lit × DataW H → Nat
  | (.string bytes, d) => bytes.length + uptoBulk d + 1
  | (_, d) => uptoBulk d + 1
 end
def uptoSmall : (H : Type) → List (DataW H) → Bool := fun _ ds => decide (uptoBulkAll ds ≤ 1048576)
def OpenSpec.upto (s : _root_.Go.ChangeSpec) : _root_.Go.OpenSpec := { _root_.Go.OpenSpec.ofChange s with cond := some uptoSmall }

/-- 'laws.FnExactMemMake', WHERE WHAT IT READS IS OF BULK AT MOST 1048576: true; the input reads as it did. -/
def fnExactMemMakeUptoRow : OpenClaim := { program := "ytjbmcdekhhbiaaagreat", sum := "dc0843c980977de6d8f8583ce5c5d70434709c594280bbaf3376a80ea7b8cccb", func := "loop.example/entail/laws.FnExactMemMake", spec := "fnExactMemMake", unfollowed := true, recurses := true, apart := false, narrowed := true }
def FnExactMemMakeUptoSaid : Prop := fnExactMemMakeUptoRow.holds Tryz.pinned (OpenSpec.upto fnExactMemMakeSpec)

/-- 'laws.FnExactMemPut', WHERE WHAT IT READS IS OF BULK AT MOST 1048576: true; the input reads as it did. -/
def fnExactMemPutUptoRow : OpenClaim := { program := "ytjbmcdekhhbiaaagreat", sum := "dc0843c980977de6d8f8583ce5c5d70434709c594280bbaf3376a80ea7b8cccb", func := "loop.example/entail/laws.FnExactMemPut", spec := "fnExactMemPut", unfollowed := true, recurses := true, apart := false, narrowed := true }
def FnExactMemPutUptoSaid : Prop := fnExactMemPutUptoRow.holds Tryz.pinned (OpenSpec.upto fnExactMemPutSpec)

/-- 'laws.FnExactMemObjs', WHERE WHAT IT READS IS OF BULK AT MOST 1048576: true; the input reads as it did. -/
def fnExactMemObjsUptoRow : OpenClaim := { program := "ytjbmcdekhhbiaaagreat", sum := "dc0843c980977de6d8f8583ce5c5d70434709c594280bbaf3376a80ea7b8cccb", func := "loop.example/entail/laws.FnExactMemObjs", spec := "fnExactMemObjs", unfollowed := true, recurses := true, apart := false, narrowed := true }
def FnExactMemObjsUptoSaid : Prop := fnExactMemObjsUptoRow.holds Tryz.pinned (OpenSpec.upto fnExactMemObjsSpec)

end Rows
end Go.Proofs.YtjbmcdekhhbiaaaGreat
