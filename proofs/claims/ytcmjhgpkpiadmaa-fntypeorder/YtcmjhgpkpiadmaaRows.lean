/-
  No cell of these rows narrows 'for every input' (looked for: loops, veiled, ifaces, maps, wideKeys, modest, calm, conditions, laid).
  DERIVED. THE GIVEN ROWS OF THIS SEAT. 5 by the template 'for every input the law returns true; each argument reads behind the call as it read before'; 0 by the template 'total and deterministic' (their statements: YtcmjhgpkpiadmaaTotals.lean).
  GIVEN WITH THE SEED: the statements are not yours to turn. If you find one false, say at which input.
  Laid BY PROGRAM, IN A SANDBOX (cutbox-rows.mjs): the forced cells as the released guide's own fill.sh prints them over the translation f11cc139d761ec1e… (all of the seat's roots in one cut). By AI agents, Wed Nov 11 2026. No macro, syntax, notation, axiom, sorry.
-/
import Derived.Test.YtcmjhgpkpiadmaaChecked
import GoSem.Claim
import GoSem.ClaimJoined
import GoSem.ClaimMapViews
import Derived.JoinedTies
import Derived.KernelRfl
namespace Go.Proofs.Ytcmjhgpkpiadmaa
/- THE CELL 'sum', in the pinned program and in every row, IS THE sha256 OF THE DUMP (.gsa) THAT YtcmjhgpkpiadmaaProg.lean LOADS. Nothing in Lean hashes anything: it is a label: what it is worth is what the hold of that sum in a sandbox is worth. -/
noncomputable def Try.pinned : Pinned := { name := "ytcmjhgpkpiadmaa", sum := "f11cc139d761ec1eeb5df80c87a9ca769a81576a37239b3c7f0c9e5f628fe871", checked := Try.checked }
namespace Rows
def none {H : Type} : Left H := { results := [], args := [] }

/-- 'laws.FnTypeOrder': WHATEVER THE INPUT: true; the input reads as it did. -/
def fnTypeOrderSpec : ChangeSpec := { name := "fnTypeOrder", fn := fun _ => fun
  | [d1, d2] => { results := [.lit (.bool true)], args := [d1, d2] }
  | _ => none }
def fnTypeOrderRow : OpenClaim := { program := "ytcmjhgpkpiadmaa", sum := "f11cc139d761ec1eeb5df80c87a9ca769a81576a37239b3c7f0c9e5f628fe871", func := "loop.example/entail/laws.FnTypeOrder", spec := "fnTypeOrder", apart := false }
def FnTypeOrderSaid : Prop := fnTypeOrderRow.holds Try.pinned (OpenSpec.ofChange fnTypeOrderSpec)

/-- ITS FALSE NEIGHBOUR: 'it returns false'. Refute it at one input. -/
def fnTypeOrderWrong : ChangeSpec := { name := "fnTypeOrder", fn := fun _ => fun
  | [d1, d2] => { results := [.lit (.bool false)], args := [d1, d2] }
  | _ => none }
def FnTypeOrderWrongFalsely : Prop := fnTypeOrderRow.holds Try.pinned (OpenSpec.ofChange fnTypeOrderWrong)

/-- 'laws.FnTypeClass': WHATEVER THE INPUT: true; the input reads as it did. -/
def fnTypeClassSpec : ChangeSpec := { name := "fnTypeClass", fn := fun _ => fun
  | [d] => { results := [.lit (.bool true)], args := [d] }
  | _ => none }
def fnTypeClassRow : OpenClaim := { program := "ytcmjhgpkpiadmaa", sum := "f11cc139d761ec1eeb5df80c87a9ca769a81576a37239b3c7f0c9e5f628fe871", func := "loop.example/entail/laws.FnTypeClass", spec := "fnTypeClass", apart := false }
def FnTypeClassSaid : Prop := fnTypeClassRow.holds Try.pinned (OpenSpec.ofChange fnTypeClassSpec)

/-- ITS FALSE NEIGHBOUR: 'it returns false'. Refute it at one input. -/
def fnTypeClassWrong : ChangeSpec := { name := "fnTypeClass", fn := fun _ => fun
  | [d] => { results := [.lit (.bool false)], args := [d] }
  | _ => none }
def FnTypeClassWrongFalsely : Prop := fnTypeClassRow.holds Try.pinned (OpenSpec.ofChange fnTypeClassWrong)

/-- 'laws.FnTypeJoin': WHATEVER THE INPUT: true; the input reads as it did. -/
def fnTypeJoinSpec : ChangeSpec := { name := "fnTypeJoin", fn := fun _ => fun
  | [d] => { results := [.lit (.bool true)], args := [d] }
  | _ => none }
def fnTypeJoinRow : OpenClaim := { program := "ytcmjhgpkpiadmaa", sum := "f11cc139d761ec1eeb5df80c87a9ca769a81576a37239b3c7f0c9e5f628fe871", func := "loop.example/entail/laws.FnTypeJoin", spec := "fnTypeJoin", unfollowed := true, recurses := true, apart := false }
def FnTypeJoinSaid : Prop := fnTypeJoinRow.holds Try.pinned (OpenSpec.ofChange fnTypeJoinSpec)

/-- ITS FALSE NEIGHBOUR: 'it returns false'. Refute it at one input. -/
def fnTypeJoinWrong : ChangeSpec := { name := "fnTypeJoin", fn := fun _ => fun
  | [d] => { results := [.lit (.bool false)], args := [d] }
  | _ => none }
def FnTypeJoinWrongFalsely : Prop := fnTypeJoinRow.holds Try.pinned (OpenSpec.ofChange fnTypeJoinWrong)

/-- 'laws.FnExactTypeIn': WHATEVER THE INPUT: true; the input reads as it did. -/
def fnExactTypeInSpec : ChangeSpec := { name := "fnExactTypeIn", fn := fun _ => fun
  | [d1, d2, d3] => { results := [.lit (.bool true)], args := [d1, d2, d3] }
  | _ => none }
def fnExactTypeInRow : OpenClaim := { program := "ytcmjhgpkpiadmaa", sum := "f11cc139d761ec1eeb5df80c87a9ca769a81576a37239b3c7f0c9e5f628fe871", func := "loop.example/entail/laws.FnExactTypeIn", spec := "fnExactTypeIn", apart := false }
def FnExactTypeInSaid : Prop := fnExactTypeInRow.holds Try.pinned (OpenSpec.ofChange fnExactTypeInSpec)

/-- ITS FALSE NEIGHBOUR: 'it returns false'. Refute it at one input. -/
def fnExactTypeInWrong : ChangeSpec := { name := "fnExactTypeIn", fn := fun _ => fun
  | [d1, d2, d3] => { results := [.lit (.bool false)], args := [d1, d2, d3] }
  | _ => none }
def FnExactTypeInWrongFalsely : Prop := fnExactTypeInRow.holds Try.pinned (OpenSpec.ofChange fnExactTypeInWrong)

/-- 'laws.FnExactTypeJoin': WHATEVER THE INPUT: true; the input reads as it did. -/
def fnExactTypeJoinSpec : ChangeSpec := { name := "fnExactTypeJoin", fn := fun _ => fun
  | [d1, d2, d3] => { results := [.lit (.bool true)], args := [d1, d2, d3] }
  | _ => none }
def fnExactTypeJoinRow : OpenClaim := { program := "ytcmjhgpkpiadmaa", sum := "f11cc139d761ec1eeb5df80c87a9ca769a81576a37239b3c7f0c9e5f628fe871", func := "loop.example/entail/laws.FnExactTypeJoin", spec := "fnExactTypeJoin", unfollowed := true, recurses := true, apart := false }
def FnExactTypeJoinSaid : Prop := fnExactTypeJoinRow.holds Try.pinned (OpenSpec.ofChange fnExactTypeJoinSpec)

/-- ITS FALSE NEIGHBOUR: 'it returns false'. Refute it at one input. -/
def fnExactTypeJoinWrong : ChangeSpec := { name := "fnExactTypeJoin", fn := fun _ => fun
  | [d1, d2, d3] => { results := [.lit (.bool false)], args := [d1, d2, d3] }
  | _ => none }
def FnExactTypeJoinWrongFalsely : Prop := fnExactTypeJoinRow.holds Try.pinned (OpenSpec.ofChange fnExactTypeJoinWrong)

/- THE SECOND FORM. 'bulk': how many values and letters a reading holds, each counted each time it is reached (what is shared counts as often as it is met; a slice's spare places count too). A statement '..UptoSaid' is the law's where the arguments, and the package variables that the reading takes, are together of bulk at most 1048576: NARROWER than '..Said'. Prove '..Said' where nothing that the law and all that it calls make is longer than what came in: it says more and counts as full. Else prove '..UptoSaid'. A law counts once. -/
mutual
def uptoBulk {H : Type} : DataW H → Nat
  | .lit (.string bytes) => bytes.length + 1
  | .lit _ => 1
  | .nil => 1
  | .ptr d => uptoBulk d + 1
  | .slice elems spare => uptoBulkAll elems + uptoBulkAll spare + 1
  | .agg parts => uptoBulkAll parts + 1
  | .iface _ d => uptoBulk d + 1
  | .map entries => uptoBulkEntries entries + 1
  | .held _ => 1
def uptoBulkAll {H : Type} : List (DataW H) → Nat
  | [] => 0
  | d :: r => uptoBulk d + uptoBulkAll r
def uptoBulkEntries {H : Type} : List (Lit × DataW H) → Nat
  | [] => 0
  | x :: r => uptoBulkEntry x + uptoBulkEntries r
def uptoBulkEntry {H : Type} : Lit × DataW H → Nat
  | (.string bytes, d) => bytes.length + uptoBulk d + 1
  | (_, d) => uptoBulk d + 1
 end
def uptoSmall : (H : Type) → List (DataW H) → Bool := fun _ ds => decide (uptoBulkAll ds ≤ 1048576)
def OpenSpec.upto (s : _root_.Go.ChangeSpec) : _root_.Go.OpenSpec := { _root_.Go.OpenSpec.ofChange s with cond := some uptoSmall }

/-- 'laws.FnTypeOrder', WHERE WHAT IT READS IS OF BULK AT MOST 1048576: true; the input reads as it did. -/
def fnTypeOrderUptoRow : OpenClaim := { program := "ytcmjhgpkpiadmaa", sum := "f11cc139d761ec1eeb5df80c87a9ca769a81576a37239b3c7f0c9e5f628fe871", func := "loop.example/entail/laws.FnTypeOrder", spec := "fnTypeOrder", apart := false, narrowed := true }
def FnTypeOrderUptoSaid : Prop := fnTypeOrderUptoRow.holds Try.pinned (OpenSpec.upto fnTypeOrderSpec)

/-- 'laws.FnTypeClass', WHERE WHAT IT READS IS OF BULK AT MOST 1048576: true; the input reads as it did. -/
def fnTypeClassUptoRow : OpenClaim := { program := "ytcmjhgpkpiadmaa", sum := "f11cc139d761ec1eeb5df80c87a9ca769a81576a37239b3c7f0c9e5f628fe871", func := "loop.example/entail/laws.FnTypeClass", spec := "fnTypeClass", apart := false, narrowed := true }
def FnTypeClassUptoSaid : Prop := fnTypeClassUptoRow.holds Try.pinned (OpenSpec.upto fnTypeClassSpec)

/-- 'laws.FnTypeJoin', WHERE WHAT IT READS IS OF BULK AT MOST 1048576: true; the input reads as it did. -/
def fnTypeJoinUptoRow : OpenClaim := { program := "ytcmjhgpkpiadmaa", sum := "f11cc139d761ec1eeb5df80c87a9ca769a81576a37239b3c7f0c9e5f628fe871", func := "loop.example/entail/laws.FnTypeJoin", spec := "fnTypeJoin", unfollowed := true, recurses := true, apart := false, narrowed := true }
def FnTypeJoinUptoSaid : Prop := fnTypeJoinUptoRow.holds Try.pinned (OpenSpec.upto fnTypeJoinSpec)

/-- 'laws.FnExactTypeIn', WHERE WHAT IT READS IS OF BULK AT MOST 1048576: true; the input reads as it did. -/
def fnExactTypeInUptoRow : OpenClaim := { program := "ytcmjhgpkpiadmaa", sum := "f11cc139d761ec1eeb5df80c87a9ca769a81576a37239b3c7f0c9e5f628fe871", func := "loop.example/entail/laws.FnExactTypeIn", spec := "fnExactTypeIn", apart := false, narrowed := true }
def FnExactTypeInUptoSaid : Prop := fnExactTypeInUptoRow.holds Try.pinned (OpenSpec.upto fnExactTypeInSpec)

/-- 'laws.FnExactTypeJoin', WHERE WHAT IT READS IS OF BULK AT MOST 1048576: true; the input reads as it did. -/
def fnExactTypeJoinUptoRow : OpenClaim := { program := "ytcmjhgpkpiadmaa", sum := "f11cc139d761ec1eeb5df80c87a9ca769a81576a37239b3c7f0c9e5f628fe871", func := "loop.example/entail/laws.FnExactTypeJoin", spec := "fnExactTypeJoin", unfollowed := true, recurses := true, apart := false, narrowed := true }
def FnExactTypeJoinUptoSaid : Prop := fnExactTypeJoinUptoRow.holds Try.pinned (OpenSpec.upto fnExactTypeJoinSpec)

end Rows
end Go.Proofs.Ytcmjhgpkpiadmaa
