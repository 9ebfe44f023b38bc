/-
  DERIVED. GIVEN WITH THE SEED: THE CARDS: each row of YtkggmcbjpmhmcaaDoorRows.lean that lists a variable, with what it lists TIED to the program's text (the seventh form; the later family's looks); each row that meets fmt, with fmt's text TOLD by the authors' own Lean function (tested against real Go, not proved from fmt's source: count such statements apart). THE CARD IS WHAT COUNTS. Prove the row's statement (the work); the ties are given (YtkggmcbjpmhmcaaDoorTie.lean); close each card by the builder's one call (the guide's Derived/Test/ToyasCard.lean, 'card_holds'). Laid BY PROGRAM, IN A SANDBOX (cutbox-door.mjs). By AI agents, Wed Nov 11 2026. No macro, syntax, notation, axiom, sorry.
-/
import Derived.Test.YtkggmcbjpmhmcaaDoorRows
import GoSem.ClaimSeven
namespace Go.Proofs.YtkggmcbjpmhmcaaDoor
namespace Rows

/-- THE TIED CARD OF 'laws.FnShapeJoin'. -/
def fnShapeJoinCard : Claim7 := { stood := { row := fnShapeJoinRow, standIns := [], harness := (true, "6cf4b4d93aabc22223be27a7a309e9206fac07dd806312567a237daf8d846303"), looks := true }, kinds := [], alts := [], laidByText := true, laidKinds := [.sentinel], laidTests := true, laidLooks := .later }
def FnShapeJoinCardSaid : Prop := Claim7.holds Tryd.pinned (.plain (OpenSpec.ofChange fnShapeJoinSpec)) fnShapeJoinCard

/-- THE TIED CARD OF 'laws.FnExactShapeJoin'. -/
def fnExactShapeJoinCard : Claim7 := { stood := { row := fnExactShapeJoinRow, standIns := [], harness := (true, "6cf4b4d93aabc22223be27a7a309e9206fac07dd806312567a237daf8d846303"), looks := true }, kinds := [], alts := [], laidByText := true, laidKinds := [.sentinel], laidTests := true, laidLooks := .later }
def FnExactShapeJoinCardSaid : Prop := Claim7.holds Tryd.pinned (.plain (OpenSpec.ofChange fnExactShapeJoinSpec)) fnExactShapeJoinCard

/-- THE SECOND FORM's CARD OF 'laws.FnShapeJoin'. -/
def fnShapeJoinUptoCard : Claim7 := { stood := { row := fnShapeJoinUptoRow, standIns := [], harness := (true, "6cf4b4d93aabc22223be27a7a309e9206fac07dd806312567a237daf8d846303"), looks := true }, kinds := [], alts := [], laidByText := true, laidKinds := [.sentinel], laidTests := true, laidLooks := .later }
def FnShapeJoinUptoCardSaid : Prop := Claim7.holds Tryd.pinned (.plain (OpenSpec.upto fnShapeJoinSpec)) fnShapeJoinUptoCard

/-- THE SECOND FORM's CARD OF 'laws.FnExactShapeJoin'. -/
def fnExactShapeJoinUptoCard : Claim7 := { stood := { row := fnExactShapeJoinUptoRow, standIns := [], harness := (true, "6cf4b4d93aabc22223be27a7a309e9206fac07dd806312567a237daf8d846303"), looks := true }, kinds := [], alts := [], laidByText := true, laidKinds := [.sentinel], laidTests := true, laidLooks := .later }
def FnExactShapeJoinUptoCardSaid : Prop := Claim7.holds Tryd.pinned (.plain (OpenSpec.upto fnExactShapeJoinSpec)) fnExactShapeJoinUptoCard
end Rows
end Go.Proofs.YtkggmcbjpmhmcaaDoor
