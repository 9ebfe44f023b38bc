/-
  What the laws on classes and types draw of a code, whatever the code: a list of classes, not empty, and two numbers.
-/
import Derived.Test.YtilceojilhmcgaaDrOff
namespace Go.Proofs.Ytilceojilhmcgaa
open Go.ChangeShapes Go.WideShapes Go.ChangeAt Go.RowKit

/-- What is drawn lies in new memory. -/
def DrawnUp (w : World) (e : Ending) (w' : World) : Prop :=
  ∃ a len cap L x y, e = .returned (.tuple #[.slice a len cap, .int .i64 x, .int .i64 y]) ∧ 1 ≤ len ∧ len ≤ 10 ∧ ClsAt (fun b => w.heap.size < b) (fun b => w.heap.size < b) w' a len L ∧ (-1000 ≤ x ∧ x ≤ 1000) ∧ (-1000 ≤ y ∧ y ≤ 1000) ∧ Below w.heap.size w w'

theorem Rd.cls {B R k : Nat} {w w' : World} {a : Option Addr} {len : Nat} {L : List Cl} {G : Nat} (h : ClsAt (fun b => G ≤ b) (fun b => G ≤ b) w a len L) (c : Stp B R k w w') (hR : R < G) : ClsAt (fun b => G ≤ b) (fun b => G ≤ b) w' a len L :=
  h.keep fun b o hb hl => c.ch.cell b o hl (by rcases hb with hb | hb <;> omega)

end Go.Proofs.Ytilceojilhmcgaa
