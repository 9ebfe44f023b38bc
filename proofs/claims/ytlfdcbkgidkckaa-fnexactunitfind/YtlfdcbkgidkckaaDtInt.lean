/-
  Slices of ints: copied into new memory, held against another one that is the same, their size; and the words in which the same is said of other data.
-/
import Derived.Test.YtlfdcbkgidkckaaCopy
import Derived.Test.YtlfdcbkgidkckaaRdRep
import Derived.Test.YtlfdcbkgidkckaaEqCls
namespace Go.Proofs.Ytlfdcbkgidkckaa
open Go.ChangeShapes Go.WideShapes Go.ChangeAt Go.RowKit

/-- What a copy of a slice gives. -/
def ToL {α : Type} (R : Rep α) (w : World) (len : Nat) (xs : List α) (e : Ending) (w' : World) : Prop :=
  ∃ a c, e = .returned (.slice a len (len + c)) ∧ SlAt R (fun b => w.heap.size ≤ b) w' a len xs ∧ Below w.heap.size w w'
/-- What is left of so many, behind something. -/
def SzP (w : World) (l : Int) (P : Prop) (e : Ending) (w' : World) : Prop :=
  ∃ r : Int, e = .returned (.int .i64 r) ∧ -1 ≤ r ∧ r ≤ l ∧ (0 ≤ r → P) ∧ Below w.heap.size w w'
theorem SlAt.set {α : Type} {R : Rep α} {D : Nat → Prop} {w : World} {a : Option Addr} {len : Nat} {xs : List α} (h : SlAt R D w a len xs) (p : Addr) (v : Value) (hp : ¬ D p.block) : SlAt R D (w.setCell p v) a len xs :=
  h.keep fun b o hd _ => World.cell?_setCell_other w _ _ _ (by intro e; exact hp (by rw [e]; exact hd))

theorem toLInt (a : Option Addr) (len cap : Nat) (xs : List Int) (w : World) {D : Nat → Prop} (h : SlAt intR D w a len xs) (hs : (Rep.list intR).small xs) :
    Calls Try.prog 23 #[.slice a len cap] w fun e w' => ToL intR w len xs e w' := by
  have hlen : len ≤ 1048576 := by rw [← h.size]; exact hs.1
  refine (toInts a len cap xs w h.ints hlen).mono ?_
  rintro e w' ⟨he, hr, hb, _⟩
  exact ⟨_, 0, he, (hr.ints h.size hlen h.ints.fits (D := fun b => w.heap.size ≤ b) (Nat.le_refl _)).sl, hb⟩
theorem eqLInt (a : Option Addr) (la ca : Nat) (b : Option Addr) (lb cb : Nat) (xs : List Int) (w : World) {D E : Nat → Prop} (hx : SlAt intR D w a la xs) (hy : SlAt intR E w b lb xs) :
    Calls Try.prog 27 #[.slice a la ca, .slice b lb cb] w fun e w' => e = .returned (.bool true) ∧ Below w.heap.size w w' := by
  refine (eqInts a la ca xs b lb cb xs w hx.ints hy.ints).mono ?_
  rintro e w' ⟨he, n, hw⟩
  exact ⟨by rw [he, decide_eq_true rfl], below_drawn n hw⟩
theorem szLInt (a : Option Addr) (len cap : Nat) (xs : List Int) (l : Int) (w : World) {D : Nat → Prop} (h : SlAt intR D w a len xs) (k0 : 0 ≤ l) (k1 : l ≤ 1048576) :
    Calls Try.prog 19 #[.slice a len cap, .int .i64 l] w fun e w' => SzP w l ((Rep.list intR).small xs) e w' := by
  refine (szInts a len cap l w h.room k0 k1).mono ?_
  rintro e w' ⟨he, rfl⟩
  have hs := h.size
  by_cases hl : l < len
  · exact ⟨-1, by rw [he, leftOf, if_pos hl], by omega, by omega, by omega, Below.refl _ _⟩
  · exact ⟨l - len, by rw [he, leftOf, if_neg hl], by omega, by omega, fun _ => ⟨by omega, fun _ _ => trivial⟩, Below.refl _ _⟩

theorem rd_int : Reads 3 .int := reads_int Try.underlying3
theorem rd_bool : Reads 4 .bool := reads_bool Try.underlying4
theorem rdL_Int : Reads 23 (.list .int) := reads_list Try.underlying23 (by kernel_rfl) rd_int

end Go.Proofs.Ytlfdcbkgidkckaa
