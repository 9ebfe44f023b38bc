/-
  HeapGraph of the program and of the specification, said alike, for the laws: of things that are not ok nothing.
-/
import Derived.Test.YtacapffmdmpnkaaRenM
import Derived.Test.YtacapffmdmpnkaaGrSpec
import Derived.Test.YtacapffmdmpnkaaLe
import Derived.Test.YtacapffmdmpnkaaDrHeap
import Derived.Test.YtacapffmdmpnkaaHpImpl
namespace Go.Proofs.Ytacapffmdmpnkaa
open Go.ChangeShapes Go.WideShapes Go.ChangeAt Go.RowKit

def gOf (X : List Ob) (r : List Vl) : List Ob := if heapB X r = true then graphOf X r else []
def rOf (X : List Ob) (r : List Vl) : List Vl := if heapB X r = true then rootsOf X r else []
/-- So few things and values that all fits. -/
structure Few (X : List Ob) (r : List Vl) : Prop where
  things : X.length ≤ 1000
  inn : ∀ x ∈ X, x.2.length ≤ 1000
  roots : r.length ≤ 1000
theorem Few.sx {X : List Ob} {r : List Vl} (h : Few X r) : (Rep.list obR).small X := ⟨by have := h.things; omega, fun x hx => ⟨trivial, by have := h.inn x hx; omega, fun _ _ => ⟨trivial, trivial⟩⟩⟩
theorem Few.sr {X : List Ob} {r : List Vl} (h : Few X r) : (Rep.list vaR).small r := ⟨by have := h.roots; omega, fun _ _ => ⟨trivial, trivial⟩⟩
theorem gOf_len {X : List Ob} {r : List Vl} : (gOf X r).length ≤ X.length := by
  unfold gOf
  by_cases ok : heapB X r = true
  · rw [if_pos ok, graph_len]; exact (ordr_at ok (X.length + 1)).le
  · rw [if_neg ok]; simp
theorem Few.gOf {X : List Ob} {r : List Vl} (h : Few X r) : Few (gOf X r) (rOf X r) := by
  refine ⟨Nat.le_trans gOf_len h.things, ?_, ?_⟩
  · intro x hx
    unfold Proofs.Ytacapffmdmpnkaa.gOf at hx
    by_cases ok : heapB X r = true
    · rw [if_pos ok, graphOf] at hx
      obtain ⟨n, _, rfl⟩ := List.mem_map.1 hx
      rw [List.length_map, valsOf, List.getD_eq_getElem?_getD]
      cases e : X[n.toNat - 1]? with
      | none => simp
      | some x => exact h.inn x (List.mem_of_getElem? e)
    · rw [if_neg ok] at hx
      cases hx
  · unfold rOf
    by_cases ok : heapB X r = true
    · rw [if_pos ok, rootsOf, List.length_map]; exact h.roots
    · rw [if_neg ok]; simp

/-- What is answered: these things and values, somewhere. -/
def AnG (gs : List Ob) (rs : List Vl) (w : World) (e : Ending) (w' : World) : Prop :=
  ∃ a c b d, e = .returned (.tuple #[.slice a gs.length c, .slice b rs.length d]) ∧ SlAt obR (fun _ => True) w' a gs.length gs ∧ SlAt vaR (fun _ => True) w' b rs.length rs ∧ Below w.heap.size w w'
theorem slNil {α : Type} {R : Rep α} {D : Nat → Prop} (w : World) (a : Option Addr) : SlAt R D w a 0 [] := ⟨rfl, by omega, .inl rfl⟩
theorem graphI (oa : Option Addr) (ol oc : Nat) (ra : Option Addr) (rl rc : Nat) (X : List Ob) (r : List Vl) (w : World) {D E : Nat → Prop} (h : SlAt obR D w oa ol X) (g : SlAt vaR E w ra rl r) (f : Few X r) :
    Calls Try.prog 6 #[.slice oa ol oc, .slice ra rl rc] w fun e w' => AnG (gOf X r) (rOf X r) w e w' := by
  refine (graphImpl oa ol oc ra rl rc X r w h g f.sx f.sr).mono ?_
  have f2 := f.gOf
  rintro e w' ⟨hb, ⟨ok, rfl⟩ | ⟨ok, G, R, bs, rfl, h1, h2, h3, h4, h5, h6⟩⟩
  · have e1 : gOf X r = [] := by unfold gOf; rw [ok]; rfl
    have e2 : rOf X r = [] := by unfold rOf; rw [ok]; rfl
    rw [e1, e2]
    exact ⟨none, 0, none, 0, rfl, slNil _ _, slNil _ _, hb⟩
  · have e1 : gOf X r = graphOf X r := by unfold gOf; rw [if_pos ok]
    have e2 : rOf X r = rootsOf X r := by unfold rOf; rw [if_pos ok]
    rw [e1, e2] at f2
    rw [e1, e2]
    exact ⟨_, _, _, _, rfl, (h1.sl rfl (by have := f2.things; omega) (fun x hx => by have := f2.inn x hx; omega)).mono (fun _ _ _ => trivial), (h2.sl (by have := f2.roots; omega)).mono (fun _ _ _ => trivial), hb⟩
theorem graphS (oa : Option Addr) (ol oc : Nat) (ra : Option Addr) (rl rc : Nat) (X : List Ob) (r : List Vl) (w : World) {D E : Nat → Prop} (h : SlAt obR D w oa ol X) (g : SlAt vaR E w ra rl r) (f : Few X r) :
    Calls Try.prog 7 #[.slice oa ol oc, .slice ra rl rc] w fun e w' => AnG (gOf X r) (rOf X r) w e w' := by
  refine (graphSpec oa ol oc ra rl rc X r w h g f.sx f.sr).mono ?_
  rintro e w' ⟨hb, ⟨ok, a, c, b, d, rfl⟩ | ⟨ok, a, c, b, d, rfl, h1, h2⟩⟩
  · have e1 : gOf X r = [] := by unfold gOf; rw [ok]; rfl
    have e2 : rOf X r = [] := by unfold rOf; rw [ok]; rfl
    rw [e1, e2]
    exact ⟨a, c, b, d, rfl, slNil _ _, slNil _ _, hb⟩
  · have e1 : gOf X r = graphOf X r := by unfold gOf; rw [if_pos ok]
    have e2 : rOf X r = rootsOf X r := by unfold rOf; rw [if_pos ok]
    rw [e1, e2]
    exact ⟨_, _, _, _, rfl, h1.mono (fun _ _ _ => trivial), h2.mono (fun _ _ _ => trivial), hb⟩
theorem gTwice (X : List Ob) (r : List Vl) : gOf (gOf X r) (rOf X r) = gOf X r ∧ rOf (gOf X r) (rOf X r) = rOf X r ∧ heapB (gOf X r) (rOf X r) = true := by
  by_cases ok : heapB X r = true
  · have e1 : gOf X r = graphOf X r := by unfold gOf; rw [if_pos ok]
    have e2 : rOf X r = rootsOf X r := by unfold rOf; rw [if_pos ok]
    have t := twice ok
    rw [e1, e2]
    refine ⟨?_, ?_, twice_ok⟩
    · unfold gOf; rw [if_pos twice_ok]; exact t.1
    · unfold rOf; rw [if_pos twice_ok]; exact t.2
  · have e1 : gOf X r = [] := by unfold gOf; rw [if_neg ok]
    have e2 : rOf X r = [] := by unfold rOf; rw [if_neg ok]
    rw [e1, e2]
    exact ⟨rfl, rfl, rfl⟩

end Go.Proofs.Ytacapffmdmpnkaa
