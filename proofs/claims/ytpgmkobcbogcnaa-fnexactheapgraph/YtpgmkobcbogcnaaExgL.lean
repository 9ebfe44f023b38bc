/-
  What the law on HeapGraph needs besides: empty lists are marked and held; what lies apart stays.
-/
import Derived.Test.YtpgmkobcbogcnaaMrkO
import Derived.Test.YtpgmkobcbogcnaaGrImpl
import Derived.Test.YtpgmkobcbogcnaaGrSpec
namespace Go.Proofs.Ytpgmkobcbogcnaa
open Go.ChangeShapes Go.WideShapes Go.ChangeAt Go.RowKit

theorem frozen_past (w : World) (b o : Nat) (h : w.heap.size ≤ b) : w.frozen? ⟨b, o, none⟩ = false := by
  simp [World.frozen?, Array.getElem?_eq_none h]
theorem sl_zero {α : Type} {R : Rep α} {D : Nat → Prop} (w : World) (a : Option Addr) : SlAt R D w a 0 [] := ⟨rfl, by omega, .inl rfl⟩
theorem GrRow.agree {w w' : World} {G n k : Nat} {gs : List Ob} {bs : Nat → Nat} (h : GrRow w G n gs k bs) (hG : w'.heap[G]? = w.heap[G]?) (hb : ∀ j, j < k → w'.heap[bs j]? = w.heap[bs j]?) (hs : w.heap.size ≤ w'.heap.size) : GrRow w' G n gs k bs :=
  ⟨fun j x hj hx => by
    obtain ⟨h1, h2, h3, h4⟩ := h.row j x hj hx
    exact ⟨(World.cell?_of_block (a := ⟨G, _, none⟩) hG).trans h1, (World.cell?_of_block (a := ⟨G, _, none⟩) hG).trans h2, h3, h4.keep (hb j hj)⟩, fun j hj => by
    obtain ⟨⟨v, hv⟩, hf⟩ := h.free j hj
    exact ⟨⟨v, (World.cell?_of_block (a := ⟨G, _, none⟩) hG).trans hv⟩, (World.frozen?_of_block (a := ⟨G, j, none⟩) hG).trans hf⟩, h.inc, fun j hj => ⟨(h.gt j hj).1, Nat.lt_of_lt_of_le (h.gt j hj).2 hs⟩⟩
def lenOf (gs : List Ob) (j : Nat) : Nat := (gs.getD j (0, [])).2.length
theorem GrRow.g {w : World} {G n : Nat} {gs : List Ob} {bs : Nat → Nat} (h : GrRow w G n gs n bs) (hn : gs.length = n) : ∃ cls F, GrF w G n (lenOf gs) bs cls F := ⟨_, _, h.f hn⟩
theorem WrV.g {w : World} {g : Nat} {xs : List Vl} (h : WrV w g xs) : ∃ F, WrF w g xs.length F := ⟨_, h.f⟩
theorem lenOf_le {gs : List Ob} (h : ∀ x ∈ gs, x.2.length ≤ 1048576) (j : Nat) (hj : j < gs.length) : lenOf gs j ≤ 1048576 := by
  rw [lenOf, List.getD_eq_getElem?_getD, List.getElem?_eq_getElem hj]
  exact h _ (List.getElem_mem hj)

theorem markNilO (k : Int) (w : World) : Calls Try.prog 23 #[.slice none 0 0, .int .i64 k] w fun e w' => e = .returned (.int .i64 k) ∧ w = w' := by
  go_enter Try.func23, Try.ntmps23
  go_wp2_with fail
  refine wp_loop_rounds 1 ?_
  rw [rounds_succ]
  go_wp2_with fail
  go_ret
  exact ⟨rfl, rfl⟩
theorem markNilV (k : Int) (w : World) : Calls Try.prog 24 #[.slice none 0 0, .int .i64 k] w fun e w' => e = .returned (.int .i64 k) ∧ w = w' := by
  go_enter Try.func24, Try.ntmps24
  go_wp2_with fail
  refine wp_loop_rounds 1 ?_
  rw [rounds_succ]
  go_wp2_with fail
  go_ret
  exact ⟨rfl, rfl⟩
theorem heldNilO (k : Int) (w : World) : Calls Try.prog 25 #[.slice none 0 0, .int .i64 k] w fun e w' => e = .returned (.int .i64 k) ∧ w = w' := by
  go_enter Try.func25, Try.ntmps25
  go_wp2_with fail
  refine wp_loop_rounds 1 ?_
  rw [rounds_succ]
  go_wp2_with fail
  go_ret
  exact ⟨rfl, rfl⟩
theorem heldNilV (k : Int) (w : World) : Calls Try.prog 26 #[.slice none 0 0, .int .i64 k] w fun e w' => e = .returned (.int .i64 k) ∧ w = w' := by
  go_enter Try.func26, Try.ntmps26
  go_wp2_with fail
  refine wp_loop_rounds 1 ?_
  rw [rounds_succ]
  go_wp2_with fail
  go_ret
  exact ⟨rfl, rfl⟩

end Go.Proofs.Ytpgmkobcbogcnaa
