/-
  Data of the struct Shape: copied into new memory, held against another one that is the same, its size, and how it is read as it came in.
-/
import Derived.Test.YtkggmcbjpmhmcaaDoorDtInt
namespace Go.Proofs.YtkggmcbjpmhmcaaDoor
open Go.ChangeShapes Go.WideShapes Go.ChangeAt Go.RowKit

def ToRShape (w : World) (x0 : Bool) (l1 : Nat) (l2 : Nat) (xs1 : List Int) (xs2 : List Int) (e : Ending) (w' : World) : Prop :=
  ∃ na1 nc1 na2 nc2, e = .returned (.agg #[.bool x0, .slice na1 l1 (l1 + nc1), .slice na2 l2 (l2 + nc2)]) ∧ SlAt intR (fun b => w.heap.size ≤ b) w' na1 l1 xs1 ∧ SlAt intR (fun b => w.heap.size ≤ b) w' na2 l2 xs2 ∧ Below w.heap.size w w'

set_option maxHeartbeats 2000000 in
theorem toRShapeF (x0 : Bool) (a1 : Option Addr) (l1 c1 : Nat) (a2 : Option Addr) (l2 c2 : Nat) (xs1 : List Int) (xs2 : List Int) (w : World) {D : Nat → Prop} (h1 : SlAt intR D w a1 l1 xs1) (s1 : (Rep.list intR).small xs1) (h2 : SlAt intR D w a2 l2 xs2) (s2 : (Rep.list intR).small xs2) :
    Calls Tryd.prog 13 #[.agg #[.bool x0, .slice a1 l1 c1, .slice a2 l2 c2]] w fun e w' => ToRShape w x0 l1 l2 xs1 xs2 e w' ∧ FZ w w' := by
  have H1 : Hid (SlAt intR D w a1 l1 xs1) := h1
  have M1 : Hid ((Rep.list intR).small xs1) := s1
  have H2 : Hid (SlAt intR D w a2 l2 xs2) := h2
  have M2 : Hid ((Rep.list intR).small xs2) := s2
  clear h1 s1 h2 s2
  go_enter Tryd.func13, Tryd.ntmps13
  go_wp2_with fail
  refine (toLIntF _ _ _ xs1 _ (D := D) (H1.out.later (by go_grown)) M1.out).mono ?_
  rintro e w1 ⟨⟨na1, nc1, rfl, hS, hb⟩, hz⟩
  have z1 : w.heap.size + 1 + 1 + 1 ≤ w1.heap.size := by have := hb.size; first | omega | (simp at this; omega)
  have p1 : ∀ o, w1.cell? ⟨w.heap.size, o, none⟩ = _ := fun o => hb.cell (p := ⟨w.heap.size, o, none⟩) (by first | omega | (simp <;> omega))
  have r1 : ∀ o, w1.cell? ⟨w.heap.size + 1, o, none⟩ = _ := fun o => hb.cell (p := ⟨w.heap.size + 1, o, none⟩) (by first | omega | (simp <;> omega))
  have fr1 : ∀ o, w1.frozen? ⟨w.heap.size + 1, o, none⟩ = _ := fun o => hb.frozen (p := ⟨w.heap.size + 1, o, none⟩) (by first | omega | (simp <;> omega))
  have o1 : ∀ o, w1.cell? ⟨w.heap.size + 1 + 1, o, none⟩ = _ := fun o => hb.cell (p := ⟨w.heap.size + 1 + 1, o, none⟩) (by first | omega | (simp <;> omega))
  have fo1 : ∀ o, w1.frozen? ⟨w.heap.size + 1 + 1, o, none⟩ = _ := fun o => hb.frozen (p := ⟨w.heap.size + 1 + 1, o, none⟩) (by first | omega | (simp <;> omega))
  have B1 : Hid (Below w.heap.size w w1) := Below.trans (by go_grown) (hb.mono (by first | omega | (simp <;> omega)))
  have T1_1 : Hid (SlAt intR (fun b => w.heap.size + 1 + 1 + 1 ≤ b) w1 na1 l1 xs1) := SlAt.mono hS (fun b hb' _ => by simp at hb' <;> omega)
  have F1 : Hid (FZ w w1) := fun a => (hz a).trans (by first | (simp only [frozen?_alloc_cells]; done) | simp only [World.frozen?_setCell, frozen?_alloc_cells])
  clear hS hb hz
  go_wp2_with fail
  refine (toLIntF _ _ _ xs2 _ (D := D) (H2.out.later (by (repeat (refine Below.setCell ?_ (by first | omega | (simp <;> omega)) _)); exact B1.out)) M2.out).mono ?_
  rintro e w2 ⟨⟨na2, nc2, rfl, hS, hb⟩, hz⟩
  have z2 : w.heap.size + 1 + 1 + 1 ≤ w2.heap.size := by have := hb.size; first | omega | (simp at this; omega)
  have p2 : ∀ o, w2.cell? ⟨w.heap.size, o, none⟩ = _ := fun o => hb.cell (p := ⟨w.heap.size, o, none⟩) (by first | omega | (simp <;> omega))
  have r2 : ∀ o, w2.cell? ⟨w.heap.size + 1, o, none⟩ = _ := fun o => hb.cell (p := ⟨w.heap.size + 1, o, none⟩) (by first | omega | (simp <;> omega))
  have fr2 : ∀ o, w2.frozen? ⟨w.heap.size + 1, o, none⟩ = _ := fun o => hb.frozen (p := ⟨w.heap.size + 1, o, none⟩) (by first | omega | (simp <;> omega))
  have o2 : ∀ o, w2.cell? ⟨w.heap.size + 1 + 1, o, none⟩ = _ := fun o => hb.cell (p := ⟨w.heap.size + 1 + 1, o, none⟩) (by first | omega | (simp <;> omega))
  have fo2 : ∀ o, w2.frozen? ⟨w.heap.size + 1 + 1, o, none⟩ = _ := fun o => hb.frozen (p := ⟨w.heap.size + 1 + 1, o, none⟩) (by first | omega | (simp <;> omega))
  have B2 : Hid (Below w.heap.size w w2) := Below.trans (by (repeat (refine Below.setCell ?_ (by first | omega | (simp <;> omega)) _)); exact B1.out) (hb.mono (by first | omega | (simp <;> omega)))
  have T1_2 : Hid (SlAt intR (fun b => w.heap.size + 1 + 1 + 1 ≤ b) w2 na1 l1 xs1) := SlAt.later (by (repeat (refine SlAt.set ?_ _ _ (by first | omega | (simp <;> omega)))); exact T1_1.out) hb
  have T2_2 : Hid (SlAt intR (fun b => w.heap.size + 1 + 1 + 1 ≤ b) w2 na2 l2 xs2) := SlAt.mono hS (fun b hb' _ => by simp at hb' <;> omega)
  have F2 : Hid (FZ w w2) := fun a => (hz a).trans (by first | (simp only [World.frozen?_setCell]; exact F1.out a) | exact F1.out a)
  clear hS hb hz
  go_wp2_with fail
  refine bodyPost_ret (v := .agg #[.bool x0, .slice na1 l1 (l1 + nc1), .slice na2 l2 (l2 + nc2)]) ?_ rfl ?_
  · simp [results, Tryd.results13, go_sem, r1, r2]
  · refine ⟨?_, fun a => ?_⟩
    rotate_left
    · first | (simp only [World.frozen?_setCell]; exact F2.out a) | exact F2.out a
    unfold ToRShape
    refine ⟨_, _, _, _, rfl, ?_, ?_, ?_⟩
    · refine SlAt.mono (D := fun b => w.heap.size + 1 + 1 + 1 ≤ b) ?_ (fun b hb _ => by omega)
      (repeat (refine SlAt.set ?_ _ _ (by first | omega | (simp <;> omega))))
      exact T1_2.out
    · refine SlAt.mono (D := fun b => w.heap.size + 1 + 1 + 1 ≤ b) ?_ (fun b hb _ => by omega)
      (repeat (refine SlAt.set ?_ _ _ (by first | omega | (simp <;> omega))))
      exact T2_2.out
    · (repeat (refine Below.setCell ?_ (by first | omega | (simp <;> omega)) _))
      exact B2.out
theorem toRShape (x0 : Bool) (a1 : Option Addr) (l1 c1 : Nat) (a2 : Option Addr) (l2 c2 : Nat) (xs1 : List Int) (xs2 : List Int) (w : World) {D : Nat → Prop} (h1 : SlAt intR D w a1 l1 xs1) (s1 : (Rep.list intR).small xs1) (h2 : SlAt intR D w a2 l2 xs2) (s2 : (Rep.list intR).small xs2) :
    Calls Tryd.prog 13 #[.agg #[.bool x0, .slice a1 l1 c1, .slice a2 l2 c2]] w fun e w' => ToRShape w x0 l1 l2 xs1 xs2 e w' := (toRShapeF x0 a1 l1 c1 a2 l2 c2 xs1 xs2 w h1 s1 h2 s2).mono fun _ _ h => h.1

theorem info_Shape : (Tryd.prog.info? 26).map (fun i => (i.zero, i.size, i.bytes)) = some (some (.agg #[.bool false, .slice none 0 0, .slice none 0 0]), 3, 56) := by kernel_rfl
set_option maxHeartbeats 2000000 in
theorem eqRShape (x0 : Bool) (a1 : Option Addr) (l1 c1 : Nat) (a2 : Option Addr) (l2 c2 : Nat) (ya1 : Option Addr) (yl1 yc1 : Nat) (ya2 : Option Addr) (yl2 yc2 : Nat) (xs1 : List Int) (xs2 : List Int) (w : World) {D E : Nat → Prop} (h1 : SlAt intR D w a1 l1 xs1) (g1 : SlAt intR E w ya1 yl1 xs1) (h2 : SlAt intR D w a2 l2 xs2) (g2 : SlAt intR E w ya2 yl2 xs2) :
    Calls Tryd.prog 14 #[.agg #[.bool x0, .slice a1 l1 c1, .slice a2 l2 c2], .agg #[.bool x0, .slice ya1 yl1 yc1, .slice ya2 yl2 yc2]] w fun e w' => e = .returned (.bool true) ∧ Below w.heap.size w w' := by
  have H1 : Hid (SlAt intR D w a1 l1 xs1) := h1
  have G1 : Hid (SlAt intR E w ya1 yl1 xs1) := g1
  have H2 : Hid (SlAt intR D w a2 l2 xs2) := h2
  have G2 : Hid (SlAt intR E w ya2 yl2 xs2) := g2
  clear h1 g1 h2 g2
  have e0 : (x0 != x0) = false := by simp
  go_enter Tryd.func14, Tryd.ntmps14
  go_wp2_with fail
  refine (eqLInt _ _ _ _ _ _ xs1 _ (D := D) (E := E) (H1.out.later (by go_grown)) (G1.out.later (by go_grown))).mono ?_
  rintro e w1 ⟨rfl, hb⟩
  have z1 : w.heap.size + 1 + 1 ≤ w1.heap.size := by have := hb.size; first | omega | (simp at this; omega)
  have p1 : ∀ o, w1.cell? ⟨w.heap.size, o, none⟩ = _ := fun o => hb.cell (p := ⟨w.heap.size, o, none⟩) (by first | omega | (simp <;> omega))
  have r1 : ∀ o, w1.cell? ⟨w.heap.size + 1, o, none⟩ = _ := fun o => hb.cell (p := ⟨w.heap.size + 1, o, none⟩) (by first | omega | (simp <;> omega))
  have B1 : Hid (Below w.heap.size w w1) := Below.trans (by go_grown) (hb.mono (by first | omega | (simp <;> omega)))
  clear hb
  go_wp2_with fail
  refine (eqLInt _ _ _ _ _ _ xs2 _ (D := D) (E := E) (H2.out.later (B1.out)) (G2.out.later (B1.out))).mono ?_
  rintro e w2 ⟨rfl, hb⟩
  have z2 : w.heap.size + 1 + 1 ≤ w2.heap.size := by have := hb.size; first | omega | (simp at this; omega)
  have p2 : ∀ o, w2.cell? ⟨w.heap.size, o, none⟩ = _ := fun o => hb.cell (p := ⟨w.heap.size, o, none⟩) (by first | omega | (simp <;> omega))
  have r2 : ∀ o, w2.cell? ⟨w.heap.size + 1, o, none⟩ = _ := fun o => hb.cell (p := ⟨w.heap.size + 1, o, none⟩) (by first | omega | (simp <;> omega))
  have B2 : Hid (Below w.heap.size w w2) := Below.trans (B1.out) (hb.mono (by first | omega | (simp <;> omega)))
  clear hb
  go_wp2_with fail
  go_ret
  exact ⟨rfl, B2.out⟩

set_option maxHeartbeats 2000000 in
theorem szRShape (x0 : Bool) (a1 : Option Addr) (l1 c1 : Nat) (a2 : Option Addr) (l2 c2 : Nat) (xs1 : List Int) (xs2 : List Int) (l : Int) (w : World) {D : Nat → Prop} (h1 : SlAt intR D w a1 l1 xs1) (h2 : SlAt intR D w a2 l2 xs2) (k0 : 0 ≤ l) (k1 : l ≤ 1048576) :
    Calls Tryd.prog 11 #[.agg #[.bool x0, .slice a1 l1 c1, .slice a2 l2 c2], .int .i64 l] w fun e w' => SzP w l (Rep.small shR (x0, xs1, xs2)) e w' := by
  have H1 : Hid (SlAt intR D w a1 l1 xs1) := h1
  have H2 : Hid (SlAt intR D w a2 l2 xs2) := h2
  clear h1 h2
  go_enter Tryd.func11, Tryd.ntmps11
  go_wp2_with fail
  refine (szLInt _ _ _ xs1 _ _ (D := D) (H1.out.later (by go_grown)) k0 k1).mono ?_
  rintro e w1 ⟨r1, rfl, u1, v1, m, hb⟩
  have M1 : Hid (0 ≤ r1 → (Rep.list intR).small xs1) := m
  have z1 : w.heap.size + 1 ≤ w1.heap.size := by have := hb.size; first | omega | (simp at this; omega)
  have p1 : ∀ o, w1.cell? ⟨w.heap.size, o, none⟩ = _ := fun o => hb.cell (p := ⟨w.heap.size, o, none⟩) (by first | omega | (simp <;> omega))
  have B1 : Hid (Below w.heap.size w w1) := Below.trans (by go_grown) (hb.mono (by first | omega | (simp <;> omega)))
  clear hb m
  by_cases q1 : r1 < 0
  · go_wp2_with fail
    go_ret
    exact ⟨-1, rfl, by omega, by omega, by omega, B1.out⟩
  go_wp2_with fail
  refine (szLInt _ _ _ xs2 _ _ (D := D) (H2.out.later (B1.out)) (by omega) (by omega)).mono ?_
  rintro e w2 ⟨r2, rfl, u2, v2, m, hb⟩
  have M2 : Hid (0 ≤ r2 → (Rep.list intR).small xs2) := m
  have z2 : w.heap.size + 1 ≤ w2.heap.size := by have := hb.size; first | omega | (simp at this; omega)
  have p2 : ∀ o, w2.cell? ⟨w.heap.size, o, none⟩ = _ := fun o => hb.cell (p := ⟨w.heap.size, o, none⟩) (by first | omega | (simp <;> omega))
  have B2 : Hid (Below w.heap.size w w2) := Below.trans (B1.out) (hb.mono (by first | omega | (simp <;> omega)))
  clear hb m
  by_cases q2 : r2 < 0
  · go_wp2_with fail
    go_ret
    exact ⟨-1, rfl, by omega, by omega, by omega, B2.out⟩
  go_wp2_with fail
  go_ret
  exact ⟨_, rfl, by omega, by omega, fun _ => ⟨trivial, ⟨M1.out (by omega), M2.out (by omega)⟩⟩, B2.out⟩

theorem rd_Shape : Reads 34 shR := reads_struct Tryd.underlying34 (by kernel_rfl) (.cons rfl (by kernel_rfl) rd_bool (.cons rfl (by kernel_rfl) rdL_Int (.one rfl (by kernel_rfl) rdL_Int)))
end Go.Proofs.YtkggmcbjpmhmcaaDoor
