/-
  Data of the struct Unit: copied into new memory, held against another one that is the same, its size, and how it is read as it came in.
-/
import Derived.Test.YthdlccadcadopaaGreatDtInt
import Derived.Test.YthdlccadcadopaaGreatDtClass
import Derived.Test.YthdlccadcadopaaGreatDtMethod
namespace Go.Proofs.YthdlccadcadopaaGreat
open Go.ChangeShapes Go.WideShapes Go.ChangeAt Go.RowKit

def ToRUnit (w : World) (l0 : Nat) (l1 : Nat) (xs0 : List Cl) (xs1 : List Me) (e : Ending) (w' : World) : Prop :=
  ∃ na0 nc0 na1 nc1, e = .returned (.agg #[.slice na0 l0 (l0 + nc0), .slice na1 l1 (l1 + nc1)]) ∧ SlAt clR (fun b => w.heap.size ≤ b) w' na0 l0 xs0 ∧ SlAt meR (fun b => w.heap.size ≤ b) w' na1 l1 xs1 ∧ Below w.heap.size w w'

set_option maxHeartbeats 2000000 in
theorem toRUnitF (a0 : Option Addr) (l0 c0 : Nat) (a1 : Option Addr) (l1 c1 : Nat) (xs0 : List Cl) (xs1 : List Me) (w : World) {D : Nat → Prop} (h0 : SlAt clR D w a0 l0 xs0) (s0 : (Rep.list clR).small xs0) (h1 : SlAt meR D w a1 l1 xs1) (s1 : (Rep.list meR).small xs1) :
    Calls Tryz.prog 7 #[.agg #[.slice a0 l0 c0, .slice a1 l1 c1]] w fun e w' => ToRUnit w l0 l1 xs0 xs1 e w' ∧ FZ w w' := by
  have H0 : Hid (SlAt clR D w a0 l0 xs0) := h0
  have M0 : Hid ((Rep.list clR).small xs0) := s0
  have H1 : Hid (SlAt meR D w a1 l1 xs1) := h1
  have M1 : Hid ((Rep.list meR).small xs1) := s1
  clear h0 s0 h1 s1
  go_enter Tryz.func7, Tryz.ntmps7
  go_wp2_with fail
  refine (toLClassF _ _ _ xs0 _ (D := D) (H0.out.later (by go_grown)) M0.out).mono ?_
  rintro e w0 ⟨⟨na0, nc0, rfl, hS, hb⟩, hz⟩
  have z0 : w.heap.size + 1 + 1 + 1 ≤ w0.heap.size := by have := hb.size; first | omega | (simp at this; omega)
  have p0 : ∀ o, w0.cell? ⟨w.heap.size, o, none⟩ = _ := fun o => hb.cell (p := ⟨w.heap.size, o, none⟩) (by first | omega | (simp <;> omega))
  have r0 : ∀ o, w0.cell? ⟨w.heap.size + 1, o, none⟩ = _ := fun o => hb.cell (p := ⟨w.heap.size + 1, o, none⟩) (by first | omega | (simp <;> omega))
  have fr0 : ∀ o, w0.frozen? ⟨w.heap.size + 1, o, none⟩ = _ := fun o => hb.frozen (p := ⟨w.heap.size + 1, o, none⟩) (by first | omega | (simp <;> omega))
  have o0 : ∀ o, w0.cell? ⟨w.heap.size + 1 + 1, o, none⟩ = _ := fun o => hb.cell (p := ⟨w.heap.size + 1 + 1, o, none⟩) (by first | omega | (simp <;> omega))
  have fo0 : ∀ o, w0.frozen? ⟨w.heap.size + 1 + 1, o, none⟩ = _ := fun o => hb.frozen (p := ⟨w.heap.size + 1 + 1, o, none⟩) (by first | omega | (simp <;> omega))
  have B0 : Hid (Below w.heap.size w w0) := Below.trans (by go_grown) (hb.mono (by first | omega | (simp <;> omega)))
  have T0_0 : Hid (SlAt clR (fun b => w.heap.size + 1 + 1 + 1 ≤ b) w0 na0 l0 xs0) := SlAt.mono hS (fun b hb' _ => by simp at hb' <;> omega)
  have F0 : Hid (FZ w w0) := fun a => (hz a).trans (by first | (simp only [frozen?_alloc_cells]; done) | simp only [World.frozen?_setCell, frozen?_alloc_cells])
  clear hS hb hz
  go_wp2_with fail
  refine (toLMethodF _ _ _ xs1 _ (D := D) (H1.out.later (by (repeat (refine Below.setCell ?_ (by first | omega | (simp <;> omega)) _)); exact B0.out)) M1.out).mono ?_
  rintro e w1 ⟨⟨na1, nc1, rfl, hS, hb⟩, hz⟩
  have z1 : w.heap.size + 1 + 1 + 1 ≤ w1.heap.size := by have := hb.size; first | omega | (simp at this; omega)
  have p1 : ∀ o, w1.cell? ⟨w.heap.size, o, none⟩ = _ := fun o => hb.cell (p := ⟨w.heap.size, o, none⟩) (by first | omega | (simp <;> omega))
  have r1 : ∀ o, w1.cell? ⟨w.heap.size + 1, o, none⟩ = _ := fun o => hb.cell (p := ⟨w.heap.size + 1, o, none⟩) (by first | omega | (simp <;> omega))
  have fr1 : ∀ o, w1.frozen? ⟨w.heap.size + 1, o, none⟩ = _ := fun o => hb.frozen (p := ⟨w.heap.size + 1, o, none⟩) (by first | omega | (simp <;> omega))
  have o1 : ∀ o, w1.cell? ⟨w.heap.size + 1 + 1, o, none⟩ = _ := fun o => hb.cell (p := ⟨w.heap.size + 1 + 1, o, none⟩) (by first | omega | (simp <;> omega))
  have fo1 : ∀ o, w1.frozen? ⟨w.heap.size + 1 + 1, o, none⟩ = _ := fun o => hb.frozen (p := ⟨w.heap.size + 1 + 1, o, none⟩) (by first | omega | (simp <;> omega))
  have B1 : Hid (Below w.heap.size w w1) := Below.trans (by (repeat (refine Below.setCell ?_ (by first | omega | (simp <;> omega)) _)); exact B0.out) (hb.mono (by first | omega | (simp <;> omega)))
  have T0_1 : Hid (SlAt clR (fun b => w.heap.size + 1 + 1 + 1 ≤ b) w1 na0 l0 xs0) := SlAt.later (by (repeat (refine SlAt.set ?_ _ _ (by first | omega | (simp <;> omega)))); exact T0_0.out) hb
  have T1_1 : Hid (SlAt meR (fun b => w.heap.size + 1 + 1 + 1 ≤ b) w1 na1 l1 xs1) := SlAt.mono hS (fun b hb' _ => by simp at hb' <;> omega)
  have F1 : Hid (FZ w w1) := fun a => (hz a).trans (by first | (simp only [World.frozen?_setCell]; exact F0.out a) | exact F0.out a)
  clear hS hb hz
  go_wp2_with fail
  refine bodyPost_ret (v := .agg #[.slice na0 l0 (l0 + nc0), .slice na1 l1 (l1 + nc1)]) ?_ rfl ?_
  · simp [results, Tryz.results7, go_sem, r0, r1]
  · refine ⟨?_, fun a => ?_⟩
    rotate_left
    · first | (simp only [World.frozen?_setCell]; exact F1.out a) | exact F1.out a
    unfold ToRUnit
    refine ⟨_, _, _, _, rfl, ?_, ?_, ?_⟩
    · refine SlAt.mono (D := fun b => w.heap.size + 1 + 1 + 1 ≤ b) ?_ (fun b hb _ => by omega)
      (repeat (refine SlAt.set ?_ _ _ (by first | omega | (simp <;> omega))))
      exact T0_1.out
    · refine SlAt.mono (D := fun b => w.heap.size + 1 + 1 + 1 ≤ b) ?_ (fun b hb _ => by omega)
      (repeat (refine SlAt.set ?_ _ _ (by first | omega | (simp <;> omega))))
      exact T1_1.out
    · (repeat (refine Below.setCell ?_ (by first | omega | (simp <;> omega)) _))
      exact B1.out
theorem toRUnit (a0 : Option Addr) (l0 c0 : Nat) (a1 : Option Addr) (l1 c1 : Nat) (xs0 : List Cl) (xs1 : List Me) (w : World) {D : Nat → Prop} (h0 : SlAt clR D w a0 l0 xs0) (s0 : (Rep.list clR).small xs0) (h1 : SlAt meR D w a1 l1 xs1) (s1 : (Rep.list meR).small xs1) :
    Calls Tryz.prog 7 #[.agg #[.slice a0 l0 c0, .slice a1 l1 c1]] w fun e w' => ToRUnit w l0 l1 xs0 xs1 e w' := (toRUnitF a0 l0 c0 a1 l1 c1 xs0 xs1 w h0 s0 h1 s1).mono fun _ _ h => h.1

set_option maxHeartbeats 2000000 in
theorem eqRUnit (a0 : Option Addr) (l0 c0 : Nat) (a1 : Option Addr) (l1 c1 : Nat) (ya0 : Option Addr) (yl0 yc0 : Nat) (ya1 : Option Addr) (yl1 yc1 : Nat) (xs0 : List Cl) (xs1 : List Me) (w : World) {D E : Nat → Prop} (h0 : SlAt clR D w a0 l0 xs0) (g0 : SlAt clR E w ya0 yl0 xs0) (h1 : SlAt meR D w a1 l1 xs1) (g1 : SlAt meR E w ya1 yl1 xs1) :
    Calls Tryz.prog 10 #[.agg #[.slice a0 l0 c0, .slice a1 l1 c1], .agg #[.slice ya0 yl0 yc0, .slice ya1 yl1 yc1]] w fun e w' => e = .returned (.bool true) ∧ Below w.heap.size w w' := by
  have H0 : Hid (SlAt clR D w a0 l0 xs0) := h0
  have G0 : Hid (SlAt clR E w ya0 yl0 xs0) := g0
  have H1 : Hid (SlAt meR D w a1 l1 xs1) := h1
  have G1 : Hid (SlAt meR E w ya1 yl1 xs1) := g1
  clear h0 g0 h1 g1
  go_enter Tryz.func10, Tryz.ntmps10
  go_wp2_with fail
  refine (eqLClass _ _ _ _ _ _ xs0 _ (D := D) (E := E) (H0.out.later (by go_grown)) (G0.out.later (by go_grown))).mono ?_
  rintro e w0 ⟨rfl, hb⟩
  have z0 : w.heap.size + 1 + 1 ≤ w0.heap.size := by have := hb.size; first | omega | (simp at this; omega)
  have p0 : ∀ o, w0.cell? ⟨w.heap.size, o, none⟩ = _ := fun o => hb.cell (p := ⟨w.heap.size, o, none⟩) (by first | omega | (simp <;> omega))
  have r0 : ∀ o, w0.cell? ⟨w.heap.size + 1, o, none⟩ = _ := fun o => hb.cell (p := ⟨w.heap.size + 1, o, none⟩) (by first | omega | (simp <;> omega))
  have B0 : Hid (Below w.heap.size w w0) := Below.trans (by go_grown) (hb.mono (by first | omega | (simp <;> omega)))
  clear hb
  go_wp2_with fail
  refine (eqLMethod _ _ _ _ _ _ xs1 _ (D := D) (E := E) (H1.out.later (B0.out)) (G1.out.later (B0.out))).mono ?_
  rintro e w1 ⟨rfl, hb⟩
  have z1 : w.heap.size + 1 + 1 ≤ w1.heap.size := by have := hb.size; first | omega | (simp at this; omega)
  have p1 : ∀ o, w1.cell? ⟨w.heap.size, o, none⟩ = _ := fun o => hb.cell (p := ⟨w.heap.size, o, none⟩) (by first | omega | (simp <;> omega))
  have r1 : ∀ o, w1.cell? ⟨w.heap.size + 1, o, none⟩ = _ := fun o => hb.cell (p := ⟨w.heap.size + 1, o, none⟩) (by first | omega | (simp <;> omega))
  have B1 : Hid (Below w.heap.size w w1) := Below.trans (B0.out) (hb.mono (by first | omega | (simp <;> omega)))
  clear hb
  go_wp2_with fail
  go_ret
  exact ⟨rfl, B1.out⟩

set_option maxHeartbeats 2000000 in
theorem szRUnit (a0 : Option Addr) (l0 c0 : Nat) (a1 : Option Addr) (l1 c1 : Nat) (xs0 : List Cl) (xs1 : List Me) (l : Int) (w : World) {D : Nat → Prop} (h0 : SlAt clR D w a0 l0 xs0) (h1 : SlAt meR D w a1 l1 xs1) (k0 : 0 ≤ l) (k1 : l ≤ 1048576) :
    Calls Tryz.prog 5 #[.agg #[.slice a0 l0 c0, .slice a1 l1 c1], .int .i64 l] w fun e w' => SzP w l (Rep.small unR (xs0, xs1)) e w' := by
  have H0 : Hid (SlAt clR D w a0 l0 xs0) := h0
  have H1 : Hid (SlAt meR D w a1 l1 xs1) := h1
  clear h0 h1
  go_enter Tryz.func5, Tryz.ntmps5
  go_wp2_with fail
  refine (szLClass _ _ _ xs0 _ _ (D := D) (H0.out.later (by go_grown)) k0 k1).mono ?_
  rintro e w0 ⟨r0, rfl, u0, v0, m, hb⟩
  have M0 : Hid (0 ≤ r0 → (Rep.list clR).small xs0) := m
  have z0 : w.heap.size + 1 ≤ w0.heap.size := by have := hb.size; first | omega | (simp at this; omega)
  have p0 : ∀ o, w0.cell? ⟨w.heap.size, o, none⟩ = _ := fun o => hb.cell (p := ⟨w.heap.size, o, none⟩) (by first | omega | (simp <;> omega))
  have B0 : Hid (Below w.heap.size w w0) := Below.trans (by go_grown) (hb.mono (by first | omega | (simp <;> omega)))
  clear hb m
  by_cases q0 : r0 < 0
  · go_wp2_with fail
    go_ret
    exact ⟨-1, rfl, by omega, by omega, by omega, B0.out⟩
  go_wp2_with fail
  refine (szLMethod _ _ _ xs1 _ _ (D := D) (H1.out.later (B0.out)) (by omega) (by omega)).mono ?_
  rintro e w1 ⟨r1, rfl, u1, v1, m, hb⟩
  have M1 : Hid (0 ≤ r1 → (Rep.list meR).small xs1) := m
  have z1 : w.heap.size + 1 ≤ w1.heap.size := by have := hb.size; first | omega | (simp at this; omega)
  have p1 : ∀ o, w1.cell? ⟨w.heap.size, o, none⟩ = _ := fun o => hb.cell (p := ⟨w.heap.size, o, none⟩) (by first | omega | (simp <;> omega))
  have B1 : Hid (Below w.heap.size w w1) := Below.trans (B0.out) (hb.mono (by first | omega | (simp <;> omega)))
  clear hb m
  by_cases q1 : r1 < 0
  · go_wp2_with fail
    go_ret
    exact ⟨-1, rfl, by omega, by omega, by omega, B1.out⟩
  go_wp2_with fail
  go_ret
  exact ⟨_, rfl, by omega, by omega, fun _ => ⟨M0.out (by omega), M1.out (by omega)⟩, B1.out⟩

theorem rd_Unit : Reads 25 unR := reads_struct Tryz.underlying25 (by kernel_rfl) (.cons rfl (by kernel_rfl) rdL_Class (.one rfl (by kernel_rfl) rdL_Method))

end Go.Proofs.YthdlccadcadopaaGreat
