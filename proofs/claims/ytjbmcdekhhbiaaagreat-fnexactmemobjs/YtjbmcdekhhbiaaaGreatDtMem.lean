/-
  Data of the struct Mem: copied into new memory, held against another one that is the same, its size, and how it is read as it came in.
-/
import Derived.Test.YtjbmcdekhhbiaaaGreatDtInt
import Derived.Test.YtjbmcdekhhbiaaaGreatDtBool
namespace Go.Proofs.YtjbmcdekhhbiaaaGreat
open Go.ChangeShapes Go.WideShapes Go.ChangeAt Go.RowKit

abbrev Mm := List Int × Int × Int × Int × List Bool
abbrev memR : Rep Mm := .pair (.list .int) (.pair .int (.pair .int (.pair .int (.list .bool))))

def ToRMem (w : World) (x1 : Int) (x2 : Int) (x3 : Int) (l0 : Nat) (l4 : Nat) (xs0 : List Int) (xs4 : List Bool) (e : Ending) (w' : World) : Prop :=
  ∃ na0 nc0 na4 nc4, e = .returned (.agg #[.slice na0 l0 (l0 + nc0), .int .i64 x1, .int .i64 x2, .int .i64 x3, .slice na4 l4 (l4 + nc4)]) ∧ SlAt intR (fun b => w.heap.size ≤ b) w' na0 l0 xs0 ∧ SlAt boolR (fun b => w.heap.size ≤ b) w' na4 l4 xs4 ∧ Below w.heap.size w w'

set_option maxHeartbeats 2000000 in
theorem toRMemF (x1 : Int) (x2 : Int) (x3 : Int) (a0 : Option Addr) (l0 c0 : Nat) (a4 : Option Addr) (l4 c4 : Nat) (xs0 : List Int) (xs4 : List Bool) (w : World) {D : Nat → Prop} (h0 : SlAt intR D w a0 l0 xs0) (s0 : (Rep.list intR).small xs0) (h4 : SlAt boolR D w a4 l4 xs4) (s4 : (Rep.list boolR).small xs4) :
    Calls Tryz.prog 10 #[.agg #[.slice a0 l0 c0, .int .i64 x1, .int .i64 x2, .int .i64 x3, .slice a4 l4 c4]] w fun e w' => ToRMem w x1 x2 x3 l0 l4 xs0 xs4 e w' ∧ FZ w w' := by
  have H0 : Hid (SlAt intR D w a0 l0 xs0) := h0
  have M0 : Hid ((Rep.list intR).small xs0) := s0
  have H4 : Hid (SlAt boolR D w a4 l4 xs4) := h4
  have M4 : Hid ((Rep.list boolR).small xs4) := s4
  clear h0 s0 h4 s4
  go_enter Tryz.func10, Tryz.ntmps10
  go_wp2_with fail
  refine (toLIntF _ _ _ xs0 _ (D := D) (H0.out.later (by go_grown)) M0.out).mono ?_
  rintro e w0 ⟨⟨na0, nc0, rfl, hS, hb⟩, hz⟩
  have z0 : w.heap.size + 1 + 1 + 1 ≤ w0.heap.size := by have := hb.size; first | omega | (simp at this; omega)
  have p0 : ∀ o, w0.cell? ⟨w.heap.size, o, none⟩ = _ := fun o => hb.cell (p := ⟨w.heap.size, o, none⟩) (by first | omega | (simp <;> omega))
  have r0 : ∀ o, w0.cell? ⟨w.heap.size + 1, o, none⟩ = _ := fun o => hb.cell (p := ⟨w.heap.size + 1, o, none⟩) (by first | omega | (simp <;> omega))
  have fr0 : ∀ o, w0.frozen? ⟨w.heap.size + 1, o, none⟩ = _ := fun o => hb.frozen (p := ⟨w.heap.size + 1, o, none⟩) (by first | omega | (simp <;> omega))
  have o0 : ∀ o, w0.cell? ⟨w.heap.size + 1 + 1, o, none⟩ = _ := fun o => hb.cell (p := ⟨w.heap.size + 1 + 1, o, none⟩) (by first | omega | (simp <;> omega))
  have fo0 : ∀ o, w0.frozen? ⟨w.heap.size + 1 + 1, o, none⟩ = _ := fun o => hb.frozen (p := ⟨w.heap.size + 1 + 1, o, none⟩) (by first | omega | (simp <;> omega))
  have B0 : Hid (Below w.heap.size w w0) := Below.trans (by go_grown) (hb.mono (by first | omega | (simp <;> omega)))
  have T0_0 : Hid (SlAt intR (fun b => w.heap.size + 1 + 1 + 1 ≤ b) w0 na0 l0 xs0) := SlAt.mono hS (fun b hb' _ => by simp at hb' <;> omega)
  have F0 : Hid (FZ w w0) := fun a => (hz a).trans (by first | (simp only [frozen?_alloc_cells]; done) | simp only [World.frozen?_setCell, frozen?_alloc_cells])
  clear hS hb hz
  go_wp2_with fail
  refine (toLBoolF _ _ _ xs4 _ (D := D) (H4.out.later (by (repeat (refine Below.setCell ?_ (by first | omega | (simp <;> omega)) _)); exact B0.out)) M4.out).mono ?_
  rintro e w4 ⟨⟨na4, nc4, rfl, hS, hb⟩, hz⟩
  have z4 : w.heap.size + 1 + 1 + 1 ≤ w4.heap.size := by have := hb.size; first | omega | (simp at this; omega)
  have p4 : ∀ o, w4.cell? ⟨w.heap.size, o, none⟩ = _ := fun o => hb.cell (p := ⟨w.heap.size, o, none⟩) (by first | omega | (simp <;> omega))
  have r4 : ∀ o, w4.cell? ⟨w.heap.size + 1, o, none⟩ = _ := fun o => hb.cell (p := ⟨w.heap.size + 1, o, none⟩) (by first | omega | (simp <;> omega))
  have fr4 : ∀ o, w4.frozen? ⟨w.heap.size + 1, o, none⟩ = _ := fun o => hb.frozen (p := ⟨w.heap.size + 1, o, none⟩) (by first | omega | (simp <;> omega))
  have o4 : ∀ o, w4.cell? ⟨w.heap.size + 1 + 1, o, none⟩ = _ := fun o => hb.cell (p := ⟨w.heap.size + 1 + 1, o, none⟩) (by first | omega | (simp <;> omega))
  have fo4 : ∀ o, w4.frozen? ⟨w.heap.size + 1 + 1, o, none⟩ = _ := fun o => hb.frozen (p := ⟨w.heap.size + 1 + 1, o, none⟩) (by first | omega | (simp <;> omega))
  have B4 : Hid (Below w.heap.size w w4) := Below.trans (by (repeat (refine Below.setCell ?_ (by first | omega | (simp <;> omega)) _)); exact B0.out) (hb.mono (by first | omega | (simp <;> omega)))
  have T0_4 : Hid (SlAt intR (fun b => w.heap.size + 1 + 1 + 1 ≤ b) w4 na0 l0 xs0) := SlAt.later (by (repeat (refine SlAt.set ?_ _ _ (by first | omega | (simp <;> omega)))); exact T0_0.out) hb
  have T4_4 : Hid (SlAt boolR (fun b => w.heap.size + 1 + 1 + 1 ≤ b) w4 na4 l4 xs4) := SlAt.mono hS (fun b hb' _ => by simp at hb' <;> omega)
  have F4 : Hid (FZ w w4) := fun a => (hz a).trans (by first | (simp only [World.frozen?_setCell]; exact F0.out a) | exact F0.out a)
  clear hS hb hz
  go_wp2_with fail
  refine bodyPost_ret (v := .agg #[.slice na0 l0 (l0 + nc0), .int .i64 x1, .int .i64 x2, .int .i64 x3, .slice na4 l4 (l4 + nc4)]) ?_ rfl ?_
  · simp [results, Tryz.results10, go_sem, r0, r4]
  · refine ⟨?_, fun a => ?_⟩
    rotate_left
    · first | (simp only [World.frozen?_setCell]; exact F4.out a) | exact F4.out a
    unfold ToRMem
    refine ⟨_, _, _, _, rfl, ?_, ?_, ?_⟩
    · refine SlAt.mono (D := fun b => w.heap.size + 1 + 1 + 1 ≤ b) ?_ (fun b hb _ => by omega)
      (repeat (refine SlAt.set ?_ _ _ (by first | omega | (simp <;> omega))))
      exact T0_4.out
    · refine SlAt.mono (D := fun b => w.heap.size + 1 + 1 + 1 ≤ b) ?_ (fun b hb _ => by omega)
      (repeat (refine SlAt.set ?_ _ _ (by first | omega | (simp <;> omega))))
      exact T4_4.out
    · (repeat (refine Below.setCell ?_ (by first | omega | (simp <;> omega)) _))
      exact B4.out
theorem toRMem (x1 : Int) (x2 : Int) (x3 : Int) (a0 : Option Addr) (l0 c0 : Nat) (a4 : Option Addr) (l4 c4 : Nat) (xs0 : List Int) (xs4 : List Bool) (w : World) {D : Nat → Prop} (h0 : SlAt intR D w a0 l0 xs0) (s0 : (Rep.list intR).small xs0) (h4 : SlAt boolR D w a4 l4 xs4) (s4 : (Rep.list boolR).small xs4) :
    Calls Tryz.prog 10 #[.agg #[.slice a0 l0 c0, .int .i64 x1, .int .i64 x2, .int .i64 x3, .slice a4 l4 c4]] w fun e w' => ToRMem w x1 x2 x3 l0 l4 xs0 xs4 e w' := (toRMemF x1 x2 x3 a0 l0 c0 a4 l4 c4 xs0 xs4 w h0 s0 h4 s4).mono fun _ _ h => h.1

set_option maxHeartbeats 2000000 in
theorem eqRMem (x1 : Int) (x2 : Int) (x3 : Int) (a0 : Option Addr) (l0 c0 : Nat) (a4 : Option Addr) (l4 c4 : Nat) (ya0 : Option Addr) (yl0 yc0 : Nat) (ya4 : Option Addr) (yl4 yc4 : Nat) (xs0 : List Int) (xs4 : List Bool) (w : World) {D E : Nat → Prop} (h0 : SlAt intR D w a0 l0 xs0) (g0 : SlAt intR E w ya0 yl0 xs0) (h4 : SlAt boolR D w a4 l4 xs4) (g4 : SlAt boolR E w ya4 yl4 xs4) :
    Calls Tryz.prog 12 #[.agg #[.slice a0 l0 c0, .int .i64 x1, .int .i64 x2, .int .i64 x3, .slice a4 l4 c4], .agg #[.slice ya0 yl0 yc0, .int .i64 x1, .int .i64 x2, .int .i64 x3, .slice ya4 yl4 yc4]] w fun e w' => e = .returned (.bool true) ∧ Below w.heap.size w w' := by
  have H0 : Hid (SlAt intR D w a0 l0 xs0) := h0
  have G0 : Hid (SlAt intR E w ya0 yl0 xs0) := g0
  have H4 : Hid (SlAt boolR D w a4 l4 xs4) := h4
  have G4 : Hid (SlAt boolR E w ya4 yl4 xs4) := g4
  clear h0 g0 h4 g4
  have e1 : (x1 != x1) = false := by simp
  have e2 : (x2 != x2) = false := by simp
  have e3 : (x3 != x3) = false := by simp
  go_enter Tryz.func12, Tryz.ntmps12
  go_wp2_with fail
  refine (eqLInt _ _ _ _ _ _ xs0 _ (D := D) (E := E) (H0.out.later (by go_grown)) (G0.out.later (by go_grown))).mono ?_
  rintro e w0 ⟨rfl, hb⟩
  have z0 : w.heap.size + 1 + 1 ≤ w0.heap.size := by have := hb.size; first | omega | (simp at this; omega)
  have p0 : ∀ o, w0.cell? ⟨w.heap.size, o, none⟩ = _ := fun o => hb.cell (p := ⟨w.heap.size, o, none⟩) (by first | omega | (simp <;> omega))
  have r0 : ∀ o, w0.cell? ⟨w.heap.size + 1, o, none⟩ = _ := fun o => hb.cell (p := ⟨w.heap.size + 1, o, none⟩) (by first | omega | (simp <;> omega))
  have B0 : Hid (Below w.heap.size w w0) := Below.trans (by go_grown) (hb.mono (by first | omega | (simp <;> omega)))
  clear hb
  go_wp2_with fail
  refine (eqLBool _ _ _ _ _ _ xs4 _ (D := D) (E := E) (H4.out.later (B0.out)) (G4.out.later (B0.out))).mono ?_
  rintro e w4 ⟨rfl, hb⟩
  have z4 : w.heap.size + 1 + 1 ≤ w4.heap.size := by have := hb.size; first | omega | (simp at this; omega)
  have p4 : ∀ o, w4.cell? ⟨w.heap.size, o, none⟩ = _ := fun o => hb.cell (p := ⟨w.heap.size, o, none⟩) (by first | omega | (simp <;> omega))
  have r4 : ∀ o, w4.cell? ⟨w.heap.size + 1, o, none⟩ = _ := fun o => hb.cell (p := ⟨w.heap.size + 1, o, none⟩) (by first | omega | (simp <;> omega))
  have B4 : Hid (Below w.heap.size w w4) := Below.trans (B0.out) (hb.mono (by first | omega | (simp <;> omega)))
  clear hb
  go_wp2_with fail
  go_ret
  exact ⟨rfl, B4.out⟩

set_option maxHeartbeats 2000000 in
theorem szRMem (x1 : Int) (x2 : Int) (x3 : Int) (a0 : Option Addr) (l0 c0 : Nat) (a4 : Option Addr) (l4 c4 : Nat) (xs0 : List Int) (xs4 : List Bool) (l : Int) (w : World) {D : Nat → Prop} (h0 : SlAt intR D w a0 l0 xs0) (h4 : SlAt boolR D w a4 l4 xs4) (k0 : 0 ≤ l) (k1 : l ≤ 1048576) :
    Calls Tryz.prog 7 #[.agg #[.slice a0 l0 c0, .int .i64 x1, .int .i64 x2, .int .i64 x3, .slice a4 l4 c4], .int .i64 l] w fun e w' => SzP w l (Rep.small memR (xs0, x1, x2, x3, xs4)) e w' := by
  have H0 : Hid (SlAt intR D w a0 l0 xs0) := h0
  have H4 : Hid (SlAt boolR D w a4 l4 xs4) := h4
  clear h0 h4
  go_enter Tryz.func7, Tryz.ntmps7
  go_wp2_with fail
  refine (szLInt _ _ _ xs0 _ _ (D := D) (H0.out.later (by go_grown)) k0 k1).mono ?_
  rintro e w0 ⟨r0, rfl, u0, v0, m, hb⟩
  have M0 : Hid (0 ≤ r0 → (Rep.list intR).small xs0) := m
  have z0 : w.heap.size + 1 ≤ w0.heap.size := by have := hb.size; first | omega | (simp at this; omega)
  have p0 : ∀ o, w0.cell? ⟨w.heap.size, o, none⟩ = _ := fun o => hb.cell (p := ⟨w.heap.size, o, none⟩) (by first | omega | (simp <;> omega))
  have B0 : Hid (Below w.heap.size w w0) := Below.trans (by go_grown) (hb.mono (by first | omega | (simp <;> omega)))
  clear hb m
  by_cases q0 : r0 < 0
  · go_wp2_with fail
    go_ret
    exact ⟨-1, rfl, by omega, by omega, by omega, B0.out⟩
  go_wp2_with fail
  refine (szLBool _ _ _ xs4 _ _ (D := D) (H4.out.later (B0.out)) (by omega) (by omega)).mono ?_
  rintro e w4 ⟨r4, rfl, u4, v4, m, hb⟩
  have M4 : Hid (0 ≤ r4 → (Rep.list boolR).small xs4) := m
  have z4 : w.heap.size + 1 ≤ w4.heap.size := by have := hb.size; first | omega | (simp at this; omega)
  have p4 : ∀ o, w4.cell? ⟨w.heap.size, o, none⟩ = _ := fun o => hb.cell (p := ⟨w.heap.size, o, none⟩) (by first | omega | (simp <;> omega))
  have B4 : Hid (Below w.heap.size w w4) := Below.trans (B0.out) (hb.mono (by first | omega | (simp <;> omega)))
  clear hb m
  by_cases q4 : r4 < 0
  · go_wp2_with fail
    go_ret
    exact ⟨-1, rfl, by omega, by omega, by omega, B4.out⟩
  go_wp2_with fail
  go_ret
  exact ⟨_, rfl, by omega, by omega, fun _ => ⟨M0.out (by omega), ⟨trivial, ⟨trivial, ⟨trivial, M4.out (by omega)⟩⟩⟩⟩, B4.out⟩

theorem rd_Mem : Reads 26 memR := reads_struct Tryz.underlying26 (by kernel_rfl) (.cons rfl (by kernel_rfl) rdL_Int (.cons rfl (by kernel_rfl) rd_int (.cons rfl (by kernel_rfl) rd_int (.cons rfl (by kernel_rfl) rd_int (.one rfl (by kernel_rfl) rdL_Bool)))))

end Go.Proofs.YtjbmcdekhhbiaaaGreat
