/-
  Data of the struct Mach: copied into new memory, held against another one that is the same, its size, and how it is read as it came in.
-/
import Derived.Test.YthdlccadcadopaaGreatDtInt
import Derived.Test.YthdlccadcadopaaGreatDtObj
import Derived.Test.YthdlccadcadopaaGreatDtFrame
namespace Go.Proofs.YthdlccadcadopaaGreat
open Go.ChangeShapes Go.WideShapes Go.ChangeAt Go.RowKit

abbrev Mc := List Ob × List Fr × List Int × Int × Int × Vl
abbrev mcR : Rep Mc := .pair (.list obR) (.pair (.list frR) (.pair (.list .int) (.pair .int (.pair .int vaR))))

def ToRMach (w : World) (x3 : Int) (x4 : Int) (x5 : Bool) (x6 : Int) (l0 : Nat) (l1 : Nat) (l2 : Nat) (xs0 : List Ob) (xs1 : List Fr) (xs2 : List Int) (e : Ending) (w' : World) : Prop :=
  ∃ na0 nc0 na1 nc1 na2 nc2, e = .returned (.agg #[.slice na0 l0 (l0 + nc0), .slice na1 l1 (l1 + nc1), .slice na2 l2 (l2 + nc2), .int .i64 x3, .int .i64 x4, .bool x5, .int .i64 x6]) ∧ SlAt obR (fun b => w.heap.size ≤ b) w' na0 l0 xs0 ∧ SlAt frR (fun b => w.heap.size ≤ b) w' na1 l1 xs1 ∧ SlAt intR (fun b => w.heap.size ≤ b) w' na2 l2 xs2 ∧ Below w.heap.size w w'

set_option maxHeartbeats 2000000 in
theorem toRMachF (x3 : Int) (x4 : Int) (x5 : Bool) (x6 : Int) (a0 : Option Addr) (l0 c0 : Nat) (a1 : Option Addr) (l1 c1 : Nat) (a2 : Option Addr) (l2 c2 : Nat) (xs0 : List Ob) (xs1 : List Fr) (xs2 : List Int) (w : World) {D : Nat → Prop} (h0 : SlAt obR D w a0 l0 xs0) (s0 : (Rep.list obR).small xs0) (h1 : SlAt frR D w a1 l1 xs1) (s1 : (Rep.list frR).small xs1) (h2 : SlAt intR D w a2 l2 xs2) (s2 : (Rep.list intR).small xs2) :
    Calls Tryz.prog 16 #[.agg #[.slice a0 l0 c0, .slice a1 l1 c1, .slice a2 l2 c2, .int .i64 x3, .int .i64 x4, .bool x5, .int .i64 x6]] w fun e w' => ToRMach w x3 x4 x5 x6 l0 l1 l2 xs0 xs1 xs2 e w' ∧ FZ w w' := by
  have H0 : Hid (SlAt obR D w a0 l0 xs0) := h0
  have M0 : Hid ((Rep.list obR).small xs0) := s0
  have H1 : Hid (SlAt frR D w a1 l1 xs1) := h1
  have M1 : Hid ((Rep.list frR).small xs1) := s1
  have H2 : Hid (SlAt intR D w a2 l2 xs2) := h2
  have M2 : Hid ((Rep.list intR).small xs2) := s2
  clear h0 s0 h1 s1 h2 s2
  go_enter Tryz.func16, Tryz.ntmps16
  go_wp2_with fail
  refine (toLObjF _ _ _ xs0 _ (D := D) (H0.out.later (by go_grown)) M0.out).mono ?_
  rintro e w0 ⟨⟨na0, nc0, rfl, hS, hb⟩, hz⟩
  have z0 : w.heap.size + 1 + 1 + 1 ≤ w0.heap.size := by have := hb.size; first | omega | (simp at this; omega)
  have p0 : ∀ o, w0.cell? ⟨w.heap.size, o, none⟩ = _ := fun o => hb.cell (p := ⟨w.heap.size, o, none⟩) (by first | omega | (simp <;> omega))
  have r0 : ∀ o, w0.cell? ⟨w.heap.size + 1, o, none⟩ = _ := fun o => hb.cell (p := ⟨w.heap.size + 1, o, none⟩) (by first | omega | (simp <;> omega))
  have fr0 : ∀ o, w0.frozen? ⟨w.heap.size + 1, o, none⟩ = _ := fun o => hb.frozen (p := ⟨w.heap.size + 1, o, none⟩) (by first | omega | (simp <;> omega))
  have o0 : ∀ o, w0.cell? ⟨w.heap.size + 1 + 1, o, none⟩ = _ := fun o => hb.cell (p := ⟨w.heap.size + 1 + 1, o, none⟩) (by first | omega | (simp <;> omega))
  have fo0 : ∀ o, w0.frozen? ⟨w.heap.size + 1 + 1, o, none⟩ = _ := fun o => hb.frozen (p := ⟨w.heap.size + 1 + 1, o, none⟩) (by first | omega | (simp <;> omega))
  have B0 : Hid (Below w.heap.size w w0) := Below.trans (by go_grown) (hb.mono (by first | omega | (simp <;> omega)))
  have T0_0 : Hid (SlAt obR (fun b => w.heap.size + 1 + 1 + 1 ≤ b) w0 na0 l0 xs0) := SlAt.mono hS (fun b hb' _ => by simp at hb' <;> omega)
  have F0 : Hid (FZ w w0) := fun a => (hz a).trans (by first | (simp only [frozen?_alloc_cells]; done) | simp only [World.frozen?_setCell, frozen?_alloc_cells])
  clear hS hb hz
  go_wp2_with fail
  refine (toLFrameF _ _ _ xs1 _ (D := D) (H1.out.later (by (repeat (refine Below.setCell ?_ (by first | omega | (simp <;> omega)) _)); exact B0.out)) M1.out).mono ?_
  rintro e w1 ⟨⟨na1, nc1, rfl, hS, hb⟩, hz⟩
  have z1 : w.heap.size + 1 + 1 + 1 ≤ w1.heap.size := by have := hb.size; first | omega | (simp at this; omega)
  have p1 : ∀ o, w1.cell? ⟨w.heap.size, o, none⟩ = _ := fun o => hb.cell (p := ⟨w.heap.size, o, none⟩) (by first | omega | (simp <;> omega))
  have r1 : ∀ o, w1.cell? ⟨w.heap.size + 1, o, none⟩ = _ := fun o => hb.cell (p := ⟨w.heap.size + 1, o, none⟩) (by first | omega | (simp <;> omega))
  have fr1 : ∀ o, w1.frozen? ⟨w.heap.size + 1, o, none⟩ = _ := fun o => hb.frozen (p := ⟨w.heap.size + 1, o, none⟩) (by first | omega | (simp <;> omega))
  have o1 : ∀ o, w1.cell? ⟨w.heap.size + 1 + 1, o, none⟩ = _ := fun o => hb.cell (p := ⟨w.heap.size + 1 + 1, o, none⟩) (by first | omega | (simp <;> omega))
  have fo1 : ∀ o, w1.frozen? ⟨w.heap.size + 1 + 1, o, none⟩ = _ := fun o => hb.frozen (p := ⟨w.heap.size + 1 + 1, o, none⟩) (by first | omega | (simp <;> omega))
  have B1 : Hid (Below w.heap.size w w1) := Below.trans (by (repeat (refine Below.setCell ?_ (by first | omega | (simp <;> omega)) _)); exact B0.out) (hb.mono (by first | omega | (simp <;> omega)))
  have T0_1 : Hid (SlAt obR (fun b => w.heap.size + 1 + 1 + 1 ≤ b) w1 na0 l0 xs0) := SlAt.later (by (repeat (refine SlAt.set ?_ _ _ (by first | omega | (simp <;> omega)))); exact T0_0.out) hb
  have T1_1 : Hid (SlAt frR (fun b => w.heap.size + 1 + 1 + 1 ≤ b) w1 na1 l1 xs1) := SlAt.mono hS (fun b hb' _ => by simp at hb' <;> omega)
  have F1 : Hid (FZ w w1) := fun a => (hz a).trans (by first | (simp only [World.frozen?_setCell]; exact F0.out a) | exact F0.out a)
  clear hS hb hz
  go_wp2_with fail
  refine (toLIntF _ _ _ xs2 _ (D := D) (H2.out.later (by (repeat (refine Below.setCell ?_ (by first | omega | (simp <;> omega)) _)); exact B1.out)) M2.out).mono ?_
  rintro e w2 ⟨⟨na2, nc2, rfl, hS, hb⟩, hz⟩
  have z2 : w.heap.size + 1 + 1 + 1 ≤ w2.heap.size := by have := hb.size; first | omega | (simp at this; omega)
  have p2 : ∀ o, w2.cell? ⟨w.heap.size, o, none⟩ = _ := fun o => hb.cell (p := ⟨w.heap.size, o, none⟩) (by first | omega | (simp <;> omega))
  have r2 : ∀ o, w2.cell? ⟨w.heap.size + 1, o, none⟩ = _ := fun o => hb.cell (p := ⟨w.heap.size + 1, o, none⟩) (by first | omega | (simp <;> omega))
  have fr2 : ∀ o, w2.frozen? ⟨w.heap.size + 1, o, none⟩ = _ := fun o => hb.frozen (p := ⟨w.heap.size + 1, o, none⟩) (by first | omega | (simp <;> omega))
  have o2 : ∀ o, w2.cell? ⟨w.heap.size + 1 + 1, o, none⟩ = _ := fun o => hb.cell (p := ⟨w.heap.size + 1 + 1, o, none⟩) (by first | omega | (simp <;> omega))
  have fo2 : ∀ o, w2.frozen? ⟨w.heap.size + 1 + 1, o, none⟩ = _ := fun o => hb.frozen (p := ⟨w.heap.size + 1 + 1, o, none⟩) (by first | omega | (simp <;> omega))
  have B2 : Hid (Below w.heap.size w w2) := Below.trans (by (repeat (refine Below.setCell ?_ (by first | omega | (simp <;> omega)) _)); exact B1.out) (hb.mono (by first | omega | (simp <;> omega)))
  have T0_2 : Hid (SlAt obR (fun b => w.heap.size + 1 + 1 + 1 ≤ b) w2 na0 l0 xs0) := SlAt.later (by (repeat (refine SlAt.set ?_ _ _ (by first | omega | (simp <;> omega)))); exact T0_1.out) hb
  have T1_2 : Hid (SlAt frR (fun b => w.heap.size + 1 + 1 + 1 ≤ b) w2 na1 l1 xs1) := SlAt.later (by (repeat (refine SlAt.set ?_ _ _ (by first | omega | (simp <;> omega)))); exact T1_1.out) hb
  have T2_2 : Hid (SlAt intR (fun b => w.heap.size + 1 + 1 + 1 ≤ b) w2 na2 l2 xs2) := SlAt.mono hS (fun b hb' _ => by simp at hb' <;> omega)
  have F2 : Hid (FZ w w2) := fun a => (hz a).trans (by first | (simp only [World.frozen?_setCell]; exact F1.out a) | exact F1.out a)
  clear hS hb hz
  go_wp2_with fail
  refine (toRValF _ _ _).mono ?_
  rintro e w7 ⟨⟨rfl, hb⟩, hz⟩
  have z7 : w.heap.size + 1 + 1 + 1 ≤ w7.heap.size := by have := hb.size; first | omega | (simp at this; omega)
  have p7 : ∀ o, w7.cell? ⟨w.heap.size, o, none⟩ = _ := fun o => hb.cell (p := ⟨w.heap.size, o, none⟩) (by first | omega | (simp <;> omega))
  have r7 : ∀ o, w7.cell? ⟨w.heap.size + 1, o, none⟩ = _ := fun o => hb.cell (p := ⟨w.heap.size + 1, o, none⟩) (by first | omega | (simp <;> omega))
  have fr7 : ∀ o, w7.frozen? ⟨w.heap.size + 1, o, none⟩ = _ := fun o => hb.frozen (p := ⟨w.heap.size + 1, o, none⟩) (by first | omega | (simp <;> omega))
  have o7 : ∀ o, w7.cell? ⟨w.heap.size + 1 + 1, o, none⟩ = _ := fun o => hb.cell (p := ⟨w.heap.size + 1 + 1, o, none⟩) (by first | omega | (simp <;> omega))
  have fo7 : ∀ o, w7.frozen? ⟨w.heap.size + 1 + 1, o, none⟩ = _ := fun o => hb.frozen (p := ⟨w.heap.size + 1 + 1, o, none⟩) (by first | omega | (simp <;> omega))
  have B7 : Hid (Below w.heap.size w w7) := Below.trans (by (repeat (refine Below.setCell ?_ (by first | omega | (simp <;> omega)) _)); exact B2.out) (hb.mono (by first | omega | (simp <;> omega)))
  have T0_7 : Hid (SlAt obR (fun b => w.heap.size + 1 + 1 + 1 ≤ b) w7 na0 l0 xs0) := SlAt.later (by (repeat (refine SlAt.set ?_ _ _ (by first | omega | (simp <;> omega)))); exact T0_2.out) hb
  have T1_7 : Hid (SlAt frR (fun b => w.heap.size + 1 + 1 + 1 ≤ b) w7 na1 l1 xs1) := SlAt.later (by (repeat (refine SlAt.set ?_ _ _ (by first | omega | (simp <;> omega)))); exact T1_2.out) hb
  have T2_7 : Hid (SlAt intR (fun b => w.heap.size + 1 + 1 + 1 ≤ b) w7 na2 l2 xs2) := SlAt.later (by (repeat (refine SlAt.set ?_ _ _ (by first | omega | (simp <;> omega)))); exact T2_2.out) hb
  have F7 : Hid (FZ w w7) := fun a => (hz a).trans (by first | (simp only [World.frozen?_setCell]; exact F2.out a) | exact F2.out a)
  clear hb hz
  go_wp2_with fail
  refine bodyPost_ret (v := .agg #[.slice na0 l0 (l0 + nc0), .slice na1 l1 (l1 + nc1), .slice na2 l2 (l2 + nc2), .int .i64 x3, .int .i64 x4, .bool x5, .int .i64 x6]) ?_ rfl ?_
  · simp [results, Tryz.results16, go_sem, r0, r1, r2, r7]
  · refine ⟨?_, fun a => ?_⟩
    rotate_left
    · first | (simp only [World.frozen?_setCell]; exact F7.out a) | exact F7.out a
    unfold ToRMach
    refine ⟨_, _, _, _, _, _, rfl, ?_, ?_, ?_, ?_⟩
    · refine SlAt.mono (D := fun b => w.heap.size + 1 + 1 + 1 ≤ b) ?_ (fun b hb _ => by omega)
      (repeat (refine SlAt.set ?_ _ _ (by first | omega | (simp <;> omega))))
      exact T0_7.out
    · refine SlAt.mono (D := fun b => w.heap.size + 1 + 1 + 1 ≤ b) ?_ (fun b hb _ => by omega)
      (repeat (refine SlAt.set ?_ _ _ (by first | omega | (simp <;> omega))))
      exact T1_7.out
    · refine SlAt.mono (D := fun b => w.heap.size + 1 + 1 + 1 ≤ b) ?_ (fun b hb _ => by omega)
      (repeat (refine SlAt.set ?_ _ _ (by first | omega | (simp <;> omega))))
      exact T2_7.out
    · (repeat (refine Below.setCell ?_ (by first | omega | (simp <;> omega)) _))
      exact B7.out
theorem toRMach (x3 : Int) (x4 : Int) (x5 : Bool) (x6 : Int) (a0 : Option Addr) (l0 c0 : Nat) (a1 : Option Addr) (l1 c1 : Nat) (a2 : Option Addr) (l2 c2 : Nat) (xs0 : List Ob) (xs1 : List Fr) (xs2 : List Int) (w : World) {D : Nat → Prop} (h0 : SlAt obR D w a0 l0 xs0) (s0 : (Rep.list obR).small xs0) (h1 : SlAt frR D w a1 l1 xs1) (s1 : (Rep.list frR).small xs1) (h2 : SlAt intR D w a2 l2 xs2) (s2 : (Rep.list intR).small xs2) :
    Calls Tryz.prog 16 #[.agg #[.slice a0 l0 c0, .slice a1 l1 c1, .slice a2 l2 c2, .int .i64 x3, .int .i64 x4, .bool x5, .int .i64 x6]] w fun e w' => ToRMach w x3 x4 x5 x6 l0 l1 l2 xs0 xs1 xs2 e w' := (toRMachF x3 x4 x5 x6 a0 l0 c0 a1 l1 c1 a2 l2 c2 xs0 xs1 xs2 w h0 s0 h1 s1 h2 s2).mono fun _ _ h => h.1

set_option maxHeartbeats 2000000 in
theorem eqRMach (x3 : Int) (x4 : Int) (x5 : Bool) (x6 : Int) (a0 : Option Addr) (l0 c0 : Nat) (a1 : Option Addr) (l1 c1 : Nat) (a2 : Option Addr) (l2 c2 : Nat) (ya0 : Option Addr) (yl0 yc0 : Nat) (ya1 : Option Addr) (yl1 yc1 : Nat) (ya2 : Option Addr) (yl2 yc2 : Nat) (xs0 : List Ob) (xs1 : List Fr) (xs2 : List Int) (w : World) {D E : Nat → Prop} (h0 : SlAt obR D w a0 l0 xs0) (g0 : SlAt obR E w ya0 yl0 xs0) (h1 : SlAt frR D w a1 l1 xs1) (g1 : SlAt frR E w ya1 yl1 xs1) (h2 : SlAt intR D w a2 l2 xs2) (g2 : SlAt intR E w ya2 yl2 xs2) :
    Calls Tryz.prog 9 #[.agg #[.slice a0 l0 c0, .slice a1 l1 c1, .slice a2 l2 c2, .int .i64 x3, .int .i64 x4, .bool x5, .int .i64 x6], .agg #[.slice ya0 yl0 yc0, .slice ya1 yl1 yc1, .slice ya2 yl2 yc2, .int .i64 x3, .int .i64 x4, .bool x5, .int .i64 x6]] w fun e w' => e = .returned (.bool true) ∧ Below w.heap.size w w' := by
  have H0 : Hid (SlAt obR D w a0 l0 xs0) := h0
  have G0 : Hid (SlAt obR E w ya0 yl0 xs0) := g0
  have H1 : Hid (SlAt frR D w a1 l1 xs1) := h1
  have G1 : Hid (SlAt frR E w ya1 yl1 xs1) := g1
  have H2 : Hid (SlAt intR D w a2 l2 xs2) := h2
  have G2 : Hid (SlAt intR E w ya2 yl2 xs2) := g2
  clear h0 g0 h1 g1 h2 g2
  have e3 : (x3 != x3) = false := by simp
  have e4 : (x4 != x4) = false := by simp
  have e5 : (x5 != x5) = false := by simp
  have e6 : (x6 != x6) = false := by simp
  go_enter Tryz.func9, Tryz.ntmps9
  go_wp2_with fail
  refine (eqLObj _ _ _ _ _ _ xs0 _ (D := D) (E := E) (H0.out.later (by go_grown)) (G0.out.later (by go_grown))).mono ?_
  rintro e w0 ⟨rfl, hb⟩
  have z0 : w.heap.size + 1 + 1 ≤ w0.heap.size := by have := hb.size; first | omega | (simp at this; omega)
  have p0 : ∀ o, w0.cell? ⟨w.heap.size, o, none⟩ = _ := fun o => hb.cell (p := ⟨w.heap.size, o, none⟩) (by first | omega | (simp <;> omega))
  have r0 : ∀ o, w0.cell? ⟨w.heap.size + 1, o, none⟩ = _ := fun o => hb.cell (p := ⟨w.heap.size + 1, o, none⟩) (by first | omega | (simp <;> omega))
  have B0 : Hid (Below w.heap.size w w0) := Below.trans (by go_grown) (hb.mono (by first | omega | (simp <;> omega)))
  clear hb
  go_wp2_with fail
  refine (eqLFrame _ _ _ _ _ _ xs1 _ (D := D) (E := E) (H1.out.later (B0.out)) (G1.out.later (B0.out))).mono ?_
  rintro e w1 ⟨rfl, hb⟩
  have z1 : w.heap.size + 1 + 1 ≤ w1.heap.size := by have := hb.size; first | omega | (simp at this; omega)
  have p1 : ∀ o, w1.cell? ⟨w.heap.size, o, none⟩ = _ := fun o => hb.cell (p := ⟨w.heap.size, o, none⟩) (by first | omega | (simp <;> omega))
  have r1 : ∀ o, w1.cell? ⟨w.heap.size + 1, o, none⟩ = _ := fun o => hb.cell (p := ⟨w.heap.size + 1, o, none⟩) (by first | omega | (simp <;> omega))
  have B1 : Hid (Below w.heap.size w w1) := Below.trans (B0.out) (hb.mono (by first | omega | (simp <;> omega)))
  clear hb
  go_wp2_with fail
  refine (eqLInt _ _ _ _ _ _ xs2 _ (D := D) (E := E) (H2.out.later (B1.out)) (G2.out.later (B1.out))).mono ?_
  rintro e w2 ⟨rfl, hb⟩
  have z2 : w.heap.size + 1 + 1 ≤ w2.heap.size := by have := hb.size; first | omega | (simp at this; omega)
  have p2 : ∀ o, w2.cell? ⟨w.heap.size, o, none⟩ = _ := fun o => hb.cell (p := ⟨w.heap.size, o, none⟩) (by first | omega | (simp <;> omega))
  have r2 : ∀ o, w2.cell? ⟨w.heap.size + 1, o, none⟩ = _ := fun o => hb.cell (p := ⟨w.heap.size + 1, o, none⟩) (by first | omega | (simp <;> omega))
  have B2 : Hid (Below w.heap.size w w2) := Below.trans (B1.out) (hb.mono (by first | omega | (simp <;> omega)))
  clear hb
  go_wp2_with fail
  refine (eqRVal _ _ _).mono ?_
  rintro e w7 ⟨rfl, hb⟩
  have B7 : Hid (Below w.heap.size w w7) := Below.trans (B2.out) (hb.mono (by first | omega | (simp <;> omega)))
  clear hb
  go_wp2_with fail
  go_ret
  exact ⟨rfl, B7.out⟩

set_option maxHeartbeats 2000000 in
theorem szRMach (x3 : Int) (x4 : Int) (x5 : Bool) (x6 : Int) (a0 : Option Addr) (l0 c0 : Nat) (a1 : Option Addr) (l1 c1 : Nat) (a2 : Option Addr) (l2 c2 : Nat) (xs0 : List Ob) (xs1 : List Fr) (xs2 : List Int) (l : Int) (w : World) {D : Nat → Prop} (h0 : SlAt obR D w a0 l0 xs0) (h1 : SlAt frR D w a1 l1 xs1) (h2 : SlAt intR D w a2 l2 xs2) (k0 : 0 ≤ l) (k1 : l ≤ 1048576) :
    Calls Tryz.prog 14 #[.agg #[.slice a0 l0 c0, .slice a1 l1 c1, .slice a2 l2 c2, .int .i64 x3, .int .i64 x4, .bool x5, .int .i64 x6], .int .i64 l] w fun e w' => SzP w l (Rep.small mcR (xs0, xs1, xs2, x3, x4, x5, x6)) e w' := by
  have H0 : Hid (SlAt obR D w a0 l0 xs0) := h0
  have H1 : Hid (SlAt frR D w a1 l1 xs1) := h1
  have H2 : Hid (SlAt intR D w a2 l2 xs2) := h2
  clear h0 h1 h2
  go_enter Tryz.func14, Tryz.ntmps14
  go_wp2_with fail
  refine (szLObj _ _ _ xs0 _ _ (D := D) (H0.out.later (by go_grown)) k0 k1).mono ?_
  rintro e w0 ⟨r0, rfl, u0, v0, m, hb⟩
  have M0 : Hid (0 ≤ r0 → (Rep.list obR).small xs0) := m
  have z0 : w.heap.size + 1 ≤ w0.heap.size := by have := hb.size; first | omega | (simp at this; omega)
  have p0 : ∀ o, w0.cell? ⟨w.heap.size, o, none⟩ = _ := fun o => hb.cell (p := ⟨w.heap.size, o, none⟩) (by first | omega | (simp <;> omega))
  have B0 : Hid (Below w.heap.size w w0) := Below.trans (by go_grown) (hb.mono (by first | omega | (simp <;> omega)))
  clear hb m
  by_cases q0 : r0 < 0
  · go_wp2_with fail
    go_ret
    exact ⟨-1, rfl, by omega, by omega, by omega, B0.out⟩
  go_wp2_with fail
  refine (szLFrame _ _ _ xs1 _ _ (D := D) (H1.out.later (B0.out)) (by omega) (by omega)).mono ?_
  rintro e w1 ⟨r1, rfl, u1, v1, m, hb⟩
  have M1 : Hid (0 ≤ r1 → (Rep.list frR).small xs1) := m
  have z1 : w.heap.size + 1 ≤ w1.heap.size := by have := hb.size; first | omega | (simp at this; omega)
  have p1 : ∀ o, w1.cell? ⟨w.heap.size, o, none⟩ = _ := fun o => hb.cell (p := ⟨w.heap.size, o, none⟩) (by first | omega | (simp <;> omega))
  have B1 : Hid (Below w.heap.size w w1) := Below.trans (B0.out) (hb.mono (by first | omega | (simp <;> omega)))
  clear hb m
  by_cases q1 : r1 < 0
  · go_wp2_with fail
    go_ret
    exact ⟨-1, rfl, by omega, by omega, by omega, B1.out⟩
  go_wp2_with fail
  refine (szLInt _ _ _ xs2 _ _ (D := D) (H2.out.later (B1.out)) (by omega) (by omega)).mono ?_
  rintro e w2 ⟨r2, rfl, u2, v2, m, hb⟩
  have M2 : Hid (0 ≤ r2 → (Rep.list intR).small xs2) := m
  have z2 : w.heap.size + 1 ≤ w2.heap.size := by have := hb.size; first | omega | (simp at this; omega)
  have p2 : ∀ o, w2.cell? ⟨w.heap.size, o, none⟩ = _ := fun o => hb.cell (p := ⟨w.heap.size, o, none⟩) (by first | omega | (simp <;> omega))
  have B2 : Hid (Below w.heap.size w w2) := Below.trans (B1.out) (hb.mono (by first | omega | (simp <;> omega)))
  clear hb m
  by_cases q2 : r2 < 0
  · go_wp2_with fail
    go_ret
    exact ⟨-1, rfl, by omega, by omega, by omega, B2.out⟩
  go_wp2_with fail
  go_ret
  exact ⟨_, rfl, by omega, by omega, fun _ => ⟨M0.out (by omega), ⟨M1.out (by omega), ⟨M2.out (by omega), ⟨trivial, ⟨trivial, ⟨trivial, trivial⟩⟩⟩⟩⟩⟩, B2.out⟩

theorem rd_Mach : Reads 49 mcR := reads_struct Tryz.underlying49 (by kernel_rfl) (.cons rfl (by kernel_rfl) rdL_Obj (.cons rfl (by kernel_rfl) rdL_Frame (.cons rfl (by kernel_rfl) rdL_Int (.cons rfl (by kernel_rfl) rd_int (.cons rfl (by kernel_rfl) rd_int (.one rfl (by kernel_rfl) rd_Val))))))

end Go.Proofs.YthdlccadcadopaaGreat
