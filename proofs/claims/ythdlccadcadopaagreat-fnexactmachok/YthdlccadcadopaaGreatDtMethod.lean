/-
  Data of the struct Method: copied into new memory, held against another one that is the same, its size, and how it is read as it came in.
-/
import Derived.Test.YthdlccadcadopaaGreatDtInt
import Derived.Test.YthdlccadcadopaaGreatDtIns
import Derived.Test.YthdlccadcadopaaGreatDtShape
import Derived.Test.YthdlccadcadopaaGreatDtCatch
namespace Go.Proofs.YthdlccadcadopaaGreat
open Go.ChangeShapes Go.WideShapes Go.ChangeAt Go.RowKit

def ToRMethod (w : World) (x0 : Int) (x1 : Int) (x3 : Int) (x4 : Int) (l2 : Nat) (l5 : Nat) (l6 : Nat) (l7 : Nat) (xs2 : List Int) (xs5 : List In) (xs6 : List Sh) (xs7 : List Ca) (e : Ending) (w' : World) : Prop :=
  ∃ na2 nc2 na5 nc5 na6 nc6 na7 nc7, e = .returned (.agg #[.int .i64 x0, .int .i64 x1, .slice na2 l2 (l2 + nc2), .int .i64 x3, .int .i64 x4, .slice na5 l5 (l5 + nc5), .slice na6 l6 (l6 + nc6), .slice na7 l7 (l7 + nc7)]) ∧ SlAt intR (fun b => w.heap.size ≤ b) w' na2 l2 xs2 ∧ SlAt inR (fun b => w.heap.size ≤ b) w' na5 l5 xs5 ∧ SlAt shR (fun b => w.heap.size ≤ b) w' na6 l6 xs6 ∧ SlAt caR (fun b => w.heap.size ≤ b) w' na7 l7 xs7 ∧ Below w.heap.size w w'

set_option maxHeartbeats 2000000 in
theorem toRMethodF (x0 : Int) (x1 : Int) (x3 : Int) (x4 : Int) (a2 : Option Addr) (l2 c2 : Nat) (a5 : Option Addr) (l5 c5 : Nat) (a6 : Option Addr) (l6 c6 : Nat) (a7 : Option Addr) (l7 c7 : Nat) (xs2 : List Int) (xs5 : List In) (xs6 : List Sh) (xs7 : List Ca) (w : World) {D : Nat → Prop} (h2 : SlAt intR D w a2 l2 xs2) (s2 : (Rep.list intR).small xs2) (h5 : SlAt inR D w a5 l5 xs5) (s5 : (Rep.list inR).small xs5) (h6 : SlAt shR D w a6 l6 xs6) (s6 : (Rep.list shR).small xs6) (h7 : SlAt caR D w a7 l7 xs7) (s7 : (Rep.list caR).small xs7) :
    Calls Tryz.prog 62 #[.agg #[.int .i64 x0, .int .i64 x1, .slice a2 l2 c2, .int .i64 x3, .int .i64 x4, .slice a5 l5 c5, .slice a6 l6 c6, .slice a7 l7 c7]] w fun e w' => ToRMethod w x0 x1 x3 x4 l2 l5 l6 l7 xs2 xs5 xs6 xs7 e w' ∧ FZ w w' := by
  have H2 : Hid (SlAt intR D w a2 l2 xs2) := h2
  have M2 : Hid ((Rep.list intR).small xs2) := s2
  have H5 : Hid (SlAt inR D w a5 l5 xs5) := h5
  have M5 : Hid ((Rep.list inR).small xs5) := s5
  have H6 : Hid (SlAt shR D w a6 l6 xs6) := h6
  have M6 : Hid ((Rep.list shR).small xs6) := s6
  have H7 : Hid (SlAt caR D w a7 l7 xs7) := h7
  have M7 : Hid ((Rep.list caR).small xs7) := s7
  clear h2 s2 h5 s5 h6 s6 h7 s7
  go_enter Tryz.func62, Tryz.ntmps62
  go_wp2_with fail
  refine (toLIntF _ _ _ xs2 _ (D := D) (H2.out.later (by go_grown)) M2.out).mono ?_
  rintro e w2 ⟨⟨na2, nc2, rfl, hS, hb⟩, hz⟩
  have z2 : w.heap.size + 1 + 1 + 1 ≤ w2.heap.size := by have := hb.size; first | omega | (simp at this; omega)
  have p2 : ∀ o, w2.cell? ⟨w.heap.size, o, none⟩ = _ := fun o => hb.cell (p := ⟨w.heap.size, o, none⟩) (by first | omega | (simp <;> omega))
  have r2 : ∀ o, w2.cell? ⟨w.heap.size + 1, o, none⟩ = _ := fun o => hb.cell (p := ⟨w.heap.size + 1, o, none⟩) (by first | omega | (simp <;> omega))
  have fr2 : ∀ o, w2.frozen? ⟨w.heap.size + 1, o, none⟩ = _ := fun o => hb.frozen (p := ⟨w.heap.size + 1, o, none⟩) (by first | omega | (simp <;> omega))
  have o2 : ∀ o, w2.cell? ⟨w.heap.size + 1 + 1, o, none⟩ = _ := fun o => hb.cell (p := ⟨w.heap.size + 1 + 1, o, none⟩) (by first | omega | (simp <;> omega))
  have fo2 : ∀ o, w2.frozen? ⟨w.heap.size + 1 + 1, o, none⟩ = _ := fun o => hb.frozen (p := ⟨w.heap.size + 1 + 1, o, none⟩) (by first | omega | (simp <;> omega))
  have B2 : Hid (Below w.heap.size w w2) := Below.trans (by go_grown) (hb.mono (by first | omega | (simp <;> omega)))
  have T2_2 : Hid (SlAt intR (fun b => w.heap.size + 1 + 1 + 1 ≤ b) w2 na2 l2 xs2) := SlAt.mono hS (fun b hb' _ => by simp at hb' <;> omega)
  have F2 : Hid (FZ w w2) := fun a => (hz a).trans (by first | (simp only [frozen?_alloc_cells]; done) | simp only [World.frozen?_setCell, frozen?_alloc_cells])
  clear hS hb hz
  go_wp2_with fail
  refine (toLInsF _ _ _ xs5 _ (D := D) (H5.out.later (by (repeat (refine Below.setCell ?_ (by first | omega | (simp <;> omega)) _)); exact B2.out)) M5.out).mono ?_
  rintro e w5 ⟨⟨na5, nc5, rfl, hS, hb⟩, hz⟩
  have z5 : w.heap.size + 1 + 1 + 1 ≤ w5.heap.size := by have := hb.size; first | omega | (simp at this; omega)
  have p5 : ∀ o, w5.cell? ⟨w.heap.size, o, none⟩ = _ := fun o => hb.cell (p := ⟨w.heap.size, o, none⟩) (by first | omega | (simp <;> omega))
  have r5 : ∀ o, w5.cell? ⟨w.heap.size + 1, o, none⟩ = _ := fun o => hb.cell (p := ⟨w.heap.size + 1, o, none⟩) (by first | omega | (simp <;> omega))
  have fr5 : ∀ o, w5.frozen? ⟨w.heap.size + 1, o, none⟩ = _ := fun o => hb.frozen (p := ⟨w.heap.size + 1, o, none⟩) (by first | omega | (simp <;> omega))
  have o5 : ∀ o, w5.cell? ⟨w.heap.size + 1 + 1, o, none⟩ = _ := fun o => hb.cell (p := ⟨w.heap.size + 1 + 1, o, none⟩) (by first | omega | (simp <;> omega))
  have fo5 : ∀ o, w5.frozen? ⟨w.heap.size + 1 + 1, o, none⟩ = _ := fun o => hb.frozen (p := ⟨w.heap.size + 1 + 1, o, none⟩) (by first | omega | (simp <;> omega))
  have B5 : Hid (Below w.heap.size w w5) := Below.trans (by (repeat (refine Below.setCell ?_ (by first | omega | (simp <;> omega)) _)); exact B2.out) (hb.mono (by first | omega | (simp <;> omega)))
  have T2_5 : Hid (SlAt intR (fun b => w.heap.size + 1 + 1 + 1 ≤ b) w5 na2 l2 xs2) := SlAt.later (by (repeat (refine SlAt.set ?_ _ _ (by first | omega | (simp <;> omega)))); exact T2_2.out) hb
  have T5_5 : Hid (SlAt inR (fun b => w.heap.size + 1 + 1 + 1 ≤ b) w5 na5 l5 xs5) := SlAt.mono hS (fun b hb' _ => by simp at hb' <;> omega)
  have F5 : Hid (FZ w w5) := fun a => (hz a).trans (by first | (simp only [World.frozen?_setCell]; exact F2.out a) | exact F2.out a)
  clear hS hb hz
  go_wp2_with fail
  refine (toLShapeF _ _ _ xs6 _ (D := D) (H6.out.later (by (repeat (refine Below.setCell ?_ (by first | omega | (simp <;> omega)) _)); exact B5.out)) M6.out).mono ?_
  rintro e w6 ⟨⟨na6, nc6, rfl, hS, hb⟩, hz⟩
  have z6 : w.heap.size + 1 + 1 + 1 ≤ w6.heap.size := by have := hb.size; first | omega | (simp at this; omega)
  have p6 : ∀ o, w6.cell? ⟨w.heap.size, o, none⟩ = _ := fun o => hb.cell (p := ⟨w.heap.size, o, none⟩) (by first | omega | (simp <;> omega))
  have r6 : ∀ o, w6.cell? ⟨w.heap.size + 1, o, none⟩ = _ := fun o => hb.cell (p := ⟨w.heap.size + 1, o, none⟩) (by first | omega | (simp <;> omega))
  have fr6 : ∀ o, w6.frozen? ⟨w.heap.size + 1, o, none⟩ = _ := fun o => hb.frozen (p := ⟨w.heap.size + 1, o, none⟩) (by first | omega | (simp <;> omega))
  have o6 : ∀ o, w6.cell? ⟨w.heap.size + 1 + 1, o, none⟩ = _ := fun o => hb.cell (p := ⟨w.heap.size + 1 + 1, o, none⟩) (by first | omega | (simp <;> omega))
  have fo6 : ∀ o, w6.frozen? ⟨w.heap.size + 1 + 1, o, none⟩ = _ := fun o => hb.frozen (p := ⟨w.heap.size + 1 + 1, o, none⟩) (by first | omega | (simp <;> omega))
  have B6 : Hid (Below w.heap.size w w6) := Below.trans (by (repeat (refine Below.setCell ?_ (by first | omega | (simp <;> omega)) _)); exact B5.out) (hb.mono (by first | omega | (simp <;> omega)))
  have T2_6 : Hid (SlAt intR (fun b => w.heap.size + 1 + 1 + 1 ≤ b) w6 na2 l2 xs2) := SlAt.later (by (repeat (refine SlAt.set ?_ _ _ (by first | omega | (simp <;> omega)))); exact T2_5.out) hb
  have T5_6 : Hid (SlAt inR (fun b => w.heap.size + 1 + 1 + 1 ≤ b) w6 na5 l5 xs5) := SlAt.later (by (repeat (refine SlAt.set ?_ _ _ (by first | omega | (simp <;> omega)))); exact T5_5.out) hb
  have T6_6 : Hid (SlAt shR (fun b => w.heap.size + 1 + 1 + 1 ≤ b) w6 na6 l6 xs6) := SlAt.mono hS (fun b hb' _ => by simp at hb' <;> omega)
  have F6 : Hid (FZ w w6) := fun a => (hz a).trans (by first | (simp only [World.frozen?_setCell]; exact F5.out a) | exact F5.out a)
  clear hS hb hz
  go_wp2_with fail
  refine (toLCatchF _ _ _ xs7 _ (D := D) (H7.out.later (by (repeat (refine Below.setCell ?_ (by first | omega | (simp <;> omega)) _)); exact B6.out)) M7.out).mono ?_
  rintro e w7 ⟨⟨na7, nc7, rfl, hS, hb⟩, hz⟩
  have z7 : w.heap.size + 1 + 1 + 1 ≤ w7.heap.size := by have := hb.size; first | omega | (simp at this; omega)
  have p7 : ∀ o, w7.cell? ⟨w.heap.size, o, none⟩ = _ := fun o => hb.cell (p := ⟨w.heap.size, o, none⟩) (by first | omega | (simp <;> omega))
  have r7 : ∀ o, w7.cell? ⟨w.heap.size + 1, o, none⟩ = _ := fun o => hb.cell (p := ⟨w.heap.size + 1, o, none⟩) (by first | omega | (simp <;> omega))
  have fr7 : ∀ o, w7.frozen? ⟨w.heap.size + 1, o, none⟩ = _ := fun o => hb.frozen (p := ⟨w.heap.size + 1, o, none⟩) (by first | omega | (simp <;> omega))
  have o7 : ∀ o, w7.cell? ⟨w.heap.size + 1 + 1, o, none⟩ = _ := fun o => hb.cell (p := ⟨w.heap.size + 1 + 1, o, none⟩) (by first | omega | (simp <;> omega))
  have fo7 : ∀ o, w7.frozen? ⟨w.heap.size + 1 + 1, o, none⟩ = _ := fun o => hb.frozen (p := ⟨w.heap.size + 1 + 1, o, none⟩) (by first | omega | (simp <;> omega))
  have B7 : Hid (Below w.heap.size w w7) := Below.trans (by (repeat (refine Below.setCell ?_ (by first | omega | (simp <;> omega)) _)); exact B6.out) (hb.mono (by first | omega | (simp <;> omega)))
  have T2_7 : Hid (SlAt intR (fun b => w.heap.size + 1 + 1 + 1 ≤ b) w7 na2 l2 xs2) := SlAt.later (by (repeat (refine SlAt.set ?_ _ _ (by first | omega | (simp <;> omega)))); exact T2_6.out) hb
  have T5_7 : Hid (SlAt inR (fun b => w.heap.size + 1 + 1 + 1 ≤ b) w7 na5 l5 xs5) := SlAt.later (by (repeat (refine SlAt.set ?_ _ _ (by first | omega | (simp <;> omega)))); exact T5_6.out) hb
  have T6_7 : Hid (SlAt shR (fun b => w.heap.size + 1 + 1 + 1 ≤ b) w7 na6 l6 xs6) := SlAt.later (by (repeat (refine SlAt.set ?_ _ _ (by first | omega | (simp <;> omega)))); exact T6_6.out) hb
  have T7_7 : Hid (SlAt caR (fun b => w.heap.size + 1 + 1 + 1 ≤ b) w7 na7 l7 xs7) := SlAt.mono hS (fun b hb' _ => by simp at hb' <;> omega)
  have F7 : Hid (FZ w w7) := fun a => (hz a).trans (by first | (simp only [World.frozen?_setCell]; exact F6.out a) | exact F6.out a)
  clear hS hb hz
  go_wp2_with fail
  refine bodyPost_ret (v := .agg #[.int .i64 x0, .int .i64 x1, .slice na2 l2 (l2 + nc2), .int .i64 x3, .int .i64 x4, .slice na5 l5 (l5 + nc5), .slice na6 l6 (l6 + nc6), .slice na7 l7 (l7 + nc7)]) ?_ rfl ?_
  · simp [results, Tryz.results62, go_sem, r2, r5, r6, r7]
  · refine ⟨?_, fun a => ?_⟩
    rotate_left
    · first | (simp only [World.frozen?_setCell]; exact F7.out a) | exact F7.out a
    unfold ToRMethod
    refine ⟨_, _, _, _, _, _, _, _, rfl, ?_, ?_, ?_, ?_, ?_⟩
    · refine SlAt.mono (D := fun b => w.heap.size + 1 + 1 + 1 ≤ b) ?_ (fun b hb _ => by omega)
      (repeat (refine SlAt.set ?_ _ _ (by first | omega | (simp <;> omega))))
      exact T2_7.out
    · refine SlAt.mono (D := fun b => w.heap.size + 1 + 1 + 1 ≤ b) ?_ (fun b hb _ => by omega)
      (repeat (refine SlAt.set ?_ _ _ (by first | omega | (simp <;> omega))))
      exact T5_7.out
    · refine SlAt.mono (D := fun b => w.heap.size + 1 + 1 + 1 ≤ b) ?_ (fun b hb _ => by omega)
      (repeat (refine SlAt.set ?_ _ _ (by first | omega | (simp <;> omega))))
      exact T6_7.out
    · refine SlAt.mono (D := fun b => w.heap.size + 1 + 1 + 1 ≤ b) ?_ (fun b hb _ => by omega)
      (repeat (refine SlAt.set ?_ _ _ (by first | omega | (simp <;> omega))))
      exact T7_7.out
    · (repeat (refine Below.setCell ?_ (by first | omega | (simp <;> omega)) _))
      exact B7.out
theorem toRMethod (x0 : Int) (x1 : Int) (x3 : Int) (x4 : Int) (a2 : Option Addr) (l2 c2 : Nat) (a5 : Option Addr) (l5 c5 : Nat) (a6 : Option Addr) (l6 c6 : Nat) (a7 : Option Addr) (l7 c7 : Nat) (xs2 : List Int) (xs5 : List In) (xs6 : List Sh) (xs7 : List Ca) (w : World) {D : Nat → Prop} (h2 : SlAt intR D w a2 l2 xs2) (s2 : (Rep.list intR).small xs2) (h5 : SlAt inR D w a5 l5 xs5) (s5 : (Rep.list inR).small xs5) (h6 : SlAt shR D w a6 l6 xs6) (s6 : (Rep.list shR).small xs6) (h7 : SlAt caR D w a7 l7 xs7) (s7 : (Rep.list caR).small xs7) :
    Calls Tryz.prog 62 #[.agg #[.int .i64 x0, .int .i64 x1, .slice a2 l2 c2, .int .i64 x3, .int .i64 x4, .slice a5 l5 c5, .slice a6 l6 c6, .slice a7 l7 c7]] w fun e w' => ToRMethod w x0 x1 x3 x4 l2 l5 l6 l7 xs2 xs5 xs6 xs7 e w' := (toRMethodF x0 x1 x3 x4 a2 l2 c2 a5 l5 c5 a6 l6 c6 a7 l7 c7 xs2 xs5 xs6 xs7 w h2 s2 h5 s5 h6 s6 h7 s7).mono fun _ _ h => h.1

theorem info_Method : (Tryz.prog.info? 68).map (fun i => (i.zero, i.size, i.bytes)) = some (some (.agg #[.int .i64 0, .int .i64 0, .slice none 0 0, .int .i64 0, .int .i64 0, .slice none 0 0, .slice none 0 0, .slice none 0 0]), 8, 128) := by kernel_rfl
theorem make_Method (n : Nat) (hn : n ≤ 1048576) (w : World) : (Instr.makeSlice 36 (.int .i64 (n : Int)) (.int .i64 (n : Int))).run Tryz.prog w = .ok (.slice (some ⟨w.heap.size, 0, none⟩) n n) (w.alloc (.cells (madeCells #[.int .i64 0, .int .i64 0, .slice none 0 0, .int .i64 0, .int .i64 0, .slice none 0 0, .slice none 0 0, .slice none 0 0] (n * 8)) 68)) := by
  obtain ⟨i, hi, hzz⟩ := Option.map_eq_some_iff.1 info_Method
  simp only [Prod.mk.injEq] at hzz
  obtain ⟨hz, hs, hb⟩ := hzz
  have hr := run_make (P := Tryz.prog) w 36 68 i _ Tryz.underlying36 hi hz .i64 .i64 n n (by omega) (Int.le_refl _) (by rw [hb]; omega) (by omega)
  simp only [Int.toNat_natCast, hs] at hr
  exact hr

set_option maxHeartbeats 2000000 in
theorem toLMethodF (a : Option Addr) (len cap : Nat) (xs : List Me) (w : World) {D : Nat → Prop} (h : SlAt meR D w a len xs) (hs : (Rep.list meR).small xs) :
    Calls Tryz.prog 24 #[.slice a len cap] w fun e w' => ToL meR w len xs e w' ∧ FZ w w' := by
  have hlen : len ≤ 1048576 := by rw [← h.size]; exact hs.1
  have hmk := make_Method len hlen
  have HS : Hid (xs.length = len) := h.size
  have H : Hid (SlAt meR D w a len xs) := h
  have SM : Hid (∀ x ∈ xs, Rep.small meR x) := hs.2
  clear h hs
  go_enter Tryz.func24, Tryz.ntmps24
  go_wp2_with fail
  go_loopw [4] (fun t wr => ∃ k : Nat, k ≤ len ∧ t = .int .i64 k ∧ CopR meR w.heap.size len wr xs k ∧ Below w.heap.size w wr ∧ w.heap.size < wr.heap.size ∧ FZ w wr) (fun t _ => len - (intOf t).toNat)
  case atStart => exact ⟨0, Nat.zero_le _, rfl, CopR.made meR w _ len _ xs, by go_grown, by simp, fun a => by simp only [frozen?_alloc_cells]⟩
  case round =>
    obtain ⟨k, hk, rfl, hrow, hb, hz, hfz⟩ := hrel
    have HZF : Hid (FZ w wr) := hfz
    have HR : Hid (CopR meR w.heap.size len wr xs k) := hrow
    have HB : Hid (Below w.heap.size w wr) := hb
    have HZ : Hid (w.heap.size < wr.heap.size) := hz
    clear hrow hb hz hfz
    by_cases hlt : k < len
    · obtain ⟨x, hx⟩ : ∃ x, xs[k]? = some x := ⟨xs[k]'(by rw [HS.out]; exact hlt), List.getElem?_eq_getElem _⟩
      have HX : Hid (xs[k]? = some x) := hx
      have SX : Hid (Rep.small meR x) := SM.out x (List.mem_of_getElem? hx)
      obtain ⟨b, off, rfl, _, vs, hv, hc⟩ := (H.out.later HB.out).at k x hx
      obtain ⟨x0, x1, xs2, x3, x4, xs5, xs6, xs7⟩ := x
      obtain ⟨_, _, rfl, ⟨rfl, b0⟩, _, _, rfl, ⟨rfl, b1⟩, _, _, rfl, ⟨a2, l2, c2, rfl, h2⟩, _, _, rfl, ⟨rfl, b3⟩, _, _, rfl, ⟨rfl, b4⟩, _, _, rfl, ⟨a5, l5, c5, rfl, h5⟩, _, _, rfl, ⟨a6, l6, c6, rfl, h6⟩, a7, l7, c7, rfl, h7⟩ := hv
      have c0x : wr.cell? ⟨b, off + k * 8, none⟩ = some (.int .i64 x0) := hc 0 _ rfl
      have c1x : wr.cell? ⟨b, off + k * 8 + 1, none⟩ = some (.int .i64 x1) := hc 1 _ rfl
      have c2x : wr.cell? ⟨b, off + k * 8 + 2, none⟩ = some (.slice a2 l2 c2) := hc 2 _ rfl
      have c3x : wr.cell? ⟨b, off + k * 8 + 3, none⟩ = some (.int .i64 x3) := hc 3 _ rfl
      have c4x : wr.cell? ⟨b, off + k * 8 + 4, none⟩ = some (.int .i64 x4) := hc 4 _ rfl
      have c5x : wr.cell? ⟨b, off + k * 8 + 5, none⟩ = some (.slice a5 l5 c5) := hc 5 _ rfl
      have c6x : wr.cell? ⟨b, off + k * 8 + 6, none⟩ = some (.slice a6 l6 c6) := hc 6 _ rfl
      have c7x : wr.cell? ⟨b, off + k * 8 + 7, none⟩ = some (.slice a7 l7 c7) := hc 7 _ rfl
      have H2 : Hid (SlAt intR D wr a2 l2 xs2) := h2
      have H5 : Hid (SlAt inR D wr a5 l5 xs5) := h5
      have H6 : Hid (SlAt shR D wr a6 l6 xs6) := h6
      have H7 : Hid (SlAt caR D wr a7 l7 xs7) := h7
      have HF : Hid (∀ w1 us, Below wr.heap.size wr w1 → Rep.holds meR (fun b => wr.heap.size ≤ b) w1 us (x0, x1, xs2, x3, x4, xs5, xs6, xs7) → CopR meR w.heap.size len (putCells w1 w.heap.size (k * 8) us) xs (k + 1)) := fun w1 us h1 h2 => HR.out.step h1 HZ.out hlt HX.out h2
      have HC : Hid (∀ w1, Below wr.heap.size wr w1 → ∀ j, j < 8 → (∃ v, w1.cell? ⟨w.heap.size, k * 8 + j, none⟩ = some v) ∧ w1.frozen? ⟨w.heap.size, k * 8 + j, none⟩ = false) := fun w1 h1 j hj => by
        obtain ⟨⟨v, hv⟩, hf⟩ := HR.out.row (k * 8 + j) (mul_lt_row hlt hj)
        exact ⟨⟨v, by rw [h1.cell (p := ⟨w.heap.size, k * 8 + j, none⟩) HZ.out]; exact hv⟩, by rw [h1.frozen (p := ⟨w.heap.size, k * 8 + j, none⟩) HZ.out]; exact hf⟩
      clear hx hc h2 h5 h6 h7
      go_wp2_with fail
      refine (toRMethodF _ _ _ _ _ _ _ _ _ _ _ _ _ _ _ _ xs2 xs5 xs6 xs7 _ H2.out SX.out.2.2.1 H5.out SX.out.2.2.2.2.2.1 H6.out SX.out.2.2.2.2.2.2.1 H7.out SX.out.2.2.2.2.2.2.2).mono ?_
      rintro e w1 ⟨⟨na2, nc2, na5, nc5, na6, nc6, na7, nc7, rfl, g2, g5, g6, g7, hb1⟩, hz1⟩
      obtain ⟨⟨v0, hv0⟩, hf0⟩ := HC.out w1 hb1 0 (by omega)
      obtain ⟨⟨v1, hv1⟩, hf1⟩ := HC.out w1 hb1 1 (by omega)
      obtain ⟨⟨v2, hv2⟩, hf2⟩ := HC.out w1 hb1 2 (by omega)
      obtain ⟨⟨v3, hv3⟩, hf3⟩ := HC.out w1 hb1 3 (by omega)
      obtain ⟨⟨v4, hv4⟩, hf4⟩ := HC.out w1 hb1 4 (by omega)
      obtain ⟨⟨v5, hv5⟩, hf5⟩ := HC.out w1 hb1 5 (by omega)
      obtain ⟨⟨v6, hv6⟩, hf6⟩ := HC.out w1 hb1 6 (by omega)
      obtain ⟨⟨v7, hv7⟩, hf7⟩ := HC.out w1 hb1 7 (by omega)
      simp only [Nat.add_zero] at hv0 hf0
      have HCop : Hid (CopR meR w.heap.size len (putCells w1 w.heap.size (k * 8) [.int .i64 x0, .int .i64 x1, .slice na2 l2 (l2 + nc2), .int .i64 x3, .int .i64 x4, .slice na5 l5 (l5 + nc5), .slice na6 l6 (l6 + nc6), .slice na7 l7 (l7 + nc7)]) xs (k + 1)) := HF.out w1 _ hb1 (⟨_, _, rfl, ⟨rfl, b0⟩, ⟨_, _, rfl, ⟨rfl, b1⟩, ⟨_, _, rfl, ⟨na2, l2, _, rfl, g2⟩, ⟨_, _, rfl, ⟨rfl, b3⟩, ⟨_, _, rfl, ⟨rfl, b4⟩, ⟨_, _, rfl, ⟨na5, l5, _, rfl, g5⟩, ⟨_, _, rfl, ⟨na6, l6, _, rfl, g6⟩, ⟨na7, l7, _, rfl, g7⟩⟩⟩⟩⟩⟩⟩⟩)
      have b2 : Hid (Below w.heap.size w w1) := HB.out.trans (hb1.mono (Nat.le_of_lt HZ.out))
      have z2 : Hid (w.heap.size < w1.heap.size) := by have := hb1.size; have := HZ.out; show _ < _; omega
      have f2 : Hid (FZ w w1) := fun a => (hz1 a).trans (HZF.out a)
      clear hz1 hb1 g2 g5 g6 g7
      go_wp2_with fail
      refine ⟨⟨k + 1, by omega, by go_num, HCop.out, ?_, ?_, fun a => by simp only [World.frozen?_setCell]; exact f2.out a⟩, by simp [intOf]; omega⟩
      · (repeat (refine Below.setCell ?_ (by simp) _))
        exact b2.out
      · simp only [World.size_setCell]
        exact z2.out
    · have ek : k = len := by omega
      subst ek
      go_wp2_with fail
      go_ret
      exact ⟨⟨_, 0, rfl, HR.out.sl HS.out hlen, HB.out⟩, HZF.out⟩

theorem toLMethod (a : Option Addr) (len cap : Nat) (xs : List Me) (w : World) {D : Nat → Prop} (h : SlAt meR D w a len xs) (hs : (Rep.list meR).small xs) :
    Calls Tryz.prog 24 #[.slice a len cap] w fun e w' => ToL meR w len xs e w' := (toLMethodF a len cap xs w h hs).mono fun _ _ h => h.1

set_option maxHeartbeats 2000000 in
theorem eqRMethod (x0 : Int) (x1 : Int) (x3 : Int) (x4 : Int) (a2 : Option Addr) (l2 c2 : Nat) (a5 : Option Addr) (l5 c5 : Nat) (a6 : Option Addr) (l6 c6 : Nat) (a7 : Option Addr) (l7 c7 : Nat) (ya2 : Option Addr) (yl2 yc2 : Nat) (ya5 : Option Addr) (yl5 yc5 : Nat) (ya6 : Option Addr) (yl6 yc6 : Nat) (ya7 : Option Addr) (yl7 yc7 : Nat) (xs2 : List Int) (xs5 : List In) (xs6 : List Sh) (xs7 : List Ca) (w : World) {D E : Nat → Prop} (h2 : SlAt intR D w a2 l2 xs2) (g2 : SlAt intR E w ya2 yl2 xs2) (h5 : SlAt inR D w a5 l5 xs5) (g5 : SlAt inR E w ya5 yl5 xs5) (h6 : SlAt shR D w a6 l6 xs6) (g6 : SlAt shR E w ya6 yl6 xs6) (h7 : SlAt caR D w a7 l7 xs7) (g7 : SlAt caR E w ya7 yl7 xs7) :
    Calls Tryz.prog 70 #[.agg #[.int .i64 x0, .int .i64 x1, .slice a2 l2 c2, .int .i64 x3, .int .i64 x4, .slice a5 l5 c5, .slice a6 l6 c6, .slice a7 l7 c7], .agg #[.int .i64 x0, .int .i64 x1, .slice ya2 yl2 yc2, .int .i64 x3, .int .i64 x4, .slice ya5 yl5 yc5, .slice ya6 yl6 yc6, .slice ya7 yl7 yc7]] w fun e w' => e = .returned (.bool true) ∧ Below w.heap.size w w' := by
  have H2 : Hid (SlAt intR D w a2 l2 xs2) := h2
  have G2 : Hid (SlAt intR E w ya2 yl2 xs2) := g2
  have H5 : Hid (SlAt inR D w a5 l5 xs5) := h5
  have G5 : Hid (SlAt inR E w ya5 yl5 xs5) := g5
  have H6 : Hid (SlAt shR D w a6 l6 xs6) := h6
  have G6 : Hid (SlAt shR E w ya6 yl6 xs6) := g6
  have H7 : Hid (SlAt caR D w a7 l7 xs7) := h7
  have G7 : Hid (SlAt caR E w ya7 yl7 xs7) := g7
  clear h2 g2 h5 g5 h6 g6 h7 g7
  have e0 : (x0 != x0) = false := by simp
  have e1 : (x1 != x1) = false := by simp
  have e3 : (x3 != x3) = false := by simp
  have e4 : (x4 != x4) = false := by simp
  go_enter Tryz.func70, Tryz.ntmps70
  go_wp2_with fail
  refine (eqLInt _ _ _ _ _ _ xs2 _ (D := D) (E := E) (H2.out.later (by go_grown)) (G2.out.later (by go_grown))).mono ?_
  rintro e w2 ⟨rfl, hb⟩
  have z2 : w.heap.size + 1 + 1 ≤ w2.heap.size := by have := hb.size; first | omega | (simp at this; omega)
  have p2 : ∀ o, w2.cell? ⟨w.heap.size, o, none⟩ = _ := fun o => hb.cell (p := ⟨w.heap.size, o, none⟩) (by first | omega | (simp <;> omega))
  have r2 : ∀ o, w2.cell? ⟨w.heap.size + 1, o, none⟩ = _ := fun o => hb.cell (p := ⟨w.heap.size + 1, o, none⟩) (by first | omega | (simp <;> omega))
  have B2 : Hid (Below w.heap.size w w2) := Below.trans (by go_grown) (hb.mono (by first | omega | (simp <;> omega)))
  clear hb
  go_wp2_with fail
  refine (eqLIns _ _ _ _ _ _ xs5 _ (D := D) (E := E) (H5.out.later (B2.out)) (G5.out.later (B2.out))).mono ?_
  rintro e w5 ⟨rfl, hb⟩
  have z5 : w.heap.size + 1 + 1 ≤ w5.heap.size := by have := hb.size; first | omega | (simp at this; omega)
  have p5 : ∀ o, w5.cell? ⟨w.heap.size, o, none⟩ = _ := fun o => hb.cell (p := ⟨w.heap.size, o, none⟩) (by first | omega | (simp <;> omega))
  have r5 : ∀ o, w5.cell? ⟨w.heap.size + 1, o, none⟩ = _ := fun o => hb.cell (p := ⟨w.heap.size + 1, o, none⟩) (by first | omega | (simp <;> omega))
  have B5 : Hid (Below w.heap.size w w5) := Below.trans (B2.out) (hb.mono (by first | omega | (simp <;> omega)))
  clear hb
  go_wp2_with fail
  refine (eqLShape _ _ _ _ _ _ xs6 _ (D := D) (E := E) (H6.out.later (B5.out)) (G6.out.later (B5.out))).mono ?_
  rintro e w6 ⟨rfl, hb⟩
  have z6 : w.heap.size + 1 + 1 ≤ w6.heap.size := by have := hb.size; first | omega | (simp at this; omega)
  have p6 : ∀ o, w6.cell? ⟨w.heap.size, o, none⟩ = _ := fun o => hb.cell (p := ⟨w.heap.size, o, none⟩) (by first | omega | (simp <;> omega))
  have r6 : ∀ o, w6.cell? ⟨w.heap.size + 1, o, none⟩ = _ := fun o => hb.cell (p := ⟨w.heap.size + 1, o, none⟩) (by first | omega | (simp <;> omega))
  have B6 : Hid (Below w.heap.size w w6) := Below.trans (B5.out) (hb.mono (by first | omega | (simp <;> omega)))
  clear hb
  go_wp2_with fail
  refine (eqLCatch _ _ _ _ _ _ xs7 _ (D := D) (E := E) (H7.out.later (B6.out)) (G7.out.later (B6.out))).mono ?_
  rintro e w7 ⟨rfl, hb⟩
  have z7 : w.heap.size + 1 + 1 ≤ w7.heap.size := by have := hb.size; first | omega | (simp at this; omega)
  have p7 : ∀ o, w7.cell? ⟨w.heap.size, o, none⟩ = _ := fun o => hb.cell (p := ⟨w.heap.size, o, none⟩) (by first | omega | (simp <;> omega))
  have r7 : ∀ o, w7.cell? ⟨w.heap.size + 1, o, none⟩ = _ := fun o => hb.cell (p := ⟨w.heap.size + 1, o, none⟩) (by first | omega | (simp <;> omega))
  have B7 : Hid (Below w.heap.size w w7) := Below.trans (B6.out) (hb.mono (by first | omega | (simp <;> omega)))
  clear hb
  go_wp2_with fail
  go_ret
  exact ⟨rfl, B7.out⟩

set_option maxHeartbeats 2000000 in
theorem eqLMethod (a : Option Addr) (la ca : Nat) (b : Option Addr) (lb cb : Nat) (xs : List Me) (w : World) {D E : Nat → Prop} (hx : SlAt meR D w a la xs) (hy : SlAt meR E w b lb xs) :
    Calls Tryz.prog 32 #[.slice a la ca, .slice b lb cb] w fun e w' => e = .returned (.bool true) ∧ Below w.heap.size w w' := by
  have hra := hx.room
  have el : lb = la := by rw [← hx.size, ← hy.size]
  subst el
  have HS : Hid (xs.length = lb) := hx.size
  have HX : Hid (SlAt meR D w a lb xs) := hx
  have HY : Hid (SlAt meR E w b lb xs) := hy
  clear hx hy
  have e1 : ((lb : Int) != lb) = false := by simp
  go_enter Tryz.func32, Tryz.ntmps32
  go_wp2_with fail
  go_loopw [5] (fun t wr => ∃ k : Nat, k ≤ lb ∧ t = .int .i64 k ∧ Below w.heap.size w wr) (fun t _ => lb - (intOf t).toNat)
  case atStart => exact ⟨0, Nat.zero_le _, rfl, Below.refl _ _⟩
  case round =>
    obtain ⟨k, hk, rfl, hb⟩ := hrel
    have HB : Hid (Below w.heap.size w wr) := hb
    clear hb
    by_cases hlt : k < lb
    · obtain ⟨x, hx⟩ : ∃ x, xs[k]? = some x := ⟨xs[k]'(by rw [HS.out]; exact hlt), List.getElem?_eq_getElem _⟩
      obtain ⟨b1, o1, rfl, _, vs, hv, hc⟩ := (HX.out.later HB.out).at k x hx
      obtain ⟨b2, o2, rfl, _, us, hu, hd⟩ := (HY.out.later HB.out).at k x hx
      obtain ⟨x0, x1, xs2, x3, x4, xs5, xs6, xs7⟩ := x
      obtain ⟨_, _, rfl, ⟨rfl, ub0⟩, _, _, rfl, ⟨rfl, ub1⟩, _, _, rfl, ⟨a2, l2, c2, rfl, h2⟩, _, _, rfl, ⟨rfl, ub3⟩, _, _, rfl, ⟨rfl, ub4⟩, _, _, rfl, ⟨a5, l5, c5, rfl, h5⟩, _, _, rfl, ⟨a6, l6, c6, rfl, h6⟩, a7, l7, c7, rfl, h7⟩ := hv
      obtain ⟨_, _, rfl, ⟨rfl, yb0⟩, _, _, rfl, ⟨rfl, yb1⟩, _, _, rfl, ⟨ya2, yl2, yc2, rfl, yh2⟩, _, _, rfl, ⟨rfl, yb3⟩, _, _, rfl, ⟨rfl, yb4⟩, _, _, rfl, ⟨ya5, yl5, yc5, rfl, yh5⟩, _, _, rfl, ⟨ya6, yl6, yc6, rfl, yh6⟩, ya7, yl7, yc7, rfl, yh7⟩ := hu
      have c0x : wr.cell? ⟨b1, o1 + k * 8, none⟩ = some (.int .i64 x0) := hc 0 _ rfl
      have d0x : wr.cell? ⟨b2, o2 + k * 8, none⟩ = some (.int .i64 x0) := hd 0 _ rfl
      have c1x : wr.cell? ⟨b1, o1 + k * 8 + 1, none⟩ = some (.int .i64 x1) := hc 1 _ rfl
      have d1x : wr.cell? ⟨b2, o2 + k * 8 + 1, none⟩ = some (.int .i64 x1) := hd 1 _ rfl
      have c2x : wr.cell? ⟨b1, o1 + k * 8 + 2, none⟩ = some (.slice a2 l2 c2) := hc 2 _ rfl
      have d2x : wr.cell? ⟨b2, o2 + k * 8 + 2, none⟩ = some (.slice ya2 yl2 yc2) := hd 2 _ rfl
      have c3x : wr.cell? ⟨b1, o1 + k * 8 + 3, none⟩ = some (.int .i64 x3) := hc 3 _ rfl
      have d3x : wr.cell? ⟨b2, o2 + k * 8 + 3, none⟩ = some (.int .i64 x3) := hd 3 _ rfl
      have c4x : wr.cell? ⟨b1, o1 + k * 8 + 4, none⟩ = some (.int .i64 x4) := hc 4 _ rfl
      have d4x : wr.cell? ⟨b2, o2 + k * 8 + 4, none⟩ = some (.int .i64 x4) := hd 4 _ rfl
      have c5x : wr.cell? ⟨b1, o1 + k * 8 + 5, none⟩ = some (.slice a5 l5 c5) := hc 5 _ rfl
      have d5x : wr.cell? ⟨b2, o2 + k * 8 + 5, none⟩ = some (.slice ya5 yl5 yc5) := hd 5 _ rfl
      have c6x : wr.cell? ⟨b1, o1 + k * 8 + 6, none⟩ = some (.slice a6 l6 c6) := hc 6 _ rfl
      have d6x : wr.cell? ⟨b2, o2 + k * 8 + 6, none⟩ = some (.slice ya6 yl6 yc6) := hd 6 _ rfl
      have c7x : wr.cell? ⟨b1, o1 + k * 8 + 7, none⟩ = some (.slice a7 l7 c7) := hc 7 _ rfl
      have d7x : wr.cell? ⟨b2, o2 + k * 8 + 7, none⟩ = some (.slice ya7 yl7 yc7) := hd 7 _ rfl
      have H2 : Hid (SlAt intR D wr a2 l2 xs2) := h2
      have G2 : Hid (SlAt intR E wr ya2 yl2 xs2) := yh2
      have H5 : Hid (SlAt inR D wr a5 l5 xs5) := h5
      have G5 : Hid (SlAt inR E wr ya5 yl5 xs5) := yh5
      have H6 : Hid (SlAt shR D wr a6 l6 xs6) := h6
      have G6 : Hid (SlAt shR E wr ya6 yl6 xs6) := yh6
      have H7 : Hid (SlAt caR D wr a7 l7 xs7) := h7
      have G7 : Hid (SlAt caR E wr ya7 yl7 xs7) := yh7
      clear hx hc hd h2 yh2 h5 yh5 h6 yh6 h7 yh7
      go_wp2_with fail
      go_region_with (go_at_call 70; refine (eqRMethod _ _ _ _ _ _ _ _ _ _ _ _ _ _ _ _ _ _ _ _ _ _ _ _ _ _ _ _ xs2 xs5 xs6 xs7 _ (H2.out.later (by go_grown)) (G2.out.later (by go_grown)) (H5.out.later (by go_grown)) (G5.out.later (by go_grown)) (H6.out.later (by go_grown)) (G6.out.later (by go_grown)) (H7.out.later (by go_grown)) (G7.out.later (by go_grown))).mono ?_; rintro e w2 ⟨rfl, hb2⟩)
      all_goals
        have hb3 : Hid (Below w.heap.size w w2) := HB.out.trans (Below.mono (Below.trans (below_drawn 1 rfl) hb2) HB.out.size)
        clear hb2
        go_wp2_with fail
        exact ⟨⟨k + 1, by omega, by go_num, hb3.out⟩, by simp [intOf]; omega⟩
    · have ek : k = lb := by omega
      subst ek
      go_wp2_with fail
      go_ret
      exact ⟨rfl, HB.out⟩

set_option maxHeartbeats 2000000 in
theorem szRMethod (x0 : Int) (x1 : Int) (x3 : Int) (x4 : Int) (a2 : Option Addr) (l2 c2 : Nat) (a5 : Option Addr) (l5 c5 : Nat) (a6 : Option Addr) (l6 c6 : Nat) (a7 : Option Addr) (l7 c7 : Nat) (xs2 : List Int) (xs5 : List In) (xs6 : List Sh) (xs7 : List Ca) (l : Int) (w : World) {D : Nat → Prop} (h2 : SlAt intR D w a2 l2 xs2) (h5 : SlAt inR D w a5 l5 xs5) (h6 : SlAt shR D w a6 l6 xs6) (h7 : SlAt caR D w a7 l7 xs7) (k0 : 0 ≤ l) (k1 : l ≤ 1048576) :
    Calls Tryz.prog 56 #[.agg #[.int .i64 x0, .int .i64 x1, .slice a2 l2 c2, .int .i64 x3, .int .i64 x4, .slice a5 l5 c5, .slice a6 l6 c6, .slice a7 l7 c7], .int .i64 l] w fun e w' => SzP w l (Rep.small meR (x0, x1, xs2, x3, x4, xs5, xs6, xs7)) e w' := by
  have H2 : Hid (SlAt intR D w a2 l2 xs2) := h2
  have H5 : Hid (SlAt inR D w a5 l5 xs5) := h5
  have H6 : Hid (SlAt shR D w a6 l6 xs6) := h6
  have H7 : Hid (SlAt caR D w a7 l7 xs7) := h7
  clear h2 h5 h6 h7
  go_enter Tryz.func56, Tryz.ntmps56
  go_wp2_with fail
  refine (szLInt _ _ _ xs2 _ _ (D := D) (H2.out.later (by go_grown)) k0 k1).mono ?_
  rintro e w2 ⟨r2, rfl, u2, v2, m, hb⟩
  have M2 : Hid (0 ≤ r2 → (Rep.list intR).small xs2) := m
  have z2 : w.heap.size + 1 ≤ w2.heap.size := by have := hb.size; first | omega | (simp at this; omega)
  have p2 : ∀ o, w2.cell? ⟨w.heap.size, o, none⟩ = _ := fun o => hb.cell (p := ⟨w.heap.size, o, none⟩) (by first | omega | (simp <;> omega))
  have B2 : Hid (Below w.heap.size w w2) := Below.trans (by go_grown) (hb.mono (by first | omega | (simp <;> omega)))
  clear hb m
  by_cases q2 : r2 < 0
  · go_wp2_with fail
    go_ret
    exact ⟨-1, rfl, by omega, by omega, by omega, B2.out⟩
  go_wp2_with fail
  refine (szLIns _ _ _ xs5 _ _ (D := D) (H5.out.later (B2.out)) (by omega) (by omega)).mono ?_
  rintro e w5 ⟨r5, rfl, u5, v5, m, hb⟩
  have M5 : Hid (0 ≤ r5 → (Rep.list inR).small xs5) := m
  have z5 : w.heap.size + 1 ≤ w5.heap.size := by have := hb.size; first | omega | (simp at this; omega)
  have p5 : ∀ o, w5.cell? ⟨w.heap.size, o, none⟩ = _ := fun o => hb.cell (p := ⟨w.heap.size, o, none⟩) (by first | omega | (simp <;> omega))
  have B5 : Hid (Below w.heap.size w w5) := Below.trans (B2.out) (hb.mono (by first | omega | (simp <;> omega)))
  clear hb m
  by_cases q5 : r5 < 0
  · go_wp2_with fail
    go_ret
    exact ⟨-1, rfl, by omega, by omega, by omega, B5.out⟩
  go_wp2_with fail
  refine (szLShape _ _ _ xs6 _ _ (D := D) (H6.out.later (B5.out)) (by omega) (by omega)).mono ?_
  rintro e w6 ⟨r6, rfl, u6, v6, m, hb⟩
  have M6 : Hid (0 ≤ r6 → (Rep.list shR).small xs6) := m
  have z6 : w.heap.size + 1 ≤ w6.heap.size := by have := hb.size; first | omega | (simp at this; omega)
  have p6 : ∀ o, w6.cell? ⟨w.heap.size, o, none⟩ = _ := fun o => hb.cell (p := ⟨w.heap.size, o, none⟩) (by first | omega | (simp <;> omega))
  have B6 : Hid (Below w.heap.size w w6) := Below.trans (B5.out) (hb.mono (by first | omega | (simp <;> omega)))
  clear hb m
  by_cases q6 : r6 < 0
  · go_wp2_with fail
    go_ret
    exact ⟨-1, rfl, by omega, by omega, by omega, B6.out⟩
  go_wp2_with fail
  refine (szLCatch _ _ _ xs7 _ _ (D := D) (H7.out.later (B6.out)) (by omega) (by omega)).mono ?_
  rintro e w7 ⟨r7, rfl, u7, v7, m, hb⟩
  have M7 : Hid (0 ≤ r7 → (Rep.list caR).small xs7) := m
  have z7 : w.heap.size + 1 ≤ w7.heap.size := by have := hb.size; first | omega | (simp at this; omega)
  have p7 : ∀ o, w7.cell? ⟨w.heap.size, o, none⟩ = _ := fun o => hb.cell (p := ⟨w.heap.size, o, none⟩) (by first | omega | (simp <;> omega))
  have B7 : Hid (Below w.heap.size w w7) := Below.trans (B6.out) (hb.mono (by first | omega | (simp <;> omega)))
  clear hb m
  by_cases q7 : r7 < 0
  · go_wp2_with fail
    go_ret
    exact ⟨-1, rfl, by omega, by omega, by omega, B7.out⟩
  go_wp2_with fail
  go_ret
  exact ⟨_, rfl, by omega, by omega, fun _ => ⟨trivial, ⟨trivial, ⟨M2.out (by omega), ⟨trivial, ⟨trivial, ⟨M5.out (by omega), ⟨M6.out (by omega), M7.out (by omega)⟩⟩⟩⟩⟩⟩⟩, B7.out⟩

set_option maxHeartbeats 2000000 in
theorem szLMethod (a : Option Addr) (len cap : Nat) (xs : List Me) (l : Int) (w : World) {D : Nat → Prop} (h : SlAt meR D w a len xs) (k0 : 0 ≤ l) (k1 : l ≤ 1048576) :
    Calls Tryz.prog 19 #[.slice a len cap, .int .i64 l] w fun e w' => SzP w l ((Rep.list meR).small xs) e w' := by
  have hr := h.room
  have HS : Hid (xs.length = len) := h.size
  have H : Hid (SlAt meR D w a len xs) := h
  clear h
  by_cases hl : l < len
  · go_enter Tryz.func19, Tryz.ntmps19
    go_wp2_with fail
    go_ret
    exact ⟨-1, rfl, by omega, by omega, by omega, Below.refl _ _⟩
  · have h0 : 0 ≤ l - len := by omega
    go_enter Tryz.func19, Tryz.ntmps19
    go_wp2_with fail
    go_loopw [1, 5] (fun u t wr => ∃ (k : Nat) (r : Int), k ≤ len ∧ u = .int .i64 r ∧ t = .int .i64 k ∧ 0 ≤ r ∧ r ≤ l ∧ (∀ x ∈ xs.take k, Rep.small meR x) ∧ Below w.heap.size w wr) (fun _ t _ => len - (intOf t).toNat)
    case atStart => exact ⟨0, _, Nat.zero_le _, rfl, rfl, by omega, by omega, by simp, Below.refl _ _⟩
    case round =>
      obtain ⟨k, r, hk, rfl, rfl, r0, r1, hu, hb⟩ := hrel
      have HU : Hid (∀ x ∈ xs.take k, Rep.small meR x) := hu
      have HB : Hid (Below w.heap.size w wr) := hb
      clear hu hb
      by_cases hlt : k < len
      · obtain ⟨x, hx⟩ : ∃ x, xs[k]? = some x := ⟨xs[k]'(by rw [HS.out]; exact hlt), List.getElem?_eq_getElem _⟩
        have HX : Hid (xs[k]? = some x) := hx
        obtain ⟨b, off, rfl, _, vs, hv, hc⟩ := (H.out.later HB.out).at k x hx
        obtain ⟨x0, x1, xs2, x3, x4, xs5, xs6, xs7⟩ := x
        obtain ⟨_, _, rfl, ⟨rfl, b0⟩, _, _, rfl, ⟨rfl, b1⟩, _, _, rfl, ⟨a2, l2, c2, rfl, h2⟩, _, _, rfl, ⟨rfl, b3⟩, _, _, rfl, ⟨rfl, b4⟩, _, _, rfl, ⟨a5, l5, c5, rfl, h5⟩, _, _, rfl, ⟨a6, l6, c6, rfl, h6⟩, a7, l7, c7, rfl, h7⟩ := hv
        have c0x : wr.cell? ⟨b, off + k * 8, none⟩ = some (.int .i64 x0) := hc 0 _ rfl
        have c1x : wr.cell? ⟨b, off + k * 8 + 1, none⟩ = some (.int .i64 x1) := hc 1 _ rfl
        have c2x : wr.cell? ⟨b, off + k * 8 + 2, none⟩ = some (.slice a2 l2 c2) := hc 2 _ rfl
        have c3x : wr.cell? ⟨b, off + k * 8 + 3, none⟩ = some (.int .i64 x3) := hc 3 _ rfl
        have c4x : wr.cell? ⟨b, off + k * 8 + 4, none⟩ = some (.int .i64 x4) := hc 4 _ rfl
        have c5x : wr.cell? ⟨b, off + k * 8 + 5, none⟩ = some (.slice a5 l5 c5) := hc 5 _ rfl
        have c6x : wr.cell? ⟨b, off + k * 8 + 6, none⟩ = some (.slice a6 l6 c6) := hc 6 _ rfl
        have c7x : wr.cell? ⟨b, off + k * 8 + 7, none⟩ = some (.slice a7 l7 c7) := hc 7 _ rfl
        have H2 : Hid (SlAt intR D wr a2 l2 xs2) := h2
        have H5 : Hid (SlAt inR D wr a5 l5 xs5) := h5
        have H6 : Hid (SlAt shR D wr a6 l6 xs6) := h6
        have H7 : Hid (SlAt caR D wr a7 l7 xs7) := h7
        clear hx hc h2 h5 h6 h7
        go_wp2_with fail
        refine (szRMethod _ _ _ _ _ _ _ _ _ _ _ _ _ _ _ _ xs2 xs5 xs6 xs7 _ _ H2.out H5.out H6.out H7.out r0 (by omega)).mono ?_
        rintro e w2 ⟨q, rfl, q0, q1, qm, hb2⟩
        have QM : Hid (0 ≤ q → Rep.small meR (x0, x1, xs2, x3, x4, xs5, xs6, xs7)) := qm
        have B2 : Hid (Below w.heap.size w w2) := HB.out.trans (hb2.mono HB.out.size)
        clear qm hb2
        by_cases hq : q < 0
        · go_wp2_with fail
          go_ret
          exact ⟨-1, rfl, by omega, by omega, by omega, B2.out⟩
        · go_wp2_with fail
          refine ⟨⟨k + 1, q, by omega, rfl, by go_num, by omega, by omega, fun y hy => ?_, B2.out⟩, by simp [intOf]; omega⟩
          rw [List.take_add_one, HX.out] at hy
          rcases List.mem_append.1 hy with h1 | h1
          · exact HU.out y h1
          · simp at h1
            subst h1
            exact QM.out (by omega)
      · have ek : k = len := by omega
        subst ek
        have HA : Hid ((Rep.list meR).small xs) := ⟨by rw [HS.out]; omega, by have := HU.out; rwa [← HS.out, List.take_length] at this⟩
        go_wp2_with fail
        go_ret
        exact ⟨r, rfl, by omega, by omega, fun _ => HA.out, HB.out⟩

theorem rd_Method : Reads 106 meR := reads_struct Tryz.underlying106 (by kernel_rfl) (.cons rfl (by kernel_rfl) rd_int (.cons rfl (by kernel_rfl) rd_int (.cons rfl (by kernel_rfl) rdL_Int (.cons rfl (by kernel_rfl) rd_int (.cons rfl (by kernel_rfl) rd_int (.cons rfl (by kernel_rfl) rdL_Ins (.cons rfl (by kernel_rfl) rdL_Shape (.one rfl (by kernel_rfl) rdL_Catch))))))))
theorem rdL_Method : Reads 23 (.list meR) := reads_list Tryz.underlying23 (by kernel_rfl) rd_Method

end Go.Proofs.YthdlccadcadopaaGreat
