/-
  Data of the struct Frame: copied into new memory, held against another one that is the same, its size, and how it is read as it came in.
-/
import Derived.Test.YthdlccadcadopaaGreatDtInt
import Derived.Test.YthdlccadcadopaaGreatDtVal
namespace Go.Proofs.YthdlccadcadopaaGreat
open Go.ChangeShapes Go.WideShapes Go.ChangeAt Go.RowKit

abbrev Fr := Int × Int × List Vl × List Vl
abbrev frR : Rep Fr := .pair .int (.pair .int (.pair (.list vaR) (.list vaR)))

def ToRFrame (w : World) (x0 : Int) (x1 : Int) (l2 : Nat) (l3 : Nat) (xs2 : List Vl) (xs3 : List Vl) (e : Ending) (w' : World) : Prop :=
  ∃ na2 nc2 na3 nc3, e = .returned (.agg #[.int .i64 x0, .int .i64 x1, .slice na2 l2 (l2 + nc2), .slice na3 l3 (l3 + nc3)]) ∧ SlAt vaR (fun b => w.heap.size ≤ b) w' na2 l2 xs2 ∧ SlAt vaR (fun b => w.heap.size ≤ b) w' na3 l3 xs3 ∧ Below w.heap.size w w'

set_option maxHeartbeats 2000000 in
theorem toRFrameF (x0 : Int) (x1 : Int) (a2 : Option Addr) (l2 c2 : Nat) (a3 : Option Addr) (l3 c3 : Nat) (xs2 : List Vl) (xs3 : List Vl) (w : World) {D : Nat → Prop} (h2 : SlAt vaR D w a2 l2 xs2) (s2 : (Rep.list vaR).small xs2) (h3 : SlAt vaR D w a3 l3 xs3) (s3 : (Rep.list vaR).small xs3) :
    Calls Tryz.prog 81 #[.agg #[.int .i64 x0, .int .i64 x1, .slice a2 l2 c2, .slice a3 l3 c3]] w fun e w' => ToRFrame w x0 x1 l2 l3 xs2 xs3 e w' ∧ FZ w w' := by
  have H2 : Hid (SlAt vaR D w a2 l2 xs2) := h2
  have M2 : Hid ((Rep.list vaR).small xs2) := s2
  have H3 : Hid (SlAt vaR D w a3 l3 xs3) := h3
  have M3 : Hid ((Rep.list vaR).small xs3) := s3
  clear h2 s2 h3 s3
  go_enter Tryz.func81, Tryz.ntmps81
  go_wp2_with fail
  refine (toLValF _ _ _ xs2 _ (D := D) (H2.out.later (by go_grown)) M2.out).mono ?_
  rintro e w2 ⟨⟨na2, nc2, rfl, hS, hb⟩, hz⟩
  have z2 : w.heap.size + 1 + 1 + 1 ≤ w2.heap.size := by have := hb.size; first | omega | (simp at this; omega)
  have p2 : ∀ o, w2.cell? ⟨w.heap.size, o, none⟩ = _ := fun o => hb.cell (p := ⟨w.heap.size, o, none⟩) (by first | omega | (simp <;> omega))
  have r2 : ∀ o, w2.cell? ⟨w.heap.size + 1, o, none⟩ = _ := fun o => hb.cell (p := ⟨w.heap.size + 1, o, none⟩) (by first | omega | (simp <;> omega))
  have fr2 : ∀ o, w2.frozen? ⟨w.heap.size + 1, o, none⟩ = _ := fun o => hb.frozen (p := ⟨w.heap.size + 1, o, none⟩) (by first | omega | (simp <;> omega))
  have o2 : ∀ o, w2.cell? ⟨w.heap.size + 1 + 1, o, none⟩ = _ := fun o => hb.cell (p := ⟨w.heap.size + 1 + 1, o, none⟩) (by first | omega | (simp <;> omega))
  have fo2 : ∀ o, w2.frozen? ⟨w.heap.size + 1 + 1, o, none⟩ = _ := fun o => hb.frozen (p := ⟨w.heap.size + 1 + 1, o, none⟩) (by first | omega | (simp <;> omega))
  have B2 : Hid (Below w.heap.size w w2) := Below.trans (by go_grown) (hb.mono (by first | omega | (simp <;> omega)))
  have T2_2 : Hid (SlAt vaR (fun b => w.heap.size + 1 + 1 + 1 ≤ b) w2 na2 l2 xs2) := SlAt.mono hS (fun b hb' _ => by simp at hb' <;> omega)
  have F2 : Hid (FZ w w2) := fun a => (hz a).trans (by first | (simp only [frozen?_alloc_cells]; done) | simp only [World.frozen?_setCell, frozen?_alloc_cells])
  clear hS hb hz
  go_wp2_with fail
  refine (toLValF _ _ _ xs3 _ (D := D) (H3.out.later (by (repeat (refine Below.setCell ?_ (by first | omega | (simp <;> omega)) _)); exact B2.out)) M3.out).mono ?_
  rintro e w3 ⟨⟨na3, nc3, rfl, hS, hb⟩, hz⟩
  have z3 : w.heap.size + 1 + 1 + 1 ≤ w3.heap.size := by have := hb.size; first | omega | (simp at this; omega)
  have p3 : ∀ o, w3.cell? ⟨w.heap.size, o, none⟩ = _ := fun o => hb.cell (p := ⟨w.heap.size, o, none⟩) (by first | omega | (simp <;> omega))
  have r3 : ∀ o, w3.cell? ⟨w.heap.size + 1, o, none⟩ = _ := fun o => hb.cell (p := ⟨w.heap.size + 1, o, none⟩) (by first | omega | (simp <;> omega))
  have fr3 : ∀ o, w3.frozen? ⟨w.heap.size + 1, o, none⟩ = _ := fun o => hb.frozen (p := ⟨w.heap.size + 1, o, none⟩) (by first | omega | (simp <;> omega))
  have o3 : ∀ o, w3.cell? ⟨w.heap.size + 1 + 1, o, none⟩ = _ := fun o => hb.cell (p := ⟨w.heap.size + 1 + 1, o, none⟩) (by first | omega | (simp <;> omega))
  have fo3 : ∀ o, w3.frozen? ⟨w.heap.size + 1 + 1, o, none⟩ = _ := fun o => hb.frozen (p := ⟨w.heap.size + 1 + 1, o, none⟩) (by first | omega | (simp <;> omega))
  have B3 : Hid (Below w.heap.size w w3) := Below.trans (by (repeat (refine Below.setCell ?_ (by first | omega | (simp <;> omega)) _)); exact B2.out) (hb.mono (by first | omega | (simp <;> omega)))
  have T2_3 : Hid (SlAt vaR (fun b => w.heap.size + 1 + 1 + 1 ≤ b) w3 na2 l2 xs2) := SlAt.later (by (repeat (refine SlAt.set ?_ _ _ (by first | omega | (simp <;> omega)))); exact T2_2.out) hb
  have T3_3 : Hid (SlAt vaR (fun b => w.heap.size + 1 + 1 + 1 ≤ b) w3 na3 l3 xs3) := SlAt.mono hS (fun b hb' _ => by simp at hb' <;> omega)
  have F3 : Hid (FZ w w3) := fun a => (hz a).trans (by first | (simp only [World.frozen?_setCell]; exact F2.out a) | exact F2.out a)
  clear hS hb hz
  go_wp2_with fail
  refine bodyPost_ret (v := .agg #[.int .i64 x0, .int .i64 x1, .slice na2 l2 (l2 + nc2), .slice na3 l3 (l3 + nc3)]) ?_ rfl ?_
  · simp [results, Tryz.results81, go_sem, r2, r3]
  · refine ⟨?_, fun a => ?_⟩
    rotate_left
    · first | (simp only [World.frozen?_setCell]; exact F3.out a) | exact F3.out a
    unfold ToRFrame
    refine ⟨_, _, _, _, rfl, ?_, ?_, ?_⟩
    · refine SlAt.mono (D := fun b => w.heap.size + 1 + 1 + 1 ≤ b) ?_ (fun b hb _ => by omega)
      (repeat (refine SlAt.set ?_ _ _ (by first | omega | (simp <;> omega))))
      exact T2_3.out
    · refine SlAt.mono (D := fun b => w.heap.size + 1 + 1 + 1 ≤ b) ?_ (fun b hb _ => by omega)
      (repeat (refine SlAt.set ?_ _ _ (by first | omega | (simp <;> omega))))
      exact T3_3.out
    · (repeat (refine Below.setCell ?_ (by first | omega | (simp <;> omega)) _))
      exact B3.out
theorem toRFrame (x0 : Int) (x1 : Int) (a2 : Option Addr) (l2 c2 : Nat) (a3 : Option Addr) (l3 c3 : Nat) (xs2 : List Vl) (xs3 : List Vl) (w : World) {D : Nat → Prop} (h2 : SlAt vaR D w a2 l2 xs2) (s2 : (Rep.list vaR).small xs2) (h3 : SlAt vaR D w a3 l3 xs3) (s3 : (Rep.list vaR).small xs3) :
    Calls Tryz.prog 81 #[.agg #[.int .i64 x0, .int .i64 x1, .slice a2 l2 c2, .slice a3 l3 c3]] w fun e w' => ToRFrame w x0 x1 l2 l3 xs2 xs3 e w' := (toRFrameF x0 x1 a2 l2 c2 a3 l3 c3 xs2 xs3 w h2 s2 h3 s3).mono fun _ _ h => h.1

theorem info_Frame : (Tryz.prog.info? 60).map (fun i => (i.zero, i.size, i.bytes)) = some (some (.agg #[.int .i64 0, .int .i64 0, .slice none 0 0, .slice none 0 0]), 4, 64) := by kernel_rfl
theorem make_Frame (n : Nat) (hn : n ≤ 1048576) (w : World) : (Instr.makeSlice 28 (.int .i64 (n : Int)) (.int .i64 (n : Int))).run Tryz.prog w = .ok (.slice (some ⟨w.heap.size, 0, none⟩) n n) (w.alloc (.cells (madeCells #[.int .i64 0, .int .i64 0, .slice none 0 0, .slice none 0 0] (n * 4)) 60)) := by
  obtain ⟨i, hi, hzz⟩ := Option.map_eq_some_iff.1 info_Frame
  simp only [Prod.mk.injEq] at hzz
  obtain ⟨hz, hs, hb⟩ := hzz
  have hr := run_make (P := Tryz.prog) w 28 60 i _ Tryz.underlying28 hi hz .i64 .i64 n n (by omega) (Int.le_refl _) (by rw [hb]; omega) (by omega)
  simp only [Int.toNat_natCast, hs] at hr
  exact hr

set_option maxHeartbeats 2000000 in
theorem toLFrameF (a : Option Addr) (len cap : Nat) (xs : List Fr) (w : World) {D : Nat → Prop} (h : SlAt frR D w a len xs) (hs : (Rep.list frR).small xs) :
    Calls Tryz.prog 51 #[.slice a len cap] w fun e w' => ToL frR w len xs e w' ∧ FZ w w' := by
  have hlen : len ≤ 1048576 := by rw [← h.size]; exact hs.1
  have hmk := make_Frame len hlen
  have HS : Hid (xs.length = len) := h.size
  have H : Hid (SlAt frR D w a len xs) := h
  have SM : Hid (∀ x ∈ xs, Rep.small frR x) := hs.2
  clear h hs
  go_enter Tryz.func51, Tryz.ntmps51
  go_wp2_with fail
  go_loopw [4] (fun t wr => ∃ k : Nat, k ≤ len ∧ t = .int .i64 k ∧ CopR frR w.heap.size len wr xs k ∧ Below w.heap.size w wr ∧ w.heap.size < wr.heap.size ∧ FZ w wr) (fun t _ => len - (intOf t).toNat)
  case atStart => exact ⟨0, Nat.zero_le _, rfl, CopR.made frR w _ len _ xs, by go_grown, by simp, fun a => by simp only [frozen?_alloc_cells]⟩
  case round =>
    obtain ⟨k, hk, rfl, hrow, hb, hz, hfz⟩ := hrel
    have HZF : Hid (FZ w wr) := hfz
    have HR : Hid (CopR frR w.heap.size len wr xs k) := hrow
    have HB : Hid (Below w.heap.size w wr) := hb
    have HZ : Hid (w.heap.size < wr.heap.size) := hz
    clear hrow hb hz hfz
    by_cases hlt : k < len
    · obtain ⟨x, hx⟩ : ∃ x, xs[k]? = some x := ⟨xs[k]'(by rw [HS.out]; exact hlt), List.getElem?_eq_getElem _⟩
      have HX : Hid (xs[k]? = some x) := hx
      have SX : Hid (Rep.small frR x) := SM.out x (List.mem_of_getElem? hx)
      obtain ⟨b, off, rfl, _, vs, hv, hc⟩ := (H.out.later HB.out).at k x hx
      obtain ⟨x0, x1, xs2, xs3⟩ := x
      obtain ⟨_, _, rfl, ⟨rfl, b0⟩, _, _, rfl, ⟨rfl, b1⟩, _, _, rfl, ⟨a2, l2, c2, rfl, h2⟩, a3, l3, c3, rfl, h3⟩ := hv
      have c0x : wr.cell? ⟨b, off + k * 4, none⟩ = some (.int .i64 x0) := hc 0 _ rfl
      have c1x : wr.cell? ⟨b, off + k * 4 + 1, none⟩ = some (.int .i64 x1) := hc 1 _ rfl
      have c2x : wr.cell? ⟨b, off + k * 4 + 2, none⟩ = some (.slice a2 l2 c2) := hc 2 _ rfl
      have c3x : wr.cell? ⟨b, off + k * 4 + 3, none⟩ = some (.slice a3 l3 c3) := hc 3 _ rfl
      have H2 : Hid (SlAt vaR D wr a2 l2 xs2) := h2
      have H3 : Hid (SlAt vaR D wr a3 l3 xs3) := h3
      have HF : Hid (∀ w1 us, Below wr.heap.size wr w1 → Rep.holds frR (fun b => wr.heap.size ≤ b) w1 us (x0, x1, xs2, xs3) → CopR frR w.heap.size len (putCells w1 w.heap.size (k * 4) us) xs (k + 1)) := fun w1 us h1 h2 => HR.out.step h1 HZ.out hlt HX.out h2
      have HC : Hid (∀ w1, Below wr.heap.size wr w1 → ∀ j, j < 4 → (∃ v, w1.cell? ⟨w.heap.size, k * 4 + j, none⟩ = some v) ∧ w1.frozen? ⟨w.heap.size, k * 4 + j, none⟩ = false) := fun w1 h1 j hj => by
        obtain ⟨⟨v, hv⟩, hf⟩ := HR.out.row (k * 4 + j) (mul_lt_row hlt hj)
        exact ⟨⟨v, by rw [h1.cell (p := ⟨w.heap.size, k * 4 + j, none⟩) HZ.out]; exact hv⟩, by rw [h1.frozen (p := ⟨w.heap.size, k * 4 + j, none⟩) HZ.out]; exact hf⟩
      clear hx hc h2 h3
      go_wp2_with fail
      refine (toRFrameF _ _ _ _ _ _ _ _ xs2 xs3 _ H2.out SX.out.2.2.1 H3.out SX.out.2.2.2).mono ?_
      rintro e w1 ⟨⟨na2, nc2, na3, nc3, rfl, g2, g3, hb1⟩, hz1⟩
      obtain ⟨⟨v0, hv0⟩, hf0⟩ := HC.out w1 hb1 0 (by omega)
      obtain ⟨⟨v1, hv1⟩, hf1⟩ := HC.out w1 hb1 1 (by omega)
      obtain ⟨⟨v2, hv2⟩, hf2⟩ := HC.out w1 hb1 2 (by omega)
      obtain ⟨⟨v3, hv3⟩, hf3⟩ := HC.out w1 hb1 3 (by omega)
      simp only [Nat.add_zero] at hv0 hf0
      have HCop : Hid (CopR frR w.heap.size len (putCells w1 w.heap.size (k * 4) [.int .i64 x0, .int .i64 x1, .slice na2 l2 (l2 + nc2), .slice na3 l3 (l3 + nc3)]) xs (k + 1)) := HF.out w1 _ hb1 (⟨_, _, rfl, ⟨rfl, b0⟩, ⟨_, _, rfl, ⟨rfl, b1⟩, ⟨_, _, rfl, ⟨na2, l2, _, rfl, g2⟩, ⟨na3, l3, _, rfl, g3⟩⟩⟩⟩)
      have b2 : Hid (Below w.heap.size w w1) := HB.out.trans (hb1.mono (Nat.le_of_lt HZ.out))
      have z2 : Hid (w.heap.size < w1.heap.size) := by have := hb1.size; have := HZ.out; show _ < _; omega
      have f2 : Hid (FZ w w1) := fun a => (hz1 a).trans (HZF.out a)
      clear hz1 hb1 g2 g3
      go_wp2_with fail
      refine ⟨⟨k + 1, by omega, by go_num, HCop.out, ?_, ?_, fun a => by simp only [World.frozen?_setCell]; exact f2.out a⟩, by simp [intOf]; omega⟩
      · (repeat (refine Below.setCell ?_ (by simp) _))
        exact b2.out
      · simp only [World.size_setCell]
        exact z2.out
    · have ek : k = len := by omega
      subst ek
      go_wp2_with fail
      go_ret
      exact ⟨⟨_, 0, rfl, HR.out.sl HS.out hlen, HB.out⟩, HZF.out⟩

theorem toLFrame (a : Option Addr) (len cap : Nat) (xs : List Fr) (w : World) {D : Nat → Prop} (h : SlAt frR D w a len xs) (hs : (Rep.list frR).small xs) :
    Calls Tryz.prog 51 #[.slice a len cap] w fun e w' => ToL frR w len xs e w' := (toLFrameF a len cap xs w h hs).mono fun _ _ h => h.1

set_option maxHeartbeats 2000000 in
theorem eqRFrame (x0 : Int) (x1 : Int) (a2 : Option Addr) (l2 c2 : Nat) (a3 : Option Addr) (l3 c3 : Nat) (ya2 : Option Addr) (yl2 yc2 : Nat) (ya3 : Option Addr) (yl3 yc3 : Nat) (xs2 : List Vl) (xs3 : List Vl) (w : World) {D E : Nat → Prop} (h2 : SlAt vaR D w a2 l2 xs2) (g2 : SlAt vaR E w ya2 yl2 xs2) (h3 : SlAt vaR D w a3 l3 xs3) (g3 : SlAt vaR E w ya3 yl3 xs3) :
    Calls Tryz.prog 68 #[.agg #[.int .i64 x0, .int .i64 x1, .slice a2 l2 c2, .slice a3 l3 c3], .agg #[.int .i64 x0, .int .i64 x1, .slice ya2 yl2 yc2, .slice ya3 yl3 yc3]] w fun e w' => e = .returned (.bool true) ∧ Below w.heap.size w w' := by
  have H2 : Hid (SlAt vaR D w a2 l2 xs2) := h2
  have G2 : Hid (SlAt vaR E w ya2 yl2 xs2) := g2
  have H3 : Hid (SlAt vaR D w a3 l3 xs3) := h3
  have G3 : Hid (SlAt vaR E w ya3 yl3 xs3) := g3
  clear h2 g2 h3 g3
  have e0 : (x0 != x0) = false := by simp
  have e1 : (x1 != x1) = false := by simp
  go_enter Tryz.func68, Tryz.ntmps68
  go_wp2_with fail
  refine (eqLVal _ _ _ _ _ _ xs2 _ (D := D) (E := E) (H2.out.later (by go_grown)) (G2.out.later (by go_grown))).mono ?_
  rintro e w2 ⟨rfl, hb⟩
  have z2 : w.heap.size + 1 + 1 ≤ w2.heap.size := by have := hb.size; first | omega | (simp at this; omega)
  have p2 : ∀ o, w2.cell? ⟨w.heap.size, o, none⟩ = _ := fun o => hb.cell (p := ⟨w.heap.size, o, none⟩) (by first | omega | (simp <;> omega))
  have r2 : ∀ o, w2.cell? ⟨w.heap.size + 1, o, none⟩ = _ := fun o => hb.cell (p := ⟨w.heap.size + 1, o, none⟩) (by first | omega | (simp <;> omega))
  have B2 : Hid (Below w.heap.size w w2) := Below.trans (by go_grown) (hb.mono (by first | omega | (simp <;> omega)))
  clear hb
  go_wp2_with fail
  refine (eqLVal _ _ _ _ _ _ xs3 _ (D := D) (E := E) (H3.out.later (B2.out)) (G3.out.later (B2.out))).mono ?_
  rintro e w3 ⟨rfl, hb⟩
  have z3 : w.heap.size + 1 + 1 ≤ w3.heap.size := by have := hb.size; first | omega | (simp at this; omega)
  have p3 : ∀ o, w3.cell? ⟨w.heap.size, o, none⟩ = _ := fun o => hb.cell (p := ⟨w.heap.size, o, none⟩) (by first | omega | (simp <;> omega))
  have r3 : ∀ o, w3.cell? ⟨w.heap.size + 1, o, none⟩ = _ := fun o => hb.cell (p := ⟨w.heap.size + 1, o, none⟩) (by first | omega | (simp <;> omega))
  have B3 : Hid (Below w.heap.size w w3) := Below.trans (B2.out) (hb.mono (by first | omega | (simp <;> omega)))
  clear hb
  go_wp2_with fail
  go_ret
  exact ⟨rfl, B3.out⟩

set_option maxHeartbeats 2000000 in
theorem eqLFrame (a : Option Addr) (la ca : Nat) (b : Option Addr) (lb cb : Nat) (xs : List Fr) (w : World) {D E : Nat → Prop} (hx : SlAt frR D w a la xs) (hy : SlAt frR E w b lb xs) :
    Calls Tryz.prog 28 #[.slice a la ca, .slice b lb cb] w fun e w' => e = .returned (.bool true) ∧ Below w.heap.size w w' := by
  have hra := hx.room
  have el : lb = la := by rw [← hx.size, ← hy.size]
  subst el
  have HS : Hid (xs.length = lb) := hx.size
  have HX : Hid (SlAt frR D w a lb xs) := hx
  have HY : Hid (SlAt frR E w b lb xs) := hy
  clear hx hy
  have e1 : ((lb : Int) != lb) = false := by simp
  go_enter Tryz.func28, Tryz.ntmps28
  go_wp2_with fail
  go_loopw [5] (fun t wr => ∃ k : Nat, k ≤ lb ∧ t = .int .i64 k ∧ Below w.heap.size w wr) (fun t _ => lb - (intOf t).toNat)
  case atStart => exact ⟨0, Nat.zero_le _, rfl, Below.refl _ _⟩
  case round =>
    obtain ⟨k, hk, rfl, hb⟩ := hrel
    have HB : Hid (Below w.heap.size w wr) := hb
    clear hb
    by_cases hlt : k < lb
    · obtain ⟨x, hx⟩ : ∃ x, xs[k]? = some x := ⟨xs[k]'(by rw [HS.out]; exact hlt), List.getElem?_eq_getElem _⟩
      obtain ⟨b1, o1, rfl, _, vs, hv, hc⟩ := (HX.out.later HB.out).at k x hx
      obtain ⟨b2, o2, rfl, _, us, hu, hd⟩ := (HY.out.later HB.out).at k x hx
      obtain ⟨x0, x1, xs2, xs3⟩ := x
      obtain ⟨_, _, rfl, ⟨rfl, ub0⟩, _, _, rfl, ⟨rfl, ub1⟩, _, _, rfl, ⟨a2, l2, c2, rfl, h2⟩, a3, l3, c3, rfl, h3⟩ := hv
      obtain ⟨_, _, rfl, ⟨rfl, yb0⟩, _, _, rfl, ⟨rfl, yb1⟩, _, _, rfl, ⟨ya2, yl2, yc2, rfl, yh2⟩, ya3, yl3, yc3, rfl, yh3⟩ := hu
      have c0x : wr.cell? ⟨b1, o1 + k * 4, none⟩ = some (.int .i64 x0) := hc 0 _ rfl
      have d0x : wr.cell? ⟨b2, o2 + k * 4, none⟩ = some (.int .i64 x0) := hd 0 _ rfl
      have c1x : wr.cell? ⟨b1, o1 + k * 4 + 1, none⟩ = some (.int .i64 x1) := hc 1 _ rfl
      have d1x : wr.cell? ⟨b2, o2 + k * 4 + 1, none⟩ = some (.int .i64 x1) := hd 1 _ rfl
      have c2x : wr.cell? ⟨b1, o1 + k * 4 + 2, none⟩ = some (.slice a2 l2 c2) := hc 2 _ rfl
      have d2x : wr.cell? ⟨b2, o2 + k * 4 + 2, none⟩ = some (.slice ya2 yl2 yc2) := hd 2 _ rfl
      have c3x : wr.cell? ⟨b1, o1 + k * 4 + 3, none⟩ = some (.slice a3 l3 c3) := hc 3 _ rfl
      have d3x : wr.cell? ⟨b2, o2 + k * 4 + 3, none⟩ = some (.slice ya3 yl3 yc3) := hd 3 _ rfl
      have H2 : Hid (SlAt vaR D wr a2 l2 xs2) := h2
      have G2 : Hid (SlAt vaR E wr ya2 yl2 xs2) := yh2
      have H3 : Hid (SlAt vaR D wr a3 l3 xs3) := h3
      have G3 : Hid (SlAt vaR E wr ya3 yl3 xs3) := yh3
      clear hx hc hd h2 yh2 h3 yh3
      go_wp2_with fail
      go_region_with (go_at_call 68; refine (eqRFrame _ _ _ _ _ _ _ _ _ _ _ _ _ _ xs2 xs3 _ (H2.out.later (by go_grown)) (G2.out.later (by go_grown)) (H3.out.later (by go_grown)) (G3.out.later (by go_grown))).mono ?_; rintro e w2 ⟨rfl, hb2⟩)
      all_goals
        have hb3 : Hid (Below w.heap.size w w2) := HB.out.trans (Below.mono (Below.trans (below_drawn 1 rfl) hb2) HB.out.size)
        clear hb2
        go_wp2_with fail
        exact ⟨⟨k + 1, by omega, by go_num, hb3.out⟩, by simp [intOf]; omega⟩
    · have ek : k = lb := by omega
      subst ek
      go_wp2_with fail
      go_ret
      exact ⟨rfl, HB.out⟩

set_option maxHeartbeats 2000000 in
theorem szRFrame (x0 : Int) (x1 : Int) (a2 : Option Addr) (l2 c2 : Nat) (a3 : Option Addr) (l3 c3 : Nat) (xs2 : List Vl) (xs3 : List Vl) (l : Int) (w : World) {D : Nat → Prop} (h2 : SlAt vaR D w a2 l2 xs2) (h3 : SlAt vaR D w a3 l3 xs3) (k0 : 0 ≤ l) (k1 : l ≤ 1048576) :
    Calls Tryz.prog 77 #[.agg #[.int .i64 x0, .int .i64 x1, .slice a2 l2 c2, .slice a3 l3 c3], .int .i64 l] w fun e w' => SzP w l (Rep.small frR (x0, x1, xs2, xs3)) e w' := by
  have H2 : Hid (SlAt vaR D w a2 l2 xs2) := h2
  have H3 : Hid (SlAt vaR D w a3 l3 xs3) := h3
  clear h2 h3
  go_enter Tryz.func77, Tryz.ntmps77
  go_wp2_with fail
  refine (szLVal _ _ _ xs2 _ _ (D := D) (H2.out.later (by go_grown)) k0 k1).mono ?_
  rintro e w2 ⟨r2, rfl, u2, v2, m, hb⟩
  have M2 : Hid (0 ≤ r2 → (Rep.list vaR).small xs2) := m
  have z2 : w.heap.size + 1 ≤ w2.heap.size := by have := hb.size; first | omega | (simp at this; omega)
  have p2 : ∀ o, w2.cell? ⟨w.heap.size, o, none⟩ = _ := fun o => hb.cell (p := ⟨w.heap.size, o, none⟩) (by first | omega | (simp <;> omega))
  have B2 : Hid (Below w.heap.size w w2) := Below.trans (by go_grown) (hb.mono (by first | omega | (simp <;> omega)))
  clear hb m
  by_cases q2 : r2 < 0
  · go_wp2_with fail
    go_ret
    exact ⟨-1, rfl, by omega, by omega, by omega, B2.out⟩
  go_wp2_with fail
  refine (szLVal _ _ _ xs3 _ _ (D := D) (H3.out.later (B2.out)) (by omega) (by omega)).mono ?_
  rintro e w3 ⟨r3, rfl, u3, v3, m, hb⟩
  have M3 : Hid (0 ≤ r3 → (Rep.list vaR).small xs3) := m
  have z3 : w.heap.size + 1 ≤ w3.heap.size := by have := hb.size; first | omega | (simp at this; omega)
  have p3 : ∀ o, w3.cell? ⟨w.heap.size, o, none⟩ = _ := fun o => hb.cell (p := ⟨w.heap.size, o, none⟩) (by first | omega | (simp <;> omega))
  have B3 : Hid (Below w.heap.size w w3) := Below.trans (B2.out) (hb.mono (by first | omega | (simp <;> omega)))
  clear hb m
  by_cases q3 : r3 < 0
  · go_wp2_with fail
    go_ret
    exact ⟨-1, rfl, by omega, by omega, by omega, B3.out⟩
  go_wp2_with fail
  go_ret
  exact ⟨_, rfl, by omega, by omega, fun _ => ⟨trivial, ⟨trivial, ⟨M2.out (by omega), M3.out (by omega)⟩⟩⟩, B3.out⟩

set_option maxHeartbeats 2000000 in
theorem szLFrame (a : Option Addr) (len cap : Nat) (xs : List Fr) (l : Int) (w : World) {D : Nat → Prop} (h : SlAt frR D w a len xs) (k0 : 0 ≤ l) (k1 : l ≤ 1048576) :
    Calls Tryz.prog 42 #[.slice a len cap, .int .i64 l] w fun e w' => SzP w l ((Rep.list frR).small xs) e w' := by
  have hr := h.room
  have HS : Hid (xs.length = len) := h.size
  have H : Hid (SlAt frR D w a len xs) := h
  clear h
  by_cases hl : l < len
  · go_enter Tryz.func42, Tryz.ntmps42
    go_wp2_with fail
    go_ret
    exact ⟨-1, rfl, by omega, by omega, by omega, Below.refl _ _⟩
  · have h0 : 0 ≤ l - len := by omega
    go_enter Tryz.func42, Tryz.ntmps42
    go_wp2_with fail
    go_loopw [1, 5] (fun u t wr => ∃ (k : Nat) (r : Int), k ≤ len ∧ u = .int .i64 r ∧ t = .int .i64 k ∧ 0 ≤ r ∧ r ≤ l ∧ (∀ x ∈ xs.take k, Rep.small frR x) ∧ Below w.heap.size w wr) (fun _ t _ => len - (intOf t).toNat)
    case atStart => exact ⟨0, _, Nat.zero_le _, rfl, rfl, by omega, by omega, by simp, Below.refl _ _⟩
    case round =>
      obtain ⟨k, r, hk, rfl, rfl, r0, r1, hu, hb⟩ := hrel
      have HU : Hid (∀ x ∈ xs.take k, Rep.small frR x) := hu
      have HB : Hid (Below w.heap.size w wr) := hb
      clear hu hb
      by_cases hlt : k < len
      · obtain ⟨x, hx⟩ : ∃ x, xs[k]? = some x := ⟨xs[k]'(by rw [HS.out]; exact hlt), List.getElem?_eq_getElem _⟩
        have HX : Hid (xs[k]? = some x) := hx
        obtain ⟨b, off, rfl, _, vs, hv, hc⟩ := (H.out.later HB.out).at k x hx
        obtain ⟨x0, x1, xs2, xs3⟩ := x
        obtain ⟨_, _, rfl, ⟨rfl, b0⟩, _, _, rfl, ⟨rfl, b1⟩, _, _, rfl, ⟨a2, l2, c2, rfl, h2⟩, a3, l3, c3, rfl, h3⟩ := hv
        have c0x : wr.cell? ⟨b, off + k * 4, none⟩ = some (.int .i64 x0) := hc 0 _ rfl
        have c1x : wr.cell? ⟨b, off + k * 4 + 1, none⟩ = some (.int .i64 x1) := hc 1 _ rfl
        have c2x : wr.cell? ⟨b, off + k * 4 + 2, none⟩ = some (.slice a2 l2 c2) := hc 2 _ rfl
        have c3x : wr.cell? ⟨b, off + k * 4 + 3, none⟩ = some (.slice a3 l3 c3) := hc 3 _ rfl
        have H2 : Hid (SlAt vaR D wr a2 l2 xs2) := h2
        have H3 : Hid (SlAt vaR D wr a3 l3 xs3) := h3
        clear hx hc h2 h3
        go_wp2_with fail
        refine (szRFrame _ _ _ _ _ _ _ _ xs2 xs3 _ _ H2.out H3.out r0 (by omega)).mono ?_
        rintro e w2 ⟨q, rfl, q0, q1, qm, hb2⟩
        have QM : Hid (0 ≤ q → Rep.small frR (x0, x1, xs2, xs3)) := qm
        have B2 : Hid (Below w.heap.size w w2) := HB.out.trans (hb2.mono HB.out.size)
        clear qm hb2
        by_cases hq : q < 0
        · go_wp2_with fail
          go_ret
          exact ⟨-1, rfl, by omega, by omega, by omega, B2.out⟩
        · go_wp2_with fail
          refine ⟨⟨k + 1, q, by omega, rfl, by go_num, by omega, by omega, fun y hy => ?_, B2.out⟩, by simp [intOf]; omega⟩
          rw [List.take_add_one, HX.out] at hy
          rcases List.mem_append.1 hy with h1 | h1
          · exact HU.out y h1
          · simp at h1
            subst h1
            exact QM.out (by omega)
      · have ek : k = len := by omega
        subst ek
        have HA : Hid ((Rep.list frR).small xs) := ⟨by rw [HS.out]; omega, by have := HU.out; rwa [← HS.out, List.take_length] at this⟩
        go_wp2_with fail
        go_ret
        exact ⟨r, rfl, by omega, by omega, fun _ => HA.out, HB.out⟩

theorem rd_Frame : Reads 131 frR := reads_struct Tryz.underlying131 (by kernel_rfl) (.cons rfl (by kernel_rfl) rd_int (.cons rfl (by kernel_rfl) rd_int (.cons rfl (by kernel_rfl) rdL_Val (.one rfl (by kernel_rfl) rdL_Val))))
theorem rdL_Frame : Reads 46 (.list frR) := reads_list Tryz.underlying46 (by kernel_rfl) rd_Frame

end Go.Proofs.YthdlccadcadopaaGreat
