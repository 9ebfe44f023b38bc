/-
  Data of the struct Obj: copied into new memory, held against another one that is the same, its size, and how it is read as it came in.
-/
import Derived.Test.YtjbmcdekhhbiaaaGreatDtInt
import Derived.Test.YtjbmcdekhhbiaaaGreatDtVal
namespace Go.Proofs.YtjbmcdekhhbiaaaGreat
open Go.ChangeShapes Go.WideShapes Go.ChangeAt Go.RowKit

def ToRObj (w : World) (x0 : Int) (l1 : Nat) (xs1 : List Vl) (e : Ending) (w' : World) : Prop :=
  ∃ na1 nc1, e = .returned (.agg #[.int .i64 x0, .slice na1 l1 (l1 + nc1)]) ∧ SlAt vaR (fun b => w.heap.size ≤ b) w' na1 l1 xs1 ∧ Below w.heap.size w w'

theorem info_Obj : (Tryz.prog.info? 93).map (fun i => (i.zero, i.size, i.bytes)) = some (some (.agg #[.int .i64 0, .slice none 0 0]), 2, 32) := by kernel_rfl
theorem make_Obj (n : Nat) (hn : n ≤ 1048576) (w : World) : (Instr.makeSlice 43 (.int .i64 (n : Int)) (.int .i64 (n : Int))).run Tryz.prog w = .ok (.slice (some ⟨w.heap.size, 0, none⟩) n n) (w.alloc (.cells (madeCells #[.int .i64 0, .slice none 0 0] (n * 2)) 93)) := by
  obtain ⟨i, hi, hzz⟩ := Option.map_eq_some_iff.1 info_Obj
  simp only [Prod.mk.injEq] at hzz
  obtain ⟨hz, hs, hb⟩ := hzz
  have hr := run_make (P := Tryz.prog) w 43 93 i _ Tryz.underlying43 hi hz .i64 .i64 n n (by omega) (Int.le_refl _) (by rw [hb]; omega) (by omega)
  simp only [Int.toNat_natCast, hs] at hr
  exact hr

set_option maxHeartbeats 2000000 in
theorem eqRObj (x0 : Int) (a1 : Option Addr) (l1 c1 : Nat) (ya1 : Option Addr) (yl1 yc1 : Nat) (xs1 : List Vl) (w : World) {D E : Nat → Prop} (h1 : SlAt vaR D w a1 l1 xs1) (g1 : SlAt vaR E w ya1 yl1 xs1) :
    Calls Tryz.prog 56 #[.agg #[.int .i64 x0, .slice a1 l1 c1], .agg #[.int .i64 x0, .slice ya1 yl1 yc1]] w fun e w' => e = .returned (.bool true) ∧ Below w.heap.size w w' := by
  have H1 : Hid (SlAt vaR D w a1 l1 xs1) := h1
  have G1 : Hid (SlAt vaR E w ya1 yl1 xs1) := g1
  clear h1 g1
  have e0 : (x0 != x0) = false := by simp
  go_enter Tryz.func56, Tryz.ntmps56
  go_wp2_with fail
  refine (eqLVal _ _ _ _ _ _ xs1 _ (D := D) (E := E) (H1.out.later (by go_grown)) (G1.out.later (by go_grown))).mono ?_
  rintro e w1 ⟨rfl, hb⟩
  have z1 : w.heap.size + 1 + 1 ≤ w1.heap.size := by have := hb.size; first | omega | (simp at this; omega)
  have p1 : ∀ o, w1.cell? ⟨w.heap.size, o, none⟩ = _ := fun o => hb.cell (p := ⟨w.heap.size, o, none⟩) (by first | omega | (simp <;> omega))
  have r1 : ∀ o, w1.cell? ⟨w.heap.size + 1, o, none⟩ = _ := fun o => hb.cell (p := ⟨w.heap.size + 1, o, none⟩) (by first | omega | (simp <;> omega))
  have B1 : Hid (Below w.heap.size w w1) := Below.trans (by go_grown) (hb.mono (by first | omega | (simp <;> omega)))
  clear hb
  go_wp2_with fail
  go_ret
  exact ⟨rfl, B1.out⟩

set_option maxHeartbeats 2000000 in
theorem eqLObj (a : Option Addr) (la ca : Nat) (b : Option Addr) (lb cb : Nat) (xs : List Ob) (w : World) {D E : Nat → Prop} (hx : SlAt obR D w a la xs) (hy : SlAt obR E w b lb xs) :
    Calls Tryz.prog 21 #[.slice a la ca, .slice b lb cb] w fun e w' => e = .returned (.bool true) ∧ Below w.heap.size w w' := by
  have hra := hx.room
  have el : lb = la := by rw [← hx.size, ← hy.size]
  subst el
  have HS : Hid (xs.length = lb) := hx.size
  have HX : Hid (SlAt obR D w a lb xs) := hx
  have HY : Hid (SlAt obR E w b lb xs) := hy
  clear hx hy
  have e1 : ((lb : Int) != lb) = false := by simp
  go_enter Tryz.func21, Tryz.ntmps21
  go_wp2_with fail
  go_loopw [5] (fun t wr => ∃ k : Nat, k ≤ lb ∧ t = .int .i64 k ∧ Below w.heap.size w wr) (fun t _ => lb - (intOf t).toNat)
  case atStart => exact ⟨0, Nat.zero_le _, rfl, Below.refl _ _⟩
  case round =>
    obtain ⟨k, hk, rfl, hb⟩ := hrel
    have HB : Hid (Below w.heap.size w wr) := hb
    clear hb
    by_cases hlt : k < lb
    · obtain ⟨x, hx⟩ : ∃ x, xs[k]? = some x := ⟨xs[k]'(by rw [HS.out]; exact hlt), List.getElem?_eq_getElem _⟩
      obtain ⟨b1, o1, rfl, _, vs, hv, hc⟩ := (HX.out.later HB.out).at k x hx
      obtain ⟨b2, o2, rfl, _, us, hu, hd⟩ := (HY.out.later HB.out).at k x hx
      obtain ⟨x0, xs1⟩ := x
      obtain ⟨_, _, rfl, ⟨rfl, ub0⟩, a1, l1, c1, rfl, h1⟩ := hv
      obtain ⟨_, _, rfl, ⟨rfl, yb0⟩, ya1, yl1, yc1, rfl, yh1⟩ := hu
      have c0x : wr.cell? ⟨b1, o1 + k * 2, none⟩ = some (.int .i64 x0) := hc 0 _ rfl
      have d0x : wr.cell? ⟨b2, o2 + k * 2, none⟩ = some (.int .i64 x0) := hd 0 _ rfl
      have c1x : wr.cell? ⟨b1, o1 + k * 2 + 1, none⟩ = some (.slice a1 l1 c1) := hc 1 _ rfl
      have d1x : wr.cell? ⟨b2, o2 + k * 2 + 1, none⟩ = some (.slice ya1 yl1 yc1) := hd 1 _ rfl
      have H1 : Hid (SlAt vaR D wr a1 l1 xs1) := h1
      have G1 : Hid (SlAt vaR E wr ya1 yl1 xs1) := yh1
      clear hx hc hd h1 yh1
      go_wp2_with fail
      go_region_with (go_at_call 56; refine (eqRObj _ _ _ _ _ _ _ xs1 _ (H1.out.later (by go_grown)) (G1.out.later (by go_grown))).mono ?_; rintro e w2 ⟨rfl, hb2⟩)
      all_goals
        have hb3 : Hid (Below w.heap.size w w2) := HB.out.trans (Below.mono (Below.trans (below_drawn 1 rfl) hb2) HB.out.size)
        clear hb2
        go_wp2_with fail
        exact ⟨⟨k + 1, by omega, by go_num, hb3.out⟩, by simp [intOf]; omega⟩
    · have ek : k = lb := by omega
      subst ek
      go_wp2_with fail
      go_ret
      exact ⟨rfl, HB.out⟩

end Go.Proofs.YtjbmcdekhhbiaaaGreat
