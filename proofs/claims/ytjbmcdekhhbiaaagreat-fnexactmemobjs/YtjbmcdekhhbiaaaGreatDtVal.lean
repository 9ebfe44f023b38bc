/-
  Data of the struct Val: copied into new memory, held against another one that is the same, its size, and how it is read as it came in.
-/
import Derived.Test.YtjbmcdekhhbiaaaGreatDtInt
namespace Go.Proofs.YtjbmcdekhhbiaaaGreat
open Go.ChangeShapes Go.WideShapes Go.ChangeAt Go.RowKit

def ToRVal (w : World) (x0 : Bool) (x1 : Int) (e : Ending) (w' : World) : Prop :=
  e = .returned (.agg #[.bool x0, .int .i64 x1]) ∧ Below w.heap.size w w'

theorem info_Val : (Tryz.prog.info? 121).map (fun i => (i.zero, i.size, i.bytes)) = some (some (.agg #[.bool false, .int .i64 0]), 2, 16) := by kernel_rfl
theorem make_Val (n : Nat) (hn : n ≤ 1048576) (w : World) : (Instr.makeSlice 91 (.int .i64 (n : Int)) (.int .i64 (n : Int))).run Tryz.prog w = .ok (.slice (some ⟨w.heap.size, 0, none⟩) n n) (w.alloc (.cells (madeCells #[.bool false, .int .i64 0] (n * 2)) 121)) := by
  obtain ⟨i, hi, hzz⟩ := Option.map_eq_some_iff.1 info_Val
  simp only [Prod.mk.injEq] at hzz
  obtain ⟨hz, hs, hb⟩ := hzz
  have hr := run_make (P := Tryz.prog) w 91 121 i _ Tryz.underlying91 hi hz .i64 .i64 n n (by omega) (Int.le_refl _) (by rw [hb]; omega) (by omega)
  simp only [Int.toNat_natCast, hs] at hr
  exact hr

set_option maxHeartbeats 2000000 in
theorem eqRVal (x0 : Bool) (x1 : Int) (w : World) :
    Calls Tryz.prog 119 #[.agg #[.bool x0, .int .i64 x1], .agg #[.bool x0, .int .i64 x1]] w fun e w' => e = .returned (.bool true) ∧ Below w.heap.size w w' := by
  have e0 : (x0 != x0) = false := by simp
  have e1 : (x1 != x1) = false := by simp
  go_enter Tryz.func119, Tryz.ntmps119
  go_wp2_with fail
  go_ret
  exact ⟨rfl, by go_grown⟩

set_option maxHeartbeats 2000000 in
theorem eqLVal (a : Option Addr) (la ca : Nat) (b : Option Addr) (lb cb : Nat) (xs : List Vl) (w : World) {D E : Nat → Prop} (hx : SlAt vaR D w a la xs) (hy : SlAt vaR E w b lb xs) :
    Calls Tryz.prog 93 #[.slice a la ca, .slice b lb cb] w fun e w' => e = .returned (.bool true) ∧ Below w.heap.size w w' := by
  have hra := hx.room
  have el : lb = la := by rw [← hx.size, ← hy.size]
  subst el
  have HS : Hid (xs.length = lb) := hx.size
  have HX : Hid (SlAt vaR D w a lb xs) := hx
  have HY : Hid (SlAt vaR E w b lb xs) := hy
  clear hx hy
  have e1 : ((lb : Int) != lb) = false := by simp
  go_enter Tryz.func93, Tryz.ntmps93
  go_wp2_with fail
  go_loopw [5] (fun t wr => ∃ k : Nat, k ≤ lb ∧ t = .int .i64 k ∧ Below w.heap.size w wr) (fun t _ => lb - (intOf t).toNat)
  case atStart => exact ⟨0, Nat.zero_le _, rfl, Below.refl _ _⟩
  case round =>
    obtain ⟨k, hk, rfl, hb⟩ := hrel
    have HB : Hid (Below w.heap.size w wr) := hb
    clear hb
    by_cases hlt : k < lb
    · obtain ⟨x, hx⟩ : ∃ x, xs[k]? = some x := ⟨xs[k]'(by rw [HS.out]; exact hlt), List.getElem?_eq_getElem _⟩
      obtain ⟨b1, o1, rfl, _, vs, hv, hc⟩ := (HX.out.later HB.out).at k x hx
      obtain ⟨b2, o2, rfl, _, us, hu, hd⟩ := (HY.out.later HB.out).at k x hx
      obtain ⟨x0, x1⟩ := x
      obtain ⟨_, _, rfl, rfl, rfl, ub1⟩ := hv
      obtain ⟨_, _, rfl, rfl, rfl, yb1⟩ := hu
      have c0x : wr.cell? ⟨b1, o1 + k * 2, none⟩ = some (.bool x0) := hc 0 _ rfl
      have d0x : wr.cell? ⟨b2, o2 + k * 2, none⟩ = some (.bool x0) := hd 0 _ rfl
      have c1x : wr.cell? ⟨b1, o1 + k * 2 + 1, none⟩ = some (.int .i64 x1) := hc 1 _ rfl
      have d1x : wr.cell? ⟨b2, o2 + k * 2 + 1, none⟩ = some (.int .i64 x1) := hd 1 _ rfl
      clear hx hc hd
      go_wp2_with fail
      go_region_with (go_at_call 119; refine (eqRVal _ _ _).mono ?_; rintro e w2 ⟨rfl, hb2⟩)
      all_goals
        have hb3 : Hid (Below w.heap.size w w2) := HB.out.trans (Below.mono (Below.trans (below_drawn 1 rfl) hb2) HB.out.size)
        clear hb2
        go_wp2_with fail
        exact ⟨⟨k + 1, by omega, by go_num, hb3.out⟩, by simp [intOf]; omega⟩
    · have ek : k = lb := by omega
      subst ek
      go_wp2_with fail
      go_ret
      exact ⟨rfl, HB.out⟩

end Go.Proofs.YtjbmcdekhhbiaaaGreat
