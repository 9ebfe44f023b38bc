/-
  The laws' own tests whether values, and things, are the same: of the same they say yes.
-/
import Derived.Test.YtacapffmdmpnkaaDtObj
import Derived.Deep.RegionHeld3
namespace Go.Proofs.Ytacapffmdmpnkaa
open Go.ChangeShapes Go.WideShapes Go.ChangeAt Go.RowKit

set_option maxHeartbeats 4000000 in
theorem leVals (a : Option Addr) (la ca : Nat) (b : Option Addr) (lb cb : Nat) (xs : List Vl) (w : World) {D E : Nat → Prop} (hx : SlAt vaR D w a la xs) (hy : SlAt vaR E w b lb xs) :
    Calls Try.prog 9 #[.slice a la ca, .slice b lb cb] w fun e w' => e = .returned (.bool true) ∧ Below w.heap.size w w' := by
  have hra := hx.room
  have el : lb = la := by rw [← hx.size, ← hy.size]
  subst el
  have HS : Hid (xs.length = lb) := hx.size
  have HX : Hid (SlAt vaR D w a lb xs) := hx
  have HY : Hid (SlAt vaR E w b lb xs) := hy
  clear hx hy
  have e1 : ((lb : Int) != lb) = false := by simp
  go_enter Try.func9, Try.ntmps9
  go_wp2_with fail
  go_loopw [5] (fun t wr => ∃ k : Nat, k ≤ lb ∧ t = .int .i64 k ∧ Below w.heap.size w wr) (fun t _ => lb - (intOf t).toNat)
  case atStart => exact ⟨0, Nat.zero_le _, rfl, Below.refl _ _⟩
  case round =>
    obtain ⟨k, hk, rfl, hb⟩ := hrel
    have HB : Hid (Below w.heap.size w wr) := hb
    clear hb
    by_cases hlt : k < lb
    · obtain ⟨x, hx⟩ : ∃ x, xs[k]? = some x := ⟨xs[k]'(by rw [HS.out]; exact hlt), List.getElem?_eq_getElem _⟩
      obtain ⟨b1, o1, rfl, _, vs, hv, hc⟩ := (HX.out.later HB.out).at k x hx
      obtain ⟨b2, o2, rfl, _, us, hu, hd⟩ := (HY.out.later HB.out).at k x hx
      obtain ⟨x0, x1⟩ := x
      obtain ⟨_, _, rfl, rfl, rfl, ub1⟩ := hv
      obtain ⟨_, _, rfl, rfl, rfl, yb1⟩ := hu
      have c0x : wr.cell? ⟨b1, o1 + k * 2, none⟩ = some (.bool x0) := hc 0 _ rfl
      have d0x : wr.cell? ⟨b2, o2 + k * 2, none⟩ = some (.bool x0) := hd 0 _ rfl
      have c1x : wr.cell? ⟨b1, o1 + k * 2 + 1, none⟩ = some (.int .i64 x1) := hc 1 _ rfl
      have d1x : wr.cell? ⟨b2, o2 + k * 2 + 1, none⟩ = some (.int .i64 x1) := hd 1 _ rfl
      have f0 : (x0 == x0) = true := by simp
      have f1 : (x1 == x1) = true := by simp
      clear hx hc hd
      go_wp2_with fail
      go_region
      all_goals
        have hb3 : Hid (Below w.heap.size w wr) := HB.out
        go_wp2_with fail
        exact ⟨⟨k + 1, by omega, by go_num, HB.out.trans (by go_grown)⟩, by simp [intOf]; omega⟩
    · have ek : k = lb := by omega
      subst ek
      go_wp2_with fail
      go_ret
      exact ⟨rfl, HB.out⟩

theorem in_heap {w : World} {b o : Nat} {v : Value} (h : w.cell? ⟨b, o, none⟩ = some v) : b < w.heap.size := by
  by_cases c : b < w.heap.size
  · exact c
  · rw [show w.cell? ⟨b, o, none⟩ = none from by simp [World.cell?, Array.getElem?_eq_none (Nat.le_of_not_lt c)]] at h; cases h

set_option maxHeartbeats 4000000 in
theorem leObjs (a : Option Addr) (la ca : Nat) (b : Option Addr) (lb cb : Nat) (xs : List Ob) (w : World) {D E : Nat → Prop} (hx : SlAt obR D w a la xs) (hy : SlAt obR E w b lb xs) :
    Calls Try.prog 8 #[.slice a la ca, .slice b lb cb] w fun e w' => e = .returned (.bool true) ∧ Below w.heap.size w w' := by
  have hra := hx.room
  have el : lb = la := by rw [← hx.size, ← hy.size]
  subst el
  have HS : Hid (xs.length = lb) := hx.size
  have HX : Hid (SlAt obR D w a lb xs) := hx
  have HY : Hid (SlAt obR E w b lb xs) := hy
  clear hx hy
  have e1 : ((lb : Int) != lb) = false := by simp
  go_enter Try.func8, Try.ntmps8
  go_wp2_with fail
  go_loopw [5] (fun t wr => ∃ k : Nat, k ≤ lb ∧ t = .int .i64 k ∧ Below w.heap.size w wr) (fun t _ => lb - (intOf t).toNat)
  case atStart => exact ⟨0, Nat.zero_le _, rfl, Below.refl _ _⟩
  case round =>
    obtain ⟨k, hk, rfl, hb⟩ := hrel
    have HB : Hid (Below w.heap.size w wr) := hb
    clear hb
    by_cases hlt : k < lb
    · obtain ⟨x, hx⟩ : ∃ x, xs[k]? = some x := ⟨xs[k]'(by rw [HS.out]; exact hlt), List.getElem?_eq_getElem _⟩
      obtain ⟨b1, o1, rfl, _, vs, hv, hc⟩ := (HX.out.later HB.out).at k x hx
      obtain ⟨b2, o2, rfl, _, us, hu, hd⟩ := (HY.out.later HB.out).at k x hx
      obtain ⟨x0, xs1⟩ := x
      obtain ⟨_, _, rfl, ⟨rfl, ub0⟩, a1, l1, c1, rfl, h1⟩ := hv
      obtain ⟨_, _, rfl, ⟨rfl, yb0⟩, ya1, yl1, yc1, rfl, yh1⟩ := hu
      have c0x : wr.cell? ⟨b1, o1 + k * 2, none⟩ = some (.int .i64 x0) := hc 0 _ rfl
      have d0x : wr.cell? ⟨b2, o2 + k * 2, none⟩ = some (.int .i64 x0) := hd 0 _ rfl
      have c1x : wr.cell? ⟨b1, o1 + k * 2 + 1, none⟩ = some (.slice a1 l1 c1) := hc 1 _ rfl
      have d1x : wr.cell? ⟨b2, o2 + k * 2 + 1, none⟩ = some (.slice ya1 yl1 yc1) := hd 1 _ rfl
      have H1 : Hid (SlAt vaR D wr a1 l1 xs1) := h1
      have G1 : Hid (SlAt vaR E wr ya1 yl1 xs1) := yh1
      have f0 : (x0 != x0) = false := by simp
      clear hx hc hd h1 yh1
      have WR : Hid (Below wr.heap.size wr wr) := Below.refl _ _
      have KS : Hid (∀ x : World, Below wr.heap.size wr x → x.cell? ⟨b1, o1 + k * 2, none⟩ = some (.int .i64 x0) ∧ x.cell? ⟨b2, o2 + k * 2, none⟩ = some (.int .i64 x0) ∧ x.cell? ⟨b1, o1 + k * 2 + 1, none⟩ = some (.slice a1 l1 c1) ∧ x.cell? ⟨b2, o2 + k * 2 + 1, none⟩ = some (.slice ya1 yl1 yc1)) := fun x hx =>
        ⟨(hx.cell (p := ⟨b1, _, none⟩) (in_heap c0x)).trans c0x, (hx.cell (p := ⟨b2, _, none⟩) (in_heap d0x)).trans d0x, (hx.cell (p := ⟨b1, _, none⟩) (in_heap c0x)).trans c1x, (hx.cell (p := ⟨b2, _, none⟩) (in_heap d0x)).trans d1x⟩
      go_wp2_with fail
      go_region_held3 (fun x => x.cell? ⟨b1, o1 + k * 2, none⟩ = some (.int .i64 x0) ∧ x.cell? ⟨b2, o2 + k * 2, none⟩ = some (.int .i64 x0) ∧ x.cell? ⟨b1, o1 + k * 2 + 1, none⟩ = some (.slice a1 l1 c1) ∧ x.cell? ⟨b2, o2 + k * 2 + 1, none⟩ = some (.slice ya1 yl1 yc1)) (first | exact KS.out _ (below_drewN WR.out 1) | exact KS.out _ D1.out) ((go_at_call 9; refine (leVals _ _ _ _ _ _ xs1 _ (H1.out.later (below_drewN WR.out 1)) (G1.out.later (below_drewN WR.out 1))).mono ?_; rintro e w2 ⟨rfl, hb2⟩; have D1 : Hid (Below wr.heap.size wr w2) := (below_drewN WR.out 1).trans hb2; clear hb2))
      all_goals
        go_wp2_with fail
        exact ⟨⟨k + 1, by omega, by go_num, HB.out.trans (D1.out.mono HB.out.size)⟩, by simp [intOf]; omega⟩
    · have ek : k = lb := by omega
      subst ek
      go_wp2_with fail
      go_ret
      exact ⟨rfl, HB.out⟩

end Go.Proofs.Ytacapffmdmpnkaa
