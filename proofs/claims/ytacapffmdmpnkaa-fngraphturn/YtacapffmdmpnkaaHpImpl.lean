/-
  Whether all references lead to things: the program's HeapOk, by a closure and the library's ContainsFunc.
-/
import Derived.Test.YtacapffmdmpnkaaLeadOk
namespace Go.Proofs.Ytacapffmdmpnkaa
open Go.ChangeShapes Go.WideShapes Go.ChangeAt Go.RowKit

/-- The closure: whether a value of one thing leads to no thing. -/
theorem wrongImpl (x0 : Int) (a : Option Addr) (l c : Nat) (oa : Option Addr) (ol oc : Nat) (xs : List Vl) (B : Nat) (w : World) {D : Nat → Prop} (h : SlAt vaR D w a l xs) (hB : w.cell? ⟨B, 0, none⟩ = some (.slice oa ol oc)) :
    Calls Try.prog 23 #[.agg #[.int .i64 x0, .slice a l c], .pointer (some ⟨B, 0, none⟩)] w fun e w' => e = .returned (.bool (!xs.all (valB ol))) ∧ Below w.heap.size w w' := by
  have H : Hid (SlAt vaR D w a l xs) := h
  have hlt : B < w.heap.size := World.block_lt_of_cell? w _ hB
  clear h
  go_enter Try.func23, Try.ntmps23
  go_wp2_with fail
  refine (leadImpl _ _ _ _ _ _ xs _ (H.out.later (by go_grown))).mono ?_
  rintro e w1 ⟨rfl, hb⟩
  have B1 : Hid (Below w.heap.size w w1) := Below.trans (by go_grown) (hb.mono (by simp))
  clear hb
  go_wp2_with fail
  go_ret
  exact ⟨rfl, B1.out⟩

set_option maxHeartbeats 2000000 in
theorem indexImpl (oa : Option Addr) (ol oc : Nat) (X : List Ob) (m : Nat) (ma : Option Addr) (mc : Nat) (B : Nat) (w : World) {D : Nat → Prop} (h : SlAt obR D w oa ol X) (hB : w.cell? ⟨B, 0, none⟩ = some (.slice ma m mc)) :
    Calls Try.prog 33 #[.slice oa ol oc, .func (.func 23) #[] #[.pointer (some ⟨B, 0, none⟩)]] w
      fun e w' => ∃ i : Int, e = .returned (.int .i64 i) ∧ (decide (0 ≤ i) = !(X.all fun o => o.2.all (valB m))) ∧ Below w.heap.size w w' := by
  have hro := h.room
  have HS : Hid (X.length = ol) := h.size
  have H : Hid (SlAt obR D w oa ol X) := h
  have hlt : B < w.heap.size := World.block_lt_of_cell? w _ hB
  clear h
  go_enter Try.func33, Try.ntmps33
  go_wp2_with fail
  go_loopw [8] (fun t wr => ∃ k : Nat, k ≤ ol ∧ t = .int .i64 k ∧ (X.take k).all (fun o => o.2.all (valB m)) = true ∧ Below w.heap.size w wr) (fun t _ => ol - (intOf t).toNat)
  case atStart => exact ⟨0, Nat.zero_le _, rfl, by simp, Below.refl _ _⟩
  case round =>
    obtain ⟨k, hk, rfl, ha, hb⟩ := hrel
    have HA : Hid ((X.take k).all (fun o => o.2.all (valB m)) = true) := ha
    have HB : Hid (Below w.heap.size w wr) := hb
    have hBr : wr.cell? ⟨B, 0, none⟩ = some (.slice ma m mc) := (hb.cell (p := ⟨B, 0, none⟩) hlt).trans hB
    clear ha hb
    by_cases hlk : k < ol
    · obtain ⟨x, hx⟩ : ∃ x, X[k]? = some x := ⟨X[k]'(by rw [HS.out]; exact hlk), List.getElem?_eq_getElem _⟩
      have HX : Hid (X[k]? = some x) := hx
      obtain ⟨b, off, rfl, _, vs, hv, hc⟩ := (H.out.later HB.out).at k x hx
      obtain ⟨x0, xs⟩ := x
      obtain ⟨_, _, rfl, ⟨rfl, b0⟩, va, vl, vc, rfl, hL⟩ := hv
      have c0x : wr.cell? ⟨b, off + k * 2, none⟩ = some (.int .i64 x0) := hc 0 _ rfl
      have c1x : wr.cell? ⟨b, off + k * 2 + 1, none⟩ = some (.slice va vl vc) := hc 1 _ rfl
      have HL : Hid (SlAt vaR D wr va vl xs) := hL
      clear hx hc hL
      go_wp2_with fail
      refine (wrongImpl _ _ _ _ _ _ _ xs _ _ HL.out hBr).mono ?_
      rintro e w2 ⟨rfl, hb2⟩
      have B2 : Hid (Below w.heap.size w w2) := HB.out.trans (hb2.mono HB.out.size)
      clear hb2
      cases hq : xs.all (valB m)
      · go_wp2_with fail
        go_ret
        exact ⟨k, rfl, by rw [all_false_at HX.out hq]; simp, B2.out⟩
      · go_wp2_with fail
        exact ⟨⟨k + 1, by omega, by go_num, all_take_succ HA.out HX.out hq, B2.out⟩, by simp [intOf]; omega⟩
    · have ek : k = ol := by omega
      subst ek
      have HR : Hid (X.all (fun o => o.2.all (valB m)) = true) := by have := HA.out; rwa [← HS.out, List.take_length] at this
      go_wp2_with fail
      go_ret
      exact ⟨-1, rfl, by rw [HR.out]; rfl, HB.out⟩

theorem containsImpl (oa : Option Addr) (ol oc : Nat) (X : List Ob) (m : Nat) (ma : Option Addr) (mc : Nat) (B : Nat) (w : World) {D : Nat → Prop} (h : SlAt obR D w oa ol X) (hB : w.cell? ⟨B, 0, none⟩ = some (.slice ma m mc)) :
    Calls Try.prog 25 #[.slice oa ol oc, .func (.func 23) #[] #[.pointer (some ⟨B, 0, none⟩)]] w
      fun e w' => e = .returned (.bool (!(X.all fun o => o.2.all (valB m)))) ∧ Below w.heap.size w w' := by
  have H : Hid (SlAt obR D w oa ol X) := h
  clear h
  go_enter Try.func25, Try.ntmps25
  go_wp2_with fail
  refine (indexImpl _ _ _ X m _ _ _ _ H.out hB).mono ?_
  rintro e w2 ⟨i, rfl, hi, hb2⟩
  have HI : Hid (decide (0 ≤ i) = !(X.all fun o => o.2.all (valB m))) := hi
  have B2 : Hid (Below w.heap.size w w2) := hb2
  clear hi hb2
  go_wp2_with fail
  go_ret
  exact ⟨by rw [← HI.out]; rfl, B2.out⟩

theorem heapImpl (oa : Option Addr) (ol oc : Nat) (ra : Option Addr) (rl rc : Nat) (X : List Ob) (r : List Vl) (w : World) {D E : Nat → Prop} (h : SlAt obR D w oa ol X) (g : SlAt vaR E w ra rl r) :
    Calls Try.prog 14 #[.slice oa ol oc, .slice ra rl rc] w fun e w' => e = .returned (.bool (heapB X r)) ∧ Below w.heap.size w w' := by
  have H : Hid (SlAt obR D w oa ol X) := h
  have G : Hid (SlAt vaR E w ra rl r) := g
  have HF : Hid (heapB X r = (r.all (valB ol) && X.all (fun o => o.2.all (valB ol)))) := by show _ = _; rw [heapB, h.size]
  have hmf : ∀ (fn : Fn) (first cap : Array Value) (w : World), (Instr.makeFunc fn first cap).run Try.prog w = .ok (.func fn first cap) w := fun _ _ _ _ => rfl
  clear h g
  go_enter Try.func14, Try.ntmps14
  go_wp2_with fail
  refine (leadImpl _ _ _ _ _ _ r _ (G.out.later (by go_grown))).mono ?_
  rintro e w1 ⟨rfl, hb⟩
  have B1 : Hid (Below w.heap.size w w1) := Below.trans (by go_grown) (hb.mono (by simp))
  have p1 : w1.cell? ⟨w.heap.size, 0, none⟩ = some (.slice oa ol oc) := (hb.cell (p := ⟨w.heap.size, 0, none⟩) (by simp)).trans (by simp [go_sem])
  clear hb
  cases hq : r.all (valB ol)
  · go_wp2_with fail
    go_ret
    exact ⟨by rw [HF.out, hq]; rfl, B1.out⟩
  · go_wp2_with fail
    refine (containsImpl _ _ _ X ol _ _ _ _ (H.out.later B1.out) p1).mono ?_
    rintro e w2 ⟨rfl, hb⟩
    have B2 : Hid (Below w.heap.size w w2) := B1.out.trans (hb.mono B1.out.size)
    clear hb
    go_wp2_with fail
    go_ret
    exact ⟨by rw [HF.out, hq]; simp, B2.out⟩

end Go.Proofs.Ytacapffmdmpnkaa
