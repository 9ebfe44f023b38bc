/-
  Whether all values of things and of roots lead to things: what is said of it, and that the specification says so, in whatever memory; it writes nothing that was there.
-/
import Derived.Test.YtacapffmdmpnkaaDtObj
import Derived.Test.YtacapffmdmpnkaaClsSpec
namespace Go.Proofs.Ytacapffmdmpnkaa
open Go.ChangeShapes Go.WideShapes Go.ChangeAt Go.RowKit

/-- A value leads to nothing, or to one of so many things. -/
def valB (n : Nat) (v : Vl) : Bool := !v.1 || (decide (0 ≤ v.2) && decide (v.2 ≤ (n : Int)))
def heapB (X : List Ob) (r : List Vl) : Bool := r.all (valB X.length) && X.all (fun o => o.2.all (valB X.length))

theorem valSpec (x0 : Bool) (x1 : Int) (n : Nat) (w : World) :
    Calls Try.prog 19 #[.agg #[.bool x0, .int .i64 x1], .int .i64 n] w fun e w' => e = .returned (.bool (valB n (x0, x1))) ∧ Below w.heap.size w w' := by
  have HF : Hid (∀ b : Bool, valB n (b, x1) = (!b || (decide (0 ≤ x1) && decide (x1 ≤ (n : Int))))) := fun _ => rfl
  cases x0
  · go_enter Try.func19, Try.ntmps19
    go_wp2_with fail
    go_ret
    exact ⟨by rw [HF.out]; rfl, by go_grown⟩
  · go_enter Try.func19, Try.ntmps19
    go_wp2_with fail
    refine (inSpec _ _ _ _).mono ?_
    rintro e w' ⟨rfl, rfl⟩
    go_wp2_with fail
    go_ret
    exact ⟨by rw [HF.out]; rfl, by go_grown⟩

theorem all_take_succ {α : Type} {p : α → Bool} {xs : List α} {k : Nat} {x : α} (h : (xs.take k).all p = true) (hx : xs[k]? = some x) (hp : p x = true) : (xs.take (k + 1)).all p = true := by
  rw [List.take_add_one, hx, List.all_append, h, Bool.true_and]
  simp [hp]
theorem all_false_at {α : Type} {p : α → Bool} {xs : List α} {k : Nat} {x : α} (hx : xs[k]? = some x) (hp : p x = false) : xs.all p = false := by
  rw [List.all_eq_false]
  exact ⟨x, List.mem_of_getElem? hx, by simp [hp]⟩

set_option maxHeartbeats 4000000 in
theorem heapSpec (oa : Option Addr) (ol oc : Nat) (ra : Option Addr) (rl rc : Nat) (X : List Ob) (r : List Vl) (w : World) {D E : Nat → Prop} (h : SlAt obR D w oa ol X) (g : SlAt vaR E w ra rl r) :
    Calls Try.prog 10 #[.slice oa ol oc, .slice ra rl rc] w fun e w' => e = .returned (.bool (heapB X r)) ∧ Below w.heap.size w w' := by
  have hro := h.room
  have hrr := g.room
  have HS : Hid (X.length = ol) := h.size
  have GS : Hid (r.length = rl) := g.size
  have H : Hid (SlAt obR D w oa ol X) := h
  have G : Hid (SlAt vaR E w ra rl r) := g
  have HF : Hid (heapB X r = (r.all (valB ol) && X.all (fun o => o.2.all (valB ol)))) := by show _ = _; rw [heapB, HS.out]
  clear h g
  go_enter Try.func10, Try.ntmps10
  go_wp2_with fail
  go_loopw [5] (fun t wr => ∃ k : Nat, k ≤ rl ∧ t = .int .i64 k ∧ (r.take k).all (valB ol) = true ∧ Below w.heap.size w wr) (fun t _ => rl - (intOf t).toNat)
  case atStart => exact ⟨0, Nat.zero_le _, rfl, by simp, Below.refl _ _⟩
  case round =>
    obtain ⟨k, hk, rfl, ha, hb⟩ := hrel
    have HA : Hid ((r.take k).all (valB ol) = true) := ha
    have HB : Hid (Below w.heap.size w wr) := hb
    clear ha hb
    by_cases hlt : k < rl
    · obtain ⟨x, hx⟩ : ∃ x, r[k]? = some x := ⟨r[k]'(by rw [GS.out]; exact hlt), List.getElem?_eq_getElem _⟩
      have HX : Hid (r[k]? = some x) := hx
      obtain ⟨b, off, rfl, _, vs, hv, hc⟩ := (G.out.later HB.out).at k x hx
      obtain ⟨x0, x1⟩ := x
      obtain ⟨_, _, rfl, rfl, rfl, b1⟩ := hv
      have c0x : wr.cell? ⟨b, off + k * 2, none⟩ = some (.bool x0) := hc 0 _ rfl
      have c1x : wr.cell? ⟨b, off + k * 2 + 1, none⟩ = some (.int .i64 x1) := hc 1 _ rfl
      clear hx hc
      go_wp2_with fail
      refine (valSpec _ _ _ _).mono ?_
      rintro e w2 ⟨rfl, hb2⟩
      have B2 : Hid (Below w.heap.size w w2) := HB.out.trans (hb2.mono HB.out.size)
      clear hb2
      cases hq : valB ol (x0, x1)
      · go_wp2_with fail
        go_ret
        exact ⟨by rw [HF.out, all_false_at HX.out hq]; rfl, B2.out⟩
      · go_wp2_with fail
        exact ⟨⟨k + 1, by omega, by go_num, all_take_succ HA.out HX.out hq, B2.out⟩, by simp [intOf]; omega⟩
    · have ek : k = rl := by omega
      subst ek
      have HR : Hid (r.all (valB ol) = true) := by have := HA.out; rwa [← GS.out, List.take_length] at this
      obtain ⟨wv, rfl⟩ : ∃ wv, wv = wr := ⟨wr, rfl⟩
      clear HA
      go_wp2_with fail
      go_loopw [6] (fun t wr => ∃ j : Nat, j ≤ ol ∧ t = .int .i64 j ∧ (X.take j).all (fun o => o.2.all (valB ol)) = true ∧ Below w.heap.size w wr) (fun t _ => ol - (intOf t).toNat)
      case atStart => exact ⟨0, Nat.zero_le _, rfl, by simp, HB.out⟩
      case round =>
        obtain ⟨j, hj, rfl, ha, hb⟩ := hrel
        have HA : Hid ((X.take j).all (fun o => o.2.all (valB ol)) = true) := ha
        have HC : Hid (Below w.heap.size w wr) := hb
        clear ha hb
        by_cases hlj : j < ol
        · obtain ⟨x, hx⟩ : ∃ x, X[j]? = some x := ⟨X[j]'(by rw [HS.out]; exact hlj), List.getElem?_eq_getElem _⟩
          have HX : Hid (X[j]? = some x) := hx
          obtain ⟨b, off, rfl, _, vs, hv, hc⟩ := (H.out.later HC.out).at j x hx
          obtain ⟨x0, xs⟩ := x
          obtain ⟨_, _, rfl, ⟨rfl, b0⟩, va, vl, vc, rfl, hL⟩ := hv
          have c0x : wr.cell? ⟨b, off + j * 2, none⟩ = some (.int .i64 x0) := hc 0 _ rfl
          have c1x : wr.cell? ⟨b, off + j * 2 + 1, none⟩ = some (.slice va vl vc) := hc 1 _ rfl
          have C1 : Hid (wr.cell? ⟨b, off + j * 2 + 1, none⟩ = some (.slice va vl vc)) := c1x
          have HL : Hid (SlAt vaR D wr va vl xs) := hL
          have LS : Hid (xs.length = vl) := hL.size
          have hrv := hL.room
          have hbw : b < wr.heap.size := World.block_lt_of_cell? wr _ c1x
          have HD : Hid (Below w.heap.size w wr) := HC.out
          obtain ⟨wu, rfl⟩ : ∃ wu, wu = wr := ⟨wr, rfl⟩
          clear hx hc hL c0x c1x
          go_wp2_with fail
          go_loopw [7] (fun t wr => ∃ i : Nat, i ≤ vl ∧ t = .int .i64 i ∧ (xs.take i).all (valB ol) = true ∧ Below wu.heap.size wu wr) (fun t _ => vl - (intOf t).toNat)
          case atStart => exact ⟨0, Nat.zero_le _, rfl, by simp, Below.refl _ _⟩
          case round =>
            obtain ⟨i, hi, rfl, ha, hb⟩ := hrel
            have HI : Hid ((xs.take i).all (valB ol) = true) := ha
            have HE : Hid (Below wu.heap.size wu wr) := hb
            have c1x : wr.cell? ⟨b, off + j * 2 + 1, none⟩ = some (.slice va vl vc) := (hb.cell (p := ⟨b, off + j * 2 + 1, none⟩) hbw).trans C1.out
            clear ha hb
            by_cases hli : i < vl
            · obtain ⟨x, hx⟩ : ∃ x, xs[i]? = some x := ⟨xs[i]'(by rw [LS.out]; exact hli), List.getElem?_eq_getElem _⟩
              have HY : Hid (xs[i]? = some x) := hx
              obtain ⟨b', off', rfl, _, vs, hv, hc⟩ := (HL.out.later HE.out).at i x hx
              obtain ⟨y0, y1⟩ := x
              obtain ⟨_, _, rfl, rfl, rfl, b1⟩ := hv
              have d0x : wr.cell? ⟨b', off' + i * 2, none⟩ = some (.bool y0) := hc 0 _ rfl
              have d1x : wr.cell? ⟨b', off' + i * 2 + 1, none⟩ = some (.int .i64 y1) := hc 1 _ rfl
              clear hx hc
              go_wp2_with fail
              refine (valSpec _ _ _ _).mono ?_
              rintro e w2 ⟨rfl, hb2⟩
              have B2 : Hid (Below wu.heap.size wu w2) := HE.out.trans (hb2.mono HE.out.size)
              clear hb2
              cases hq : valB ol (y0, y1)
              · go_wp2_with fail
                go_ret
                exact ⟨by rw [HF.out, HR.out, all_false_at HX.out (all_false_at HY.out hq)]; rfl, HD.out.trans (B2.out.mono HD.out.size)⟩
              · go_wp2_with fail
                exact ⟨⟨i + 1, by omega, by go_num, all_take_succ HI.out HY.out hq, B2.out⟩, by simp [intOf]; omega⟩
            · have ei : i = vl := by omega
              subst ei
              have HT : Hid (xs.all (valB ol) = true) := by have := HI.out; rwa [← LS.out, List.take_length] at this
              go_wp2_with fail
              exact ⟨⟨j + 1, by omega, by go_num, all_take_succ HA.out HX.out HT.out, HD.out.trans (HE.out.mono HD.out.size)⟩, by simp [intOf]; omega⟩
        · have ej : j = ol := by omega
          subst ej
          have HT : Hid (X.all (fun o => o.2.all (valB j)) = true) := by have := HA.out; rwa [← HS.out, List.take_length, HS.out] at this
          go_wp2_with fail
          go_ret
          exact ⟨by rw [HF.out, HR.out, HT.out]; rfl, HC.out⟩

end Go.Proofs.Ytacapffmdmpnkaa
