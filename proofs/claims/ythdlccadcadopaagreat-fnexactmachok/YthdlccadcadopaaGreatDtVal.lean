/-
  Data of the struct Val: copied into new memory, held against another one that is the same, its size, and how it is read as it came in.
-/
import Derived.Test.YthdlccadcadopaaGreatDtInt
namespace Go.Proofs.YthdlccadcadopaaGreat
open Go.ChangeShapes Go.WideShapes Go.ChangeAt Go.RowKit

def ToRVal (w : World) (x0 : Bool) (x1 : Int) (e : Ending) (w' : World) : Prop :=
  e = .returned (.agg #[.bool x0, .int .i64 x1]) ∧ Below w.heap.size w w'

set_option maxHeartbeats 2000000 in
theorem toRValF (x0 : Bool) (x1 : Int) (w : World) :
    Calls Tryz.prog 53 #[.agg #[.bool x0, .int .i64 x1]] w fun e w' => ToRVal w x0 x1 e w' ∧ FZ w w' := by
  go_enter Tryz.func53, Tryz.ntmps53
  go_wp2_with fail
  refine bodyPost_ret (v := .agg #[.bool x0, .int .i64 x1]) ?_ rfl ?_
  · simp [results, Tryz.results53, go_sem]
  · refine ⟨?_, fun a => ?_⟩
    rotate_left
    · first | (simp only [frozen?_alloc_cells]; done) | simp only [World.frozen?_setCell, frozen?_alloc_cells]
    unfold ToRVal
    exact ⟨rfl, by go_grown⟩
theorem toRVal (x0 : Bool) (x1 : Int) (w : World) :
    Calls Tryz.prog 53 #[.agg #[.bool x0, .int .i64 x1]] w fun e w' => ToRVal w x0 x1 e w' := (toRValF x0 x1 w).mono fun _ _ h => h.1

theorem info_Val : (Tryz.prog.info? 31).map (fun i => (i.zero, i.size, i.bytes)) = some (some (.agg #[.bool false, .int .i64 0]), 2, 16) := by kernel_rfl
theorem make_Val (n : Nat) (hn : n ≤ 1048576) (w : World) : (Instr.makeSlice 58 (.int .i64 (n : Int)) (.int .i64 (n : Int))).run Tryz.prog w = .ok (.slice (some ⟨w.heap.size, 0, none⟩) n n) (w.alloc (.cells (madeCells #[.bool false, .int .i64 0] (n * 2)) 31)) := by
  obtain ⟨i, hi, hzz⟩ := Option.map_eq_some_iff.1 info_Val
  simp only [Prod.mk.injEq] at hzz
  obtain ⟨hz, hs, hb⟩ := hzz
  have hr := run_make (P := Tryz.prog) w 58 31 i _ Tryz.underlying58 hi hz .i64 .i64 n n (by omega) (Int.le_refl _) (by rw [hb]; omega) (by omega)
  simp only [Int.toNat_natCast, hs] at hr
  exact hr

set_option maxHeartbeats 2000000 in
theorem toLValF (a : Option Addr) (len cap : Nat) (xs : List Vl) (w : World) {D : Nat → Prop} (h : SlAt vaR D w a len xs) (hs : (Rep.list vaR).small xs) :
    Calls Tryz.prog 123 #[.slice a len cap] w fun e w' => ToL vaR w len xs e w' ∧ FZ w w' := by
  have hlen : len ≤ 1048576 := by rw [← h.size]; exact hs.1
  have hmk := make_Val len hlen
  have HS : Hid (xs.length = len) := h.size
  have H : Hid (SlAt vaR D w a len xs) := h
  have SM : Hid (∀ x ∈ xs, Rep.small vaR x) := hs.2
  clear h hs
  go_enter Tryz.func123, Tryz.ntmps123
  go_wp2_with fail
  go_loopw [4] (fun t wr => ∃ k : Nat, k ≤ len ∧ t = .int .i64 k ∧ CopR vaR w.heap.size len wr xs k ∧ Below w.heap.size w wr ∧ w.heap.size < wr.heap.size ∧ FZ w wr) (fun t _ => len - (intOf t).toNat)
  case atStart => exact ⟨0, Nat.zero_le _, rfl, CopR.made vaR w _ len _ xs, by go_grown, by simp, fun a => by simp only [frozen?_alloc_cells]⟩
  case round =>
    obtain ⟨k, hk, rfl, hrow, hb, hz, hfz⟩ := hrel
    have HZF : Hid (FZ w wr) := hfz
    have HR : Hid (CopR vaR w.heap.size len wr xs k) := hrow
    have HB : Hid (Below w.heap.size w wr) := hb
    have HZ : Hid (w.heap.size < wr.heap.size) := hz
    clear hrow hb hz hfz
    by_cases hlt : k < len
    · obtain ⟨x, hx⟩ : ∃ x, xs[k]? = some x := ⟨xs[k]'(by rw [HS.out]; exact hlt), List.getElem?_eq_getElem _⟩
      have HX : Hid (xs[k]? = some x) := hx
      have SX : Hid (Rep.small vaR x) := SM.out x (List.mem_of_getElem? hx)
      obtain ⟨b, off, rfl, _, vs, hv, hc⟩ := (H.out.later HB.out).at k x hx
      obtain ⟨x0, x1⟩ := x
      obtain ⟨_, _, rfl, rfl, rfl, b1⟩ := hv
      have c0x : wr.cell? ⟨b, off + k * 2, none⟩ = some (.bool x0) := hc 0 _ rfl
      have c1x : wr.cell? ⟨b, off + k * 2 + 1, none⟩ = some (.int .i64 x1) := hc 1 _ rfl
      have HF : Hid (∀ w1 us, Below wr.heap.size wr w1 → Rep.holds vaR (fun b => wr.heap.size ≤ b) w1 us (x0, x1) → CopR vaR w.heap.size len (putCells w1 w.heap.size (k * 2) us) xs (k + 1)) := fun w1 us h1 h2 => HR.out.step h1 HZ.out hlt HX.out h2
      have HC : Hid (∀ w1, Below wr.heap.size wr w1 → ∀ j, j < 2 → (∃ v, w1.cell? ⟨w.heap.size, k * 2 + j, none⟩ = some v) ∧ w1.frozen? ⟨w.heap.size, k * 2 + j, none⟩ = false) := fun w1 h1 j hj => by
        obtain ⟨⟨v, hv⟩, hf⟩ := HR.out.row (k * 2 + j) (mul_lt_row hlt hj)
        exact ⟨⟨v, by rw [h1.cell (p := ⟨w.heap.size, k * 2 + j, none⟩) HZ.out]; exact hv⟩, by rw [h1.frozen (p := ⟨w.heap.size, k * 2 + j, none⟩) HZ.out]; exact hf⟩
      clear hx hc
      go_wp2_with fail
      refine (toRValF _ _ _).mono ?_
      rintro e w1 ⟨⟨rfl, hb1⟩, hz1⟩
      obtain ⟨⟨v0, hv0⟩, hf0⟩ := HC.out w1 hb1 0 (by omega)
      obtain ⟨⟨v1, hv1⟩, hf1⟩ := HC.out w1 hb1 1 (by omega)
      simp only [Nat.add_zero] at hv0 hf0
      have HCop : Hid (CopR vaR w.heap.size len (putCells w1 w.heap.size (k * 2) [.bool x0, .int .i64 x1]) xs (k + 1)) := HF.out w1 _ hb1 (⟨_, _, rfl, rfl, ⟨rfl, b1⟩⟩)
      have b2 : Hid (Below w.heap.size w w1) := HB.out.trans (hb1.mono (Nat.le_of_lt HZ.out))
      have z2 : Hid (w.heap.size < w1.heap.size) := by have := hb1.size; have := HZ.out; show _ < _; omega
      have f2 : Hid (FZ w w1) := fun a => (hz1 a).trans (HZF.out a)
      clear hz1 hb1
      go_wp2_with fail
      refine ⟨⟨k + 1, by omega, by go_num, HCop.out, ?_, ?_, fun a => by simp only [World.frozen?_setCell]; exact f2.out a⟩, by simp [intOf]; omega⟩
      · (repeat (refine Below.setCell ?_ (by simp) _))
        exact b2.out
      · simp only [World.size_setCell]
        exact z2.out
    · have ek : k = len := by omega
      subst ek
      go_wp2_with fail
      go_ret
      exact ⟨⟨_, 0, rfl, HR.out.sl HS.out hlen, HB.out⟩, HZF.out⟩

theorem toLVal (a : Option Addr) (len cap : Nat) (xs : List Vl) (w : World) {D : Nat → Prop} (h : SlAt vaR D w a len xs) (hs : (Rep.list vaR).small xs) :
    Calls Tryz.prog 123 #[.slice a len cap] w fun e w' => ToL vaR w len xs e w' := (toLValF a len cap xs w h hs).mono fun _ _ h => h.1

set_option maxHeartbeats 2000000 in
theorem eqRVal (x0 : Bool) (x1 : Int) (w : World) :
    Calls Tryz.prog 30 #[.agg #[.bool x0, .int .i64 x1], .agg #[.bool x0, .int .i64 x1]] w fun e w' => e = .returned (.bool true) ∧ Below w.heap.size w w' := by
  have e0 : (x0 != x0) = false := by simp
  have e1 : (x1 != x1) = false := by simp
  go_enter Tryz.func30, Tryz.ntmps30
  go_wp2_with fail
  go_ret
  exact ⟨rfl, by go_grown⟩

set_option maxHeartbeats 2000000 in
theorem eqLVal (a : Option Addr) (la ca : Nat) (b : Option Addr) (lb cb : Nat) (xs : List Vl) (w : World) {D E : Nat → Prop} (hx : SlAt vaR D w a la xs) (hy : SlAt vaR E w b lb xs) :
    Calls Tryz.prog 118 #[.slice a la ca, .slice b lb cb] w fun e w' => e = .returned (.bool true) ∧ Below w.heap.size w w' := by
  have hra := hx.room
  have el : lb = la := by rw [← hx.size, ← hy.size]
  subst el
  have HS : Hid (xs.length = lb) := hx.size
  have HX : Hid (SlAt vaR D w a lb xs) := hx
  have HY : Hid (SlAt vaR E w b lb xs) := hy
  clear hx hy
  have e1 : ((lb : Int) != lb) = false := by simp
  go_enter Tryz.func118, Tryz.ntmps118
  go_wp2_with fail
  go_loopw [5] (fun t wr => ∃ k : Nat, k ≤ lb ∧ t = .int .i64 k ∧ Below w.heap.size w wr) (fun t _ => lb - (intOf t).toNat)
  case atStart => exact ⟨0, Nat.zero_le _, rfl, Below.refl _ _⟩
  case round =>
    obtain ⟨k, hk, rfl, hb⟩ := hrel
    have HB : Hid (Below w.heap.size w wr) := hb
    clear hb
    by_cases hlt : k < lb
    · obtain ⟨x, hx⟩ : ∃ x, xs[k]? = some x := ⟨xs[k]'(by rw [HS.out]; exact hlt), List.getElem?_eq_getElem _⟩
      obtain ⟨b1, o1, rfl, _, vs, hv, hc⟩ := (HX.out.later HB.out).at k x hx
      obtain ⟨b2, o2, rfl, _, us, hu, hd⟩ := (HY.out.later HB.out).at k x hx
      obtain ⟨x0, x1⟩ := x
      obtain ⟨_, _, rfl, rfl, rfl, ub1⟩ := hv
      obtain ⟨_, _, rfl, rfl, rfl, yb1⟩ := hu
      have c0x : wr.cell? ⟨b1, o1 + k * 2, none⟩ = some (.bool x0) := hc 0 _ rfl
      have d0x : wr.cell? ⟨b2, o2 + k * 2, none⟩ = some (.bool x0) := hd 0 _ rfl
      have c1x : wr.cell? ⟨b1, o1 + k * 2 + 1, none⟩ = some (.int .i64 x1) := hc 1 _ rfl
      have d1x : wr.cell? ⟨b2, o2 + k * 2 + 1, none⟩ = some (.int .i64 x1) := hd 1 _ rfl
      clear hx hc hd
      go_wp2_with fail
      go_region_with (go_at_call 30; refine (eqRVal _ _ _).mono ?_; rintro e w2 ⟨rfl, hb2⟩)
      all_goals
        have hb3 : Hid (Below w.heap.size w w2) := HB.out.trans (Below.mono (Below.trans (below_drawn 1 rfl) hb2) HB.out.size)
        clear hb2
        go_wp2_with fail
        exact ⟨⟨k + 1, by omega, by go_num, hb3.out⟩, by simp [intOf]; omega⟩
    · have ek : k = lb := by omega
      subst ek
      go_wp2_with fail
      go_ret
      exact ⟨rfl, HB.out⟩

set_option maxHeartbeats 2000000 in
theorem szLVal (a : Option Addr) (len cap : Nat) (xs : List Vl) (l : Int) (w : World) {D : Nat → Prop} (h : SlAt vaR D w a len xs) (k0 : 0 ≤ l) (k1 : l ≤ 1048576) :
    Calls Tryz.prog 122 #[.slice a len cap, .int .i64 l] w fun e w' => SzP w l ((Rep.list vaR).small xs) e w' := by
  have hr := h.room
  have HS : Hid (xs.length = len) := h.size
  have H : Hid (SlAt vaR D w a len xs) := h
  clear h
  by_cases hl : l < len
  · go_enter Tryz.func122, Tryz.ntmps122
    go_wp2_with fail
    go_ret
    exact ⟨-1, rfl, by omega, by omega, by omega, Below.refl _ _⟩
  · have h0 : 0 ≤ l - len := by omega
    go_enter Tryz.func122, Tryz.ntmps122
    go_wp2_with fail
    go_ret
    exact ⟨_, rfl, by omega, by omega, fun _ => ⟨by rw [HS.out]; omega, fun _ _ => ⟨trivial, trivial⟩⟩, Below.refl _ _⟩

theorem rd_Val : Reads 47 vaR := reads_struct Tryz.underlying47 (by kernel_rfl) (.cons rfl (by kernel_rfl) rd_bool (.one rfl (by kernel_rfl) rd_int))
theorem rdL_Val : Reads 126 (.list vaR) := reads_list Tryz.underlying126 (by kernel_rfl) rd_Val

end Go.Proofs.YthdlccadcadopaaGreat
