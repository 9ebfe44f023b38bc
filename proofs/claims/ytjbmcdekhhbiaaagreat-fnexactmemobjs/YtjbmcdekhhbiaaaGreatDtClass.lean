/-
  Data of the struct Class: copied into new memory, held against another one that is the same, its size, and how it is read as it came in.
-/
import Derived.Test.YtjbmcdekhhbiaaaGreatDtInt
namespace Go.Proofs.YtjbmcdekhhbiaaaGreat
open Go.ChangeShapes Go.WideShapes Go.ChangeAt Go.RowKit

def ToRClass (w : World) (x0 : Int) (l1 : Nat) (xs1 : List Int) (e : Ending) (w' : World) : Prop :=
  ∃ na1 nc1, e = .returned (.agg #[.int .i64 x0, .slice na1 l1 (l1 + nc1)]) ∧ SlAt intR (fun b => w.heap.size ≤ b) w' na1 l1 xs1 ∧ Below w.heap.size w w'

set_option maxHeartbeats 2000000 in
theorem toRClassF (x0 : Int) (a1 : Option Addr) (l1 c1 : Nat) (xs1 : List Int) (w : World) {D : Nat → Prop} (h1 : SlAt intR D w a1 l1 xs1) (s1 : (Rep.list intR).small xs1) :
    Calls Tryz.prog 31 #[.agg #[.int .i64 x0, .slice a1 l1 c1]] w fun e w' => ToRClass w x0 l1 xs1 e w' ∧ FZ w w' := by
  have H1 : Hid (SlAt intR D w a1 l1 xs1) := h1
  have M1 : Hid ((Rep.list intR).small xs1) := s1
  clear h1 s1
  go_enter Tryz.func31, Tryz.ntmps31
  go_wp2_with fail
  refine (toLIntF _ _ _ xs1 _ (D := D) (H1.out.later (by go_grown)) M1.out).mono ?_
  rintro e w1 ⟨⟨na1, nc1, rfl, hS, hb⟩, hz⟩
  have z1 : w.heap.size + 1 + 1 + 1 ≤ w1.heap.size := by have := hb.size; first | omega | (simp at this; omega)
  have p1 : ∀ o, w1.cell? ⟨w.heap.size, o, none⟩ = _ := fun o => hb.cell (p := ⟨w.heap.size, o, none⟩) (by first | omega | (simp <;> omega))
  have r1 : ∀ o, w1.cell? ⟨w.heap.size + 1, o, none⟩ = _ := fun o => hb.cell (p := ⟨w.heap.size + 1, o, none⟩) (by first | omega | (simp <;> omega))
  have fr1 : ∀ o, w1.frozen? ⟨w.heap.size + 1, o, none⟩ = _ := fun o => hb.frozen (p := ⟨w.heap.size + 1, o, none⟩) (by first | omega | (simp <;> omega))
  have o1 : ∀ o, w1.cell? ⟨w.heap.size + 1 + 1, o, none⟩ = _ := fun o => hb.cell (p := ⟨w.heap.size + 1 + 1, o, none⟩) (by first | omega | (simp <;> omega))
  have fo1 : ∀ o, w1.frozen? ⟨w.heap.size + 1 + 1, o, none⟩ = _ := fun o => hb.frozen (p := ⟨w.heap.size + 1 + 1, o, none⟩) (by first | omega | (simp <;> omega))
  have B1 : Hid (Below w.heap.size w w1) := Below.trans (by go_grown) (hb.mono (by first | omega | (simp <;> omega)))
  have T1_1 : Hid (SlAt intR (fun b => w.heap.size + 1 + 1 + 1 ≤ b) w1 na1 l1 xs1) := SlAt.mono hS (fun b hb' _ => by simp at hb' <;> omega)
  have F1 : Hid (FZ w w1) := fun a => (hz a).trans (by first | (simp only [frozen?_alloc_cells]; done) | simp only [World.frozen?_setCell, frozen?_alloc_cells])
  clear hS hb hz
  go_wp2_with fail
  refine bodyPost_ret (v := .agg #[.int .i64 x0, .slice na1 l1 (l1 + nc1)]) ?_ rfl ?_
  · simp [results, Tryz.results31, go_sem, r1]
  · refine ⟨?_, fun a => ?_⟩
    rotate_left
    · first | (simp only [World.frozen?_setCell]; exact F1.out a) | exact F1.out a
    unfold ToRClass
    refine ⟨_, _, rfl, ?_, ?_⟩
    · refine SlAt.mono (D := fun b => w.heap.size + 1 + 1 + 1 ≤ b) ?_ (fun b hb _ => by omega)
      (repeat (refine SlAt.set ?_ _ _ (by first | omega | (simp <;> omega))))
      exact T1_1.out
    · (repeat (refine Below.setCell ?_ (by first | omega | (simp <;> omega)) _))
      exact B1.out
theorem toRClass (x0 : Int) (a1 : Option Addr) (l1 c1 : Nat) (xs1 : List Int) (w : World) {D : Nat → Prop} (h1 : SlAt intR D w a1 l1 xs1) (s1 : (Rep.list intR).small xs1) :
    Calls Tryz.prog 31 #[.agg #[.int .i64 x0, .slice a1 l1 c1]] w fun e w' => ToRClass w x0 l1 xs1 e w' := (toRClassF x0 a1 l1 c1 xs1 w h1 s1).mono fun _ _ h => h.1

theorem info_Class : (Tryz.prog.info? 56).map (fun i => (i.zero, i.size, i.bytes)) = some (some (.agg #[.int .i64 0, .slice none 0 0]), 2, 32) := by kernel_rfl
theorem make_Class (n : Nat) (hn : n ≤ 1048576) (w : World) : (Instr.makeSlice 32 (.int .i64 (n : Int)) (.int .i64 (n : Int))).run Tryz.prog w = .ok (.slice (some ⟨w.heap.size, 0, none⟩) n n) (w.alloc (.cells (madeCells #[.int .i64 0, .slice none 0 0] (n * 2)) 56)) := by
  obtain ⟨i, hi, hzz⟩ := Option.map_eq_some_iff.1 info_Class
  simp only [Prod.mk.injEq] at hzz
  obtain ⟨hz, hs, hb⟩ := hzz
  have hr := run_make (P := Tryz.prog) w 32 56 i _ Tryz.underlying32 hi hz .i64 .i64 n n (by omega) (Int.le_refl _) (by rw [hb]; omega) (by omega)
  simp only [Int.toNat_natCast, hs] at hr
  exact hr

set_option maxHeartbeats 2000000 in
theorem toLClassF (a : Option Addr) (len cap : Nat) (xs : List Cl) (w : World) {D : Nat → Prop} (h : SlAt clR D w a len xs) (hs : (Rep.list clR).small xs) :
    Calls Tryz.prog 9 #[.slice a len cap] w fun e w' => ToL clR w len xs e w' ∧ FZ w w' := by
  have hlen : len ≤ 1048576 := by rw [← h.size]; exact hs.1
  have hmk := make_Class len hlen
  have HS : Hid (xs.length = len) := h.size
  have H : Hid (SlAt clR D w a len xs) := h
  have SM : Hid (∀ x ∈ xs, Rep.small clR x) := hs.2
  clear h hs
  go_enter Tryz.func9, Tryz.ntmps9
  go_wp2_with fail
  go_loopw [4] (fun t wr => ∃ k : Nat, k ≤ len ∧ t = .int .i64 k ∧ CopR clR w.heap.size len wr xs k ∧ Below w.heap.size w wr ∧ w.heap.size < wr.heap.size ∧ FZ w wr) (fun t _ => len - (intOf t).toNat)
  case atStart => exact ⟨0, Nat.zero_le _, rfl, CopR.made clR w _ len _ xs, by go_grown, by simp, fun a => by simp only [frozen?_alloc_cells]⟩
  case round =>
    obtain ⟨k, hk, rfl, hrow, hb, hz, hfz⟩ := hrel
    have HZF : Hid (FZ w wr) := hfz
    have HR : Hid (CopR clR w.heap.size len wr xs k) := hrow
    have HB : Hid (Below w.heap.size w wr) := hb
    have HZ : Hid (w.heap.size < wr.heap.size) := hz
    clear hrow hb hz hfz
    by_cases hlt : k < len
    · obtain ⟨x, hx⟩ : ∃ x, xs[k]? = some x := ⟨xs[k]'(by rw [HS.out]; exact hlt), List.getElem?_eq_getElem _⟩
      have HX : Hid (xs[k]? = some x) := hx
      have SX : Hid (Rep.small clR x) := SM.out x (List.mem_of_getElem? hx)
      obtain ⟨b, off, rfl, _, vs, hv, hc⟩ := (H.out.later HB.out).at k x hx
      obtain ⟨x0, xs1⟩ := x
      obtain ⟨_, _, rfl, ⟨rfl, b0⟩, a1, l1, c1, rfl, h1⟩ := hv
      have c0x : wr.cell? ⟨b, off + k * 2, none⟩ = some (.int .i64 x0) := hc 0 _ rfl
      have c1x : wr.cell? ⟨b, off + k * 2 + 1, none⟩ = some (.slice a1 l1 c1) := hc 1 _ rfl
      have H1 : Hid (SlAt intR D wr a1 l1 xs1) := h1
      have HF : Hid (∀ w1 us, Below wr.heap.size wr w1 → Rep.holds clR (fun b => wr.heap.size ≤ b) w1 us (x0, xs1) → CopR clR w.heap.size len (putCells w1 w.heap.size (k * 2) us) xs (k + 1)) := fun w1 us h1 h2 => HR.out.step h1 HZ.out hlt HX.out h2
      have HC : Hid (∀ w1, Below wr.heap.size wr w1 → ∀ j, j < 2 → (∃ v, w1.cell? ⟨w.heap.size, k * 2 + j, none⟩ = some v) ∧ w1.frozen? ⟨w.heap.size, k * 2 + j, none⟩ = false) := fun w1 h1 j hj => by
        obtain ⟨⟨v, hv⟩, hf⟩ := HR.out.row (k * 2 + j) (mul_lt_row hlt hj)
        exact ⟨⟨v, by rw [h1.cell (p := ⟨w.heap.size, k * 2 + j, none⟩) HZ.out]; exact hv⟩, by rw [h1.frozen (p := ⟨w.heap.size, k * 2 + j, none⟩) HZ.out]; exact hf⟩
      clear hx hc h1
      go_wp2_with fail
      refine (toRClassF _ _ _ _ xs1 _ H1.out SX.out.2).mono ?_
      rintro e w1 ⟨⟨na1, nc1, rfl, g1, hb1⟩, hz1⟩
      obtain ⟨⟨v0, hv0⟩, hf0⟩ := HC.out w1 hb1 0 (by omega)
      obtain ⟨⟨v1, hv1⟩, hf1⟩ := HC.out w1 hb1 1 (by omega)
      simp only [Nat.add_zero] at hv0 hf0
      have HCop : Hid (CopR clR w.heap.size len (putCells w1 w.heap.size (k * 2) [.int .i64 x0, .slice na1 l1 (l1 + nc1)]) xs (k + 1)) := HF.out w1 _ hb1 (⟨_, _, rfl, ⟨rfl, b0⟩, ⟨na1, l1, _, rfl, g1⟩⟩)
      have b2 : Hid (Below w.heap.size w w1) := HB.out.trans (hb1.mono (Nat.le_of_lt HZ.out))
      have z2 : Hid (w.heap.size < w1.heap.size) := by have := hb1.size; have := HZ.out; show _ < _; omega
      have f2 : Hid (FZ w w1) := fun a => (hz1 a).trans (HZF.out a)
      clear hz1 hb1 g1
      go_wp2_with fail
      refine ⟨⟨k + 1, by omega, by go_num, HCop.out, ?_, ?_, fun a => by simp only [World.frozen?_setCell]; exact f2.out a⟩, by simp [intOf]; omega⟩
      · (repeat (refine Below.setCell ?_ (by simp) _))
        exact b2.out
      · simp only [World.size_setCell]
        exact z2.out
    · have ek : k = len := by omega
      subst ek
      go_wp2_with fail
      go_ret
      exact ⟨⟨_, 0, rfl, HR.out.sl HS.out hlen, HB.out⟩, HZF.out⟩

theorem toLClass (a : Option Addr) (len cap : Nat) (xs : List Cl) (w : World) {D : Nat → Prop} (h : SlAt clR D w a len xs) (hs : (Rep.list clR).small xs) :
    Calls Tryz.prog 9 #[.slice a len cap] w fun e w' => ToL clR w len xs e w' := (toLClassF a len cap xs w h hs).mono fun _ _ h => h.1

set_option maxHeartbeats 2000000 in
theorem eqRClass (x0 : Int) (a1 : Option Addr) (l1 c1 : Nat) (ya1 : Option Addr) (yl1 yc1 : Nat) (xs1 : List Int) (w : World) {D E : Nat → Prop} (h1 : SlAt intR D w a1 l1 xs1) (g1 : SlAt intR E w ya1 yl1 xs1) :
    Calls Tryz.prog 39 #[.agg #[.int .i64 x0, .slice a1 l1 c1], .agg #[.int .i64 x0, .slice ya1 yl1 yc1]] w fun e w' => e = .returned (.bool true) ∧ Below w.heap.size w w' := by
  have H1 : Hid (SlAt intR D w a1 l1 xs1) := h1
  have G1 : Hid (SlAt intR E w ya1 yl1 xs1) := g1
  clear h1 g1
  have e0 : (x0 != x0) = false := by simp
  go_enter Tryz.func39, Tryz.ntmps39
  go_wp2_with fail
  refine (eqLInt _ _ _ _ _ _ xs1 _ (D := D) (E := E) (H1.out.later (by go_grown)) (G1.out.later (by go_grown))).mono ?_
  rintro e w1 ⟨rfl, hb⟩
  have z1 : w.heap.size + 1 + 1 ≤ w1.heap.size := by have := hb.size; first | omega | (simp at this; omega)
  have p1 : ∀ o, w1.cell? ⟨w.heap.size, o, none⟩ = _ := fun o => hb.cell (p := ⟨w.heap.size, o, none⟩) (by first | omega | (simp <;> omega))
  have r1 : ∀ o, w1.cell? ⟨w.heap.size + 1, o, none⟩ = _ := fun o => hb.cell (p := ⟨w.heap.size + 1, o, none⟩) (by first | omega | (simp <;> omega))
  have B1 : Hid (Below w.heap.size w w1) := Below.trans (by go_grown) (hb.mono (by first | omega | (simp <;> omega)))
  clear hb
  go_wp2_with fail
  go_ret
  exact ⟨rfl, B1.out⟩

set_option maxHeartbeats 2000000 in
theorem eqLClass (a : Option Addr) (la ca : Nat) (b : Option Addr) (lb cb : Nat) (xs : List Cl) (w : World) {D E : Nat → Prop} (hx : SlAt clR D w a la xs) (hy : SlAt clR E w b lb xs) :
    Calls Tryz.prog 13 #[.slice a la ca, .slice b lb cb] w fun e w' => e = .returned (.bool true) ∧ Below w.heap.size w w' := by
  have hra := hx.room
  have el : lb = la := by rw [← hx.size, ← hy.size]
  subst el
  have HS : Hid (xs.length = lb) := hx.size
  have HX : Hid (SlAt clR D w a lb xs) := hx
  have HY : Hid (SlAt clR E w b lb xs) := hy
  clear hx hy
  have e1 : ((lb : Int) != lb) = false := by simp
  go_enter Tryz.func13, Tryz.ntmps13
  go_wp2_with fail
  go_loopw [5] (fun t wr => ∃ k : Nat, k ≤ lb ∧ t = .int .i64 k ∧ Below w.heap.size w wr) (fun t _ => lb - (intOf t).toNat)
  case atStart => exact ⟨0, Nat.zero_le _, rfl, Below.refl _ _⟩
  case round =>
    obtain ⟨k, hk, rfl, hb⟩ := hrel
    have HB : Hid (Below w.heap.size w wr) := hb
    clear hb
    by_cases hlt : k < lb
    · obtain ⟨x, hx⟩ : ∃ x, xs[k]? = some x := ⟨xs[k]'(by rw [HS.out]; exact hlt), List.getElem?_eq_getElem _⟩
      obtain ⟨b1, o1, rfl, _, vs, hv, hc⟩ := (HX.out.later HB.out).at k x hx
      obtain ⟨b2, o2, rfl, _, us, hu, hd⟩ := (HY.out.later HB.out).at k x hx
      obtain ⟨x0, xs1⟩ := x
      obtain ⟨_, _, rfl, ⟨rfl, ub0⟩, a1, l1, c1, rfl, h1⟩ := hv
      obtain ⟨_, _, rfl, ⟨rfl, yb0⟩, ya1, yl1, yc1, rfl, yh1⟩ := hu
      have c0x : wr.cell? ⟨b1, o1 + k * 2, none⟩ = some (.int .i64 x0) := hc 0 _ rfl
      have d0x : wr.cell? ⟨b2, o2 + k * 2, none⟩ = some (.int .i64 x0) := hd 0 _ rfl
      have c1x : wr.cell? ⟨b1, o1 + k * 2 + 1, none⟩ = some (.slice a1 l1 c1) := hc 1 _ rfl
      have d1x : wr.cell? ⟨b2, o2 + k * 2 + 1, none⟩ = some (.slice ya1 yl1 yc1) := hd 1 _ rfl
      have H1 : Hid (SlAt intR D wr a1 l1 xs1) := h1
      have G1 : Hid (SlAt intR E wr ya1 yl1 xs1) := yh1
      clear hx hc hd h1 yh1
      go_wp2_with fail
      go_region_with (go_at_call 39; refine (eqRClass _ _ _ _ _ _ _ xs1 _ (H1.out.later (by go_grown)) (G1.out.later (by go_grown))).mono ?_; rintro e w2 ⟨rfl, hb2⟩)
      all_goals
        have hb3 : Hid (Below w.heap.size w w2) := HB.out.trans (Below.mono (Below.trans (below_drawn 1 rfl) hb2) HB.out.size)
        clear hb2
        go_wp2_with fail
        exact ⟨⟨k + 1, by omega, by go_num, hb3.out⟩, by simp [intOf]; omega⟩
    · have ek : k = lb := by omega
      subst ek
      go_wp2_with fail
      go_ret
      exact ⟨rfl, HB.out⟩

set_option maxHeartbeats 2000000 in
theorem szRClass (x0 : Int) (a1 : Option Addr) (l1 c1 : Nat) (xs1 : List Int) (l : Int) (w : World) {D : Nat → Prop} (h1 : SlAt intR D w a1 l1 xs1) (k0 : 0 ≤ l) (k1 : l ≤ 1048576) :
    Calls Tryz.prog 24 #[.agg #[.int .i64 x0, .slice a1 l1 c1], .int .i64 l] w fun e w' => SzP w l (Rep.small clR (x0, xs1)) e w' := by
  have H1 : Hid (SlAt intR D w a1 l1 xs1) := h1
  clear h1
  go_enter Tryz.func24, Tryz.ntmps24
  go_wp2_with fail
  refine (szLInt _ _ _ xs1 _ _ (D := D) (H1.out.later (by go_grown)) k0 k1).mono ?_
  rintro e w1 ⟨r1, rfl, u1, v1, m, hb⟩
  have M1 : Hid (0 ≤ r1 → (Rep.list intR).small xs1) := m
  have z1 : w.heap.size + 1 ≤ w1.heap.size := by have := hb.size; first | omega | (simp at this; omega)
  have p1 : ∀ o, w1.cell? ⟨w.heap.size, o, none⟩ = _ := fun o => hb.cell (p := ⟨w.heap.size, o, none⟩) (by first | omega | (simp <;> omega))
  have B1 : Hid (Below w.heap.size w w1) := Below.trans (by go_grown) (hb.mono (by first | omega | (simp <;> omega)))
  clear hb m
  by_cases q1 : r1 < 0
  · go_wp2_with fail
    go_ret
    exact ⟨-1, rfl, by omega, by omega, by omega, B1.out⟩
  go_wp2_with fail
  go_ret
  exact ⟨_, rfl, by omega, by omega, fun _ => ⟨trivial, M1.out (by omega)⟩, B1.out⟩

set_option maxHeartbeats 2000000 in
theorem szLClass (a : Option Addr) (len cap : Nat) (xs : List Cl) (l : Int) (w : World) {D : Nat → Prop} (h : SlAt clR D w a len xs) (k0 : 0 ≤ l) (k1 : l ≤ 1048576) :
    Calls Tryz.prog 6 #[.slice a len cap, .int .i64 l] w fun e w' => SzP w l ((Rep.list clR).small xs) e w' := by
  have hr := h.room
  have HS : Hid (xs.length = len) := h.size
  have H : Hid (SlAt clR D w a len xs) := h
  clear h
  by_cases hl : l < len
  · go_enter Tryz.func6, Tryz.ntmps6
    go_wp2_with fail
    go_ret
    exact ⟨-1, rfl, by omega, by omega, by omega, Below.refl _ _⟩
  · have h0 : 0 ≤ l - len := by omega
    go_enter Tryz.func6, Tryz.ntmps6
    go_wp2_with fail
    go_loopw [1, 5] (fun u t wr => ∃ (k : Nat) (r : Int), k ≤ len ∧ u = .int .i64 r ∧ t = .int .i64 k ∧ 0 ≤ r ∧ r ≤ l ∧ (∀ x ∈ xs.take k, Rep.small clR x) ∧ Below w.heap.size w wr) (fun _ t _ => len - (intOf t).toNat)
    case atStart => exact ⟨0, _, Nat.zero_le _, rfl, rfl, by omega, by omega, by simp, Below.refl _ _⟩
    case round =>
      obtain ⟨k, r, hk, rfl, rfl, r0, r1, hu, hb⟩ := hrel
      have HU : Hid (∀ x ∈ xs.take k, Rep.small clR x) := hu
      have HB : Hid (Below w.heap.size w wr) := hb
      clear hu hb
      by_cases hlt : k < len
      · obtain ⟨x, hx⟩ : ∃ x, xs[k]? = some x := ⟨xs[k]'(by rw [HS.out]; exact hlt), List.getElem?_eq_getElem _⟩
        have HX : Hid (xs[k]? = some x) := hx
        obtain ⟨b, off, rfl, _, vs, hv, hc⟩ := (H.out.later HB.out).at k x hx
        obtain ⟨x0, xs1⟩ := x
        obtain ⟨_, _, rfl, ⟨rfl, b0⟩, a1, l1, c1, rfl, h1⟩ := hv
        have c0x : wr.cell? ⟨b, off + k * 2, none⟩ = some (.int .i64 x0) := hc 0 _ rfl
        have c1x : wr.cell? ⟨b, off + k * 2 + 1, none⟩ = some (.slice a1 l1 c1) := hc 1 _ rfl
        have H1 : Hid (SlAt intR D wr a1 l1 xs1) := h1
        clear hx hc h1
        go_wp2_with fail
        refine (szRClass _ _ _ _ xs1 _ _ H1.out r0 (by omega)).mono ?_
        rintro e w2 ⟨q, rfl, q0, q1, qm, hb2⟩
        have QM : Hid (0 ≤ q → Rep.small clR (x0, xs1)) := qm
        have B2 : Hid (Below w.heap.size w w2) := HB.out.trans (hb2.mono HB.out.size)
        clear qm hb2
        by_cases hq : q < 0
        · go_wp2_with fail
          go_ret
          exact ⟨-1, rfl, by omega, by omega, by omega, B2.out⟩
        · go_wp2_with fail
          refine ⟨⟨k + 1, q, by omega, rfl, by go_num, by omega, by omega, fun y hy => ?_, B2.out⟩, by simp [intOf]; omega⟩
          rw [List.take_add_one, HX.out] at hy
          rcases List.mem_append.1 hy with h1 | h1
          · exact HU.out y h1
          · simp at h1
            subst h1
            exact QM.out (by omega)
      · have ek : k = len := by omega
        subst ek
        have HA : Hid ((Rep.list clR).small xs) := ⟨by rw [HS.out]; omega, by have := HU.out; rwa [← HS.out, List.take_length] at this⟩
        go_wp2_with fail
        go_ret
        exact ⟨r, rfl, by omega, by omega, fun _ => HA.out, HB.out⟩

theorem rd_Class : Reads 50 clR := reads_struct Tryz.underlying50 (by kernel_rfl) (.cons rfl (by kernel_rfl) rd_int (.one rfl (by kernel_rfl) rdL_Int))
theorem rdL_Class : Reads 22 (.list clR) := reads_list Tryz.underlying22 (by kernel_rfl) rd_Class

end Go.Proofs.YtjbmcdekhhbiaaaGreat
