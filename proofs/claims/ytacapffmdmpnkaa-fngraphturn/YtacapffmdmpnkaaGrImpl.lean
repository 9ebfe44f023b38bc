/-
  HeapGraph of the program: what it answers at every list of things and of roots, in memory of its own; it writes nothing that was there.
-/
import Derived.Test.YtacapffmdmpnkaaGrRow
import Derived.Test.YtacapffmdmpnkaaColl
import Derived.Test.YtacapffmdmpnkaaHpImpl
import Derived.Test.YtacapffmdmpnkaaAppI
import Derived.Deep.RegionHeld3
namespace Go.Proofs.Ytacapffmdmpnkaa
open Go.ChangeShapes Go.WideShapes Go.ChangeAt Go.RowKit

/-- What HeapGraph gives. -/
def GrP (X : List Ob) (r : List Vl) (w : World) (e : Ending) (w' : World) : Prop :=
  Below w.heap.size w w' ∧ ((heapB X r = false ∧ e = .returned (.tuple #[.slice none 0 0, .slice none 0 0])) ∨
    (heapB X r = true ∧ ∃ G R bs, e = .returned (.tuple #[.slice (some ⟨G, 0, none⟩) (graphOf X r).length (graphOf X r).length, .slice (some ⟨R, 0, none⟩) (rootsOf X r).length (rootsOf X r).length]) ∧
      GrRow w' G (graphOf X r).length (graphOf X r) (graphOf X r).length bs ∧ WrV w' R (rootsOf X r) ∧ w.heap.size ≤ G ∧ G < R ∧ R < w'.heap.size ∧ ∀ j, j < (graphOf X r).length → bs j < R))

theorem graph_len (X : List Ob) (r : List Vl) : (graphOf X r).length = (orderOf X r).length := by simp [graphOf]
theorem graph_at {X : List Ob} {r : List Vl} {k : Nat} {n : Int} (h : (orderOf X r)[k]? = some n) : (graphOf X r)[k]? = some ((X.getD (n.toNat - 1) (0, [])).1, (valsOf X n).map (renV (orderOf X r))) := by
  rw [graphOf, List.getElem?_map, h]; rfl

set_option maxRecDepth 100000 in
set_option maxHeartbeats 8000000 in
theorem graphImpl (oa : Option Addr) (ol oc : Nat) (ra : Option Addr) (rl rc : Nat) (X : List Ob) (r : List Vl) (w : World) {D E : Nat → Prop} (h : SlAt obR D w oa ol X) (g : SlAt vaR E w ra rl r) (sx : (Rep.list obR).small X) (sr : (Rep.list vaR).small r) :
    Calls Try.prog 6 #[.slice oa ol oc, .slice ra rl rc] w fun e w' => GrP X r w e w' := by
  have H : Hid (SlAt obR (fun b => b < w.heap.size) w oa ol X) := h.mono (fun b _ hb => hb)
  have G : Hid (SlAt vaR (fun b => b < w.heap.size) w ra rl r) := g.mono (fun b _ hb => hb)
  have EL : Hid (X.length = ol) := h.size
  have RL : Hid (r.length = rl) := g.size
  have SX : Hid ((Rep.list obR).small X) := sx
  have hol : ol ≤ 1048576 := by have := sx.1; rw [h.size] at this; exact this
  have hrl : rl ≤ 1048576 := by have := sr.1; rw [g.size] at this; exact this
  clear h g sx sr
  go_enter Try.func6, Try.ntmps6
  go_wp2_with fail
  refine (heapImpl _ _ _ _ _ _ X r _ H.out G.out).mono ?_
  rintro e w1 ⟨rfl, hb⟩
  have B1 : Hid (Below w.heap.size w w1) := hb
  clear hb
  cases ok : heapB X r
  · have OKF : Hid (heapB X r = false) := ok
    clear ok
    go_wp2_with fail
    go_ret2
    exact ⟨B1.out, .inl ⟨OKF.out, rfl⟩⟩
  have OK : Hid (heapB X r = true) := ok
  have HOr : Hid (Ordr X.length (orderOf X r)) := ordr_at ok _
  have hm1 : (orderOf X r).length ≤ ol := by have := HOr.out.le; rw [EL.out] at this; exact this
  clear ok
  go_wp2_with fail
  refine (reachedImpl _ _ _ _ _ _ _).mono ?_
  rintro e w2 ⟨rfl, hw2⟩
  have A2 : Hid (Below w1.heap.size w1 w2) := by rw [hw2]; exact ((Below.refl _ w1).alloc (Nat.le_refl _) _).alloc (by simp) _
  have B2 : Hid (Below w.heap.size w w2) := B1.out.trans (A2.out.mono B1.out.size)
  have z2 : w2.heap.size = w1.heap.size + 1 + 1 := by rw [hw2]; simp
  have bO : Hid (Boxed w2 w1.heap.size 23 (.slice oa ol oc)) := by rw [hw2]; exact (Below.heap_alloc _ _ _ (by simp)).trans (heap_new rfl _)
  have bR : Hid (Boxed w2 (w1.heap.size + 1) 24 (.slice ra rl rc)) := by rw [hw2]; exact heap_new (by simp) _
  have zw : w.heap.size ≤ w1.heap.size := B1.out.size
  clear hw2
  go_wp2_with fail
  refine (collectImpl _ _ _ _ _ _ _ _ X r _ bO.out bR.out ((H.out.later B2.out).mono (fun b hb _ => by omega)) ((G.out.later B2.out).mono (fun b hb _ => by omega)) OK.out (by rw [EL.out]; exact hol)).mono ?_
  rintro e w3 ⟨v, rfl, hown, hb⟩
  have B3 : Hid (Below w.heap.size w w3) := B2.out.trans (hb.mono (by omega))
  obtain ⟨va, vc, hv⟩ : ∃ va vc, v = .slice va (orderOf X r).length vc := by
    rcases hown.2 with ⟨e1, e2⟩ | ⟨gg, cap, cur, e1, _⟩
    · exact ⟨none, 0, by rw [e1, e2]⟩
    · exact ⟨_, _, e1⟩
  subst hv
  have HI : Hid (IntsAt (fun b => w2.heap.size ≤ b) w3 va (orderOf X r).length (orderOf X r)) := (own_at hown (by omega) (fits_lit (fun x hx => by have := HOr.out.inn x hx; unfold isN at this; rw [EL.out] at this; omega))).1
  have z3 : w2.heap.size ≤ w3.heap.size := hb.size
  clear hown hb bO bR A2 B2
  have hmk : ∀ wx : World, (Instr.makeSlice 41 (.int .i64 ((ol : Int) + 1)) (.int .i64 ((ol : Int) + 1))).run Try.prog wx = .ok (.slice (some ⟨wx.heap.size, 0, none⟩) (ol + 1) (ol + 1)) (wx.alloc (.cells (madeCells #[.int .i64 0] (ol + 1)) 3)) := fun wx => by
    have := run_make_row' (P := Try.prog) 41 3 (.int .i64 0) 8 Try.underlying41 info_int rfl .i64 .i64 (ol + 1) (by omega) (by omega) wx
    rw [show ((ol + 1 : Nat) : Int) = (ol : Int) + 1 by simp] at this
    exact this
  have hmo := make_Obj (orderOf X r).length (by omega)
  generalize hlm : (orderOf X r).length = m at *
  go_wp2_with fail
  go_loopw [28] (fun t wr => ∃ k : Nat, k ≤ m ∧ t = .int .i64 k ∧ (∀ j, j ≤ ol → wr.cell? ⟨w3.heap.size, j, none⟩ = some (.int .i64 (idxN ((orderOf X r).take k) (j : Int))) ∧ wr.frozen? ⟨w3.heap.size, j, none⟩ = false) ∧ Below w3.heap.size w3 wr ∧ w3.heap.size < wr.heap.size) (fun t _ => m - (intOf t).toNat)
  case atStart =>
    refine ⟨0, Nat.zero_le _, rfl, fun j hj => ?_, by go_grown, by simp⟩
    have := RowAt.made w3 #[.int .i64 0] (ol + 1) 3 j (by omega)
    refine ⟨?_, this.2⟩
    rw [this.1]
    simp [Nat.mod_one, idxN]
  case round =>
    obtain ⟨k, hk, rfl, hrow, hb, hz⟩ := hrel
    have HRw : Hid (∀ j, j ≤ ol → wr.cell? ⟨w3.heap.size, j, none⟩ = some (.int .i64 (idxN ((orderOf X r).take k) (j : Int))) ∧ wr.frozen? ⟨w3.heap.size, j, none⟩ = false) := hrow
    have HB : Hid (Below w3.heap.size w3 wr) := hb
    have HZ : Hid (w3.heap.size < wr.heap.size) := hz
    clear hrow hb hz
    by_cases hlt : k < m
    · obtain ⟨x, hx⟩ : ∃ x, (orderOf X r)[k]? = some x := ⟨(orderOf X r)[k]'(by omega), List.getElem?_eq_getElem _⟩
      have hxn := HOr.out.inn x (List.mem_of_getElem? hx)
      unfold isN at hxn
      rw [EL.out] at hxn
      obtain ⟨y, rfl⟩ : ∃ y : Nat, x = y := ⟨x.toNat, by omega⟩
      have hy0 : 0 < y := by omega
      have hy1 : y ≤ ol := by omega
      obtain ⟨b, off, rfl, hc⟩ : ∃ b off, va = some ⟨b, off, none⟩ ∧ wr.cell? ⟨b, off + k, none⟩ = some (.int .i64 (y : Int)) := by
        rcases (HI.out.later HB.out).cells with h0 | ⟨b, off, ha, _, hc⟩
        · omega
        · have := hc k hlt
          rw [List.getD_eq_getElem?_getD, hx] at this
          exact ⟨b, off, ha, this⟩
      have c1 := (HRw.out y hy1).1
      have c2 := (HRw.out y hy1).2
      have hyb : (y : Int) < (ol : Int) + 1 := by omega
      have HX : Hid ((orderOf X r)[k]? = some (y : Int)) := hx
      clear hx
      generalize idxN ((orderOf X r).take k) (y : Int) = q at c1
      go_wp2_with fail
      refine ⟨⟨k + 1, by omega, by go_num, fun j hj => ⟨?_, by rw [World.frozen?_setCell]; exact (HRw.out j hj).2⟩, HB.out.setCell (p := ⟨w3.heap.size, y, none⟩) (Nat.le_refl _) _, by rw [World.size_setCell]; exact HZ.out⟩, by simp [intOf]; omega⟩
      rw [idxN_take HOr.out.nd HX.out]
      by_cases e : j = y
      · subst e
        rw [if_pos rfl, World.cell?_setCell_same wr _ _ (HRw.out j hj).1]
      · rw [if_neg (by omega), World.cell?_setCell_other wr _ _ _ (by intro e'; have := congrArg Addr.off e'; simp at this; omega)]
        exact (HRw.out j hj).1
    · have ek : k = m := by omega
      subst ek
      have HRn : Hid (∀ j, j ≤ ol → wr.cell? ⟨w3.heap.size, j, none⟩ = some (.int .i64 (idxN (orderOf X r) (j : Int)))) := fun j hj => by
        have := (HRw.out j hj).1
        rwa [← hlm, List.take_length] at this
      obtain ⟨w5, rfl⟩ : ∃ w5, w5 = wr := ⟨wr, rfl⟩
      have B5 : Hid (Below w.heap.size w w5) := B3.out.trans (HB.out.mono (by omega))
      have z5 : w3.heap.size < w5.heap.size := HZ.out
      have I5 : Hid (IntsAt (fun b => b < w5.heap.size) w5 va k (orderOf X r)) := (HI.out.later HB.out).mono (fun b _ hb => hb)
      clear HRw HZ
      go_wp2_with fail
      go_loopw [44] (fun t wr => ∃ (i : Nat) (bs : Nat → Nat), i ≤ k ∧ t = .int .i64 i ∧ GrRow wr w5.heap.size k (graphOf X r) i bs ∧ Below w5.heap.size w5 wr ∧ w5.heap.size < wr.heap.size) (fun t _ => k - (intOf t).toNat)
      case atStart => exact ⟨0, _, Nat.zero_le _, rfl, GrRow.made w5 _ k _ _, by go_grown, by simp⟩
      case round =>
        obtain ⟨i, bs, hi, rfl, hrow, hb, hz⟩ := hrel
        have HRw : Hid (GrRow wr w5.heap.size k (graphOf X r) i bs) := hrow
        have HC : Hid (Below w5.heap.size w5 wr) := hb
        have HZ : Hid (w5.heap.size < wr.heap.size) := hz
        have hz1 : w5.heap.size < wr.heap.size + 1 := by omega
        clear hb
        by_cases hlt : i < k
        · obtain ⟨x, hx⟩ : ∃ x, (orderOf X r)[i]? = some x := ⟨(orderOf X r)[i]'(by omega), List.getElem?_eq_getElem _⟩
          have hxn := HOr.out.inn x (List.mem_of_getElem? hx)
          unfold isN at hxn
          rw [EL.out] at hxn
          obtain ⟨y, rfl⟩ : ∃ y : Nat, x = ((y + 1 : Nat) : Int) := ⟨x.toNat - 1, by omega⟩
          have hy1 : y < ol := by omega
          have HGi : Hid ((graphOf X r)[i]? = some ((X.getD y (0, [])).1, (valsOf X ((y + 1 : Nat) : Int)).map (renV (orderOf X r)))) := by
            have := graph_at hx
            show _ = _
            rw [this]
            simp
          have hVl : valsOf X ((y + 1 : Nat) : Int) = (X.getD y (0, [])).2 := by simp [valsOf]
          rw [hVl] at HGi
          obtain ⟨b, off, rfl, hc⟩ : ∃ b off, va = some ⟨b, off, none⟩ ∧ wr.cell? ⟨b, off + i, none⟩ = some (.int .i64 ((y : Int) + 1)) := by
            rcases (I5.out.later HC.out).cells with h0 | ⟨b, off, ha, _, hc⟩
            · omega
            · have := hc i hlt
              rw [List.getD_eq_getElem?_getD, hx] at this
              exact ⟨b, off, ha, by simpa using this⟩
          obtain ⟨⟨p0, ps⟩, hp⟩ : ∃ p, X[y]? = some p := ⟨X[y]'(by rw [EL.out]; exact hy1), List.getElem?_eq_getElem _⟩
          have eD : X.getD y (0, []) = (p0, ps) := by rw [List.getD_eq_getElem?_getD, hp]; rfl
          rw [eD] at HGi hVl
          obtain ⟨b2, off2, rfl, _, vs, hv, hd⟩ := ((H.out.later B5.out).later HC.out).at y _ hp
          obtain ⟨_, _, rfl, ⟨rfl, b0⟩, pa, pl, pc, rfl, hL⟩ := hv
          have d0 : wr.cell? ⟨b2, off2 + y * 2, none⟩ = some (.int .i64 p0) := hd 0 _ rfl
          have d1 : wr.cell? ⟨b2, off2 + y * 2 + 1, none⟩ = some (.slice pa pl pc) := hd 1 _ rfl
          have HL : Hid (SlAt vaR (fun b => b < w.heap.size) wr pa pl ps) := hL
          have hpl : pl ≤ 1048576 := by rw [← hL.size]; exact (SX.out.2 _ (List.mem_of_getElem? hp)).2.1
          have PL : Hid (ps.length = pl) := hL.size
          have HPO : Hid (ps.all (valB ol) = true) := by have := vals_ok OK.out ((y + 1 : Nat) : Int); rw [hVl, EL.out] at this; exact this
          obtain ⟨⟨f0, hf0⟩, g0⟩ := hrow.free (i * 2) (by omega)
          obtain ⟨⟨f1, hf1⟩, g1⟩ := hrow.free (i * 2 + 1) (by omega)
          obtain ⟨A, hA⟩ : ∃ A, A = wr.alloc (.cells #[.int .i64 p0, .slice pa pl pc] 34) := ⟨_, rfl⟩
          have AB : Hid (Below wr.heap.size wr A) := by rw [hA]; exact (Below.refl _ wr).alloc (Nat.le_refl _) _
          have ZA : Hid (A.heap.size = wr.heap.size + 1) := by show _ = _; rw [hA]; simp
          have KA : Hid (∀ x : World, Below A.heap.size A x → x.cell? ⟨wr.heap.size, 0, none⟩ = some (.int .i64 p0) ∧ x.cell? ⟨wr.heap.size, 1, none⟩ = some (.slice pa pl pc)) := fun x hx' =>
            ⟨(hx'.cell (p := ⟨wr.heap.size, 0, none⟩) (by rw [ZA.out]; simp)).trans (by rw [hA]; simp [go_sem]), (hx'.cell (p := ⟨wr.heap.size, 1, none⟩) (by rw [ZA.out]; simp)).trans (by rw [hA]; simp [go_sem])⟩
          have HFR : Hid (wr.cell? ⟨w5.heap.size, i * 2, none⟩ = some f0 ∧ wr.frozen? ⟨w5.heap.size, i * 2, none⟩ = false ∧ wr.cell? ⟨w5.heap.size, i * 2 + 1, none⟩ = some f1 ∧ wr.frozen? ⟨w5.heap.size, i * 2 + 1, none⟩ = false) := ⟨hf0, g0, hf1, g1⟩
          have hk7 : ((y : Int) + 1 - 1) = (y : Int) := by omega
          clear hx hp hd hL hrow hxn eD hVl hf0 g0 hf1 g1
          go_wp2_with fail
          rw [← hA]
          clear hA
          refine wp_region_held_drew (S := fun x => x.cell? ⟨wr.heap.size, 0, none⟩ = some (.int .i64 p0) ∧ x.cell? ⟨wr.heap.size, 1, none⟩ = some (.slice pa pl pc)) (by kernel_rfl) ?_ (fun hHeld => ?_)
          · exact KA.out _ (below_drewN (Below.refl _ _) 1)
          refine wpAnyH_take (i := 0) (v := .slice (some ⟨w5.heap.size, 0, none⟩) k k) rfl (by kernel_rfl) (by kernel_rfl) (by kernel_rfl) (fun _ _ _ h => h) (Or.inl ⟨by kernel_rfl, by (intro x hSx; (try dsimp only at hSx); go_simp)⟩) (by assumption) ?_
          try simp only [Act.put, List.getElem_toArray, List.getElem_cons_zero, List.setIfInBounds_toArray, List.set_cons_zero, List.set_cons_succ]
          refine wpAnyH_take (i := 1) (v := .int .i64 (i : Int)) rfl (by kernel_rfl) (by kernel_rfl) (by kernel_rfl) (fun _ _ _ h => h) (Or.inl ⟨by kernel_rfl, by (intro x hSx; (try dsimp only at hSx); go_simp)⟩) (by assumption) ?_
          try simp only [Act.put, List.getElem_toArray, List.getElem_cons_zero, List.getElem_cons_succ, List.setIfInBounds_toArray, List.set_cons_zero, List.set_cons_succ]
          refine wpAnyH_take (i := 2) (v := .pointer (some ⟨wr.heap.size, 0, none⟩)) rfl (by kernel_rfl) (by kernel_rfl) (by kernel_rfl) (fun _ _ _ h => h) (Or.inl ⟨by kernel_rfl, by (intro x hSx; (try dsimp only at hSx); go_simp)⟩) (by assumption) ?_
          try simp only [Act.put, List.getElem_toArray, List.getElem_cons_zero, List.getElem_cons_succ, List.setIfInBounds_toArray, List.set_cons_zero, List.set_cons_succ]
          refine wpAnyH_take (i := 3) (v := .int .i64 p0) rfl (by kernel_rfl) (by kernel_rfl) (by kernel_rfl) (fun _ _ _ h => h) (Or.inl ⟨by kernel_rfl, by (intro x hSx; (try dsimp only at hSx); go_simp)⟩) (by assumption) ?_
          try simp only [Act.put, List.getElem_toArray, List.getElem_cons_zero, List.getElem_cons_succ, List.setIfInBounds_toArray, List.set_cons_zero, List.set_cons_succ]
          refine wpAnyH_take (i := 4) (v := .pointer (some ⟨wr.heap.size, 1, none⟩)) rfl (by kernel_rfl) (by kernel_rfl) (by kernel_rfl) (fun _ _ _ h => h) (Or.inl ⟨by kernel_rfl, by (intro x hSx; (try dsimp only at hSx); go_simp)⟩) (by assumption) ?_
          try simp only [Act.put, List.getElem_toArray, List.getElem_cons_zero, List.getElem_cons_succ, List.setIfInBounds_toArray, List.set_cons_zero, List.set_cons_succ]
          refine wpAnyH_take (i := 5) (v := .slice pa pl pc) rfl (by kernel_rfl) (by kernel_rfl) (by kernel_rfl) (fun _ _ _ h => h) (Or.inl ⟨by kernel_rfl, by (intro x hSx; (try dsimp only at hSx); go_simp)⟩) (by assumption) ?_
          try simp only [Act.put, List.getElem_toArray, List.getElem_cons_zero, List.getElem_cons_succ, List.setIfInBounds_toArray, List.set_cons_zero, List.set_cons_succ]
          refine wpAnyH_take (i := 6) (v := .slice (some ⟨w3.heap.size, 0, none⟩) (ol + 1) (ol + 1)) rfl (by kernel_rfl) (by kernel_rfl) (by kernel_rfl) (fun _ _ _ h => h) (Or.inl ⟨by kernel_rfl, by (intro x hSx; (try dsimp only at hSx); go_simp)⟩) (by assumption) ?_
          try simp only [Act.put, List.getElem_toArray, List.getElem_cons_zero, List.getElem_cons_succ, List.setIfInBounds_toArray, List.set_cons_zero, List.set_cons_succ]
          refine wpAnyH_ready (rs := [7]) (by kernel_rfl) (by simp) ?_
          refine AllReadyH.cons rfl (fun K hK => ?_) AllReadyH.nil
          go_simp
          go_at_call 17
          have AD : Below wr.heap.size wr (A.drewN 1) := below_drewN AB.out 1
          refine (renumImpl _ _ _ ps w3.heap.size ol (orderOf X r) _ (HL.out.later AD) hpl (by omega) (fun j hj => (AD.cell (p := ⟨w3.heap.size, j, none⟩) (by simp only; omega)).trans ((HC.out.cell (p := ⟨w3.heap.size, j, none⟩) z5).trans (HRn.out j hj))) HPO.out).mono ?_
          rintro e w7 ⟨rfl, hW, hb7, hz7⟩
          have eA : (A.drewN 1).heap.size = A.heap.size := rfl
          rw [eA] at hW hb7 hz7
          have A7 : Hid (Below A.heap.size A w7) := (below_drewN (Below.refl _ _) 1).trans hb7
          have B7 : Hid (Below wr.heap.size wr w7) := AB.out.trans (A7.out.mono AB.out.size)
          obtain ⟨r0, r1, r2, r3⟩ := HFR.out
          have q0 : w7.cell? ⟨w5.heap.size, i * 2, none⟩ = some f0 := (B7.out.cell (p := ⟨w5.heap.size, i * 2, none⟩) HZ.out).trans r0
          have q1 : w7.frozen? ⟨w5.heap.size, i * 2, none⟩ = false := (B7.out.frozen (p := ⟨w5.heap.size, i * 2, none⟩) HZ.out).trans r1
          have q2 : w7.cell? ⟨w5.heap.size, i * 2 + 1, none⟩ = some f1 := (B7.out.cell (p := ⟨w5.heap.size, i * 2 + 1, none⟩) HZ.out).trans r2
          have q3 : w7.frozen? ⟨w5.heap.size, i * 2 + 1, none⟩ = false := (B7.out.frozen (p := ⟨w5.heap.size, i * 2 + 1, none⟩) HZ.out).trans r3
          have HST : Hid (GrRow ((w7.setCell ⟨w5.heap.size, i * 2, none⟩ (.int .i64 p0)).setCell ⟨w5.heap.size, i * 2 + 1, none⟩ (.slice (some ⟨A.heap.size, 0, none⟩) pl pl)) w5.heap.size k (graphOf X r) (i + 1) _) := HRw.out.step HZ.out B7.out hlt HGi.out b0 hW AB.out.size hz7 (by rw [List.length_map]; exact PL.out)
          have HSB : Hid (Below w5.heap.size w5 ((w7.setCell ⟨w5.heap.size, i * 2, none⟩ (.int .i64 p0)).setCell ⟨w5.heap.size, i * 2 + 1, none⟩ (.slice (some ⟨A.heap.size, 0, none⟩) pl pl))) := ((HC.out.trans (B7.out.mono HC.out.size)).setCell (p := ⟨w5.heap.size, i * 2, none⟩) (Nat.le_refl _) _).setCell (p := ⟨w5.heap.size, i * 2 + 1, none⟩) (Nat.le_refl _) _
          have HSZ : Hid (w5.heap.size < ((w7.setCell ⟨w5.heap.size, i * 2, none⟩ (.int .i64 p0)).setCell ⟨w5.heap.size, i * 2 + 1, none⟩ (.slice (some ⟨A.heap.size, 0, none⟩) pl pl)).heap.size) := by have := B7.out.size; show _ < _; simp only [World.size_setCell]; omega
          clear hW hb7 hz7 r0 r1 r2 r3 AD eA
          go_wp2_with fail
          refine hK.out _ _ (KA.out _ A7.out) (fun hHeld2 => ?_)
          clear hK K
          try simp only [Act.put, List.getElem_toArray, List.getElem_cons_zero, List.getElem_cons_succ, List.setIfInBounds_toArray, List.set_cons_zero, List.set_cons_succ]
          refine wpAnyH_take (i := 8) (v := .agg #[.int .i64 p0, .slice (some ⟨A.heap.size, 0, none⟩) pl pl]) rfl (by kernel_rfl) (by kernel_rfl) (by kernel_rfl) (fun _ _ _ h => h) (Or.inl ⟨by kernel_rfl, by (intro x hSx; (try dsimp only at hSx); go_simp)⟩) (by assumption) ?_
          try simp only [Act.put, List.getElem_toArray, List.getElem_cons_zero, List.getElem_cons_succ, List.setIfInBounds_toArray, List.set_cons_zero, List.set_cons_succ]
          refine wpAnyH_take (i := 9) (v := .pointer (some ⟨w5.heap.size, i * 2, none⟩)) rfl (by kernel_rfl) (by kernel_rfl) (by kernel_rfl) (fun _ _ _ h => h) (Or.inl ⟨by kernel_rfl, by (intro x hSx; (try dsimp only at hSx); go_simp)⟩) (by assumption) ?_
          try simp only [Act.put, List.getElem_toArray, List.getElem_cons_zero, List.getElem_cons_succ, List.setIfInBounds_toArray, List.set_cons_zero, List.set_cons_succ]
          refine wpAnyH_ready (rs := [10]) (by kernel_rfl) (by simp) ?_
          refine AllReadyH.cons rfl (fun K hK => ?_) AllReadyH.nil
          go_simp
          refine hK.out _ _ ?_ (fun hHeld3 => ?_)
          · obtain ⟨s1, s2⟩ := KA.out w7 A7.out
            exact ⟨by rw [World.cell?_setCell_other _ _ _ _ (by intro e; have := congrArg Addr.block e; simp at this; omega), World.cell?_setCell_other _ _ _ _ (by intro e; have := congrArg Addr.block e; simp at this; omega)]; exact s1, by rw [World.cell?_setCell_other _ _ _ _ (by intro e; have := congrArg Addr.block e; simp at this; omega), World.cell?_setCell_other _ _ _ _ (by intro e; have := congrArg Addr.block e; simp at this; omega)]; exact s2⟩
          clear hK K
          try simp only [Act.put, List.getElem_toArray, List.getElem_cons_zero, List.getElem_cons_succ, List.setIfInBounds_toArray, List.set_cons_zero, List.set_cons_succ]
          refine wpAnyH_done (by kernel_rfl) ?_ _
          clear hHeld hHeld2 hHeld3
          go_wp2_with fail
          refine ⟨⟨i + 1, _, by omega, by go_num, HST.out, HSB.out, HSZ.out⟩, by simp [intOf]; omega⟩
        · have ei : i = k := by omega
          subst ei
          clear hrow
          have hHr : Hid (∀ j, j ≤ ol → wr.cell? ⟨w3.heap.size, j, none⟩ = some (.int .i64 (idxN (orderOf X r) (j : Int)))) := fun j hj => (HC.out.cell (p := ⟨w3.heap.size, j, none⟩) z5).trans (HRn.out j hj)
          have HRO : Hid (r.all (valB ol) = true) := by have := roots_ok OK.out; rw [EL.out] at this; exact this
          go_wp2_with fail
          refine (renumImpl _ _ _ r w3.heap.size ol (orderOf X r) _ ((G.out.later B5.out).later HC.out) hrl (by omega) hHr.out HRO.out).mono ?_
          rintro e w7 ⟨rfl, hW, hb, hz7⟩
          have HW : Hid (WrV w7 wr.heap.size (rootsOf X r)) := hW
          have HB7 : Hid (Below wr.heap.size wr w7) := hb
          clear hW hb
          go_wp2_with fail
          go_ret2
          have gl : (graphOf X r).length = i := by rw [graph_len, hlm]
          have rl' : (rootsOf X r).length = rl := by rw [rootsOf, List.length_map, RL.out]
          have B7 : Below w.heap.size w w7 := B5.out.trans ((HC.out.trans (HB7.out.mono HC.out.size)).mono B5.out.size)
          refine ⟨B7, .inr ⟨OK.out, w5.heap.size, wr.heap.size, bs, ?_, ?_, HW.out, by omega, HZ.out, hz7, fun j hj => ?_⟩⟩
          · rw [gl, rl']; rfl
          · rw [gl]
            exact HRw.out.later HZ.out HB7.out
          · rw [gl] at hj
            exact (HRw.out.gt j hj).2

end Go.Proofs.Ytacapffmdmpnkaa
