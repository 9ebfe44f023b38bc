/-
  Whether an instruction is ok, of the specification: fields, calls, what is sent, and what is no instruction.
-/
import Derived.Test.YthdlccadcadopaaGreatInsSpec
import Derived.Deep.RegionHeld3
namespace Go.Proofs.YthdlccadcadopaaGreat
open Go.ChangeShapes Go.WideShapes Go.ChangeAt Go.RowKit

theorem meOf {D : Nat → Prop} {w : World} {a : Option Addr} {len : Nat} {M : List Me} (h : SlAt meR D w a len M) (i : Nat) (hi : i < len) :
    ∃ b off, a = some ⟨b, off, none⟩ ∧ D b ∧ ∃ aa al ac da dl dc sa sl sc ha hl hc,
      w.cell? ⟨b, off + i * 8, none⟩ = some (.int .i64 (me M i).1) ∧ w.cell? ⟨b, off + i * 8 + 1, none⟩ = some (.int .i64 (me M i).2.1) ∧ w.cell? ⟨b, off + i * 8 + 2, none⟩ = some (.slice aa al ac) ∧
      w.cell? ⟨b, off + i * 8 + 3, none⟩ = some (.int .i64 (me M i).2.2.2.1) ∧ w.cell? ⟨b, off + i * 8 + 4, none⟩ = some (.int .i64 (me M i).2.2.2.2.1) ∧ w.cell? ⟨b, off + i * 8 + 5, none⟩ = some (.slice da dl dc) ∧
      w.cell? ⟨b, off + i * 8 + 6, none⟩ = some (.slice sa sl sc) ∧ w.cell? ⟨b, off + i * 8 + 7, none⟩ = some (.slice ha hl hc) ∧
      SlAt intR D w aa al (me M i).2.2.1 ∧ SlAt inR D w da dl (me M i).2.2.2.2.2.1 ∧ SlAt shR D w sa sl (me M i).2.2.2.2.2.2.1 ∧ SlAt caR D w ha hl (me M i).2.2.2.2.2.2.2 ∧
      i64B (me M i).1 ∧ i64B (me M i).2.1 ∧ i64B (me M i).2.2.2.1 ∧ i64B (me M i).2.2.2.2.1 := by
  have hs := h.size
  have hx : M[i]? = some (me M i) := by
    unfold me
    rw [List.getD_eq_getElem?_getD, List.getElem?_eq_getElem (by omega)]; rfl
  obtain ⟨b, off, ha, hd, vs, hv, hc⟩ := h.at i _ hx
  generalize me M i = x at *
  obtain ⟨x0, x1, xs2, x3, x4, xs5, xs6, xs7⟩ := x
  obtain ⟨_, _, rfl, ⟨rfl, b0⟩, _, _, rfl, ⟨rfl, b1⟩, _, _, rfl, ⟨aa, al, ac, rfl, h2⟩, _, _, rfl, ⟨rfl, b3⟩, _, _, rfl, ⟨rfl, b4⟩, _, _, rfl, ⟨da, dl, dc, rfl, h5⟩, _, _, rfl, ⟨sa, sl, sc, rfl, h6⟩, ⟨ha', hl, hcc, rfl, h7⟩⟩ := hv
  exact ⟨b, off, ha, hd, aa, al, ac, da, dl, dc, sa, sl, sc, ha', hl, hcc, hc 0 _ rfl, hc 1 _ rfl, hc 2 _ rfl, hc 3 _ rfl, hc 4 _ rfl, hc 5 _ rfl, hc 6 _ rfl, hc 7 _ rfl, h2, h5, h6, h7, b0, b1, b3, b4⟩

theorem own_slice {w : World} {base : Nat} {e : TypeId} {size n : Nat} {v : Value} {xs : List Value} (h : w.ownsRow base e size v n xs) : ∃ a c, v = .slice a n c := by
  rcases h.2 with ⟨rfl, rfl⟩ | ⟨g, cap, cur, rfl, _⟩
  · exact ⟨_, _, rfl⟩
  · exact ⟨_, _, rfl⟩
theorem al3 {w : World} {a b : Obj} {cs : Array Value} {t : TypeId} {j : Nat} {v : Value} (hv : cs[j]? = some v) : (((w.alloc a).alloc b).alloc (.cells cs t)).drew.cell? ⟨w.heap.size + 1 + 1, j, none⟩ = some v := by
  show (((w.alloc a).alloc b).alloc (.cells cs t)).cell? ⟨w.heap.size + 1 + 1, j, none⟩ = some v
  rw [World.cell?_alloc_at _ _ _ _ (by simp)]
  exact hv
theorem al3c {w : World} {a b : Obj} {cs : Array Value} {t : TypeId} {j : Nat} {v : Value} (hv : cs[j]? = some v) : (((w.alloc (.cells cs t)).alloc a).alloc b).drew.cell? ⟨w.heap.size, j, none⟩ = some v := by
  show (((w.alloc (.cells cs t)).alloc a).alloc b).cell? ⟨w.heap.size, j, none⟩ = some v
  rw [World.cell?_alloc_past _ _ _ (by simp; omega), World.cell?_alloc_past _ _ _ (by simp), World.cell?_alloc_at _ _ _ _ rfl]
  exact hv
theorem inI_nat {x : Int} {n : Nat} (h : inI x 0 ((n : Int) - 1) = true) : ∃ m : Nat, x = m ∧ m < n := by
  unfold inI at h
  simp at h
  exact ⟨x.toNat, by omega, by omega⟩

set_option maxRecDepth 100000 in
set_option maxHeartbeats 8000000 in
theorem insSpecB (ca : Option Addr) (cn cc : Nat) (ma : Option Addr) (mn mc : Nat) (c s o lo : Int) (aa : Option Addr) (al ac : Nat) (da : Option Addr) (dl dc : Nat) (sa : Option Addr) (sl sc : Nat) (ha : Option Addr) (hl hc : Nat) (k a b : Int)
    (L : List Cl) (M : List Me) (w : World) {D E G : Nat → Prop} (h : ClsAt D E w ca cn L) (ok : clsOk L = true) (hM : SlAt meR G w ma mn M)
    (hkk : ¬ (k = 1 ∨ k = 2 ∨ k = 5 ∨ k = 6 ∨ k = 14 ∨ k = 22 ∨ k = 23 ∨ k = 24 ∨ k = 3 ∨ k = 4 ∨ k = 7 ∨ k = 8 ∨ k = 9 ∨ k = 10 ∨ k = 11 ∨ k = 12 ∨ k = 19 ∨ k = 13 ∨ k = 15 ∨ k = 16)) :
    Calls Tryz.prog 106 #[.agg #[.slice ca cn cc, .slice ma mn mc], .agg #[.int .i64 c, .int .i64 s, .slice aa al ac, .int .i64 o, .int .i64 lo, .slice da dl dc, .slice sa sl sc, .slice ha hl hc], .agg #[.int .i64 k, .int .i64 a, .int .i64 b]] w
      fun e w' => e = .returned (.bool (insB L M lo dl (k, a, b))) ∧ Below w.heap.size w w' := by
  have H : Hid (ClsAt D E w ca cn L) := h
  have OK : Hid (clsOk L = true) := ok
  have HS : Hid (L.length = cn) := h.size
  have hl5 := (ok_len ok).2
  rw [h.size] at hl5
  have HMS : Hid (M.length = mn) := hM.size
  have hmr := hM.room
  have HM : Hid (SlAt meR G w ma mn M) := hM
  clear h ok hM
  by_cases hk21 : k = 21
  · subst hk21
    have HF : Hid (insB L M lo dl (21, a, b) = (inI a 0 ((cn : Int) - 1) && inI b 0 2)) := by show _ = _; simp only [insB, HS.out]; rfl
    cases hC : inI a 0 ((cn : Int) - 1)
    · go_enter Tryz.func106, Tryz.ntmps106
      go_wp2_with fail
      refine (inSpec' _ _ _ _ hC _).mono ?_
      rintro e w' ⟨rfl, rfl⟩
      go_wp2_with fail
      go_ret
      exact ⟨by rw [HF.out, hC]; rfl, by go_grown⟩
    · go_enter Tryz.func106, Tryz.ntmps106
      go_wp2_with fail
      refine (inSpec' _ _ _ _ hC _).mono ?_
      rintro e w' ⟨rfl, rfl⟩
      go_wp2_with fail
      refine (inSpec' _ _ _ _ rfl _).mono ?_
      rintro e w' ⟨rfl, rfl⟩
      go_wp2_with fail
      go_ret
      exact ⟨by rw [HF.out, hC]; rfl, by go_grown⟩
  by_cases hk20 : k = 20
  · subst hk20
    have HF : Hid (insB L M lo dl (20, a, b) = ((inI a 0 ((mn : Int) - 1) && (b == 0)) && ((me M a.toNat).1 == -1))) := by show _ = _; simp only [insB, HMS.out]; rfl
    cases hA : inI a 0 ((mn : Int) - 1)
    · go_enter Tryz.func106, Tryz.ntmps106
      go_wp2_with fail
      refine (inSpec' _ _ _ _ rfl _).mono ?_
      rintro e w' ⟨rfl, rfl⟩
      go_wp2_with fail
      refine (inSpec' _ _ _ _ hA _).mono ?_
      rintro e w' ⟨rfl, rfl⟩
      go_wp2_with fail
      go_ret
      exact ⟨by rw [HF.out, hA]; rfl, by go_grown⟩
    · cases hB : (b == 0)
      · go_enter Tryz.func106, Tryz.ntmps106
        go_wp2_with fail
        refine (inSpec' _ _ _ _ rfl _).mono ?_
        rintro e w' ⟨rfl, rfl⟩
        go_wp2_with fail
        refine (inSpec' _ _ _ _ hA _).mono ?_
        rintro e w' ⟨rfl, rfl⟩
        go_wp2_with fail
        go_ret
        exact ⟨by rw [HF.out, hA, hB]; rfl, by go_grown⟩
      · obtain ⟨m, rfl, hm⟩ := inI_nat hA
        obtain ⟨mb, mo, rfl, _, _, _, _, _, _, _, _, _, _, _, _, _, hc0, _⟩ := meOf HM.out m hm
        have hbl := World.block_lt_of_cell? w _ hc0
        simp only at hbl
        have hbl1 : mb < w.heap.size + 1 := by omega
        have hbl2 : mb < w.heap.size + 1 + 1 := by omega
        have HG : Hid (insB L M lo dl (20, (m : Int), b) = ((me M m).1 == -1)) := by show _ = _; rw [HF.out, hA, hB]; rfl
        generalize (me M m).1 = z at hc0 HG
        clear HF
        go_enter Tryz.func106, Tryz.ntmps106
        go_wp2_with fail
        refine (inSpec' _ _ _ _ rfl _).mono ?_
        rintro e w' ⟨rfl, rfl⟩
        go_wp2_with fail
        refine (inSpec' _ _ _ _ hA _).mono ?_
        rintro e w' ⟨rfl, rfl⟩
        go_wp2_with fail
        go_ret
        exact ⟨by rw [HG.out]; rfl, by go_grown⟩
  by_cases hk17 : k = 17 ∨ k = 18
  · have HF : Hid (insB L M lo dl (k, a, b) = (inI a 0 ((cn : Int) - 1) && inI b 0 (((fld L a.toNat).length : Int) - 1))) := by
      show _ = _
      rcases hk17 with rfl | rfl
      · simp only [insB, HS.out]; rfl
      · simp only [insB, HS.out]; rfl
    cases hC : inI a 0 ((cn : Int) - 1)
    · rcases hk17 with rfl | rfl
      all_goals
        go_enter Tryz.func106, Tryz.ntmps106
        go_wp2_with fail
        refine (inSpec' _ _ _ _ hC _).mono ?_
        rintro e w' ⟨rfl, rfl⟩
        go_wp2_with fail
        go_quiet (fail)
        go_wp2_with fail
        go_ret
        exact ⟨by rw [HF.out, hC]; rfl, below_drewN (by go_grown) _⟩
    · obtain ⟨m, rfl, hm⟩ := inI_nat hC
      have HG : Hid (insB L M lo dl (k, (m : Int), b) = inI b 0 (((fld L m).length : Int) - 1)) := by show _ = _; rw [HF.out, hC]; rfl
      have hfs := fld_short OK.out m (by rw [HS.out]; exact hm)
      have hwr : Hid (IntKind.i64.wrap (((fld L m).length : Int) - 1) = ((fld L m).length : Int) - 1) := by
        show _ = _
        simp only [IntKind.wrap, IntKind.bits, IntKind.signed, Bool.true_and, decide_eq_true_eq, ge_iff_le]
        split <;> omega
      clear HF
      rcases hk17 with rfl | rfl
      all_goals
        go_enter Tryz.func106, Tryz.ntmps106
        go_wp2_with fail
        refine (inSpec' _ _ _ _ hC _).mono ?_
        rintro e w' ⟨rfl, rfl⟩
        go_wp2_with fail
        go_region_held3 (fun w' => w'.cell? ⟨w.heap.size, 0, none⟩ = some (.slice ca cn cc) ∧ w'.cell? ⟨w.heap.size + 1 + 1, 1, none⟩ = some (.int .i64 m) ∧ w'.cell? ⟨w.heap.size + 1 + 1, 2, none⟩ = some (.int .i64 b)) (first | exact ⟨al3c rfl, al3 rfl, al3 rfl⟩ | exact ⟨(q0 0).trans (al3c rfl), (q1 1).trans (al3 rfl), (q1 2).trans (al3 rfl)⟩ | go_keep) (first | (go_at_call 79; refine (l2FieldsSpec _ _ _ L OK.out HS.out m _ hm (H.out.later (by go_grown))).mono ?_; rintro e w1 ⟨v, rfl, own1, hb1⟩; obtain ⟨va, vc, rfl⟩ := own_slice own1; have q0 : ∀ o, w1.cell? ⟨w.heap.size, o, none⟩ = _ := fun o => hb1.cell (p := ⟨w.heap.size, o, none⟩) (by go_size); have q1 : ∀ o, w1.cell? ⟨w.heap.size + 1 + 1, o, none⟩ = _ := fun o => hb1.cell (p := ⟨w.heap.size + 1 + 1, o, none⟩) (by go_size); have B1 : Hid (Below w.heap.size w w1) := Below.trans (by go_grown) (hb1.mono (by go_size)); clear own1 hb1) | (go_at_call 44; refine (inSpec' _ _ _ _ rfl _).mono ?_; rintro e w2 ⟨rfl, rfl⟩))
        all_goals
          go_wp2_with fail
          go_ret
          exact ⟨by rw [HG.out]; exact congrArg (fun z => Ending.returned (.bool (inI b 0 z))) hwr.out, B1.out⟩
  have HF : Hid (insB L M lo dl (k, a, b) = false) := by
    show _ = _
    unfold insB
    simp only
    rw [if_neg (by omega), if_neg (by omega), if_neg (by omega), if_neg (by omega), if_neg (by omega), if_neg (by omega), if_neg (by omega), if_neg (by omega), if_neg (by omega), if_neg (by omega)]
  have n1 : ∀ z : Int, k ≠ z → (k == z) = false := fun z h => by simp [h]
  have e1 := n1 1 (by omega)
  have e2 := n1 2 (by omega)
  have e3 := n1 3 (by omega)
  have e4 := n1 4 (by omega)
  have e5 := n1 5 (by omega)
  have e6 := n1 6 (by omega)
  have e7 := n1 7 (by omega)
  have e8 := n1 8 (by omega)
  have e9 := n1 9 (by omega)
  have e10 := n1 10 (by omega)
  have e11 := n1 11 (by omega)
  have e12 := n1 12 (by omega)
  have e13 := n1 13 (by omega)
  have e14 := n1 14 (by omega)
  have e15 := n1 15 (by omega)
  have e16 := n1 16 (by omega)
  have e17 := n1 17 (by omega)
  have e18 := n1 18 (by omega)
  have e19 := n1 19 (by omega)
  have e20 := n1 20 (by omega)
  have e21 := n1 21 (by omega)
  have e22 := n1 22 (by omega)
  have e23 := n1 23 (by omega)
  have e24 := n1 24 (by omega)
  clear n1 hkk hk17 hk20 hk21
  go_enter Tryz.func106, Tryz.ntmps106
  go_wp2_with fail
  refine (inSpec' _ _ _ _ rfl _).mono ?_
  rintro e w' ⟨rfl, rfl⟩
  go_wp2_with fail
  go_ret
  exact ⟨by rw [HF.out]; rfl, by go_grown⟩

theorem insSpec (ca : Option Addr) (cn cc : Nat) (ma : Option Addr) (mn mc : Nat) (c s o lo : Int) (aa : Option Addr) (al ac : Nat) (da : Option Addr) (dl dc : Nat) (sa : Option Addr) (sl sc : Nat) (ha : Option Addr) (hl hc : Nat) (k a b : Int)
    (L : List Cl) (M : List Me) (w : World) {D E G : Nat → Prop} (h : ClsAt D E w ca cn L) (ok : clsOk L = true) (hM : SlAt meR G w ma mn M) (lo0 : 0 ≤ lo) (lo3 : lo ≤ 3) (dl0 : dl ≤ 1000000000000) :
    Calls Tryz.prog 106 #[.agg #[.slice ca cn cc, .slice ma mn mc], .agg #[.int .i64 c, .int .i64 s, .slice aa al ac, .int .i64 o, .int .i64 lo, .slice da dl dc, .slice sa sl sc, .slice ha hl hc], .agg #[.int .i64 k, .int .i64 a, .int .i64 b]] w
      fun e w' => e = .returned (.bool (insB L M lo dl (k, a, b))) ∧ Below w.heap.size w w' := by
  by_cases hkk : k = 1 ∨ k = 2 ∨ k = 5 ∨ k = 6 ∨ k = 14 ∨ k = 22 ∨ k = 23 ∨ k = 24 ∨ k = 3 ∨ k = 4 ∨ k = 7 ∨ k = 8 ∨ k = 9 ∨ k = 10 ∨ k = 11 ∨ k = 12 ∨ k = 19 ∨ k = 13 ∨ k = 15 ∨ k = 16
  · exact insSpecA ca cn cc ma mn mc c s o lo aa al ac da dl dc sa sl sc ha hl hc k a b L M w h ok hM lo0 lo3 dl0 hkk
  · exact insSpecB ca cn cc ma mn mc c s o lo aa al ac da dl dc sa sl sc ha hl hc k a b L M w h ok hM hkk

end Go.Proofs.YthdlccadcadopaaGreat
