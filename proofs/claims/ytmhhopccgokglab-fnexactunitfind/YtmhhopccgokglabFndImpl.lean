/-
  Which method a class answers with: that the program says so, in whatever memory; it writes nothing that was there.
-/
import Derived.Test.YtmhhopccgokglabUniH
import Derived.Test.YtmhhopccgokglabFndSpec
namespace Go.Proofs.Ytmhhopccgokglab
open Go.ChangeShapes Go.WideShapes Go.ChangeAt Go.RowKit

theorem isImpl (xc xs xo xlo : Int) (xaa : Option Addr) (xal xac : Nat) (xda : Option Addr) (xdl xdc : Nat) (xsa : Option Addr) (xsl xsc : Nat) (xha : Option Addr) (xhl xhc : Nat) (c s : Int) (b1 b2 : Nat) (w : World) (h1 : w.cell? ⟨b1, 0, none⟩ = some (.int .i64 c)) (h2 : w.cell? ⟨b2, 0, none⟩ = some (.int .i64 s)) :
    Calls Try.prog 55 #[.agg #[.int .i64 xc, .int .i64 xs, .slice xaa xal xac, .int .i64 xo, .int .i64 xlo, .slice xda xdl xdc, .slice xsa xsl xsc, .slice xha xhl xhc], .pointer (some ⟨b1, 0, none⟩), .pointer (some ⟨b2, 0, none⟩)] w fun e w' => e = .returned (.bool ((xc == c) && (xs == s))) ∧ Below w.heap.size w w' := by
  have hb1 := World.block_lt_of_cell? w _ h1
  have hb2 := World.block_lt_of_cell? w _ h2
  simp only at hb1 hb2
  cases g1 : (xc == c)
  · go_enter Try.func55, Try.ntmps55
    go_wp2_with fail
    go_ret
    exact ⟨rfl, by go_grown⟩
  · go_enter Try.func55, Try.ntmps55
    go_wp2_with fail
    go_ret
    exact ⟨rfl, by go_grown⟩

set_option maxRecDepth 100000 in
set_option maxHeartbeats 4000000 in
theorem indexFuncImpl (ma : Option Addr) (mn mc : Nat) (c s : Int) (b1 b2 : Nat) (M : List Me) (w : World) {G : Nat → Prop} (hM : SlAt meR G w ma mn M) (h1 : w.cell? ⟨b1, 0, none⟩ = some (.int .i64 c)) (h2 : w.cell? ⟨b2, 0, none⟩ = some (.int .i64 s)) :
    Calls Try.prog 54 #[.slice ma mn mc, .func (.func 55) #[] #[.pointer (some ⟨b1, 0, none⟩), .pointer (some ⟨b2, 0, none⟩)]] w fun e w' => e = .returned (.int .i64 (ownI M c s)) ∧ Below w.heap.size w w' := by
  have HM : Hid (SlAt meR G w ma mn M) := hM
  have MS : Hid (M.length = mn) := hM.size
  have hmr := hM.room
  obtain ⟨mb, mo, hmb⟩ := meBlock hM
  have K1 : Hid (∀ x, Below w.heap.size w x → x.cell? ⟨b1, 0, none⟩ = some (.int .i64 c)) := fun x hx => by rw [hx.cell (p := ⟨b1, 0, none⟩) (World.block_lt_of_cell? w _ h1)]; exact h1
  have K2 : Hid (∀ x, Below w.heap.size w x → x.cell? ⟨b2, 0, none⟩ = some (.int .i64 s)) := fun x hx => by rw [hx.cell (p := ⟨b2, 0, none⟩) (World.block_lt_of_cell? w _ h2)]; exact h2
  clear hM h1 h2
  go_enter Try.func54, Try.ntmps54
  go_wp2_with fail
  go_loopw [8] (fun t wr => ∃ i : Nat, i ≤ mn ∧ t = .int .i64 i ∧ (∀ j, j < i → isM (me M j) c s = false) ∧ Below w.heap.size w wr) (fun t _ => mn - (intOf t).toNat)
  case atStart => exact ⟨0, Nat.zero_le _, rfl, by omega, Below.refl _ _⟩
  case round =>
    obtain ⟨i, hi, rfl, hv, hb⟩ := hrel
    have HV : Hid (∀ j, j < i → isM (me M j) c s = false) := hv
    have HB : Hid (Below w.heap.size w wr) := hb
    clear hv hb
    by_cases hlt : i < mn
    · obtain ⟨rfl, hmb'⟩ := hmb (by omega)
      clear hmb
      obtain ⟨xc, xs, xargs, xo, xlo, xX, xY, xZ, xaa, xal, xac, xda, xdl, xdc, xsa, xsl, xsc, xha, xhl, xhc, MX, x0, x1, x2, x3, x4, x5, x6, x7⟩ := meAt (HM.out.later HB.out) i hlt
      have HE : Hid (isM (me M i) c s = ((xc == c) && (xs == s))) := by show _ = _; rw [MX.is, isM]
      clear MX
      have hltI : (i : Int) < (mn : Int) := by omega
      go_wp2_with fail
      refine (isImpl _ _ _ _ _ _ _ _ _ _ _ _ _ _ _ _ c s b1 b2 _ (K1.out _ HB.out) (K2.out _ HB.out)).mono ?_
      rintro e w2 ⟨rfl, hb2⟩
      have B2 : Hid (Below w.heap.size w w2) := HB.out.trans (hb2.mono HB.out.size)
      clear hb2
      cases g1 : ((xc == c) && (xs == s))
      · go_wp2_with fail
        refine ⟨⟨i + 1, by omega, by go_num, fun j hj => ?_, B2.out⟩, by simp [intOf]; omega⟩
        by_cases e : j = i
        · subst e; rw [HE.out, g1]
        · exact HV.out j (by omega)
      · have HO : Hid (ownI M c s = i) := by show _ = _; rw [ownI, MS.out]; exact ownN_at hlt HV.out (by rw [HE.out, g1])
        go_wp2_with fail
        go_ret
        exact ⟨by rw [HO.out]; rfl, B2.out⟩
    · have ei : i = mn := by omega
      subst ei
      have HO : Hid (ownI M c s = -1) := by show _ = _; rw [ownI, MS.out]; exact ownN_neg HV.out
      go_wp2_with fail
      go_ret
      exact ⟨by rw [HO.out]; rfl, HB.out⟩

set_option maxRecDepth 100000 in
theorem ownImpl (ma : Option Addr) (mn mc : Nat) (c s : Int) (M : List Me) (w : World) {G : Nat → Prop} (hM : SlAt meR G w ma mn M) :
    Calls Try.prog 32 #[.slice ma mn mc, .int .i64 c, .int .i64 s] w fun e w' => e = .returned (.int .i64 (ownI M c s)) ∧ Below w.heap.size w w' := by
  have hmf : ∀ (fn : Fn) (first cap : Array Value) (w : World), (Instr.makeFunc fn first cap).run Try.prog w = .ok (.func fn first cap) w := fun _ _ _ _ => rfl
  have B0 : Hid (Below w.heap.size w ((w.alloc (.cells #[.int .i64 c] 3)).alloc (.cells #[.int .i64 s] 3))) := ((Below.refl _ _).alloc (Nat.le_refl _) _).alloc (by simp) _
  have HM : Hid (SlAt meR G ((w.alloc (.cells #[.int .i64 c] 3)).alloc (.cells #[.int .i64 s] 3)) ma mn M) := hM.later B0.out
  clear hM
  go_enter Try.func32, Try.ntmps32
  go_wp2_with fail
  refine (indexFuncImpl _ _ _ c s _ _ M _ HM.out (two_first rfl) (two_second rfl)).mono ?_
  rintro e w2 ⟨rfl, hb2⟩
  have B2 : Hid (Below w.heap.size w w2) := B0.out.trans (hb2.mono B0.out.size)
  clear hb2
  go_wp2_with fail
  go_ret
  exact ⟨rfl, B2.out⟩

set_option maxRecDepth 100000 in
set_option maxHeartbeats 4000000 in
theorem findMethodImpl (ca : Option Addr) (cn cc : Nat) (ma : Option Addr) (mn mc m0 : Nat) (s : Int) (L : List Cl) (M : List Me) (w : World) {D E G : Nat → Prop} (h : ClsAt D E w ca cn L) (hM : SlAt meR G w ma mn M) (ok : clsOk L = true) (hm0 : m0 < cn) :
    Calls Try.prog 18 #[.agg #[.slice ca cn cc, .slice ma mn mc], .int .i64 m0, .int .i64 s] w fun e w' => e = .returned (.int .i64 (find L M m0 s)) ∧ Below w.heap.size w w' := by
  have H : Hid (ClsAt D E w ca cn L) := h
  have HS : Hid (L.length = cn) := h.size
  have hcr := h.room
  have HM : Hid (SlAt meR G w ma mn M) := hM
  have KC : Hid (∀ x : World, Below (w.heap.size + 1) (w.alloc (.cells #[.slice ca cn cc, .slice ma mn mc] 31)) x → x.cell? ⟨w.heap.size, 0, none⟩ = some (.slice ca cn cc) ∧ x.cell? ⟨w.heap.size, 1, none⟩ = some (.slice ma mn mc)) := fun x hb => ⟨box_cell hb 0 _ rfl, box_cell hb 1 _ rfl⟩
  have B0 : Hid (Below w.heap.size w (w.alloc (.cells #[.slice ca cn cc, .slice ma mn mc] 31))) := (Below.refl _ _).alloc (Nat.le_refl _) _
  obtain ⟨b, off, hcb, hcell⟩ : ∃ b off, (0 < cn → ca = some ⟨b, off, none⟩) ∧ ∀ i, i < cn → w.cell? ⟨b, off + i * 2, none⟩ = some (.int .i64 (cl L i).1) := by
    rcases h.cells with h0 | ⟨b, off, ha, _, hc⟩
    · exact ⟨0, 0, by omega, by omega⟩
    · exact ⟨b, off, fun _ => ha, fun i hi => (hc i hi).1⟩
  have HC : Hid (∀ i, i < cn → w.cell? ⟨b, off + i * 2, none⟩ = some (.int .i64 (cl L i).1)) := hcell
  have OK : Hid (clsOk L = true) := ok
  have hl5 := (ok_len OK.out).2
  rw [HS.out] at hl5
  have hca := hcb (by omega)
  subst hca
  clear h hM hcell hcb ok
  go_enter Try.func18, Try.ntmps18
  go_wp2_with fail
  go_loopw [7] (fun t wr => ((t = .int .i64 (-1) ∧ find L M m0 s = -1) ∨ ∃ m : Nat, m < cn ∧ t = .int .i64 m ∧ find L M m s = find L M m0 s) ∧ Below (w.heap.size + 1) (w.alloc (.cells #[.slice (some ⟨b, off, none⟩) cn cc, .slice ma mn mc] 31)) wr) (fun t _ => (intOf t + 1).toNat)
  case atStart => exact ⟨.inr ⟨m0, hm0, rfl, rfl⟩, Below.refl _ _⟩
  case round =>
    obtain ⟨hr, hb⟩ := hrel
    have HB : Hid (Below (w.heap.size + 1) (w.alloc (.cells #[.slice (some ⟨b, off, none⟩) cn cc, .slice ma mn mc] 31)) wr) := hb
    clear hb
    rcases hr with ⟨rfl, hu⟩ | ⟨m, hm, rfl, hu⟩
    · have HU : Hid (find L M m0 s = -1) := hu
      clear hu
      have e3 : ((-1 : Int) != -1) = false := by decide
      go_wp2_with fail
      go_ret
      exact ⟨by rw [HU.out]; rfl, box_below HB.out⟩
    have HU : Hid (find L M m s = find L M m0 s) := hu
    clear hu
    obtain ⟨p0, p1⟩ := KC.out wr HB.out
    have e3 : ((m : Int) != -1) = true := by simp <;> omega
    go_wp2_with fail
    refine (ownImpl _ _ _ m s M _ (HM.out.later (box_below HB.out))).mono ?_
    rintro e w2 ⟨rfl, hb2⟩
    have B2 : Hid (Below (w.heap.size + 1) (w.alloc (.cells #[.slice (some ⟨b, off, none⟩) cn cc, .slice ma mn mc] 31)) w2) := HB.out.trans (hb2.mono (by have := HB.out.size; simpa using this))
    clear hb2 p0 p1
    obtain ⟨p0, p1⟩ := KC.out w2 B2.out
    by_cases h1 : 0 ≤ ownI M m s
    · have HO : Hid (find L M m0 s = ownI M m s) := by show _ = _; rw [← HU.out, find_stop h1]
      generalize ownI M m s = r at h1 HO ⊢
      go_wp2_with fail
      go_ret
      exact ⟨by rw [HO.out]; rfl, box_below B2.out⟩
    have HO : Hid (¬ 0 ≤ ownI M m s) := h1
    have HO2 : Hid (ownI M m s = -1) := by
      rcases ownN_cases M m s M.length with h2 | h2
      · exact absurd h2 h1
      · exact h2
    have hcm : w2.cell? ⟨b, off + m * 2, none⟩ = some (.int .i64 (cl L m).1) := later1 B2.out (HC.out m hm)
    rw [HO2.out]
    clear h1
    by_cases h0 : m = 0
    · subst h0
      have Hr : Hid ((cl L 0).1 = -1) := root_sup OK.out
      rw [Hr.out] at hcm
      simp only [Nat.zero_mul, Nat.add_zero] at hcm
      have HN : Hid (find L M m0 s = -1) := by show _ = _; rw [← HU.out, find_root]; exact HO2.out
      go_wp2_with fail
      exact ⟨⟨.inl ⟨rfl, HN.out⟩, B2.out⟩, by simp [intOf]⟩
    · have hs := sup_lt OK.out m (by omega) (by rw [HS.out]; exact hm)
      have hs1 := hs.1
      rw [hs.2] at hcm
      have HN : Hid (find L M (sup L m) s = find L M m0 s) := by
        show _ = _
        rw [← HU.out]
        exact (find_step OK.out (by omega) (by rw [HS.out]; exact hm) HO.out).symm
      clear hs
      go_wp2_with fail
      exact ⟨⟨.inr ⟨sup L m, by omega, rfl, HN.out⟩, B2.out⟩, by simp [intOf]; omega⟩

set_option maxRecDepth 100000 in
set_option maxHeartbeats 4000000 in
theorem unitFindImpl (ca : Option Addr) (cn cc : Nat) (ma : Option Addr) (mn mc : Nat) (c s : Int) (L : List Cl) (M : List Me) (w : World) {D E G : Nat → Prop} (h : ClsAt D E w ca cn L) (hM : SlAt meR G w ma mn M) (hmc : mn ≤ mc) :
    Calls Try.prog 7 #[.agg #[.slice ca cn cc, .slice ma mn mc], .int .i64 c, .int .i64 s] w fun e w' => e = .returned (.int .i64 (findV L M c s)) ∧ Below w.heap.size w w' := by
  have H : Hid (ClsAt D E w ca cn L) := h
  have HS : Hid (L.length = cn) := h.size
  have hcr := h.room
  have HM : Hid (SlAt meR G w ma mn M) := hM
  have HF : Hid (findV L M c s = if unitB L M && inI c 0 ((cn : Int) - 1) then find L M c.toNat s else -1) := by show _ = _; rw [findV, HS.out]
  have KC : Hid (∀ x : World, Below (w.heap.size + 1) (w.alloc (.cells #[.slice ca cn cc, .slice ma mn mc] 31)) x → x.cell? ⟨w.heap.size, 0, none⟩ = some (.slice ca cn cc) ∧ x.cell? ⟨w.heap.size, 1, none⟩ = some (.slice ma mn mc)) := fun x hb => ⟨box_cell hb 0 _ rfl, box_cell hb 1 _ rfl⟩
  have B0 : Hid (Below w.heap.size w (w.alloc (.cells #[.slice ca cn cc, .slice ma mn mc] 31))) := (Below.refl _ _).alloc (Nat.le_refl _) _
  clear h hM
  go_enter Try.func7, Try.ntmps7
  go_wp2_with fail
  refine (unitImpl _ _ _ _ _ _ L M _ (H.out.later B0.out) (HM.out.later B0.out) hmc).mono ?_
  rintro e w1 ⟨rfl, hb1⟩
  have B1 : Hid (Below (w.heap.size + 1) (w.alloc (.cells #[.slice ca cn cc, .slice ma mn mc] 31)) w1) := by show Below _ _ _; simpa using hb1
  clear hb1
  obtain ⟨p0, p1⟩ := KC.out w1 B1.out
  cases g1 : unitB L M
  · go_wp2_with fail
    go_ret
    exact ⟨by rw [HF.out, g1]; rfl, box_below B1.out⟩
  have OK : Hid (clsOk L = true) := by
    show _ = _
    unfold unitB at g1
    simp only [Bool.and_eq_true] at g1
    exact g1.1.1.1.1
  have hl5 := (ok_len OK.out).2
  rw [HS.out] at hl5
  go_wp2_with fail
  refine (hasImpl _ _ _ _ _ hcr).mono ?_
  rintro e w' ⟨rfl, rfl⟩
  have e2 : inI c 0 ((cn : Int) - 1) = (decide (0 ≤ c) && decide (c < (cn : Int))) := by unfold inI; congr 1; rw [decide_eq_decide]; omega
  cases g2 : (decide (0 ≤ c) && decide (c < (cn : Int)))
  · go_wp2_with fail
    go_ret
    exact ⟨by rw [HF.out, g1, e2, g2]; rfl, box_below B1.out⟩
  obtain ⟨m0, rfl, hm0⟩ : ∃ m : Nat, c = m ∧ m < cn := ⟨c.toNat, by simp at g2; omega, by simp at g2; omega⟩
  have HG : Hid (findV L M m0 s = find L M m0 s) := by show _ = _; rw [HF.out, g1, e2, g2]; rfl
  go_wp2_with fail
  refine (findMethodImpl _ _ _ _ _ _ m0 s L M _ (H.out.later (box_below B1.out)) (HM.out.later (box_below B1.out)) OK.out hm0).mono ?_
  rintro e w2 ⟨rfl, hb2⟩
  have B2 : Hid (Below w.heap.size w w2) := (box_below B1.out).trans (hb2.mono (box_below B1.out).size)
  clear hb2
  go_wp2_with fail
  go_ret
  exact ⟨by rw [HG.out]; rfl, B2.out⟩

end Go.Proofs.Ytmhhopccgokglab
