/-
  What an instruction may name: what is said of it, and that the program says so, in whatever memory; it writes nothing that was there.
-/
import Derived.Test.YthdlccadcadopaaGreatUniB
import Derived.Test.YthdlccadcadopaaGreatFldI
import Derived.Test.YthdlccadcadopaaGreatInsSpec2
namespace Go.Proofs.YthdlccadcadopaaGreat
open Go.ChangeShapes Go.WideShapes Go.ChangeAt Go.RowKit

theorem wordImpl (n : Int) (w : World) : Calls Tryz.prog 92 #[.int .i64 n] w fun e w' => e = .returned (.bool (decide (-128 ≤ n) && decide (n ≤ 127))) ∧ w = w' := by
  by_cases h : -128 ≤ n
  · go_enter Tryz.func92, Tryz.ntmps92
    go_wp2
    go_ret
    exact ⟨by simp [h], rfl⟩
  · go_enter Tryz.func92, Tryz.ntmps92
    go_wp2
    go_ret
    exact ⟨by simp; omega, rfl⟩

def plB (n s : Int) : Bool := decide (0 ≤ n) && decide (n < s)
theorem placeImpl' (n s : Int) (r : Bool) (h : plB n s = r) (w : World) : Calls Tryz.prog 131 #[.int .i64 n, .int .i64 s] w fun e w' => e = .returned (.bool r) ∧ w = w' := by
  subst h
  exact placeImpl n s w
theorem plB_nat {x : Int} {n : Nat} (h : plB x n = true) : ∃ m : Nat, x = m ∧ m < n := by
  unfold plB at h
  simp at h
  exact ⟨x.toNat, by omega, by omega⟩
def opdB (L : List Cl) (M : List Me) (lo : Int) (dl : Nat) (p k n : Int) : Bool :=
  if p = 0 then n == 0 else if p = 1 then decide (-128 ≤ n) && decide (n ≤ 127) else if p = 2 then plB n lo else if p = 3 then decide (1 ≤ n) && decide (n ≤ 4) else if p = 4 then plB n dl else
  if p = 5 then plB n L.length else if p = 6 then (n == 0) || (n == 1) else if p = 7 then plB n (fld L k.toNat).length else if p = 8 then plB n M.length && ((me M n.toNat).1 == -1) else if p = 9 then plB n 3 else false

set_option maxRecDepth 100000 in
set_option maxHeartbeats 8000000 in
theorem operandImpl (ca : Option Addr) (cn cc : Nat) (ma : Option Addr) (mn mc : Nat) (q : Option Nat) (c s o lo : Int) (aa : Option Addr) (al ac : Nat) (da : Option Addr) (dl dc : Nat) (sa : Option Addr) (sl sc : Nat) (ha : Option Addr) (hl hc : Nat) (p k n : Int) (L : List Cl) (M : List Me) (w : World) {D E G : Nat → Prop} (h : ClsAt D E w ca cn L) (ok : clsOk L = true) (hM : SlAt meR G w ma mn M) (_hdl : dl ≤ 9223372036854775807) (hk : p = 7 → plB k cn = true) :
    Calls Tryz.prog 156 #[.agg #[.slice ca cn cc, .slice ma mn mc, .map q], .int .i64 p, .agg #[.int .i64 c, .int .i64 s, .slice aa al ac, .int .i64 o, .int .i64 lo, .slice da dl dc, .slice sa sl sc, .slice ha hl hc], .int .i64 k, .int .i64 n] w fun e w' => e = .returned (.bool (opdB L M lo dl p k n)) ∧ Below w.heap.size w w' := by
  have H : Hid (ClsAt D E w ca cn L) := h
  have OK : Hid (clsOk L = true) := ok
  have HS : Hid (L.length = cn) := h.size
  have hr := h.room
  have HMS : Hid (M.length = mn) := hM.size
  have hmr := hM.room
  have HM : Hid (SlAt meR G w ma mn M) := hM
  have B0 : Hid (Below w.heap.size w ((w.alloc (.cells #[.slice ca cn cc, .slice ma mn mc, .map q] 116)).alloc (.cells #[.int .i64 c, .int .i64 s, .slice aa al ac, .int .i64 o, .int .i64 lo, .slice da dl dc, .slice sa sl sc, .slice ha hl hc] 68))) := ((Below.refl _ _).alloc (Nat.le_refl _) _).alloc (by simp) _
  clear h ok hM
  by_cases h20 : p = 0
  · subst h20
    have HF : Hid (opdB L M lo dl 0 k n = (n == 0)) := by show _ = _; simp only [opdB, HS.out, HMS.out]; rfl
    go_enter Tryz.func156, Tryz.ntmps156
    go_wp2_with fail
    go_ret
    exact ⟨by rw [HF.out]; rfl, by go_grown⟩
  have e0 : (p == 0) = false := by simp [h20]
  by_cases h21 : p = 1
  · subst h21
    have HF : Hid (opdB L M lo dl 1 k n = (decide (-128 ≤ n) && decide (n ≤ 127))) := by show _ = _; simp only [opdB, HS.out, HMS.out]; rfl
    go_enter Tryz.func156, Tryz.ntmps156
    go_wp2_with fail
    refine (wordImpl _ _).mono ?_
    rintro e w' ⟨rfl, rfl⟩
    go_wp2_with fail
    go_ret
    exact ⟨by rw [HF.out]; rfl, by go_grown⟩
  have e1 : (p == 1) = false := by simp [h21]
  by_cases h22 : p = 2
  · subst h22
    have HF : Hid (opdB L M lo dl 2 k n = (plB n lo)) := by show _ = _; simp only [opdB, HS.out, HMS.out]; rfl
    go_enter Tryz.func156, Tryz.ntmps156
    go_wp2_with fail
    refine (placeImpl _ _ _).mono ?_
    rintro e w' ⟨rfl, rfl⟩
    go_wp2_with fail
    go_ret
    exact ⟨by rw [HF.out]; rfl, by go_grown⟩
  have e2 : (p == 2) = false := by simp [h22]
  by_cases h23 : p = 3
  · subst h23
    have HF : Hid (opdB L M lo dl 3 k n = (decide (1 ≤ n) && decide (n ≤ 4))) := by show _ = _; simp only [opdB, HS.out, HMS.out]; rfl
    cases h1 : decide (1 ≤ n)
    · go_enter Tryz.func156, Tryz.ntmps156
      go_wp2_with fail
      go_ret
      exact ⟨by rw [HF.out, h1]; rfl, by go_grown⟩
    · go_enter Tryz.func156, Tryz.ntmps156
      go_wp2_with fail
      go_ret
      exact ⟨by rw [HF.out, h1]; rfl, by go_grown⟩
  have e3 : (p == 3) = false := by simp [h23]
  by_cases h24 : p = 4
  · subst h24
    have HF : Hid (opdB L M lo dl 4 k n = (plB n dl)) := by show _ = _; simp only [opdB, HS.out, HMS.out]; rfl
    go_enter Tryz.func156, Tryz.ntmps156
    go_wp2_with fail
    refine (placeImpl _ _ _).mono ?_
    rintro e w' ⟨rfl, rfl⟩
    go_wp2_with fail
    go_ret
    exact ⟨by rw [HF.out]; rfl, by go_grown⟩
  have e4 : (p == 4) = false := by simp [h24]
  by_cases h25 : p = 5
  · subst h25
    have HF : Hid (opdB L M lo dl 5 k n = (plB n cn)) := by show _ = _; simp only [opdB, HS.out, HMS.out]; rfl
    go_enter Tryz.func156, Tryz.ntmps156
    go_wp2_with fail
    refine (hasImpl _ _ _ _ _ hr).mono ?_
    rintro e w' ⟨rfl, rfl⟩
    go_wp2_with fail
    go_ret
    exact ⟨by rw [HF.out]; rfl, by go_grown⟩
  have e5 : (p == 5) = false := by simp [h25]
  by_cases h26 : p = 6
  · subst h26
    have HF : Hid (opdB L M lo dl 6 k n = ((n == 0) || (n == 1))) := by show _ = _; simp only [opdB, HS.out, HMS.out]; rfl
    cases h1 : (n == 0)
    · go_enter Tryz.func156, Tryz.ntmps156
      go_wp2_with fail
      go_ret
      exact ⟨by rw [HF.out, h1]; rfl, by go_grown⟩
    · go_enter Tryz.func156, Tryz.ntmps156
      go_wp2_with fail
      go_ret
      exact ⟨by rw [HF.out, h1]; rfl, by go_grown⟩
  have e6 : (p == 6) = false := by simp [h26]
  by_cases h27 : p = 7
  · subst h27
    have HF : Hid (opdB L M lo dl 7 k n = (plB n (fld L k.toNat).length)) := by show _ = _; simp only [opdB, HS.out, HMS.out]; rfl
    obtain ⟨m, rfl, hm⟩ := plB_nat (hk rfl)
    clear hk
    go_enter Tryz.func156, Tryz.ntmps156
    go_wp2_with fail
    refine (fieldsImpl _ _ _ L OK.out HS.out m _ hm (H.out.later B0.out)).mono ?_
    rintro e w1 ⟨v, rfl, hv⟩
    obtain ⟨fa, fc, rfl⟩ := own_slice hv.1
    have B1 : Hid (Below w.heap.size w w1) := B0.out.trans (hv.2.mono B0.out.size)
    have Hl : Hid ((fld L ((m : Nat) : Int).toNat).length = (fld L m).length) := rfl
    clear hv
    generalize (fld L m).length = fl at Hl ⊢
    go_wp2_with fail
    refine (placeImpl _ _ _).mono ?_
    rintro e w' ⟨rfl, rfl⟩
    go_wp2_with fail
    go_ret
    exact ⟨by rw [HF.out, Hl.out]; rfl, B1.out⟩
  have e7 : (p == 7) = false := by simp [h27]
  by_cases h28 : p = 8
  · subst h28
    have HF : Hid (opdB L M lo dl 8 k n = (plB n mn && ((me M n.toNat).1 == -1))) := by show _ = _; simp only [opdB, HS.out, HMS.out]; rfl
    cases h1 : plB n mn
    · go_enter Tryz.func156, Tryz.ntmps156
      go_wp2_with fail
      refine (placeImpl' _ _ _ h1 _).mono ?_
      rintro e w' ⟨rfl, rfl⟩
      go_wp2_with fail
      go_ret
      exact ⟨by rw [HF.out, h1]; rfl, by go_grown⟩
    obtain ⟨m, rfl, hm⟩ := plB_nat h1
    obtain ⟨b, off, rfl, _, aa', al', ac', da', dl', dc', sa', sl', sc', ha', hl', hc', m0, _⟩ := meOf HM.out m hm
    have hb := World.block_lt_of_cell? w _ m0
    simp only at hb
    have HG : Hid (opdB L M lo dl 8 k (m : Int) = ((me M m).1 == -1)) := by show _ = _; rw [HF.out, h1]; rfl
    generalize (me M m).1 = mc0 at m0 HG
    clear HF
    go_enter Tryz.func156, Tryz.ntmps156
    go_wp2_with fail
    refine (placeImpl' _ _ _ h1 _).mono ?_
    rintro e w' ⟨rfl, rfl⟩
    go_wp2_with fail
    go_ret
    exact ⟨by rw [HG.out]; rfl, by go_grown⟩
  have e8 : (p == 8) = false := by simp [h28]
  by_cases h29 : p = 9
  · subst h29
    have HF : Hid (opdB L M lo dl 9 k n = (plB n 3)) := by show _ = _; simp only [opdB, HS.out, HMS.out]; rfl
    go_enter Tryz.func156, Tryz.ntmps156
    go_wp2_with fail
    refine (placeImpl _ _ _).mono ?_
    rintro e w' ⟨rfl, rfl⟩
    go_wp2_with fail
    go_ret
    exact ⟨by rw [HF.out]; rfl, by go_grown⟩
  have e9 : (p == 9) = false := by simp [h29]
  have HF : Hid (opdB L M lo dl p k n = false) := by show _ = _; unfold opdB; rw [if_neg h20, if_neg h21, if_neg h22, if_neg h23, if_neg h24, if_neg h25, if_neg h26, if_neg h27, if_neg h28, if_neg h29]
  go_enter Tryz.func156, Tryz.ntmps156
  go_wp2_with fail
  go_ret
  exact ⟨by rw [HF.out]; rfl, by go_grown⟩

end Go.Proofs.YthdlccadcadopaaGreat
