/-
  The small functions of the program's UnitOk: what is said of what a method is told with ahead of its code, and that the program says so, in whatever memory; they write nothing that was there.
-/
import Derived.Test.YthdlccadcadopaaGreatShpImpl
namespace Go.Proofs.YthdlccadcadopaaGreat
open Go.ChangeShapes Go.WideShapes Go.ChangeAt Go.RowKit

theorem placeImpl (n s : Int) (w : World) : Calls Tryz.prog 131 #[.int .i64 n, .int .i64 s] w fun e w' => e = .returned (.bool (decide (0 ≤ n) && decide (n < s))) ∧ w = w' := by
  by_cases h : 0 ≤ n
  · go_enter Tryz.func131, Tryz.ntmps131
    go_wp2
    go_ret
    exact ⟨by simp [h], rfl⟩
  · go_enter Tryz.func131, Tryz.ntmps131
    go_wp2
    go_ret
    exact ⟨by simp; omega, rfl⟩

/-- How many locals are given. -/
def givN (c : Int) (al : Nat) : Int := if c = -1 then al else 1 + al
theorem givenImpl (c s o lo : Int) (aa : Option Addr) (al ac : Nat) (da : Option Addr) (dl dc : Nat) (sa : Option Addr) (sl sc : Nat) (ha : Option Addr) (hl hc : Nat) (w : World) (hal : al ≤ 1000000000000) :
    Calls Tryz.prog 155 #[.agg #[.int .i64 c, .int .i64 s, .slice aa al ac, .int .i64 o, .int .i64 lo, .slice da dl dc, .slice sa sl sc, .slice ha hl hc]] w fun e w' => e = .returned (.int .i64 (givN c al)) ∧ w' = w.alloc (.cells #[.int .i64 c, .int .i64 s, .slice aa al ac, .int .i64 o, .int .i64 lo, .slice da dl dc, .slice sa sl sc, .slice ha hl hc] 68) := by
  by_cases h : c = -1
  · subst h
    go_enter Tryz.func155, Tryz.ntmps155
    go_wp2_with fail
    go_ret
    exact ⟨by rw [givN, if_pos rfl]; rfl, rfl⟩
  · have e : (c == -1) = false := by simp [h]
    have HF : Hid (givN c al = 1 + (al : Int)) := by show _ = _; rw [givN, if_neg h]
    go_enter Tryz.func155, Tryz.ntmps155
    go_wp2_with fail
    go_ret
    exact ⟨by rw [HF.out]; rfl, rfl⟩

/-- Whose a method is. -/
def owB (cn : Nat) (c s : Int) : Bool := if c = -1 then s == 0 else ((decide (0 ≤ c) && decide (c < cn)) && c != 0) && (decide (0 ≤ s) && decide (s < 3))
set_option maxHeartbeats 1000000 in
theorem ownerImpl (ca : Option Addr) (cn cc : Nat) (ma : Option Addr) (mn mc : Nat) (q : Option Nat) (c s o lo : Int) (aa : Option Addr) (al ac : Nat) (da : Option Addr) (dl dc : Nat) (sa : Option Addr) (sl sc : Nat) (ha : Option Addr) (hl hc : Nat) (w : World) (hr : cn ≤ 9223372036854775807) :
    Calls Tryz.prog 143 #[.agg #[.slice ca cn cc, .slice ma mn mc, .map q], .agg #[.int .i64 c, .int .i64 s, .slice aa al ac, .int .i64 o, .int .i64 lo, .slice da dl dc, .slice sa sl sc, .slice ha hl hc]] w fun e w' => e = .returned (.bool (owB cn c s)) ∧ Below w.heap.size w w' := by
  by_cases h : c = -1
  · subst h
    go_enter Tryz.func143, Tryz.ntmps143
    go_wp2_with fail
    go_ret
    exact ⟨by rw [owB, if_pos rfl]; rfl, by go_grown⟩
  have e : (c == -1) = false := by simp [h]
  have HF : Hid (owB cn c s = (((decide (0 ≤ c) && decide (c < cn)) && c != 0) && (decide (0 ≤ s) && decide (s < 3)))) := by show _ = _; rw [owB, if_neg h]
  go_enter Tryz.func143, Tryz.ntmps143
  go_wp2_with fail
  refine (hasImpl _ _ _ _ _ hr).mono ?_
  rintro e w' ⟨rfl, rfl⟩
  cases h1 : (decide (0 ≤ c) && decide (c < (cn : Int)))
  · go_wp2_with fail
    go_ret
    exact ⟨by rw [HF.out, h1]; rfl, by go_grown⟩
  cases h2 : (c != 0)
  · go_wp2_with fail
    go_ret
    exact ⟨by rw [HF.out, h1, h2]; rfl, by go_grown⟩
  go_wp2_with fail
  refine (placeImpl _ _ _).mono ?_
  rintro e w' ⟨rfl, rfl⟩
  go_wp2_with fail
  go_ret
  exact ⟨by rw [HF.out, h1, h2]; rfl, by go_grown⟩

/-- What a method is given, and gives back. -/
def tysB (cn : Nat) (args : List Int) (o : Int) : Bool := (decide (args.length ≤ 2) && args.all (fieldB cn)) && fieldB cn o
set_option maxHeartbeats 1000000 in
theorem typesImpl (ca : Option Addr) (cn cc : Nat) (ma : Option Addr) (mn mc : Nat) (q : Option Nat) (c s o lo : Int) (aa : Option Addr) (al ac : Nat) (da : Option Addr) (dl dc : Nat) (sa : Option Addr) (sl sc : Nat) (ha : Option Addr) (hl hc : Nat) (args : List Int) (w : World) {D : Nat → Prop} (hA : IntsAt D w aa al args) (hr : cn ≤ 1000000000000000) (ho : i64B o) :
    Calls Tryz.prog 144 #[.agg #[.slice ca cn cc, .slice ma mn mc, .map q], .agg #[.int .i64 c, .int .i64 s, .slice aa al ac, .int .i64 o, .int .i64 lo, .slice da dl dc, .slice sa sl sc, .slice ha hl hc]] w fun e w' => e = .returned (.bool (tysB cn args o)) ∧ Below w.heap.size w w' := by
  have HA : Hid (IntsAt D ((w.alloc (.cells #[.slice ca cn cc, .slice ma mn mc, .map q] 116)).alloc (.cells #[.int .i64 c, .int .i64 s, .slice aa al ac, .int .i64 o, .int .i64 lo, .slice da dl dc, .slice sa sl sc, .slice ha hl hc] 68)) aa al args) := hA.later (((Below.refl _ _).alloc (Nat.le_refl _) _).alloc (by simp) _)
  have hal := hA.room
  have HF : Hid (tysB cn args o = ((decide (al ≤ 2) && args.all (fieldB cn)) && fieldB cn o)) := by show _ = _; rw [tysB, hA.size]
  unfold i64B at ho
  clear hA
  by_cases h : al ≤ 2
  case neg =>
    go_enter Tryz.func144, Tryz.ntmps144
    go_wp2_with fail
    go_ret
    exact ⟨by rw [HF.out, decide_eq_false h]; rfl, by go_grown⟩
  go_enter Tryz.func144, Tryz.ntmps144
  go_wp2_with fail
  refine (areFieldsImpl _ _ _ _ _ _ args _ HA.out hr).mono ?_
  rintro e w' ⟨rfl, rfl⟩
  cases h1 : args.all (fieldB cn)
  · go_wp2_with fail
    go_ret
    exact ⟨by rw [HF.out, h1, decide_eq_true h]; rfl, by go_grown⟩
  go_wp2_with fail
  refine (fieldImpl _ _ _ _ _ hr ho.1 ho.2).mono ?_
  rintro e w' ⟨rfl, rfl⟩
  go_wp2_with fail
  go_ret
  exact ⟨by rw [HF.out, h1, decide_eq_true h]; rfl, by go_grown⟩

/-- The first method. -/
def fstB (c o : Int) (al : Nat) : Bool := ((c == -1) && ((al : Int) == 0)) && (o == 1)
set_option maxHeartbeats 1000000 in
theorem firstImpl (ca : Option Addr) (cn cc : Nat) (mb mo : Nat) (mn mc : Nat) (q : Option Nat) (c s o lo : Int) (aa : Option Addr) (al ac : Nat) (da : Option Addr) (dl dc : Nat) (sa : Option Addr) (sl sc : Nat) (ha : Option Addr) (hl hc : Nat) (w : World) (_hal : al ≤ 9223372036854775807) (hmn : 1 ≤ mn) (hmr : mn ≤ 9223372036854775807)
    (m0 : w.cell? ⟨mb, mo, none⟩ = some (.int .i64 c)) (m1 : w.cell? ⟨mb, mo + 1, none⟩ = some (.int .i64 s)) (m2 : w.cell? ⟨mb, mo + 2, none⟩ = some (.slice aa al ac)) (m3 : w.cell? ⟨mb, mo + 3, none⟩ = some (.int .i64 o)) (m4 : w.cell? ⟨mb, mo + 4, none⟩ = some (.int .i64 lo)) (m5 : w.cell? ⟨mb, mo + 5, none⟩ = some (.slice da dl dc)) (m6 : w.cell? ⟨mb, mo + 6, none⟩ = some (.slice sa sl sc)) (m7 : w.cell? ⟨mb, mo + 7, none⟩ = some (.slice ha hl hc)) :
    Calls Tryz.prog 65 #[.agg #[.slice ca cn cc, .slice (some ⟨mb, mo, none⟩) mn mc, .map q]] w fun e w' => e = .returned (.bool (fstB c o al)) ∧ Below w.heap.size w w' := by
  have hmn' : (0 : Int) < (mn : Int) := by omega
  have hb := World.block_lt_of_cell? w _ m0
  simp only at hb
  have HF : Hid (fstB c o al = (((c == -1) && ((al : Int) == 0)) && (o == 1))) := rfl
  cases h1 : (c == -1)
  · go_enter Tryz.func65, Tryz.ntmps65
    go_wp2_with fail
    go_ret
    exact ⟨by rw [HF.out, h1]; rfl, by go_grown⟩
  cases h2 : ((al : Int) == 0)
  · go_enter Tryz.func65, Tryz.ntmps65
    go_wp2_with fail
    go_ret
    exact ⟨by rw [HF.out, h1, h2]; rfl, by go_grown⟩
  go_enter Tryz.func65, Tryz.ntmps65
  go_wp2_with fail
  go_ret
  exact ⟨by rw [HF.out, h1, h2]; rfl, by go_grown⟩

/-- What is caught. -/
def catK (L : List Cl) (dl : Nat) (f t at' k : Int) : Bool :=
  (!(((!(decide (0 ≤ f) && decide (f < (dl : Int))) || !(decide (0 ≤ at') && decide (at' < (dl : Int)))) || decide (t ≤ f)) || decide (t > (dl : Int)))) && ((decide (0 ≤ k) && decide (k < (L.length : Int))) && up L k.toNat 1)
set_option maxHeartbeats 2000000 in
theorem catchImpl (ca : Option Addr) (cn cc : Nat) (ma : Option Addr) (mn mc : Nat) (q : Option Nat) (c s o lo : Int) (aa : Option Addr) (al ac : Nat) (da : Option Addr) (dl dc : Nat) (sa : Option Addr) (sl sc : Nat) (ha : Option Addr) (hl hc : Nat) (f t at' k : Int) (L : List Cl) (w : World) {D E : Nat → Prop} (h : ClsAt D E w ca cn L) (ok : clsOk L = true) (_hdl : dl ≤ 9223372036854775807) :
    Calls Tryz.prog 158 #[.agg #[.slice ca cn cc, .slice ma mn mc, .map q], .agg #[.int .i64 c, .int .i64 s, .slice aa al ac, .int .i64 o, .int .i64 lo, .slice da dl dc, .slice sa sl sc, .slice ha hl hc], .agg #[.int .i64 f, .int .i64 t, .int .i64 at', .int .i64 k]] w fun e w' => e = .returned (.bool (catK L dl f t at' k)) ∧ Below w.heap.size w w' := by
  have H : Hid (ClsAt D E w ca cn L) := h
  have OK : Hid (clsOk L = true) := ok
  have HS : Hid (L.length = cn) := h.size
  have hr := h.room
  have HF : Hid (catK L dl f t at' k = ((!(((!(decide (0 ≤ f) && decide (f < (dl : Int))) || !(decide (0 ≤ at') && decide (at' < (dl : Int)))) || decide (t ≤ f)) || decide (t > (dl : Int)))) && ((decide (0 ≤ k) && decide (k < (cn : Int))) && up L k.toNat 1))) := by show _ = _; rw [catK, HS.out]
  clear h ok
  go_enter Tryz.func158, Tryz.ntmps158
  go_wp2_with fail
  refine (placeImpl _ _ _).mono ?_
  rintro e w' ⟨rfl, rfl⟩
  cases h1 : (decide (0 ≤ f) && decide (f < (dl : Int)))
  · go_wp2_with fail
    go_ret
    exact ⟨by rw [HF.out, h1]; rfl, by go_grown⟩
  go_wp2_with fail
  refine (placeImpl _ _ _).mono ?_
  rintro e w' ⟨rfl, rfl⟩
  cases h2 : (decide (0 ≤ at') && decide (at' < (dl : Int)))
  · go_wp2_with fail
    go_ret
    exact ⟨by rw [HF.out, h1, h2]; rfl, by go_grown⟩
  cases h3 : decide (t ≤ f)
  case true =>
    go_wp2_with fail
    go_ret
    exact ⟨by rw [HF.out, h1, h2, h3]; rfl, by go_grown⟩
  cases h4 : decide (t > (dl : Int))
  case true =>
    go_wp2_with fail
    go_ret
    exact ⟨by rw [HF.out, h1, h2, h3, h4]; rfl, by go_grown⟩
  go_wp2_with fail
  refine (hasImpl _ _ _ _ _ hr).mono ?_
  rintro e w' ⟨rfl, rfl⟩
  cases h5 : (decide (0 ≤ k) && decide (k < (cn : Int)))
  · go_wp2_with fail
    go_ret
    exact ⟨by rw [HF.out, h1, h2, h3, h4, h5]; rfl, by go_grown⟩
  obtain ⟨m, rfl, hm⟩ : ∃ m : Nat, k = m ∧ m < cn := ⟨k.toNat, by simp at h5; omega, by simp at h5; omega⟩
  go_wp2_with fail
  refine (upImpl _ _ _ m 1 L _ (H.out.later (by go_grown)) OK.out hm).mono ?_
  rintro e w' ⟨rfl, rfl⟩
  go_wp2_with fail
  go_ret
  exact ⟨by rw [HF.out, h1, h2, h3, h4, h5]; rfl, by go_grown⟩


end Go.Proofs.YthdlccadcadopaaGreat
