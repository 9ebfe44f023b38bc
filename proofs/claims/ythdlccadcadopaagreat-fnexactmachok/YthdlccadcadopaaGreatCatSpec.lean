/-
  Whether what is caught is ok, whether what is told ahead of a method's code is, and whether two methods are given, and give back, the same: what is said of it, and that the specification says so, in whatever memory; it writes nothing that was there.
-/
import Derived.Test.YthdlccadcadopaaGreatInsSpec2
namespace Go.Proofs.YthdlccadcadopaaGreat
open Go.ChangeShapes Go.WideShapes Go.ChangeAt Go.RowKit

def catB (L : List Cl) (n : Nat) (x : Ca) : Bool :=
  (((inI x.1 0 ((n : Int) - 1) && inI x.2.1 (x.1 + 1) n) && inI x.2.2.1 0 ((n : Int) - 1)) && inI x.2.2.2 0 ((L.length : Int) - 1)) && up L x.2.2.2.toNat 1

set_option maxHeartbeats 4000000 in
theorem catSpec (ca : Option Addr) (cn cc : Nat) (ma : Option Addr) (mn mc : Nat) (c s o lo : Int) (aa : Option Addr) (al ac : Nat) (da : Option Addr) (dl dc : Nat) (sa : Option Addr) (sl sc : Nat) (ha : Option Addr) (hl hc : Nat) (f t at' k : Int)
    (L : List Cl) (w : World) {D E : Nat → Prop} (h : ClsAt D E w ca cn L) (ok : clsOk L = true) (dl0 : dl ≤ 1000000000000) :
    Calls Tryz.prog 108 #[.agg #[.slice ca cn cc, .slice ma mn mc], .agg #[.int .i64 c, .int .i64 s, .slice aa al ac, .int .i64 o, .int .i64 lo, .slice da dl dc, .slice sa sl sc, .slice ha hl hc], .agg #[.int .i64 f, .int .i64 t, .int .i64 at', .int .i64 k]] w
      fun e w' => e = .returned (.bool (catB L dl (f, t, at', k))) ∧ Below w.heap.size w w' := by
  have H : Hid (ClsAt D E w ca cn L) := h
  have OK : Hid (clsOk L = true) := ok
  have HS : Hid (L.length = cn) := h.size
  have hl5 := (ok_len ok).2
  rw [h.size] at hl5
  have HF : Hid (catB L dl (f, t, at', k) = ((((inI f 0 ((dl : Int) - 1) && inI t (f + 1) dl) && inI at' 0 ((dl : Int) - 1)) && inI k 0 ((cn : Int) - 1)) && up L k.toNat 1)) := by show _ = _; rw [catB, HS.out]
  clear h ok
  cases h1 : inI f 0 ((dl : Int) - 1)
  · go_enter Tryz.func108, Tryz.ntmps108
    go_wp2_with fail
    refine (inSpec' _ _ _ _ h1 _).mono ?_
    rintro e w' ⟨rfl, rfl⟩
    go_wp2_with fail
    go_ret
    exact ⟨by rw [HF.out, h1]; rfl, by go_grown⟩
  have f0 : 0 ≤ f := by unfold inI at h1; simp at h1; omega
  have f1 : f ≤ (dl : Int) - 1 := by unfold inI at h1; simp at h1; omega
  cases h2 : inI t (f + 1) dl
  · go_enter Tryz.func108, Tryz.ntmps108
    go_wp2_with fail
    refine (inSpec' _ _ _ _ h1 _).mono ?_
    rintro e w' ⟨rfl, rfl⟩
    go_wp2_with fail
    refine (inSpec' _ _ _ _ h2 _).mono ?_
    rintro e w' ⟨rfl, rfl⟩
    go_wp2_with fail
    go_ret
    exact ⟨by rw [HF.out, h1, h2]; rfl, by go_grown⟩
  cases h3 : inI at' 0 ((dl : Int) - 1)
  · go_enter Tryz.func108, Tryz.ntmps108
    go_wp2_with fail
    refine (inSpec' _ _ _ _ h1 _).mono ?_
    rintro e w' ⟨rfl, rfl⟩
    go_wp2_with fail
    refine (inSpec' _ _ _ _ h2 _).mono ?_
    rintro e w' ⟨rfl, rfl⟩
    go_wp2_with fail
    refine (inSpec' _ _ _ _ h3 _).mono ?_
    rintro e w' ⟨rfl, rfl⟩
    go_wp2_with fail
    go_ret
    exact ⟨by rw [HF.out, h1, h2, h3]; rfl, by go_grown⟩
  cases h4 : inI k 0 ((cn : Int) - 1)
  · go_enter Tryz.func108, Tryz.ntmps108
    go_wp2_with fail
    refine (inSpec' _ _ _ _ h1 _).mono ?_
    rintro e w' ⟨rfl, rfl⟩
    go_wp2_with fail
    refine (inSpec' _ _ _ _ h2 _).mono ?_
    rintro e w' ⟨rfl, rfl⟩
    go_wp2_with fail
    refine (inSpec' _ _ _ _ h3 _).mono ?_
    rintro e w' ⟨rfl, rfl⟩
    go_wp2_with fail
    refine (inSpec' _ _ _ _ h4 _).mono ?_
    rintro e w' ⟨rfl, rfl⟩
    go_wp2_with fail
    go_ret
    exact ⟨by rw [HF.out, h1, h2, h3, h4]; rfl, by go_grown⟩
  obtain ⟨m, rfl, hm⟩ := inI_nat h4
  have HG : Hid (catB L dl (f, t, at', (m : Int)) = up L m 1) := by show _ = _; rw [HF.out, h1, h2, h3, h4]; rfl
  clear HF
  go_enter Tryz.func108, Tryz.ntmps108
  go_wp2_with fail
  refine (inSpec' _ _ _ _ h1 _).mono ?_
  rintro e w' ⟨rfl, rfl⟩
  go_wp2_with fail
  refine (inSpec' _ _ _ _ h2 _).mono ?_
  rintro e w' ⟨rfl, rfl⟩
  go_wp2_with fail
  refine (inSpec' _ _ _ _ h3 _).mono ?_
  rintro e w' ⟨rfl, rfl⟩
  go_wp2_with fail
  refine (inSpec' _ _ _ _ h4 _).mono ?_
  rintro e w' ⟨rfl, rfl⟩
  go_wp2_with fail
  refine (upSpec _ _ _ m 1 L _ (H.out.later (by go_grown)) OK.out hm).mono ?_
  rintro e w' ⟨rfl, rfl⟩
  go_wp2_with fail
  go_ret
  exact ⟨by rw [HG.out]; rfl, by go_grown⟩

/-- What is told ahead of a method's code. -/
def selfN (c : Int) : Int := if 0 ≤ c then 1 else 0
def hdB (n : Nat) (m : Me) : Bool :=
  ((((!(m.1 == 0) && inI m.1 (-1) ((n : Int) - 1)) && decide (m.2.2.1.length ≤ 2)) && fieldB n m.2.2.2.1) && inI m.2.2.2.2.1 (selfN m.1 + (m.2.2.1.length : Int)) 3) && (m.2.2.1.all (fieldB n) && (if 0 ≤ m.1 then inI m.2.1 0 2 else (m.2.1 == 0)))

end Go.Proofs.YthdlccadcadopaaGreat
