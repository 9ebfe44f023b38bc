/-
  Whether two shapes fit, and whether one may stand where the other is told: what is said of it, and that the specification says so, in whatever memory; it writes nothing that was there.
-/
import Derived.Test.YtkggmcbjpmhmcaaDoorL11In
import Derived.Test.YtkggmcbjpmhmcaaDoorClsMath
namespace Go.Proofs.YtkggmcbjpmhmcaaDoor
open Go.ChangeShapes Go.WideShapes Go.ChangeAt Go.RowKit

def fitB (L : List Cl) (s t : Sh) : Bool := (((s.1 && t.1) && shB L s.2.1.length s) && shB L s.2.1.length t) && decide (s.2.2.length = t.2.2.length)
def shInB (L : List Cl) (s t : Sh) : Bool := fitB L s t && inS L s t
theorem tyR_all {L : List Cl} {us : List Int} (h : us.all (tyB L) = true) : TyR L us := fun x hx => by
  have h1 := tyB_range (List.all_eq_true.1 h x hx)
  exact ⟨h1.1, h1.2.1⟩
/-- A shape in which something is told, and that is ok. -/
structure ShR (L : List Cl) (n : Nat) (s : Sh) : Prop where
  ok : clsOk L = true
  len : s.2.1.length = n
  few : s.2.2.length ≤ 4
  loc : ∀ x ∈ s.2.1, Ty L x
  st : ∀ x ∈ s.2.2, Ty L x ∧ x ≠ 0
theorem ShR.of {L : List Cl} {n : Nat} {us vs : List Int} (h : shB L n (true, us, vs) = true) : ShR L n (true, us, vs) := by
  unfold shB at h
  simp only [if_true, Bool.and_eq_true, beq_iff_eq, decide_eq_true_eq] at h
  obtain ⟨h1, ⟨h2, h3⟩, h4, h5⟩ := h
  refine ⟨h1, by simp only; omega, h3, fun x hx => ?_, fun x hx => ?_⟩
  · exact Ty.of (List.all_eq_true.1 h4 x hx)
  · have := List.all_eq_true.1 h5 x hx
    simp only [Bool.and_eq_true, Bool.not_eq_true', beq_eq_false_iff_ne] at this
    exact ⟨Ty.of this.1, this.2⟩
theorem ShR.tl {L : List Cl} {n : Nat} {s : Sh} (h : ShR L n s) : TyR L s.2.1 := fun x hx => ⟨(h.loc x hx).low, (h.loc x hx).high⟩
theorem ShR.ts {L : List Cl} {n : Nat} {s : Sh} (h : ShR L n s) : TyR L s.2.2 := fun x hx => ⟨(h.st x hx).1.low, (h.st x hx).1.high⟩
theorem fit_of {L : List Cl} {x0 y0 : Bool} {us vs xs ys : List Int} (h : fitB L (x0, us, vs) (y0, xs, ys) = true) : x0 = true ∧ y0 = true ∧ ShR L us.length (true, us, vs) ∧ ShR L us.length (true, xs, ys) ∧ vs.length = ys.length := by
  unfold fitB at h
  simp only [Bool.and_eq_true, decide_eq_true_eq] at h
  obtain ⟨⟨⟨⟨rfl, rfl⟩, h1⟩, h2⟩, h3⟩ := h
  exact ⟨rfl, rfl, ShR.of h1, ShR.of h2, h3⟩

set_option maxRecDepth 100000 in
set_option maxHeartbeats 8000000 in
theorem fitsSpec (a : Option Addr) (len cap : Nat) (x0 : Bool) (la : Option Addr) (ll lc : Nat) (ka : Option Addr) (kl kc : Nat) (y0 : Bool) (ma : Option Addr) (ml mc : Nat) (na : Option Addr) (nl nc : Nat) (us vs xs ys : List Int) (L : List Cl) (w : World) {D E P Q S T : Nat → Prop}
    (h : ClsAt D E w a len L) (hu : IntsAt P w la ll us) (hv : IntsAt Q w ka kl vs) (hx : IntsAt S w ma ml xs) (hy : IntsAt T w na nl ys) :
    Calls Tryd.prog 25 #[.slice a len cap, .agg #[.bool x0, .slice la ll lc, .slice ka kl kc], .agg #[.bool y0, .slice ma ml mc, .slice na nl nc]] w fun e w' => e = .returned (.bool (fitB L (x0, us, vs) (y0, xs, ys))) ∧ Below w.heap.size w w' := by
  have H : Hid (ClsAt D E w a len L) := h
  have HS : Hid (L.length = len) := h.size
  have hr := h.room
  have HU : Hid (IntsAt P w la ll us) := hu
  have HV : Hid (IntsAt Q w ka kl vs) := hv
  have HX : Hid (IntsAt S w ma ml xs) := hx
  have HY : Hid (IntsAt T w na nl ys) := hy
  have SU : Hid (us.length = ll) := hu.size
  have SV : Hid (vs.length = kl) := hv.size
  have SX : Hid (xs.length = ml) := hx.size
  have SY : Hid (ys.length = nl) := hy.size
  have ru := hu.room
  have rv := hv.room
  have rx := hx.room
  have ry := hy.room
  have HF : Hid (fitB L (x0, us, vs) (y0, xs, ys) = ((((x0 && y0) && shB L ll (x0, us, vs)) && shB L ll (y0, xs, ys)) && ((kl : Int) == (nl : Int)))) := by
    show _ = _
    unfold fitB
    simp only
    rw [SU.out, SV.out, SY.out, show ((kl : Int) == (nl : Int)) = decide (kl = nl) by rw [Bool.eq_iff_iff]; simp; omega]
  have KC : Hid (∀ x : World, Below (w.heap.size + 1 + 1) ((w.alloc (.cells #[.bool x0, .slice la ll lc, .slice ka kl kc] 26)).alloc (.cells #[.bool y0, .slice ma ml mc, .slice na nl nc] 26)) x → x.cell? ⟨w.heap.size, 0, none⟩ = some (.bool x0) ∧ x.cell? ⟨w.heap.size, 1, none⟩ = some (.slice la ll lc) ∧ x.cell? ⟨w.heap.size, 2, none⟩ = some (.slice ka kl kc) ∧ x.cell? ⟨w.heap.size + 1, 0, none⟩ = some (.bool y0) ∧ x.cell? ⟨w.heap.size + 1, 1, none⟩ = some (.slice ma ml mc) ∧ x.cell? ⟨w.heap.size + 1, 2, none⟩ = some (.slice na nl nc)) :=
    fun x hb => ⟨later2 hb (two_first rfl), later2 hb (two_first rfl), later2 hb (two_first rfl), later2 hb (two_second rfl), later2 hb (two_second rfl), later2 hb (two_second rfl)⟩
  have B0 : Hid (Below w.heap.size w ((w.alloc (.cells #[.bool x0, .slice la ll lc, .slice ka kl kc] 26)).alloc (.cells #[.bool y0, .slice ma ml mc, .slice na nl nc] 26))) := ((Below.refl _ _).alloc (Nat.le_refl _) _).alloc (by simp) _
  clear h hu hv hx hy
  cases x0
  · go_enter Tryd.func25, Tryd.ntmps25
    go_wp2_with fail
    go_ret
    exact ⟨by rw [HF.out]; rfl, by go_grown⟩
  cases y0
  · go_enter Tryd.func25, Tryd.ntmps25
    go_wp2_with fail
    go_ret
    exact ⟨by rw [HF.out]; rfl, by go_grown⟩
  go_enter Tryd.func25, Tryd.ntmps25
  go_wp2_with fail
  refine (shapeOkSpec _ _ _ _ _ _ _ _ _ _ L (true, us, vs) _ (H.out.later B0.out) (HU.out.later B0.out) (HV.out.later B0.out)).mono ?_
  rintro e w1 ⟨rfl, hb1⟩
  have B1 : Hid (Below (w.heap.size + 1 + 1) ((w.alloc (.cells #[.bool true, .slice la ll lc, .slice ka kl kc] 26)).alloc (.cells #[.bool true, .slice ma ml mc, .slice na nl nc] 26)) w1) := by show Below _ _ _; simpa using hb1
  obtain ⟨p0, p1, p2, p3, p4, p5⟩ := KC.out w1 B1.out
  have C1 : Hid (Below w.heap.size w w1) := below2 B1.out
  clear hb1
  cases hs : shB L ll (true, us, vs)
  · go_wp2_with fail
    go_ret
    exact ⟨by rw [HF.out, hs]; rfl, C1.out⟩
  go_wp2_with fail
  refine (shapeOkSpec _ _ _ _ _ _ _ _ _ _ L (true, xs, ys) _ (H.out.later C1.out) (HX.out.later C1.out) (HY.out.later C1.out)).mono ?_
  rintro e w2 ⟨rfl, hb2⟩
  have B2 : Hid (Below (w.heap.size + 1 + 1) ((w.alloc (.cells #[.bool true, .slice la ll lc, .slice ka kl kc] 26)).alloc (.cells #[.bool true, .slice ma ml mc, .slice na nl nc] 26)) w2) := B1.out.trans (hb2.mono (by have := B1.out.size; simpa using this))
  clear p0 p1 p2 p3 p4 p5 hb2
  obtain ⟨p0, p1, p2, p3, p4, p5⟩ := KC.out w2 B2.out
  have C2 : Hid (Below w.heap.size w w2) := below2 B2.out
  cases ht : shB L ll (true, xs, ys)
  · go_wp2_with fail
    go_ret
    exact ⟨by rw [HF.out, hs, ht]; rfl, C2.out⟩
  go_wp2_with fail
  go_ret
  exact ⟨by rw [HF.out, hs, ht]; rfl, C2.out⟩

end Go.Proofs.YtkggmcbjpmhmcaaDoor
