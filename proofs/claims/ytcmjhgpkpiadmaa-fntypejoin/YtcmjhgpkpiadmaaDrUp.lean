/-
  What the laws on classes and types draw of a code, whatever the code: a list of classes, not empty, and two numbers.
-/
import Derived.Test.YtcmjhgpkpiadmaaDrOff
namespace Go.Proofs.Ytcmjhgpkpiadmaa
open Go.ChangeShapes Go.WideShapes Go.ChangeAt Go.RowKit

/-- What is drawn lies in new memory. -/
def DrawnUp (w : World) (e : Ending) (w' : World) : Prop :=
  ∃ a len cap L x y, e = .returned (.tuple #[.slice a len cap, .int .i64 x, .int .i64 y]) ∧ 1 ≤ len ∧ len ≤ 10 ∧ ClsAt (fun b => w.heap.size < b) (fun b => w.heap.size < b) w' a len L ∧ (-1000 ≤ x ∧ x ≤ 1000) ∧ (-1000 ≤ y ∧ y ≤ 1000) ∧ Below w.heap.size w w'

theorem Rd.cls {B R k : Nat} {w w' : World} {a : Option Addr} {len : Nat} {L : List Cl} {G : Nat} (h : ClsAt (fun b => G ≤ b) (fun b => G ≤ b) w a len L) (c : Stp B R k w w') (hR : R < G) : ClsAt (fun b => G ≤ b) (fun b => G ≤ b) w' a len L :=
  h.keep fun b o hb hl => c.ch.cell b o hl (by rcases hb with hb | hb <;> omega)

theorem drawUp (a0 : Option Addr) (len0 cap0 : Nat) (zs : List Int) (w : World) (h : IsRow .u8 w a0 len0 cap0 zs) :
    Calls Try.prog 12 #[.slice a0 len0 cap0] w fun e w' => DrawnUp w e w' := by
  go_enter Try.func12, Try.ntmps12
  go_wp2_with fail
  refine (openRd a0 len0 cap0 zs w h).mono ?_
  rintro e w0 ⟨rfl, r0, b0, s0⟩
  have S0 : Hid (w0.heap.size = w.heap.size + 1) := s0
  have B0 : Hid (Below w.heap.size w w0) := b0
  clear h s0 b0
  go_wp2_with fail
  refine (drawOff _ _ 0 w0 r0 (by omega)).mono ?_
  rintro e w1 ⟨a, len, cap, L, k1, rfl, l1, l10, hL, hR, hk, hC⟩
  have G1 : Hid (ClsAt (fun b => w0.heap.size ≤ b) (fun b => w0.heap.size ≤ b) w1 a len L) := hL
  have R1 : Hid (Rd w.heap.size w1 w.heap.size k1) := hR
  have B1 : Hid (Below w.heap.size w w1) := B0.out.trans (hC.below (by rw [S0.out]; omega) (fun i hi e => by omega))
  have hRG : w.heap.size < w0.heap.size := by rw [S0.out]; omega
  clear hL hR hC r0
  go_wp2_with fail
  refine (pick _ _ k1 len w1 R1.out (by omega) (by omega)).mono ?_
  rintro e w2 ⟨u, rfl, u0, u1, h2⟩
  have G2 : Hid _ := Rd.cls G1.out h2 hRG
  have R2 : Hid _ := h2.rd
  have B2 : Hid (Below w.heap.size w w2) := B1.out.trans h2.below
  clear h2
  go_wp2_with fail
  refine (pick _ _ (k1 + 1) 24 w2 R2.out (by omega) (by omega)).mono ?_
  rintro e w3 ⟨v, rfl, v0, v1, h3⟩
  have G3 : Hid _ := Rd.cls G2.out h3 hRG
  have R3 : Hid _ := h3.rd
  have B3 : Hid (Below w.heap.size w w3) := B2.out.trans h3.below
  clear h3
  go_wp2_with fail
  refine (pick _ _ (k1 + 2) len w3 R3.out (by omega) (by omega)).mono ?_
  rintro e w4 ⟨s, rfl, s0, s1, h4⟩
  have G4 : Hid _ := Rd.cls G3.out h4 hRG
  have R4 : Hid _ := h4.rd
  have B4 : Hid (Below w.heap.size w w4) := B3.out.trans h4.below
  clear h4
  go_wp2_with fail
  refine (pick _ _ (k1 + 3) 24 w4 R4.out (by omega) (by omega)).mono ?_
  rintro e w5 ⟨t, rfl, t0, t1, h5⟩
  have G5 : Hid _ := Rd.cls G4.out h5 hRG
  have B5 : Hid (Below w.heap.size w w5) := B4.out.trans h5.below
  clear h5
  go_wp2_with fail
  go_ret3
  refine ⟨a, len, cap, L, _, _, rfl, l1, l10, G5.out.mono (fun b hb _ => by have := S0.out; omega) (fun b hb _ => by have := S0.out; omega), by omega, by omega, B5.out⟩

end Go.Proofs.Ytcmjhgpkpiadmaa
