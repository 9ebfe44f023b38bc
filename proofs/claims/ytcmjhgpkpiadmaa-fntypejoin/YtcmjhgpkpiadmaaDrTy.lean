/-
  What the laws on fields and types draw of a code, whatever the code: a list of classes, not empty, and a number or two.
-/
import Derived.Test.YtcmjhgpkpiadmaaDrUp
namespace Go.Proofs.Ytcmjhgpkpiadmaa
open Go.ChangeShapes Go.WideShapes Go.ChangeAt Go.RowKit

/-- What is so behind the drawing of a type. -/
def DrawnTy (w : World) (B R k : Nat) (e : Ending) (w' : World) : Prop :=
  ∃ (t : Int) (k' : Nat), e = .returned (.int .i64 t) ∧ (-1000 ≤ t ∧ t ≤ 1000) ∧ Rd B w' R k' ∧ k' ≤ k + 10 ∧ Ch (fun i => i = R) w w'

theorem four_ty (m : Nat) (n : Int) (h : (m : Int) < 4) (n0 : 1 ≤ n) (n1 : n ≤ 100) : ∃ x : Int, -1000 ≤ x ∧ x ≤ 1000 ∧ (#[Value.int .i64 (-1), Value.int .i64 5, Value.int .i64 7, Value.int .i64 (8 + n)] : Array Value)[m]? = some (.int .i64 x) := by
  rcases (show m = 0 ∨ m = 1 ∨ m = 2 ∨ m = 3 by omega) with rfl | rfl | rfl | rfl
  · exact ⟨-1, by omega, by omega, rfl⟩
  · exact ⟨5, by omega, by omega, rfl⟩
  · exact ⟨7, by omega, by omega, rfl⟩
  · exact ⟨8 + n, by omega, by omega, rfl⟩

theorem drawType (B R k : Nat) (n : Int) (w : World) (h : Rd B w R k) (hk : k ≤ 900000) (n0 : 1 ≤ n) (n1 : n ≤ 100) :
    Calls Try.prog 24 #[.pointer (some ⟨R, 0, none⟩), .int .i64 n] w fun e w' => DrawnTy w B R k e w' := by
  go_enter Try.func24, Try.ntmps24
  go_wp2_with fail
  refine (pick B R k 8 w h (by omega) (by omega)).mono ?_
  rintro e w1 ⟨v, rfl, v0, v1, h1⟩
  have R1 : Hid (Rd B w1 R (k + 1)) := h1.rd
  have C1 : Hid (Ch (fun i => i = R) w w1) := h1.ch
  clear h1 h
  rcases (show v = 0 ∨ v = 1 ∨ v = 2 ∨ 3 ≤ v by omega) with rfl | rfl | rfl | h3
  · go_wp2_with fail
    go_ret
    exact ⟨_, _, rfl, by omega, R1.out, by omega, C1.out⟩
  · go_wp2_with fail
    go_ret
    exact ⟨_, _, rfl, by omega, R1.out, by omega, C1.out⟩
  · go_wp2_with fail
    refine (pick B R (k + 1) 6 w1 R1.out (by omega) (by omega)).mono ?_
    rintro e w2 ⟨u, rfl, u0, u1, h2⟩
    have R2 : Hid (Rd B w2 R (k + 2)) := h2.rd
    have C2 : Hid (Ch (fun i => i = R) w w2) := C1.out.trans h2.ch (fun _ _ h => h)
    clear h2
    by_cases hu : u = 0
    · subst hu
      go_wp2_with fail
      refine (pick B R (k + 2) 4 _ (R2.out.alloc _) (by omega) (by omega)).mono ?_
      rintro e w3 ⟨s, rfl, s0, s1, h3⟩
      obtain ⟨m, rfl⟩ := Int.eq_ofNat_of_zero_le s0
      obtain ⟨x, x0, x1, hx⟩ := four_ty m n s1 n0 n1
      have hR := R2.out.size
      have hc : w3.cell? ⟨w2.heap.size, m, none⟩ = some (.int .i64 x) := by
        rw [h3.cell _ _ (by omega), World.cell?_alloc_at _ _ _ _ rfl]
        exact hx
      have R3 : Hid (Rd B w3 R (k + 3)) := h3.rd
      have C3 : Hid (Ch (fun i => i = R) w w3) := (C2.out.alloc _).trans h3.ch (fun _ _ h => h)
      clear h3 hx
      go_wp2_with fail
      go_ret
      exact ⟨_, _, rfl, by omega, R3.out, by omega, C3.out⟩
    · have hu' : (u == 0) = false := by simp [hu]
      go_wp2_with fail
      refine (drawField B R (k + 2) n w2 R2.out (by omega) n0 n1).mono ?_
      rintro e w3 ⟨t, k3, rfl, t0, t1, r3, hk3, c3, s3⟩
      have R3 : Hid (Rd B w3 R k3) := r3
      have C3 : Hid (Ch (fun i => i = R) w w3) := C2.out.trans c3 (fun _ _ h => h)
      clear r3 c3 s3
      go_wp2_with fail
      go_ret
      exact ⟨_, _, rfl, by omega, R3.out, by omega, C3.out⟩
  · have e0 : (v == 0) = false := by simp; omega
    have e1 : (v == 1) = false := by simp; omega
    have e2 : (v == 2) = false := by simp; omega
    go_wp2_with fail
    refine (drawField B R (k + 1) n w1 R1.out (by omega) n0 n1).mono ?_
    rintro e w3 ⟨t, k3, rfl, t0, t1, r3, hk3, c3, s3⟩
    have R3 : Hid (Rd B w3 R k3) := r3
    have C3 : Hid (Ch (fun i => i = R) w w3) := C1.out.trans c3 (fun _ _ h => h)
    clear r3 c3 s3
    go_wp2_with fail
    go_ret
    exact ⟨_, _, rfl, by omega, R3.out, by omega, C3.out⟩

theorem Ch.cls {R : Nat} {w w' : World} {a : Option Addr} {len : Nat} {L : List Cl} {G : Nat} (h : ClsAt (fun b => G ≤ b) (fun b => G ≤ b) w a len L) (c : Ch (fun i => i = R) w w') (hR : R < G) : ClsAt (fun b => G ≤ b) (fun b => G ≤ b) w' a len L :=
  h.keep fun b o hb hl => c.cell b o hl (by rcases hb with hb | hb <;> omega)

theorem drawTyIn (a0 : Option Addr) (len0 cap0 : Nat) (zs : List Int) (w : World) (h : IsRow .u8 w a0 len0 cap0 zs) :
    Calls Try.prog 8 #[.slice a0 len0 cap0] w fun e w' => DrawnUp w e w' := by
  go_enter Try.func8, Try.ntmps8
  go_wp2_with fail
  refine (openRd a0 len0 cap0 zs w h).mono ?_
  rintro e w0 ⟨rfl, r0, b0, s0⟩
  have S0 : Hid (w0.heap.size = w.heap.size + 1) := s0
  have B0 : Hid (Below w.heap.size w w0) := b0
  clear h s0 b0
  go_wp2_with fail
  refine (drawOff _ _ 0 w0 r0 (by omega)).mono ?_
  rintro e w1 ⟨a, len, cap, L, k1, rfl, l1, l10, hL, hR, hk, hC⟩
  have G1 : Hid (ClsAt (fun b => w0.heap.size ≤ b) (fun b => w0.heap.size ≤ b) w1 a len L) := hL
  have R1 : Hid (Rd w.heap.size w1 w.heap.size k1) := hR
  have B1 : Hid (Below w.heap.size w w1) := B0.out.trans (hC.below (by rw [S0.out]; omega) (fun i hi e => by omega))
  have hRG : w.heap.size < w0.heap.size := by rw [S0.out]; omega
  clear hL hR hC r0
  go_wp2_with fail
  refine (drawType _ _ k1 len w1 R1.out (by omega) (by omega) (by omega)).mono ?_
  rintro e w2 ⟨x, k2, rfl, x01, r2, hk2, c2⟩
  have G2 : Hid _ := Ch.cls G1.out c2 hRG
  have R2 : Hid (Rd w.heap.size w2 w.heap.size k2) := r2
  have B2 : Hid (Below w.heap.size w w2) := B1.out.trans (c2.below B1.out.size (fun i hi e => by omega))
  clear c2 r2
  go_wp2_with fail
  refine (drawType _ _ k2 len w2 R2.out (by omega) (by omega) (by omega)).mono ?_
  rintro e w3 ⟨y, k3, rfl, y01, r3, hk3, c3⟩
  have G3 : Hid _ := Ch.cls G2.out c3 hRG
  have B3 : Hid (Below w.heap.size w w3) := B2.out.trans (c3.below B2.out.size (fun i hi e => by omega))
  clear c3 r3
  go_wp2_with fail
  go_ret3
  exact ⟨a, len, cap, L, _, _, rfl, l1, l10, G3.out.mono (fun b hb _ => by have := S0.out; omega) (fun b hb _ => by have := S0.out; omega), x01, y01, B3.out⟩

theorem drawTyJoin (a0 : Option Addr) (len0 cap0 : Nat) (zs : List Int) (w : World) (h : IsRow .u8 w a0 len0 cap0 zs) :
    Calls Try.prog 16 #[.slice a0 len0 cap0] w fun e w' => DrawnUp w e w' := by
  go_enter Try.func16, Try.ntmps16
  go_wp2_with fail
  refine (drawTyIn a0 len0 cap0 zs w h).mono ?_
  rintro e w1 ⟨a, len, cap, L, x, y, rfl, hh⟩
  have HH : Hid _ := hh
  clear hh h
  go_wp2_with fail
  go_ret3
  exact ⟨a, len, cap, L, x, y, rfl, HH.out⟩

end Go.Proofs.Ytcmjhgpkpiadmaa
