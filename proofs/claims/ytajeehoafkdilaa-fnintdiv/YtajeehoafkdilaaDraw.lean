/-
  What the laws on words draw of a code, whatever the code: a number that is an int, or an operation and two numbers, in new memory alone.
-/
import Derived.Test.YtajeehoafkdilaaInts
import Derived.Test.YtajeehoafkdilaaPick
import Derived.WalkLawsBesides
namespace Go.Proofs.Ytajeehoafkdilaa
open Go.ChangeShapes Go.WideShapes Go.ChangeAt Go.RowKit

theorem openFin (a : Option Addr) (len cap m : Nat) (zs : List Int) (w : World) (h : IsRow .u8 w a len cap zs) (hm : m ≤ len) (hm2 : m ≤ 2000) :
    Rd w.heap.size (w.alloc (.cells #[.slice a m cap, .int .i64 0] 44)) w.heap.size 0 := by
  have hr := row_bytes h m hm hm2
  refine ⟨Nat.le_refl _, by simp, ?_, ?_, a, m, cap, ?_, ?_⟩
  · rw [World.cell?_alloc_at _ _ _ _ rfl]; rfl
  · exact World.frozen?_alloc_at _ _ _ _ rfl
  · rw [World.cell?_alloc_at _ _ _ _ rfl]; rfl
  · rcases hr with hr | ⟨b, off, f, ha, hb, hm, hf⟩
    · exact .inl hr
    · exact .inr ⟨b, off, f, ha, hb, hm, fun i hi => ⟨by rw [World.cell?_alloc_past _ _ _ hb]; exact (hf i hi).1, (hf i hi).2⟩⟩

theorem openRd (a : Option Addr) (len cap : Nat) (zs : List Int) (w : World) (h : IsRow .u8 w a len cap zs) :
    Calls Try.prog 14 #[.slice a len cap] w fun e w' => e = .returned (.pointer (some ⟨w.heap.size, 0, none⟩)) ∧ Rd w.heap.size w' w.heap.size 0 ∧ Below w.heap.size w w' ∧ w'.heap.size = w.heap.size + 1 := by
  by_cases hl : len ≤ 2000
  · have Fin : Hid (Rd w.heap.size (w.alloc (.cells #[.slice a len cap, .int .i64 0] 44)) w.heap.size 0) := openFin a len cap len zs w h (Nat.le_refl _) hl
    clear h
    go_enter Try.func14, Try.ntmps14
    go_wp2
    go_ret
    exact ⟨rfl, Fin.out, by go_grown, by simp⟩
  · have Fin : Hid (Rd w.heap.size (w.alloc (.cells #[.slice a 2000 cap, .int .i64 0] 44)) w.heap.size 0) := openFin a len cap 2000 zs w h (by omega) (Nat.le_refl _)
    rcases h with ⟨rfl, rfl, rfl, rfl⟩ | ⟨x, rfl, hlc, hc, hz, hcell, hwz⟩
    · exact absurd (Nat.zero_le _) hl
    · clear hcell hwz hz
      unfold maxLen at hc
      have hl1 : 2000 < len := by omega
      have hl2 : 2000 ≤ cap := by omega
      go_enter Try.func14, Try.ntmps14
      go_wp2
      go_ret
      exact ⟨rfl, Fin.out, by go_grown, by simp⟩

theorem Rd.alloc {B R k : Nat} {w : World} (h : Rd B w R k) (o : Obj) : Rd B (w.alloc o) R k := by
  have hlow := h.low
  have hs := h.size
  refine ⟨h.low, by simp; omega, ?_, ?_, ?_⟩
  · rw [World.cell?_alloc_past _ _ _ hs]; exact h.at0
  · rw [World.frozen?_alloc_past _ _ _ hs]; exact h.free
  · obtain ⟨a, len, cap, hc, hr⟩ := h.code
    refine ⟨a, len, cap, by rw [World.cell?_alloc_past _ _ _ hs]; exact hc, ?_⟩
    rcases hr with hr | ⟨b, off, f, ha, hb, hl, hf⟩
    · exact .inl hr
    · exact .inr ⟨b, off, f, ha, hb, hl, fun i hi => ⟨by rw [World.cell?_alloc_past _ _ _ (by omega)]; exact (hf i hi).1, (hf i hi).2⟩⟩

/-- A step of the reader leaves the cells of every other block. -/
theorem Stp.cell {B R k : Nat} {w w' : World} (h : Stp B R k w w') (b o : Nat) (hb : b ≠ R) : w'.cell? ⟨b, o, none⟩ = w.cell? ⟨b, o, none⟩ :=
  World.cell?_of_block (w := w) (h.block b hb)

theorem six_of (m : Nat) (h : (m : Int) < 6) : m = 0 ∨ m = 1 ∨ m = 2 ∨ m = 3 ∨ m = 4 ∨ m = 5 := by omega

theorem drawWord (B R k : Nat) (w : World) (h : Rd B w R k) (hk : k ≤ 999990) :
    Calls Try.prog 16 #[.pointer (some ⟨R, 0, none⟩)] w fun e w' => ∃ v k', e = .returned (.int .i64 v) ∧ -128 ≤ v ∧ v ≤ 127 ∧ Rd B w' R k' ∧ k' ≤ k + 2 ∧ Below B w w' ∧ w.heap.size ≤ w'.heap.size := by
  go_enter Try.func16, Try.ntmps16
  go_wp2_with fail
  refine (pick B R k 3 w h (by omega) (by omega)).mono ?_
  rintro e w1 ⟨v, rfl, v0, v1, h1⟩
  by_cases hv : v = 0
  · subst hv
    go_wp2_with fail
    refine (pick B R (k + 1) 6 _ (h1.rd.alloc _) (by omega) (by omega)).mono ?_
    rintro e w2 ⟨u, rfl, u0, u1, h2⟩
    obtain ⟨m, rfl⟩ := Int.eq_ofNat_of_zero_le u0
    have hs := h1.rd.size
    obtain ⟨x, x0, x1, hx⟩ : ∃ x : Int, -128 ≤ x ∧ x ≤ 127 ∧ w2.cell? ⟨w1.heap.size, m, none⟩ = some (.int .i64 x) := by
      rw [h2.cell _ _ (by omega), World.cell?_alloc_at _ _ _ _ rfl]
      rcases six_of m u1 with rfl | rfl | rfl | rfl | rfl | rfl <;> exact ⟨_, by decide, by decide, rfl⟩
    have bel : Below B w w2 := (h1.below.alloc (by have := h1.rd.low; omega) _).trans h2.below
    have siz : w.heap.size ≤ w2.heap.size := by have a1 := h1.size; have a2 := h2.size; simp at a2; omega
    have rd2 := h2.rd
    clear h2 h1
    go_wp2_with fail
    go_ret
    exact ⟨_, _, rfl, x0, x1, rd2, by omega, bel, siz⟩
  · have hv' : (v == 0) = false := by simp [hv]
    go_wp2_with fail
    refine (pick B R (k + 1) 12 w1 h1.rd (by omega) (by omega)).mono ?_
    rintro e w2 ⟨u, rfl, u0, u1, h2⟩
    go_wp2_with fail
    go_ret
    exact ⟨_, _, rfl, by omega, by omega, h2.rd, by omega, h1.below.trans h2.below, by rw [h2.size, h1.size]; exact Nat.le_refl _⟩

theorem drawWrap (a : Option Addr) (len cap : Nat) (zs : List Int) (w : World) (h : IsRow .u8 w a len cap zs) :
    Calls Try.prog 8 #[.slice a len cap] w fun e w' => ∃ n : Int, e = .returned (.int .i64 n) ∧ -9223372036854775808 ≤ n ∧ n ≤ 9223372036854775807 ∧ Below w.heap.size w w' := by
  go_enter Try.func8, Try.ntmps8
  go_wp2_with fail
  refine (openRd a len cap zs w h).mono ?_
  rintro e w0 ⟨rfl, r0, b0, s0⟩
  go_wp2_with fail
  refine (pick _ _ 0 4 w0 r0 (by omega) (by omega)).mono ?_
  rintro e w1 ⟨v, rfl, v0, v1, h1⟩
  by_cases hv : v = 0
  · subst hv
    go_wp2_with fail
    refine (pick _ _ 1 250 _ h1.rd (by omega) (by omega)).mono ?_
    rintro e w2 ⟨u, rfl, u0, u1, h2⟩
    go_wp2_with fail
    refine (pick _ _ 2 250 _ h2.rd (by omega) (by omega)).mono ?_
    rintro e w3 ⟨t, rfl, t0, t1, h3⟩
    go_wp2_with fail
    refine (pick _ _ 3 6 _ (h3.rd.alloc _) (by omega) (by omega)).mono ?_
    rintro e w4 ⟨s, rfl, z0, z1, h4⟩
    obtain ⟨m, rfl⟩ := Int.eq_ofNat_of_zero_le z0
    have hs := h3.rd.size
    obtain ⟨x, x0, x1, hx⟩ : ∃ x : Int, -9223372036854775808 ≤ x ∧ x ≤ 9223372036854775807 ∧ w4.cell? ⟨w3.heap.size, m, none⟩ = some (.int .i64 x) := by
      rw [h4.cell _ _ (by omega), World.cell?_alloc_at _ _ _ _ rfl]
      rcases six_of m z1 with rfl | rfl | rfl | rfl | rfl | rfl <;> exact ⟨_, by omega, by omega, rfl⟩
    have bel : Below w.heap.size w w4 := (((b0.trans h1.below).trans h2.below).trans h3.below |>.alloc (by have := h3.rd.low; omega) _).trans h4.below
    clear h4 h3 h2 h1 b0 r0 h
    go_wp2_with fail
    go_ret
    exact ⟨_, rfl, x0, x1, bel⟩
  · have hv' : (v == 0) = false := by simp [hv]
    go_wp2_with fail
    refine (pick _ _ 1 256 _ h1.rd (by omega) (by omega)).mono ?_
    rintro e w2 ⟨u, rfl, u0, u1, h2⟩
    go_wp2_with fail
    refine (pick _ _ 2 4 _ h2.rd (by omega) (by omega)).mono ?_
    rintro e w3 ⟨t, rfl, t0, t1, h3⟩
    have m0 : -512 ≤ (u - 128) * (1 + t) := by
      rcases (show t = 0 ∨ t = 1 ∨ t = 2 ∨ t = 3 by omega) with rfl | rfl | rfl | rfl <;> omega
    have m1 : (u - 128) * (1 + t) ≤ 508 := by
      rcases (show t = 0 ∨ t = 1 ∨ t = 2 ∨ t = 3 by omega) with rfl | rfl | rfl | rfl <;> omega
    go_wp2_with fail
    refine (pick _ _ 3 7 _ h3.rd (by omega) (by omega)).mono ?_
    rintro e w4 ⟨s, rfl, z0, z1, h4⟩
    go_wp2_with fail
    go_ret
    exact ⟨_, rfl, by omega, by omega, ((b0.trans h1.below).trans h2.below).trans h3.below |>.trans h4.below⟩

theorem drawDo (a : Option Addr) (len cap : Nat) (zs : List Int) (w : World) (h : IsRow .u8 w a len cap zs) :
    Calls Try.prog 11 #[.slice a len cap] w fun e w' => ∃ o x y : Int, e = .returned (.tuple #[.int .i64 o, .int .i64 x, .int .i64 y]) ∧ -1000 ≤ o ∧ o ≤ 1000 ∧ -1000 ≤ x ∧ x ≤ 1000 ∧ -1000 ≤ y ∧ y ≤ 1000 ∧ Below w.heap.size w w' := by
  go_enter Try.func11, Try.ntmps11
  go_wp2_with fail
  refine (openRd a len cap zs w h).mono ?_
  rintro e w0 ⟨rfl, r0, b0, s0⟩
  clear h
  go_wp2_with fail
  refine (pick _ _ 0 256 w0 r0 (by omega) (by omega)).mono ?_
  rintro e w1 ⟨u, rfl, u0, u1, h1⟩
  go_wp2_with fail
  refine (pick _ _ 1 256 w1 h1.rd (by omega) (by omega)).mono ?_
  rintro e w2 ⟨t, rfl, t0, t1, h2⟩
  go_wp2_with fail
  refine (pick _ _ 2 3 w2 h2.rd (by omega) (by omega)).mono ?_
  rintro e w3 ⟨v, rfl, v0, v1, h3⟩
  have b3 : Below w.heap.size w w3 := ((b0.trans h1.below).trans h2.below).trans h3.below
  have r3 := h3.rd
  clear h1 h2 h3 r0 b0
  by_cases hv : v = 0
  · subst hv
    go_wp2_with fail
    refine (drawWord _ _ 3 w3 r3 (by omega)).mono ?_
    rintro e w4 ⟨y, k, rfl, y0, y1, r4, k4, b4, s4⟩
    go_wp2_with fail
    refine (pick _ _ k 24 w4 r4 (by omega) (by omega)).mono ?_
    rintro e w5 ⟨c, rfl, c0, c1, h5⟩
    by_cases hc : c = 0
    · subst hc
      go_wp2_with fail
      refine (pick _ _ (k + 1) 4 w5 h5.rd (by omega) (by omega)).mono ?_
      rintro e w6 ⟨d, rfl, d0, d1, h6⟩
      go_wp2_with fail
      refine (pick _ _ (k + 2) 24 w6 h6.rd (by omega) (by omega)).mono ?_
      rintro e w7 ⟨f, rfl, f0, f1, h7⟩
      go_wp2_with fail
      go_ret3
      exact ⟨_, _, _, rfl, by omega, by omega, by omega, by omega, by omega, by omega, ((b3.trans b4).trans h5.below).trans h6.below |>.trans h7.below⟩
    · have hc' : (c == 0) = false := by simp [hc]
      by_cases hd : c = 1
      · subst hd
        go_wp2_with fail
        refine (pick _ _ (k + 1) 4 w5 h5.rd (by omega) (by omega)).mono ?_
        rintro e w6 ⟨d, rfl, d0, d1, h6⟩
        go_wp2_with fail
        refine (pick _ _ (k + 2) 24 w6 h6.rd (by omega) (by omega)).mono ?_
        rintro e w7 ⟨f, rfl, f0, f1, h7⟩
        go_wp2_with fail
        go_ret3
        exact ⟨_, _, _, rfl, by omega, by omega, by omega, by omega, by omega, by omega, ((b3.trans b4).trans h5.below).trans h6.below |>.trans h7.below⟩
      · have hd' : (c == 1) = false := by simp [hd]
        go_wp2_with fail
        refine (pick _ _ (k + 1) 4 w5 h5.rd (by omega) (by omega)).mono ?_
        rintro e w6 ⟨d, rfl, d0, d1, h6⟩
        go_wp2_with fail
        refine (pick _ _ (k + 2) 24 w6 h6.rd (by omega) (by omega)).mono ?_
        rintro e w7 ⟨f, rfl, f0, f1, h7⟩
        go_wp2_with fail
        go_ret3
        exact ⟨_, _, _, rfl, by omega, by omega, by omega, by omega, by omega, by omega, ((b3.trans b4).trans h5.below).trans h6.below |>.trans h7.below⟩
  · have hv' : (v == 0) = false := by simp [hv]
    go_wp2_with fail
    refine (pick _ _ 3 24 w3 r3 (by omega) (by omega)).mono ?_
    rintro e w5 ⟨c, rfl, c0, c1, h5⟩
    by_cases hc : c = 0
    · subst hc
      go_wp2_with fail
      refine (pick _ _ 4 4 w5 h5.rd (by omega) (by omega)).mono ?_
      rintro e w6 ⟨d, rfl, d0, d1, h6⟩
      go_wp2_with fail
      refine (pick _ _ 5 24 w6 h6.rd (by omega) (by omega)).mono ?_
      rintro e w7 ⟨f, rfl, f0, f1, h7⟩
      go_wp2_with fail
      go_ret3
      exact ⟨_, _, _, rfl, by omega, by omega, by omega, by omega, by omega, by omega, (b3.trans h5.below).trans h6.below |>.trans h7.below⟩
    · have hc' : (c == 0) = false := by simp [hc]
      by_cases hd : c = 1
      · subst hd
        go_wp2_with fail
        refine (pick _ _ 4 4 w5 h5.rd (by omega) (by omega)).mono ?_
        rintro e w6 ⟨d, rfl, d0, d1, h6⟩
        go_wp2_with fail
        refine (pick _ _ 5 24 w6 h6.rd (by omega) (by omega)).mono ?_
        rintro e w7 ⟨f, rfl, f0, f1, h7⟩
        go_wp2_with fail
        go_ret3
        exact ⟨_, _, _, rfl, by omega, by omega, by omega, by omega, by omega, by omega, (b3.trans h5.below).trans h6.below |>.trans h7.below⟩
      · have hd' : (c == 1) = false := by simp [hd]
        go_wp2_with fail
        refine (pick _ _ 4 4 w5 h5.rd (by omega) (by omega)).mono ?_
        rintro e w6 ⟨d, rfl, d0, d1, h6⟩
        go_wp2_with fail
        refine (pick _ _ 5 24 w6 h6.rd (by omega) (by omega)).mono ?_
        rintro e w7 ⟨f, rfl, f0, f1, h7⟩
        go_wp2_with fail
        go_ret3
        exact ⟨_, _, _, rfl, by omega, by omega, by omega, by omega, by omega, by omega, (b3.trans h5.below).trans h6.below |>.trans h7.below⟩

end Go.Proofs.Ytajeehoafkdilaa
