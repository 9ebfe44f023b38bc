/-
  What marking and asking does of a memory of one's own.
-/
import Derived.Test.YtjbmcdekhhbiaaaGreatMrkB
import Derived.Test.YtjbmcdekhhbiaaaGreatMrkU
import Derived.Test.YtjbmcdekhhbiaaaGreatSxB
namespace Go.Proofs.YtjbmcdekhhbiaaaGreat
open Go.ChangeShapes Go.WideShapes Go.ChangeAt Go.RowKit
set_option linter.unusedVariables false

theorem Wri.lt {w : World} {n : Nat} {a : Option Addr} {f : Nat → Int} (h : Wri w a n f) (x : Addr) (e : a = some x) (hn : 0 < n) : x.block < w.heap.size := by
  subst e
  rcases h.cells with h0 | ⟨g, off, e, hc⟩
  · omega
  · obtain rfl := Option.some.inj e
    exact World.block_lt_of_cell? w _ (hc 0 hn).1
theorem WriB.lt {w : World} {n : Nat} {a : Option Addr} {f : Nat → Bool} (h : WriB w a n f) (x : Addr) (e : a = some x) (hn : 0 < n) : x.block < w.heap.size := by
  subst e
  rcases h.cells with h0 | ⟨g, off, e, hc⟩
  · omega
  · obtain rfl := Option.some.inj e
    exact World.block_lt_of_cell? w _ (hc 0 hn).1
/-- The blocks of a memory's two lists. -/
def MemD (a : Option Addr) (n : Nat) (b : Option Addr) (m : Nat) (i : Nat) : Prop := (∃ x, a = some x ∧ x.block = i ∧ 0 < n) ∨ (∃ x, b = some x ∧ x.block = i ∧ 0 < m)
set_option maxHeartbeats 4000000 in
theorem markRMem (x1 x2 x3 : Int) (a : Option Addr) (n ca : Nat) (b : Option Addr) (m cb : Nat) (k : Int) (f : Nat → Int) (g : Nat → Bool) (w : World) (h : Wri w a n f) (h2 : WriB w b m g) (hn : n ≤ 1048576) (hm : m ≤ 1048576) (hab : ∀ x y, a = some x → b = some y → 0 < n → 0 < m → x.block ≠ y.block) (k0 : 0 ≤ k) (k1 : k ≤ 1000000000) :
    Calls Tryz.prog 15 #[.agg #[.slice a n ca, .int .i64 x1, .int .i64 x2, .int .i64 x3, .slice b m cb], .int .i64 k] w fun e w' => e = .returned (.int .i64 (k + n + m)) ∧ Wri w' a n (fun j => k + j) ∧ WriB w' b m (fun j => (k + n + (j : Int)) % 3 == 0) ∧ Chg (MemD a n b m) w w' := by
  have H : Hid (Wri w a n f) := h
  have H2 : Hid (WriB w b m g) := h2
  have HAB : Hid (∀ x y, a = some x → b = some y → 0 < n → 0 < m → x.block ≠ y.block) := hab
  clear h h2 hab
  have BL : Hid (Below w.heap.size w (w.alloc (.cells #[.slice a n ca, .int .i64 x1, .int .i64 x2, .int .i64 x3, .slice b m cb] 29))) := (Below.refl _ _).alloc (Nat.le_refl _) _
  go_enter Tryz.func15, Tryz.ntmps15
  go_wp2_with fail
  refine (markOwn a n ca k f _ (H.out.later BL.out) hn k0 (by omega)).mono ?_
  rintro e w2 ⟨rfl, hw, hc⟩
  have HW : Hid (Wri w2 a n (fun j => k + j)) := hw
  have HC : Hid (Chg (fun i => ∃ x, a = some x ∧ x.block = i ∧ 0 < n) (w.alloc (.cells #[.slice a n ca, .int .i64 x1, .int .i64 x2, .int .i64 x3, .slice b m cb] 29)) w2) := hc
  have X2 : Hid (w2.heap[w.heap.size]? = some (.cells #[.slice a n ca, .int .i64 x1, .int .i64 x2, .int .i64 x3, .slice b m cb] 29 (0, 0))) := by
    show _ = _
    rw [hc.block _ (by simp) (fun ⟨x, ex, e, hp⟩ => by have := H.out.lt x ex hp; omega)]
    exact boxN _ _ _ _ rfl
  have H22 : Hid (WriB w2 b m g) := (H2.out.later BL.out).keep hc (fun y ey hp ⟨x, ex, e, hp2⟩ => HAB.out x y ex ey hp2 hp e)
  clear hw hc
  have k4 : w2.cell? ⟨w.heap.size, 4, none⟩ = some (.slice b m cb) := (boxG X2.out 4).1
  go_wp2_with fail
  refine (markOwnB b m cb (k + n) g _ H22.out hm (by omega) (by omega)).mono ?_
  rintro e w3 ⟨rfl, hw3, hc3⟩
  have HW3 : Hid (WriB w3 b m (fun j => (k + n + (j : Int)) % 3 == 0)) := hw3
  have HA3 : Hid (Wri w3 a n (fun j => k + j)) := HW.out.keep hc3 (fun x ex hp ⟨y, ey, e, hp2⟩ => HAB.out x y ex ey hp hp2 e.symm)
  have HF : Hid (Chg (MemD a n b m) w w3) := ((Chg.alloc (MemD a n b m) w _).trans HC.out (fun i _ hi => .inl hi)).trans hc3 (fun i _ hi => .inr hi)
  clear hw3 hc3 k4
  go_wp2_with fail
  go_ret
  exact ⟨rfl, HA3.out, HW3.out, HF.out⟩
set_option maxHeartbeats 4000000 in
theorem heldRMem (x1 x2 x3 : Int) (a : Option Addr) (n ca : Nat) (b : Option Addr) (m cb : Nat) (k : Int) (w : World) (h : Wri w a n (fun j => k + j)) (h2 : WriB w b m (fun j => (k + n + (j : Int)) % 3 == 0)) (hn : n ≤ 1048576) (hm : m ≤ 1048576) (k0 : 0 ≤ k) (k1 : k ≤ 1000000000) :
    Calls Tryz.prog 16 #[.agg #[.slice a n ca, .int .i64 x1, .int .i64 x2, .int .i64 x3, .slice b m cb], .int .i64 k] w fun e w' => e = .returned (.int .i64 (k + n + m)) ∧ Below w.heap.size w w' := by
  have H : Hid (Wri w a n (fun j => k + j)) := h
  have H2 : Hid (WriB w b m (fun j => (k + n + (j : Int)) % 3 == 0)) := h2
  clear h h2
  have BL : Hid (Below w.heap.size w (w.alloc (.cells #[.slice a n ca, .int .i64 x1, .int .i64 x2, .int .i64 x3, .slice b m cb] 29))) := (Below.refl _ _).alloc (Nat.le_refl _) _
  go_enter Tryz.func16, Tryz.ntmps16
  go_wp2_with fail
  refine (heldOwn a n ca k _ (H.out.later BL.out) hn k0 (by omega)).mono ?_
  rintro e w2 ⟨rfl, rfl⟩
  have hp : ¬ (k + (n : Int) < 0) := by omega
  go_wp2_with fail
  refine (heldOwnB b m cb (k + n) _ (H2.out.later BL.out) hm (by omega) (by omega)).mono ?_
  rintro e w3 ⟨rfl, rfl⟩
  have hp2 : ¬ (k + (n : Int) + (m : Int) < 0) := by omega
  go_wp2_with fail
  go_ret
  exact ⟨rfl, BL.out⟩

set_option maxHeartbeats 4000000 in
theorem markXMem (x1 x2 x3 : Int) (a : Option Addr) (n ca : Nat) (b : Option Addr) (m cb : Nat) (k : Int) (w : World) {D : Nat → Prop} (h0 : SlP intR D w a n) (h1 : SlP boolR D w b m) (hz : Thw D w) (k0 : 0 ≤ k) (k1 : k ≤ 4000000000000000) :
    Calls Tryz.prog 15 #[.agg #[.slice a n ca, .int .i64 x1, .int .i64 x2, .int .i64 x3, .slice b m cb], .int .i64 k] w fun e w' => ∃ r : Int, e = .returned (.int .i64 r) ∧ 0 ≤ r ∧ Chg D w w' := by
  have H0 : Hid (SlP intR D w a n) := h0
  have H1 : Hid (SlP boolR D w b m) := h1
  have HZ : Hid (Thw D w) := hz
  have M0 : Hid (Mkd D w (w.alloc (.cells #[.slice a n ca, .int .i64 x1, .int .i64 x2, .int .i64 x3, .slice b m cb] 29))) := (Mkd.refl _ _).alloc _ _
  have C1 : Hid ((w.alloc (.cells #[.slice a n ca, .int .i64 x1, .int .i64 x2, .int .i64 x3, .slice b m cb] 29)).cell? ⟨w.heap.size, 4, none⟩ = some (.slice b m cb)) := by show _ = _; rw [World.cell?_alloc_at _ _ _ _ rfl]; rfl
  clear h0 h1 hz
  go_enter Tryz.func15, Tryz.ntmps15
  go_wp2_with fail
  refine (markLInt _ _ _ _ _ (D := D) (H0.out.sty sts_int M0.out.sty) (HZ.out.mkd M0.out) k0 (by omega)).mono ?_
  rintro e w1 ⟨r, rfl, r0, r1, hm⟩
  have M1 : Hid (Mkd D w w1) := M0.out.trans hm
  have d1 := hm.sty.slice C1.out
  clear hm
  go_wp2_with fail
  refine (markLBool _ _ _ _ _ (D := D) (H1.out.sty sts_bool M1.out.sty) (HZ.out.mkd M1.out) (by omega) (by omega)).mono ?_
  rintro e w2 ⟨q, rfl, q0, q1, hm⟩
  have M2 : Hid (Mkd D w w2) := M1.out.trans hm
  clear hm
  go_wp2_with fail
  go_ret
  exact ⟨_, rfl, by omega, M2.out.chg⟩

end Go.Proofs.YtjbmcdekhhbiaaaGreat
