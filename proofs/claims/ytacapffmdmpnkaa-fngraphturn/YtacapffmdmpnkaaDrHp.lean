/-
  What the laws on things draw of a code, whatever the code: some things and some roots, in new memory alone.
-/
import Derived.Test.YtacapffmdmpnkaaGrSpec
namespace Go.Proofs.Ytacapffmdmpnkaa
open Go.ChangeShapes Go.WideShapes Go.ChangeAt Go.RowKit

theorem gr_trans {a b c : World} {row : Option Nat} (h : a.grownBy b row) (k : b.grownBy c row) : a.grownBy c row :=
  ⟨k.os.trans h.os, k.tape.trans h.tape, k.output.trans h.output, Nat.le_trans h.size k.size, fun i hi hn => (k.block i (Nat.lt_of_lt_of_le hi h.size) hn).trans (h.block i hi hn)⟩
theorem Stp.gr {B R k : Nat} {w w' : World} (h : Stp B R k w w') : w.grownBy w' (some R) :=
  ⟨h.below.os, h.below.tape, h.below.output, by rw [h.size]; exact Nat.le_refl _, fun j _ hj => h.block j (fun e => hj (by rw [e]))⟩
theorem gr_alloc (w : World) (o : Obj) (R : Nat) : w.grownBy (w.alloc o) (some R) :=
  ⟨rfl, rfl, rfl, by simp, fun k hk _ => Below.heap_alloc w o k hk⟩
theorem gr_new {a b : World} {row : Option Nat} (h : a.grownBy b row) {p : Addr} (hp : a.heap.size ≤ p.block) (v : Value) : a.grownBy (b.setCell p v) row :=
  ⟨h.os, h.tape, h.output, by rw [World.size_setCell]; exact h.size, fun k hk hn => (Below.heap_setCell b p v k (fun e => by omega)).trans (h.block k hk hn)⟩
theorem Rd.kept {B R k : Nat} {w w' : World} (h : Rd B w R k) (hb : ∀ j, j < B ∨ j = R → w'.heap[j]? = w.heap[j]?) (hs : w.heap.size ≤ w'.heap.size) : Rd B w' R k := by
  have e1 := hb R (.inr rfl)
  refine ⟨h.low, Nat.lt_of_lt_of_le h.size hs, (World.cell?_of_block (a := ⟨R, 1, none⟩) e1).trans h.at0, (World.frozen?_of_block (a := ⟨R, 1, none⟩) e1).trans h.free, ?_⟩
  obtain ⟨a, len, cap, hc, hr⟩ := h.code
  refine ⟨a, len, cap, (World.cell?_of_block (a := ⟨R, 0, none⟩) e1).trans hc, ?_⟩
  rcases hr with hr | ⟨b, off, f, ha, hbB, hl, hf⟩
  · exact .inl hr
  · exact .inr ⟨b, off, f, ha, hbB, hl, fun i hi => ⟨(World.cell?_of_block (a := ⟨b, off + i, none⟩) (hb b (.inl hbB))).trans (hf i hi).1, (hf i hi).2⟩⟩
theorem Rd.set {B R k : Nat} {w : World} (h : Rd B w R k) {p : Addr} (h1 : B ≤ p.block) (h2 : p.block ≠ R) (v : Value) : Rd B (w.setCell p v) R k :=
  h.kept (fun j hj => Below.heap_setCell w p v j (fun e => by rcases hj with hj | hj <;> omega)) (by rw [World.size_setCell]; exact Nat.le_refl _)
theorem six_of (m : Nat) (h : (m : Int) < 6) : m = 0 ∨ m = 1 ∨ m = 2 ∨ m = 3 ∨ m = 4 ∨ m = 5 := by omega

theorem drawWordG (B R k : Nat) (w : World) (h : Rd B w R k) (hk : k ≤ 999990) :
    Calls Try.prog 32 #[.pointer (some ⟨R, 0, none⟩)] w fun e w' => ∃ v k', e = .returned (.int .i64 v) ∧ -128 ≤ v ∧ v ≤ 127 ∧ Rd B w' R k' ∧ k' ≤ k + 2 ∧ w.grownBy w' (some R) := by
  go_enter Try.func32, Try.ntmps32
  go_wp2_with fail
  refine (pick B R k 3 w h (by omega) (by omega)).mono ?_
  rintro e w1 ⟨v, rfl, v0, v1, h1⟩
  by_cases hv : v = 0
  · subst hv
    go_wp2_with fail
    refine (pick B R (k + 1) 6 _ (h1.rd.alloc _) (by omega) (by omega)).mono ?_
    rintro e w2 ⟨u, rfl, u0, u1, h2⟩
    obtain ⟨m, rfl⟩ := Int.eq_ofNat_of_zero_le u0
    have hs := h1.rd.size
    obtain ⟨x, x0, x1, hx⟩ : ∃ x : Int, -128 ≤ x ∧ x ≤ 127 ∧ w2.cell? ⟨w1.heap.size, m, none⟩ = some (.int .i64 x) := by
      rw [h2.cell _ _ (by omega), World.cell?_alloc_at _ _ _ _ rfl]
      rcases six_of m u1 with rfl | rfl | rfl | rfl | rfl | rfl <;> exact ⟨_, by decide, by decide, rfl⟩
    have gg := gr_trans (gr_trans h1.gr (gr_alloc w1 _ R)) h2.gr
    have rd2 := h2.rd
    clear h2 h1
    go_wp2_with fail
    go_ret
    exact ⟨_, _, rfl, x0, x1, rd2, by omega, gg⟩
  · have hv' : (v == 0) = false := by simp [hv]
    go_wp2_with fail
    refine (pick B R (k + 1) 12 w1 h1.rd (by omega) (by omega)).mono ?_
    rintro e w2 ⟨u, rfl, u0, u1, h2⟩
    go_wp2_with fail
    go_ret
    exact ⟨_, _, rfl, by omega, by omega, h2.rd, by omega, gr_trans h1.gr h2.gr⟩

theorem drawVal (B R k n : Nat) (w : World) (h : Rd B w R k) (hk : k ≤ 999900) (hn : n ≤ 1000) :
    Calls Try.prog 22 #[.pointer (some ⟨R, 0, none⟩), .int .i64 n] w fun e w' => ∃ x0 x1 k', e = .returned (.agg #[.bool x0, .int .i64 x1]) ∧ -128 ≤ x1 ∧ x1 ≤ 1000 ∧ Rd B w' R k' ∧ k' ≤ k + 3 ∧ w.grownBy w' (some R) := by
  have H : Hid (Rd B w R k) := h
  have hs := h.size
  clear h
  go_enter Try.func22, Try.ntmps22
  go_wp2_with fail
  refine (pick B R k 2 _ (H.out.alloc _) (by omega) (by omega)).mono ?_
  rintro e w1 ⟨v, rfl, v0, v1, h1⟩
  have G1 : Hid (w.grownBy w1 (some R)) := gr_trans (gr_alloc w _ R) h1.gr
  have R1 : Hid (Rd B w1 R (k + 1)) := h1.rd
  have c0 : w1.cell? ⟨w.heap.size, 0, none⟩ = some (.bool false) := by rw [h1.cell _ _ (by omega)]; simp [go_sem]
  have c1 : w1.cell? ⟨w.heap.size, 1, none⟩ = some (.int .i64 0) := by rw [h1.cell _ _ (by omega)]; simp [go_sem]
  have fz : ∀ o, w1.frozen? ⟨w.heap.size, o, none⟩ = false := fun o => by
    rw [World.frozen?_of_block (a := ⟨w.heap.size, o, none⟩) (h1.block w.heap.size (by omega))]
    simp [go_sem]
  have f0 := fz 0
  have f1 := fz 1
  have s1 : w.heap.size < w1.heap.size := by rw [h1.size]; simp
  clear h1 fz
  by_cases hv : v = 0
  · subst hv
    go_wp2_with fail
    refine (drawWordG B R (k + 1) w1 R1.out (by omega)).mono ?_
    rintro e w2 ⟨u, k', rfl, u0, u1, h2, hk2, g2⟩
    have e2 : w2.heap[w.heap.size]? = w1.heap[w.heap.size]? := g2.block _ s1 (by intro e; simp at e; omega)
    have d0 : w2.cell? ⟨w.heap.size, 0, none⟩ = some (.bool false) := (World.cell?_of_block (a := ⟨w.heap.size, 0, none⟩) e2).trans c0
    have d1 : w2.cell? ⟨w.heap.size, 1, none⟩ = some (.int .i64 0) := (World.cell?_of_block (a := ⟨w.heap.size, 1, none⟩) e2).trans c1
    have k0 : w2.frozen? ⟨w.heap.size, 0, none⟩ = false := (World.frozen?_of_block (a := ⟨w.heap.size, 0, none⟩) e2).trans f0
    have k1 : w2.frozen? ⟨w.heap.size, 1, none⟩ = false := (World.frozen?_of_block (a := ⟨w.heap.size, 1, none⟩) e2).trans f1
    have R2 : Hid (Rd B w2 R k') := h2
    have G2 : Hid (w.grownBy w2 (some R)) := gr_trans G1.out g2
    have s2 : w.heap.size < w2.heap.size := Nat.lt_of_lt_of_le s1 g2.size
    clear h2 g2 e2 c0 c1 f0 f1
    go_wp2_with fail
    refine bodyPost_ret (v := .agg #[.bool false, .int .i64 u]) ?_ rfl ?_
    · simp [results, Try.results22, go_sem, d0, d1]
    · have hlw := R2.out.low
      exact ⟨_, _, k', rfl, by omega, by omega, (R2.out.set (p := ⟨w.heap.size, 0, none⟩) (by simp only; omega) (by simp only; omega) _).set (p := ⟨w.heap.size, 1, none⟩) (by simp only; omega) (by simp only; omega) _, by omega, gr_new (gr_new G2.out (Nat.le_refl _) _) (Nat.le_refl _) _⟩
  · have hv' : (v == 0) = false := by simp [hv]
    go_wp2_with fail
    refine (pick B R (k + 1) ((n : Int) + 1) w1 R1.out (by omega) (by omega)).mono ?_
    rintro e w2 ⟨u, rfl, u0, u1, h2⟩
    have e2 : w2.heap[w.heap.size]? = w1.heap[w.heap.size]? := h2.block _ (by omega)
    have d0 : w2.cell? ⟨w.heap.size, 0, none⟩ = some (.bool false) := (World.cell?_of_block (a := ⟨w.heap.size, 0, none⟩) e2).trans c0
    have d1 : w2.cell? ⟨w.heap.size, 1, none⟩ = some (.int .i64 0) := (World.cell?_of_block (a := ⟨w.heap.size, 1, none⟩) e2).trans c1
    have k0 : w2.frozen? ⟨w.heap.size, 0, none⟩ = false := (World.frozen?_of_block (a := ⟨w.heap.size, 0, none⟩) e2).trans f0
    have k1 : w2.frozen? ⟨w.heap.size, 1, none⟩ = false := (World.frozen?_of_block (a := ⟨w.heap.size, 1, none⟩) e2).trans f1
    have R2 : Hid (Rd B w2 R (k + 1 + 1)) := h2.rd
    have G2 : Hid (w.grownBy w2 (some R)) := gr_trans G1.out h2.gr
    clear h2 e2 c0 c1 f0 f1
    go_wp2_with fail
    refine bodyPost_ret (v := .agg #[.bool true, .int .i64 u]) ?_ rfl ?_
    · simp [results, Try.results22, go_sem, d0, d1]
    · have hlw := R2.out.low
      exact ⟨_, _, k + 1 + 1, rfl, by omega, by omega, (R2.out.set (p := ⟨w.heap.size, 0, none⟩) (by simp only; omega) (by simp only; omega) _).set (p := ⟨w.heap.size, 1, none⟩) (by simp only; omega) (by simp only; omega) _, by omega, gr_new (gr_new G2.out (Nat.le_refl _) _) (Nat.le_refl _) _⟩

end Go.Proofs.Ytacapffmdmpnkaa
