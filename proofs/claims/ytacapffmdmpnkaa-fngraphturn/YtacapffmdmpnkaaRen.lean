/-
  Values that lead by new numbers, in memory of their own: the program's renumbered.
-/
import Derived.Test.YtacapffmdmpnkaaGrMath
namespace Go.Proofs.Ytacapffmdmpnkaa
open Go.ChangeShapes Go.WideShapes Go.ChangeAt Go.RowKit

/-- The new number of a thing: its place in the order, from 1 on; of all else 0. -/
def idxN (o : List Int) (n : Int) : Int := if n ∈ o then (o.idxOf n : Int) + 1 else 0
def renV (o : List Int) (v : Vl) : Vl := if v.1 = true then (true, idxN o v.2) else v
def graphOf (X : List Ob) (r : List Vl) : List Ob := (orderOf X r).map fun n => ((X.getD (n.toNat - 1) (0, [])).1, (valsOf X n).map (renV (orderOf X r)))
def rootsOf (X : List Ob) (r : List Vl) : List Vl := r.map (renV (orderOf X r))

theorem idxN_range (o : List Int) (n : Int) : 0 ≤ idxN o n ∧ idxN o n ≤ (o.length : Int) := by
  unfold idxN
  by_cases h : n ∈ o
  · rw [if_pos h]
    have := List.idxOf_lt_length_of_mem h
    omega
  · rw [if_neg h]; omega

/-- Values in memory that may be written. -/
structure WrV (w : World) (g : Nat) (xs : List Vl) : Prop where
  at' : ∀ (j : Nat) (x : Vl), xs[j]? = some x → w.cell? ⟨g, j * 2, none⟩ = some (.bool x.1) ∧ w.cell? ⟨g, j * 2 + 1, none⟩ = some (.int .i64 x.2) ∧ i64B x.2
  free : ∀ j, j < xs.length * 2 → w.frozen? ⟨g, j, none⟩ = false
theorem WrV.keep {w w' : World} {g : Nat} {xs : List Vl} (h : WrV w g xs) (hk : w'.heap[g]? = w.heap[g]?) : WrV w' g xs :=
  ⟨fun j x hx => by
    obtain ⟨h1, h2, h3⟩ := h.at' j x hx
    exact ⟨(World.cell?_of_block (a := ⟨g, _, none⟩) hk).trans h1, (World.cell?_of_block (a := ⟨g, _, none⟩) hk).trans h2, h3⟩, fun j hj => (World.frozen?_of_block (a := ⟨g, j, none⟩) hk).trans (h.free j hj)⟩
theorem WrV.of {w : World} {g n : Nat} {xs : List Vl} (h : CopR vaR g n w xs n) (hn : xs.length = n) : WrV w g xs := by
  refine ⟨fun j x hx => ?_, fun j hj => (h.row j (by rw [← hn]; exact hj)).2⟩
  have hj := (List.getElem?_eq_some_iff.1 hx).1
  obtain ⟨vs, ⟨_, _, rfl, h1, rfl, b1⟩, h2⟩ := h.done j x (by omega) hx
  have h1 : _ = [Value.bool x.1] := h1
  subst h1
  exact ⟨h2 0 _ rfl, h2 1 _ rfl, b1⟩
theorem WrV.sl {w : World} {g : Nat} {xs : List Vl} (h : WrV w g xs) (hl : xs.length ≤ 1048576) : SlAt vaR (fun b => b = g) w (some ⟨g, 0, none⟩) xs.length xs := by
  refine ⟨rfl, by omega, .inr ⟨g, 0, rfl, rfl, fun i x hx => ?_⟩⟩
  obtain ⟨h1, h2, h3⟩ := h.at' i x hx
  refine ⟨[.bool x.1, .int .i64 x.2], ⟨[.bool x.1], [.int .i64 x.2], rfl, rfl, rfl, h3⟩, fun j v hv => ?_⟩
  match j, hv with
  | 0, hv => simp at hv; subst hv; rw [Nat.zero_add]; exact h1
  | 1, hv => simp at hv; subst hv; rw [Nat.zero_add]; exact h2

theorem CopR.later {α : Type} {R : Rep α} {G len k : Nat} {wr w1 : World} {xs : List α} (h : CopR R G len wr xs k) (hG : G < wr.heap.size) (hb : Below wr.heap.size wr w1) : CopR R G len w1 xs k :=
  ⟨fun j hj => by
    obtain ⟨⟨v, hv⟩, hf⟩ := h.row j hj
    exact ⟨⟨v, (hb.cell (p := ⟨G, j, none⟩) hG).trans hv⟩, (hb.frozen (p := ⟨G, j, none⟩) hG).trans hf⟩, fun i x hi hx => by
    obtain ⟨vs, h1, h2⟩ := h.done i x hi hx
    exact ⟨vs, R.later h1 hb, fun j v hv => (hb.cell (p := ⟨G, i * R.sz + j, none⟩) hG).trans (h2 j v hv)⟩⟩

set_option maxHeartbeats 4000000 in
theorem renumImpl (a : Option Addr) (len cap : Nat) (xs : List Vl) (G N : Nat) (o : List Int) (w : World) {D : Nat → Prop} (h : SlAt vaR D w a len xs) (hlen : len ≤ 1048576) (ho : o.length ≤ 1048576)
    (hrow : ∀ j, j ≤ N → w.cell? ⟨G, j, none⟩ = some (.int .i64 (idxN o (j : Int)))) (ok : xs.all (valB N) = true) :
    Calls Try.prog 17 #[.slice a len cap, .slice (some ⟨G, 0, none⟩) (N + 1) (N + 1)] w fun e w' => e = .returned (.slice (some ⟨w.heap.size, 0, none⟩) len len) ∧ WrV w' w.heap.size (xs.map (renV o)) ∧ Below w.heap.size w w' ∧ w.heap.size < w'.heap.size := by
  have hmk := make_Val len hlen
  have HS : Hid (xs.length = len) := h.size
  have H : Hid (SlAt vaR D w a len xs) := h
  have HN : Hid (∀ j, j ≤ N → w.cell? ⟨G, j, none⟩ = some (.int .i64 (idxN o (j : Int)))) := hrow
  have OK : Hid (xs.all (valB N) = true) := ok
  have HG : G < w.heap.size := World.block_lt_of_cell? w _ (hrow 0 (Nat.zero_le _))
  clear h hrow ok
  go_enter Try.func17, Try.ntmps17
  go_wp2_with fail
  go_loopw [13] (fun t wr => ∃ k : Nat, k ≤ len ∧ t = .int .i64 k ∧ CopR vaR w.heap.size len wr (xs.map (renV o)) k ∧ Below w.heap.size w wr ∧ w.heap.size < wr.heap.size) (fun t _ => len - (intOf t).toNat)
  case atStart => exact ⟨0, Nat.zero_le _, rfl, CopR.made vaR w _ len _ _, by go_grown, by simp⟩
  case round =>
    obtain ⟨k, hk, rfl, hrow, hb, hz⟩ := hrel
    have HR : Hid (CopR vaR w.heap.size len wr (xs.map (renV o)) k) := hrow
    have HB : Hid (Below w.heap.size w wr) := hb
    have HZ : Hid (w.heap.size < wr.heap.size) := hz
    have hz2 : w.heap.size < wr.heap.size + 1 := by omega
    by_cases hlt : k < len
    · obtain ⟨x, hx⟩ : ∃ x, xs[k]? = some x := ⟨xs[k]'(by rw [HS.out]; exact hlt), List.getElem?_eq_getElem _⟩
      have hxo := List.all_eq_true.1 OK.out x (List.mem_of_getElem? hx)
      have HX : Hid ((xs.map (renV o))[k]? = some (renV o x)) := by show _ = _; rw [List.getElem?_map, hx]; rfl
      obtain ⟨b, off, rfl, _, vs, hv, hc⟩ := (H.out.later HB.out).at k x hx
      obtain ⟨x0, x1⟩ := x
      obtain ⟨_, _, rfl, rfl, rfl, b1⟩ := hv
      have c0x : wr.cell? ⟨b, off + k * 2, none⟩ = some (.bool x0) := hc 0 _ rfl
      have c1x : wr.cell? ⟨b, off + k * 2 + 1, none⟩ = some (.int .i64 x1) := hc 1 _ rfl
      have hbl : b < wr.heap.size := World.block_lt_of_cell? wr _ c0x
      obtain ⟨⟨v0, hv0⟩, hf0⟩ := hrow.row (k * 2 + 0) (mul_lt_row hlt (by decide : 0 < 2))
      obtain ⟨⟨v1, hv1⟩, hf1⟩ := hrow.row (k * 2 + 1) (mul_lt_row hlt (by decide : 1 < 2))
      simp only [Nat.add_zero] at hv0 hf0
      cases x0
      · have e1 : renV o (false, x1) = (false, x1) := rfl
        have HCop : Hid (CopR vaR w.heap.size len ((putCells wr w.heap.size (k * 2) [.bool false, .int .i64 x1]).alloc (.cells #[.bool false, .int .i64 x1] 32)) (xs.map (renV o)) (k + 1)) :=
          (HR.out.step (Below.refl _ wr) HZ.out hlt HX.out (by rw [e1]; exact ⟨_, _, rfl, rfl, rfl, b1⟩)).later (by rw [put_size]; exact HZ.out) ((Below.refl _ _).alloc (Nat.le_refl _) _)
        clear hx hc hrow hb e1
        go_wp2_with fail
        refine ⟨⟨k + 1, by omega, by go_num, HCop.out, ?_, by simp only [World.size_setCell, World.size_alloc]; omega⟩, by simp [intOf]; omega⟩
        exact Below.alloc ((HB.out.setCell (p := ⟨w.heap.size, k * 2, none⟩) (Nat.le_refl _) _).setCell (p := ⟨w.heap.size, k * 2 + 1, none⟩) (Nat.le_refl _) _) (by simp only [World.size_setCell]; omega) _
      · obtain ⟨m, rfl⟩ : ∃ m : Nat, x1 = m := ⟨x1.toNat, by simp [valB] at hxo; omega⟩
        have hm : m ≤ N := by simp [valB] at hxo; omega
        have cn : wr.cell? ⟨G, m, none⟩ = some (.int .i64 (idxN o (m : Int))) := (HB.out.cell (p := ⟨G, m, none⟩) HG).trans (HN.out m hm)
        have hG2 : G < wr.heap.size := by omega
        have e1 : renV o (true, (m : Int)) = (true, idxN o m) := rfl
        have bi : i64B (idxN o (m : Int)) := by have := idxN_range o m; exact ⟨by omega, by omega⟩
        have HCop : Hid (CopR vaR w.heap.size len ((putCells wr w.heap.size (k * 2) [.bool true, .int .i64 (idxN o m)]).alloc (.cells #[.bool true, .int .i64 (idxN o m)] 32)) (xs.map (renV o)) (k + 1)) :=
          (HR.out.step (Below.refl _ wr) HZ.out hlt HX.out (by rw [e1]; exact ⟨_, _, rfl, rfl, rfl, bi⟩)).later (by rw [put_size]; exact HZ.out) ((Below.refl _ _).alloc (Nat.le_refl _) _)
        clear hx hc hrow hb e1
        generalize idxN o (m : Int) = q at *
        go_wp2_with fail
        refine ⟨⟨k + 1, by omega, by go_num, HCop.out, ?_, by simp only [World.size_setCell, World.size_alloc]; omega⟩, by simp [intOf]; omega⟩
        exact Below.alloc ((HB.out.setCell (p := ⟨w.heap.size, k * 2, none⟩) (Nat.le_refl _) _).setCell (p := ⟨w.heap.size, k * 2 + 1, none⟩) (Nat.le_refl _) _) (by simp only [World.size_setCell]; omega) _
    · have ek : k = len := by omega
      subst ek
      clear hrow hb
      go_wp2_with fail
      go_ret
      exact ⟨rfl, WrV.of HR.out (by rw [List.length_map, HS.out]), HB.out, HZ.out⟩

end Go.Proofs.Ytacapffmdmpnkaa
