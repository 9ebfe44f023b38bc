/-
  Values, and things, that are laid into memory of their own, which may be written.
-/
import Derived.Test.YtjbmcdekhhbiaaaGreatDtObj
namespace Go.Proofs.YtjbmcdekhhbiaaaGreat
open Go.ChangeShapes Go.WideShapes Go.ChangeAt Go.RowKit

/-- Values in memory that may be written. -/
structure WrV (w : World) (g : Nat) (xs : List Vl) : Prop where
  at' : ∀ (j : Nat) (x : Vl), xs[j]? = some x → w.cell? ⟨g, j * 2, none⟩ = some (.bool x.1) ∧ w.cell? ⟨g, j * 2 + 1, none⟩ = some (.int .i64 x.2) ∧ i64B x.2
  free : ∀ j, j < xs.length * 2 → w.frozen? ⟨g, j, none⟩ = false
theorem WrV.keep {w w' : World} {g : Nat} {xs : List Vl} (h : WrV w g xs) (hk : w'.heap[g]? = w.heap[g]?) : WrV w' g xs :=
  ⟨fun j x hx => by
    obtain ⟨h1, h2, h3⟩ := h.at' j x hx
    exact ⟨(World.cell?_of_block (a := ⟨g, _, none⟩) hk).trans h1, (World.cell?_of_block (a := ⟨g, _, none⟩) hk).trans h2, h3⟩, fun j hj => (World.frozen?_of_block (a := ⟨g, j, none⟩) hk).trans (h.free j hj)⟩
theorem WrV.of {w : World} {g n : Nat} {xs : List Vl} (h : CopR vaR g n w xs n) (hn : xs.length = n) : WrV w g xs := by
  refine ⟨fun j x hx => ?_, fun j hj => (h.row j (by rw [← hn]; exact hj)).2⟩
  have hj := (List.getElem?_eq_some_iff.1 hx).1
  obtain ⟨vs, ⟨_, _, rfl, h1, rfl, b1⟩, h2⟩ := h.done j x (by omega) hx
  have h1 : _ = [Value.bool x.1] := h1
  subst h1
  exact ⟨h2 0 _ rfl, h2 1 _ rfl, b1⟩
theorem WrV.sl {w : World} {g : Nat} {xs : List Vl} (h : WrV w g xs) (hl : xs.length ≤ 1048576) : SlAt vaR (fun b => b = g) w (some ⟨g, 0, none⟩) xs.length xs := by
  refine ⟨rfl, by omega, .inr ⟨g, 0, rfl, rfl, fun i x hx => ?_⟩⟩
  obtain ⟨h1, h2, h3⟩ := h.at' i x hx
  refine ⟨[.bool x.1, .int .i64 x.2], ⟨[.bool x.1], [.int .i64 x.2], rfl, rfl, rfl, h3⟩, fun j v hv => ?_⟩
  match j, hv with
  | 0, hv => simp at hv; subst hv; rw [Nat.zero_add]; exact h1
  | 1, hv => simp at hv; subst hv; rw [Nat.zero_add]; exact h2

structure GrRow (w : World) (G n : Nat) (gs : List Ob) (k : Nat) (bs : Nat → Nat) : Prop where
  row : ∀ (j : Nat) (x : Ob), j < k → gs[j]? = some x → w.cell? ⟨G, j * 2, none⟩ = some (.int .i64 x.1) ∧ w.cell? ⟨G, j * 2 + 1, none⟩ = some (.slice (some ⟨bs j, 0, none⟩) x.2.length x.2.length) ∧ i64B x.1 ∧ WrV w (bs j) x.2
  free : ∀ j, j < n * 2 → (∃ v, w.cell? ⟨G, j, none⟩ = some v) ∧ w.frozen? ⟨G, j, none⟩ = false
  inc : ∀ i j, i < j → j < k → bs i < bs j
  gt : ∀ j, j < k → G < bs j ∧ bs j < w.heap.size
theorem GrRow.later {w w' : World} {G n k : Nat} {gs : List Ob} {bs : Nat → Nat} (h : GrRow w G n gs k bs) (hG : G < w.heap.size) (b : Below w.heap.size w w') : GrRow w' G n gs k bs :=
  ⟨fun j x hj hx => by
    obtain ⟨h1, h2, h3, h4⟩ := h.row j x hj hx
    exact ⟨(b.cell (p := ⟨G, _, none⟩) hG).trans h1, (b.cell (p := ⟨G, _, none⟩) hG).trans h2, h3, h4.keep (b.block _ (h.gt j hj).2)⟩, fun j hj => by
    obtain ⟨⟨v, hv⟩, hf⟩ := h.free j hj
    exact ⟨⟨v, (b.cell (p := ⟨G, j, none⟩) hG).trans hv⟩, (b.frozen (p := ⟨G, j, none⟩) hG).trans hf⟩, h.inc, fun j hj => ⟨(h.gt j hj).1, Nat.lt_of_lt_of_le (h.gt j hj).2 b.size⟩⟩
theorem heap_put (G : Nat) : ∀ (vs : List Value) (w : World) (o b : Nat), b ≠ G → (putCells w G o vs).heap[b]? = w.heap[b]?
  | [], _, _, _, _ => rfl
  | v :: vs, w, o, b, hb => by rw [putCells, heap_put G vs _ _ _ hb]; exact Below.heap_setCell w ⟨G, o, none⟩ v b hb
theorem GrRow.step {w w1 : World} {G n k b : Nat} {gs : List Ob} {bs : Nat → Nat} {x : Ob} (h : GrRow w G n gs k bs) (hG : G < w.heap.size) (hb : Below w.heap.size w w1) (hk : k < n) (hx : gs[k]? = some x) (hi : i64B x.1) (hv : WrV w1 b x.2) (h1 : w.heap.size ≤ b) (h2 : b < w1.heap.size) {m : Nat} (hm : x.2.length = m) :
    GrRow (putCells w1 G (k * 2) [.int .i64 x.1, .slice (some ⟨b, 0, none⟩) m m]) G n gs (k + 1) (fun j => if j = k then b else bs j) := by
  subst hm
  have hl := h.later hG hb
  have hG1 : G < w1.heap.size := Nat.lt_of_lt_of_le hG hb.size
  refine ⟨fun j y hj hy => ?_, fun j hj => ⟨?_, ?_⟩, fun i j hij hj => ?_, fun j hj => ?_⟩
  · by_cases e : j = k
    · subst e
      obtain rfl : y = x := by rw [hx] at hy; simpa using hy.symm
      rw [if_pos rfl]
      refine ⟨put_at G _ w1 (j * 2) 0 _ (fun i hi => ?_) rfl, put_at G _ w1 (j * 2) 1 _ (fun i hi => ?_) rfl, hi, hv.keep (heap_put G _ _ _ _ (by omega))⟩
      all_goals
        simp at hi
        exact (hl.free (j * 2 + i) (by omega)).1
    · rw [if_neg e]
      obtain ⟨h3, h4, h5, h6⟩ := hl.row j y (by omega) hy
      refine ⟨(put_off G _ w1 _ _ (.inl (by omega))).trans h3, (put_off G _ w1 _ _ (.inl (by omega))).trans h4, h5, h6.keep (heap_put G _ _ _ _ ?_)⟩
      have := (h.gt j (by omega)).1
      omega
  · exact put_some G _ w1 _ _ (hl.free j hj).1
  · rw [put_frozen]; exact (hl.free j hj).2
  · by_cases e : j = k
    · subst e
      show (if i = j then b else bs i) < (if j = j then b else bs j)
      rw [if_neg (by omega), if_pos rfl]
      have := (h.gt i hij).2
      omega
    · show (if i = k then b else bs i) < (if j = k then b else bs j)
      rw [if_neg (by omega), if_neg e]
      exact h.inc i j hij (by omega)
  · show G < (if j = k then b else bs j) ∧ (if j = k then b else bs j) < _
    rw [put_size]
    by_cases e : j = k
    · rw [if_pos e]; exact ⟨by omega, h2⟩
    · rw [if_neg e]
      have := h.gt j (by omega)
      have := hb.size
      exact ⟨by omega, by omega⟩
theorem GrRow.made (w : World) (z : Array Value) (n : Nat) (t : TypeId) (gs : List Ob) : GrRow (w.alloc (.cells (madeCells z (n * 2)) t)) w.heap.size n gs 0 (fun _ => 0) :=
  ⟨fun j _ hj => by omega, fun j hj => ⟨⟨_, (RowAt.made w z (n * 2) t j hj).1⟩, (RowAt.made w z (n * 2) t j hj).2⟩, fun _ _ _ hj => by omega, fun j hj => by omega⟩
theorem GrRow.sl {w : World} {G n : Nat} {gs : List Ob} {bs : Nat → Nat} (h : GrRow w G n gs n bs) (hn : gs.length = n) (hl : n ≤ 1048576) (hv : ∀ x ∈ gs, x.2.length ≤ 1048576) : SlAt obR (fun b => G ≤ b) w (some ⟨G, 0, none⟩) n gs := by
  refine ⟨hn, by omega, .inr ⟨G, 0, rfl, Nat.le_refl _, fun i x hx => ?_⟩⟩
  have hi := (List.getElem?_eq_some_iff.1 hx).1
  obtain ⟨h1, h2, h3, h4⟩ := h.row i x (by omega) hx
  have hg := (h.gt i (by omega)).1
  refine ⟨[.int .i64 x.1, .slice (some ⟨bs i, 0, none⟩) x.2.length x.2.length], ⟨[.int .i64 x.1], _, rfl, ⟨rfl, h3⟩, some ⟨bs i, 0, none⟩, x.2.length, x.2.length, rfl, (h4.sl (hv x (List.mem_of_getElem? hx))).mono (fun b hb _ => by omega)⟩, fun j v hv' => ?_⟩
  match j, hv' with
  | 0, hv' => simp at hv'; subst hv'; rw [Nat.zero_add]; exact h1
  | 1, hv' => simp at hv'; subst hv'; rw [Nat.zero_add]; exact h2

end Go.Proofs.YtjbmcdekhhbiaaaGreat
