/-
  Things that are laid one behind the other into memory of their own, what is in each in memory of its own.
-/
import Derived.Test.YtacapffmdmpnkaaRen
namespace Go.Proofs.Ytacapffmdmpnkaa
open Go.ChangeShapes Go.WideShapes Go.ChangeAt Go.RowKit

theorem idxOf_take {o : List Int} {k : Nat} {n : Int} (h : n ∈ o.take k) : (o.take k).idxOf n = o.idxOf n := by
  conv => rhs; rw [← List.take_append_drop k o]
  rw [List.idxOf_append, if_pos h]
theorem idxN_take {o : List Int} (nd : o.Nodup) {k : Nat} {x : Int} (hk : o[k]? = some x) (n : Int) : idxN (o.take (k + 1)) n = if n = x then (k : Int) + 1 else idxN (o.take k) n := by
  have hlt := (List.getElem?_eq_some_iff.1 hk).1
  have hx : x ∉ o.take k := by
    intro hm
    have hd : o.drop k = x :: o.drop (k + 1) := by
      rw [List.drop_eq_getElem_cons hlt, (List.getElem?_eq_some_iff.1 hk).2]
    have nd' : (o.take k ++ (x :: o.drop (k + 1))).Nodup := by rw [← hd, List.take_append_drop]; exact nd
    exact (List.nodup_append.1 nd').2.2 x hm x (List.mem_cons_self ..) rfl
  have e : o.take (k + 1) = o.take k ++ [x] := by rw [List.take_add_one, hk]; rfl
  by_cases hn : n = x
  · subst hn
    rw [if_pos rfl, idxN, if_pos (by rw [e]; simp), e, List.idxOf_append, if_neg hx]
    simp
    omega
  · rw [if_neg hn]
    unfold idxN
    by_cases hm : n ∈ o.take k
    · rw [if_pos hm, if_pos (by rw [e]; exact List.mem_append_left _ hm), e, List.idxOf_append, if_pos hm]
    · rw [if_neg hm, if_neg (by rw [e]; simp [hm, hn])]

structure GrRow (w : World) (G n : Nat) (gs : List Ob) (k : Nat) (bs : Nat → Nat) : Prop where
  row : ∀ (j : Nat) (x : Ob), j < k → gs[j]? = some x → w.cell? ⟨G, j * 2, none⟩ = some (.int .i64 x.1) ∧ w.cell? ⟨G, j * 2 + 1, none⟩ = some (.slice (some ⟨bs j, 0, none⟩) x.2.length x.2.length) ∧ i64B x.1 ∧ WrV w (bs j) x.2
  free : ∀ j, j < n * 2 → (∃ v, w.cell? ⟨G, j, none⟩ = some v) ∧ w.frozen? ⟨G, j, none⟩ = false
  inc : ∀ i j, i < j → j < k → bs i < bs j
  gt : ∀ j, j < k → G < bs j ∧ bs j < w.heap.size
theorem GrRow.later {w w' : World} {G n k : Nat} {gs : List Ob} {bs : Nat → Nat} (h : GrRow w G n gs k bs) (hG : G < w.heap.size) (b : Below w.heap.size w w') : GrRow w' G n gs k bs :=
  ⟨fun j x hj hx => by
    obtain ⟨h1, h2, h3, h4⟩ := h.row j x hj hx
    exact ⟨(b.cell (p := ⟨G, _, none⟩) hG).trans h1, (b.cell (p := ⟨G, _, none⟩) hG).trans h2, h3, h4.keep (b.block _ (h.gt j hj).2)⟩, fun j hj => by
    obtain ⟨⟨v, hv⟩, hf⟩ := h.free j hj
    exact ⟨⟨v, (b.cell (p := ⟨G, j, none⟩) hG).trans hv⟩, (b.frozen (p := ⟨G, j, none⟩) hG).trans hf⟩, h.inc, fun j hj => ⟨(h.gt j hj).1, Nat.lt_of_lt_of_le (h.gt j hj).2 b.size⟩⟩
theorem heap_put (G : Nat) : ∀ (vs : List Value) (w : World) (o b : Nat), b ≠ G → (putCells w G o vs).heap[b]? = w.heap[b]?
  | [], _, _, _, _ => rfl
  | v :: vs, w, o, b, hb => by rw [putCells, heap_put G vs _ _ _ hb]; exact Below.heap_setCell w ⟨G, o, none⟩ v b hb
theorem GrRow.step {w w1 : World} {G n k b : Nat} {gs : List Ob} {bs : Nat → Nat} {x : Ob} (h : GrRow w G n gs k bs) (hG : G < w.heap.size) (hb : Below w.heap.size w w1) (hk : k < n) (hx : gs[k]? = some x) (hi : i64B x.1) (hv : WrV w1 b x.2) (h1 : w.heap.size ≤ b) (h2 : b < w1.heap.size) {m : Nat} (hm : x.2.length = m) :
    GrRow (putCells w1 G (k * 2) [.int .i64 x.1, .slice (some ⟨b, 0, none⟩) m m]) G n gs (k + 1) (fun j => if j = k then b else bs j) := by
  subst hm
  have hl := h.later hG hb
  have hG1 : G < w1.heap.size := Nat.lt_of_lt_of_le hG hb.size
  refine ⟨fun j y hj hy => ?_, fun j hj => ⟨?_, ?_⟩, fun i j hij hj => ?_, fun j hj => ?_⟩
  · by_cases e : j = k
    · subst e
      obtain rfl : y = x := by rw [hx] at hy; simpa using hy.symm
      rw [if_pos rfl]
      refine ⟨put_at G _ w1 (j * 2) 0 _ (fun i hi => ?_) rfl, put_at G _ w1 (j * 2) 1 _ (fun i hi => ?_) rfl, hi, hv.keep (heap_put G _ _ _ _ (by omega))⟩
      all_goals
        simp at hi
        exact (hl.free (j * 2 + i) (by omega)).1
    · rw [if_neg e]
      obtain ⟨h3, h4, h5, h6⟩ := hl.row j y (by omega) hy
      refine ⟨(put_off G _ w1 _ _ (.inl (by omega))).trans h3, (put_off G _ w1 _ _ (.inl (by omega))).trans h4, h5, h6.keep (heap_put G _ _ _ _ ?_)⟩
      have := (h.gt j (by omega)).1
      omega
  · exact put_some G _ w1 _ _ (hl.free j hj).1
  · rw [put_frozen]; exact (hl.free j hj).2
  · by_cases e : j = k
    · subst e
      show (if i = j then b else bs i) < (if j = j then b else bs j)
      rw [if_neg (by omega), if_pos rfl]
      have := (h.gt i hij).2
      omega
    · show (if i = k then b else bs i) < (if j = k then b else bs j)
      rw [if_neg (by omega), if_neg e]
      exact h.inc i j hij (by omega)
  · show G < (if j = k then b else bs j) ∧ (if j = k then b else bs j) < _
    rw [put_size]
    by_cases e : j = k
    · rw [if_pos e]; exact ⟨by omega, h2⟩
    · rw [if_neg e]
      have := h.gt j (by omega)
      have := hb.size
      exact ⟨by omega, by omega⟩
theorem GrRow.made (w : World) (z : Array Value) (n : Nat) (t : TypeId) (gs : List Ob) : GrRow (w.alloc (.cells (madeCells z (n * 2)) t)) w.heap.size n gs 0 (fun _ => 0) :=
  ⟨fun j _ hj => by omega, fun j hj => ⟨⟨_, (RowAt.made w z (n * 2) t j hj).1⟩, (RowAt.made w z (n * 2) t j hj).2⟩, fun _ _ _ hj => by omega, fun j hj => by omega⟩
theorem GrRow.sl {w : World} {G n : Nat} {gs : List Ob} {bs : Nat → Nat} (h : GrRow w G n gs n bs) (hn : gs.length = n) (hl : n ≤ 1048576) (hv : ∀ x ∈ gs, x.2.length ≤ 1048576) : SlAt obR (fun b => G ≤ b) w (some ⟨G, 0, none⟩) n gs := by
  refine ⟨hn, by omega, .inr ⟨G, 0, rfl, Nat.le_refl _, fun i x hx => ?_⟩⟩
  have hi := (List.getElem?_eq_some_iff.1 hx).1
  obtain ⟨h1, h2, h3, h4⟩ := h.row i x (by omega) hx
  have hg := (h.gt i (by omega)).1
  refine ⟨[.int .i64 x.1, .slice (some ⟨bs i, 0, none⟩) x.2.length x.2.length], ⟨[.int .i64 x.1], _, rfl, ⟨rfl, h3⟩, some ⟨bs i, 0, none⟩, x.2.length, x.2.length, rfl, (h4.sl (hv x (List.mem_of_getElem? hx))).mono (fun b hb _ => by omega)⟩, fun j v hv' => ?_⟩
  match j, hv' with
  | 0, hv' => simp at hv'; subst hv'; rw [Nat.zero_add]; exact h1
  | 1, hv' => simp at hv'; subst hv'; rw [Nat.zero_add]; exact h2

end Go.Proofs.Ytacapffmdmpnkaa
