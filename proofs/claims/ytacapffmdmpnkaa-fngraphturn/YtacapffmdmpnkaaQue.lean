/-
  What two parties who write in turn leave each other: an iterator that keeps a queue and what it has seen, and a loop that collects ints; the queue's memory: its first is taken off, one is put behind.
-/
import Derived.Test.YtacapffmdmpnkaaLedTo
import Derived.Deep.AppendSrc
import Derived.Sort.LoopGhostIn
namespace Go.Proofs.Ytacapffmdmpnkaa
open Go.ChangeShapes Go.WideShapes Go.ChangeAt Go.RowKit Go.Shelf

/-- Memory of ints, or of a slice of ints. -/
def inty : Obj → Bool
  | .cells _ t _ => t == 3 || t == 41
  | _ => false

/-- What the iterator keeps: what lay ahead of it, and ints. -/
structure Abd (n0 : Nat) (A B : World) : Prop where
  os : B.os = A.os
  tape : B.tape = A.tape
  output : B.output = A.output
  size : A.heap.size ≤ B.heap.size
  keep : ∀ (k : Nat) (o : Obj), A.heap[k]? = some o → (k < n0 ∨ inty o = true) → B.heap[k]? = some o
theorem Abd.refl (n0 : Nat) (A : World) : Abd n0 A A := ⟨rfl, rfl, rfl, Nat.le_refl _, fun _ _ h _ => h⟩
theorem Abd.trans {n0 : Nat} {A B C : World} (h : Abd n0 A B) (k : Abd n0 B C) : Abd n0 A C :=
  ⟨k.os.trans h.os, k.tape.trans h.tape, k.output.trans h.output, Nat.le_trans h.size k.size, fun i o hi ho => k.keep i o (h.keep i o hi ho) ho⟩
theorem Abd.grown {n0 : Nat} {A B : World} {row : Option Nat} (h : A.grownBy B row) (hr : ∀ r, row = some r → n0 ≤ r ∧ ∀ o, A.heap[r]? = some o → inty o = false) : Abd n0 A B :=
  ⟨h.os, h.tape, h.output, h.size, fun k o hk ho => (h.block k (Array.getElem?_eq_some_iff.1 hk).1 (fun e => by
    obtain ⟨h1, h2⟩ := hr k e.symm
    rcases ho with ho | ho
    · omega
    · rw [h2 o hk] at ho; cases ho)).trans hk⟩
theorem Abd.drew (n0 : Nat) (A : World) : Abd n0 A A.drew := ⟨rfl, rfl, rfl, Nat.le_refl _, fun _ _ h _ => h⟩
theorem grown_set (W : World) (b j : Nat) (v : Value) : W.grownBy (W.setCell ⟨b, j, none⟩ v) (some b) :=
  ⟨rfl, rfl, rfl, by rw [World.size_setCell]; exact Nat.le_refl _, fun k _ hk => Below.heap_setCell _ _ _ k (fun e => hk (by rw [e]))⟩
theorem Abd.below {n0 n : Nat} {A B : World} (h : Abd n0 A B) (hn : n ≤ n0) (hs : n ≤ A.heap.size) : Below n A B :=
  ⟨h.os, h.tape, h.output, h.size, fun k hk => by
    rw [Array.getElem?_eq_getElem (show k < A.heap.size by omega)]
    exact h.keep k _ (Array.getElem?_eq_getElem _) (.inl (by omega))⟩

/-- What a round of the loop keeps: all but ints and its own record; and what lay ahead of all. -/
structure Kr (l n₀ : Nat) (A B : World) : Prop where
  low : Below n₀ A B
  keep : ∀ (k : Nat) (o : Obj), A.heap[k]? = some o → inty o = false → k ≠ l → B.heap[k]? = some o

/-- The queue: the box at B holds a slice of memory of its own, with these values in it. -/
structure Que (n0 : Nat) (W : World) (B : Nat) (hs : List Value) : Prop where
  ex : ∃ g off cap cur, Boxed W B 58 (.slice (some ⟨g, off, none⟩) hs.length cap) ∧ n0 ≤ g ∧ W.heap[g]? = some (.cells cur 24 (0, 0)) ∧ hs.length ≤ cap ∧ off + cap ≤ cur.size ∧ ∀ i h, hs[i]? = some h → cur[off + i]? = some h

theorem Que.kept {n0 : Nat} {W W' : World} {B : Nat} {hs : List Value} (q : Que n0 W B hs) (hk : ∀ (k : Nat) (o : Obj), W.heap[k]? = some o → o.isCells = true → inty o = false → W'.heap[k]? = some o) : Que n0 W' B hs := by
  obtain ⟨g, off, cap, cur, h1, h2, h3, h4, h5⟩ := q.ex
  exact ⟨g, off, cap, cur, hk _ _ h1 rfl rfl, h2, hk _ _ h3 rfl rfl, h4, h5⟩

/-- A cell's block, behind a store. -/
theorem heap_set_same {W : World} {g j : Nat} {cur : Array Value} {t : TypeId} {z : Nat × Nat} (h : W.heap[g]? = some (.cells cur t z)) (v : Value) : (W.setCell ⟨g, j, none⟩ v).heap[g]? = some (.cells (cur.setIfInBounds j v) t z) := by
  obtain ⟨hlt, hk⟩ := Array.getElem?_eq_some_iff.1 h
  show (W.heap.modify g _)[g]? = _
  rw [Array.getElem?_eq_getElem (by rw [Array.size_modify]; exact hlt), Array.getElem_modify_self, hk]
  rfl

theorem cell_of_block {W : World} {g : Nat} {cur : Array Value} {t : TypeId} {z : Nat × Nat} (h : W.heap[g]? = some (.cells cur t z)) (j : Nat) : W.cell? ⟨g, j, none⟩ = cur[j]? := by
  simp [World.cell?, h]
theorem free_of_block {W : World} {g : Nat} {cur : Array Value} {t : TypeId} (h : W.heap[g]? = some (.cells cur t (0, 0))) (j : Nat) : W.frozen? ⟨g, j, none⟩ = false := by
  simp [World.frozen?, h]

theorem info_vals : (Try.prog.info? 24).map (fun i => (i.zero, i.size, i.bytes)) = some (some (.slice none 0 0), 1, 24) := by kernel_rfl

/-- One is put behind. -/
theorem que_push {n0 : Nat} {W : World} {g off cap s : Nat} {cur : Array Value} {hs : List Value} {ha : Option Addr} {hl hc : Nat} (ty : TypeId) (hn0 : n0 ≤ W.heap.size) (hg : n0 ≤ g) (h3 : W.heap[g]? = some (.cells cur 24 (0, 0))) (h4 : hs.length ≤ cap) (h5 : off + cap ≤ cur.size)
    (h6 : ∀ (i : Nat) (h : Value), hs[i]? = some h → cur[off + i]? = some h) (hsrc : W.cell? ⟨s, 0, none⟩ = some (.slice ha hl hc)) (hlen : hs.length ≤ 2000000) :
    ∃ g' off' cap' cur' W', (Builtin.append_ #[58, 58] ty #[.slice (some ⟨g, off, none⟩) hs.length cap, .slice (some ⟨s, 0, none⟩) 1 1]).run Try.prog W = .ok (.slice (some ⟨g', off', none⟩) (hs.length + 1) cap') W' ∧
      n0 ≤ g' ∧ W'.heap[g']? = some (.cells cur' 24 (0, 0)) ∧ hs.length + 1 ≤ cap' ∧ off' + cap' ≤ cur'.size ∧ (∀ (i : Nat) (h : Value), (hs ++ [.slice ha hl hc])[i]? = some h → cur'[off' + i]? = some h) ∧ W.grownBy W' (some g) := by
  obtain ⟨i0, hi0, hz0, hz1, hz2⟩ := info_parts info_vals
  have hS : Src Try.prog i0.size 58 (.slice (some ⟨s, 0, none⟩) 1 1) 1 [.slice ha hl hc] W :=
    Src.ofSlice W Try.underlying58 ⟨s, 0, none⟩ 1 1 _ (by rw [hz1]; rfl) (fun j u hu => by
      match j, hu with
      | 0, hu => simp at hu; subst hu; simpa [Addr.add] using hsrc) (by simp [Value.oneCell'])
  by_cases hroom : hs.length + 1 ≤ cap
  · have := run_append_room_src W 58 58 ty 24 i0 Try.underlying58 hi0 g off hs.length cap _ 1 _ hS hroom
      (fun j hj => by
        simp at hj; subst hj
        rw [cell_of_block h3, hz1, Array.getElem?_eq_getElem (by omega)]; rfl)
      (fun j hj => free_of_block h3 _)
    rw [hz1] at this
    refine ⟨g, off, cap, cur.setIfInBounds (off + hs.length) (.slice ha hl hc), _, this, hg, ?_, hroom, by simpa using h5, fun i h hi => ?_, ?_⟩
    · have h7 := heap_set_same (j := off + hs.length) h3 (.slice ha hl hc)
      simpa [World.setCells] using h7
    · rw [Array.getElem?_setIfInBounds]
      by_cases e : off + hs.length = off + i
      · have ei : i = hs.length := by omega
        subst ei
        rw [if_pos rfl]
        simp at hi
        rw [if_pos (by omega), hi]
      · rw [if_neg e]
        have hi2 : i < hs.length := by
          have := (List.getElem?_eq_some_iff.1 hi).1
          simp at this
          omega
        rw [List.getElem?_append_left hi2] at hi
        exact h6 i h hi
    · have h7 := grown_set W g (off + hs.length) (.slice ha hl hc)
      simpa [World.setCells] using h7
  · have ec : cap = hs.length := by omega
    subst ec
    have hold : (Builtin.firstCells i0.size hs.length (.slice (some ⟨g, off, none⟩) hs.length hs.length)).run Try.prog W.drew = .ok hs.toArray W.drew :=
      run_firstCells_some W.drew i0.size hs.length ⟨g, off, none⟩ hs.length hs.length hs (by rw [hz1]; simp) (fun j v hv => by
        have := h6 j v hv
        rw [Addr.add_lit]
        show W.cell? _ = _
        rw [cell_of_block h3]; exact this)
    have := run_append_grow_src W 58 58 ty 24 i0 _ Try.underlying58 hi0 hz0 (some ⟨g, off, none⟩) hs.length hs.length hs hold _ 1 _ hS (by omega) (by omega)
      (by have := nextslicecap_le (need := hs.length + 1) (old := hs.length) (by omega); rw [hz2]; omega)
    have hge := grownCap_ge W (hs.length + 1) hs.length 24
    refine ⟨W.heap.size, 0, _, _, _, this, hn0, World.alloc_heap_new W.drew _, hge, ?_, fun i h hi => ?_, ?_⟩
    · simp [Builtin.zeroCells, Value.cells]
      omega
    · rw [Nat.zero_add, Array.getElem?_append_left (by have := (List.getElem?_eq_some_iff.1 hi).1; simpa using this)]
      simpa using hi
    · have h8 : W.grownBy W.drew (some g) := ⟨rfl, rfl, rfl, Nat.le_refl _, fun _ _ _ => rfl⟩
      have h9 := World.grownBy_alloc W.drew (.cells ((hs ++ [Value.slice ha hl hc]).toArray ++ Builtin.zeroCells (Value.slice none 0 0).cells (grownCap W (hs.length + 1) hs.length 24 - (hs.length + 1))) 24) (some g)
      exact ⟨h9.os, h9.tape, h9.output, h9.size, fun k hk hne => h9.block k hk hne⟩

theorem not_same {W : World} {a b : Nat} {t u : TypeId} {v : Value} {cur : Array Value} {z : Nat × Nat} (h1 : Boxed W a t v) (h2 : W.heap[b]? = some (.cells cur u z)) (hne : t ≠ u) : b ≠ a := by
  rintro rfl
  have := (show W.heap[b]? = _ from h1).symm.trans h2
  simp at this
  exact hne this.2.1
theorem Que.put {n0 : Nat} {W : World} {B g off cap : Nat} {v0 : Value} {cur : Array Value} {hs : List Value} (hB : Boxed W B 58 v0) (hg : n0 ≤ g) (h3 : W.heap[g]? = some (.cells cur 24 (0, 0))) (h4 : hs.length ≤ cap) (h5 : off + cap ≤ cur.size)
    (h6 : ∀ (i : Nat) (h : Value), hs[i]? = some h → cur[off + i]? = some h) {m : Nat} (hm : hs.length = m) : Que n0 (W.setCell ⟨B, 0, none⟩ (.slice (some ⟨g, off, none⟩) m cap)) B hs := by
  subst hm
  exact ⟨g, off, cap, cur, hB.set _, hg, (Below.heap_setCell W _ _ g (not_same hB h3 (by decide))).trans h3, h4, h5, h6⟩

end Go.Proofs.Ytacapffmdmpnkaa
