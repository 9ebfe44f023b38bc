/-
  'append' of ints that lie anywhere to a list of the call's own, and where the new list lies.
-/
import Derived.Test.YtjbmcdekhhbiaaaGreatAppE
namespace Go.Proofs.YtjbmcdekhhbiaaaGreat
open Go.ChangeShapes Go.WideShapes Go.ChangeAt Go.RowKit

theorem own_lt' {w : World} {base : Nat} {e : TypeId} {size n : Nat} {v : Value} {xs : List Value} (h : w.ownsRow base e size v n xs) (b : Nat) (hb : v.ownBlock = some b) : b < w.heap.size := by
  rcases h.2 with ⟨rfl, _⟩ | ⟨g, cap, cur, rfl, _, hg, _⟩
  · simp [Value.ownBlock] at hb
  · simp [Value.ownBlock] at hb
    subst hb
    rcases Nat.lt_or_ge g w.heap.size with h | h
    · exact h
    · rw [Array.getElem?_eq_none h] at hg
      cases hg
theorem own_keep' {w w' : World} {base : Nat} {e : TypeId} {size n : Nat} {v : Value} {xs : List Value} (h : w.ownsRow base e size v n xs) (hk : ∀ b, v.ownBlock = some b → w'.heap[b]? = w.heap[b]?) : w'.ownsRow base e size v n xs := by
  refine ⟨h.1, ?_⟩
  rcases h.2 with h2 | ⟨g, cap, cur, rfl, h3, hg, h4⟩
  · exact .inl h2
  · exact .inr ⟨g, cap, cur, rfl, h3, by rw [hk g (by simp [Value.ownBlock])]; exact hg, h4⟩
theorem own_low {w : World} {base b2 : Nat} {e : TypeId} {size n : Nat} {v : Value} {xs : List Value} (h : w.ownsRow base e size v n xs) (hb : b2 ≤ base) : w.ownsRow b2 e size v n xs := by
  refine ⟨h.1, ?_⟩
  rcases h.2 with h2 | ⟨g, cap, cur, rfl, h3, h4⟩
  · exact .inl h2
  · exact .inr ⟨g, cap, cur, rfl, Nat.le_trans hb h3, h4⟩
theorem own_set {w : World} {base : Nat} {e : TypeId} {size n : Nat} {v : Value} {xs : List Value} (h : w.ownsRow base e size v n xs) (p : Addr) (u : Value) (hp : p.block < base) : (w.setCell p u).ownsRow base e size v n xs :=
  own_keep' h fun b hb => Below.heap_setCell w p u b (fun e => by have := own_ge h b hb.symm; omega)
/-- An empty list that is laid anew is the call's own. -/
theorem own_empty {w : World} (base b : Nat) (hb : base ≤ w.heap.size) (he : w.heap.size = b) : (w.alloc (.cells #[] 3)).ownsRow base 3 1 (.slice (some ⟨b, 0, none⟩) 0 0) 0 (([] : List Int).map (Value.int .i64)) := by
  subst he
  exact World.ownsRow_lit (base := base) (e := 3) (size := 1) w #[] 0 hb (by unfold maxLen; omega) rfl

/-- 'append(v, ys...)' of ints: what follows is told of the new list, where it lies, and that nothing else has turned. -/
theorem wp_app {w : World} {o : Oper} {a : Act} {K : Act → World → Prop} {Q : Exit → Act → World → Prop} (s x : Operand)
    (ho : o.op = .call { callee := .builtin .append, args := #[s, x], argTypes := #[23, 23] }) (base : Nat) (v : Value) (n : Nat) (xs : List Int) (hs : a.eval s = v) (hown : w.ownsRow base 3 1 v n (xs.map (Value.int .i64)))
    (sa : Option Addr) (sl sc : Nat) (hx : a.eval x = .slice sa sl sc) (ys : List Int) {D : Nat → Prop} (hI : IntsAt D w sa sl ys) (hn : n ≤ 1048576) (hsl : sl ≤ 1048576) (hbase : base ≤ w.heap.size)
    (h : ∀ a' cap' w2, w2.ownsRow base 3 1 (.slice a' (n + sl) cap') (n + sl) ((xs ++ ys).map (Value.int .i64)) → w.grownBy w2 v.ownBlock → (∀ b, (Value.slice a' (n + sl) cap').ownBlock = some b → v.ownBlock = some b ∨ w.heap.size ≤ b) → K (a.put o.dst (.slice a' (n + sl) cap')) w2)
    (hgd : o.guard = none) : if Region.wanted o (yielded #[] a.tmps) = true then Oper.wp Tryz.prog o a w K Q else False := by
  obtain ⟨i0, hi0, hz0, hz1, hz2⟩ := info_parts info_int3
  rcases hI.cells with h0 | ⟨b, off, rfl, _, hc⟩
  · subst h0
    have hy : ys = [] := List.eq_nil_of_length_eq_zero hI.size
    subst hy
    refine step_append_empty hgd s x 23 ho base 3 i0 1 Tryz.underlying23 hi0 v n _ hs hown sa sc hx ?_
    have hg : w.grownBy w v.ownBlock := ⟨rfl, rfl, rfl, Nat.le_refl _, fun _ _ _ => rfl⟩
    rcases hown.2 with ⟨rfl, rfl⟩ | ⟨g, cap, cur, rfl, _⟩
    · exact h _ _ w (by rw [List.append_nil]; exact hown) hg (fun b hb => by simp [Value.ownBlock] at hb)
    · exact h _ _ w (by rw [List.append_nil]; exact hown) hg (fun b hb => .inl (by simpa [Value.ownBlock] using hb))
  · by_cases h0 : sl = 0
    · subst h0
      have hy : ys = [] := List.eq_nil_of_length_eq_zero hI.size
      subst hy
      refine step_append_empty hgd s x 23 ho base 3 i0 1 Tryz.underlying23 hi0 v n _ hs hown _ sc hx ?_
      have hg : w.grownBy w v.ownBlock := ⟨rfl, rfl, rfl, Nat.le_refl _, fun _ _ _ => rfl⟩
      rcases hown.2 with ⟨rfl, rfl⟩ | ⟨g, cap, cur, rfl, _⟩
      · exact h _ _ w (by rw [List.append_nil]; exact hown) hg (fun b hb => by simp [Value.ownBlock] at hb)
      · exact h _ _ w (by rw [List.append_nil]; exact hown) hg (fun b hb => .inl (by simpa [Value.ownBlock] using hb))
    · refine step_append_lies _ hgd s x 23 ho base 3 i0 _ 1 8 Tryz.underlying23 hi0 hz0 hz1 hz2 rfl (by omega) v n _ hs hown ⟨b, off, none⟩ sl sc (ys.map (Value.int .i64)) hx (by rw [List.length_map, hI.size, Nat.mul_one]) (fun j u hu => ?_) (ints_one _) (by omega) (by unfold maxLen; omega) (by omega) hbase _ rfl (fun g cap w' h2 h3 h4 h5 => ?_)
      · have hj : j < sl := by
          have := (List.getElem?_eq_some_iff.1 hu).1
          rw [List.length_map, hI.size] at this
          exact this
        rw [Addr.add_lit, hc j hj, ← hu, List.getElem?_map, List.getD_eq_getElem?_getD, List.getElem?_eq_getElem (by rw [hI.size]; exact hj)]
        rfl
      · refine h _ _ w' (by rw [List.map_append]; exact h2) h3 (fun b' hb' => ?_)
        simp [Value.ownBlock] at hb'
        subst hb'
        rcases h4 with h4 | h4
        · exact .inl h4
        · exact .inr (by omega)
theorem step_app {w : World} {ops : Array Oper} {o : Oper} {a : Act} {K : Act → World → Prop} {Q : Exit → Act → World → Prop} {F : Prop} (hgd : o.guard = none) (s x : Operand)
    (ho : o.op = .call { callee := .builtin .append, args := #[s, x], argTypes := #[23, 23] }) (base : Nat) (v : Value) (n : Nat) (xs : List Int) (hs : a.eval s = v) (hown : w.ownsRow base 3 1 v n (xs.map (Value.int .i64)))
    (sa : Option Addr) (sl sc : Nat) (hx : a.eval x = .slice sa sl sc) (ys : List Int) {D : Nat → Prop} (hI : IntsAt D w sa sl ys) (hn : n ≤ 1048576) (hsl : sl ≤ 1048576) (hbase : base ≤ w.heap.size)
    (h : ∀ a' cap' w2, w2.ownsRow base 3 1 (.slice a' (n + sl) cap') (n + sl) ((xs ++ ys).map (Value.int .i64)) → w.grownBy w2 v.ownBlock → (∀ b, (Value.slice a' (n + sl) cap').ownBlock = some b → v.ownBlock = some b ∨ w.heap.size ≤ b) → K (a.put o.dst (.slice a' (n + sl) cap')) w2) :
    if Region.wanted o (yielded ops a.tmps) = true then Oper.wp Tryz.prog o a w K Q else F := by
  have := wp_app (Q := Q) s x ho base v n xs hs hown sa sl sc hx ys hI hn hsl hbase h hgd
  have hw : ∀ ops : Array Oper, Region.wanted o (yielded ops a.tmps) = true := fun _ => by simp [Region.wanted, hgd]
  rw [if_pos (hw _)] at this ⊢
  exact this
theorem list_app {w : World} {ops : Array Oper} {rest : List Oper} {o : Oper} {a : Act} {Q : Exit → Act → World → Prop} (hgd : o.guard = none) (s x : Operand)
    (ho : o.op = .call { callee := .builtin .append, args := #[s, x], argTypes := #[23, 23] }) (base : Nat) (v : Value) (n : Nat) (xs : List Int) (hs : a.eval s = v) (hown : w.ownsRow base 3 1 v n (xs.map (Value.int .i64)))
    (sa : Option Addr) (sl sc : Nat) (hx : a.eval x = .slice sa sl sc) (ys : List Int) {D : Nat → Prop} (hI : IntsAt D w sa sl ys) (hn : n ≤ 1048576) (hsl : sl ≤ 1048576) (hbase : base ≤ w.heap.size)
    (h : ∀ a' cap' w2, w2.ownsRow base 3 1 (.slice a' (n + sl) cap') (n + sl) ((xs ++ ys).map (Value.int .i64)) → w.grownBy w2 v.ownBlock → (∀ b, (Value.slice a' (n + sl) cap').ownBlock = some b → v.ownBlock = some b ∨ w.heap.size ≤ b) → wpList Tryz.prog ops Q rest (a.put o.dst (.slice a' (n + sl) cap')) w2) :
    wpList Tryz.prog ops Q (o :: rest) a w :=
  wpList_plain hgd fun K hK => by
    have := wp_app (Q := Q) (K := K) s x ho base v n xs hs hown sa sl sc hx ys hI hn hsl hbase (fun a' c' w2 h1 h2 h3 => hK _ _ (h a' c' w2 h1 h2 h3)) hgd
    have hw : Region.wanted o (yielded #[] a.tmps) = true := by simp [Region.wanted, hgd]
    rw [if_pos hw] at this
    exact this

/-- What is the call's own is read as a list; there is room for all of it. -/
theorem own_at {w : World} {base m c : Nat} {a : Option Addr} {xs : List Int} (h : w.ownsRow base 3 1 (.slice a m c) m (xs.map (Value.int .i64))) (hm : m ≤ 4000000) (hf : ∀ j, -9223372036854775808 ≤ xs.getD j 0 ∧ xs.getD j 0 ≤ 9223372036854775807) : IntsAt (fun b => base ≤ b) w a m xs ∧ m ≤ c := by
  have hlen : xs.length = m := by have := h.1; simpa using this
  rcases h.2 with ⟨e, rfl⟩ | ⟨g, cap, cur, e, hb, _, hc, _⟩
  · cases e
    exact ⟨⟨hlen, by omega, .inl rfl, hf⟩, Nat.le_refl _⟩
  · cases e
    refine ⟨⟨hlen, by omega, .inr ⟨g, 0, rfl, hb, fun j hj => ?_⟩, hf⟩, hc⟩
    rw [Nat.zero_add, h.cellAt j (by omega), List.getElem?_map, List.getD_eq_getElem?_getD, List.getElem?_eq_getElem (by omega)]
    rfl
theorem fits_app {xs ys : List Int} (hx : ∀ j, -9223372036854775808 ≤ xs.getD j 0 ∧ xs.getD j 0 ≤ 9223372036854775807) (hy : ∀ j, -9223372036854775808 ≤ ys.getD j 0 ∧ ys.getD j 0 ≤ 9223372036854775807) : ∀ j, -9223372036854775808 ≤ (xs ++ ys).getD j 0 ∧ (xs ++ ys).getD j 0 ≤ 9223372036854775807 := by
  intro j
  rw [List.getD_eq_getElem?_getD]
  by_cases h : j < xs.length
  · rw [List.getElem?_append_left h, ← List.getD_eq_getElem?_getD]; exact hx j
  · rw [List.getElem?_append_right (by omega), ← List.getD_eq_getElem?_getD]; exact hy _
theorem fits_lit {xs : List Int} (h : ∀ x ∈ xs, -9223372036854775808 ≤ x ∧ x ≤ 9223372036854775807) : ∀ j, -9223372036854775808 ≤ xs.getD j 0 ∧ xs.getD j 0 ≤ 9223372036854775807 := by
  intro j
  rw [List.getD_eq_getElem?_getD]
  cases e : xs[j]? with
  | none => simp
  | some z => exact h z (List.mem_of_getElem? e)
/-- A list of numbers that is laid anew. -/
theorem lit_at (w : World) (xs : List Int) (b : Nat) (hb : w.heap.size = b) (hl : xs.length ≤ 1000) (hf : ∀ x ∈ xs, -9223372036854775808 ≤ x ∧ x ≤ 9223372036854775807) : IntsAt (fun c => w.heap.size ≤ c) (w.alloc (.cells (xs.map (Value.int .i64)).toArray 3)) (some ⟨b, 0, none⟩) xs.length xs := by
  subst hb
  refine ⟨rfl, by omega, .inr ⟨w.heap.size, 0, rfl, Nat.le_refl _, fun j hj => ?_⟩, fits_lit hf⟩
  rw [World.cell?_alloc_at _ _ _ _ rfl, Nat.zero_add, List.getD_eq_getElem?_getD, List.getElem?_eq_getElem hj]
  simp [hj]

end Go.Proofs.YtjbmcdekhhbiaaaGreat
