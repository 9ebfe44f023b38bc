/-
  'append' of truths that lie anywhere to a list of the call's own, and where the new list lies.
-/
import Derived.Test.YtjbmcdekhhbiaaaGreatAppI
import Derived.Test.YtjbmcdekhhbiaaaGreatDtBool
namespace Go.Proofs.YtjbmcdekhhbiaaaGreat
open Go.ChangeShapes Go.WideShapes Go.ChangeAt Go.RowKit

theorem eqNone {P : Program} (d : Nat) (t e : TypeId) (b : Option Addr) (l c l2 c2 : Nat) (w : World) (h : P.underlying t = some (.slice e)) : (Op.equalIn (d + 1) t (.slice none l c) (.slice b l2 c2)).run P w = .ok b.isNone w := by
  simp [Op.equalIn, run_underlying h]
theorem eqSome {P : Program} (d : Nat) (t e : TypeId) (p : Addr) (l c l2 c2 : Nat) (w : World) (h : P.underlying t = some (.slice e)) : (Op.equalIn (d + 1) t (.slice (some p) l c) (.slice none l2 c2)).run P w = .ok false w := by
  simp [Op.equalIn, run_underlying h]
theorem nil_yes {P : Program} (t e : TypeId) (h : P.underlying t = some (.slice e)) (l c : Nat) (w : World) : (binOp BinOp.eql t (Value.slice none l c) (Value.slice none 0 0)).run P w = .ok (.bool true) w := by
  simp [binOp, go_sem, Op.equal]
  rw [show Op.maxDepth = (Op.maxDepth - 1) + 1 from rfl, eqNone _ t e _ _ _ _ _ _ h]
  rfl
theorem nil_no {P : Program} (t e : TypeId) (h : P.underlying t = some (.slice e)) (p : Addr) (l c : Nat) (w : World) : (binOp BinOp.eql t (Value.slice (some p) l c) (Value.slice none 0 0)).run P w = .ok (.bool false) w := by
  simp [binOp, go_sem, Op.equal]
  rw [show Op.maxDepth = (Op.maxDepth - 1) + 1 from rfl, eqSome _ t e _ _ _ _ _ _ h]
  rfl
theorem info_boo3 : (Tryz.prog.info? 4).map (fun i => (i.zero, i.size, i.bytes)) = some (some (.bool false), 1, 1) := by kernel_rfl
theorem boos_one (xs : List Bool) : ∀ u ∈ xs.map Value.bool, u.oneCell' = true := by
  intro u hu
  obtain ⟨x, _, rfl⟩ := List.mem_map.1 hu
  rfl
theorem tru_cells {D : Nat → Prop} {w : World} {a : Option Addr} {len : Nat} {xs : List Bool} (h : SlAt boolR D w a len xs) : len = 0 ∨ ∃ b off, a = some ⟨b, off, none⟩ ∧ ∀ j, j < len → w.cell? ⟨b, off + j, none⟩ = some (.bool (xs.getD j false)) := by
  by_cases h0 : len = 0
  · exact .inl h0
  · obtain ⟨b, off, rfl, _, _⟩ := h.tru 0 (by omega)
    refine .inr ⟨b, off, rfl, fun j hj => ?_⟩
    obtain ⟨b2, off2, e, _, hc⟩ := h.tru j hj
    obtain ⟨rfl, rfl⟩ : b = b2 ∧ off = off2 := by simpa using e
    exact hc
/-- An empty list that is laid anew is the call's own. -/
theorem own_emptyB {w : World} (base b : Nat) (hb : base ≤ w.heap.size) (he : w.heap.size = b) : (w.alloc (.cells #[] 4)).ownsRow base 4 1 (.slice (some ⟨b, 0, none⟩) 0 0) 0 (([] : List Bool).map (Value.bool)) := by
  subst he
  exact World.ownsRow_lit (base := base) (e := 4) (size := 1) w #[] 0 hb (by unfold maxLen; omega) rfl

/-- 'append(v, ys...)' of truths: what follows is told of the new list, where it lies, and that nothing else has turned. -/
theorem wp_appB {w : World} {o : Oper} {a : Act} {K : Act → World → Prop} {Q : Exit → Act → World → Prop} (s x : Operand)
    (ho : o.op = .call { callee := .builtin .append, args := #[s, x], argTypes := #[24, 24] }) (base : Nat) (v : Value) (n : Nat) (xs : List Bool) (hs : a.eval s = v) (hown : w.ownsRow base 4 1 v n (xs.map (Value.bool)))
    (sa : Option Addr) (sl sc : Nat) (hx : a.eval x = .slice sa sl sc) (ys : List Bool) {D : Nat → Prop} (hI : SlAt boolR D w sa sl ys) (hn : n ≤ 1048576) (hsl : sl ≤ 1048576) (hbase : base ≤ w.heap.size)
    (h : ∀ a' cap' w2, w2.ownsRow base 4 1 (.slice a' (n + sl) cap') (n + sl) ((xs ++ ys).map (Value.bool)) → w.grownBy w2 v.ownBlock → (∀ b, (Value.slice a' (n + sl) cap').ownBlock = some b → v.ownBlock = some b ∨ w.heap.size ≤ b) → K (a.put o.dst (.slice a' (n + sl) cap')) w2)
    (hgd : o.guard = none) : if Region.wanted o (yielded #[] a.tmps) = true then Oper.wp Tryz.prog o a w K Q else False := by
  obtain ⟨i0, hi0, hz0, hz1, hz2⟩ := info_parts info_boo3
  rcases tru_cells hI with h0 | ⟨b, off, rfl, hc⟩
  · subst h0
    have hy : ys = [] := List.eq_nil_of_length_eq_zero hI.size
    subst hy
    refine step_append_empty hgd s x 24 ho base 4 i0 1 Tryz.underlying24 hi0 v n _ hs hown sa sc hx ?_
    have hg : w.grownBy w v.ownBlock := ⟨rfl, rfl, rfl, Nat.le_refl _, fun _ _ _ => rfl⟩
    rcases hown.2 with ⟨rfl, rfl⟩ | ⟨g, cap, cur, rfl, _⟩
    · exact h _ _ w (by rw [List.append_nil]; exact hown) hg (fun b hb => by simp [Value.ownBlock] at hb)
    · exact h _ _ w (by rw [List.append_nil]; exact hown) hg (fun b hb => .inl (by simpa [Value.ownBlock] using hb))
  · by_cases h0 : sl = 0
    · subst h0
      have hy : ys = [] := List.eq_nil_of_length_eq_zero hI.size
      subst hy
      refine step_append_empty hgd s x 24 ho base 4 i0 1 Tryz.underlying24 hi0 v n _ hs hown _ sc hx ?_
      have hg : w.grownBy w v.ownBlock := ⟨rfl, rfl, rfl, Nat.le_refl _, fun _ _ _ => rfl⟩
      rcases hown.2 with ⟨rfl, rfl⟩ | ⟨g, cap, cur, rfl, _⟩
      · exact h _ _ w (by rw [List.append_nil]; exact hown) hg (fun b hb => by simp [Value.ownBlock] at hb)
      · exact h _ _ w (by rw [List.append_nil]; exact hown) hg (fun b hb => .inl (by simpa [Value.ownBlock] using hb))
    · refine step_append_lies _ hgd s x 24 ho base 4 i0 _ 1 1 Tryz.underlying24 hi0 hz0 hz1 hz2 rfl (by omega) v n _ hs hown ⟨b, off, none⟩ sl sc (ys.map (Value.bool)) hx (by rw [List.length_map, hI.size, Nat.mul_one]) (fun j u hu => ?_) (boos_one _) (by omega) (by unfold maxLen; omega) (by omega) hbase _ rfl (fun g cap w' h2 h3 h4 h5 => ?_)
      · have hj : j < sl := by
          have := (List.getElem?_eq_some_iff.1 hu).1
          rw [List.length_map, hI.size] at this
          exact this
        rw [Addr.add_lit, hc j hj, ← hu, List.getElem?_map, List.getD_eq_getElem?_getD, List.getElem?_eq_getElem (by rw [hI.size]; exact hj)]
        rfl
      · refine h _ _ w' (by rw [List.map_append]; exact h2) h3 (fun b' hb' => ?_)
        simp [Value.ownBlock] at hb'
        subst hb'
        rcases h4 with h4 | h4
        · exact .inl h4
        · exact .inr (by omega)
theorem step_appB {w : World} {ops : Array Oper} {o : Oper} {a : Act} {K : Act → World → Prop} {Q : Exit → Act → World → Prop} {F : Prop} (hgd : o.guard = none) (s x : Operand)
    (ho : o.op = .call { callee := .builtin .append, args := #[s, x], argTypes := #[24, 24] }) (base : Nat) (v : Value) (n : Nat) (xs : List Bool) (hs : a.eval s = v) (hown : w.ownsRow base 4 1 v n (xs.map (Value.bool)))
    (sa : Option Addr) (sl sc : Nat) (hx : a.eval x = .slice sa sl sc) (ys : List Bool) {D : Nat → Prop} (hI : SlAt boolR D w sa sl ys) (hn : n ≤ 1048576) (hsl : sl ≤ 1048576) (hbase : base ≤ w.heap.size)
    (h : ∀ a' cap' w2, w2.ownsRow base 4 1 (.slice a' (n + sl) cap') (n + sl) ((xs ++ ys).map (Value.bool)) → w.grownBy w2 v.ownBlock → (∀ b, (Value.slice a' (n + sl) cap').ownBlock = some b → v.ownBlock = some b ∨ w.heap.size ≤ b) → K (a.put o.dst (.slice a' (n + sl) cap')) w2) :
    if Region.wanted o (yielded ops a.tmps) = true then Oper.wp Tryz.prog o a w K Q else F := by
  have := wp_appB (Q := Q) s x ho base v n xs hs hown sa sl sc hx ys hI hn hsl hbase h hgd
  have hw : ∀ ops : Array Oper, Region.wanted o (yielded ops a.tmps) = true := fun _ => by simp [Region.wanted, hgd]
  rw [if_pos (hw _)] at this ⊢
  exact this
theorem list_appB {w : World} {ops : Array Oper} {rest : List Oper} {o : Oper} {a : Act} {Q : Exit → Act → World → Prop} (hgd : o.guard = none) (s x : Operand)
    (ho : o.op = .call { callee := .builtin .append, args := #[s, x], argTypes := #[24, 24] }) (base : Nat) (v : Value) (n : Nat) (xs : List Bool) (hs : a.eval s = v) (hown : w.ownsRow base 4 1 v n (xs.map (Value.bool)))
    (sa : Option Addr) (sl sc : Nat) (hx : a.eval x = .slice sa sl sc) (ys : List Bool) {D : Nat → Prop} (hI : SlAt boolR D w sa sl ys) (hn : n ≤ 1048576) (hsl : sl ≤ 1048576) (hbase : base ≤ w.heap.size)
    (h : ∀ a' cap' w2, w2.ownsRow base 4 1 (.slice a' (n + sl) cap') (n + sl) ((xs ++ ys).map (Value.bool)) → w.grownBy w2 v.ownBlock → (∀ b, (Value.slice a' (n + sl) cap').ownBlock = some b → v.ownBlock = some b ∨ w.heap.size ≤ b) → wpList Tryz.prog ops Q rest (a.put o.dst (.slice a' (n + sl) cap')) w2) :
    wpList Tryz.prog ops Q (o :: rest) a w :=
  wpList_plain hgd fun K hK => by
    have := wp_appB (Q := Q) (K := K) s x ho base v n xs hs hown sa sl sc hx ys hI hn hsl hbase (fun a' c' w2 h1 h2 h3 => hK _ _ (h a' c' w2 h1 h2 h3)) hgd
    have hw : Region.wanted o (yielded #[] a.tmps) = true := by simp [Region.wanted, hgd]
    rw [if_pos hw] at this
    exact this

end Go.Proofs.YtjbmcdekhhbiaaaGreat
