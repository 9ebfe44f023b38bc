/-
  'append' of truths that lie anywhere to a list of the call's own, and where the new list lies.
  A memory anew, of both: what is answered; nothing is written that was there.
  What is put into a memory of one's own, by the specification.
  What is put into a thing, as lists; an answer with a memory of its own.
  What is put into a thing: the specification says so; it writes nothing that was there.
  What is put into a thing, by the program: what it says; it writes nothing that was there.
-/
import Derived.Test.YtjbmcdekhhbiaaaGreatAppI
import Derived.Test.YtjbmcdekhhbiaaaGreatDtBool
import Derived.Test.YtjbmcdekhhbiaaaGreatMrkM
import Derived.Deep.RegionHeld3
import Derived.Deep.Cut
import Derived.Test.YtjbmcdekhhbiaaaGreatInI
import Derived.Test.YtjbmcdekhhbiaaaGreatMemM
import Derived.Test.YtjbmcdekhhbiaaaGreatMemSh
import Derived.Test.YtjbmcdekhhbiaaaGreatMemIn
namespace Go.Proofs.YtjbmcdekhhbiaaaGreat
open Go.ChangeShapes Go.WideShapes Go.ChangeAt Go.RowKit

theorem eqNone {P : Program} (d : Nat) (t e : TypeId) (b : Option Addr) (l c l2 c2 : Nat) (w : World) (h : P.underlying t = some (.slice e)) : (Op.equalIn (d + 1) t (.slice none l c) (.slice b l2 c2)).run P w = .ok b.isNone w := by
  simp [Op.equalIn, run_underlying h]
theorem eqSome {P : Program} (d : Nat) (t e : TypeId) (p : Addr) (l c l2 c2 : Nat) (w : World) (h : P.underlying t = some (.slice e)) : (Op.equalIn (d + 1) t (.slice (some p) l c) (.slice none l2 c2)).run P w = .ok false w := by
  simp [Op.equalIn, run_underlying h]
theorem nil_yes {P : Program} (t e : TypeId) (h : P.underlying t = some (.slice e)) (l c : Nat) (w : World) : (binOp BinOp.eql t (Value.slice none l c) (Value.slice none 0 0)).run P w = .ok (.bool true) w := by
  simp [binOp, go_sem, Op.equal]
  rw [show Op.maxDepth = (Op.maxDepth - 1) + 1 from rfl, eqNone _ t e _ _ _ _ _ _ h]
  rfl
theorem nil_no {P : Program} (t e : TypeId) (h : P.underlying t = some (.slice e)) (p : Addr) (l c : Nat) (w : World) : (binOp BinOp.eql t (Value.slice (some p) l c) (Value.slice none 0 0)).run P w = .ok (.bool false) w := by
  simp [binOp, go_sem, Op.equal]
  rw [show Op.maxDepth = (Op.maxDepth - 1) + 1 from rfl, eqSome _ t e _ _ _ _ _ _ h]
  rfl
theorem info_boo3 : (Tryz.prog.info? 4).map (fun i => (i.zero, i.size, i.bytes)) = some (some (.bool false), 1, 1) := by kernel_rfl
theorem boos_one (xs : List Bool) : ∀ u ∈ xs.map Value.bool, u.oneCell' = true := by
  intro u hu
  obtain ⟨x, _, rfl⟩ := List.mem_map.1 hu
  rfl
theorem tru_cells {D : Nat → Prop} {w : World} {a : Option Addr} {len : Nat} {xs : List Bool} (h : SlAt boolR D w a len xs) : len = 0 ∨ ∃ b off, a = some ⟨b, off, none⟩ ∧ ∀ j, j < len → w.cell? ⟨b, off + j, none⟩ = some (.bool (xs.getD j false)) := by
  by_cases h0 : len = 0
  · exact .inl h0
  · obtain ⟨b, off, rfl, _, _⟩ := h.tru 0 (by omega)
    refine .inr ⟨b, off, rfl, fun j hj => ?_⟩
    obtain ⟨b2, off2, e, _, hc⟩ := h.tru j hj
    obtain ⟨rfl, rfl⟩ : b = b2 ∧ off = off2 := by simpa using e
    exact hc
/-- An empty list that is laid anew is the call's own. -/
theorem own_emptyB {w : World} (base b : Nat) (hb : base ≤ w.heap.size) (he : w.heap.size = b) : (w.alloc (.cells #[] 4)).ownsRow base 4 1 (.slice (some ⟨b, 0, none⟩) 0 0) 0 (([] : List Bool).map (Value.bool)) := by
  subst he
  exact World.ownsRow_lit (base := base) (e := 4) (size := 1) w #[] 0 hb (by unfold maxLen; omega) rfl

/-- 'append(v, ys...)' of truths: what follows is told of the new list, where it lies, and that nothing else has turned. -/
theorem wp_appB {w : World} {o : Oper} {a : Act} {K : Act → World → Prop} {Q : Exit → Act → World → Prop} (s x : Operand)
    (ho : o.op = .call { callee := .builtin .append, args := #[s, x], argTypes := #[24, 24] }) (base : Nat) (v : Value) (n : Nat) (xs : List Bool) (hs : a.eval s = v) (hown : w.ownsRow base 4 1 v n (xs.map (Value.bool)))
    (sa : Option Addr) (sl sc : Nat) (hx : a.eval x = .slice sa sl sc) (ys : List Bool) {D : Nat → Prop} (hI : SlAt boolR D w sa sl ys) (hn : n ≤ 1048576) (hsl : sl ≤ 1048576) (hbase : base ≤ w.heap.size)
    (h : ∀ a' cap' w2, w2.ownsRow base 4 1 (.slice a' (n + sl) cap') (n + sl) ((xs ++ ys).map (Value.bool)) → w.grownBy w2 v.ownBlock → (∀ b, (Value.slice a' (n + sl) cap').ownBlock = some b → v.ownBlock = some b ∨ w.heap.size ≤ b) → K (a.put o.dst (.slice a' (n + sl) cap')) w2)
    (hgd : o.guard = none) : if Region.wanted o (yielded #[] a.tmps) = true then Oper.wp Tryz.prog o a w K Q else False := by
  obtain ⟨i0, hi0, hz0, hz1, hz2⟩ := info_parts info_boo3
  rcases tru_cells hI with h0 | ⟨b, off, rfl, hc⟩
  · subst h0
    have hy : ys = [] := List.eq_nil_of_length_eq_zero hI.size
    subst hy
    refine step_append_empty hgd s x 24 ho base 4 i0 1 Tryz.underlying24 hi0 v n _ hs hown sa sc hx ?_
    have hg : w.grownBy w v.ownBlock := ⟨rfl, rfl, rfl, Nat.le_refl _, fun _ _ _ => rfl⟩
    rcases hown.2 with ⟨rfl, rfl⟩ | ⟨g, cap, cur, rfl, _⟩
    · exact h _ _ w (by rw [List.append_nil]; exact hown) hg (fun b hb => by simp [Value.ownBlock] at hb)
    · exact h _ _ w (by rw [List.append_nil]; exact hown) hg (fun b hb => .inl (by simpa [Value.ownBlock] using hb))
  · by_cases h0 : sl = 0
    · subst h0
      have hy : ys = [] := List.eq_nil_of_length_eq_zero hI.size
      subst hy
      refine step_append_empty hgd s x 24 ho base 4 i0 1 Tryz.underlying24 hi0 v n _ hs hown _ sc hx ?_
      have hg : w.grownBy w v.ownBlock := ⟨rfl, rfl, rfl, Nat.le_refl _, fun _ _ _ => rfl⟩
      rcases hown.2 with ⟨rfl, rfl⟩ | ⟨g, cap, cur, rfl, _⟩
      · exact h _ _ w (by rw [List.append_nil]; exact hown) hg (fun b hb => by simp [Value.ownBlock] at hb)
      · exact h _ _ w (by rw [List.append_nil]; exact hown) hg (fun b hb => .inl (by simpa [Value.ownBlock] using hb))
    · refine step_append_lies _ hgd s x 24 ho base 4 i0 _ 1 1 Tryz.underlying24 hi0 hz0 hz1 hz2 rfl (by omega) v n _ hs hown ⟨b, off, none⟩ sl sc (ys.map (Value.bool)) hx (by rw [List.length_map, hI.size, Nat.mul_one]) (fun j u hu => ?_) (boos_one _) (by omega) (by unfold maxLen; omega) (by omega) hbase _ rfl (fun g cap w' h2 h3 h4 h5 => ?_)
      · have hj : j < sl := by
          have := (List.getElem?_eq_some_iff.1 hu).1
          rw [List.length_map, hI.size] at this
          exact this
        rw [Addr.add_lit, hc j hj, ← hu, List.getElem?_map, List.getD_eq_getElem?_getD, List.getElem?_eq_getElem (by rw [hI.size]; exact hj)]
        rfl
      · refine h _ _ w' (by rw [List.map_append]; exact h2) h3 (fun b' hb' => ?_)
        simp [Value.ownBlock] at hb'
        subst hb'
        rcases h4 with h4 | h4
        · exact .inl h4
        · exact .inr (by omega)
theorem step_appB {w : World} {ops : Array Oper} {o : Oper} {a : Act} {K : Act → World → Prop} {Q : Exit → Act → World → Prop} {F : Prop} (hgd : o.guard = none) (s x : Operand)
    (ho : o.op = .call { callee := .builtin .append, args := #[s, x], argTypes := #[24, 24] }) (base : Nat) (v : Value) (n : Nat) (xs : List Bool) (hs : a.eval s = v) (hown : w.ownsRow base 4 1 v n (xs.map (Value.bool)))
    (sa : Option Addr) (sl sc : Nat) (hx : a.eval x = .slice sa sl sc) (ys : List Bool) {D : Nat → Prop} (hI : SlAt boolR D w sa sl ys) (hn : n ≤ 1048576) (hsl : sl ≤ 1048576) (hbase : base ≤ w.heap.size)
    (h : ∀ a' cap' w2, w2.ownsRow base 4 1 (.slice a' (n + sl) cap') (n + sl) ((xs ++ ys).map (Value.bool)) → w.grownBy w2 v.ownBlock → (∀ b, (Value.slice a' (n + sl) cap').ownBlock = some b → v.ownBlock = some b ∨ w.heap.size ≤ b) → K (a.put o.dst (.slice a' (n + sl) cap')) w2) :
    if Region.wanted o (yielded ops a.tmps) = true then Oper.wp Tryz.prog o a w K Q else F := by
  have := wp_appB (Q := Q) s x ho base v n xs hs hown sa sl sc hx ys hI hn hsl hbase h hgd
  have hw : ∀ ops : Array Oper, Region.wanted o (yielded ops a.tmps) = true := fun _ => by simp [Region.wanted, hgd]
  rw [if_pos (hw _)] at this ⊢
  exact this
theorem list_appB {w : World} {ops : Array Oper} {rest : List Oper} {o : Oper} {a : Act} {Q : Exit → Act → World → Prop} (hgd : o.guard = none) (s x : Operand)
    (ho : o.op = .call { callee := .builtin .append, args := #[s, x], argTypes := #[24, 24] }) (base : Nat) (v : Value) (n : Nat) (xs : List Bool) (hs : a.eval s = v) (hown : w.ownsRow base 4 1 v n (xs.map (Value.bool)))
    (sa : Option Addr) (sl sc : Nat) (hx : a.eval x = .slice sa sl sc) (ys : List Bool) {D : Nat → Prop} (hI : SlAt boolR D w sa sl ys) (hn : n ≤ 1048576) (hsl : sl ≤ 1048576) (hbase : base ≤ w.heap.size)
    (h : ∀ a' cap' w2, w2.ownsRow base 4 1 (.slice a' (n + sl) cap') (n + sl) ((xs ++ ys).map (Value.bool)) → w.grownBy w2 v.ownBlock → (∀ b, (Value.slice a' (n + sl) cap').ownBlock = some b → v.ownBlock = some b ∨ w.heap.size ≤ b) → wpList Tryz.prog ops Q rest (a.put o.dst (.slice a' (n + sl) cap')) w2) :
    wpList Tryz.prog ops Q (o :: rest) a w :=
  wpList_plain hgd fun K hK => by
    have := wp_appB (Q := Q) (K := K) s x ho base v n xs hs hown sa sl sc hx ys hI hn hsl hbase (fun a' c' w2 h1 h2 h3 => hK _ _ (h a' c' w2 h1 h2 h3)) hgd
    have hw : Region.wanted o (yielded #[] a.tmps) = true := by simp [Region.wanted, hgd]
    rw [if_pos hw] at this
    exact this

end Go.Proofs.YtjbmcdekhhbiaaaGreat
namespace Go.Proofs.YtjbmcdekhhbiaaaGreat
open Go.ChangeShapes Go.WideShapes Go.ChangeAt Go.RowKit
set_option linter.unusedVariables false

theorem own_wri {w : World} {base n c : Nat} {a : Option Addr} {xs : List Int} (h : w.ownsRow base 3 1 (.slice a n c) n (xs.map (Value.int .i64))) : Wri w a n (fun j => xs.getD j 0) ∧ ∀ x, a = some x → 0 < n → base ≤ x.block := by
  have hlen : xs.length = n := by have := h.1; simpa using this
  rcases h.2 with ⟨_, h0⟩ | ⟨g, cap, cur, e, hb, hg, _⟩
  · exact ⟨⟨.inl h0⟩, fun x e hp => by omega⟩
  · cases e
    refine ⟨⟨.inr ⟨g, 0, rfl, fun j hj => ?_⟩⟩, fun x e _ => by obtain rfl := Option.some.inj e; exact hb⟩
    rw [Nat.zero_add]
    exact ⟨by rw [h.cellAt j (by omega), List.getElem?_map, List.getD_eq_getElem?_getD, List.getElem?_eq_getElem (by omega)]; rfl, h.frozenAt _⟩
theorem own_wriB {w : World} {base n c : Nat} {a : Option Addr} {xs : List Bool} (h : w.ownsRow base 4 1 (.slice a n c) n (xs.map Value.bool)) : WriB w a n (fun j => xs.getD j false) ∧ ∀ x, a = some x → 0 < n → base ≤ x.block := by
  have hlen : xs.length = n := by have := h.1; simpa using this
  rcases h.2 with ⟨_, h0⟩ | ⟨g, cap, cur, e, hb, hg, _⟩
  · exact ⟨⟨.inl h0⟩, fun x e hp => by omega⟩
  · cases e
    refine ⟨⟨.inr ⟨g, 0, rfl, fun j hj => ?_⟩⟩, fun x e _ => by obtain rfl := Option.some.inj e; exact hb⟩
    rw [Nat.zero_add]
    exact ⟨by rw [h.cellAt j (by omega), List.getElem?_map, List.getD_eq_getElem?_getD, List.getElem?_eq_getElem (by omega)]; rfl, h.frozenAt _⟩
set_option maxRecDepth 100000 in
set_option maxHeartbeats 4000000 in
theorem cloneI (a : Option Addr) (l c : Nat) (xs : List Int) (w : World) {D : Nat → Prop} (h : IntsAt D w a l xs) (hl : l ≤ 1048576) :
    Calls Tryz.prog 111 #[.slice a l c] w fun e w' => ∃ a2 c2, e = .returned (.slice a2 l c2) ∧ Wri w' a2 l (fun j => xs.getD j 0) ∧ (∀ x, a2 = some x → 0 < l → w.heap.size ≤ x.block) ∧ Below w.heap.size w w' := by
  have H : Hid (IntsAt D w a l xs) := h
  have E0 : Hid ((w.alloc (.cells #[] 3)).ownsRow w.heap.size 3 1 (.slice (some ⟨w.heap.size, 0, none⟩) 0 0) 0 (([] : List Int).map (Value.int .i64))) := own_empty _ _ (Nat.le_refl _) rfl
  have hl0 : a = none → l = 0 := fun e => by
    rcases h.cells with h0 | ⟨b, off, e2, _⟩
    · exact h0
    · rw [e] at e2; cases e2
  clear h
  cases a with
  | none =>
    obtain rfl := hl0 rfl
    have hcmp := fun (c9 : Nat) (wx : World) => nil_yes (P := Tryz.prog) 23 3 Tryz.underlying23 0 c9 wx
    go_enter Tryz.func111, Tryz.ntmps111
    go_wp2_with fail
    go_ret
    first
      | exact ⟨_, _, rfl, ⟨.inl rfl⟩, (fun x e hp => by omega), Below.refl _ _⟩
      | exact ⟨_, ⟨_, rfl⟩, ⟨.inl rfl⟩, (fun x e hp => by omega), Below.refl _ _⟩
      | exact ⟨none, ⟨_, rfl⟩, ⟨.inl rfl⟩, Below.refl _ _⟩
      | exact ⟨none, _, rfl, ⟨.inl rfl⟩, Below.refl _ _⟩
      | exact ⟨none, ⟨⟨_, rfl⟩, ⟨.inl rfl⟩⟩, Below.refl _ _⟩
      | exact ⟨⟨none, ⟨_, rfl⟩, ⟨.inl rfl⟩⟩, Below.refl _ _⟩
  | some p =>
    have BA : Hid (Below w.heap.size w (w.alloc (.cells #[] 3))) := (Below.refl _ _).alloc (Nat.le_refl _) _
    clear hl0
    have hcmp := fun (l9 c9 : Nat) (wx : World) => nil_no (P := Tryz.prog) 23 3 Tryz.underlying23 p l9 c9 wx
    go_enter Tryz.func111, Tryz.ntmps111
    go_wp2_with (
      at_builtin
      refine list_app rfl _ _ rfl w.heap.size (.slice (some ⟨w.heap.size, 0, none⟩) 0 0) 0 [] rfl E0.out _ _ _ rfl xs (H.out.later BA.out) (by omega) hl (by simp) ?_
      intro a3 c3 w3 hown3 hgrow3 hloc3
      have W3 : Hid (w3.ownsRow w.heap.size 3 1 (.slice a3 l c3) l (xs.map (Value.int .i64))) := by
        have h9 := hown3
        rw [Nat.zero_add, List.nil_append] at h9
        exact h9
      have B4 : Hid (Below w.heap.size w w3) := BA.out.trans ((Below.refl _ _).grown hgrow3 (by simp) (fun j e => own_ge E0.out j e.symm))
      clear hown3 hgrow3 hloc3
      try rw [Nat.zero_add])
    go_ret
    first
      | exact ⟨_, _, rfl, (own_wri W3.out).1, (own_wri W3.out).2, B4.out⟩
      | exact ⟨_, ⟨_, rfl⟩, (own_wri W3.out).1, (own_wri W3.out).2, B4.out⟩
set_option maxRecDepth 100000 in
set_option maxHeartbeats 4000000 in
theorem cloneB (a : Option Addr) (l c : Nat) (xs : List Bool) (w : World) {D : Nat → Prop} (h : SlAt boolR D w a l xs) (hl : l ≤ 1048576) :
    Calls Tryz.prog 112 #[.slice a l c] w fun e w' => ∃ a2 c2, e = .returned (.slice a2 l c2) ∧ WriB w' a2 l (fun j => xs.getD j false) ∧ (∀ x, a2 = some x → 0 < l → w.heap.size ≤ x.block) ∧ Below w.heap.size w w' := by
  have H : Hid (SlAt boolR D w a l xs) := h
  have E0 : Hid ((w.alloc (.cells #[] 4)).ownsRow w.heap.size 4 1 (.slice (some ⟨w.heap.size, 0, none⟩) 0 0) 0 (([] : List Bool).map Value.bool)) := own_emptyB _ _ (Nat.le_refl _) rfl
  have hl0 : a = none → l = 0 := fun e => by
    rcases h.cells with h0 | ⟨b, off, e2, _⟩
    · exact h0
    · rw [e] at e2; cases e2
  clear h
  cases a with
  | none =>
    obtain rfl := hl0 rfl
    have hcmp := fun (c9 : Nat) (wx : World) => nil_yes (P := Tryz.prog) 24 4 Tryz.underlying24 0 c9 wx
    go_enter Tryz.func112, Tryz.ntmps112
    go_wp2_with fail
    go_ret
    first
      | exact ⟨_, _, rfl, ⟨.inl rfl⟩, (fun x e hp => by omega), Below.refl _ _⟩
      | exact ⟨_, ⟨_, rfl⟩, ⟨.inl rfl⟩, (fun x e hp => by omega), Below.refl _ _⟩
      | exact ⟨none, ⟨_, rfl⟩, ⟨.inl rfl⟩, Below.refl _ _⟩
      | exact ⟨none, _, rfl, ⟨.inl rfl⟩, Below.refl _ _⟩
      | exact ⟨none, ⟨⟨_, rfl⟩, ⟨.inl rfl⟩⟩, Below.refl _ _⟩
      | exact ⟨⟨none, ⟨_, rfl⟩, ⟨.inl rfl⟩⟩, Below.refl _ _⟩
  | some p =>
    have BA : Hid (Below w.heap.size w (w.alloc (.cells #[] 4))) := (Below.refl _ _).alloc (Nat.le_refl _) _
    clear hl0
    have hcmp := fun (l9 c9 : Nat) (wx : World) => nil_no (P := Tryz.prog) 24 4 Tryz.underlying24 p l9 c9 wx
    go_enter Tryz.func112, Tryz.ntmps112
    go_wp2_with (
      at_builtin
      refine list_appB rfl _ _ rfl w.heap.size (.slice (some ⟨w.heap.size, 0, none⟩) 0 0) 0 [] rfl E0.out _ _ _ rfl xs (H.out.later BA.out) (by omega) hl (by simp) ?_
      intro a3 c3 w3 hown3 hgrow3 hloc3
      have W3 : Hid (w3.ownsRow w.heap.size 4 1 (.slice a3 l c3) l (xs.map Value.bool)) := by
        have h9 := hown3
        rw [Nat.zero_add, List.nil_append] at h9
        exact h9
      have B4 : Hid (Below w.heap.size w w3) := BA.out.trans ((Below.refl _ _).grown hgrow3 (by simp) (fun j e => own_ge E0.out j e.symm))
      clear hown3 hgrow3 hloc3
      try rw [Nat.zero_add])
    go_ret
    first
      | exact ⟨_, _, rfl, (own_wriB W3.out).1, (own_wriB W3.out).2, B4.out⟩
      | exact ⟨_, ⟨_, rfl⟩, (own_wriB W3.out).1, (own_wriB W3.out).2, B4.out⟩

/-- A memory anew: its lists are of one's own. -/
def CpP (w : World) (x1 x2 x3 : Int) (n m : Nat) (xs : List Int) (cd : List Bool) (e : Ending) (w' : World) : Prop :=
  ∃ a c b d, e = .returned (.agg #[.slice a n c, .int .i64 x1, .int .i64 x2, .int .i64 x3, .slice b m d]) ∧ Wri w' a n (fun j => xs.getD j 0) ∧ WriB w' b m (fun j => cd.getD j false) ∧ (∀ x, a = some x → 0 < n → w.heap.size ≤ x.block) ∧ (∀ x, b = some x → 0 < m → w.heap.size ≤ x.block) ∧ (∀ x y, a = some x → b = some y → 0 < n → 0 < m → x.block ≠ y.block) ∧ Below w.heap.size w w'
set_option maxRecDepth 100000 in
set_option maxHeartbeats 4000000 in
theorem copyImpl (x1 x2 x3 : Int) (a0 : Option Addr) (n c0 : Nat) (a4 : Option Addr) (m c4 : Nat) (xs : List Int) (cd : List Bool) (w : World) {D D2 : Nat → Prop} (h0 : IntsAt D w a0 n xs) (h4 : SlAt boolR D2 w a4 m cd) (hn : n ≤ 1048576) (hm : m ≤ 1048576) :
    Calls Tryz.prog 74 #[.agg #[.slice a0 n c0, .int .i64 x1, .int .i64 x2, .int .i64 x3, .slice a4 m c4]] w (CpP w x1 x2 x3 n m xs cd) := by
  have H0 : Hid (IntsAt D w a0 n xs) := h0
  have H4 : Hid (SlAt boolR D2 w a4 m cd) := h4
  clear h0 h4
  have hz : w.heap.size + 1 + 1 ≤ ((w.alloc (.cells #[.slice a0 n c0, .int .i64 x1, .int .i64 x2, .int .i64 x3, .slice a4 m c4] 29)).alloc (.cells #[.slice none 0 0, .int .i64 0, .int .i64 0, .int .i64 0, .slice none 0 0] 29)).heap.size := by simp
  have B : Hid (∀ y, Below (w.heap.size + 1 + 1) ((w.alloc (.cells #[.slice a0 n c0, .int .i64 x1, .int .i64 x2, .int .i64 x3, .slice a4 m c4] 29)).alloc (.cells #[.slice none 0 0, .int .i64 0, .int .i64 0, .int .i64 0, .slice none 0 0] 29)) y → Below w.heap.size w y) := fun y hy => ((bR.alloc (by first | exact Nat.le_refl _ | (simp; done) | (simp; omega)) _).alloc (by first | exact Nat.le_refl _ | (simp; done) | (simp; omega)) _).trans (hy.mono (by omega))
  have XM : Hid (∀ y, Below (w.heap.size + 1 + 1) ((w.alloc (.cells #[.slice a0 n c0, .int .i64 x1, .int .i64 x2, .int .i64 x3, .slice a4 m c4] 29)).alloc (.cells #[.slice none 0 0, .int .i64 0, .int .i64 0, .int .i64 0, .slice none 0 0] 29)) y → y.heap[w.heap.size]? = some (.cells #[.slice a0 n c0, .int .i64 x1, .int .i64 x2, .int .i64 x3, .slice a4 m c4] 29 (0, 0))) := fun y hy => (hy.block _ (by omega)).trans ((Below.heap_alloc _ _ _ (by first | (simp; done) | (simp; omega))).trans (boxN _ _ _ _ (by simp)))
  have lM : w.heap.size < w.heap.size + 1 + 1 := by omega
  have XR : Hid (∀ y, Below (w.heap.size + 1 + 1) ((w.alloc (.cells #[.slice a0 n c0, .int .i64 x1, .int .i64 x2, .int .i64 x3, .slice a4 m c4] 29)).alloc (.cells #[.slice none 0 0, .int .i64 0, .int .i64 0, .int .i64 0, .slice none 0 0] 29)) y → y.heap[w.heap.size + 1]? = some (.cells #[.slice none 0 0, .int .i64 0, .int .i64 0, .int .i64 0, .slice none 0 0] 29 (0, 0))) := fun y hy => (hy.block _ (by omega)).trans (boxN _ _ _ _ (by simp))
  have lR : w.heap.size + 1 < w.heap.size + 1 + 1 := by omega
  go_enter Tryz.func74, Tryz.ntmps74
  go_wp2_with fail
  have KS : Hid (∀ x, Below (w.heap.size + 1 + 1) ((w.alloc (.cells #[.slice a0 n c0, .int .i64 x1, .int .i64 x2, .int .i64 x3, .slice a4 m c4] 29)).alloc (.cells #[.slice none 0 0, .int .i64 0, .int .i64 0, .int .i64 0, .slice none 0 0] 29)) x → True) := fun x hx => trivial
  refine wp_region_held_drew (S := fun x => True) (by kernel_rfl) ?_ (fun hHeld => ?_)
  · exact KS.out _ (bdrew bR)
  refine tV 0 (v := ?_) rfl (by kernel_rfl) (fun _ _ _ h => h) ?_ (by assumption) ?_
  rotate_left 1
  · (intro x hSx; (try dsimp only at hSx); go_simp; try with_reducible rfl)
  try simp only [Act.put, List.getElem_toArray, List.getElem_cons_zero, List.setIfInBounds_toArray, List.set_cons_zero, List.set_cons_succ]
  refine tV 3 (v := ?_) rfl (by kernel_rfl) (fun _ _ _ h => h) ?_ (by assumption) ?_
  rotate_left 1
  · (intro x hSx; (try dsimp only at hSx); go_simp; try with_reducible rfl)
  try simp only [Act.put, List.getElem_toArray, List.getElem_cons_zero, List.getElem_cons_succ, List.setIfInBounds_toArray, List.set_cons_zero, List.set_cons_succ]
  refine wpAnyH_ready (rs := [1, 4]) (by kernel_rfl) (by simp) ?_
  refine AllReadyH.cons rfl (fun K hK => ?_) (AllReadyH.cons rfl (fun K hK => ?_) AllReadyH.nil)
  · obtain ⟨kM0, kM1, kM2, kM3, kM4⟩ := bk5 (XM.out ((w.alloc (.cells #[.slice a0 n c0, .int .i64 x1, .int .i64 x2, .int .i64 x3, .slice a4 m c4] 29)).alloc (.cells #[.slice none 0 0, .int .i64 0, .int .i64 0, .int .i64 0, .slice none 0 0] 29)) bR)
    go_simp
    clear kM0 kM1 kM2 kM3 kM4
    refine hK.out _ _ (KS.out _ (bdrew bR)) (fun hHeld2 => ?_)
    clear hK K
    try simp only [Act.put, List.getElem_toArray, List.getElem_cons_zero, List.getElem_cons_succ, List.setIfInBounds_toArray, List.set_cons_zero, List.set_cons_succ]
    refine wpAnyH_ready (rs := [2, 4]) (by kernel_rfl) (by simp) ?_
    refine AllReadyH.cons rfl (fun K hK => ?_) (AllReadyH.cons rfl (fun K hK => ?_) AllReadyH.nil)
    · go_simp
      go_at_call 111
      have BP : Hid (Below (w.heap.size + 1 + 1) ((w.alloc (.cells #[.slice a0 n c0, .int .i64 x1, .int .i64 x2, .int .i64 x3, .slice a4 m c4] 29)).alloc (.cells #[.slice none 0 0, .int .i64 0, .int .i64 0, .int .i64 0, .slice none 0 0] 29)) ((w.alloc (.cells #[.slice a0 n c0, .int .i64 x1, .int .i64 x2, .int .i64 x3, .slice a4 m c4] 29)).alloc (.cells #[.slice none 0 0, .int .i64 0, .int .i64 0, .int .i64 0, .slice none 0 0] 29)).drew) := (bdrew bR)
      refine (cloneI _ _ _ xs _ (H0.out.later (B.out _ BP.out)) hn).mono ?_
      rintro e w1 ⟨g, gc, rfl, hA, hla, hb⟩
      have hq : Below (w.heap.size + 1 + 1) ((w.alloc (.cells #[.slice a0 n c0, .int .i64 x1, .int .i64 x2, .int .i64 x3, .slice a4 m c4] 29)).alloc (.cells #[.slice none 0 0, .int .i64 0, .int .i64 0, .int .i64 0, .slice none 0 0] 29)) w1 := BP.out.trans (Below.mono hb (Nat.le_trans hz BP.out.size))
      have hzn : w.heap.size + 1 + 1 ≤ w1.heap.size := Nat.le_trans hz hq.size
      replace B := lF B hq hzn
      replace KS := lF KS hq hzn
      replace XM := lF XM hq hzn
      replace lM := Nat.lt_of_lt_of_le lM hzn
      replace XR := lF XR hq hzn
      replace lR := Nat.lt_of_lt_of_le lR hzn
      clear hq BP hz
      have hz : w1.heap.size ≤ w1.heap.size := Nat.le_refl _
      have WA : Hid (∀ y, Below (w1.heap.size) w1 y → Wri y g n (fun j => xs.getD j 0)) := fun y hy => hA.later hy
      have LA : Hid (∀ x, g = some x → 0 < n → w.heap.size + 1 + 1 ≤ x.block ∧ x.block < w1.heap.size) := fun x e h9 => ⟨by simpa using hla x e h9, hA.lt x e h9⟩
      clear hb hA hla
      go_wp2_with fail
      have lM1 : w.heap.size + 1 + 1 ≤ w1.heap.size := by have := lR; omega
      refine hK.out _ _ (KS.out _ bR) (fun hHeld3 => ?_)
      clear hK K
      try simp only [Act.put, List.getElem_toArray, List.getElem_cons_zero, List.getElem_cons_succ, List.setIfInBounds_toArray, List.set_cons_zero, List.set_cons_succ]
      refine wpAnyH_ready (rs := [4]) (by kernel_rfl) (by simp) ?_
      refine AllReadyH.cons rfl (fun K hK => ?_) AllReadyH.nil
      obtain ⟨kM0, kM1, kM2, kM3, kM4⟩ := bk5 (XM.out w1 bR)
      go_simp
      clear kM0 kM1 kM2 kM3 kM4
      refine hK.out _ _ (KS.out _ bR) (fun hHeld4 => ?_)
      clear hK K
      try simp only [Act.put, List.getElem_toArray, List.getElem_cons_zero, List.getElem_cons_succ, List.setIfInBounds_toArray, List.set_cons_zero, List.set_cons_succ]
      refine tV 6 (v := ?_) rfl (by kernel_rfl) (fun _ _ _ h => h) ?_ (by assumption) ?_
      rotate_left 1
      · (intro x hSx; (try dsimp only at hSx); go_simp; try with_reducible rfl)
      try simp only [Act.put, List.getElem_toArray, List.getElem_cons_zero, List.getElem_cons_succ, List.setIfInBounds_toArray, List.set_cons_zero, List.set_cons_succ]
      refine wpAnyH_ready (rs := [5]) (by kernel_rfl) (by simp) ?_
      refine AllReadyH.cons rfl (fun K hK => ?_) AllReadyH.nil
      go_simp
      go_at_call 112
      have BP : Hid (Below (w1.heap.size) w1 w1) := bR
      refine (cloneB _ _ _ cd _ (H4.out.later (B.out _ BP.out)) hm).mono ?_
      rintro e w2 ⟨k, kc, rfl, hC, hlc, hb⟩
      have hq : Below (w1.heap.size) w1 w2 := BP.out.trans (Below.mono hb (Nat.le_trans hz BP.out.size))
      have hzn : w1.heap.size ≤ w2.heap.size := Nat.le_trans hz hq.size
      replace B := lF B hq hzn
      replace KS := lF KS hq hzn
      replace WA := lF WA hq hzn
      replace XM := lF XM hq hzn
      replace lM := Nat.lt_of_lt_of_le lM hzn
      replace XR := lF XR hq hzn
      replace lR := Nat.lt_of_lt_of_le lR hzn
      clear hq BP hz
      have hz : w2.heap.size ≤ w2.heap.size := Nat.le_refl _
      have WC : Hid (∀ y, Below (w2.heap.size) w2 y → WriB y k m (fun j => cd.getD j false)) := fun y hy => hC.later hy
      have LC : Hid (∀ x, k = some x → 0 < m → w1.heap.size ≤ x.block ∧ x.block < w2.heap.size) := fun x e h9 => ⟨hlc x e h9, hC.lt x e h9⟩
      clear hb hC hlc
      go_wp2_with fail
      have hs12 : w.heap.size + 1 + 1 ≤ w1.heap.size := lM1
      refine hK.out _ _ (KS.out _ bR) (fun hHeld5 => ?_)
      clear hK K
      try simp only [Act.put, List.getElem_toArray, List.getElem_cons_zero, List.getElem_cons_succ, List.setIfInBounds_toArray, List.set_cons_zero, List.set_cons_succ]
      refine wpAnyH_ready (rs := [7]) (by kernel_rfl) (by simp) ?_
      refine AllReadyH.cons rfl (fun K hK => ?_) AllReadyH.nil
      obtain ⟨kM0, kM1, kM2, kM3, kM4⟩ := bk5 (XM.out w2 bR)
      obtain ⟨qkM0, qkM1, qkM2, qkM3, qkM4⟩ := bq5 (XM.out w2 bR)
      go_simp
      clear kM0 kM1 kM2 kM3 kM4 qkM0 qkM1 qkM2 qkM3 qkM4
      have hw0 : w.heap.size ≤ w.heap.size := (by first | omega | (simp; done) | (simp; omega) | (simp at *; omega))
      replace XR := lS XR lR ((w2.setCell ⟨w.heap.size, 0, none⟩ (.slice g n gc))) ((Below.heap_setCell _ _ _ _ (by first | omega | (simp; done) | (simp; omega))))
      replace XM : Hid (∀ y, Below (w2.heap.size) (w2.setCell ⟨w.heap.size, 0, none⟩ (.slice g n gc)) y → y.heap[w.heap.size]? = some (.cells #[.slice g n gc, .int .i64 x1, .int .i64 x2, .int .i64 x3, .slice a4 m c4] 29 (0, 0))) := fun y hy => (hy.block _ (by omega)).trans (boxS (XM.out w2 bR) 0 _)
      clear KS
      replace WA : Hid (∀ y, Below (w2.heap.size) (w2.setCell ⟨w.heap.size, 0, none⟩ (.slice g n gc)) y → Wri y g n (fun j => xs.getD j 0)) := fun y hy => ((WA.out w2 (Below.refl _ _)).keep (D := fun i => i = w.heap.size) (Chg.set _ _ _ rfl) (fun x e h9 hd => by have := (LA.out x e h9).1; have h8 : x.block = w.heap.size := hd; omega)).later (hy.mono (by simp))
      replace WC : Hid (∀ y, Below (w2.heap.size) (w2.setCell ⟨w.heap.size, 0, none⟩ (.slice g n gc)) y → WriB y k m (fun j => cd.getD j false)) := fun y hy => ((WC.out w2 (Below.refl _ _)).keep (D := fun i => i = w.heap.size) (Chg.set _ _ _ rfl) (fun x e h9 hd => by have := (LC.out x e h9).1; have := hs12; have h8 : x.block = w.heap.size := hd; omega)).later (hy.mono (by simp))
      replace B : Hid (∀ y, Below (w2.heap.size) (w2.setCell ⟨w.heap.size, 0, none⟩ (.slice g n gc)) y → Below w.heap.size w y) := fun y hy => ((B.out w2 bR).setCell hw0 _).trans (hy.mono (by first | omega | exact Nat.le_trans (B.out w2 bR).size hz | (have := (B.out w2 bR).size; omega)))
      replace hz : w2.heap.size ≤ (w2.setCell ⟨w.heap.size, 0, none⟩ (.slice g n gc)).heap.size := by first | (simp; done) | simpa using hz
      clear hw0
      have KS : Hid (∀ x, Below (w2.heap.size) (w2.setCell ⟨w.heap.size, 0, none⟩ (.slice g n gc)) x → True) := fun x hx => trivial
      refine hK.out _ _ (KS.out _ bR) (fun hHeld6 => ?_)
      clear hK K
      try simp only [Act.put, List.getElem_toArray, List.getElem_cons_zero, List.getElem_cons_succ, List.setIfInBounds_toArray, List.set_cons_zero, List.set_cons_succ]
      refine tV 8 (v := ?_) rfl (by kernel_rfl) (fun _ _ _ h => h) ?_ (by assumption) ?_
      rotate_left 1
      · (intro x hSx; (try dsimp only at hSx); go_simp; try with_reducible rfl)
      try simp only [Act.put, List.getElem_toArray, List.getElem_cons_zero, List.getElem_cons_succ, List.setIfInBounds_toArray, List.set_cons_zero, List.set_cons_succ]
      refine wpAnyH_ready (rs := [9]) (by kernel_rfl) (by simp) ?_
      refine AllReadyH.cons rfl (fun K hK => ?_) AllReadyH.nil
      obtain ⟨kM0, kM1, kM2, kM3, kM4⟩ := bk5 (XM.out (w2.setCell ⟨w.heap.size, 0, none⟩ (.slice g n gc)) bR)
      obtain ⟨qkM0, qkM1, qkM2, qkM3, qkM4⟩ := bq5 (XM.out (w2.setCell ⟨w.heap.size, 0, none⟩ (.slice g n gc)) bR)
      go_simp
      clear kM0 kM1 kM2 kM3 kM4 qkM0 qkM1 qkM2 qkM3 qkM4
      have hw0 : w.heap.size ≤ w.heap.size := (by first | omega | (simp; done) | (simp; omega) | (simp at *; omega))
      replace XR := lS XR lR (((w2.setCell ⟨w.heap.size, 0, none⟩ (.slice g n gc)).setCell ⟨w.heap.size, 4, none⟩ (.slice k m kc))) ((Below.heap_setCell _ _ _ _ (by first | omega | (simp; done) | (simp; omega))))
      replace XM : Hid (∀ y, Below (w2.heap.size) ((w2.setCell ⟨w.heap.size, 0, none⟩ (.slice g n gc)).setCell ⟨w.heap.size, 4, none⟩ (.slice k m kc)) y → y.heap[w.heap.size]? = some (.cells #[.slice g n gc, .int .i64 x1, .int .i64 x2, .int .i64 x3, .slice k m kc] 29 (0, 0))) := fun y hy => (hy.block _ (by omega)).trans (boxS (XM.out (w2.setCell ⟨w.heap.size, 0, none⟩ (.slice g n gc)) bR) 4 _)
      replace WA : Hid (∀ y, Below (w2.heap.size) ((w2.setCell ⟨w.heap.size, 0, none⟩ (.slice g n gc)).setCell ⟨w.heap.size, 4, none⟩ (.slice k m kc)) y → Wri y g n (fun j => xs.getD j 0)) := fun y hy => ((WA.out (w2.setCell ⟨w.heap.size, 0, none⟩ (.slice g n gc)) (Below.refl _ _)).keep (D := fun i => i = w.heap.size) (Chg.set _ _ _ rfl) (fun x e h9 hd => by have := (LA.out x e h9).1; have h8 : x.block = w.heap.size := hd; omega)).later (hy.mono (by simp))
      replace WC : Hid (∀ y, Below (w2.heap.size) ((w2.setCell ⟨w.heap.size, 0, none⟩ (.slice g n gc)).setCell ⟨w.heap.size, 4, none⟩ (.slice k m kc)) y → WriB y k m (fun j => cd.getD j false)) := fun y hy => ((WC.out (w2.setCell ⟨w.heap.size, 0, none⟩ (.slice g n gc)) (Below.refl _ _)).keep (D := fun i => i = w.heap.size) (Chg.set _ _ _ rfl) (fun x e h9 hd => by have := (LC.out x e h9).1; have := hs12; have h8 : x.block = w.heap.size := hd; omega)).later (hy.mono (by simp))
      clear KS
      replace B : Hid (∀ y, Below (w2.heap.size) ((w2.setCell ⟨w.heap.size, 0, none⟩ (.slice g n gc)).setCell ⟨w.heap.size, 4, none⟩ (.slice k m kc)) y → Below w.heap.size w y) := fun y hy => ((B.out (w2.setCell ⟨w.heap.size, 0, none⟩ (.slice g n gc)) bR).setCell hw0 _).trans (hy.mono (by first | omega | exact Nat.le_trans (B.out (w2.setCell ⟨w.heap.size, 0, none⟩ (.slice g n gc)) bR).size hz | (have := (B.out (w2.setCell ⟨w.heap.size, 0, none⟩ (.slice g n gc)) bR).size; omega)))
      replace hz : w2.heap.size ≤ ((w2.setCell ⟨w.heap.size, 0, none⟩ (.slice g n gc)).setCell ⟨w.heap.size, 4, none⟩ (.slice k m kc)).heap.size := by first | (simp; done) | simpa using hz
      clear hw0
      have KS : Hid (∀ x, Below (w2.heap.size) ((w2.setCell ⟨w.heap.size, 0, none⟩ (.slice g n gc)).setCell ⟨w.heap.size, 4, none⟩ (.slice k m kc)) x → True) := fun x hx => trivial
      refine hK.out _ _ (KS.out _ bR) (fun hHeld7 => ?_)
      clear hK K
      try simp only [Act.put, List.getElem_toArray, List.getElem_cons_zero, List.getElem_cons_succ, List.setIfInBounds_toArray, List.set_cons_zero, List.set_cons_succ]
      refine wpAnyH_done (by kernel_rfl) ?_ _
      clear hHeld hHeld2 hHeld3 hHeld4 hHeld5 hHeld6 hHeld7
      clear KS
      generalize ((w2.setCell ⟨w.heap.size, 0, none⟩ (.slice g n gc)).setCell ⟨w.heap.size, 4, none⟩ (.slice k m kc)) = w3 at B WA WC XM XR hz ⊢
      have hzn : w2.heap.size ≤ w3.heap.size := Nat.le_trans hz (Below.size (Below.refl (w2.heap.size) w3))
      replace B := lF B (Below.refl (w2.heap.size) w3) hzn
      replace WA := lF WA (Below.refl (w2.heap.size) w3) hzn
      replace WC := lF WC (Below.refl (w2.heap.size) w3) hzn
      replace XM := lF XM (Below.refl (w2.heap.size) w3) hzn
      replace lM := Nat.lt_of_lt_of_le lM hzn
      replace XR := lF XR (Below.refl (w2.heap.size) w3) hzn
      replace lR := Nat.lt_of_lt_of_le lR hzn
      clear hz
      have hz : w3.heap.size ≤ w3.heap.size := Nat.le_refl _
      obtain ⟨kM0, kM1, kM2, kM3, kM4⟩ := bk5 (XM.out w3 bR)
      obtain ⟨kR0, kR1, kR2, kR3, kR4⟩ := bk5 (XR.out w3 bR)
      obtain ⟨qkR0, qkR1, qkR2, qkR3, qkR4⟩ := bq5 (XR.out w3 bR)
      go_wp2_with fail
      refine bodyPost_ret (v := .agg #[.slice g n gc, .int .i64 x1, .int .i64 x2, .int .i64 x3, .slice k m kc]) ?_ rfl ?_
      · simp [results, Tryz.results74, go_sem, *]
      · exact ⟨g, gc, k, kc, rfl, (((((WA.out w3 (Below.refl _ _)).keep (D := fun i => i = w.heap.size + 1) (Chg.set _ _ _ rfl) (fun x e h9 hd => by have := (LA.out x e h9).1; have h8 : x.block = w.heap.size + 1 := hd; omega)).keep (D := fun i => i = w.heap.size + 1) (Chg.set _ _ _ rfl) (fun x e h9 hd => by have := (LA.out x e h9).1; have h8 : x.block = w.heap.size + 1 := hd; omega)).keep (D := fun i => i = w.heap.size + 1) (Chg.set _ _ _ rfl) (fun x e h9 hd => by have := (LA.out x e h9).1; have h8 : x.block = w.heap.size + 1 := hd; omega)).keep (D := fun i => i = w.heap.size + 1) (Chg.set _ _ _ rfl) (fun x e h9 hd => by have := (LA.out x e h9).1; have h8 : x.block = w.heap.size + 1 := hd; omega)).keep (D := fun i => i = w.heap.size + 1) (Chg.set _ _ _ rfl) (fun x e h9 hd => by have := (LA.out x e h9).1; have h8 : x.block = w.heap.size + 1 := hd; omega), (((((WC.out w3 (Below.refl _ _)).keep (D := fun i => i = w.heap.size + 1) (Chg.set _ _ _ rfl) (fun x e h9 hd => by have := (LC.out x e h9).1; have := hs12; have h8 : x.block = w.heap.size + 1 := hd; omega)).keep (D := fun i => i = w.heap.size + 1) (Chg.set _ _ _ rfl) (fun x e h9 hd => by have := (LC.out x e h9).1; have := hs12; have h8 : x.block = w.heap.size + 1 := hd; omega)).keep (D := fun i => i = w.heap.size + 1) (Chg.set _ _ _ rfl) (fun x e h9 hd => by have := (LC.out x e h9).1; have := hs12; have h8 : x.block = w.heap.size + 1 := hd; omega)).keep (D := fun i => i = w.heap.size + 1) (Chg.set _ _ _ rfl) (fun x e h9 hd => by have := (LC.out x e h9).1; have := hs12; have h8 : x.block = w.heap.size + 1 := hd; omega)).keep (D := fun i => i = w.heap.size + 1) (Chg.set _ _ _ rfl) (fun x e h9 hd => by have := (LC.out x e h9).1; have := hs12; have h8 : x.block = w.heap.size + 1 := hd; omega), (fun x e h9 => by have := (LA.out x e h9).1; omega), (fun x e h9 => by have := (LC.out x e h9).1; have := hs12; omega), (fun x y e e2 h9 h8 => by have := (LA.out x e h9).2; have := (LC.out y e2 h8).1; omega), by (repeat (refine Below.setCell ?_ (by first | omega | (simp; done) | (simp; omega)) _)); exact B.out w3 (Below.refl _ _)⟩
    · obtain ⟨kM0, kM1, kM2, kM3, kM4⟩ := bk5 (XM.out ((w.alloc (.cells #[.slice a0 n c0, .int .i64 x1, .int .i64 x2, .int .i64 x3, .slice a4 m c4] 29)).alloc (.cells #[.slice none 0 0, .int .i64 0, .int .i64 0, .int .i64 0, .slice none 0 0] 29)) bR)
      go_simp
      clear kM0 kM1 kM2 kM3 kM4
      refine hK.out _ _ (KS.out _ (bdrew bR)) (fun hHeld3 => ?_)
      clear hK K
      try simp only [Act.put, List.getElem_toArray, List.getElem_cons_zero, List.getElem_cons_succ, List.setIfInBounds_toArray, List.set_cons_zero, List.set_cons_succ]
      refine wpAnyH_ready (rs := [2]) (by kernel_rfl) (by simp) ?_
      refine AllReadyH.cons rfl (fun K hK => ?_) AllReadyH.nil
      go_simp
      go_at_call 111
      have BP : Hid (Below (w.heap.size + 1 + 1) ((w.alloc (.cells #[.slice a0 n c0, .int .i64 x1, .int .i64 x2, .int .i64 x3, .slice a4 m c4] 29)).alloc (.cells #[.slice none 0 0, .int .i64 0, .int .i64 0, .int .i64 0, .slice none 0 0] 29)) ((w.alloc (.cells #[.slice a0 n c0, .int .i64 x1, .int .i64 x2, .int .i64 x3, .slice a4 m c4] 29)).alloc (.cells #[.slice none 0 0, .int .i64 0, .int .i64 0, .int .i64 0, .slice none 0 0] 29)).drew) := (bdrew bR)
      refine (cloneI _ _ _ xs _ (H0.out.later (B.out _ BP.out)) hn).mono ?_
      rintro e w1 ⟨g, gc, rfl, hA, hla, hb⟩
      have hq : Below (w.heap.size + 1 + 1) ((w.alloc (.cells #[.slice a0 n c0, .int .i64 x1, .int .i64 x2, .int .i64 x3, .slice a4 m c4] 29)).alloc (.cells #[.slice none 0 0, .int .i64 0, .int .i64 0, .int .i64 0, .slice none 0 0] 29)) w1 := BP.out.trans (Below.mono hb (Nat.le_trans hz BP.out.size))
      have hzn : w.heap.size + 1 + 1 ≤ w1.heap.size := Nat.le_trans hz hq.size
      replace B := lF B hq hzn
      replace KS := lF KS hq hzn
      replace XM := lF XM hq hzn
      replace lM := Nat.lt_of_lt_of_le lM hzn
      replace XR := lF XR hq hzn
      replace lR := Nat.lt_of_lt_of_le lR hzn
      clear hq BP hz
      have hz : w1.heap.size ≤ w1.heap.size := Nat.le_refl _
      have WA : Hid (∀ y, Below (w1.heap.size) w1 y → Wri y g n (fun j => xs.getD j 0)) := fun y hy => hA.later hy
      have LA : Hid (∀ x, g = some x → 0 < n → w.heap.size + 1 + 1 ≤ x.block ∧ x.block < w1.heap.size) := fun x e h9 => ⟨by simpa using hla x e h9, hA.lt x e h9⟩
      clear hb hA hla
      go_wp2_with fail
      have lM1 : w.heap.size + 1 + 1 ≤ w1.heap.size := by have := lR; omega
      refine hK.out _ _ (KS.out _ bR) (fun hHeld4 => ?_)
      clear hK K
      try simp only [Act.put, List.getElem_toArray, List.getElem_cons_zero, List.getElem_cons_succ, List.setIfInBounds_toArray, List.set_cons_zero, List.set_cons_succ]
      refine tV 6 (v := ?_) rfl (by kernel_rfl) (fun _ _ _ h => h) ?_ (by assumption) ?_
      rotate_left 1
      · (intro x hSx; (try dsimp only at hSx); go_simp; try with_reducible rfl)
      try simp only [Act.put, List.getElem_toArray, List.getElem_cons_zero, List.getElem_cons_succ, List.setIfInBounds_toArray, List.set_cons_zero, List.set_cons_succ]
      refine wpAnyH_ready (rs := [5]) (by kernel_rfl) (by simp) ?_
      refine AllReadyH.cons rfl (fun K hK => ?_) AllReadyH.nil
      go_simp
      go_at_call 112
      have BP : Hid (Below (w1.heap.size) w1 w1) := bR
      refine (cloneB _ _ _ cd _ (H4.out.later (B.out _ BP.out)) hm).mono ?_
      rintro e w2 ⟨k, kc, rfl, hC, hlc, hb⟩
      have hq : Below (w1.heap.size) w1 w2 := BP.out.trans (Below.mono hb (Nat.le_trans hz BP.out.size))
      have hzn : w1.heap.size ≤ w2.heap.size := Nat.le_trans hz hq.size
      replace B := lF B hq hzn
      replace KS := lF KS hq hzn
      replace WA := lF WA hq hzn
      replace XM := lF XM hq hzn
      replace lM := Nat.lt_of_lt_of_le lM hzn
      replace XR := lF XR hq hzn
      replace lR := Nat.lt_of_lt_of_le lR hzn
      clear hq BP hz
      have hz : w2.heap.size ≤ w2.heap.size := Nat.le_refl _
      have WC : Hid (∀ y, Below (w2.heap.size) w2 y → WriB y k m (fun j => cd.getD j false)) := fun y hy => hC.later hy
      have LC : Hid (∀ x, k = some x → 0 < m → w1.heap.size ≤ x.block ∧ x.block < w2.heap.size) := fun x e h9 => ⟨hlc x e h9, hC.lt x e h9⟩
      clear hb hC hlc
      go_wp2_with fail
      have hs12 : w.heap.size + 1 + 1 ≤ w1.heap.size := lM1
      refine hK.out _ _ (KS.out _ bR) (fun hHeld5 => ?_)
      clear hK K
      try simp only [Act.put, List.getElem_toArray, List.getElem_cons_zero, List.getElem_cons_succ, List.setIfInBounds_toArray, List.set_cons_zero, List.set_cons_succ]
      refine wpAnyH_ready (rs := [7]) (by kernel_rfl) (by simp) ?_
      refine AllReadyH.cons rfl (fun K hK => ?_) AllReadyH.nil
      obtain ⟨kM0, kM1, kM2, kM3, kM4⟩ := bk5 (XM.out w2 bR)
      obtain ⟨qkM0, qkM1, qkM2, qkM3, qkM4⟩ := bq5 (XM.out w2 bR)
      go_simp
      clear kM0 kM1 kM2 kM3 kM4 qkM0 qkM1 qkM2 qkM3 qkM4
      have hw0 : w.heap.size ≤ w.heap.size := (by first | omega | (simp; done) | (simp; omega) | (simp at *; omega))
      replace XR := lS XR lR ((w2.setCell ⟨w.heap.size, 0, none⟩ (.slice g n gc))) ((Below.heap_setCell _ _ _ _ (by first | omega | (simp; done) | (simp; omega))))
      replace XM : Hid (∀ y, Below (w2.heap.size) (w2.setCell ⟨w.heap.size, 0, none⟩ (.slice g n gc)) y → y.heap[w.heap.size]? = some (.cells #[.slice g n gc, .int .i64 x1, .int .i64 x2, .int .i64 x3, .slice a4 m c4] 29 (0, 0))) := fun y hy => (hy.block _ (by omega)).trans (boxS (XM.out w2 bR) 0 _)
      clear KS
      replace WA : Hid (∀ y, Below (w2.heap.size) (w2.setCell ⟨w.heap.size, 0, none⟩ (.slice g n gc)) y → Wri y g n (fun j => xs.getD j 0)) := fun y hy => ((WA.out w2 (Below.refl _ _)).keep (D := fun i => i = w.heap.size) (Chg.set _ _ _ rfl) (fun x e h9 hd => by have := (LA.out x e h9).1; have h8 : x.block = w.heap.size := hd; omega)).later (hy.mono (by simp))
      replace WC : Hid (∀ y, Below (w2.heap.size) (w2.setCell ⟨w.heap.size, 0, none⟩ (.slice g n gc)) y → WriB y k m (fun j => cd.getD j false)) := fun y hy => ((WC.out w2 (Below.refl _ _)).keep (D := fun i => i = w.heap.size) (Chg.set _ _ _ rfl) (fun x e h9 hd => by have := (LC.out x e h9).1; have := hs12; have h8 : x.block = w.heap.size := hd; omega)).later (hy.mono (by simp))
      replace B : Hid (∀ y, Below (w2.heap.size) (w2.setCell ⟨w.heap.size, 0, none⟩ (.slice g n gc)) y → Below w.heap.size w y) := fun y hy => ((B.out w2 bR).setCell hw0 _).trans (hy.mono (by first | omega | exact Nat.le_trans (B.out w2 bR).size hz | (have := (B.out w2 bR).size; omega)))
      replace hz : w2.heap.size ≤ (w2.setCell ⟨w.heap.size, 0, none⟩ (.slice g n gc)).heap.size := by first | (simp; done) | simpa using hz
      clear hw0
      have KS : Hid (∀ x, Below (w2.heap.size) (w2.setCell ⟨w.heap.size, 0, none⟩ (.slice g n gc)) x → True) := fun x hx => trivial
      refine hK.out _ _ (KS.out _ bR) (fun hHeld6 => ?_)
      clear hK K
      try simp only [Act.put, List.getElem_toArray, List.getElem_cons_zero, List.getElem_cons_succ, List.setIfInBounds_toArray, List.set_cons_zero, List.set_cons_succ]
      refine tV 8 (v := ?_) rfl (by kernel_rfl) (fun _ _ _ h => h) ?_ (by assumption) ?_
      rotate_left 1
      · (intro x hSx; (try dsimp only at hSx); go_simp; try with_reducible rfl)
      try simp only [Act.put, List.getElem_toArray, List.getElem_cons_zero, List.getElem_cons_succ, List.setIfInBounds_toArray, List.set_cons_zero, List.set_cons_succ]
      refine wpAnyH_ready (rs := [9]) (by kernel_rfl) (by simp) ?_
      refine AllReadyH.cons rfl (fun K hK => ?_) AllReadyH.nil
      obtain ⟨kM0, kM1, kM2, kM3, kM4⟩ := bk5 (XM.out (w2.setCell ⟨w.heap.size, 0, none⟩ (.slice g n gc)) bR)
      obtain ⟨qkM0, qkM1, qkM2, qkM3, qkM4⟩ := bq5 (XM.out (w2.setCell ⟨w.heap.size, 0, none⟩ (.slice g n gc)) bR)
      go_simp
      clear kM0 kM1 kM2 kM3 kM4 qkM0 qkM1 qkM2 qkM3 qkM4
      have hw0 : w.heap.size ≤ w.heap.size := (by first | omega | (simp; done) | (simp; omega) | (simp at *; omega))
      replace XR := lS XR lR (((w2.setCell ⟨w.heap.size, 0, none⟩ (.slice g n gc)).setCell ⟨w.heap.size, 4, none⟩ (.slice k m kc))) ((Below.heap_setCell _ _ _ _ (by first | omega | (simp; done) | (simp; omega))))
      replace XM : Hid (∀ y, Below (w2.heap.size) ((w2.setCell ⟨w.heap.size, 0, none⟩ (.slice g n gc)).setCell ⟨w.heap.size, 4, none⟩ (.slice k m kc)) y → y.heap[w.heap.size]? = some (.cells #[.slice g n gc, .int .i64 x1, .int .i64 x2, .int .i64 x3, .slice k m kc] 29 (0, 0))) := fun y hy => (hy.block _ (by omega)).trans (boxS (XM.out (w2.setCell ⟨w.heap.size, 0, none⟩ (.slice g n gc)) bR) 4 _)
      replace WA : Hid (∀ y, Below (w2.heap.size) ((w2.setCell ⟨w.heap.size, 0, none⟩ (.slice g n gc)).setCell ⟨w.heap.size, 4, none⟩ (.slice k m kc)) y → Wri y g n (fun j => xs.getD j 0)) := fun y hy => ((WA.out (w2.setCell ⟨w.heap.size, 0, none⟩ (.slice g n gc)) (Below.refl _ _)).keep (D := fun i => i = w.heap.size) (Chg.set _ _ _ rfl) (fun x e h9 hd => by have := (LA.out x e h9).1; have h8 : x.block = w.heap.size := hd; omega)).later (hy.mono (by simp))
      replace WC : Hid (∀ y, Below (w2.heap.size) ((w2.setCell ⟨w.heap.size, 0, none⟩ (.slice g n gc)).setCell ⟨w.heap.size, 4, none⟩ (.slice k m kc)) y → WriB y k m (fun j => cd.getD j false)) := fun y hy => ((WC.out (w2.setCell ⟨w.heap.size, 0, none⟩ (.slice g n gc)) (Below.refl _ _)).keep (D := fun i => i = w.heap.size) (Chg.set _ _ _ rfl) (fun x e h9 hd => by have := (LC.out x e h9).1; have := hs12; have h8 : x.block = w.heap.size := hd; omega)).later (hy.mono (by simp))
      clear KS
      replace B : Hid (∀ y, Below (w2.heap.size) ((w2.setCell ⟨w.heap.size, 0, none⟩ (.slice g n gc)).setCell ⟨w.heap.size, 4, none⟩ (.slice k m kc)) y → Below w.heap.size w y) := fun y hy => ((B.out (w2.setCell ⟨w.heap.size, 0, none⟩ (.slice g n gc)) bR).setCell hw0 _).trans (hy.mono (by first | omega | exact Nat.le_trans (B.out (w2.setCell ⟨w.heap.size, 0, none⟩ (.slice g n gc)) bR).size hz | (have := (B.out (w2.setCell ⟨w.heap.size, 0, none⟩ (.slice g n gc)) bR).size; omega)))
      replace hz : w2.heap.size ≤ ((w2.setCell ⟨w.heap.size, 0, none⟩ (.slice g n gc)).setCell ⟨w.heap.size, 4, none⟩ (.slice k m kc)).heap.size := by first | (simp; done) | simpa using hz
      clear hw0
      have KS : Hid (∀ x, Below (w2.heap.size) ((w2.setCell ⟨w.heap.size, 0, none⟩ (.slice g n gc)).setCell ⟨w.heap.size, 4, none⟩ (.slice k m kc)) x → True) := fun x hx => trivial
      refine hK.out _ _ (KS.out _ bR) (fun hHeld7 => ?_)
      clear hK K
      try simp only [Act.put, List.getElem_toArray, List.getElem_cons_zero, List.getElem_cons_succ, List.setIfInBounds_toArray, List.set_cons_zero, List.set_cons_succ]
      refine wpAnyH_done (by kernel_rfl) ?_ _
      clear hHeld hHeld2 hHeld3 hHeld4 hHeld5 hHeld6 hHeld7
      clear KS
      generalize ((w2.setCell ⟨w.heap.size, 0, none⟩ (.slice g n gc)).setCell ⟨w.heap.size, 4, none⟩ (.slice k m kc)) = w3 at B WA WC XM XR hz ⊢
      have hzn : w2.heap.size ≤ w3.heap.size := Nat.le_trans hz (Below.size (Below.refl (w2.heap.size) w3))
      replace B := lF B (Below.refl (w2.heap.size) w3) hzn
      replace WA := lF WA (Below.refl (w2.heap.size) w3) hzn
      replace WC := lF WC (Below.refl (w2.heap.size) w3) hzn
      replace XM := lF XM (Below.refl (w2.heap.size) w3) hzn
      replace lM := Nat.lt_of_lt_of_le lM hzn
      replace XR := lF XR (Below.refl (w2.heap.size) w3) hzn
      replace lR := Nat.lt_of_lt_of_le lR hzn
      clear hz
      have hz : w3.heap.size ≤ w3.heap.size := Nat.le_refl _
      obtain ⟨kM0, kM1, kM2, kM3, kM4⟩ := bk5 (XM.out w3 bR)
      obtain ⟨kR0, kR1, kR2, kR3, kR4⟩ := bk5 (XR.out w3 bR)
      obtain ⟨qkR0, qkR1, qkR2, qkR3, qkR4⟩ := bq5 (XR.out w3 bR)
      go_wp2_with fail
      refine bodyPost_ret (v := .agg #[.slice g n gc, .int .i64 x1, .int .i64 x2, .int .i64 x3, .slice k m kc]) ?_ rfl ?_
      · simp [results, Tryz.results74, go_sem, *]
      · exact ⟨g, gc, k, kc, rfl, (((((WA.out w3 (Below.refl _ _)).keep (D := fun i => i = w.heap.size + 1) (Chg.set _ _ _ rfl) (fun x e h9 hd => by have := (LA.out x e h9).1; have h8 : x.block = w.heap.size + 1 := hd; omega)).keep (D := fun i => i = w.heap.size + 1) (Chg.set _ _ _ rfl) (fun x e h9 hd => by have := (LA.out x e h9).1; have h8 : x.block = w.heap.size + 1 := hd; omega)).keep (D := fun i => i = w.heap.size + 1) (Chg.set _ _ _ rfl) (fun x e h9 hd => by have := (LA.out x e h9).1; have h8 : x.block = w.heap.size + 1 := hd; omega)).keep (D := fun i => i = w.heap.size + 1) (Chg.set _ _ _ rfl) (fun x e h9 hd => by have := (LA.out x e h9).1; have h8 : x.block = w.heap.size + 1 := hd; omega)).keep (D := fun i => i = w.heap.size + 1) (Chg.set _ _ _ rfl) (fun x e h9 hd => by have := (LA.out x e h9).1; have h8 : x.block = w.heap.size + 1 := hd; omega), (((((WC.out w3 (Below.refl _ _)).keep (D := fun i => i = w.heap.size + 1) (Chg.set _ _ _ rfl) (fun x e h9 hd => by have := (LC.out x e h9).1; have := hs12; have h8 : x.block = w.heap.size + 1 := hd; omega)).keep (D := fun i => i = w.heap.size + 1) (Chg.set _ _ _ rfl) (fun x e h9 hd => by have := (LC.out x e h9).1; have := hs12; have h8 : x.block = w.heap.size + 1 := hd; omega)).keep (D := fun i => i = w.heap.size + 1) (Chg.set _ _ _ rfl) (fun x e h9 hd => by have := (LC.out x e h9).1; have := hs12; have h8 : x.block = w.heap.size + 1 := hd; omega)).keep (D := fun i => i = w.heap.size + 1) (Chg.set _ _ _ rfl) (fun x e h9 hd => by have := (LC.out x e h9).1; have := hs12; have h8 : x.block = w.heap.size + 1 := hd; omega)).keep (D := fun i => i = w.heap.size + 1) (Chg.set _ _ _ rfl) (fun x e h9 hd => by have := (LC.out x e h9).1; have := hs12; have h8 : x.block = w.heap.size + 1 := hd; omega), (fun x e h9 => by have := (LA.out x e h9).1; omega), (fun x e h9 => by have := (LC.out x e h9).1; have := hs12; omega), (fun x y e e2 h9 h8 => by have := (LA.out x e h9).2; have := (LC.out y e2 h8).1; omega), by (repeat (refine Below.setCell ?_ (by first | omega | (simp; done) | (simp; omega)) _)); exact B.out w3 (Below.refl _ _)⟩
  · obtain ⟨kM0, kM1, kM2, kM3, kM4⟩ := bk5 (XM.out ((w.alloc (.cells #[.slice a0 n c0, .int .i64 x1, .int .i64 x2, .int .i64 x3, .slice a4 m c4] 29)).alloc (.cells #[.slice none 0 0, .int .i64 0, .int .i64 0, .int .i64 0, .slice none 0 0] 29)) bR)
    go_simp
    clear kM0 kM1 kM2 kM3 kM4
    refine hK.out _ _ (KS.out _ (bdrew bR)) (fun hHeld2 => ?_)
    clear hK K
    try simp only [Act.put, List.getElem_toArray, List.getElem_cons_zero, List.getElem_cons_succ, List.setIfInBounds_toArray, List.set_cons_zero, List.set_cons_succ]
    refine wpAnyH_ready (rs := [1]) (by kernel_rfl) (by simp) ?_
    refine AllReadyH.cons rfl (fun K hK => ?_) AllReadyH.nil
    obtain ⟨kM0, kM1, kM2, kM3, kM4⟩ := bk5 (XM.out ((w.alloc (.cells #[.slice a0 n c0, .int .i64 x1, .int .i64 x2, .int .i64 x3, .slice a4 m c4] 29)).alloc (.cells #[.slice none 0 0, .int .i64 0, .int .i64 0, .int .i64 0, .slice none 0 0] 29)) bR)
    go_simp
    clear kM0 kM1 kM2 kM3 kM4
    refine hK.out _ _ (KS.out _ (bdrew bR)) (fun hHeld3 => ?_)
    clear hK K
    try simp only [Act.put, List.getElem_toArray, List.getElem_cons_zero, List.getElem_cons_succ, List.setIfInBounds_toArray, List.set_cons_zero, List.set_cons_succ]
    refine wpAnyH_ready (rs := [2]) (by kernel_rfl) (by simp) ?_
    refine AllReadyH.cons rfl (fun K hK => ?_) AllReadyH.nil
    go_simp
    go_at_call 111
    have BP : Hid (Below (w.heap.size + 1 + 1) ((w.alloc (.cells #[.slice a0 n c0, .int .i64 x1, .int .i64 x2, .int .i64 x3, .slice a4 m c4] 29)).alloc (.cells #[.slice none 0 0, .int .i64 0, .int .i64 0, .int .i64 0, .slice none 0 0] 29)) ((w.alloc (.cells #[.slice a0 n c0, .int .i64 x1, .int .i64 x2, .int .i64 x3, .slice a4 m c4] 29)).alloc (.cells #[.slice none 0 0, .int .i64 0, .int .i64 0, .int .i64 0, .slice none 0 0] 29)).drew) := (bdrew bR)
    refine (cloneI _ _ _ xs _ (H0.out.later (B.out _ BP.out)) hn).mono ?_
    rintro e w1 ⟨g, gc, rfl, hA, hla, hb⟩
    have hq : Below (w.heap.size + 1 + 1) ((w.alloc (.cells #[.slice a0 n c0, .int .i64 x1, .int .i64 x2, .int .i64 x3, .slice a4 m c4] 29)).alloc (.cells #[.slice none 0 0, .int .i64 0, .int .i64 0, .int .i64 0, .slice none 0 0] 29)) w1 := BP.out.trans (Below.mono hb (Nat.le_trans hz BP.out.size))
    have hzn : w.heap.size + 1 + 1 ≤ w1.heap.size := Nat.le_trans hz hq.size
    replace B := lF B hq hzn
    replace KS := lF KS hq hzn
    replace XM := lF XM hq hzn
    replace lM := Nat.lt_of_lt_of_le lM hzn
    replace XR := lF XR hq hzn
    replace lR := Nat.lt_of_lt_of_le lR hzn
    clear hq BP hz
    have hz : w1.heap.size ≤ w1.heap.size := Nat.le_refl _
    have WA : Hid (∀ y, Below (w1.heap.size) w1 y → Wri y g n (fun j => xs.getD j 0)) := fun y hy => hA.later hy
    have LA : Hid (∀ x, g = some x → 0 < n → w.heap.size + 1 + 1 ≤ x.block ∧ x.block < w1.heap.size) := fun x e h9 => ⟨by simpa using hla x e h9, hA.lt x e h9⟩
    clear hb hA hla
    go_wp2_with fail
    have lM1 : w.heap.size + 1 + 1 ≤ w1.heap.size := by have := lR; omega
    refine hK.out _ _ (KS.out _ bR) (fun hHeld4 => ?_)
    clear hK K
    try simp only [Act.put, List.getElem_toArray, List.getElem_cons_zero, List.getElem_cons_succ, List.setIfInBounds_toArray, List.set_cons_zero, List.set_cons_succ]
    refine tV 6 (v := ?_) rfl (by kernel_rfl) (fun _ _ _ h => h) ?_ (by assumption) ?_
    rotate_left 1
    · (intro x hSx; (try dsimp only at hSx); go_simp; try with_reducible rfl)
    try simp only [Act.put, List.getElem_toArray, List.getElem_cons_zero, List.getElem_cons_succ, List.setIfInBounds_toArray, List.set_cons_zero, List.set_cons_succ]
    refine wpAnyH_ready (rs := [5]) (by kernel_rfl) (by simp) ?_
    refine AllReadyH.cons rfl (fun K hK => ?_) AllReadyH.nil
    go_simp
    go_at_call 112
    have BP : Hid (Below (w1.heap.size) w1 w1) := bR
    refine (cloneB _ _ _ cd _ (H4.out.later (B.out _ BP.out)) hm).mono ?_
    rintro e w2 ⟨k, kc, rfl, hC, hlc, hb⟩
    have hq : Below (w1.heap.size) w1 w2 := BP.out.trans (Below.mono hb (Nat.le_trans hz BP.out.size))
    have hzn : w1.heap.size ≤ w2.heap.size := Nat.le_trans hz hq.size
    replace B := lF B hq hzn
    replace KS := lF KS hq hzn
    replace WA := lF WA hq hzn
    replace XM := lF XM hq hzn
    replace lM := Nat.lt_of_lt_of_le lM hzn
    replace XR := lF XR hq hzn
    replace lR := Nat.lt_of_lt_of_le lR hzn
    clear hq BP hz
    have hz : w2.heap.size ≤ w2.heap.size := Nat.le_refl _
    have WC : Hid (∀ y, Below (w2.heap.size) w2 y → WriB y k m (fun j => cd.getD j false)) := fun y hy => hC.later hy
    have LC : Hid (∀ x, k = some x → 0 < m → w1.heap.size ≤ x.block ∧ x.block < w2.heap.size) := fun x e h9 => ⟨hlc x e h9, hC.lt x e h9⟩
    clear hb hC hlc
    go_wp2_with fail
    have hs12 : w.heap.size + 1 + 1 ≤ w1.heap.size := lM1
    refine hK.out _ _ (KS.out _ bR) (fun hHeld5 => ?_)
    clear hK K
    try simp only [Act.put, List.getElem_toArray, List.getElem_cons_zero, List.getElem_cons_succ, List.setIfInBounds_toArray, List.set_cons_zero, List.set_cons_succ]
    refine wpAnyH_ready (rs := [7]) (by kernel_rfl) (by simp) ?_
    refine AllReadyH.cons rfl (fun K hK => ?_) AllReadyH.nil
    obtain ⟨kM0, kM1, kM2, kM3, kM4⟩ := bk5 (XM.out w2 bR)
    obtain ⟨qkM0, qkM1, qkM2, qkM3, qkM4⟩ := bq5 (XM.out w2 bR)
    go_simp
    clear kM0 kM1 kM2 kM3 kM4 qkM0 qkM1 qkM2 qkM3 qkM4
    have hw0 : w.heap.size ≤ w.heap.size := (by first | omega | (simp; done) | (simp; omega) | (simp at *; omega))
    replace XR := lS XR lR ((w2.setCell ⟨w.heap.size, 0, none⟩ (.slice g n gc))) ((Below.heap_setCell _ _ _ _ (by first | omega | (simp; done) | (simp; omega))))
    replace XM : Hid (∀ y, Below (w2.heap.size) (w2.setCell ⟨w.heap.size, 0, none⟩ (.slice g n gc)) y → y.heap[w.heap.size]? = some (.cells #[.slice g n gc, .int .i64 x1, .int .i64 x2, .int .i64 x3, .slice a4 m c4] 29 (0, 0))) := fun y hy => (hy.block _ (by omega)).trans (boxS (XM.out w2 bR) 0 _)
    clear KS
    replace WA : Hid (∀ y, Below (w2.heap.size) (w2.setCell ⟨w.heap.size, 0, none⟩ (.slice g n gc)) y → Wri y g n (fun j => xs.getD j 0)) := fun y hy => ((WA.out w2 (Below.refl _ _)).keep (D := fun i => i = w.heap.size) (Chg.set _ _ _ rfl) (fun x e h9 hd => by have := (LA.out x e h9).1; have h8 : x.block = w.heap.size := hd; omega)).later (hy.mono (by simp))
    replace WC : Hid (∀ y, Below (w2.heap.size) (w2.setCell ⟨w.heap.size, 0, none⟩ (.slice g n gc)) y → WriB y k m (fun j => cd.getD j false)) := fun y hy => ((WC.out w2 (Below.refl _ _)).keep (D := fun i => i = w.heap.size) (Chg.set _ _ _ rfl) (fun x e h9 hd => by have := (LC.out x e h9).1; have := hs12; have h8 : x.block = w.heap.size := hd; omega)).later (hy.mono (by simp))
    replace B : Hid (∀ y, Below (w2.heap.size) (w2.setCell ⟨w.heap.size, 0, none⟩ (.slice g n gc)) y → Below w.heap.size w y) := fun y hy => ((B.out w2 bR).setCell hw0 _).trans (hy.mono (by first | omega | exact Nat.le_trans (B.out w2 bR).size hz | (have := (B.out w2 bR).size; omega)))
    replace hz : w2.heap.size ≤ (w2.setCell ⟨w.heap.size, 0, none⟩ (.slice g n gc)).heap.size := by first | (simp; done) | simpa using hz
    clear hw0
    have KS : Hid (∀ x, Below (w2.heap.size) (w2.setCell ⟨w.heap.size, 0, none⟩ (.slice g n gc)) x → True) := fun x hx => trivial
    refine hK.out _ _ (KS.out _ bR) (fun hHeld6 => ?_)
    clear hK K
    try simp only [Act.put, List.getElem_toArray, List.getElem_cons_zero, List.getElem_cons_succ, List.setIfInBounds_toArray, List.set_cons_zero, List.set_cons_succ]
    refine tV 8 (v := ?_) rfl (by kernel_rfl) (fun _ _ _ h => h) ?_ (by assumption) ?_
    rotate_left 1
    · (intro x hSx; (try dsimp only at hSx); go_simp; try with_reducible rfl)
    try simp only [Act.put, List.getElem_toArray, List.getElem_cons_zero, List.getElem_cons_succ, List.setIfInBounds_toArray, List.set_cons_zero, List.set_cons_succ]
    refine wpAnyH_ready (rs := [9]) (by kernel_rfl) (by simp) ?_
    refine AllReadyH.cons rfl (fun K hK => ?_) AllReadyH.nil
    obtain ⟨kM0, kM1, kM2, kM3, kM4⟩ := bk5 (XM.out (w2.setCell ⟨w.heap.size, 0, none⟩ (.slice g n gc)) bR)
    obtain ⟨qkM0, qkM1, qkM2, qkM3, qkM4⟩ := bq5 (XM.out (w2.setCell ⟨w.heap.size, 0, none⟩ (.slice g n gc)) bR)
    go_simp
    clear kM0 kM1 kM2 kM3 kM4 qkM0 qkM1 qkM2 qkM3 qkM4
    have hw0 : w.heap.size ≤ w.heap.size := (by first | omega | (simp; done) | (simp; omega) | (simp at *; omega))
    replace XR := lS XR lR (((w2.setCell ⟨w.heap.size, 0, none⟩ (.slice g n gc)).setCell ⟨w.heap.size, 4, none⟩ (.slice k m kc))) ((Below.heap_setCell _ _ _ _ (by first | omega | (simp; done) | (simp; omega))))
    replace XM : Hid (∀ y, Below (w2.heap.size) ((w2.setCell ⟨w.heap.size, 0, none⟩ (.slice g n gc)).setCell ⟨w.heap.size, 4, none⟩ (.slice k m kc)) y → y.heap[w.heap.size]? = some (.cells #[.slice g n gc, .int .i64 x1, .int .i64 x2, .int .i64 x3, .slice k m kc] 29 (0, 0))) := fun y hy => (hy.block _ (by omega)).trans (boxS (XM.out (w2.setCell ⟨w.heap.size, 0, none⟩ (.slice g n gc)) bR) 4 _)
    replace WA : Hid (∀ y, Below (w2.heap.size) ((w2.setCell ⟨w.heap.size, 0, none⟩ (.slice g n gc)).setCell ⟨w.heap.size, 4, none⟩ (.slice k m kc)) y → Wri y g n (fun j => xs.getD j 0)) := fun y hy => ((WA.out (w2.setCell ⟨w.heap.size, 0, none⟩ (.slice g n gc)) (Below.refl _ _)).keep (D := fun i => i = w.heap.size) (Chg.set _ _ _ rfl) (fun x e h9 hd => by have := (LA.out x e h9).1; have h8 : x.block = w.heap.size := hd; omega)).later (hy.mono (by simp))
    replace WC : Hid (∀ y, Below (w2.heap.size) ((w2.setCell ⟨w.heap.size, 0, none⟩ (.slice g n gc)).setCell ⟨w.heap.size, 4, none⟩ (.slice k m kc)) y → WriB y k m (fun j => cd.getD j false)) := fun y hy => ((WC.out (w2.setCell ⟨w.heap.size, 0, none⟩ (.slice g n gc)) (Below.refl _ _)).keep (D := fun i => i = w.heap.size) (Chg.set _ _ _ rfl) (fun x e h9 hd => by have := (LC.out x e h9).1; have := hs12; have h8 : x.block = w.heap.size := hd; omega)).later (hy.mono (by simp))
    clear KS
    replace B : Hid (∀ y, Below (w2.heap.size) ((w2.setCell ⟨w.heap.size, 0, none⟩ (.slice g n gc)).setCell ⟨w.heap.size, 4, none⟩ (.slice k m kc)) y → Below w.heap.size w y) := fun y hy => ((B.out (w2.setCell ⟨w.heap.size, 0, none⟩ (.slice g n gc)) bR).setCell hw0 _).trans (hy.mono (by first | omega | exact Nat.le_trans (B.out (w2.setCell ⟨w.heap.size, 0, none⟩ (.slice g n gc)) bR).size hz | (have := (B.out (w2.setCell ⟨w.heap.size, 0, none⟩ (.slice g n gc)) bR).size; omega)))
    replace hz : w2.heap.size ≤ ((w2.setCell ⟨w.heap.size, 0, none⟩ (.slice g n gc)).setCell ⟨w.heap.size, 4, none⟩ (.slice k m kc)).heap.size := by first | (simp; done) | simpa using hz
    clear hw0
    have KS : Hid (∀ x, Below (w2.heap.size) ((w2.setCell ⟨w.heap.size, 0, none⟩ (.slice g n gc)).setCell ⟨w.heap.size, 4, none⟩ (.slice k m kc)) x → True) := fun x hx => trivial
    refine hK.out _ _ (KS.out _ bR) (fun hHeld7 => ?_)
    clear hK K
    try simp only [Act.put, List.getElem_toArray, List.getElem_cons_zero, List.getElem_cons_succ, List.setIfInBounds_toArray, List.set_cons_zero, List.set_cons_succ]
    refine wpAnyH_done (by kernel_rfl) ?_ _
    clear hHeld hHeld2 hHeld3 hHeld4 hHeld5 hHeld6 hHeld7
    clear KS
    generalize ((w2.setCell ⟨w.heap.size, 0, none⟩ (.slice g n gc)).setCell ⟨w.heap.size, 4, none⟩ (.slice k m kc)) = w3 at B WA WC XM XR hz ⊢
    have hzn : w2.heap.size ≤ w3.heap.size := Nat.le_trans hz (Below.size (Below.refl (w2.heap.size) w3))
    replace B := lF B (Below.refl (w2.heap.size) w3) hzn
    replace WA := lF WA (Below.refl (w2.heap.size) w3) hzn
    replace WC := lF WC (Below.refl (w2.heap.size) w3) hzn
    replace XM := lF XM (Below.refl (w2.heap.size) w3) hzn
    replace lM := Nat.lt_of_lt_of_le lM hzn
    replace XR := lF XR (Below.refl (w2.heap.size) w3) hzn
    replace lR := Nat.lt_of_lt_of_le lR hzn
    clear hz
    have hz : w3.heap.size ≤ w3.heap.size := Nat.le_refl _
    obtain ⟨kM0, kM1, kM2, kM3, kM4⟩ := bk5 (XM.out w3 bR)
    obtain ⟨kR0, kR1, kR2, kR3, kR4⟩ := bk5 (XR.out w3 bR)
    obtain ⟨qkR0, qkR1, qkR2, qkR3, qkR4⟩ := bq5 (XR.out w3 bR)
    go_wp2_with fail
    refine bodyPost_ret (v := .agg #[.slice g n gc, .int .i64 x1, .int .i64 x2, .int .i64 x3, .slice k m kc]) ?_ rfl ?_
    · simp [results, Tryz.results74, go_sem, *]
    · exact ⟨g, gc, k, kc, rfl, (((((WA.out w3 (Below.refl _ _)).keep (D := fun i => i = w.heap.size + 1) (Chg.set _ _ _ rfl) (fun x e h9 hd => by have := (LA.out x e h9).1; have h8 : x.block = w.heap.size + 1 := hd; omega)).keep (D := fun i => i = w.heap.size + 1) (Chg.set _ _ _ rfl) (fun x e h9 hd => by have := (LA.out x e h9).1; have h8 : x.block = w.heap.size + 1 := hd; omega)).keep (D := fun i => i = w.heap.size + 1) (Chg.set _ _ _ rfl) (fun x e h9 hd => by have := (LA.out x e h9).1; have h8 : x.block = w.heap.size + 1 := hd; omega)).keep (D := fun i => i = w.heap.size + 1) (Chg.set _ _ _ rfl) (fun x e h9 hd => by have := (LA.out x e h9).1; have h8 : x.block = w.heap.size + 1 := hd; omega)).keep (D := fun i => i = w.heap.size + 1) (Chg.set _ _ _ rfl) (fun x e h9 hd => by have := (LA.out x e h9).1; have h8 : x.block = w.heap.size + 1 := hd; omega), (((((WC.out w3 (Below.refl _ _)).keep (D := fun i => i = w.heap.size + 1) (Chg.set _ _ _ rfl) (fun x e h9 hd => by have := (LC.out x e h9).1; have := hs12; have h8 : x.block = w.heap.size + 1 := hd; omega)).keep (D := fun i => i = w.heap.size + 1) (Chg.set _ _ _ rfl) (fun x e h9 hd => by have := (LC.out x e h9).1; have := hs12; have h8 : x.block = w.heap.size + 1 := hd; omega)).keep (D := fun i => i = w.heap.size + 1) (Chg.set _ _ _ rfl) (fun x e h9 hd => by have := (LC.out x e h9).1; have := hs12; have h8 : x.block = w.heap.size + 1 := hd; omega)).keep (D := fun i => i = w.heap.size + 1) (Chg.set _ _ _ rfl) (fun x e h9 hd => by have := (LC.out x e h9).1; have := hs12; have h8 : x.block = w.heap.size + 1 := hd; omega)).keep (D := fun i => i = w.heap.size + 1) (Chg.set _ _ _ rfl) (fun x e h9 hd => by have := (LC.out x e h9).1; have := hs12; have h8 : x.block = w.heap.size + 1 := hd; omega), (fun x e h9 => by have := (LA.out x e h9).1; omega), (fun x e h9 => by have := (LC.out x e h9).1; have := hs12; omega), (fun x y e e2 h9 h8 => by have := (LA.out x e h9).2; have := (LC.out y e2 h8).1; omega), by (repeat (refine Below.setCell ?_ (by first | omega | (simp; done) | (simp; omega)) _)); exact B.out w3 (Below.refl _ _)⟩
set_option maxRecDepth 100000 in
set_option maxHeartbeats 4000000 in
theorem copySpec21 (x1 x2 x3 : Int) (a0 : Option Addr) (n c0 : Nat) (a4 : Option Addr) (m c4 : Nat) (xs : List Int) (cd : List Bool) (w : World) {D D2 : Nat → Prop} (h0 : IntsAt D w a0 n xs) (h4 : SlAt boolR D2 w a4 m cd) (hn : n ≤ 1048576) (hm : m ≤ 1048576) :
    Calls Tryz.prog 30 #[.agg #[.slice a0 n c0, .int .i64 x1, .int .i64 x2, .int .i64 x3, .slice a4 m c4]] w (CpP w x1 x2 x3 n m xs cd) := by
  have H0 : Hid (IntsAt D w a0 n xs) := h0
  have H4 : Hid (SlAt boolR D2 w a4 m cd) := h4
  clear h0 h4
  have hz : w.heap.size + 1 + 1 ≤ ((w.alloc (.cells #[.slice a0 n c0, .int .i64 x1, .int .i64 x2, .int .i64 x3, .slice a4 m c4] 29)).alloc (.cells #[.slice none 0 0, .int .i64 0, .int .i64 0, .int .i64 0, .slice none 0 0] 29)).heap.size := by simp
  have B : Hid (∀ y, Below (w.heap.size + 1 + 1) ((w.alloc (.cells #[.slice a0 n c0, .int .i64 x1, .int .i64 x2, .int .i64 x3, .slice a4 m c4] 29)).alloc (.cells #[.slice none 0 0, .int .i64 0, .int .i64 0, .int .i64 0, .slice none 0 0] 29)) y → Below w.heap.size w y) := fun y hy => ((bR.alloc (by first | exact Nat.le_refl _ | (simp; done) | (simp; omega)) _).alloc (by first | exact Nat.le_refl _ | (simp; done) | (simp; omega)) _).trans (hy.mono (by omega))
  have XM : Hid (∀ y, Below (w.heap.size + 1 + 1) ((w.alloc (.cells #[.slice a0 n c0, .int .i64 x1, .int .i64 x2, .int .i64 x3, .slice a4 m c4] 29)).alloc (.cells #[.slice none 0 0, .int .i64 0, .int .i64 0, .int .i64 0, .slice none 0 0] 29)) y → y.heap[w.heap.size]? = some (.cells #[.slice a0 n c0, .int .i64 x1, .int .i64 x2, .int .i64 x3, .slice a4 m c4] 29 (0, 0))) := fun y hy => (hy.block _ (by omega)).trans ((Below.heap_alloc _ _ _ (by first | (simp; done) | (simp; omega))).trans (boxN _ _ _ _ (by simp)))
  have lM : w.heap.size < w.heap.size + 1 + 1 := by omega
  have XR : Hid (∀ y, Below (w.heap.size + 1 + 1) ((w.alloc (.cells #[.slice a0 n c0, .int .i64 x1, .int .i64 x2, .int .i64 x3, .slice a4 m c4] 29)).alloc (.cells #[.slice none 0 0, .int .i64 0, .int .i64 0, .int .i64 0, .slice none 0 0] 29)) y → y.heap[w.heap.size + 1]? = some (.cells #[.slice none 0 0, .int .i64 0, .int .i64 0, .int .i64 0, .slice none 0 0] 29 (0, 0))) := fun y hy => (hy.block _ (by omega)).trans (boxN _ _ _ _ (by simp))
  have lR : w.heap.size + 1 < w.heap.size + 1 + 1 := by omega
  go_enter Tryz.func30, Tryz.ntmps30
  go_upto_region 2 with fail
  have BP : Hid (Below (w.heap.size + 1 + 1) ((w.alloc (.cells #[.slice a0 n c0, .int .i64 x1, .int .i64 x2, .int .i64 x3, .slice a4 m c4] 29)).alloc (.cells #[.slice none 0 0, .int .i64 0, .int .i64 0, .int .i64 0, .slice none 0 0] 29)) (((w.alloc (.cells #[.slice a0 n c0, .int .i64 x1, .int .i64 x2, .int .i64 x3, .slice a4 m c4] 29)).alloc (.cells #[.slice none 0 0, .int .i64 0, .int .i64 0, .int .i64 0, .slice none 0 0] 29)).alloc (.cells #[.slice a0 n c0, .int .i64 x1, .int .i64 x2, .int .i64 x3, .slice a4 m c4] 29))) := (bR.alloc (by first | exact hz | (simp; done) | (simp; omega) | (have := hz; simp at this ⊢; omega)) _)
  replace B := lA B BP
  replace XM := lA XM BP
  replace lM := lL lM
  replace XR := lA XR BP
  replace lR := lL lR
  have XC : Hid (∀ y, Below (w.heap.size + 1 + 1 + 1) (((w.alloc (.cells #[.slice a0 n c0, .int .i64 x1, .int .i64 x2, .int .i64 x3, .slice a4 m c4] 29)).alloc (.cells #[.slice none 0 0, .int .i64 0, .int .i64 0, .int .i64 0, .slice none 0 0] 29)).alloc (.cells #[.slice a0 n c0, .int .i64 x1, .int .i64 x2, .int .i64 x3, .slice a4 m c4] 29)) y → y.heap[w.heap.size + 1 + 1]? = some (.cells #[.slice a0 n c0, .int .i64 x1, .int .i64 x2, .int .i64 x3, .slice a4 m c4] 29 (0, 0))) := fun y hy => (hy.block _ (by omega)).trans (boxN _ _ _ _ (by simp))
  have lC : w.heap.size + 1 + 1 < w.heap.size + 1 + 1 + 1 := by omega
  replace hz : w.heap.size + 1 + 1 + 1 ≤ ((((w.alloc (.cells #[.slice a0 n c0, .int .i64 x1, .int .i64 x2, .int .i64 x3, .slice a4 m c4] 29)).alloc (.cells #[.slice none 0 0, .int .i64 0, .int .i64 0, .int .i64 0, .slice none 0 0] 29)).alloc (.cells #[.slice a0 n c0, .int .i64 x1, .int .i64 x2, .int .i64 x3, .slice a4 m c4] 29))).heap.size := by simp
  clear BP
  generalize (((w.alloc (.cells #[.slice a0 n c0, .int .i64 x1, .int .i64 x2, .int .i64 x3, .slice a4 m c4] 29)).alloc (.cells #[.slice none 0 0, .int .i64 0, .int .i64 0, .int .i64 0, .slice none 0 0] 29)).alloc (.cells #[.slice a0 n c0, .int .i64 x1, .int .i64 x2, .int .i64 x3, .slice a4 m c4] 29)) = w1 at B XM XR XC hz ⊢
  have hzn : w.heap.size + 1 + 1 + 1 ≤ w1.heap.size := Nat.le_trans hz (Below.size (Below.refl (w.heap.size + 1 + 1 + 1) w1))
  replace B := lF B (Below.refl (w.heap.size + 1 + 1 + 1) w1) hzn
  replace XM := lF XM (Below.refl (w.heap.size + 1 + 1 + 1) w1) hzn
  replace lM := Nat.lt_of_lt_of_le lM hzn
  replace XR := lF XR (Below.refl (w.heap.size + 1 + 1 + 1) w1) hzn
  replace lR := Nat.lt_of_lt_of_le lR hzn
  replace XC := lF XC (Below.refl (w.heap.size + 1 + 1 + 1) w1) hzn
  replace lC := Nat.lt_of_lt_of_le lC hzn
  clear hz
  have hz : w1.heap.size ≤ w1.heap.size := Nat.le_refl _
  have hwl1 : w.heap.size + 1 + 1 + 1 ≤ w1.heap.size := by have := lC; omega
  have E0A : Hid ((w1.alloc (.cells #[] 3)).ownsRow w1.heap.size 3 1 (.slice (some ⟨w1.heap.size, 0, none⟩) 0 0) 0 (([] : List Int).map (Value.int .i64))) := own_empty _ _ (Nat.le_refl _) rfl
  obtain ⟨kM0, kM1, kM2, kM3, kM4⟩ := bk5 (XM.out w1 bR)
  obtain ⟨kC0, kC1, kC2, kC3, kC4⟩ := bk5 (XC.out w1 bR)
  obtain ⟨qkC0, qkC1, qkC2, qkC3, qkC4⟩ := bq5 (XC.out w1 bR)
  go_upto_region 3 with (
    at_builtin
    refine list_app rfl _ _ rfl w1.heap.size (.slice (some ⟨w1.heap.size, 0, none⟩) 0 0) 0 [] rfl E0A.out _ _ _ rfl xs (H0.out.later ((B.out w1 (Below.refl _ _)).trans ((Below.refl _ _).alloc (by have := (B.out w1 (Below.refl _ _)).size; omega) _))) (by omega) (by omega) (by simp) ?_
    intro g gc w2 hown hgrow hloc
    rw [Nat.zero_add, List.nil_append] at hown
    have OWA : Hid (w2.ownsRow w1.heap.size 3 1 (.slice g n gc) n (xs.map (Value.int .i64))) := hown
    have hb : Below w1.heap.size (w1.alloc (.cells #[] 3)) w2 := (Below.refl _ _).grown hgrow (by simp) (fun j e => own_ge E0A.out j e.symm)
    have BP : Hid (Below (w1.heap.size) w1 (w1.alloc (.cells #[] 3))) := (bR.alloc (by first | exact hz | (simp; done) | (simp; omega) | (have := hz; simp at this ⊢; omega)) _)
    have hq : Below (w1.heap.size) w1 w2 := (BP.out.mono (by omega)).trans (Below.mono hb (by omega))
    have hzn : w1.heap.size ≤ w2.heap.size := Nat.le_trans hz hq.size
    replace B : Hid (∀ y, Below w2.heap.size w2 y → Below w.heap.size w y) := fun y hy => ((B.out w1 bR).trans (hq.mono (by omega))).trans (hy.mono (Nat.le_trans (B.out w1 bR).size hq.size))
    replace XM : Hid (∀ y, Below w2.heap.size w2 y → y.heap[w.heap.size]? = some (.cells #[.slice a0 n c0, .int .i64 x1, .int .i64 x2, .int .i64 x3, .slice a4 m c4] 29 (0, 0))) := fun y hy => (hy.block _ (by omega)).trans ((hq.block _ (by omega)).trans (XM.out w1 bR))
    replace lM : w.heap.size < w2.heap.size := by omega
    replace XR : Hid (∀ y, Below w2.heap.size w2 y → y.heap[w.heap.size + 1]? = some (.cells #[.slice none 0 0, .int .i64 0, .int .i64 0, .int .i64 0, .slice none 0 0] 29 (0, 0))) := fun y hy => (hy.block _ (by omega)).trans ((hq.block _ (by omega)).trans (XR.out w1 bR))
    replace lR : w.heap.size + 1 < w2.heap.size := by omega
    replace XC : Hid (∀ y, Below w2.heap.size w2 y → y.heap[w.heap.size + 1 + 1]? = some (.cells #[.slice a0 n c0, .int .i64 x1, .int .i64 x2, .int .i64 x3, .slice a4 m c4] 29 (0, 0))) := fun y hy => (hy.block _ (by omega)).trans ((hq.block _ (by omega)).trans (XC.out w1 bR))
    replace lC : w.heap.size + 1 + 1 < w2.heap.size := by omega
    clear hq BP hz
    have hz : w2.heap.size ≤ w2.heap.size := Nat.le_refl _
    have WA : Hid (∀ y, Below (w2.heap.size) w2 y → Wri y g n (fun j => xs.getD j 0)) := fun y hy => (own_wri OWA.out).1.later hy
    have LA : Hid (∀ x, g = some x → 0 < n → w1.heap.size ≤ x.block ∧ x.block < w2.heap.size) := fun x e h9 => ⟨(own_wri OWA.out).2 x e h9, (own_wri OWA.out).1.lt x e h9⟩
    clear hown hgrow hloc hb OWA kM0 kM1 kM2 kM3 kM4 kC0 kC1 kC2 kC3 kC4 qkC0 qkC1 qkC2 qkC3 qkC4
    try rw [Nat.zero_add]
    obtain ⟨kC0, kC1, kC2, kC3, kC4⟩ := bk5 (XC.out w2 bR)
    obtain ⟨qkC0, qkC1, qkC2, qkC3, qkC4⟩ := bq5 (XC.out w2 bR))
  clear kC0 kC1 kC2 kC3 kC4 qkC0 qkC1 qkC2 qkC3 qkC4
  have hw0 : w.heap.size ≤ w.heap.size + 1 + 1 := (by first | omega | (simp; done) | (simp; omega) | (simp at *; omega))
  replace XM := lS XM lM ((w2.setCell ⟨w.heap.size + 1 + 1, 0, none⟩ (.slice g n gc))) ((Below.heap_setCell _ _ _ _ (by first | omega | (simp; done) | (simp; omega))))
  replace XR := lS XR lR ((w2.setCell ⟨w.heap.size + 1 + 1, 0, none⟩ (.slice g n gc))) ((Below.heap_setCell _ _ _ _ (by first | omega | (simp; done) | (simp; omega))))
  replace XC : Hid (∀ y, Below (w2.heap.size) (w2.setCell ⟨w.heap.size + 1 + 1, 0, none⟩ (.slice g n gc)) y → y.heap[w.heap.size + 1 + 1]? = some (.cells #[.slice g n gc, .int .i64 x1, .int .i64 x2, .int .i64 x3, .slice a4 m c4] 29 (0, 0))) := fun y hy => (hy.block _ (by omega)).trans (boxS (XC.out w2 bR) 0 _)
  replace WA : Hid (∀ y, Below (w2.heap.size) (w2.setCell ⟨w.heap.size + 1 + 1, 0, none⟩ (.slice g n gc)) y → Wri y g n (fun j => xs.getD j 0)) := fun y hy => ((WA.out w2 (Below.refl _ _)).keep (D := fun i => i = w.heap.size + 1 + 1) (Chg.set _ _ _ rfl) (fun x e h9 hd => by have := (LA.out x e h9).1; have h8 : x.block = w.heap.size + 1 + 1 := hd; omega)).later (hy.mono (by simp))
  replace B : Hid (∀ y, Below (w2.heap.size) (w2.setCell ⟨w.heap.size + 1 + 1, 0, none⟩ (.slice g n gc)) y → Below w.heap.size w y) := fun y hy => ((B.out w2 bR).setCell hw0 _).trans (hy.mono (by first | omega | exact Nat.le_trans (B.out w2 bR).size hz | (have := (B.out w2 bR).size; omega)))
  replace hz : w2.heap.size ≤ (w2.setCell ⟨w.heap.size + 1 + 1, 0, none⟩ (.slice g n gc)).heap.size := by first | (simp; done) | simpa using hz
  clear hw0
  generalize (w2.setCell ⟨w.heap.size + 1 + 1, 0, none⟩ (.slice g n gc)) = w3 at B WA XM XR XC hz ⊢
  have hzn : w2.heap.size ≤ w3.heap.size := Nat.le_trans hz (Below.size (Below.refl (w2.heap.size) w3))
  replace B := lF B (Below.refl (w2.heap.size) w3) hzn
  replace WA := lF WA (Below.refl (w2.heap.size) w3) hzn
  replace XM := lF XM (Below.refl (w2.heap.size) w3) hzn
  replace lM := Nat.lt_of_lt_of_le lM hzn
  replace XR := lF XR (Below.refl (w2.heap.size) w3) hzn
  replace lR := Nat.lt_of_lt_of_le lR hzn
  replace XC := lF XC (Below.refl (w2.heap.size) w3) hzn
  replace lC := Nat.lt_of_lt_of_le lC hzn
  clear hz
  have hz : w3.heap.size ≤ w3.heap.size := Nat.le_refl _
  have hz23 : w2.heap.size ≤ w3.heap.size := hzn
  have E0C : Hid ((w3.alloc (.cells #[] 4)).ownsRow w3.heap.size 4 1 (.slice (some ⟨w3.heap.size, 0, none⟩) 0 0) 0 (([] : List Bool).map Value.bool)) := own_emptyB _ _ (Nat.le_refl _) rfl
  obtain ⟨kM0, kM1, kM2, kM3, kM4⟩ := bk5 (XM.out w3 bR)
  obtain ⟨kC0, kC1, kC2, kC3, kC4⟩ := bk5 (XC.out w3 bR)
  obtain ⟨qkC0, qkC1, qkC2, qkC3, qkC4⟩ := bq5 (XC.out w3 bR)
  go_upto_region 4 with (
    at_builtin
    refine list_appB rfl _ _ rfl w3.heap.size (.slice (some ⟨w3.heap.size, 0, none⟩) 0 0) 0 [] rfl E0C.out _ _ _ rfl cd (H4.out.later ((B.out w3 (Below.refl _ _)).trans ((Below.refl _ _).alloc (by have := (B.out w3 (Below.refl _ _)).size; omega) _))) (by omega) (by omega) (by simp) ?_
    intro k kc w4 hown hgrow hloc
    rw [Nat.zero_add, List.nil_append] at hown
    have OWC : Hid (w4.ownsRow w3.heap.size 4 1 (.slice k m kc) m (cd.map Value.bool)) := hown
    have hb : Below w3.heap.size (w3.alloc (.cells #[] 4)) w4 := (Below.refl _ _).grown hgrow (by simp) (fun j e => own_ge E0C.out j e.symm)
    have BP : Hid (Below (w3.heap.size) w3 (w3.alloc (.cells #[] 4))) := (bR.alloc (by first | exact hz | (simp; done) | (simp; omega) | (have := hz; simp at this ⊢; omega)) _)
    have hq : Below (w3.heap.size) w3 w4 := (BP.out.mono (by omega)).trans (Below.mono hb (by omega))
    have hzn : w3.heap.size ≤ w4.heap.size := Nat.le_trans hz hq.size
    replace B : Hid (∀ y, Below w4.heap.size w4 y → Below w.heap.size w y) := fun y hy => ((B.out w3 bR).trans (hq.mono (by omega))).trans (hy.mono (Nat.le_trans (B.out w3 bR).size hq.size))
    replace WA : Hid (∀ y, Below w4.heap.size w4 y → Wri y g n (fun j => xs.getD j 0)) := fun y hy => (WA.out w3 (Below.refl _ _)).later ((hq.mono (by omega)).trans (hy.mono hzn)) 
    replace XM : Hid (∀ y, Below w4.heap.size w4 y → y.heap[w.heap.size]? = some (.cells #[.slice a0 n c0, .int .i64 x1, .int .i64 x2, .int .i64 x3, .slice a4 m c4] 29 (0, 0))) := fun y hy => (hy.block _ (by omega)).trans ((hq.block _ (by omega)).trans (XM.out w3 bR))
    replace lM : w.heap.size < w4.heap.size := by omega
    replace XR : Hid (∀ y, Below w4.heap.size w4 y → y.heap[w.heap.size + 1]? = some (.cells #[.slice none 0 0, .int .i64 0, .int .i64 0, .int .i64 0, .slice none 0 0] 29 (0, 0))) := fun y hy => (hy.block _ (by omega)).trans ((hq.block _ (by omega)).trans (XR.out w3 bR))
    replace lR : w.heap.size + 1 < w4.heap.size := by omega
    replace XC : Hid (∀ y, Below w4.heap.size w4 y → y.heap[w.heap.size + 1 + 1]? = some (.cells #[.slice g n gc, .int .i64 x1, .int .i64 x2, .int .i64 x3, .slice a4 m c4] 29 (0, 0))) := fun y hy => (hy.block _ (by omega)).trans ((hq.block _ (by omega)).trans (XC.out w3 bR))
    replace lC : w.heap.size + 1 + 1 < w4.heap.size := by omega
    clear hq BP hz
    have hz : w4.heap.size ≤ w4.heap.size := Nat.le_refl _
    have WC : Hid (∀ y, Below (w4.heap.size) w4 y → WriB y k m (fun j => cd.getD j false)) := fun y hy => (own_wriB OWC.out).1.later hy
    have LC : Hid (∀ x, k = some x → 0 < m → w3.heap.size ≤ x.block ∧ x.block < w4.heap.size) := fun x e h9 => ⟨(own_wriB OWC.out).2 x e h9, (own_wriB OWC.out).1.lt x e h9⟩
    clear hown hgrow hloc hb OWC kM0 kM1 kM2 kM3 kM4 kC0 kC1 kC2 kC3 kC4 qkC0 qkC1 qkC2 qkC3 qkC4
    try rw [Nat.zero_add]
    obtain ⟨kC0, kC1, kC2, kC3, kC4⟩ := bk5 (XC.out w4 bR)
    obtain ⟨qkC0, qkC1, qkC2, qkC3, qkC4⟩ := bq5 (XC.out w4 bR))
  clear kC0 kC1 kC2 kC3 kC4 qkC0 qkC1 qkC2 qkC3 qkC4
  have hw0 : w.heap.size ≤ w.heap.size + 1 + 1 := (by first | omega | (simp; done) | (simp; omega) | (simp at *; omega))
  replace XM := lS XM lM ((w4.setCell ⟨w.heap.size + 1 + 1, 4, none⟩ (.slice k m kc))) ((Below.heap_setCell _ _ _ _ (by first | omega | (simp; done) | (simp; omega))))
  replace XR := lS XR lR ((w4.setCell ⟨w.heap.size + 1 + 1, 4, none⟩ (.slice k m kc))) ((Below.heap_setCell _ _ _ _ (by first | omega | (simp; done) | (simp; omega))))
  replace XC : Hid (∀ y, Below (w4.heap.size) (w4.setCell ⟨w.heap.size + 1 + 1, 4, none⟩ (.slice k m kc)) y → y.heap[w.heap.size + 1 + 1]? = some (.cells #[.slice g n gc, .int .i64 x1, .int .i64 x2, .int .i64 x3, .slice k m kc] 29 (0, 0))) := fun y hy => (hy.block _ (by omega)).trans (boxS (XC.out w4 bR) 4 _)
  replace WA : Hid (∀ y, Below (w4.heap.size) (w4.setCell ⟨w.heap.size + 1 + 1, 4, none⟩ (.slice k m kc)) y → Wri y g n (fun j => xs.getD j 0)) := fun y hy => ((WA.out w4 (Below.refl _ _)).keep (D := fun i => i = w.heap.size + 1 + 1) (Chg.set _ _ _ rfl) (fun x e h9 hd => by have := (LA.out x e h9).1; have h8 : x.block = w.heap.size + 1 + 1 := hd; omega)).later (hy.mono (by simp))
  replace WC : Hid (∀ y, Below (w4.heap.size) (w4.setCell ⟨w.heap.size + 1 + 1, 4, none⟩ (.slice k m kc)) y → WriB y k m (fun j => cd.getD j false)) := fun y hy => ((WC.out w4 (Below.refl _ _)).keep (D := fun i => i = w.heap.size + 1 + 1) (Chg.set _ _ _ rfl) (fun x e h9 hd => by have := (LC.out x e h9).1; have h8 : x.block = w.heap.size + 1 + 1 := hd; omega)).later (hy.mono (by simp))
  replace B : Hid (∀ y, Below (w4.heap.size) (w4.setCell ⟨w.heap.size + 1 + 1, 4, none⟩ (.slice k m kc)) y → Below w.heap.size w y) := fun y hy => ((B.out w4 bR).setCell hw0 _).trans (hy.mono (by first | omega | exact Nat.le_trans (B.out w4 bR).size hz | (have := (B.out w4 bR).size; omega)))
  replace hz : w4.heap.size ≤ (w4.setCell ⟨w.heap.size + 1 + 1, 4, none⟩ (.slice k m kc)).heap.size := by first | (simp; done) | simpa using hz
  clear hw0
  generalize (w4.setCell ⟨w.heap.size + 1 + 1, 4, none⟩ (.slice k m kc)) = w5 at B WA WC XM XR XC hz ⊢
  have hzn : w4.heap.size ≤ w5.heap.size := Nat.le_trans hz (Below.size (Below.refl (w4.heap.size) w5))
  replace B := lF B (Below.refl (w4.heap.size) w5) hzn
  replace WA := lF WA (Below.refl (w4.heap.size) w5) hzn
  replace WC := lF WC (Below.refl (w4.heap.size) w5) hzn
  replace XM := lF XM (Below.refl (w4.heap.size) w5) hzn
  replace lM := Nat.lt_of_lt_of_le lM hzn
  replace XR := lF XR (Below.refl (w4.heap.size) w5) hzn
  replace lR := Nat.lt_of_lt_of_le lR hzn
  replace XC := lF XC (Below.refl (w4.heap.size) w5) hzn
  replace lC := Nat.lt_of_lt_of_le lC hzn
  clear hz
  have hz : w5.heap.size ≤ w5.heap.size := Nat.le_refl _
  obtain ⟨kM0, kM1, kM2, kM3, kM4⟩ := bk5 (XM.out w5 bR)
  obtain ⟨kR0, kR1, kR2, kR3, kR4⟩ := bk5 (XR.out w5 bR)
  obtain ⟨qkR0, qkR1, qkR2, qkR3, qkR4⟩ := bq5 (XR.out w5 bR)
  obtain ⟨kC0, kC1, kC2, kC3, kC4⟩ := bk5 (XC.out w5 bR)
  go_wp2_with fail
  refine bodyPost_ret (v := .agg #[.slice g n gc, .int .i64 x1, .int .i64 x2, .int .i64 x3, .slice k m kc]) ?_ rfl ?_
  · simp [results, Tryz.results30, go_sem, *]
  · exact ⟨g, gc, k, kc, rfl, (((((WA.out w5 (Below.refl _ _)).keep (D := fun i => i = w.heap.size + 1) (Chg.set _ _ _ rfl) (fun x e h9 hd => by have := (LA.out x e h9).1; have h8 : x.block = w.heap.size + 1 := hd; omega)).keep (D := fun i => i = w.heap.size + 1) (Chg.set _ _ _ rfl) (fun x e h9 hd => by have := (LA.out x e h9).1; have h8 : x.block = w.heap.size + 1 := hd; omega)).keep (D := fun i => i = w.heap.size + 1) (Chg.set _ _ _ rfl) (fun x e h9 hd => by have := (LA.out x e h9).1; have h8 : x.block = w.heap.size + 1 := hd; omega)).keep (D := fun i => i = w.heap.size + 1) (Chg.set _ _ _ rfl) (fun x e h9 hd => by have := (LA.out x e h9).1; have h8 : x.block = w.heap.size + 1 := hd; omega)).keep (D := fun i => i = w.heap.size + 1) (Chg.set _ _ _ rfl) (fun x e h9 hd => by have := (LA.out x e h9).1; have h8 : x.block = w.heap.size + 1 := hd; omega), (((((WC.out w5 (Below.refl _ _)).keep (D := fun i => i = w.heap.size + 1) (Chg.set _ _ _ rfl) (fun x e h9 hd => by have := (LC.out x e h9).1; have h8 : x.block = w.heap.size + 1 := hd; omega)).keep (D := fun i => i = w.heap.size + 1) (Chg.set _ _ _ rfl) (fun x e h9 hd => by have := (LC.out x e h9).1; have h8 : x.block = w.heap.size + 1 := hd; omega)).keep (D := fun i => i = w.heap.size + 1) (Chg.set _ _ _ rfl) (fun x e h9 hd => by have := (LC.out x e h9).1; have h8 : x.block = w.heap.size + 1 := hd; omega)).keep (D := fun i => i = w.heap.size + 1) (Chg.set _ _ _ rfl) (fun x e h9 hd => by have := (LC.out x e h9).1; have h8 : x.block = w.heap.size + 1 := hd; omega)).keep (D := fun i => i = w.heap.size + 1) (Chg.set _ _ _ rfl) (fun x e h9 hd => by have := (LC.out x e h9).1; have h8 : x.block = w.heap.size + 1 := hd; omega), (fun x e h9 => by have := (LA.out x e h9).1; omega), (fun x e h9 => by have := (LC.out x e h9).1; omega), (fun x y e e2 h9 h8 => by have := (LA.out x e h9).2; have := (LC.out y e2 h8).1; omega), by (repeat (refine Below.setCell ?_ (by first | omega | (simp; done) | (simp; omega)) _)); exact B.out w5 (Below.refl _ _)⟩

end Go.Proofs.YtjbmcdekhhbiaaaGreat
namespace Go.Proofs.YtjbmcdekhhbiaaaGreat
open Go.ChangeShapes Go.WideShapes Go.ChangeAt Go.RowKit
set_option linter.unusedVariables false

theorem Wri.put {w : World} {n g off i : Nat} {f : Nat → Int} (h : Wri w (some ⟨g, off, none⟩) n f) (hi : i < n) (v : Int) : Wri (w.setCell ⟨g, off + i, none⟩ (.int .i64 v)) (some ⟨g, off, none⟩) n (fun j => if j = i then v else f j) := by
  rcases h.cells with h0 | ⟨g2, off2, e, hc⟩
  · omega
  · obtain ⟨rfl, rfl⟩ : g = g2 ∧ off = off2 := by simpa using e
    refine ⟨.inr ⟨g, off, rfl, fun j hj => ⟨?_, (World.frozen?_setCell _ _ _ _).trans (hc j hj).2⟩⟩⟩
    by_cases e : j = i
    · subst e; rw [if_pos rfl]; exact World.cell?_setCell_same _ _ _ (hc j hj).1
    · rw [if_neg e, World.cell?_setCell_other _ _ _ _ (by intro h9; have h8 := congrArg Addr.off h9; simp only at h8; omega)]; exact (hc j hj).1
theorem WriB.put {w : World} {n g off i : Nat} {f : Nat → Bool} (h : WriB w (some ⟨g, off, none⟩) n f) (hi : i < n) (v : Bool) : WriB (w.setCell ⟨g, off + i, none⟩ (.bool v)) (some ⟨g, off, none⟩) n (fun j => if j = i then v else f j) := by
  rcases h.cells with h0 | ⟨g2, off2, e, hc⟩
  · omega
  · obtain ⟨rfl, rfl⟩ : g = g2 ∧ off = off2 := by simpa using e
    refine ⟨.inr ⟨g, off, rfl, fun j hj => ⟨?_, (World.frozen?_setCell _ _ _ _).trans (hc j hj).2⟩⟩⟩
    by_cases e : j = i
    · subst e; rw [if_pos rfl]; exact World.cell?_setCell_same _ _ _ (hc j hj).1
    · rw [if_neg e, World.cell?_setCell_other _ _ _ _ (by intro h9; have h8 := congrArg Addr.off h9; simp only at h8; omega)]; exact (hc j hj).1
theorem set_getD {α : Type} (xs : List α) (i : Nat) (v z : α) (hi : i < xs.length) (j : Nat) : (xs.set i v).getD j z = if j = i then v else xs.getD j z := by
  rw [List.getD_eq_getElem?_getD, List.getElem?_set]
  by_cases e : i = j
  · subst e; simp [hi]
  · rw [if_neg e, if_neg (fun h => e h.symm), List.getD_eq_getElem?_getD]
theorem Wri.congr {w : World} {n : Nat} {a : Option Addr} {f g : Nat → Int} (h : Wri w a n f) (e : ∀ j, j < n → f j = g j) : Wri w a n g := by
  rcases h.cells with h0 | ⟨b, off, ha, hc⟩
  · exact ⟨.inl h0⟩
  · exact ⟨.inr ⟨b, off, ha, fun j hj => by rw [← e j hj]; exact hc j hj⟩⟩
theorem WriB.congr {w : World} {n : Nat} {a : Option Addr} {f g : Nat → Bool} (h : WriB w a n f) (e : ∀ j, j < n → f j = g j) : WriB w a n g := by
  rcases h.cells with h0 | ⟨b, off, ha, hc⟩
  · exact ⟨.inl h0⟩
  · exact ⟨.inr ⟨b, off, ha, fun j hj => by rw [← e j hj]; exact hc j hj⟩⟩
/-- The cards behind it. -/
def cdPut (yg i : Nat) (v : Int) (ref : Bool) (cd : List Bool) : List Bool := if (ref && (decide (yg ≤ i) && inI v 1 yg)) = true then cd.set ((i - yg) / 4) true else cd
theorem chg5 (w : World) (X : Nat) (v0 v1 v2 v3 v4 : Value) : Chg (fun k => k = X) w (((((w.setCell ⟨X, 0, none⟩ v0).setCell ⟨X, 1, none⟩ v1).setCell ⟨X, 2, none⟩ v2).setCell ⟨X, 3, none⟩ v3).setCell ⟨X, 4, none⟩ v4) :=
  (((((Chg.set (D := fun k => k = X) w ⟨X, 0, none⟩ v0 rfl).trans (Chg.set (D := fun k => k = X) _ ⟨X, 1, none⟩ v1 rfl) fun _ _ h => h).trans (Chg.set (D := fun k => k = X) _ ⟨X, 2, none⟩ v2 rfl) fun _ _ h => h).trans (Chg.set (D := fun k => k = X) _ ⟨X, 3, none⟩ v3 rfl) fun _ _ h => h).trans (Chg.set (D := fun k => k = X) _ ⟨X, 4, none⟩ v4 rfl) fun _ _ h => h)
set_option maxRecDepth 100000 in
set_option maxHeartbeats 8000000 in
theorem putSpec21 (a : Option Addr) (n c0 yg : Nat) (x2 x3 : Int) (b : Option Addr) (m d0 i : Nat) (v : Int) (ref : Bool) (xs : List Int) (cd : List Bool) (w : World) (hA : Wri w a n (fun j => xs.getD j 0)) (hC : WriB w b m (fun j => cd.getD j false)) (hxs : xs.length = n) (hcs : cd.length = m) (hi : i < n) (hn : n ≤ 1000) (hy : yg ≤ 1000) (hab : ∀ x y, a = some x → b = some y → 0 < n → 0 < m → x.block ≠ y.block) (hcd : ref = true → yg ≤ i → inI v 1 yg = true → (i - yg) / 4 < m) :
    Calls Tryz.prog 50 #[.agg #[.slice a n c0, .int .i64 (yg : Nat), .int .i64 x2, .int .i64 x3, .slice b m d0], .int .i64 i, .int .i64 v, .bool ref] w fun e w' => e = .returned (.agg #[.slice a n c0, .int .i64 (yg : Nat), .int .i64 x2, .int .i64 x3, .slice b m d0]) ∧ Wri w' a n (fun j => (xs.set i v).getD j 0) ∧ WriB w' b m (fun j => (cdPut yg i v ref cd).getD j false) ∧ Chg (MemD a n b m) w w' := by
  have HAB : Hid (∀ x y, a = some x → b = some y → 0 < n → 0 < m → x.block ≠ y.block) := hab
  have HC0 : Hid (WriB w b m (fun j => cd.getD j false)) := hC
  obtain ⟨g, off, rfl⟩ : ∃ g off, a = some ⟨g, off, none⟩ := by
    rcases hA.cells with h0 | ⟨g, off, e, _⟩
    · omega
    · exact ⟨g, off, e⟩
  have hg := hA.lt _ rfl (by omega)
  simp only at hg
  have HAh : Hid (Wri w (some ⟨g, off, none⟩) n (fun j => xs.getD j 0)) := hA
  have BL : Below w.heap.size w ((w.alloc (.cells #[.slice (some ⟨g, off, none⟩) n c0, .int .i64 (yg : Nat), .int .i64 x2, .int .i64 x3, .slice b m d0] 29)).alloc (.cells #[.slice none 0 0, .int .i64 0, .int .i64 0, .int .i64 0, .slice none 0 0] 29)) := ((Below.refl _ _).alloc (Nat.le_refl _) _).alloc (by simp) _
  have HA1 : Hid (Wri ((w.alloc (.cells #[.slice (some ⟨g, off, none⟩) n c0, .int .i64 (yg : Nat), .int .i64 x2, .int .i64 x3, .slice b m d0] 29)).alloc (.cells #[.slice none 0 0, .int .i64 0, .int .i64 0, .int .i64 0, .slice none 0 0] 29)) (some ⟨g, off, none⟩) n (fun j => xs.getD j 0)) := hA.later BL
  have HC1 : Hid (WriB ((w.alloc (.cells #[.slice (some ⟨g, off, none⟩) n c0, .int .i64 (yg : Nat), .int .i64 x2, .int .i64 x3, .slice b m d0] 29)).alloc (.cells #[.slice none 0 0, .int .i64 0, .int .i64 0, .int .i64 0, .slice none 0 0] 29)) b m (fun j => cd.getD j false)) := hC.later BL
  have kA : (((w.alloc (.cells #[.slice (some ⟨g, off, none⟩) n c0, .int .i64 (yg : Nat), .int .i64 x2, .int .i64 x3, .slice b m d0] 29)).alloc (.cells #[.slice none 0 0, .int .i64 0, .int .i64 0, .int .i64 0, .slice none 0 0] 29))).cell? ⟨g, off + i, none⟩ = some (.int .i64 (xs.getD i 0)) ∧ (((w.alloc (.cells #[.slice (some ⟨g, off, none⟩) n c0, .int .i64 (yg : Nat), .int .i64 x2, .int .i64 x3, .slice b m d0] 29)).alloc (.cells #[.slice none 0 0, .int .i64 0, .int .i64 0, .int .i64 0, .slice none 0 0] 29))).frozen? ⟨g, off + i, none⟩ = false := by
    rcases HA1.out.cells with h0 | ⟨g2, off2, e, hc⟩
    · omega
    · obtain ⟨rfl, rfl⟩ : g = g2 ∧ off = off2 := by simpa using e
      exact hc i hi
  obtain ⟨kA1, kA2⟩ := kA
  have LB : Hid (∀ x, b = some x → 0 < m → x.block < w.heap.size) := fun x e h0 => hC.lt x e h0
  clear hA hC hab BL
  go_enter Tryz.func50, Tryz.ntmps50
  go_upto_region 2 with fail
  have HAw : Wri (w.setCell ⟨g, off + i, none⟩ (.int .i64 v)) (some ⟨g, off, none⟩) n (fun j => (xs.set i v).getD j 0) := (HAh.out.put hi v).congr (fun j _ => (set_getD xs i v 0 (by omega) j).symm)
  have HCw : WriB (w.setCell ⟨g, off + i, none⟩ (.int .i64 v)) b m (fun j => cd.getD j false) := HC0.out.keep (D := fun k => k = g) (Chg.set _ _ _ rfl) (fun x e h0 hd => HAB.out _ x rfl e (by omega) h0 hd.symm)
  have szw : (w.setCell ⟨g, off + i, none⟩ (.int .i64 v)).heap.size = w.heap.size := World.size_setCell _ _ _
  have BW : Below (w.setCell ⟨g, off + i, none⟩ (.int .i64 v)).heap.size (w.setCell ⟨g, off + i, none⟩ (.int .i64 v)) (((w.setCell ⟨g, off + i, none⟩ (.int .i64 v)).alloc (.cells #[.slice (some ⟨g, off, none⟩) n c0, .int .i64 (yg : Nat), .int .i64 x2, .int .i64 x3, .slice b m d0] 29)).alloc (.cells #[.slice none 0 0, .int .i64 0, .int .i64 0, .int .i64 0, .slice none 0 0] 29)) := ((Below.refl _ _).alloc (Nat.le_refl _) _).alloc (by simp) _
  have HA2 : Hid (Wri (((w.setCell ⟨g, off + i, none⟩ (.int .i64 v)).alloc (.cells #[.slice (some ⟨g, off, none⟩) n c0, .int .i64 (yg : Nat), .int .i64 x2, .int .i64 x3, .slice b m d0] 29)).alloc (.cells #[.slice none 0 0, .int .i64 0, .int .i64 0, .int .i64 0, .slice none 0 0] 29)) (some ⟨g, off, none⟩) n (fun j => (xs.set i v).getD j 0)) := HAw.later BW
  have HC2 : Hid (WriB (((w.setCell ⟨g, off + i, none⟩ (.int .i64 v)).alloc (.cells #[.slice (some ⟨g, off, none⟩) n c0, .int .i64 (yg : Nat), .int .i64 x2, .int .i64 x3, .slice b m d0] 29)).alloc (.cells #[.slice none 0 0, .int .i64 0, .int .i64 0, .int .i64 0, .slice none 0 0] 29)) b m (fun j => cd.getD j false)) := HCw.later BW
  have XM : Hid (((((w.setCell ⟨g, off + i, none⟩ (.int .i64 v)).alloc (.cells #[.slice (some ⟨g, off, none⟩) n c0, .int .i64 (yg : Nat), .int .i64 x2, .int .i64 x3, .slice b m d0] 29)).alloc (.cells #[.slice none 0 0, .int .i64 0, .int .i64 0, .int .i64 0, .slice none 0 0] 29))).heap[w.heap.size]? = some (.cells #[.slice (some ⟨g, off, none⟩) n c0, .int .i64 (yg : Nat), .int .i64 x2, .int .i64 x3, .slice b m d0] 29 (0, 0))) := (Below.heap_alloc _ _ _ (by simp)).trans (boxN _ _ _ _ szw)
  have XR : Hid (((((w.setCell ⟨g, off + i, none⟩ (.int .i64 v)).alloc (.cells #[.slice (some ⟨g, off, none⟩) n c0, .int .i64 (yg : Nat), .int .i64 x2, .int .i64 x3, .slice b m d0] 29)).alloc (.cells #[.slice none 0 0, .int .i64 0, .int .i64 0, .int .i64 0, .slice none 0 0] 29))).heap[w.heap.size + 1]? = some (.cells #[.slice none 0 0, .int .i64 0, .int .i64 0, .int .i64 0, .slice none 0 0] 29 (0, 0))) := boxN _ _ _ _ (by simp)
  have CH : Hid (Chg (MemD (some ⟨g, off, none⟩) n b m) w (((w.setCell ⟨g, off + i, none⟩ (.int .i64 v)).alloc (.cells #[.slice (some ⟨g, off, none⟩) n c0, .int .i64 (yg : Nat), .int .i64 x2, .int .i64 x3, .slice b m d0] 29)).alloc (.cells #[.slice none 0 0, .int .i64 0, .int .i64 0, .int .i64 0, .slice none 0 0] 29))) := ((Chg.set (D := MemD (some ⟨g, off, none⟩) n b m) w ⟨g, off + i, none⟩ (.int .i64 v) (.inl ⟨_, rfl, rfl, by omega⟩)).trans (Chg.alloc _ _ _) (fun _ _ h => h)).trans (Chg.alloc _ _ _) (fun _ _ h => h)
  have SZ : w.heap.size + 1 + 1 ≤ ((((w.setCell ⟨g, off + i, none⟩ (.int .i64 v)).alloc (.cells #[.slice (some ⟨g, off, none⟩) n c0, .int .i64 (yg : Nat), .int .i64 x2, .int .i64 x3, .slice b m d0] 29)).alloc (.cells #[.slice none 0 0, .int .i64 0, .int .i64 0, .int .i64 0, .slice none 0 0] 29))).heap.size := by simp
  clear HAw HCw BW szw
  clear kA1 kA2 HA1 HC1 HAh
  generalize (((w.setCell ⟨g, off + i, none⟩ (.int .i64 v)).alloc (.cells #[.slice (some ⟨g, off, none⟩) n c0, .int .i64 (yg : Nat), .int .i64 x2, .int .i64 x3, .slice b m d0] 29)).alloc (.cells #[.slice none 0 0, .int .i64 0, .int .i64 0, .int .i64 0, .slice none 0 0] 29)) = w1 at HA2 HC2 XM XR CH SZ ⊢
  cases ref
  · have CD : Hid (cdPut yg i v false cd = cd) := if_neg (by simp)
    have kM0 : w1.cell? ⟨w.heap.size, 0, none⟩ = some (.slice (some ⟨g, off, none⟩) n c0) := (boxG XM.out 0).1
    have kM1 : w1.cell? ⟨w.heap.size, 1, none⟩ = some (.int .i64 (yg : Nat)) := (boxG XM.out 1).1
    have kM2 : w1.cell? ⟨w.heap.size, 2, none⟩ = some (.int .i64 x2) := (boxG XM.out 2).1
    have kM3 : w1.cell? ⟨w.heap.size, 3, none⟩ = some (.int .i64 x3) := (boxG XM.out 3).1
    have kM4 : w1.cell? ⟨w.heap.size, 4, none⟩ = some (.slice b m d0) := (boxG XM.out 4).1
    have kR0 : w1.cell? ⟨w.heap.size + 1, 0, none⟩ = some (.slice none 0 0) := (boxG XR.out 0).1
    have qR0 : w1.frozen? ⟨w.heap.size + 1, 0, none⟩ = false := (boxG XR.out 0).2
    have kR1 : w1.cell? ⟨w.heap.size + 1, 1, none⟩ = some (.int .i64 0) := (boxG XR.out 1).1
    have qR1 : w1.frozen? ⟨w.heap.size + 1, 1, none⟩ = false := (boxG XR.out 1).2
    have kR2 : w1.cell? ⟨w.heap.size + 1, 2, none⟩ = some (.int .i64 0) := (boxG XR.out 2).1
    have qR2 : w1.frozen? ⟨w.heap.size + 1, 2, none⟩ = false := (boxG XR.out 2).2
    have kR3 : w1.cell? ⟨w.heap.size + 1, 3, none⟩ = some (.int .i64 0) := (boxG XR.out 3).1
    have qR3 : w1.frozen? ⟨w.heap.size + 1, 3, none⟩ = false := (boxG XR.out 3).2
    have kR4 : w1.cell? ⟨w.heap.size + 1, 4, none⟩ = some (.slice none 0 0) := (boxG XR.out 4).1
    have qR4 : w1.frozen? ⟨w.heap.size + 1, 4, none⟩ = false := (boxG XR.out 4).2
    go_wp2_with fail
    refine bodyPost_ret (v := .agg #[.slice (some ⟨g, off, none⟩) n c0, .int .i64 (yg : Nat), .int .i64 x2, .int .i64 x3, .slice b m d0]) ?_ rfl ?_
    · simp [results, Tryz.results50, go_sem, *]
    · clear kM0 kM1 kM2 kM3 kM4 kR0 qR0 kR1 qR1 kR2 qR2 kR3 qR3 kR4 qR4
      refine ⟨rfl, ?_, ?_, ?_⟩
      · exact HA2.out.keep (chg5 w1 (w.heap.size + 1) (.slice (some ⟨g, off, none⟩) n c0) (.int .i64 (yg : Nat)) (.int .i64 x2) (.int .i64 x3) (.slice b m d0)) (fun x e h0 hd => by have h8 : x.block = w.heap.size + 1 := hd; obtain rfl := Option.some.inj e; simp only at h8; omega)
      · rw [CD.out]
        exact HC2.out.keep (chg5 w1 (w.heap.size + 1) (.slice (some ⟨g, off, none⟩) n c0) (.int .i64 (yg : Nat)) (.int .i64 x2) (.int .i64 x3) (.slice b m d0)) (fun x e h0 hd => by have h8 : x.block = w.heap.size + 1 := hd; have := LB.out x e h0; omega)
      · exact CH.out.trans (chg5 w1 (w.heap.size + 1) (.slice (some ⟨g, off, none⟩) n c0) (.int .i64 (yg : Nat)) (.int .i64 x2) (.int .i64 x3) (.slice b m d0)) (fun k hk hd => by have h8 : k = w.heap.size + 1 := hd; omega)
  by_cases hyi : ¬ (yg ≤ i)
  · have CD : Hid (cdPut yg i v true cd = cd) := if_neg (by simp [hyi])
    have hyi2 : ¬ ((i : Int) ≥ (yg : Int)) := by omega
    have hyi3 : ¬ ((yg : Int) ≤ (i : Int)) := by omega
    have kM0 : w1.cell? ⟨w.heap.size, 0, none⟩ = some (.slice (some ⟨g, off, none⟩) n c0) := (boxG XM.out 0).1
    have kM1 : w1.cell? ⟨w.heap.size, 1, none⟩ = some (.int .i64 (yg : Nat)) := (boxG XM.out 1).1
    have kM2 : w1.cell? ⟨w.heap.size, 2, none⟩ = some (.int .i64 x2) := (boxG XM.out 2).1
    have kM3 : w1.cell? ⟨w.heap.size, 3, none⟩ = some (.int .i64 x3) := (boxG XM.out 3).1
    have kM4 : w1.cell? ⟨w.heap.size, 4, none⟩ = some (.slice b m d0) := (boxG XM.out 4).1
    have kR0 : w1.cell? ⟨w.heap.size + 1, 0, none⟩ = some (.slice none 0 0) := (boxG XR.out 0).1
    have qR0 : w1.frozen? ⟨w.heap.size + 1, 0, none⟩ = false := (boxG XR.out 0).2
    have kR1 : w1.cell? ⟨w.heap.size + 1, 1, none⟩ = some (.int .i64 0) := (boxG XR.out 1).1
    have qR1 : w1.frozen? ⟨w.heap.size + 1, 1, none⟩ = false := (boxG XR.out 1).2
    have kR2 : w1.cell? ⟨w.heap.size + 1, 2, none⟩ = some (.int .i64 0) := (boxG XR.out 2).1
    have qR2 : w1.frozen? ⟨w.heap.size + 1, 2, none⟩ = false := (boxG XR.out 2).2
    have kR3 : w1.cell? ⟨w.heap.size + 1, 3, none⟩ = some (.int .i64 0) := (boxG XR.out 3).1
    have qR3 : w1.frozen? ⟨w.heap.size + 1, 3, none⟩ = false := (boxG XR.out 3).2
    have kR4 : w1.cell? ⟨w.heap.size + 1, 4, none⟩ = some (.slice none 0 0) := (boxG XR.out 4).1
    have qR4 : w1.frozen? ⟨w.heap.size + 1, 4, none⟩ = false := (boxG XR.out 4).2
    go_wp2_with fail
    refine bodyPost_ret (v := .agg #[.slice (some ⟨g, off, none⟩) n c0, .int .i64 (yg : Nat), .int .i64 x2, .int .i64 x3, .slice b m d0]) ?_ rfl ?_
    · simp [results, Tryz.results50, go_sem, *]
    · clear kM0 kM1 kM2 kM3 kM4 kR0 qR0 kR1 qR1 kR2 qR2 kR3 qR3 kR4 qR4
      refine ⟨rfl, ?_, ?_, ?_⟩
      · exact HA2.out.keep (chg5 w1 (w.heap.size + 1) (.slice (some ⟨g, off, none⟩) n c0) (.int .i64 (yg : Nat)) (.int .i64 x2) (.int .i64 x3) (.slice b m d0)) (fun x e h0 hd => by have h8 : x.block = w.heap.size + 1 := hd; obtain rfl := Option.some.inj e; simp only at h8; omega)
      · rw [CD.out]
        exact HC2.out.keep (chg5 w1 (w.heap.size + 1) (.slice (some ⟨g, off, none⟩) n c0) (.int .i64 (yg : Nat)) (.int .i64 x2) (.int .i64 x3) (.slice b m d0)) (fun x e h0 hd => by have h8 : x.block = w.heap.size + 1 := hd; have := LB.out x e h0; omega)
      · exact CH.out.trans (chg5 w1 (w.heap.size + 1) (.slice (some ⟨g, off, none⟩) n c0) (.int .i64 (yg : Nat)) (.int .i64 x2) (.int .i64 x3) (.slice b m d0)) (fun k hk hd => by have h8 : k = w.heap.size + 1 := hd; omega)
  have hyi := Decidable.not_not.1 hyi
  have hyi2 : ((i : Int) ≥ (yg : Int)) := by omega
  have hyi3 : ((yg : Int) ≤ (i : Int)) := by omega
  cases hq : inI v 1 yg
  · have CD : Hid (cdPut yg i v true cd = cd) := if_neg (by simp [hq])
    have kM0 : w1.cell? ⟨w.heap.size, 0, none⟩ = some (.slice (some ⟨g, off, none⟩) n c0) := (boxG XM.out 0).1
    have kM1 : w1.cell? ⟨w.heap.size, 1, none⟩ = some (.int .i64 (yg : Nat)) := (boxG XM.out 1).1
    have kM2 : w1.cell? ⟨w.heap.size, 2, none⟩ = some (.int .i64 x2) := (boxG XM.out 2).1
    have kM3 : w1.cell? ⟨w.heap.size, 3, none⟩ = some (.int .i64 x3) := (boxG XM.out 3).1
    have kM4 : w1.cell? ⟨w.heap.size, 4, none⟩ = some (.slice b m d0) := (boxG XM.out 4).1
    have kR0 : w1.cell? ⟨w.heap.size + 1, 0, none⟩ = some (.slice none 0 0) := (boxG XR.out 0).1
    have qR0 : w1.frozen? ⟨w.heap.size + 1, 0, none⟩ = false := (boxG XR.out 0).2
    have kR1 : w1.cell? ⟨w.heap.size + 1, 1, none⟩ = some (.int .i64 0) := (boxG XR.out 1).1
    have qR1 : w1.frozen? ⟨w.heap.size + 1, 1, none⟩ = false := (boxG XR.out 1).2
    have kR2 : w1.cell? ⟨w.heap.size + 1, 2, none⟩ = some (.int .i64 0) := (boxG XR.out 2).1
    have qR2 : w1.frozen? ⟨w.heap.size + 1, 2, none⟩ = false := (boxG XR.out 2).2
    have kR3 : w1.cell? ⟨w.heap.size + 1, 3, none⟩ = some (.int .i64 0) := (boxG XR.out 3).1
    have qR3 : w1.frozen? ⟨w.heap.size + 1, 3, none⟩ = false := (boxG XR.out 3).2
    have kR4 : w1.cell? ⟨w.heap.size + 1, 4, none⟩ = some (.slice none 0 0) := (boxG XR.out 4).1
    have qR4 : w1.frozen? ⟨w.heap.size + 1, 4, none⟩ = false := (boxG XR.out 4).2
    go_wp2_with fail
    refine (inSpec' _ _ _ _ hq _).mono ?_
    rintro r w9 ⟨rfl, rfl⟩
    go_wp2_with fail
    refine bodyPost_ret (v := .agg #[.slice (some ⟨g, off, none⟩) n c0, .int .i64 (yg : Nat), .int .i64 x2, .int .i64 x3, .slice b m d0]) ?_ rfl ?_
    · simp [results, Tryz.results50, go_sem, *]
    · clear kM0 kM1 kM2 kM3 kM4 kR0 qR0 kR1 qR1 kR2 qR2 kR3 qR3 kR4 qR4
      refine ⟨rfl, ?_, ?_, ?_⟩
      · exact HA2.out.keep (chg5 w1 (w.heap.size + 1) (.slice (some ⟨g, off, none⟩) n c0) (.int .i64 (yg : Nat)) (.int .i64 x2) (.int .i64 x3) (.slice b m d0)) (fun x e h0 hd => by have h8 : x.block = w.heap.size + 1 := hd; obtain rfl := Option.some.inj e; simp only at h8; omega)
      · rw [CD.out]
        exact HC2.out.keep (chg5 w1 (w.heap.size + 1) (.slice (some ⟨g, off, none⟩) n c0) (.int .i64 (yg : Nat)) (.int .i64 x2) (.int .i64 x3) (.slice b m d0)) (fun x e h0 hd => by have h8 : x.block = w.heap.size + 1 := hd; have := LB.out x e h0; omega)
      · exact CH.out.trans (chg5 w1 (w.heap.size + 1) (.slice (some ⟨g, off, none⟩) n c0) (.int .i64 (yg : Nat)) (.int .i64 x2) (.int .i64 x3) (.slice b m d0)) (fun k hk hd => by have h8 : k = w.heap.size + 1 := hd; omega)
  have CD : Hid (cdPut yg i v true cd = cd.set ((i - yg) / 4) true) := if_pos (by simp [hq, hyi])
  have hci := hcd rfl hyi hq
  have hb1 : 0 ≤ ((i - yg : Nat) : Int) / 4 := by omega
  have hb2 : ((i - yg : Nat) : Int) / 4 < (m : Int) := by omega
  have hsub : IntKind.i64.wrap ((i : Int) - (yg : Int)) = ((i - yg : Nat) : Int) := by rw [IntKind.wrap_i64] <;> omega
  obtain ⟨gb, bo, rfl⟩ : ∃ g off, b = some ⟨g, off, none⟩ := by
    rcases HC2.out.cells with h0 | ⟨g, off, e, _⟩
    · omega
    · exact ⟨g, off, e⟩
  have hgb := LB.out _ rfl (by omega)
  simp only at hgb
  have kC : w1.cell? ⟨gb, bo + (i - yg) / 4, none⟩ = some (.bool (cd.getD ((i - yg) / 4) false)) ∧ w1.frozen? ⟨gb, bo + (i - yg) / 4, none⟩ = false := by
    rcases HC2.out.cells with h0 | ⟨g2, off2, e, hc⟩
    · omega
    · obtain ⟨rfl, rfl⟩ : gb = g2 ∧ bo = off2 := by simpa using e
      exact hc _ hci
  obtain ⟨kC1, kC2⟩ := kC
  generalize cd.getD ((i - yg) / 4) false = q9 at kC1
  have HC3 : Hid (WriB (w1.setCell ⟨gb, bo + (i - yg) / 4, none⟩ (.bool true)) (some ⟨gb, bo, none⟩) m (fun j => (cd.set ((i - yg) / 4) true).getD j false)) := (HC2.out.put hci true).congr (fun j _ => (set_getD cd ((i - yg) / 4) true false (by omega) j).symm)
  have HA3 : Hid (Wri (w1.setCell ⟨gb, bo + (i - yg) / 4, none⟩ (.bool true)) (some ⟨g, off, none⟩) n (fun j => (xs.set i v).getD j 0)) := HA2.out.keep (D := fun k => k = gb) (Chg.set _ _ _ rfl) (fun x e h0 hd => HAB.out x _ e rfl h0 (by omega) hd)
  have XM3 : Hid ((w1.setCell ⟨gb, bo + (i - yg) / 4, none⟩ (.bool true)).heap[w.heap.size]? = some (.cells #[.slice (some ⟨g, off, none⟩) n c0, .int .i64 (yg : Nat), .int .i64 x2, .int .i64 x3, .slice (some ⟨gb, bo, none⟩) m d0] 29 (0, 0))) := (Below.heap_setCell _ _ _ _ (by simp only; omega)).trans XM.out
  have XR3 : Hid ((w1.setCell ⟨gb, bo + (i - yg) / 4, none⟩ (.bool true)).heap[w.heap.size + 1]? = some (.cells #[.slice none 0 0, .int .i64 0, .int .i64 0, .int .i64 0, .slice none 0 0] 29 (0, 0))) := (Below.heap_setCell _ _ _ _ (by simp only; omega)).trans XR.out
  have CH3 : Hid (Chg (MemD (some ⟨g, off, none⟩) n (some ⟨gb, bo, none⟩) m) w (w1.setCell ⟨gb, bo + (i - yg) / 4, none⟩ (.bool true))) := CH.out.trans (E := fun k => k = gb) (Chg.set _ _ _ rfl) (fun k _ hk => .inr ⟨_, rfl, hk.symm, by omega⟩)
  clear hcd
  have kM0 : w1.cell? ⟨w.heap.size, 0, none⟩ = some (.slice (some ⟨g, off, none⟩) n c0) := (boxG XM.out 0).1
  have kM1 : w1.cell? ⟨w.heap.size, 1, none⟩ = some (.int .i64 (yg : Nat)) := (boxG XM.out 1).1
  have kM2 : w1.cell? ⟨w.heap.size, 2, none⟩ = some (.int .i64 x2) := (boxG XM.out 2).1
  have kM3 : w1.cell? ⟨w.heap.size, 3, none⟩ = some (.int .i64 x3) := (boxG XM.out 3).1
  have kM4 : w1.cell? ⟨w.heap.size, 4, none⟩ = some (.slice (some ⟨gb, bo, none⟩) m d0) := (boxG XM.out 4).1
  have kR0 : w1.cell? ⟨w.heap.size + 1, 0, none⟩ = some (.slice none 0 0) := (boxG XR.out 0).1
  have qR0 : w1.frozen? ⟨w.heap.size + 1, 0, none⟩ = false := (boxG XR.out 0).2
  have kR1 : w1.cell? ⟨w.heap.size + 1, 1, none⟩ = some (.int .i64 0) := (boxG XR.out 1).1
  have qR1 : w1.frozen? ⟨w.heap.size + 1, 1, none⟩ = false := (boxG XR.out 1).2
  have kR2 : w1.cell? ⟨w.heap.size + 1, 2, none⟩ = some (.int .i64 0) := (boxG XR.out 2).1
  have qR2 : w1.frozen? ⟨w.heap.size + 1, 2, none⟩ = false := (boxG XR.out 2).2
  have kR3 : w1.cell? ⟨w.heap.size + 1, 3, none⟩ = some (.int .i64 0) := (boxG XR.out 3).1
  have qR3 : w1.frozen? ⟨w.heap.size + 1, 3, none⟩ = false := (boxG XR.out 3).2
  have kR4 : w1.cell? ⟨w.heap.size + 1, 4, none⟩ = some (.slice none 0 0) := (boxG XR.out 4).1
  have qR4 : w1.frozen? ⟨w.heap.size + 1, 4, none⟩ = false := (boxG XR.out 4).2
  go_wp2_with fail
  refine (inSpec' _ _ _ _ hq _).mono ?_
  rintro r w9 ⟨rfl, rfl⟩
  go_upto_region 4 with fail
  clear kM0 kM1 kM2 kM3 kM4 kR0 qR0 kR1 qR1 kR2 qR2 kR3 qR3 kR4 qR4 kC1 kC2
  generalize w1.setCell ⟨gb, bo + (i - yg) / 4, none⟩ (.bool true) = w2 at HC3 HA3 XM3 XR3 CH3 ⊢
  have kM0 : w2.cell? ⟨w.heap.size, 0, none⟩ = some (.slice (some ⟨g, off, none⟩) n c0) := (boxG XM3.out 0).1
  have kM1 : w2.cell? ⟨w.heap.size, 1, none⟩ = some (.int .i64 (yg : Nat)) := (boxG XM3.out 1).1
  have kM2 : w2.cell? ⟨w.heap.size, 2, none⟩ = some (.int .i64 x2) := (boxG XM3.out 2).1
  have kM3 : w2.cell? ⟨w.heap.size, 3, none⟩ = some (.int .i64 x3) := (boxG XM3.out 3).1
  have kM4 : w2.cell? ⟨w.heap.size, 4, none⟩ = some (.slice (some ⟨gb, bo, none⟩) m d0) := (boxG XM3.out 4).1
  have kR0 : w2.cell? ⟨w.heap.size + 1, 0, none⟩ = some (.slice none 0 0) := (boxG XR3.out 0).1
  have qR0 : w2.frozen? ⟨w.heap.size + 1, 0, none⟩ = false := (boxG XR3.out 0).2
  have kR1 : w2.cell? ⟨w.heap.size + 1, 1, none⟩ = some (.int .i64 0) := (boxG XR3.out 1).1
  have qR1 : w2.frozen? ⟨w.heap.size + 1, 1, none⟩ = false := (boxG XR3.out 1).2
  have kR2 : w2.cell? ⟨w.heap.size + 1, 2, none⟩ = some (.int .i64 0) := (boxG XR3.out 2).1
  have qR2 : w2.frozen? ⟨w.heap.size + 1, 2, none⟩ = false := (boxG XR3.out 2).2
  have kR3 : w2.cell? ⟨w.heap.size + 1, 3, none⟩ = some (.int .i64 0) := (boxG XR3.out 3).1
  have qR3 : w2.frozen? ⟨w.heap.size + 1, 3, none⟩ = false := (boxG XR3.out 3).2
  have kR4 : w2.cell? ⟨w.heap.size + 1, 4, none⟩ = some (.slice none 0 0) := (boxG XR3.out 4).1
  have qR4 : w2.frozen? ⟨w.heap.size + 1, 4, none⟩ = false := (boxG XR3.out 4).2
  go_wp2_with fail
  refine bodyPost_ret (v := .agg #[.slice (some ⟨g, off, none⟩) n c0, .int .i64 (yg : Nat), .int .i64 x2, .int .i64 x3, .slice (some ⟨gb, bo, none⟩) m d0]) ?_ rfl ?_
  · simp [results, Tryz.results50, go_sem, *]
  · clear kM0 kM1 kM2 kM3 kM4 kR0 qR0 kR1 qR1 kR2 qR2 kR3 qR3 kR4 qR4
    refine ⟨rfl, ?_, ?_, ?_⟩
    · exact HA3.out.keep (chg5 w2 (w.heap.size + 1) (.slice (some ⟨g, off, none⟩) n c0) (.int .i64 (yg : Nat)) (.int .i64 x2) (.int .i64 x3) (.slice (some ⟨gb, bo, none⟩) m d0)) (fun x e h0 hd => by have h8 : x.block = w.heap.size + 1 := hd; obtain rfl := Option.some.inj e; simp only at h8; omega)
    · rw [CD.out]
      exact HC3.out.keep (chg5 w2 (w.heap.size + 1) (.slice (some ⟨g, off, none⟩) n c0) (.int .i64 (yg : Nat)) (.int .i64 x2) (.int .i64 x3) (.slice (some ⟨gb, bo, none⟩) m d0)) (fun x e h0 hd => by have h8 : x.block = w.heap.size + 1 := hd; have := LB.out x e h0; omega)
    · exact CH3.out.trans (chg5 w2 (w.heap.size + 1) (.slice (some ⟨g, off, none⟩) n c0) (.int .i64 (yg : Nat)) (.int .i64 x2) (.int .i64 x3) (.slice (some ⟨gb, bo, none⟩) m d0)) (fun k hk hd => by have h8 : k = w.heap.size + 1 := hd; omega)

end Go.Proofs.YtjbmcdekhhbiaaaGreat
namespace Go.Proofs.YtjbmcdekhhbiaaaGreat
open Go.ChangeShapes Go.WideShapes Go.ChangeAt Go.RowKit
set_option linter.unusedVariables false

def zM : Mm := ([], 0, 0, 0, [])
/-- What is given back: a memory of its own, and something with it. -/
def AnsM (w : World) (r : Mm) (u : Value) (e : Ending) (w' : World) : Prop :=
  ∃ a n c b m d, e = .returned (.tuple #[.agg #[.slice a n c, .int .i64 r.2.1, .int .i64 r.2.2.1, .int .i64 r.2.2.2.1, .slice b m d], u]) ∧ r.1.length = n ∧ r.2.2.2.2.length = m ∧ Wri w' a n (fun j => r.1.getD j 0) ∧ WriB w' b m (fun j => r.2.2.2.2.getD j false) ∧ (∀ x, a = some x → 0 < n → w.heap.size ≤ x.block) ∧ (∀ x, b = some x → 0 < m → w.heap.size ≤ x.block) ∧ (∀ x y, a = some x → b = some y → 0 < n → 0 < m → x.block ≠ y.block) ∧ Below w.heap.size w w'
theorem ansM_zero {w w' : World} (u : Value) (h : Below w.heap.size w w') : AnsM w zM u (.returned (.tuple #[.agg #[.slice none 0 0, .int .i64 0, .int .i64 0, .int .i64 0, .slice none 0 0], u])) w' :=
  ⟨none, 0, 0, none, 0, 0, rfl, rfl, rfl, ⟨.inl rfl⟩, ⟨.inl rfl⟩, (fun _ h => by cases h), (fun _ h => by cases h), (fun _ _ h => by cases h), h⟩
theorem cdPut_len (yg i : Nat) (v : Int) (ref : Bool) (cd : List Bool) : (cdPut yg i v ref cd).length = cd.length := by unfold cdPut; split <;> simp
/-- Whether it may be put; what then is there. -/
def putB (L : List Cl) (m : Mm) (v k u : Int) : Bool := getB L m v k && mayV (thT L m) ((atT (thT L m) v).2.2.getD k.toNat 0) u
def putM (L : List Cl) (m : Mm) (v k u : Int) : Mm :=
  (m.1.set (plc (atT (thT L m) v) k.toNat) u, m.2.1, m.2.2.1, m.2.2.2.1, cdPut m.2.1.toNat (plc (atT (thT L m) v) k.toNat) u ((atT (thT L m) v).2.2.getD k.toNat 0 != 1) m.2.2.2.2)
def putR (L : List Cl) (m : Mm) (v k u : Int) : Mm × Bool := if putB L m v k u = true then (putM L m v k u, true) else (zM, false)
theorem putR_no {L : List Cl} {m : Mm} {v k u : Int} (h : getB L m v k = false) : putR L m v k u = (zM, false) := by unfold putR putB; rw [h]; rfl
theorem putR_not {L : List Cl} {m : Mm} {v k u : Int} (h : mayV (thT L m) ((atT (thT L m) v).2.2.getD k.toNat 0) u = false) : putR L m v k u = (zM, false) := by unfold putR putB; rw [h]; simp
theorem putR_yes {L : List Cl} {m : Mm} {v k u : Int} (h : getB L m v k = true) (h2 : mayV (thT L m) ((atT (thT L m) v).2.2.getD k.toNat 0) u = true) : putR L m v k u = (putM L m v k u, true) := by unfold putR putB; rw [h, h2]; rfl

end Go.Proofs.YtjbmcdekhhbiaaaGreat
namespace Go.Proofs.YtjbmcdekhhbiaaaGreat
open Go.ChangeShapes Go.WideShapes Go.ChangeAt Go.RowKit
set_option linter.unusedVariables false

set_option maxRecDepth 100000 in
set_option maxHeartbeats 8000000 in
theorem mputSpec (ca : Option Addr) (cn cc : Nat) (wa : Option Addr) (wl wc : Nat) (yg tp od : Int) (da : Option Addr) (dl dc : Nat) (v k u : Int) (ws : List Int) (cd : List Bool) (L : List Cl) (w : World) {D E G G2 : Nat → Prop} (h : ClsAt D E w ca cn L) (hw : IntsAt G w wa wl ws) (hc : SlAt boolR G2 w da dl cd) (hyg : i64B yg) (htp : i64B tp) (hod : i64B od) (hl : wl ≤ 1048576) (hd : dl ≤ 1048576) (hv : i64B v) (hk : i64B k) (hu : i64B u) :
    Calls Tryz.prog 17 #[.slice ca cn cc, .agg #[.slice wa wl wc, .int .i64 yg, .int .i64 tp, .int .i64 od, .slice da dl dc], .int .i64 v, .int .i64 k, .int .i64 u] w (AnsM w (putR L (ws, yg, tp, od, cd) v k u).1 (.bool (putR L (ws, yg, tp, od, cd) v k u).2)) := by
  have H : Hid (ClsAt D E w ca cn L) := h
  have HW : Hid (IntsAt G w wa wl ws) := hw
  have HC : Hid (SlAt boolR G2 w da dl cd) := hc
  have WS : Hid (ws.length = wl) := hw.size
  have CS : Hid (cd.length = dl) := hc.size
  clear h hw hc
  have hz : w.heap.size + 1 + 1 ≤ ((w.alloc (.cells #[.slice wa wl wc, .int .i64 yg, .int .i64 tp, .int .i64 od, .slice da dl dc] 29)).alloc (.cells #[.slice none 0 0, .int .i64 0, .int .i64 0, .int .i64 0, .slice none 0 0] 29)).heap.size := by simp
  have B : Hid (∀ y, Below (w.heap.size + 1 + 1) ((w.alloc (.cells #[.slice wa wl wc, .int .i64 yg, .int .i64 tp, .int .i64 od, .slice da dl dc] 29)).alloc (.cells #[.slice none 0 0, .int .i64 0, .int .i64 0, .int .i64 0, .slice none 0 0] 29)) y → Below w.heap.size w y) := fun y hy => ((bR.alloc (by first | exact Nat.le_refl _ | (simp; done) | (simp; omega)) _).alloc (by first | exact Nat.le_refl _ | (simp; done) | (simp; omega)) _).trans (hy.mono (by omega))
  have XM : Hid (∀ y, Below (w.heap.size + 1 + 1) ((w.alloc (.cells #[.slice wa wl wc, .int .i64 yg, .int .i64 tp, .int .i64 od, .slice da dl dc] 29)).alloc (.cells #[.slice none 0 0, .int .i64 0, .int .i64 0, .int .i64 0, .slice none 0 0] 29)) y → y.heap[w.heap.size]? = some (.cells #[.slice wa wl wc, .int .i64 yg, .int .i64 tp, .int .i64 od, .slice da dl dc] 29 (0, 0))) := fun y hy => (hy.block _ (by omega)).trans ((Below.heap_alloc _ _ _ (by first | (simp; done) | (simp; omega))).trans (boxN _ _ _ _ (by simp)))
  have lM : w.heap.size < w.heap.size + 1 + 1 := by omega
  have XR : Hid (∀ y, Below (w.heap.size + 1 + 1) ((w.alloc (.cells #[.slice wa wl wc, .int .i64 yg, .int .i64 tp, .int .i64 od, .slice da dl dc] 29)).alloc (.cells #[.slice none 0 0, .int .i64 0, .int .i64 0, .int .i64 0, .slice none 0 0] 29)) y → y.heap[w.heap.size + 1]? = some (.cells #[.slice none 0 0, .int .i64 0, .int .i64 0, .int .i64 0, .slice none 0 0] 29 (0, 0))) := fun y hy => (hy.block _ (by omega)).trans (boxN _ _ _ _ (by simp))
  have lR : w.heap.size + 1 < w.heap.size + 1 + 1 := by omega
  go_enter Tryz.func17, Tryz.ntmps17
  go_wp2_with fail
  have BP : Hid (Below (w.heap.size + 1 + 1) ((w.alloc (.cells #[.slice wa wl wc, .int .i64 yg, .int .i64 tp, .int .i64 od, .slice da dl dc] 29)).alloc (.cells #[.slice none 0 0, .int .i64 0, .int .i64 0, .int .i64 0, .slice none 0 0] 29)) ((w.alloc (.cells #[.slice wa wl wc, .int .i64 yg, .int .i64 tp, .int .i64 od, .slice da dl dc] 29)).alloc (.cells #[.slice none 0 0, .int .i64 0, .int .i64 0, .int .i64 0, .slice none 0 0] 29))) := bR
  refine (memSpec _ _ _ _ _ _ yg tp od _ _ _ ws cd L _ (H.out.later (B.out _ BP.out)) (HW.out.later (B.out _ BP.out)) (HC.out.later (B.out _ BP.out)) hyg htp hod hl hd).mono ?_
  rintro e w1 ⟨rfl, hb⟩
  have hq : Below (w.heap.size + 1 + 1) ((w.alloc (.cells #[.slice wa wl wc, .int .i64 yg, .int .i64 tp, .int .i64 od, .slice da dl dc] 29)).alloc (.cells #[.slice none 0 0, .int .i64 0, .int .i64 0, .int .i64 0, .slice none 0 0] 29)) w1 := BP.out.trans (Below.mono hb (Nat.le_trans hz BP.out.size))
  have hzn : w.heap.size + 1 + 1 ≤ w1.heap.size := Nat.le_trans hz hq.size
  replace B := lF B hq hzn
  replace XM := lF XM hq hzn
  replace lM := Nat.lt_of_lt_of_le lM hzn
  replace XR := lF XR hq hzn
  replace lR := Nat.lt_of_lt_of_le lR hzn
  clear hq BP hz
  have hz : w1.heap.size ≤ w1.heap.size := Nat.le_refl _
  clear hb
  cases hq : memB L (ws, yg, tp, od, cd)
  · obtain ⟨kM0, kM1, kM2, kM3, kM4⟩ := bk5 (XM.out w1 bR)
    obtain ⟨kR0, kR1, kR2, kR3, kR4⟩ := bk5 (XR.out w1 bR)
    obtain ⟨qkR0, qkR1, qkR2, qkR3, qkR4⟩ := bq5 (XR.out w1 bR)
    go_wp2_with fail
    refine bodyPost_ret (v := .tuple #[.agg #[.slice none 0 0, .int .i64 0, .int .i64 0, .int .i64 0, .slice none 0 0], .bool false]) ?_ rfl ?_
    · simp [results, Tryz.results17, go_sem, *]
    · rw [putR_no (getB_no hq)]
      exact ansM_zero _ (by (repeat (refine Below.setCell ?_ (by first | omega | (simp <;> omega)) _)); exact B.out _ bR)
  have hB0 := (memB_ok hq).1
  have HB0 : Hid (Bnd L (ws, yg, tp, od, cd)) := hB0
  have hcards := hB0.cards
  obtain ⟨k0, k1, k2, k3, k4, _⟩ := hB0
  have OK : Hid (clsOk L = true) := k0
  simp only [WS.out, CS.out] at k1 k2 k3 k4 hcards
  obtain ⟨yn, rfl⟩ : ∃ n : Nat, yg = n := ⟨yg.toNat, by omega⟩
  obtain ⟨tn, rfl⟩ : ∃ n : Nat, tp = n := ⟨tp.toNat, by omega⟩
  obtain ⟨on, rfl⟩ : ∃ n : Nat, od = n := ⟨od.toNat, by omega⟩
  have m1 : tn ≤ yn := by omega
  have m2 : yn ≤ on := by omega
  have m3 : on ≤ wl := by omega
  have m4 : wl ≤ 200 := by omega
  have m5 : wl ≤ yn + dl * 4 := by omega
  have HM : Hid (memB L (ws, (yn : Int), (tn : Int), (on : Int), cd) = true) := hq
  clear k0 k1 k2 k3 k4 hcards hyg htp hod hq
  obtain ⟨kM0, kM1, kM2, kM3, kM4⟩ := bk5 (XM.out w1 bR)
  obtain ⟨kR0, kR1, kR2, kR3, kR4⟩ := bk5 (XR.out w1 bR)
  go_wp2_with fail
  clear kM0 kM1 kM2 kM3 kM4 kR0 kR1 kR2 kR3 kR4
  have BP : Hid (Below (w1.heap.size) w1 w1) := bR
  refine (insideSpec _ _ _ _ _ _ yn tn on _ _ _ v k ws cd L _ (H.out.later (B.out _ BP.out)) (HW.out.later (B.out _ BP.out)) HM.out (by omega) hv hk m1 m2 m3).mono ?_
  rintro e w2 ⟨hno, hyes, hb⟩
  have hq : Below (w1.heap.size) w1 w2 := BP.out.trans (Below.mono hb (Nat.le_trans hz BP.out.size))
  have hzn : w1.heap.size ≤ w2.heap.size := Nat.le_trans hz hq.size
  replace B := lF B hq hzn
  replace XM := lF XM hq hzn
  replace lM := Nat.lt_of_lt_of_le lM hzn
  replace XR := lF XR hq hzn
  replace lR := Nat.lt_of_lt_of_le lR hzn
  clear hq BP hz
  have hz : w2.heap.size ≤ w2.heap.size := Nat.le_refl _
  clear hb
  cases hi : isAt (thT L (ws, (yn : Int), (tn : Int), (on : Int), cd)) v
  · obtain rfl := hno hi
    clear hno hyes
    obtain ⟨kM0, kM1, kM2, kM3, kM4⟩ := bk5 (XM.out w2 bR)
    obtain ⟨kR0, kR1, kR2, kR3, kR4⟩ := bk5 (XR.out w2 bR)
    obtain ⟨qkR0, qkR1, qkR2, qkR3, qkR4⟩ := bq5 (XR.out w2 bR)
    go_wp2_with fail
    refine bodyPost_ret (v := .tuple #[.agg #[.slice none 0 0, .int .i64 0, .int .i64 0, .int .i64 0, .slice none 0 0], .bool false]) ?_ rfl ?_
    · simp [results, Tryz.results17, go_sem, *]
    · rw [putR_no (getB_none hi)]
      exact ansM_zero _ (by (repeat (refine Below.setCell ?_ (by first | omega | (simp <;> omega)) _)); exact B.out _ bR)
  obtain ⟨x, rfl, hx⟩ := hyes hi
  clear hno hyes
  cases hj : inI k 0 ((atT (thT L (ws, (yn : Int), (tn : Int), (on : Int), cd)) v).2.2.length - 1)
  · have GB : getB L (ws, (yn : Int), (tn : Int), (on : Int), cd) v k = false := by rw [getB_at HM.out hi, hj]
    clear hx
    obtain ⟨kM0, kM1, kM2, kM3, kM4⟩ := bk5 (XM.out w2 bR)
    obtain ⟨kR0, kR1, kR2, kR3, kR4⟩ := bk5 (XR.out w2 bR)
    obtain ⟨qkR0, qkR1, qkR2, qkR3, qkR4⟩ := bq5 (XR.out w2 bR)
    go_wp2_with fail
    refine bodyPost_ret (v := .tuple #[.agg #[.slice none 0 0, .int .i64 0, .int .i64 0, .int .i64 0, .slice none 0 0], .bool false]) ?_ rfl ?_
    · simp [results, Tryz.results17, go_sem, *]
    · rw [putR_no GB]
      exact ansM_zero _ (by (repeat (refine Below.setCell ?_ (by first | omega | (simp <;> omega)) _)); exact B.out _ bR)
  obtain rfl := hx hj
  have GB : Hid (getB L (ws, (yn : Int), (tn : Int), (on : Int), cd) v k = true) := by show _ = _; rw [getB_at HM.out hi, hj]
  obtain ⟨p, c0, ty, ea, ev, tk, hc0, htl, hfit, hsz, hcl⟩ := atT_ok HM.out hi
  have e0 : ((p : Int) + 1).toNat - 1 = p := by omega
  have his := tk.ist
  have hty := tk.ty
  simp only [e0] at his hty
  have hr := inI_iff.1 hj
  rw [ea] at hr
  simp only [WS.out] at hfit hr
  have hd0 := hdN_pos c0
  obtain ⟨kn, rfl⟩ : ∃ kn : Nat, k = kn := ⟨k.toNat, by omega⟩
  obtain ⟨i, hi0⟩ : ∃ i, plc (atT (thT L (ws, (yn : Int), (tn : Int), (on : Int), cd)) v) (kn : Int).toNat = i := ⟨_, rfl⟩
  have hie : i = p + hdN c0 + kn := by rw [← hi0, ea]; simp only [plc, e0, Int.toNat_natCast]
  have hil : i < wl := by omega
  obtain ⟨q, hrf⟩ : ∃ q, (ty.getD kn 0 != 1) = q := ⟨_, rfl⟩
  have PI : Hid (plc (atT (thT L (ws, (yn : Int), (tn : Int), (on : Int), cd)) v) (kn : Int).toNat = i) := hi0
  have TY : Hid ((atT (thT L (ws, (yn : Int), (tn : Int), (on : Int), cd)) v).2.2.getD (kn : Int).toNat 0 = ty.getD kn 0) := by show _ = _; rw [ea]; simp only [Int.toNat_natCast]
  have RF : Hid ((ty.getD kn 0 != 1) = q) := hrf
  have TSZ : Hid (tSz ((p : Int) + 1, c0, ty) = hdN c0 + ty.length) := rfl
  obtain ⟨tz, htz⟩ : ∃ tz, tSz ((p : Int) + 1, c0, ty) = tz := ⟨_, rfl⟩
  have TZ : Hid (tSz ((p : Int) + 1, c0, ty) = tz) := htz
  have TZ2 : Hid (hdN c0 + ty.length = tz) := htz
  obtain ⟨ri, hri⟩ : ∃ ri, hdN c0 + kn = ri := ⟨_, rfl⟩
  have RB : Hid (refB ((p : Int) + 1, c0, ty) ri = q) := by
    show _ = _
    rw [← hri, refB_at (Nat.le_add_right _ _)]
    simp only [Nat.add_sub_cancel_left]
    exact hrf
  have hrt : ri < tz := by rw [← hri, ← htz]; show hdN c0 + kn < hdN c0 + ty.length; omega
  have hrt2 : tz ≤ 1000 := by rw [← htz]; show hdN c0 + ty.length ≤ 1000; omega
  have hpt : p + tz ≤ wl := by rw [← htz]; show p + (hdN c0 + ty.length) ≤ wl; omega
  have hir : i = p + ri := by omega
  rw [hi0]
  obtain rfl := ev
  have hsub : IntKind.i64.wrap ((p : Int) + 1 - 1) = (p : Int) := by rw [IntKind.wrap_i64] <;> omega
  have hsub2 : IntKind.i64.wrap ((i : Int) - ((p : Int) + 1)) = (ri : Int) - 1 := by rw [IntKind.wrap_i64] <;> omega
  have hsub3 : IntKind.i64.wrap ((ri : Int) - 1 + 1) = (ri : Int) := by rw [IntKind.wrap_i64] <;> omega
  have hsub4 : IntKind.i64.wrap (ri : Int) = (ri : Int) := by rw [IntKind.wrap_i64] <;> omega
  have HIR : Hid (i = p + ri) := hir
  clear hir
  have HSZ : Hid (tsz L (ws.drop p) = tSz ((p : Int) + 1, c0, ty)) := hsz
  have HCL : Hid (ws.getD p 0 = c0) := hcl
  have HIS : Hid (isT L c0 (ws.getD (p + 1) 0) = true) := his
  have HTY : Hid (ty = typ L c0 (ws.getD (p + 1) 0)) := hty
  clear hx hi hj ea hi0 hr hsz hcl hfit htl hc0 tk his hty hrf htz hri hie hd0 TSZ
  obtain ⟨kM0, kM1, kM2, kM3, kM4⟩ := bk5 (XM.out w2 bR)
  obtain ⟨kR0, kR1, kR2, kR3, kR4⟩ := bk5 (XR.out w2 bR)
  go_wp2_with fail
  clear kM0 kM1 kM2 kM3 kM4 kR0 kR1 kR2 kR3 kR4
  have BP : Hid (Below (w2.heap.size) w2 w2) := bR
  refine (refsSpec _ _ _ _ _ _ p ((p : Int) + 1, c0, ty) ws L _ (H.out.later (B.out _ BP.out)) OK.out (HW.out.later (B.out _ BP.out)) (by rw [TZ.out]; exact hpt) (by omega) HCL.out HIS.out HTY.out HSZ.out).mono ?_
  rintro e w3 ⟨g, rfl, hg, hrow, hb⟩
  rw [TZ.out] at hrow ⊢
  have cR : w3.cell? ⟨g, ri, none⟩ = some (.bool (refB ((p : Int) + 1, c0, ty) ri)) := (hrow ri hrt).1
  rw [RB.out] at cR
  have hq : Below (w2.heap.size) w2 w3 := BP.out.trans (Below.mono hb (Nat.le_trans hz BP.out.size))
  have hzn : w2.heap.size ≤ w3.heap.size := Nat.le_trans hz hq.size
  replace B := lF B hq hzn
  replace XM := lF XM hq hzn
  replace lM := Nat.lt_of_lt_of_le lM hzn
  replace XR := lF XR hq hzn
  replace lR := Nat.lt_of_lt_of_le lR hzn
  clear hq BP hz
  have hz : w3.heap.size ≤ w3.heap.size := Nat.le_refl _
  clear hb hrow hg
  obtain ⟨kM0, kM1, kM2, kM3, kM4⟩ := bk5 (XM.out w3 bR)
  obtain ⟨kR0, kR1, kR2, kR3, kR4⟩ := bk5 (XR.out w3 bR)
  go_wp2_with fail
  clear kM0 kM1 kM2 kM3 kM4 kR0 kR1 kR2 kR3 kR4
  clear cR
  have BP : Hid (Below (w3.heap.size) w3 w3) := bR
  refine (walkSpec _ _ _ _ _ _ yn tn on _ _ _ ws cd L _ (H.out.later (B.out _ BP.out)) OK.out (HW.out.later (B.out _ BP.out)) m1 m2 m3 (by omega)).mono ?_
  rintro e w4 ⟨v9, out, bb, rfl, hn, hzo, hx, hbb, hts⟩
  have hb := hn.2
  obtain ⟨g2, c2, rfl⟩ := own_sl hn.1
  have I2 : Hid (IntsAt (fun b => True) w4 g2 out.length out) := ((own_at hn.1 (by omega) (fits_lit fun x hx0 => by have := hx x hx0; omega)).1).mono (fun _ _ _ => trivial)
  have ho := hts (by rw [hbb, (memB_ok HM.out).2.2.1, (memB_ok HM.out).2.2.2.1]; rfl)
  have hq : Below (w3.heap.size) w3 w4 := BP.out.trans (Below.mono hb (Nat.le_trans hz BP.out.size))
  have hzn : w3.heap.size ≤ w4.heap.size := Nat.le_trans hz hq.size
  replace B := lF B hq hzn
  replace XM := lF XM hq hzn
  replace lM := Nat.lt_of_lt_of_le lM hzn
  replace XR := lF XR hq hzn
  replace lR := Nat.lt_of_lt_of_le lR hzn
  clear hq BP hz
  have hz : w4.heap.size ≤ w4.heap.size := Nat.le_refl _
  clear hn hb hx hbb hts
  have TK0 : Hid (∀ t ∈ thT L (ws, (yn : Int), (tn : Int), (on : Int), cd), TOk L (ws, (yn : Int), (tn : Int), (on : Int), cd) t) := (thT_ok HB0.out).1
  obtain ⟨T, hT⟩ : ∃ T, thT L (ws, (yn : Int), (tn : Int), (on : Int), cd) = T := ⟨_, rfl⟩
  have HT : Hid (thT L (ws, (yn : Int), (tn : Int), (on : Int), cd) = T) := hT
  rw [hT] at TK0 ho
  subst ho
  have TR : Hid (∀ s ∈ T, 1 ≤ s.1 ∧ s.1 ≤ wl) := fun s hs => by have := (TK0.out s hs).most; simp only [WS.out] at this; exact this
  have TX : Hid (∀ x ∈ plN T, 0 ≤ x ∧ x < (wl : Int)) := fun x hx => by
    obtain ⟨s, hs, rfl⟩ := List.mem_map.1 hx
    have := TR.out s hs
    omega
  clear hT
  obtain ⟨tl, htl⟩ : ∃ tl, (plN T).length = tl := ⟨_, rfl⟩
  rw [htl] at I2 hzo
  rw [htl]
  clear htl
  have hu1 := hu.1
  have hu2 := hu.2
  cases q
  · have hty1 : ty.getD kn 0 = 1 := by have := RF.out; simpa using this
    have MV : Hid (mayV (thT L (ws, (yn : Int), (tn : Int), (on : Int), cd)) ((atT (thT L (ws, (yn : Int), (tn : Int), (on : Int), cd)) ((p : Int) + 1)).2.2.getD (kn : Int).toNat 0) u = inI u (-128) 127) := by show _ = _; rw [TY.out, hty1]; rfl
    clear hty1
    cases hw9 : inI u (-128) 127
    · obtain ⟨kM0, kM1, kM2, kM3, kM4⟩ := bk5 (XM.out w4 bR)
      obtain ⟨kR0, kR1, kR2, kR3, kR4⟩ := bk5 (XR.out w4 bR)
      go_wp2_with fail
      refine (wordSpec _ _ hw9 _).mono ?_
      rintro e wz ⟨rfl, rfl⟩
      clear kM0 kM1 kM2 kM3 kM4 kR0 kR1 kR2 kR3 kR4
      obtain ⟨kM0, kM1, kM2, kM3, kM4⟩ := bk5 (XM.out w4 bR)
      obtain ⟨kR0, kR1, kR2, kR3, kR4⟩ := bk5 (XR.out w4 bR)
      obtain ⟨qkR0, qkR1, qkR2, qkR3, qkR4⟩ := bq5 (XR.out w4 bR)
      go_wp2_with fail
      refine bodyPost_ret (v := .tuple #[.agg #[.slice none 0 0, .int .i64 0, .int .i64 0, .int .i64 0, .slice none 0 0], .bool false]) ?_ rfl ?_
      · simp [results, Tryz.results17, go_sem, *]
      · rw [putR_not (by rw [MV.out, hw9])]
        exact ansM_zero _ (by (repeat (refine Below.setCell ?_ (by first | omega | (simp <;> omega)) _)); exact B.out _ bR)
    obtain ⟨kM0, kM1, kM2, kM3, kM4⟩ := bk5 (XM.out w4 bR)
    obtain ⟨kR0, kR1, kR2, kR3, kR4⟩ := bk5 (XR.out w4 bR)
    go_wp2_with fail
    refine (wordSpec _ _ hw9 _).mono ?_
    rintro e wz ⟨rfl, rfl⟩
    clear kM0 kM1 kM2 kM3 kM4 kR0 kR1 kR2 kR3 kR4
    obtain ⟨kM0, kM1, kM2, kM3, kM4⟩ := bk5 (XM.out w4 bR)
    obtain ⟨kR0, kR1, kR2, kR3, kR4⟩ := bk5 (XR.out w4 bR)
    go_wp2_with fail
    clear kM0 kM1 kM2 kM3 kM4 kR0 kR1 kR2 kR3 kR4
    have BP : Hid (Below (w4.heap.size) w4 w4) := bR
    have hwR : w.heap.size + 1 < w4.heap.size := lR
    refine (copySpec21 (yn : Nat) (tn : Nat) (on : Nat) _ _ _ _ _ _ ws cd _ (HW.out.later (B.out _ BP.out)) (HC.out.later (B.out _ BP.out)) (by omega) hd).mono ?_
    rintro e w8 ⟨a, ac, b, bc, rfl, hA, hC, ha, hb0, hab, hb8⟩
    go_wp2_with fail
    refine (putSpec21 a wl ac yn tn on b dl bc i u false ws cd w8 hA hC WS.out CS.out hil (by omega) (by omega) hab (fun h1 h2 h3 => by omega)).mono ?_
    rintro e w9 ⟨rfl, hA9, hC9, hch⟩
    have hb : Below w4.heap.size w4 w9 := hb8.trans (hch.below hb8.size (fun k9 hk9 hd9 => by
      rcases hd9 with ⟨x, e1, e2, e3⟩ | ⟨x, e1, e2, e3⟩
      · have := ha x e1 e3; omega
      · have := hb0 x e1 e3; omega))
    have HA9 : Hid (Wri w9 a wl (fun j => (ws.set i u).getD j 0)) := hA9
    have HC9 : Hid (WriB w9 b dl (fun j => (cdPut yn i u false cd).getD j false)) := hC9
    have LA : Hid (∀ x, a = some x → 0 < wl → w4.heap.size ≤ x.block) := ha
    have LB : Hid (∀ x, b = some x → 0 < dl → w4.heap.size ≤ x.block) := hb0
    have AB : Hid (∀ x y, a = some x → b = some y → 0 < wl → 0 < dl → x.block ≠ y.block) := hab
    have BB : Hid (Below w.heap.size w w4) := B.out _ bR
    clear hA hC ha hb0 hab hA9 hC9 hch hb8
    have hq : Below (w4.heap.size) w4 w9 := BP.out.trans (Below.mono hb (Nat.le_trans hz BP.out.size))
    have hzn : w4.heap.size ≤ w9.heap.size := Nat.le_trans hz hq.size
    replace B := lF B hq hzn
    replace XM := lF XM hq hzn
    replace lM := Nat.lt_of_lt_of_le lM hzn
    replace XR := lF XR hq hzn
    replace lR := Nat.lt_of_lt_of_le lR hzn
    clear hq BP hz
    have hz : w9.heap.size ≤ w9.heap.size := Nat.le_refl _
    clear hb
    obtain ⟨kM0, kM1, kM2, kM3, kM4⟩ := bk5 (XM.out w9 bR)
    obtain ⟨kR0, kR1, kR2, kR3, kR4⟩ := bk5 (XR.out w9 bR)
    obtain ⟨qkR0, qkR1, qkR2, qkR3, qkR4⟩ := bq5 (XR.out w9 bR)
    go_wp2_with fail
    refine bodyPost_ret (v := .tuple #[.agg #[.slice a wl ac, .int .i64 (yn : Nat), .int .i64 (tn : Nat), .int .i64 (on : Nat), .slice b dl bc], .bool true]) ?_ rfl ?_
    · simp [results, Tryz.results17, go_sem, *]
    · clear kM0 kM1 kM2 kM3 kM4 kR0 kR1 kR2 kR3 kR4 qkR0 qkR1 qkR2 qkR3 qkR4
      have PE : putM L (ws, (yn : Int), (tn : Int), (on : Int), cd) ((p : Int) + 1) (kn : Int) u = (ws.set i u, (yn : Int), (tn : Int), (on : Int), cdPut yn i u false cd) := by unfold putM; rw [PI.out, TY.out, RF.out]; rfl
      rw [putR_yes GB.out (by rw [MV.out, hw9])]
      show AnsM w (putM L (ws, (yn : Int), (tn : Int), (on : Int), cd) ((p : Int) + 1) (kn : Int) u) (.bool true) _ _
      rw [PE]
      have h9 := BB.out.size
      refine ⟨a, wl, ac, b, dl, bc, rfl, by rw [List.length_set]; exact WS.out, by rw [cdPut_len]; exact CS.out, ?_, ?_, ?_, ?_, AB.out, ?_⟩
      · exact HA9.out.keep (chg5 w9 (w.heap.size + 1) (.slice a wl ac) (.int .i64 (yn : Nat)) (.int .i64 (tn : Nat)) (.int .i64 (on : Nat)) (.slice b dl bc)) (fun x e h0 hd => by have h8 : x.block = w.heap.size + 1 := hd; have := LA.out x e h0; omega)
      · exact HC9.out.keep (chg5 w9 (w.heap.size + 1) (.slice a wl ac) (.int .i64 (yn : Nat)) (.int .i64 (tn : Nat)) (.int .i64 (on : Nat)) (.slice b dl bc)) (fun x e h0 hd => by have h8 : x.block = w.heap.size + 1 := hd; have := LB.out x e h0; omega)
      · exact fun x e h0 => by have := LA.out x e h0; omega
      · exact fun x e h0 => by have := LB.out x e h0; omega
      · (repeat (refine Below.setCell ?_ (by first | omega | (simp <;> omega)) _)); exact B.out _ bR
  have hty1 : ty.getD kn 0 ≠ 1 := by have := RF.out; simpa using this
  have MV : Hid (mayV (thT L (ws, (yn : Int), (tn : Int), (on : Int), cd)) ((atT (thT L (ws, (yn : Int), (tn : Int), (on : Int), cd)) ((p : Int) + 1)).2.2.getD (kn : Int).toNat 0) u = ledV T u) := by show _ = _; rw [TY.out, HT.out]; exact if_neg hty1
  clear hty1
  obtain ⟨kM0, kM1, kM2, kM3, kM4⟩ := bk5 (XM.out w4 bR)
  obtain ⟨kR0, kR1, kR2, kR3, kR4⟩ := bk5 (XR.out w4 bR)
  go_wp2_with fail
  clear kM0 kM1 kM2 kM3 kM4 kR0 kR1 kR2 kR3 kR4
  have BP : Hid (Below (w4.heap.size) w4 w4) := bR
  refine (startsSpec wl (by omega) g2 tl c2 (plN T) _ (I2.out.later BP.out) TX.out).mono ?_
  rintro e w5 ⟨rfl, hrow, hb⟩
  have hq : Below (w4.heap.size) w4 w5 := BP.out.trans (Below.mono hb (Nat.le_trans hz BP.out.size))
  have hzn : w4.heap.size ≤ w5.heap.size := Nat.le_trans hz hq.size
  replace B := lF B hq hzn
  replace XM := lF XM hq hzn
  replace lM := Nat.lt_of_lt_of_le lM hzn
  replace XR := lF XR hq hzn
  replace lR := Nat.lt_of_lt_of_le lR hzn
  clear hq BP hz
  have hz : w5.heap.size ≤ w5.heap.size := Nat.le_refl _
  clear hb I2
  go_wp2_with fail
  refine (leadSpec w4.heap.size wl wl (stB (plN T)) u _ (fun j hj => (hrow j hj).1) (by omega) hu).mono ?_
  rintro e wz ⟨rfl, rfl⟩
  rw [led_eq (n := wl) TR.out u]
  clear hrow
  cases hw9 : ledV T u
  · obtain ⟨kM0, kM1, kM2, kM3, kM4⟩ := bk5 (XM.out w5 bR)
    obtain ⟨kR0, kR1, kR2, kR3, kR4⟩ := bk5 (XR.out w5 bR)
    obtain ⟨qkR0, qkR1, qkR2, qkR3, qkR4⟩ := bq5 (XR.out w5 bR)
    go_wp2_with fail
    refine bodyPost_ret (v := .tuple #[.agg #[.slice none 0 0, .int .i64 0, .int .i64 0, .int .i64 0, .slice none 0 0], .bool false]) ?_ rfl ?_
    · simp [results, Tryz.results17, go_sem, *]
    · rw [putR_not (by rw [MV.out, hw9])]
      exact ansM_zero _ (by (repeat (refine Below.setCell ?_ (by first | omega | (simp <;> omega)) _)); exact B.out _ bR)
  obtain ⟨kM0, kM1, kM2, kM3, kM4⟩ := bk5 (XM.out w5 bR)
  obtain ⟨kR0, kR1, kR2, kR3, kR4⟩ := bk5 (XR.out w5 bR)
  go_wp2_with fail
  clear kM0 kM1 kM2 kM3 kM4 kR0 kR1 kR2 kR3 kR4
  have BP : Hid (Below (w5.heap.size) w5 w5) := bR
  have hwR : w.heap.size + 1 < w5.heap.size := lR
  refine (copySpec21 (yn : Nat) (tn : Nat) (on : Nat) _ _ _ _ _ _ ws cd _ (HW.out.later (B.out _ BP.out)) (HC.out.later (B.out _ BP.out)) (by omega) hd).mono ?_
  rintro e w8 ⟨a, ac, b, bc, rfl, hA, hC, ha, hb0, hab, hb8⟩
  go_wp2_with fail
  refine (putSpec21 a wl ac yn tn on b dl bc i u true ws cd w8 hA hC WS.out CS.out hil (by omega) (by omega) hab (fun h1 h2 h3 => by omega)).mono ?_
  rintro e w9 ⟨rfl, hA9, hC9, hch⟩
  have hb : Below w5.heap.size w5 w9 := hb8.trans (hch.below hb8.size (fun k9 hk9 hd9 => by
    rcases hd9 with ⟨x, e1, e2, e3⟩ | ⟨x, e1, e2, e3⟩
    · have := ha x e1 e3; omega
    · have := hb0 x e1 e3; omega))
  have HA9 : Hid (Wri w9 a wl (fun j => (ws.set i u).getD j 0)) := hA9
  have HC9 : Hid (WriB w9 b dl (fun j => (cdPut yn i u true cd).getD j false)) := hC9
  have LA : Hid (∀ x, a = some x → 0 < wl → w5.heap.size ≤ x.block) := ha
  have LB : Hid (∀ x, b = some x → 0 < dl → w5.heap.size ≤ x.block) := hb0
  have AB : Hid (∀ x y, a = some x → b = some y → 0 < wl → 0 < dl → x.block ≠ y.block) := hab
  have BB : Hid (Below w.heap.size w w5) := B.out _ bR
  clear hA hC ha hb0 hab hA9 hC9 hch hb8
  have hq : Below (w5.heap.size) w5 w9 := BP.out.trans (Below.mono hb (Nat.le_trans hz BP.out.size))
  have hzn : w5.heap.size ≤ w9.heap.size := Nat.le_trans hz hq.size
  replace B := lF B hq hzn
  replace XM := lF XM hq hzn
  replace lM := Nat.lt_of_lt_of_le lM hzn
  replace XR := lF XR hq hzn
  replace lR := Nat.lt_of_lt_of_le lR hzn
  clear hq BP hz
  have hz : w9.heap.size ≤ w9.heap.size := Nat.le_refl _
  clear hb
  obtain ⟨kM0, kM1, kM2, kM3, kM4⟩ := bk5 (XM.out w9 bR)
  obtain ⟨kR0, kR1, kR2, kR3, kR4⟩ := bk5 (XR.out w9 bR)
  obtain ⟨qkR0, qkR1, qkR2, qkR3, qkR4⟩ := bq5 (XR.out w9 bR)
  go_wp2_with fail
  refine bodyPost_ret (v := .tuple #[.agg #[.slice a wl ac, .int .i64 (yn : Nat), .int .i64 (tn : Nat), .int .i64 (on : Nat), .slice b dl bc], .bool true]) ?_ rfl ?_
  · simp [results, Tryz.results17, go_sem, *]
  · clear kM0 kM1 kM2 kM3 kM4 kR0 kR1 kR2 kR3 kR4 qkR0 qkR1 qkR2 qkR3 qkR4
    have PE : putM L (ws, (yn : Int), (tn : Int), (on : Int), cd) ((p : Int) + 1) (kn : Int) u = (ws.set i u, (yn : Int), (tn : Int), (on : Int), cdPut yn i u true cd) := by unfold putM; rw [PI.out, TY.out, RF.out]; rfl
    rw [putR_yes GB.out (by rw [MV.out, hw9])]
    show AnsM w (putM L (ws, (yn : Int), (tn : Int), (on : Int), cd) ((p : Int) + 1) (kn : Int) u) (.bool true) _ _
    rw [PE]
    have h9 := BB.out.size
    refine ⟨a, wl, ac, b, dl, bc, rfl, by rw [List.length_set]; exact WS.out, by rw [cdPut_len]; exact CS.out, ?_, ?_, ?_, ?_, AB.out, ?_⟩
    · exact HA9.out.keep (chg5 w9 (w.heap.size + 1) (.slice a wl ac) (.int .i64 (yn : Nat)) (.int .i64 (tn : Nat)) (.int .i64 (on : Nat)) (.slice b dl bc)) (fun x e h0 hd => by have h8 : x.block = w.heap.size + 1 := hd; have := LA.out x e h0; omega)
    · exact HC9.out.keep (chg5 w9 (w.heap.size + 1) (.slice a wl ac) (.int .i64 (yn : Nat)) (.int .i64 (tn : Nat)) (.int .i64 (on : Nat)) (.slice b dl bc)) (fun x e h0 hd => by have h8 : x.block = w.heap.size + 1 := hd; have := LB.out x e h0; omega)
    · exact fun x e h0 => by have := LA.out x e h0; omega
    · exact fun x e h0 => by have := LB.out x e h0; omega
    · (repeat (refine Below.setCell ?_ (by first | omega | (simp <;> omega)) _)); exact B.out _ bR

end Go.Proofs.YtjbmcdekhhbiaaaGreat
namespace Go.Proofs.YtjbmcdekhhbiaaaGreat
open Go.ChangeShapes Go.WideShapes Go.ChangeAt Go.RowKit
set_option linter.unusedVariables false

theorem Wri.pt {w : World} {n : Nat} {a : Option Addr} {f : Nat → Int} (h : Wri w a n f) (hn : 0 < n) : ∃ g o, a = some ⟨g, o, none⟩ := by
  rcases h.cells with h0 | ⟨g, o, e, _⟩
  · omega
  · exact ⟨g, o, e⟩
theorem WriB.pt {w : World} {n : Nat} {a : Option Addr} {f : Nat → Bool} (h : WriB w a n f) (hn : 0 < n) : ∃ g o, a = some ⟨g, o, none⟩ := by
  rcases h.cells with h0 | ⟨g, o, e, _⟩
  · omega
  · exact ⟨g, o, e⟩
theorem Wri.cell {w : World} {n g o i : Nat} {f : Nat → Int} (h : Wri w (some ⟨g, o, none⟩) n f) (hi : i < n) : w.cell? ⟨g, o + i, none⟩ = some (.int .i64 (f i)) ∧ w.frozen? ⟨g, o + i, none⟩ = false := by
  rcases h.cells with h0 | ⟨g2, o2, e, hc⟩
  · omega
  · obtain ⟨rfl, rfl⟩ : g = g2 ∧ o = o2 := by simpa using e
    exact hc i hi
theorem WriB.cell {w : World} {n g o i : Nat} {f : Nat → Bool} (h : WriB w (some ⟨g, o, none⟩) n f) (hi : i < n) : w.cell? ⟨g, o + i, none⟩ = some (.bool (f i)) ∧ w.frozen? ⟨g, o + i, none⟩ = false := by
  rcases h.cells with h0 | ⟨g2, o2, e, hc⟩
  · omega
  · obtain ⟨rfl, rfl⟩ : g = g2 ∧ o = o2 := by simpa using e
    exact hc i hi
/-- A memory that is given back, of one's own. -/
def OwnM (w : World) (xs : List Int) (y t o : Int) (cd : List Bool) (e : Ending) (w' : World) : Prop :=
  ∃ a n c b m d, e = .returned (.agg #[.slice a n c, .int .i64 y, .int .i64 t, .int .i64 o, .slice b m d]) ∧ xs.length = n ∧ cd.length = m ∧ Wri w' a n (fun j => xs.getD j 0) ∧ WriB w' b m (fun j => cd.getD j false) ∧ (∀ x, a = some x → 0 < n → w.heap.size ≤ x.block) ∧ (∀ x, b = some x → 0 < m → w.heap.size ≤ x.block) ∧ (∀ x y, a = some x → b = some y → 0 < n → 0 < m → x.block ≠ y.block) ∧ Below w.heap.size w w'
set_option maxRecDepth 100000 in
set_option maxHeartbeats 8000000 in
theorem putImpl (ca : Option Addr) (cn cc wb wo wl wc yg tp od : Nat) (da : Option Addr) (dl dc pc ol oc ou : Nat) (ta : Option Addr) (tl tc : Nat) (p : Nat) (c0 : Int) (ya : Option Addr) (yl yc : Nat) (k : Nat) (u : Int) (ty ws : List Int) (cd : List Bool) (w : World) {D G G2 : Nat → Prop} (hty : IntsAt D w ya yl ty) (hw : IntsAt G w (some ⟨wb, wo, none⟩) wl ws) (hc : SlAt boolR G2 w da dl cd) (hk : k < yl) (hz0 : ty.getD k 0 ≠ 0) (h1 : p + hdN c0 + yl ≤ wl) (h3 : wl ≤ 1000) (hd : dl ≤ 1048576) (h5 : wl ≤ yg + dl * 4) (hpt : p + hdN c0 + yl ≤ yg ∨ yg ≤ p) :
    Calls Tryz.prog 53 #[.agg #[.slice ca cn cc, .slice (some ⟨wb, wo, none⟩) wl wc, .int .i64 (yg : Nat), .int .i64 (tp : Nat), .int .i64 (od : Nat), .slice da dl dc, .slice (some ⟨wb, wo, none⟩) yg pc, .int .i64 0, .int .i64 (tp : Nat), .slice (some ⟨wb, wo + yg, none⟩) ol oc, .int .i64 (yg : Nat), .int .i64 (ou : Nat), .slice ta tl tc], .agg #[.int .i64 ((p : Int) + 1), .int .i64 c0, .slice ya yl yc], .int .i64 k, .int .i64 u] w (OwnM w (ws.set (p + hdN c0 + k) u) yg tp od (cdPut yg (p + hdN c0 + k) u (ty.getD k 0 != 1) cd)) := by
  have HW : Hid (IntsAt G w (some ⟨wb, wo, none⟩) wl ws) := hw
  have HT : Hid (IntsAt D w ya yl ty) := hty
  have HC : Hid (SlAt boolR G2 w da dl cd) := hc
  have WS : Hid (ws.length = wl) := hw.size
  have CS : Hid (cd.length = dl) := hc.size
  have hd0 := hdN_pos c0
  obtain ⟨i, hi⟩ : ∃ i, p + hdN c0 + k = i := ⟨_, rfl⟩
  obtain ⟨pl, hpl⟩ : ∃ pl, i + 1 = pl := ⟨_, rfl⟩
  have hil : i < wl := by omega
  have hsub : IntKind.i64.wrap ((pl : Int) - 1) = (i : Int) := by rw [IntKind.wrap_i64] <;> omega
  rw [hi]
  clear hw hty hc
  have hz : w.heap.size + 1 + 1 + 1 ≤ (((w.alloc (.cells #[.slice ca cn cc, .slice (some ⟨wb, wo, none⟩) wl wc, .int .i64 (yg : Nat), .int .i64 (tp : Nat), .int .i64 (od : Nat), .slice da dl dc, .slice (some ⟨wb, wo, none⟩) yg pc, .int .i64 0, .int .i64 (tp : Nat), .slice (some ⟨wb, wo + yg, none⟩) ol oc, .int .i64 (yg : Nat), .int .i64 (ou : Nat), .slice ta tl tc] 65)).alloc (.cells #[.int .i64 ((p : Int) + 1), .int .i64 c0, .slice ya yl yc] 69)).alloc (.cells #[.slice none 0 0, .int .i64 0, .int .i64 0, .int .i64 0, .slice none 0 0] 29)).heap.size := by simp
  have B : Hid (∀ y, Below (w.heap.size + 1 + 1 + 1) (((w.alloc (.cells #[.slice ca cn cc, .slice (some ⟨wb, wo, none⟩) wl wc, .int .i64 (yg : Nat), .int .i64 (tp : Nat), .int .i64 (od : Nat), .slice da dl dc, .slice (some ⟨wb, wo, none⟩) yg pc, .int .i64 0, .int .i64 (tp : Nat), .slice (some ⟨wb, wo + yg, none⟩) ol oc, .int .i64 (yg : Nat), .int .i64 (ou : Nat), .slice ta tl tc] 65)).alloc (.cells #[.int .i64 ((p : Int) + 1), .int .i64 c0, .slice ya yl yc] 69)).alloc (.cells #[.slice none 0 0, .int .i64 0, .int .i64 0, .int .i64 0, .slice none 0 0] 29)) y → Below w.heap.size w y) := fun y hy => (((bR.alloc (by first | exact Nat.le_refl _ | (simp; done) | (simp; omega)) _).alloc (by first | exact Nat.le_refl _ | (simp; done) | (simp; omega)) _).alloc (by first | exact Nat.le_refl _ | (simp; done) | (simp; omega)) _).trans (hy.mono (by omega))
  have XM : Hid (∀ y, Below (w.heap.size + 1 + 1 + 1) (((w.alloc (.cells #[.slice ca cn cc, .slice (some ⟨wb, wo, none⟩) wl wc, .int .i64 (yg : Nat), .int .i64 (tp : Nat), .int .i64 (od : Nat), .slice da dl dc, .slice (some ⟨wb, wo, none⟩) yg pc, .int .i64 0, .int .i64 (tp : Nat), .slice (some ⟨wb, wo + yg, none⟩) ol oc, .int .i64 (yg : Nat), .int .i64 (ou : Nat), .slice ta tl tc] 65)).alloc (.cells #[.int .i64 ((p : Int) + 1), .int .i64 c0, .slice ya yl yc] 69)).alloc (.cells #[.slice none 0 0, .int .i64 0, .int .i64 0, .int .i64 0, .slice none 0 0] 29)) y → y.heap[w.heap.size]? = some (.cells #[.slice ca cn cc, .slice (some ⟨wb, wo, none⟩) wl wc, .int .i64 (yg : Nat), .int .i64 (tp : Nat), .int .i64 (od : Nat), .slice da dl dc, .slice (some ⟨wb, wo, none⟩) yg pc, .int .i64 0, .int .i64 (tp : Nat), .slice (some ⟨wb, wo + yg, none⟩) ol oc, .int .i64 (yg : Nat), .int .i64 (ou : Nat), .slice ta tl tc] 65 (0, 0))) := fun y hy => (hy.block _ (by omega)).trans ((Below.heap_alloc _ _ _ (by first | (simp; done) | (simp; omega))).trans ((Below.heap_alloc _ _ _ (by first | (simp; done) | (simp; omega))).trans (boxN _ _ _ _ (by simp))))
  have lM : w.heap.size < w.heap.size + 1 + 1 + 1 := by omega
  have XT : Hid (∀ y, Below (w.heap.size + 1 + 1 + 1) (((w.alloc (.cells #[.slice ca cn cc, .slice (some ⟨wb, wo, none⟩) wl wc, .int .i64 (yg : Nat), .int .i64 (tp : Nat), .int .i64 (od : Nat), .slice da dl dc, .slice (some ⟨wb, wo, none⟩) yg pc, .int .i64 0, .int .i64 (tp : Nat), .slice (some ⟨wb, wo + yg, none⟩) ol oc, .int .i64 (yg : Nat), .int .i64 (ou : Nat), .slice ta tl tc] 65)).alloc (.cells #[.int .i64 ((p : Int) + 1), .int .i64 c0, .slice ya yl yc] 69)).alloc (.cells #[.slice none 0 0, .int .i64 0, .int .i64 0, .int .i64 0, .slice none 0 0] 29)) y → y.heap[w.heap.size + 1]? = some (.cells #[.int .i64 ((p : Int) + 1), .int .i64 c0, .slice ya yl yc] 69 (0, 0))) := fun y hy => (hy.block _ (by omega)).trans ((Below.heap_alloc _ _ _ (by first | (simp; done) | (simp; omega))).trans (boxN _ _ _ _ (by simp)))
  have lT : w.heap.size + 1 < w.heap.size + 1 + 1 + 1 := by omega
  have XR : Hid (∀ y, Below (w.heap.size + 1 + 1 + 1) (((w.alloc (.cells #[.slice ca cn cc, .slice (some ⟨wb, wo, none⟩) wl wc, .int .i64 (yg : Nat), .int .i64 (tp : Nat), .int .i64 (od : Nat), .slice da dl dc, .slice (some ⟨wb, wo, none⟩) yg pc, .int .i64 0, .int .i64 (tp : Nat), .slice (some ⟨wb, wo + yg, none⟩) ol oc, .int .i64 (yg : Nat), .int .i64 (ou : Nat), .slice ta tl tc] 65)).alloc (.cells #[.int .i64 ((p : Int) + 1), .int .i64 c0, .slice ya yl yc] 69)).alloc (.cells #[.slice none 0 0, .int .i64 0, .int .i64 0, .int .i64 0, .slice none 0 0] 29)) y → y.heap[w.heap.size + 1 + 1]? = some (.cells #[.slice none 0 0, .int .i64 0, .int .i64 0, .int .i64 0, .slice none 0 0] 29 (0, 0))) := fun y hy => (hy.block _ (by omega)).trans (boxN _ _ _ _ (by simp))
  have lR : w.heap.size + 1 + 1 < w.heap.size + 1 + 1 + 1 := by omega
  go_enter Tryz.func53, Tryz.ntmps53
  go_wp2_with fail
  have BP : Hid (Below (w.heap.size + 1 + 1 + 1) (((w.alloc (.cells #[.slice ca cn cc, .slice (some ⟨wb, wo, none⟩) wl wc, .int .i64 (yg : Nat), .int .i64 (tp : Nat), .int .i64 (od : Nat), .slice da dl dc, .slice (some ⟨wb, wo, none⟩) yg pc, .int .i64 0, .int .i64 (tp : Nat), .slice (some ⟨wb, wo + yg, none⟩) ol oc, .int .i64 (yg : Nat), .int .i64 (ou : Nat), .slice ta tl tc] 65)).alloc (.cells #[.int .i64 ((p : Int) + 1), .int .i64 c0, .slice ya yl yc] 69)).alloc (.cells #[.slice none 0 0, .int .i64 0, .int .i64 0, .int .i64 0, .slice none 0 0] 29)) (((w.alloc (.cells #[.slice ca cn cc, .slice (some ⟨wb, wo, none⟩) wl wc, .int .i64 (yg : Nat), .int .i64 (tp : Nat), .int .i64 (od : Nat), .slice da dl dc, .slice (some ⟨wb, wo, none⟩) yg pc, .int .i64 0, .int .i64 (tp : Nat), .slice (some ⟨wb, wo + yg, none⟩) ol oc, .int .i64 (yg : Nat), .int .i64 (ou : Nat), .slice ta tl tc] 65)).alloc (.cells #[.int .i64 ((p : Int) + 1), .int .i64 c0, .slice ya yl yc] 69)).alloc (.cells #[.slice none 0 0, .int .i64 0, .int .i64 0, .int .i64 0, .slice none 0 0] 29))) := bR
  refine (copyImpl (yg : Nat) (tp : Nat) (od : Nat) _ _ _ _ _ _ ws cd _ (HW.out.later (B.out _ BP.out)) (HC.out.later (B.out _ BP.out)) (by omega) hd).mono ?_
  rintro e w1 ⟨a, ac, b, bc, rfl, hA, hC, ha, hb0, hab, hb⟩
  obtain ⟨ga, oa, rfl⟩ := hA.pt (by omega)
  have hga : w.heap.size + 1 + 1 + 1 ≤ ga := by have := ha _ rfl (by omega); simpa using this
  have hga2 : ga < w1.heap.size := hA.lt _ rfl (by omega)
  have LB : Hid (∀ x, b = some x → 0 < dl → w.heap.size + 1 + 1 + 1 ≤ x.block ∧ x.block < w1.heap.size ∧ x.block ≠ ga) := fun x e h0 => ⟨by have := hb0 x e h0; simpa using this, hC.lt x e h0, fun h => hab _ _ rfl e (by omega) h0 h.symm⟩
  have HA1 : Hid (Wri w1 (some ⟨ga, oa, none⟩) wl (fun j => ws.getD j 0)) := hA
  have HC1 : Hid (WriB w1 b dl (fun j => cd.getD j false)) := hC
  clear hA hC ha hb0 hab
  have hq : Below (w.heap.size + 1 + 1 + 1) (((w.alloc (.cells #[.slice ca cn cc, .slice (some ⟨wb, wo, none⟩) wl wc, .int .i64 (yg : Nat), .int .i64 (tp : Nat), .int .i64 (od : Nat), .slice da dl dc, .slice (some ⟨wb, wo, none⟩) yg pc, .int .i64 0, .int .i64 (tp : Nat), .slice (some ⟨wb, wo + yg, none⟩) ol oc, .int .i64 (yg : Nat), .int .i64 (ou : Nat), .slice ta tl tc] 65)).alloc (.cells #[.int .i64 ((p : Int) + 1), .int .i64 c0, .slice ya yl yc] 69)).alloc (.cells #[.slice none 0 0, .int .i64 0, .int .i64 0, .int .i64 0, .slice none 0 0] 29)) w1 := BP.out.trans (Below.mono hb (Nat.le_trans hz BP.out.size))
  have hzn : w.heap.size + 1 + 1 + 1 ≤ w1.heap.size := Nat.le_trans hz hq.size
  replace B := lF B hq hzn
  replace XM := lF XM hq hzn
  replace lM := Nat.lt_of_lt_of_le lM hzn
  replace XT := lF XT hq hzn
  replace lT := Nat.lt_of_lt_of_le lT hzn
  replace XR := lF XR hq hzn
  replace lR := Nat.lt_of_lt_of_le lR hzn
  clear hq BP hz
  have hz : w1.heap.size ≤ w1.heap.size := Nat.le_refl _
  clear hb
  have FA : Hid (∀ y, Below (w1.heap.size) w1 y → Wri y (some ⟨ga, oa, none⟩) wl (fun j => ws.getD j 0)) := fun y hy => HA1.out.later hy
  have FC : Hid (∀ y, Below (w1.heap.size) w1 y → WriB y b dl (fun j => cd.getD j false)) := fun y hy => HC1.out.later hy
  clear HA1 HC1
  obtain ⟨kM0, kM1, kM2, kM3, kM4, kM5, kM6, kM7, kM8, kM9, kM10, kM11, kM12⟩ := bk13 (XM.out w1 bR)
  obtain ⟨kT0, kT1, kT2⟩ := bk3 (XT.out w1 bR)
  obtain ⟨kR0, kR1, kR2, kR3, kR4⟩ := bk5 (XR.out w1 bR)
  go_wp2_with fail
  clear kM0 kM1 kM2 kM3 kM4 kM5 kM6 kM7 kM8 kM9 kM10 kM11 kM12 kT0 kT1 kT2 kR0 kR1 kR2 kR3 kR4
  have BP : Hid (Below (w1.heap.size) w1 (w1.alloc (.cells #[.slice (some ⟨ga, oa, none⟩) wl ac, .int .i64 (yg : Nat), .int .i64 (tp : Nat), .int .i64 (od : Nat), .slice b dl bc] 29))) := (bR.alloc (by first | exact hz | (simp; done) | (simp; omega) | (have := hz; simp at this ⊢; omega)) _)
  refine (placeImpl21 ((p : Int) + 1) c0 ya yl yc k _ (by omega) (by omega) (by omega)).mono ?_
  rintro e w2 ⟨rfl, hb⟩
  rw [show (p : Int) + 1 + ((hdN c0 : Nat) : Int) + (k : Nat) = (pl : Int) by omega]
  have hq : Below (w1.heap.size) w1 w2 := BP.out.trans (Below.mono hb (Nat.le_trans hz BP.out.size))
  have hzn : w1.heap.size ≤ w2.heap.size := Nat.le_trans hz hq.size
  replace B := lF B hq hzn
  replace FA := lF FA hq hzn
  replace FC := lF FC hq hzn
  replace XM := lF XM hq hzn
  replace lM := Nat.lt_of_lt_of_le lM hzn
  replace XT := lF XT hq hzn
  replace lT := Nat.lt_of_lt_of_le lT hzn
  replace XR := lF XR hq hzn
  replace lR := Nat.lt_of_lt_of_le lR hzn
  have lN : w1.heap.size < w2.heap.size := Nat.lt_of_lt_of_le (by first | (simp; done) | (simp; omega)) (Below.size hb)
  have XN : Hid (∀ y, Below w2.heap.size w2 y → y.heap[w1.heap.size]? = some (.cells #[.slice (some ⟨ga, oa, none⟩) wl ac, .int .i64 (yg : Nat), .int .i64 (tp : Nat), .int .i64 (od : Nat), .slice b dl bc] 29 (0, 0))) := fun y hy => (hy.block _ lN).trans ((Below.block hb _ (by first | (simp; done) | (simp; omega))).trans (boxN _ _ _ _ (by simp)))
  clear hq BP hz
  have hz : w2.heap.size ≤ w2.heap.size := Nat.le_refl _
  clear hb
  obtain ⟨kA1, kA2⟩ := (FA.out w2 bR).cell hil
  have hga3 : ga ≠ w1.heap.size := by omega
  obtain ⟨kM0, kM1, kM2, kM3, kM4, kM5, kM6, kM7, kM8, kM9, kM10, kM11, kM12⟩ := bk13 (XM.out w2 bR)
  obtain ⟨kT0, kT1, kT2⟩ := bk3 (XT.out w2 bR)
  obtain ⟨kR0, kR1, kR2, kR3, kR4⟩ := bk5 (XR.out w2 bR)
  obtain ⟨kN0, kN1, kN2, kN3, kN4⟩ := bk5 (XN.out w2 bR)
  go_upto_region 4 with fail
  clear kM0 kM1 kM2 kM3 kM4 kM5 kM6 kM7 kM8 kM9 kM10 kM11 kM12 kT0 kT1 kT2 kR0 kR1 kR2 kR3 kR4 kN0 kN1 kN2 kN3 kN4
  clear kA1 kA2
  have hgl : w.heap.size ≤ ga := by omega
  replace XM := lS XM lM (w2.setCell ⟨ga, oa + i, none⟩ (.int .i64 u)) (Below.heap_setCell _ _ _ _ (by simp only; omega))
  replace XT := lS XT lT (w2.setCell ⟨ga, oa + i, none⟩ (.int .i64 u)) (Below.heap_setCell _ _ _ _ (by simp only; omega))
  replace XR := lS XR lR (w2.setCell ⟨ga, oa + i, none⟩ (.int .i64 u)) (Below.heap_setCell _ _ _ _ (by simp only; omega))
  replace XN := lS XN lN (w2.setCell ⟨ga, oa + i, none⟩ (.int .i64 u)) (Below.heap_setCell _ _ _ _ (by simp only; omega))
  have hs9 : (w2.setCell ⟨ga, oa + i, none⟩ (.int .i64 u)).heap.size = w2.heap.size := World.size_setCell _ _ _
  have FA2 : Hid (∀ y, Below (w2.heap.size) (w2.setCell ⟨ga, oa + i, none⟩ (.int .i64 u)) y → Wri y (some ⟨ga, oa, none⟩) wl (fun j => (ws.set i u).getD j 0)) := fun y hy => (((FA.out w2 bR).put hil u).congr (fun j _ => (set_getD ws i u 0 (by rw [WS.out]; exact hil) j).symm)).later (hy.mono (by rw [hs9]; first | exact Nat.le_refl _ | omega))
  have FC2 : Hid (∀ y, Below (w2.heap.size) (w2.setCell ⟨ga, oa + i, none⟩ (.int .i64 u)) y → WriB y b dl (fun j => cd.getD j false)) := fun y hy => ((FC.out w2 bR).keep (D := fun k9 => k9 = ga) (Chg.set _ _ _ rfl) (fun x e h0 hd => (LB.out x e h0).2.2 hd)).later (hy.mono (by rw [hs9]; first | exact Nat.le_refl _ | omega))
  clear FA
  clear FC
  replace B : Hid (∀ y, Below (w2.heap.size) (w2.setCell ⟨ga, oa + i, none⟩ (.int .i64 u)) y → Below w.heap.size w y) := fun y hy => ((B.out w2 bR).setCell hgl _).trans (hy.mono (by first | omega | exact Nat.le_trans (B.out w2 bR).size hz))
  replace hz : w2.heap.size ≤ (w2.setCell ⟨ga, oa + i, none⟩ (.int .i64 u)).heap.size := by rw [hs9]; exact hz
  clear hs9
  generalize (w2.setCell ⟨ga, oa + i, none⟩ (.int .i64 u)) = w3 at B FA2 FC2 XM XT XR XN hz ⊢
  have hzn : w2.heap.size ≤ w3.heap.size := Nat.le_trans hz (Below.size (Below.refl (w2.heap.size) w3))
  replace B := lF B (Below.refl (w2.heap.size) w3) hzn
  replace FA2 := lF FA2 (Below.refl (w2.heap.size) w3) hzn
  replace FC2 := lF FC2 (Below.refl (w2.heap.size) w3) hzn
  replace XM := lF XM (Below.refl (w2.heap.size) w3) hzn
  replace lM := Nat.lt_of_lt_of_le lM hzn
  replace XT := lF XT (Below.refl (w2.heap.size) w3) hzn
  replace lT := Nat.lt_of_lt_of_le lT hzn
  replace XR := lF XR (Below.refl (w2.heap.size) w3) hzn
  replace lR := Nat.lt_of_lt_of_le lR hzn
  replace XN := lF XN (Below.refl (w2.heap.size) w3) hzn
  replace lN := Nat.lt_of_lt_of_le lN hzn
  clear hz
  have hz : w3.heap.size ≤ w3.heap.size := Nat.le_refl _
  obtain ⟨kM0, kM1, kM2, kM3, kM4, kM5, kM6, kM7, kM8, kM9, kM10, kM11, kM12⟩ := bk13 (XM.out w3 bR)
  obtain ⟨kT0, kT1, kT2⟩ := bk3 (XT.out w3 bR)
  obtain ⟨kR0, kR1, kR2, kR3, kR4⟩ := bk5 (XR.out w3 bR)
  obtain ⟨kN0, kN1, kN2, kN3, kN4⟩ := bk5 (XN.out w3 bR)
  go_wp2_with fail
  clear kM0 kM1 kM2 kM3 kM4 kM5 kM6 kM7 kM8 kM9 kM10 kM11 kM12 kT0 kT1 kT2 kR0 kR1 kR2 kR3 kR4 kN0 kN1 kN2 kN3 kN4
  have BP : Hid (Below (w3.heap.size) w3 w3) := bR
  refine (needsImpl ca cn cc wb wo wl wc yg tp od da dl dc pc ol oc ou ta tl tc p c0 ya yl yc k u ty _ (HT.out.later (B.out _ BP.out)) hk hz0).mono ?_
  rintro e w4 ⟨rfl, hb⟩
  have hq : Below (w3.heap.size) w3 w4 := BP.out.trans (Below.mono hb (Nat.le_trans hz BP.out.size))
  have hzn : w3.heap.size ≤ w4.heap.size := Nat.le_trans hz hq.size
  replace B := lF B hq hzn
  replace FA2 := lF FA2 hq hzn
  replace FC2 := lF FC2 hq hzn
  replace XM := lF XM hq hzn
  replace lM := Nat.lt_of_lt_of_le lM hzn
  replace XT := lF XT hq hzn
  replace lT := Nat.lt_of_lt_of_le lT hzn
  replace XR := lF XR hq hzn
  replace lR := Nat.lt_of_lt_of_le lR hzn
  replace XN := lF XN hq hzn
  replace lN := Nat.lt_of_lt_of_le lN hzn
  clear hq BP hz
  have hz : w4.heap.size ≤ w4.heap.size := Nat.le_refl _
  clear hb
  obtain ⟨nd, hnd⟩ : ∃ q, (!(inI ((p : Int) + 1) 1 yg) && (ty.getD k 0 != 1 && inI u 1 yg)) = q := ⟨_, rfl⟩
  have CP : Hid (cdPut yg i u (ty.getD k 0 != 1) cd = if nd = true then cd.set ((i - yg) / 4) true else cd) := by
    show _ = _
    unfold cdPut
    have e : (ty.getD k 0 != 1 && (decide (yg ≤ i) && inI u 1 yg)) = nd := by
      rw [← hnd]
      have e2 : decide (yg ≤ i) = !(inI ((p : Int) + 1) 1 yg) := by
        rw [Bool.eq_iff_iff, decide_eq_true_iff, Bool.not_eq_true', ← Bool.not_eq_true, inI_iff]
        omega
      rw [e2]
      cases (ty.getD k 0 != 1) <;> cases inI ((p : Int) + 1) 1 yg <;> rfl
    rw [e]
  have NY : nd = true → yg ≤ p := fun h => by
    rw [h, Bool.and_eq_true] at hnd
    rcases Nat.lt_or_ge p yg with h2 | h2
    · have : inI ((p : Int) + 1) 1 yg = true := inI_iff.2 (by omega)
      rw [this] at hnd
      simp at hnd
    · exact h2
  rw [hnd]
  clear hnd
  cases nd
  · obtain ⟨kM0, kM1, kM2, kM3, kM4, kM5, kM6, kM7, kM8, kM9, kM10, kM11, kM12⟩ := bk13 (XM.out w4 bR)
    obtain ⟨kT0, kT1, kT2⟩ := bk3 (XT.out w4 bR)
    obtain ⟨kR0, kR1, kR2, kR3, kR4⟩ := bk5 (XR.out w4 bR)
    obtain ⟨qkR0, qkR1, qkR2, qkR3, qkR4⟩ := bq5 (XR.out w4 bR)
    obtain ⟨kN0, kN1, kN2, kN3, kN4⟩ := bk5 (XN.out w4 bR)
    go_wp2_with fail
    refine bodyPost_ret (v := .agg #[.slice (some ⟨ga, oa, none⟩) wl ac, .int .i64 (yg : Nat), .int .i64 (tp : Nat), .int .i64 (od : Nat), .slice b dl bc]) ?_ rfl ?_
    · simp [results, Tryz.results53, go_sem, *]
    · clear kM0 kM1 kM2 kM3 kM4 kM5 kM6 kM7 kM8 kM9 kM10 kM11 kM12 kT0 kT1 kT2 kR0 kR1 kR2 kR3 kR4 qkR0 qkR1 qkR2 qkR3 qkR4 kN0 kN1 kN2 kN3 kN4
      refine ⟨some ⟨ga, oa, none⟩, wl, ac, b, dl, bc, rfl, by rw [List.length_set]; exact WS.out, by rw [cdPut_len]; exact CS.out, ?_, ?_, ?_, ?_, ?_, ?_⟩
      · exact (FA2.out w4 bR).keep (chg5 w4 (w.heap.size + 1 + 1) (.slice (some ⟨ga, oa, none⟩) wl ac) (.int .i64 (yg : Nat)) (.int .i64 (tp : Nat)) (.int .i64 (od : Nat)) (.slice b dl bc)) (fun x e h0 hd => by have h8 : x.block = w.heap.size + 1 + 1 := hd; obtain rfl := Option.some.inj e; simp only at h8; omega)
      · rw [CP.out, if_neg (by simp)]
        exact (FC2.out w4 bR).keep (chg5 w4 (w.heap.size + 1 + 1) (.slice (some ⟨ga, oa, none⟩) wl ac) (.int .i64 (yg : Nat)) (.int .i64 (tp : Nat)) (.int .i64 (od : Nat)) (.slice b dl bc)) (fun x e h0 hd => by have h8 : x.block = w.heap.size + 1 + 1 := hd; have := (LB.out x e h0).1; omega)
      · intro x e h0; obtain rfl := Option.some.inj e; simp only; omega
      · intro x e h0; have := (LB.out x e h0).1; omega
      · intro x y e e2 h0 h2; obtain rfl := Option.some.inj e; have := (LB.out y e2 h2).2.2; exact fun h => this h.symm
      · (repeat (refine Below.setCell ?_ (by first | omega | (simp <;> omega)) _)); exact B.out _ bR
  have ny := NY rfl
  clear NY
  obtain ⟨ci, hci⟩ : ∃ q, (i - yg) / 4 = q := ⟨_, rfl⟩
  rw [hci] at CP
  have hcl : ci < dl := by omega
  obtain ⟨gb, ob, rfl⟩ := (FC2.out w4 bR).pt (by omega)
  have hgb := LB.out _ rfl (by omega)
  simp only at hgb
  obtain ⟨hgb1, hgb2, hgb3⟩ := hgb
  have hgb4 : gb ≠ w1.heap.size := by omega
  have hgbl : w.heap.size ≤ gb := by omega
  obtain ⟨kM0, kM1, kM2, kM3, kM4, kM5, kM6, kM7, kM8, kM9, kM10, kM11, kM12⟩ := bk13 (XM.out w4 bR)
  obtain ⟨kT0, kT1, kT2⟩ := bk3 (XT.out w4 bR)
  obtain ⟨kR0, kR1, kR2, kR3, kR4⟩ := bk5 (XR.out w4 bR)
  obtain ⟨kN0, kN1, kN2, kN3, kN4⟩ := bk5 (XN.out w4 bR)
  go_wp2_with fail
  clear kM0 kM1 kM2 kM3 kM4 kM5 kM6 kM7 kM8 kM9 kM10 kM11 kM12 kT0 kT1 kT2 kR0 kR1 kR2 kR3 kR4 kN0 kN1 kN2 kN3 kN4
  have KS : Hid (∀ x, Below (w4.heap.size) w4 x → x.cell? ⟨w.heap.size, 0, none⟩ = some (.slice ca cn cc) ∧ x.cell? ⟨w.heap.size, 1, none⟩ = some (.slice (some ⟨wb, wo, none⟩) wl wc) ∧ x.cell? ⟨w.heap.size, 2, none⟩ = some (.int .i64 (yg : Nat)) ∧ x.cell? ⟨w.heap.size, 3, none⟩ = some (.int .i64 (tp : Nat)) ∧ x.cell? ⟨w.heap.size, 4, none⟩ = some (.int .i64 (od : Nat)) ∧ x.cell? ⟨w.heap.size, 5, none⟩ = some (.slice da dl dc) ∧ x.cell? ⟨w.heap.size, 6, none⟩ = some (.slice (some ⟨wb, wo, none⟩) yg pc) ∧ x.cell? ⟨w.heap.size, 7, none⟩ = some (.int .i64 0) ∧ x.cell? ⟨w.heap.size, 8, none⟩ = some (.int .i64 (tp : Nat)) ∧ x.cell? ⟨w.heap.size, 9, none⟩ = some (.slice (some ⟨wb, wo + yg, none⟩) ol oc) ∧ x.cell? ⟨w.heap.size, 10, none⟩ = some (.int .i64 (yg : Nat)) ∧ x.cell? ⟨w.heap.size, 11, none⟩ = some (.int .i64 (ou : Nat)) ∧ x.cell? ⟨w.heap.size, 12, none⟩ = some (.slice ta tl tc) ∧ x.cell? ⟨w1.heap.size, 0, none⟩ = some (.slice (some ⟨ga, oa, none⟩) wl ac) ∧ x.cell? ⟨w1.heap.size, 1, none⟩ = some (.int .i64 (yg : Nat)) ∧ x.cell? ⟨w1.heap.size, 2, none⟩ = some (.int .i64 (tp : Nat)) ∧ x.cell? ⟨w1.heap.size, 3, none⟩ = some (.int .i64 (od : Nat)) ∧ x.cell? ⟨w1.heap.size, 4, none⟩ = some (.slice (some ⟨gb, ob, none⟩) dl bc)) := fun x hx => ⟨(boxG (XM.out x hx) 0).1, (boxG (XM.out x hx) 1).1, (boxG (XM.out x hx) 2).1, (boxG (XM.out x hx) 3).1, (boxG (XM.out x hx) 4).1, (boxG (XM.out x hx) 5).1, (boxG (XM.out x hx) 6).1, (boxG (XM.out x hx) 7).1, (boxG (XM.out x hx) 8).1, (boxG (XM.out x hx) 9).1, (boxG (XM.out x hx) 10).1, (boxG (XM.out x hx) 11).1, (boxG (XM.out x hx) 12).1, (boxG (XN.out x hx) 0).1, (boxG (XN.out x hx) 1).1, (boxG (XN.out x hx) 2).1, (boxG (XN.out x hx) 3).1, (boxG (XN.out x hx) 4).1⟩
  refine wp_region_held_drew (S := fun x => x.cell? ⟨w.heap.size, 0, none⟩ = some (.slice ca cn cc) ∧ x.cell? ⟨w.heap.size, 1, none⟩ = some (.slice (some ⟨wb, wo, none⟩) wl wc) ∧ x.cell? ⟨w.heap.size, 2, none⟩ = some (.int .i64 (yg : Nat)) ∧ x.cell? ⟨w.heap.size, 3, none⟩ = some (.int .i64 (tp : Nat)) ∧ x.cell? ⟨w.heap.size, 4, none⟩ = some (.int .i64 (od : Nat)) ∧ x.cell? ⟨w.heap.size, 5, none⟩ = some (.slice da dl dc) ∧ x.cell? ⟨w.heap.size, 6, none⟩ = some (.slice (some ⟨wb, wo, none⟩) yg pc) ∧ x.cell? ⟨w.heap.size, 7, none⟩ = some (.int .i64 0) ∧ x.cell? ⟨w.heap.size, 8, none⟩ = some (.int .i64 (tp : Nat)) ∧ x.cell? ⟨w.heap.size, 9, none⟩ = some (.slice (some ⟨wb, wo + yg, none⟩) ol oc) ∧ x.cell? ⟨w.heap.size, 10, none⟩ = some (.int .i64 (yg : Nat)) ∧ x.cell? ⟨w.heap.size, 11, none⟩ = some (.int .i64 (ou : Nat)) ∧ x.cell? ⟨w.heap.size, 12, none⟩ = some (.slice ta tl tc) ∧ x.cell? ⟨w1.heap.size, 0, none⟩ = some (.slice (some ⟨ga, oa, none⟩) wl ac) ∧ x.cell? ⟨w1.heap.size, 1, none⟩ = some (.int .i64 (yg : Nat)) ∧ x.cell? ⟨w1.heap.size, 2, none⟩ = some (.int .i64 (tp : Nat)) ∧ x.cell? ⟨w1.heap.size, 3, none⟩ = some (.int .i64 (od : Nat)) ∧ x.cell? ⟨w1.heap.size, 4, none⟩ = some (.slice (some ⟨gb, ob, none⟩) dl bc)) (by kernel_rfl) ?_ (fun hHeld => ?_)
  · exact KS.out _ (bdrew bR)
  refine tV 0 (v := ?_) rfl (by kernel_rfl) (fun _ _ _ h => h) ?_ (by assumption) ?_
  rotate_left 1
  · (intro x hSx; (try dsimp only at hSx); go_simp; try with_reducible rfl)
  try simp only [Act.put, List.getElem_toArray, List.getElem_cons_zero, List.setIfInBounds_toArray, List.set_cons_zero, List.set_cons_succ]
  refine tV 1 (v := ?_) rfl (by kernel_rfl) (fun _ _ _ h => h) ?_ (by assumption) ?_
  rotate_left 1
  · (intro x hSx; (try dsimp only at hSx); go_simp; try with_reducible rfl)
  try simp only [Act.put, List.getElem_toArray, List.getElem_cons_zero, List.getElem_cons_succ, List.setIfInBounds_toArray, List.set_cons_zero, List.set_cons_succ]
  refine tV 2 (v := ?_) rfl (by kernel_rfl) (fun _ _ _ h => h) ?_ (by assumption) ?_
  rotate_left 1
  · (intro x hSx; (try dsimp only at hSx); go_simp; try with_reducible rfl)
  try simp only [Act.put, List.getElem_toArray, List.getElem_cons_zero, List.getElem_cons_succ, List.setIfInBounds_toArray, List.set_cons_zero, List.set_cons_succ]
  refine tV 3 (v := ?_) rfl (by kernel_rfl) (fun _ _ _ h => h) ?_ (by assumption) ?_
  rotate_left 1
  · (intro x hSx; (try dsimp only at hSx); go_simp; try with_reducible rfl)
  try simp only [Act.put, List.getElem_toArray, List.getElem_cons_zero, List.getElem_cons_succ, List.setIfInBounds_toArray, List.set_cons_zero, List.set_cons_succ]
  refine wpAnyH_ready (rs := [4]) (by kernel_rfl) (by simp) ?_
  refine AllReadyH.cons rfl (fun K hK => ?_) AllReadyH.nil
  go_simp
  go_at_call 88
  have BP : Hid (Below (w4.heap.size) w4 w4.drew) := (bdrew bR)
  refine (cardOfImpl ca cn cc wb wo wl wc yg tp od da dl dc pc ol oc ou ta tl tc pl (by omega) (by omega) _).mono ?_
  rintro e w5 ⟨rfl, hb⟩
  rw [show (pl - yg - 1) / 4 = ci by omega]
  have hq : Below (w4.heap.size) w4 w5 := BP.out.trans (Below.mono hb (Nat.le_trans hz BP.out.size))
  have hzn : w4.heap.size ≤ w5.heap.size := Nat.le_trans hz hq.size
  replace B := lF B hq hzn
  replace FA2 := lF FA2 hq hzn
  replace FC2 := lF FC2 hq hzn
  replace KS := lF KS hq hzn
  replace XM := lF XM hq hzn
  replace lM := Nat.lt_of_lt_of_le lM hzn
  replace XT := lF XT hq hzn
  replace lT := Nat.lt_of_lt_of_le lT hzn
  replace XR := lF XR hq hzn
  replace lR := Nat.lt_of_lt_of_le lR hzn
  replace XN := lF XN hq hzn
  replace lN := Nat.lt_of_lt_of_le lN hzn
  clear hq BP hz
  have hz : w5.heap.size ≤ w5.heap.size := Nat.le_refl _
  clear hb
  go_wp2_with fail
  refine hK.out _ _ (KS.out _ bR) (fun hHeld2 => ?_)
  clear hK K
  try simp only [Act.put, List.getElem_toArray, List.getElem_cons_zero, List.getElem_cons_succ, List.setIfInBounds_toArray, List.set_cons_zero, List.set_cons_succ]
  refine tV 5 (v := ?_) rfl (by kernel_rfl) (fun _ _ _ h => h) ?_ (by assumption) ?_
  rotate_left 1
  · (intro x hSx; (try dsimp only at hSx); go_simp; try with_reducible rfl)
  try simp only [Act.put, List.getElem_toArray, List.getElem_cons_zero, List.getElem_cons_succ, List.setIfInBounds_toArray, List.set_cons_zero, List.set_cons_succ]
  refine wpAnyH_ready (rs := [6]) (by kernel_rfl) (by simp) ?_
  refine AllReadyH.cons rfl (fun K hK => ?_) AllReadyH.nil
  obtain ⟨kC1, kC2⟩ := (FC2.out w5 bR).cell hcl
  go_simp
  clear kC1 kC2
  replace XM := lS XM lM (w5.setCell ⟨gb, ob + ci, none⟩ (.bool true)) (Below.heap_setCell _ _ _ _ (by simp only; omega))
  replace XT := lS XT lT (w5.setCell ⟨gb, ob + ci, none⟩ (.bool true)) (Below.heap_setCell _ _ _ _ (by simp only; omega))
  replace XR := lS XR lR (w5.setCell ⟨gb, ob + ci, none⟩ (.bool true)) (Below.heap_setCell _ _ _ _ (by simp only; omega))
  replace XN := lS XN lN (w5.setCell ⟨gb, ob + ci, none⟩ (.bool true)) (Below.heap_setCell _ _ _ _ (by simp only; omega))
  have hs9 : (w5.setCell ⟨gb, ob + ci, none⟩ (.bool true)).heap.size = w5.heap.size := World.size_setCell _ _ _
  have FA3 : Hid (∀ y, Below (w5.heap.size) (w5.setCell ⟨gb, ob + ci, none⟩ (.bool true)) y → Wri y (some ⟨ga, oa, none⟩) wl (fun j => (ws.set i u).getD j 0)) := fun y hy => ((FA2.out w5 bR).keep (D := fun k9 => k9 = gb) (Chg.set _ _ _ rfl) (fun x e h0 hd => by have h8 : x.block = gb := hd; obtain rfl := Option.some.inj e; exact hgb3 h8.symm)).later (hy.mono (by rw [hs9]; first | exact Nat.le_refl _ | omega))
  have FC3 : Hid (∀ y, Below (w5.heap.size) (w5.setCell ⟨gb, ob + ci, none⟩ (.bool true)) y → WriB y (some ⟨gb, ob, none⟩) dl (fun j => (cd.set ci true).getD j false)) := fun y hy => (((FC2.out w5 bR).put hcl true).congr (fun j _ => (set_getD cd ci true false (by rw [CS.out]; exact hcl) j).symm)).later (hy.mono (by rw [hs9]; first | exact Nat.le_refl _ | omega))
  clear FA2
  clear FC2
  clear KS
  replace B : Hid (∀ y, Below (w5.heap.size) (w5.setCell ⟨gb, ob + ci, none⟩ (.bool true)) y → Below w.heap.size w y) := fun y hy => ((B.out w5 bR).setCell hgbl _).trans (hy.mono (by first | omega | exact Nat.le_trans (B.out w5 bR).size hz))
  replace hz : w5.heap.size ≤ (w5.setCell ⟨gb, ob + ci, none⟩ (.bool true)).heap.size := by rw [hs9]; exact hz
  clear hs9
  have KS : Hid (∀ x, Below (w5.heap.size) (w5.setCell ⟨gb, ob + ci, none⟩ (.bool true)) x → x.cell? ⟨w.heap.size, 0, none⟩ = some (.slice ca cn cc) ∧ x.cell? ⟨w.heap.size, 1, none⟩ = some (.slice (some ⟨wb, wo, none⟩) wl wc) ∧ x.cell? ⟨w.heap.size, 2, none⟩ = some (.int .i64 (yg : Nat)) ∧ x.cell? ⟨w.heap.size, 3, none⟩ = some (.int .i64 (tp : Nat)) ∧ x.cell? ⟨w.heap.size, 4, none⟩ = some (.int .i64 (od : Nat)) ∧ x.cell? ⟨w.heap.size, 5, none⟩ = some (.slice da dl dc) ∧ x.cell? ⟨w.heap.size, 6, none⟩ = some (.slice (some ⟨wb, wo, none⟩) yg pc) ∧ x.cell? ⟨w.heap.size, 7, none⟩ = some (.int .i64 0) ∧ x.cell? ⟨w.heap.size, 8, none⟩ = some (.int .i64 (tp : Nat)) ∧ x.cell? ⟨w.heap.size, 9, none⟩ = some (.slice (some ⟨wb, wo + yg, none⟩) ol oc) ∧ x.cell? ⟨w.heap.size, 10, none⟩ = some (.int .i64 (yg : Nat)) ∧ x.cell? ⟨w.heap.size, 11, none⟩ = some (.int .i64 (ou : Nat)) ∧ x.cell? ⟨w.heap.size, 12, none⟩ = some (.slice ta tl tc) ∧ x.cell? ⟨w1.heap.size, 0, none⟩ = some (.slice (some ⟨ga, oa, none⟩) wl ac) ∧ x.cell? ⟨w1.heap.size, 1, none⟩ = some (.int .i64 (yg : Nat)) ∧ x.cell? ⟨w1.heap.size, 2, none⟩ = some (.int .i64 (tp : Nat)) ∧ x.cell? ⟨w1.heap.size, 3, none⟩ = some (.int .i64 (od : Nat)) ∧ x.cell? ⟨w1.heap.size, 4, none⟩ = some (.slice (some ⟨gb, ob, none⟩) dl bc)) := fun x hx => ⟨(boxG (XM.out x hx) 0).1, (boxG (XM.out x hx) 1).1, (boxG (XM.out x hx) 2).1, (boxG (XM.out x hx) 3).1, (boxG (XM.out x hx) 4).1, (boxG (XM.out x hx) 5).1, (boxG (XM.out x hx) 6).1, (boxG (XM.out x hx) 7).1, (boxG (XM.out x hx) 8).1, (boxG (XM.out x hx) 9).1, (boxG (XM.out x hx) 10).1, (boxG (XM.out x hx) 11).1, (boxG (XM.out x hx) 12).1, (boxG (XN.out x hx) 0).1, (boxG (XN.out x hx) 1).1, (boxG (XN.out x hx) 2).1, (boxG (XN.out x hx) 3).1, (boxG (XN.out x hx) 4).1⟩
  refine hK.out _ _ (KS.out _ bR) (fun hHeld3 => ?_)
  clear hK K
  try simp only [Act.put, List.getElem_toArray, List.getElem_cons_zero, List.getElem_cons_succ, List.setIfInBounds_toArray, List.set_cons_zero, List.set_cons_succ]
  refine wpAnyH_done (by kernel_rfl) ?_ _
  clear hHeld hHeld2 hHeld3
  clear KS
  generalize (w5.setCell ⟨gb, ob + ci, none⟩ (.bool true)) = w6 at B FA3 FC3 XM XT XR XN hz ⊢
  have hzn : w5.heap.size ≤ w6.heap.size := Nat.le_trans hz (Below.size (Below.refl (w5.heap.size) w6))
  replace B := lF B (Below.refl (w5.heap.size) w6) hzn
  replace FA3 := lF FA3 (Below.refl (w5.heap.size) w6) hzn
  replace FC3 := lF FC3 (Below.refl (w5.heap.size) w6) hzn
  replace XM := lF XM (Below.refl (w5.heap.size) w6) hzn
  replace lM := Nat.lt_of_lt_of_le lM hzn
  replace XT := lF XT (Below.refl (w5.heap.size) w6) hzn
  replace lT := Nat.lt_of_lt_of_le lT hzn
  replace XR := lF XR (Below.refl (w5.heap.size) w6) hzn
  replace lR := Nat.lt_of_lt_of_le lR hzn
  replace XN := lF XN (Below.refl (w5.heap.size) w6) hzn
  replace lN := Nat.lt_of_lt_of_le lN hzn
  clear hz
  have hz : w6.heap.size ≤ w6.heap.size := Nat.le_refl _
  have FA2 := FA3
  obtain ⟨kM0, kM1, kM2, kM3, kM4, kM5, kM6, kM7, kM8, kM9, kM10, kM11, kM12⟩ := bk13 (XM.out w6 bR)
  obtain ⟨kT0, kT1, kT2⟩ := bk3 (XT.out w6 bR)
  obtain ⟨kR0, kR1, kR2, kR3, kR4⟩ := bk5 (XR.out w6 bR)
  obtain ⟨qkR0, qkR1, qkR2, qkR3, qkR4⟩ := bq5 (XR.out w6 bR)
  obtain ⟨kN0, kN1, kN2, kN3, kN4⟩ := bk5 (XN.out w6 bR)
  go_wp2_with fail
  refine bodyPost_ret (v := .agg #[.slice (some ⟨ga, oa, none⟩) wl ac, .int .i64 (yg : Nat), .int .i64 (tp : Nat), .int .i64 (od : Nat), .slice (some ⟨gb, ob, none⟩) dl bc]) ?_ rfl ?_
  · simp [results, Tryz.results53, go_sem, *]
  · clear kM0 kM1 kM2 kM3 kM4 kM5 kM6 kM7 kM8 kM9 kM10 kM11 kM12 kT0 kT1 kT2 kR0 kR1 kR2 kR3 kR4 qkR0 qkR1 qkR2 qkR3 qkR4 kN0 kN1 kN2 kN3 kN4
    refine ⟨some ⟨ga, oa, none⟩, wl, ac, some ⟨gb, ob, none⟩, dl, bc, rfl, by rw [List.length_set]; exact WS.out, by rw [cdPut_len]; exact CS.out, ?_, ?_, ?_, ?_, ?_, ?_⟩
    · exact (FA2.out w6 bR).keep (chg5 w6 (w.heap.size + 1 + 1) (.slice (some ⟨ga, oa, none⟩) wl ac) (.int .i64 (yg : Nat)) (.int .i64 (tp : Nat)) (.int .i64 (od : Nat)) (.slice (some ⟨gb, ob, none⟩) dl bc)) (fun x e h0 hd => by have h8 : x.block = w.heap.size + 1 + 1 := hd; obtain rfl := Option.some.inj e; simp only at h8; omega)
    · rw [CP.out, if_pos (by simp)]
      exact (FC3.out w6 bR).keep (chg5 w6 (w.heap.size + 1 + 1) (.slice (some ⟨ga, oa, none⟩) wl ac) (.int .i64 (yg : Nat)) (.int .i64 (tp : Nat)) (.int .i64 (od : Nat)) (.slice (some ⟨gb, ob, none⟩) dl bc)) (fun x e h0 hd => by have h8 : x.block = w.heap.size + 1 + 1 := hd; have := (LB.out x e h0).1; omega)
    · intro x e h0; obtain rfl := Option.some.inj e; simp only; omega
    · intro x e h0; have := (LB.out x e h0).1; omega
    · intro x y e e2 h0 h2; obtain rfl := Option.some.inj e; have := (LB.out y e2 h2).2.2; exact fun h => this h.symm
    · (repeat (refine Below.setCell ?_ (by first | omega | (simp <;> omega)) _)); exact B.out _ bR

set_option maxRecDepth 100000 in
set_option maxHeartbeats 8000000 in
theorem mputImpl (ca : Option Addr) (cn cc : Nat) (wa : Option Addr) (wl wc : Nat) (yg tp od : Int) (da : Option Addr) (dl dc : Nat) (v k u : Int) (ws : List Int) (cd : List Bool) (L : List Cl) (w : World) {D E G G2 : Nat → Prop} (h : ClsAt D E w ca cn L) (hw : IntsAt G w wa wl ws) (hc : SlAt boolR G2 w da dl cd) (hyg : i64B yg) (hl : wl ≤ 1048576) (hd : dl ≤ 1048576) (hcap : wl ≤ wc) (hv : i64B v) (hk : i64B k) (hu : i64B u) : Calls Tryz.prog 18 #[.slice ca cn cc, .agg #[.slice wa wl wc, .int .i64 yg, .int .i64 tp, .int .i64 od, .slice da dl dc], .int .i64 v, .int .i64 k, .int .i64 u] w (AnsM w (putR L (ws, yg, tp, od, cd) v k u).1 (.bool (putR L (ws, yg, tp, od, cd) v k u).2)) := by
  have H : Hid (ClsAt D E w ca cn L) := h
  have HW : Hid (IntsAt G w wa wl ws) := hw
  have HC : Hid (SlAt boolR G2 w da dl cd) := hc
  have WS : Hid (ws.length = wl) := hw.size
  have CS : Hid (cd.length = dl) := hc.size
  have hk1 := hk.1
  have hk2 := hk.2
  clear h hw hc
  have hz : w.heap.size + 1 + 1 ≤ ((w.alloc (.cells #[.slice wa wl wc, .int .i64 yg, .int .i64 tp, .int .i64 od, .slice da dl dc] 29)).alloc (.cells #[.slice none 0 0, .int .i64 0, .int .i64 0, .int .i64 0, .slice none 0 0] 29)).heap.size := by simp
  have B : Hid (∀ y, Below (w.heap.size + 1 + 1) ((w.alloc (.cells #[.slice wa wl wc, .int .i64 yg, .int .i64 tp, .int .i64 od, .slice da dl dc] 29)).alloc (.cells #[.slice none 0 0, .int .i64 0, .int .i64 0, .int .i64 0, .slice none 0 0] 29)) y → Below w.heap.size w y) := fun y hy => ((bR.alloc (by first | exact Nat.le_refl _ | (simp; done) | (simp; omega)) _).alloc (by first | exact Nat.le_refl _ | (simp; done) | (simp; omega)) _).trans (hy.mono (by omega))
  have XM : Hid (∀ y, Below (w.heap.size + 1 + 1) ((w.alloc (.cells #[.slice wa wl wc, .int .i64 yg, .int .i64 tp, .int .i64 od, .slice da dl dc] 29)).alloc (.cells #[.slice none 0 0, .int .i64 0, .int .i64 0, .int .i64 0, .slice none 0 0] 29)) y → y.heap[w.heap.size]? = some (.cells #[.slice wa wl wc, .int .i64 yg, .int .i64 tp, .int .i64 od, .slice da dl dc] 29 (0, 0))) := fun y hy => (hy.block _ (by omega)).trans ((Below.heap_alloc _ _ _ (by first | (simp; done) | (simp; omega))).trans (boxN _ _ _ _ (by simp)))
  have lM : w.heap.size < w.heap.size + 1 + 1 := by omega
  have XR : Hid (∀ y, Below (w.heap.size + 1 + 1) ((w.alloc (.cells #[.slice wa wl wc, .int .i64 yg, .int .i64 tp, .int .i64 od, .slice da dl dc] 29)).alloc (.cells #[.slice none 0 0, .int .i64 0, .int .i64 0, .int .i64 0, .slice none 0 0] 29)) y → y.heap[w.heap.size + 1]? = some (.cells #[.slice none 0 0, .int .i64 0, .int .i64 0, .int .i64 0, .slice none 0 0] 29 (0, 0))) := fun y hy => (hy.block _ (by omega)).trans (boxN _ _ _ _ (by simp))
  have lR : w.heap.size + 1 < w.heap.size + 1 + 1 := by omega
  go_enter Tryz.func18, Tryz.ntmps18
  go_wp2_with fail
  have BP : Hid (Below (w.heap.size + 1 + 1) ((w.alloc (.cells #[.slice wa wl wc, .int .i64 yg, .int .i64 tp, .int .i64 od, .slice da dl dc] 29)).alloc (.cells #[.slice none 0 0, .int .i64 0, .int .i64 0, .int .i64 0, .slice none 0 0] 29)) ((w.alloc (.cells #[.slice wa wl wc, .int .i64 yg, .int .i64 tp, .int .i64 od, .slice da dl dc] 29)).alloc (.cells #[.slice none 0 0, .int .i64 0, .int .i64 0, .int .i64 0, .slice none 0 0] 29))) := bR
  refine (holdImpl _ _ _ _ _ _ yg tp od _ _ _ v k ws cd L _ (H.out.later (B.out _ BP.out)) (HW.out.later (B.out _ BP.out)) (HC.out.later (B.out _ BP.out)) hyg hl hd hcap hv hk).mono ?_
  rintro e w1 ⟨hno, hyes, hb⟩
  have hq : Below (w.heap.size + 1 + 1) ((w.alloc (.cells #[.slice wa wl wc, .int .i64 yg, .int .i64 tp, .int .i64 od, .slice da dl dc] 29)).alloc (.cells #[.slice none 0 0, .int .i64 0, .int .i64 0, .int .i64 0, .slice none 0 0] 29)) w1 := BP.out.trans (Below.mono hb (Nat.le_trans hz BP.out.size))
  have hzn : w.heap.size + 1 + 1 ≤ w1.heap.size := Nat.le_trans hz hq.size
  replace B := lF B hq hzn
  replace XM := lF XM hq hzn
  replace lM := Nat.lt_of_lt_of_le lM hzn
  replace XR := lF XR hq hzn
  replace lR := Nat.lt_of_lt_of_le lR hzn
  clear hq BP hz
  have hz : w1.heap.size ≤ w1.heap.size := Nat.le_refl _
  clear hb
  obtain ⟨gb, hgb⟩ : ∃ gb, getB L (ws, yg, tp, od, cd) v k = gb := ⟨_, rfl⟩
  have GB : Hid (getB L (ws, yg, tp, od, cd) v k = gb) := hgb
  rw [hgb] at hno hyes
  cases gb
  · obtain ⟨x0, y0, z0, x1, y1, z1, x2, x3, x4, x5, y5, z5, x6, y6, z6, x7, x8, x9, y9, z9, x10, x11, x12, y12, z12, u0, u1, u2, u3, u4, rfl⟩ := hno rfl
    clear hno hyes hgb
    obtain ⟨kM0, kM1, kM2, kM3, kM4⟩ := bk5 (XM.out w1 bR)
    obtain ⟨kR0, kR1, kR2, kR3, kR4⟩ := bk5 (XR.out w1 bR)
    go_upto_region 2 with fail
    clear kM0 kM1 kM2 kM3 kM4 kR0 kR1 kR2 kR3 kR4
    have BP : Hid (Below (w1.heap.size) w1 (w1.alloc (.cells #[.slice x0 y0 z0, .slice x1 y1 z1, .int .i64 x2, .int .i64 x3, .int .i64 x4, .slice x5 y5 z5, .slice x6 y6 z6, .int .i64 x7, .int .i64 x8, .slice x9 y9 z9, .int .i64 x10, .int .i64 x11, .slice x12 y12 z12] 65))) := (bR.alloc (by first | exact hz | (simp; done) | (simp; omega) | (have := hz; simp at this ⊢; omega)) _)
    replace B := lA B BP
    replace XM := lA XM BP
    replace lM := lL lM
    replace XR := lA XR BP
    replace lR := lL lR
    have XA : Hid (∀ y, Below (w1.heap.size + 1) (w1.alloc (.cells #[.slice x0 y0 z0, .slice x1 y1 z1, .int .i64 x2, .int .i64 x3, .int .i64 x4, .slice x5 y5 z5, .slice x6 y6 z6, .int .i64 x7, .int .i64 x8, .slice x9 y9 z9, .int .i64 x10, .int .i64 x11, .slice x12 y12 z12] 65)) y → y.heap[w1.heap.size]? = some (.cells #[.slice x0 y0 z0, .slice x1 y1 z1, .int .i64 x2, .int .i64 x3, .int .i64 x4, .slice x5 y5 z5, .slice x6 y6 z6, .int .i64 x7, .int .i64 x8, .slice x9 y9 z9, .int .i64 x10, .int .i64 x11, .slice x12 y12 z12] 65 (0, 0))) := fun y hy => (hy.block _ (by omega)).trans (boxN _ _ _ _ (by simp))
    have lA : w1.heap.size < w1.heap.size + 1 := by omega
    replace hz : w1.heap.size + 1 ≤ ((w1.alloc (.cells #[.slice x0 y0 z0, .slice x1 y1 z1, .int .i64 x2, .int .i64 x3, .int .i64 x4, .slice x5 y5 z5, .slice x6 y6 z6, .int .i64 x7, .int .i64 x8, .slice x9 y9 z9, .int .i64 x10, .int .i64 x11, .slice x12 y12 z12] 65))).heap.size := by simp
    clear BP
    have BP : Hid (Below (w1.heap.size + 1) (w1.alloc (.cells #[.slice x0 y0 z0, .slice x1 y1 z1, .int .i64 x2, .int .i64 x3, .int .i64 x4, .slice x5 y5 z5, .slice x6 y6 z6, .int .i64 x7, .int .i64 x8, .slice x9 y9 z9, .int .i64 x10, .int .i64 x11, .slice x12 y12 z12] 65)) ((w1.alloc (.cells #[.slice x0 y0 z0, .slice x1 y1 z1, .int .i64 x2, .int .i64 x3, .int .i64 x4, .slice x5 y5 z5, .slice x6 y6 z6, .int .i64 x7, .int .i64 x8, .slice x9 y9 z9, .int .i64 x10, .int .i64 x11, .slice x12 y12 z12] 65)).alloc (.cells #[.int .i64 u0, .int .i64 u1, .slice u2 u3 u4] 69))) := (bR.alloc (by first | exact hz | (simp; done) | (simp; omega) | (have := hz; simp at this ⊢; omega)) _)
    replace B := Proofs.YtjbmcdekhhbiaaaGreat.lA B BP
    replace XM := Proofs.YtjbmcdekhhbiaaaGreat.lA XM BP
    replace lM := lL lM
    replace XR := Proofs.YtjbmcdekhhbiaaaGreat.lA XR BP
    replace lR := lL lR
    replace XA := Proofs.YtjbmcdekhhbiaaaGreat.lA XA BP
    replace lA := lL lA
    have XT : Hid (∀ y, Below (w1.heap.size + 1 + 1) ((w1.alloc (.cells #[.slice x0 y0 z0, .slice x1 y1 z1, .int .i64 x2, .int .i64 x3, .int .i64 x4, .slice x5 y5 z5, .slice x6 y6 z6, .int .i64 x7, .int .i64 x8, .slice x9 y9 z9, .int .i64 x10, .int .i64 x11, .slice x12 y12 z12] 65)).alloc (.cells #[.int .i64 u0, .int .i64 u1, .slice u2 u3 u4] 69)) y → y.heap[w1.heap.size + 1]? = some (.cells #[.int .i64 u0, .int .i64 u1, .slice u2 u3 u4] 69 (0, 0))) := fun y hy => (hy.block _ (by omega)).trans (boxN _ _ _ _ (by simp))
    have lT : w1.heap.size + 1 < w1.heap.size + 1 + 1 := by omega
    replace hz : w1.heap.size + 1 + 1 ≤ (((w1.alloc (.cells #[.slice x0 y0 z0, .slice x1 y1 z1, .int .i64 x2, .int .i64 x3, .int .i64 x4, .slice x5 y5 z5, .slice x6 y6 z6, .int .i64 x7, .int .i64 x8, .slice x9 y9 z9, .int .i64 x10, .int .i64 x11, .slice x12 y12 z12] 65)).alloc (.cells #[.int .i64 u0, .int .i64 u1, .slice u2 u3 u4] 69))).heap.size := by simp
    clear BP
    generalize ((w1.alloc (.cells #[.slice x0 y0 z0, .slice x1 y1 z1, .int .i64 x2, .int .i64 x3, .int .i64 x4, .slice x5 y5 z5, .slice x6 y6 z6, .int .i64 x7, .int .i64 x8, .slice x9 y9 z9, .int .i64 x10, .int .i64 x11, .slice x12 y12 z12] 65)).alloc (.cells #[.int .i64 u0, .int .i64 u1, .slice u2 u3 u4] 69)) = w2 at B XM XR XA XT hz ⊢
    have hzn : w1.heap.size + 1 + 1 ≤ w2.heap.size := Nat.le_trans hz (Below.size (Below.refl (w1.heap.size + 1 + 1) w2))
    replace B := lF B (Below.refl (w1.heap.size + 1 + 1) w2) hzn
    replace XM := lF XM (Below.refl (w1.heap.size + 1 + 1) w2) hzn
    replace lM := Nat.lt_of_lt_of_le lM hzn
    replace XR := lF XR (Below.refl (w1.heap.size + 1 + 1) w2) hzn
    replace lR := Nat.lt_of_lt_of_le lR hzn
    replace XA := lF XA (Below.refl (w1.heap.size + 1 + 1) w2) hzn
    replace lA := Nat.lt_of_lt_of_le lA hzn
    replace XT := lF XT (Below.refl (w1.heap.size + 1 + 1) w2) hzn
    replace lT := Nat.lt_of_lt_of_le lT hzn
    clear hz
    have hz : w2.heap.size ≤ w2.heap.size := Nat.le_refl _
    go_wp2_with fail
    have KS : Hid (∀ x, Below (w2.heap.size) w2 x → True) := fun x hx => trivial
    refine wp_region_held_drew (S := fun x => True) (by kernel_rfl) ?_ (fun hHeld => ?_)
    · exact KS.out _ (bdrew bR)
    refine tV 0 (v := ?_) rfl (by kernel_rfl) (fun _ _ _ h => h) ?_ (by assumption) ?_
    rotate_left 1
    · (intro x hSx; (try dsimp only at hSx); go_simp; try with_reducible rfl)
    try simp only [Act.put, List.getElem_toArray, List.getElem_cons_zero, List.setIfInBounds_toArray, List.set_cons_zero, List.set_cons_succ]
    refine tV 1 (v := ?_) rfl (by kernel_rfl) (fun _ _ _ h => h) ?_ (by assumption) ?_
    rotate_left 1
    · (intro x hSx; (try dsimp only at hSx); go_simp; try with_reducible rfl)
    try simp only [Act.put, List.getElem_toArray, List.getElem_cons_zero, List.getElem_cons_succ, List.setIfInBounds_toArray, List.set_cons_zero, List.set_cons_succ]
    refine tV 2 (v := ?_) rfl (by kernel_rfl) (fun _ _ _ h => h) ?_ (by assumption) ?_
    rotate_left 1
    · (intro x hSx; (try dsimp only at hSx); go_simp; try with_reducible rfl)
    try simp only [Act.put, List.getElem_toArray, List.getElem_cons_zero, List.getElem_cons_succ, List.setIfInBounds_toArray, List.set_cons_zero, List.set_cons_succ]
    refine tU 3 rfl (by kernel_rfl) (fun _ _ _ h => h) (by assumption) ?_
    refine tU 4 rfl (by kernel_rfl) (fun _ _ _ h => h) (by assumption) ?_
    refine tU 5 rfl (by kernel_rfl) (fun _ _ _ h => h) (by assumption) ?_
    refine tU 6 rfl (by kernel_rfl) (fun _ _ _ h => h) (by assumption) ?_
    refine tU 7 rfl (by kernel_rfl) (fun _ _ _ h => h) (by assumption) ?_
    refine tU 8 rfl (by kernel_rfl) (fun _ _ _ h => h) (by assumption) ?_
    refine tU 9 rfl (by kernel_rfl) (fun _ _ _ h => h) (by assumption) ?_
    refine tU 10 rfl (by kernel_rfl) (fun _ _ _ h => h) (by assumption) ?_
    refine tU 11 rfl (by kernel_rfl) (fun _ _ _ h => h) (by assumption) ?_
    try simp only [Act.put, List.getElem_toArray, List.getElem_cons_zero, List.getElem_cons_succ, List.setIfInBounds_toArray, List.set_cons_zero, List.set_cons_succ]
    refine tV 12 (v := ?_) rfl (by kernel_rfl) (fun _ _ _ h => h) ?_ (by assumption) ?_
    rotate_left 1
    · (intro x hSx; (try dsimp only at hSx); go_simp; try with_reducible rfl)
    try simp only [Act.put, List.getElem_toArray, List.getElem_cons_zero, List.getElem_cons_succ, List.setIfInBounds_toArray, List.set_cons_zero, List.set_cons_succ]
    refine wpAnyH_done (by kernel_rfl) ?_ _
    clear hHeld
    obtain ⟨kM0, kM1, kM2, kM3, kM4⟩ := bk5 (XM.out w2 bR)
    obtain ⟨kR0, kR1, kR2, kR3, kR4⟩ := bk5 (XR.out w2 bR)
    obtain ⟨qkR0, qkR1, qkR2, qkR3, qkR4⟩ := bq5 (XR.out w2 bR)
    obtain ⟨kA0, kA1, kA2, kA3, kA4, kA5, kA6, kA7, kA8, kA9, kA10, kA11, kA12⟩ := bk13 (XA.out w2 bR)
    obtain ⟨kT0, kT1, kT2⟩ := bk3 (XT.out w2 bR)
    go_wp2_with fail
    refine bodyPost_ret (v := .tuple #[.agg #[.slice none 0 0, .int .i64 0, .int .i64 0, .int .i64 0, .slice none 0 0], .bool false]) ?_ rfl ?_
    · simp [results, Tryz.results18, go_sem, *]
    · rw [putR_no GB.out]
      exact ansM_zero _ (by first | ((repeat (refine Below.setCell ?_ (by first | omega | (simp <;> omega)) _)); exact B.out _ bR) | (refine bdrew ?_; (repeat (refine Below.setCell ?_ (by first | omega | (simp <;> omega)) _)); exact B.out _ bR))
  obtain ⟨wb, wo, yn, tn, on, ou, ta, tl, tc, c0, ty, ya, yl, yc, rfl, rfl, rfl, rfl, hou, hm, hia, rfl, htl, hrow, hea, hy⟩ := hyes rfl
  clear hno hyes
  have GT := hgb
  rw [getB_at hm hia, hea] at hgb
  obtain ⟨p, c1, ty1, ea, ev, tk, hc0, hty, hfit, hsz, hcl⟩ := atT_ok hm hia
  have ea2 := ea
  rw [hea] at ea
  obtain ⟨e1, e2, e3⟩ : v = (p : Int) + 1 ∧ c0 = c1 ∧ ty = ty1 := by simpa using ea
  subst e2 e3 e1
  have hr := inI_iff.1 hgb
  have hyz := hy.size
  have hcards := (memB_ok hm).1.cards
  have htz := tk.tz
  have hpt0 := tk.pt
  simp only [tSz] at hpt0 htz
  simp only [WS.out] at hfit
  simp only [hyz] at hr hpt0 htz
  obtain ⟨kn, rfl⟩ : ∃ kn : Nat, k = kn := ⟨k.toNat, by omega⟩
  have hkn : kn < yl := by omega
  have hz0 := htz kn hkn
  have hpt : p + hdN c0 + yl ≤ yn ∨ yn ≤ p := by omega
  rw [hyz] at hfit
  simp only [WS.out, CS.out] at hcards
  have m5 : wl ≤ yn + dl * 4 := by omega
  have hwl9 : wl ≤ 1000 := by have q1 := (memB_ok hm).1.od; have q2 := (memB_ok hm).1.yg; simp only [WS.out] at q1 q2; omega
  have INC0 : Hid (Inc (thT L (ws, (yn : Int), (tn : Int), (on : Int), cd))) := (thT_ok (memB_ok hm).1).2.inc
  have TL0 : (thT L (ws, (yn : Int), (tn : Int), (on : Int), cd)).length ≤ wl := by have := thT_len (memB_ok hm).1; simp only [WS.out] at this; exact this
  have htl9 : tl ≤ 1000 := by omega
  have ROW : Hid (SlAt thR _ w1 ta tl (thT L (ws, (yn : Int), (tn : Int), (on : Int), cd))) := hrow.sl htl (by omega)
  have HY : Hid (IntsAt _ w1 ya yl ty) := hy
  have PI : Hid (plc (atT (thT L (ws, (yn : Int), (tn : Int), (on : Int), cd)) ((p : Int) + 1)) (kn : Int).toNat = p + hdN c0 + kn) := by
    show _ = _
    rw [ea2]
    simp only [plc, show ((p : Int) + 1).toNat - 1 = p by omega, Int.toNat_natCast]
  have TY : Hid ((atT (thT L (ws, (yn : Int), (tn : Int), (on : Int), cd)) ((p : Int) + 1)).2.2.getD (kn : Int).toNat 0 = ty.getD kn 0) := by show _ = _; rw [ea2]; simp only [Int.toNat_natCast]
  obtain ⟨T, hT⟩ : ∃ T, thT L (ws, (yn : Int), (tn : Int), (on : Int), cd) = T := ⟨_, rfl⟩
  have HT : Hid (thT L (ws, (yn : Int), (tn : Int), (on : Int), cd) = T) := hT
  rw [hT] at ROW INC0
  obtain ⟨yb, yo, rfl, _, hct⟩ := HY.out.one kn hkn
  have cT := hct kn hkn
  obtain ⟨t1, ht1⟩ : ∃ t1, ty.getD kn 0 = t1 := ⟨_, rfl⟩
  rw [ht1] at cT hz0
  have HT1 : Hid (ty.getD kn 0 = t1) := ht1
  have hyb := World.block_lt_of_cell? w1 _ cT
  simp only at hyb
  clear hgb hea ea ea2 hia hm hrow hy hty hsz hcl hc0 hou hcards htz hpt0 tk TL0 hT hct htl ht1
  obtain ⟨kM0, kM1, kM2, kM3, kM4⟩ := bk5 (XM.out w1 bR)
  obtain ⟨kR0, kR1, kR2, kR3, kR4⟩ := bk5 (XR.out w1 bR)
  go_upto_region 2 with fail
  clear kM0 kM1 kM2 kM3 kM4 kR0 kR1 kR2 kR3 kR4
  clear hr
  have KT : Hid (∀ y, Below (w1.heap.size) w1 y → y.cell? ⟨yb, yo + kn, none⟩ = some (.int .i64 t1)) := fun y hy => (hy.cell (p := ⟨yb, yo + kn, none⟩) hyb).trans cT
  clear cT
  have TT : Hid (∀ y, Below (w1.heap.size) w1 y → SlAt thR _ y ta tl T) := fun y hy => ROW.out.later hy
  have YY : Hid (∀ y, Below (w1.heap.size) w1 y → IntsAt _ y (some ⟨yb, yo, none⟩) yl ty) := fun y hy => HY.out.later hy
  clear ROW HY
  have BP : Hid (Below (w1.heap.size) w1 (w1.alloc (.cells #[.slice ca cn cc, .slice (some ⟨wb, wo, none⟩) wl wc, .int .i64 (yn : Nat), .int .i64 (tn : Nat), .int .i64 (on : Nat), .slice da dl dc, .slice (some ⟨wb, wo, none⟩) yn wc, .int .i64 0, .int .i64 (tn : Nat), .slice (some ⟨wb, wo + yn, none⟩) (wl - yn) (wc - yn), .int .i64 (yn : Nat), .int .i64 (ou : Nat), .slice ta tl tc] 65))) := (bR.alloc (by first | exact hz | (simp; done) | (simp; omega) | (have := hz; simp at this ⊢; omega)) _)
  replace B := lA B BP
  replace KT := lA KT BP
  replace TT := lA TT BP
  replace YY := lA YY BP
  replace XM := lA XM BP
  replace lM := lL lM
  replace XR := lA XR BP
  replace lR := lL lR
  have XA : Hid (∀ y, Below (w1.heap.size + 1) (w1.alloc (.cells #[.slice ca cn cc, .slice (some ⟨wb, wo, none⟩) wl wc, .int .i64 (yn : Nat), .int .i64 (tn : Nat), .int .i64 (on : Nat), .slice da dl dc, .slice (some ⟨wb, wo, none⟩) yn wc, .int .i64 0, .int .i64 (tn : Nat), .slice (some ⟨wb, wo + yn, none⟩) (wl - yn) (wc - yn), .int .i64 (yn : Nat), .int .i64 (ou : Nat), .slice ta tl tc] 65)) y → y.heap[w1.heap.size]? = some (.cells #[.slice ca cn cc, .slice (some ⟨wb, wo, none⟩) wl wc, .int .i64 (yn : Nat), .int .i64 (tn : Nat), .int .i64 (on : Nat), .slice da dl dc, .slice (some ⟨wb, wo, none⟩) yn wc, .int .i64 0, .int .i64 (tn : Nat), .slice (some ⟨wb, wo + yn, none⟩) (wl - yn) (wc - yn), .int .i64 (yn : Nat), .int .i64 (ou : Nat), .slice ta tl tc] 65 (0, 0))) := fun y hy => (hy.block _ (by omega)).trans (boxN _ _ _ _ (by simp))
  have lA : w1.heap.size < w1.heap.size + 1 := by omega
  replace hz : w1.heap.size + 1 ≤ ((w1.alloc (.cells #[.slice ca cn cc, .slice (some ⟨wb, wo, none⟩) wl wc, .int .i64 (yn : Nat), .int .i64 (tn : Nat), .int .i64 (on : Nat), .slice da dl dc, .slice (some ⟨wb, wo, none⟩) yn wc, .int .i64 0, .int .i64 (tn : Nat), .slice (some ⟨wb, wo + yn, none⟩) (wl - yn) (wc - yn), .int .i64 (yn : Nat), .int .i64 (ou : Nat), .slice ta tl tc] 65))).heap.size := by simp
  clear BP
  have BP : Hid (Below (w1.heap.size + 1) (w1.alloc (.cells #[.slice ca cn cc, .slice (some ⟨wb, wo, none⟩) wl wc, .int .i64 (yn : Nat), .int .i64 (tn : Nat), .int .i64 (on : Nat), .slice da dl dc, .slice (some ⟨wb, wo, none⟩) yn wc, .int .i64 0, .int .i64 (tn : Nat), .slice (some ⟨wb, wo + yn, none⟩) (wl - yn) (wc - yn), .int .i64 (yn : Nat), .int .i64 (ou : Nat), .slice ta tl tc] 65)) ((w1.alloc (.cells #[.slice ca cn cc, .slice (some ⟨wb, wo, none⟩) wl wc, .int .i64 (yn : Nat), .int .i64 (tn : Nat), .int .i64 (on : Nat), .slice da dl dc, .slice (some ⟨wb, wo, none⟩) yn wc, .int .i64 0, .int .i64 (tn : Nat), .slice (some ⟨wb, wo + yn, none⟩) (wl - yn) (wc - yn), .int .i64 (yn : Nat), .int .i64 (ou : Nat), .slice ta tl tc] 65)).alloc (.cells #[.int .i64 ((p : Int) + 1), .int .i64 c0, .slice (some ⟨yb, yo, none⟩) yl yc] 69))) := (bR.alloc (by first | exact hz | (simp; done) | (simp; omega) | (have := hz; simp at this ⊢; omega)) _)
  replace B := Proofs.YtjbmcdekhhbiaaaGreat.lA B BP
  replace KT := Proofs.YtjbmcdekhhbiaaaGreat.lA KT BP
  replace TT := Proofs.YtjbmcdekhhbiaaaGreat.lA TT BP
  replace YY := Proofs.YtjbmcdekhhbiaaaGreat.lA YY BP
  replace XM := Proofs.YtjbmcdekhhbiaaaGreat.lA XM BP
  replace lM := lL lM
  replace XR := Proofs.YtjbmcdekhhbiaaaGreat.lA XR BP
  replace lR := lL lR
  replace XA := Proofs.YtjbmcdekhhbiaaaGreat.lA XA BP
  replace lA := lL lA
  have XT : Hid (∀ y, Below (w1.heap.size + 1 + 1) ((w1.alloc (.cells #[.slice ca cn cc, .slice (some ⟨wb, wo, none⟩) wl wc, .int .i64 (yn : Nat), .int .i64 (tn : Nat), .int .i64 (on : Nat), .slice da dl dc, .slice (some ⟨wb, wo, none⟩) yn wc, .int .i64 0, .int .i64 (tn : Nat), .slice (some ⟨wb, wo + yn, none⟩) (wl - yn) (wc - yn), .int .i64 (yn : Nat), .int .i64 (ou : Nat), .slice ta tl tc] 65)).alloc (.cells #[.int .i64 ((p : Int) + 1), .int .i64 c0, .slice (some ⟨yb, yo, none⟩) yl yc] 69)) y → y.heap[w1.heap.size + 1]? = some (.cells #[.int .i64 ((p : Int) + 1), .int .i64 c0, .slice (some ⟨yb, yo, none⟩) yl yc] 69 (0, 0))) := fun y hy => (hy.block _ (by omega)).trans (boxN _ _ _ _ (by simp))
  have lT : w1.heap.size + 1 < w1.heap.size + 1 + 1 := by omega
  replace hz : w1.heap.size + 1 + 1 ≤ (((w1.alloc (.cells #[.slice ca cn cc, .slice (some ⟨wb, wo, none⟩) wl wc, .int .i64 (yn : Nat), .int .i64 (tn : Nat), .int .i64 (on : Nat), .slice da dl dc, .slice (some ⟨wb, wo, none⟩) yn wc, .int .i64 0, .int .i64 (tn : Nat), .slice (some ⟨wb, wo + yn, none⟩) (wl - yn) (wc - yn), .int .i64 (yn : Nat), .int .i64 (ou : Nat), .slice ta tl tc] 65)).alloc (.cells #[.int .i64 ((p : Int) + 1), .int .i64 c0, .slice (some ⟨yb, yo, none⟩) yl yc] 69))).heap.size := by simp
  clear BP
  generalize ((w1.alloc (.cells #[.slice ca cn cc, .slice (some ⟨wb, wo, none⟩) wl wc, .int .i64 (yn : Nat), .int .i64 (tn : Nat), .int .i64 (on : Nat), .slice da dl dc, .slice (some ⟨wb, wo, none⟩) yn wc, .int .i64 0, .int .i64 (tn : Nat), .slice (some ⟨wb, wo + yn, none⟩) (wl - yn) (wc - yn), .int .i64 (yn : Nat), .int .i64 (ou : Nat), .slice ta tl tc] 65)).alloc (.cells #[.int .i64 ((p : Int) + 1), .int .i64 c0, .slice (some ⟨yb, yo, none⟩) yl yc] 69)) = w2 at B KT TT YY XM XR XA XT hz ⊢
  have hzn : w1.heap.size + 1 + 1 ≤ w2.heap.size := Nat.le_trans hz (Below.size (Below.refl (w1.heap.size + 1 + 1) w2))
  replace B := lF B (Below.refl (w1.heap.size + 1 + 1) w2) hzn
  replace KT := lF KT (Below.refl (w1.heap.size + 1 + 1) w2) hzn
  replace TT := lF TT (Below.refl (w1.heap.size + 1 + 1) w2) hzn
  replace YY := lF YY (Below.refl (w1.heap.size + 1 + 1) w2) hzn
  replace XM := lF XM (Below.refl (w1.heap.size + 1 + 1) w2) hzn
  replace lM := Nat.lt_of_lt_of_le lM hzn
  replace XR := lF XR (Below.refl (w1.heap.size + 1 + 1) w2) hzn
  replace lR := Nat.lt_of_lt_of_le lR hzn
  replace XA := lF XA (Below.refl (w1.heap.size + 1 + 1) w2) hzn
  replace lA := Nat.lt_of_lt_of_le lA hzn
  replace XT := lF XT (Below.refl (w1.heap.size + 1 + 1) w2) hzn
  replace lT := Nat.lt_of_lt_of_le lT hzn
  clear hz
  have hz : w2.heap.size ≤ w2.heap.size := Nat.le_refl _
  obtain ⟨kM0, kM1, kM2, kM3, kM4⟩ := bk5 (XM.out w2 bR)
  obtain ⟨kR0, kR1, kR2, kR3, kR4⟩ := bk5 (XR.out w2 bR)
  obtain ⟨kA0, kA1, kA2, kA3, kA4, kA5, kA6, kA7, kA8, kA9, kA10, kA11, kA12⟩ := bk13 (XA.out w2 bR)
  obtain ⟨kT0, kT1, kT2⟩ := bk3 (XT.out w2 bR)
  go_wp2_with fail
  clear kM0 kM1 kM2 kM3 kM4 kR0 kR1 kR2 kR3 kR4 kA0 kA1 kA2 kA3 kA4 kA5 kA6 kA7 kA8 kA9 kA10 kA11 kA12 kT0 kT1 kT2
  have KS : Hid (∀ x, Below (w2.heap.size) w2 x → x.cell? ⟨w1.heap.size, 0, none⟩ = some (.slice ca cn cc) ∧ x.cell? ⟨w1.heap.size, 1, none⟩ = some (.slice (some ⟨wb, wo, none⟩) wl wc) ∧ x.cell? ⟨w1.heap.size, 2, none⟩ = some (.int .i64 (yn : Nat)) ∧ x.cell? ⟨w1.heap.size, 3, none⟩ = some (.int .i64 (tn : Nat)) ∧ x.cell? ⟨w1.heap.size, 4, none⟩ = some (.int .i64 (on : Nat)) ∧ x.cell? ⟨w1.heap.size, 5, none⟩ = some (.slice da dl dc) ∧ x.cell? ⟨w1.heap.size, 6, none⟩ = some (.slice (some ⟨wb, wo, none⟩) yn wc) ∧ x.cell? ⟨w1.heap.size, 7, none⟩ = some (.int .i64 0) ∧ x.cell? ⟨w1.heap.size, 8, none⟩ = some (.int .i64 (tn : Nat)) ∧ x.cell? ⟨w1.heap.size, 9, none⟩ = some (.slice (some ⟨wb, wo + yn, none⟩) (wl - yn) (wc - yn)) ∧ x.cell? ⟨w1.heap.size, 10, none⟩ = some (.int .i64 (yn : Nat)) ∧ x.cell? ⟨w1.heap.size, 11, none⟩ = some (.int .i64 (ou : Nat)) ∧ x.cell? ⟨w1.heap.size, 12, none⟩ = some (.slice ta tl tc) ∧ x.cell? ⟨w1.heap.size + 1, 0, none⟩ = some (.int .i64 ((p : Int) + 1)) ∧ x.cell? ⟨w1.heap.size + 1, 1, none⟩ = some (.int .i64 c0) ∧ x.cell? ⟨w1.heap.size + 1, 2, none⟩ = some (.slice (some ⟨yb, yo, none⟩) yl yc) ∧ x.cell? ⟨yb, yo + kn, none⟩ = some (.int .i64 t1)) := fun x hx => ⟨(boxG (XA.out x hx) 0).1, (boxG (XA.out x hx) 1).1, (boxG (XA.out x hx) 2).1, (boxG (XA.out x hx) 3).1, (boxG (XA.out x hx) 4).1, (boxG (XA.out x hx) 5).1, (boxG (XA.out x hx) 6).1, (boxG (XA.out x hx) 7).1, (boxG (XA.out x hx) 8).1, (boxG (XA.out x hx) 9).1, (boxG (XA.out x hx) 10).1, (boxG (XA.out x hx) 11).1, (boxG (XA.out x hx) 12).1, (boxG (XT.out x hx) 0).1, (boxG (XT.out x hx) 1).1, (boxG (XT.out x hx) 2).1, KT.out x hx⟩
  refine wp_region_held_drew (S := fun x => x.cell? ⟨w1.heap.size, 0, none⟩ = some (.slice ca cn cc) ∧ x.cell? ⟨w1.heap.size, 1, none⟩ = some (.slice (some ⟨wb, wo, none⟩) wl wc) ∧ x.cell? ⟨w1.heap.size, 2, none⟩ = some (.int .i64 (yn : Nat)) ∧ x.cell? ⟨w1.heap.size, 3, none⟩ = some (.int .i64 (tn : Nat)) ∧ x.cell? ⟨w1.heap.size, 4, none⟩ = some (.int .i64 (on : Nat)) ∧ x.cell? ⟨w1.heap.size, 5, none⟩ = some (.slice da dl dc) ∧ x.cell? ⟨w1.heap.size, 6, none⟩ = some (.slice (some ⟨wb, wo, none⟩) yn wc) ∧ x.cell? ⟨w1.heap.size, 7, none⟩ = some (.int .i64 0) ∧ x.cell? ⟨w1.heap.size, 8, none⟩ = some (.int .i64 (tn : Nat)) ∧ x.cell? ⟨w1.heap.size, 9, none⟩ = some (.slice (some ⟨wb, wo + yn, none⟩) (wl - yn) (wc - yn)) ∧ x.cell? ⟨w1.heap.size, 10, none⟩ = some (.int .i64 (yn : Nat)) ∧ x.cell? ⟨w1.heap.size, 11, none⟩ = some (.int .i64 (ou : Nat)) ∧ x.cell? ⟨w1.heap.size, 12, none⟩ = some (.slice ta tl tc) ∧ x.cell? ⟨w1.heap.size + 1, 0, none⟩ = some (.int .i64 ((p : Int) + 1)) ∧ x.cell? ⟨w1.heap.size + 1, 1, none⟩ = some (.int .i64 c0) ∧ x.cell? ⟨w1.heap.size + 1, 2, none⟩ = some (.slice (some ⟨yb, yo, none⟩) yl yc) ∧ x.cell? ⟨yb, yo + kn, none⟩ = some (.int .i64 t1)) (by kernel_rfl) ?_ (fun hHeld => ?_)
  · exact KS.out _ (bdrew bR)
  refine tV 0 (v := ?_) rfl (by kernel_rfl) (fun _ _ _ h => h) ?_ (by assumption) ?_
  rotate_left 1
  · (intro x hSx; (try dsimp only at hSx); go_simp; try with_reducible rfl)
  try simp only [Act.put, List.getElem_toArray, List.getElem_cons_zero, List.setIfInBounds_toArray, List.set_cons_zero, List.set_cons_succ]
  refine tV 1 (v := ?_) rfl (by kernel_rfl) (fun _ _ _ h => h) ?_ (by assumption) ?_
  rotate_left 1
  · (intro x hSx; (try dsimp only at hSx); go_simp; try with_reducible rfl)
  try simp only [Act.put, List.getElem_toArray, List.getElem_cons_zero, List.getElem_cons_succ, List.setIfInBounds_toArray, List.set_cons_zero, List.set_cons_succ]
  refine tV 2 (v := ?_) rfl (by kernel_rfl) (fun _ _ _ h => h) ?_ (by assumption) ?_
  rotate_left 1
  · (intro x hSx; (try dsimp only at hSx); go_simp; try with_reducible rfl)
  try simp only [Act.put, List.getElem_toArray, List.getElem_cons_zero, List.getElem_cons_succ, List.setIfInBounds_toArray, List.set_cons_zero, List.set_cons_succ]
  refine tV 3 (v := ?_) rfl (by kernel_rfl) (fun _ _ _ h => h) ?_ (by assumption) ?_
  rotate_left 1
  · (intro x hSx; (try dsimp only at hSx); go_simp; try with_reducible rfl)
  try simp only [Act.put, List.getElem_toArray, List.getElem_cons_zero, List.getElem_cons_succ, List.setIfInBounds_toArray, List.set_cons_zero, List.set_cons_succ]
  refine tV 4 (v := ?_) rfl (by kernel_rfl) (fun _ _ _ h => h) ?_ (by assumption) ?_
  rotate_left 1
  · (intro x hSx; (try dsimp only at hSx); go_simp; try with_reducible rfl)
  try simp only [Act.put, List.getElem_toArray, List.getElem_cons_zero, List.getElem_cons_succ, List.setIfInBounds_toArray, List.set_cons_zero, List.set_cons_succ]
  refine tV 5 (v := ?_) rfl (by kernel_rfl) (fun _ _ _ h => h) ?_ (by assumption) ?_
  rotate_left 1
  · (intro x hSx; (try dsimp only at hSx); go_simp; try with_reducible rfl)
  try simp only [Act.put, List.getElem_toArray, List.getElem_cons_zero, List.getElem_cons_succ, List.setIfInBounds_toArray, List.set_cons_zero, List.set_cons_succ]
  refine tV 6 (v := ?_) rfl (by kernel_rfl) (fun _ _ _ h => h) ?_ (by assumption) ?_
  rotate_left 1
  · (intro x hSx; (try dsimp only at hSx); go_simp; try with_reducible rfl)
  try simp only [Act.put, List.getElem_toArray, List.getElem_cons_zero, List.getElem_cons_succ, List.setIfInBounds_toArray, List.set_cons_zero, List.set_cons_succ]
  refine tV 7 (v := ?_) rfl (by kernel_rfl) (fun _ _ _ h => h) ?_ (by assumption) ?_
  rotate_left 1
  · (intro x hSx; (try dsimp only at hSx); go_simp; try with_reducible rfl)
  try simp only [Act.put, List.getElem_toArray, List.getElem_cons_zero, List.getElem_cons_succ, List.setIfInBounds_toArray, List.set_cons_zero, List.set_cons_succ]
  refine tV 8 (v := ?_) rfl (by kernel_rfl) (fun _ _ _ h => h) ?_ (by assumption) ?_
  rotate_left 1
  · (intro x hSx; (try dsimp only at hSx); go_simp; try with_reducible rfl)
  try simp only [Act.put, List.getElem_toArray, List.getElem_cons_zero, List.getElem_cons_succ, List.setIfInBounds_toArray, List.set_cons_zero, List.set_cons_succ]
  refine tV 9 (v := ?_) rfl (by kernel_rfl) (fun _ _ _ h => h) ?_ (by assumption) ?_
  rotate_left 1
  · (intro x hSx; (try dsimp only at hSx); go_simp; try with_reducible rfl)
  try simp only [Act.put, List.getElem_toArray, List.getElem_cons_zero, List.getElem_cons_succ, List.setIfInBounds_toArray, List.set_cons_zero, List.set_cons_succ]
  refine wpAnyH_ready (rs := [10]) (by kernel_rfl) (by simp) ?_
  refine AllReadyH.cons rfl (fun K hK => ?_) AllReadyH.nil
  go_simp
  go_at_call 52
  have BP : Hid (Below (w2.heap.size) w2 w2.drew) := (bdrew bR)
  refine (mayImpl ca cn cc wb wo wl wc yn tn on da dl dc wc (wl - yn) (wc - yn) ou ta tl tc T u t1 _ (TT.out _ BP.out) INC0.out htl9 hu).mono ?_
  rintro e w3 ⟨rfl, hb⟩
  have QK : Hid (mayA T t1 u = mayV T t1 u) := by show _ = _; unfold mayA; rw [show (t1 == 0) = false by simpa using hz0, Bool.false_or]
  obtain ⟨q, hq⟩ : ∃ q, mayV T t1 u = q := ⟨_, rfl⟩
  have QQ : Hid (mayV (thT L (ws, (yn : Int), (tn : Int), (on : Int), cd)) ((atT (thT L (ws, (yn : Int), (tn : Int), (on : Int), cd)) ((p : Int) + 1)).2.2.getD (kn : Int).toNat 0) u = q) := by show _ = _; rw [TY.out, HT.out, HT1.out]; exact hq
  rw [QK.out, hq]
  clear QK hq
  have hq : Below (w2.heap.size) w2 w3 := BP.out.trans (Below.mono hb (Nat.le_trans hz BP.out.size))
  have hzn : w2.heap.size ≤ w3.heap.size := Nat.le_trans hz hq.size
  replace B := lF B hq hzn
  replace KT := lF KT hq hzn
  replace TT := lF TT hq hzn
  replace YY := lF YY hq hzn
  replace KS := lF KS hq hzn
  replace XM := lF XM hq hzn
  replace lM := Nat.lt_of_lt_of_le lM hzn
  replace XR := lF XR hq hzn
  replace lR := Nat.lt_of_lt_of_le lR hzn
  replace XA := lF XA hq hzn
  replace lA := Nat.lt_of_lt_of_le lA hzn
  replace XT := lF XT hq hzn
  replace lT := Nat.lt_of_lt_of_le lT hzn
  clear hq BP hz
  have hz : w3.heap.size ≤ w3.heap.size := Nat.le_refl _
  clear hb
  go_wp2_with fail
  refine hK.out _ _ (KS.out _ bR) (fun hHeld2 => ?_)
  clear hK K
  try simp only [Act.put, List.getElem_toArray, List.getElem_cons_zero, List.getElem_cons_succ, List.setIfInBounds_toArray, List.set_cons_zero, List.set_cons_succ]
  refine tV 11 (v := ?_) rfl (by kernel_rfl) (fun _ _ _ h => h) ?_ (by assumption) ?_
  rotate_left 1
  · (intro x hSx; (try dsimp only at hSx); go_simp; try with_reducible rfl)
  try simp only [Act.put, List.getElem_toArray, List.getElem_cons_zero, List.getElem_cons_succ, List.setIfInBounds_toArray, List.set_cons_zero, List.set_cons_succ]
  refine tV 12 (v := ?_) rfl (by kernel_rfl) (fun _ _ _ h => h) ?_ (by assumption) ?_
  rotate_left 1
  · (intro x hSx; (try dsimp only at hSx); go_simp; try with_reducible rfl)
  try simp only [Act.put, List.getElem_toArray, List.getElem_cons_zero, List.getElem_cons_succ, List.setIfInBounds_toArray, List.set_cons_zero, List.set_cons_succ]
  refine wpAnyH_done (by kernel_rfl) ?_ _
  clear hHeld hHeld2
  clear KS
  cases q
  · obtain ⟨kM0, kM1, kM2, kM3, kM4⟩ := bk5 (XM.out w3 bR)
    obtain ⟨kR0, kR1, kR2, kR3, kR4⟩ := bk5 (XR.out w3 bR)
    obtain ⟨qkR0, qkR1, qkR2, qkR3, qkR4⟩ := bq5 (XR.out w3 bR)
    obtain ⟨kA0, kA1, kA2, kA3, kA4, kA5, kA6, kA7, kA8, kA9, kA10, kA11, kA12⟩ := bk13 (XA.out w3 bR)
    obtain ⟨kT0, kT1, kT2⟩ := bk3 (XT.out w3 bR)
    go_wp2_with fail
    refine bodyPost_ret (v := .tuple #[.agg #[.slice none 0 0, .int .i64 0, .int .i64 0, .int .i64 0, .slice none 0 0], .bool false]) ?_ rfl ?_
    · simp [results, Tryz.results18, go_sem, *]
    · rw [putR_not QQ.out]
      exact ansM_zero _ (by first | ((repeat (refine Below.setCell ?_ (by first | omega | (simp <;> omega)) _)); exact B.out _ bR) | (refine bdrew ?_; (repeat (refine Below.setCell ?_ (by first | omega | (simp <;> omega)) _)); exact B.out _ bR))
  obtain ⟨kM0, kM1, kM2, kM3, kM4⟩ := bk5 (XM.out w3 bR)
  obtain ⟨kR0, kR1, kR2, kR3, kR4⟩ := bk5 (XR.out w3 bR)
  obtain ⟨kA0, kA1, kA2, kA3, kA4, kA5, kA6, kA7, kA8, kA9, kA10, kA11, kA12⟩ := bk13 (XA.out w3 bR)
  obtain ⟨kT0, kT1, kT2⟩ := bk3 (XT.out w3 bR)
  go_wp2_with fail
  clear kM0 kM1 kM2 kM3 kM4 kR0 kR1 kR2 kR3 kR4 kA0 kA1 kA2 kA3 kA4 kA5 kA6 kA7 kA8 kA9 kA10 kA11 kA12 kT0 kT1 kT2
  have BP : Hid (Below (w3.heap.size) w3 w3) := bR
  refine (putImpl ca cn cc wb wo wl wc yn tn on da dl dc wc (wl - yn) (wc - yn) ou ta tl tc p c0 (some ⟨yb, yo, none⟩) yl yc kn u ty ws cd _ (YY.out _ BP.out) (HW.out.later (B.out _ BP.out)) (HC.out.later (B.out _ BP.out)) hkn (by rw [HT1.out]; exact hz0) hfit hwl9 hd m5 hpt).mono ?_
  rintro e w4 ⟨a, n, ac, b, m, bc, rfl, hn, hmm, hA, hC, ha, hb0, hab, hb⟩
  have LA : Hid (∀ x, a = some x → 0 < n → w3.heap.size ≤ x.block) := ha
  have LB : Hid (∀ x, b = some x → 0 < m → w3.heap.size ≤ x.block) := hb0
  have HA4 : Hid (Wri w4 a n (fun j => (ws.set (p + hdN c0 + kn) u).getD j 0)) := hA
  have HC4 : Hid (WriB w4 b m (fun j => (cdPut yn (p + hdN c0 + kn) u (ty.getD kn 0 != 1) cd).getD j false)) := hC
  have AB : Hid (∀ x y, a = some x → b = some y → 0 < n → 0 < m → x.block ≠ y.block) := hab
  have LN : Hid ((ws.set (p + hdN c0 + kn) u).length = n) := hn
  have LM : Hid ((cdPut yn (p + hdN c0 + kn) u (ty.getD kn 0 != 1) cd).length = m) := hmm
  have lR3 : w.heap.size + 1 < w3.heap.size := lR
  clear hA hC ha hb0 hab hn hmm
  have hq : Below (w3.heap.size) w3 w4 := BP.out.trans (Below.mono hb (Nat.le_trans hz BP.out.size))
  have hzn : w3.heap.size ≤ w4.heap.size := Nat.le_trans hz hq.size
  replace B := lF B hq hzn
  replace KT := lF KT hq hzn
  replace TT := lF TT hq hzn
  replace YY := lF YY hq hzn
  replace XM := lF XM hq hzn
  replace lM := Nat.lt_of_lt_of_le lM hzn
  replace XR := lF XR hq hzn
  replace lR := Nat.lt_of_lt_of_le lR hzn
  replace XA := lF XA hq hzn
  replace lA := Nat.lt_of_lt_of_le lA hzn
  replace XT := lF XT hq hzn
  replace lT := Nat.lt_of_lt_of_le lT hzn
  clear hq BP hz
  have hz : w4.heap.size ≤ w4.heap.size := Nat.le_refl _
  clear hb
  obtain ⟨kM0, kM1, kM2, kM3, kM4⟩ := bk5 (XM.out w4 bR)
  obtain ⟨kR0, kR1, kR2, kR3, kR4⟩ := bk5 (XR.out w4 bR)
  obtain ⟨qkR0, qkR1, qkR2, qkR3, qkR4⟩ := bq5 (XR.out w4 bR)
  obtain ⟨kA0, kA1, kA2, kA3, kA4, kA5, kA6, kA7, kA8, kA9, kA10, kA11, kA12⟩ := bk13 (XA.out w4 bR)
  obtain ⟨kT0, kT1, kT2⟩ := bk3 (XT.out w4 bR)
  go_wp2_with fail
  refine bodyPost_ret (v := .tuple #[.agg #[.slice a n ac, .int .i64 (yn : Nat), .int .i64 (tn : Nat), .int .i64 (on : Nat), .slice b m bc], .bool true]) ?_ rfl ?_
  · simp [results, Tryz.results18, go_sem, *]
  · clear kM0 kM1 kM2 kM3 kM4 kR0 kR1 kR2 kR3 kR4 qkR0 qkR1 qkR2 qkR3 qkR4 kA0 kA1 kA2 kA3 kA4 kA5 kA6 kA7 kA8 kA9 kA10 kA11 kA12 kT0 kT1 kT2
    have PE : putM L (ws, (yn : Int), (tn : Int), (on : Int), cd) ((p : Int) + 1) (kn : Int) u = (ws.set (p + hdN c0 + kn) u, (yn : Int), (tn : Int), (on : Int), cdPut yn (p + hdN c0 + kn) u (ty.getD kn 0 != 1) cd) := by unfold putM; rw [PI.out, TY.out]; rfl
    rw [putR_yes GB.out QQ.out]
    show AnsM w (putM L (ws, (yn : Int), (tn : Int), (on : Int), cd) ((p : Int) + 1) (kn : Int) u) (.bool true) _ _
    rw [PE]
    refine ⟨a, n, ac, b, m, bc, rfl, LN.out, LM.out, ?_, ?_, ?_, ?_, AB.out, ?_⟩
    · exact HA4.out.keep (chg5 w4 (w.heap.size + 1) (.slice a n ac) (.int .i64 (yn : Nat)) (.int .i64 (tn : Nat)) (.int .i64 (on : Nat)) (.slice b m bc)) (fun x e h0 hd => by have h8 : x.block = w.heap.size + 1 := hd; have := LA.out x e h0; omega)
    · exact HC4.out.keep (chg5 w4 (w.heap.size + 1) (.slice a n ac) (.int .i64 (yn : Nat)) (.int .i64 (tn : Nat)) (.int .i64 (on : Nat)) (.slice b m bc)) (fun x e h0 hd => by have h8 : x.block = w.heap.size + 1 := hd; have := LB.out x e h0; omega)
    · exact fun x e h0 => by have := LA.out x e h0; omega
    · exact fun x e h0 => by have := LB.out x e h0; omega
    · (repeat (refine Below.setCell ?_ (by first | omega | (simp <;> omega)) _)); exact B.out _ bR

end Go.Proofs.YtjbmcdekhhbiaaaGreat
