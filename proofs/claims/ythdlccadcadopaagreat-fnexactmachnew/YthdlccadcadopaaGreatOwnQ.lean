/-
  Values, and things, that are laid into memory of their own, which may be written.
  Lists of values that grow, in memory of their own; an append whose run is known.
  The cells of things, of which the lists lie in memory of their own.
  What is marked: numbers and truths of the call's own are overwritten, all else stays; what lies there is still read as data of the same make.
  What marking does, of slices of structs, of a shape and of a unit: numbers and truths of the call's own are overwritten, all else stays.
  What is given back is marked, number by number, and held against its marks: values and things in memory that may be written, no two lists of which share any.
-/
import Derived.Test.YthdlccadcadopaaGreatDtObj
import Derived.Test.YthdlccadcadopaaGreatAppI
import Derived.RangeFuncBox
import Derived.Test.YthdlccadcadopaaGreatDtInt
namespace Go.Proofs.YthdlccadcadopaaGreat
open Go.ChangeShapes Go.WideShapes Go.ChangeAt Go.RowKit

/-- Values in memory that may be written. -/
structure WrV (w : World) (g : Nat) (xs : List Vl) : Prop where
  at' : ∀ (j : Nat) (x : Vl), xs[j]? = some x → w.cell? ⟨g, j * 2, none⟩ = some (.bool x.1) ∧ w.cell? ⟨g, j * 2 + 1, none⟩ = some (.int .i64 x.2) ∧ i64B x.2
  free : ∀ j, j < xs.length * 2 → w.frozen? ⟨g, j, none⟩ = false
theorem WrV.keep {w w' : World} {g : Nat} {xs : List Vl} (h : WrV w g xs) (hk : w'.heap[g]? = w.heap[g]?) : WrV w' g xs :=
  ⟨fun j x hx => by
    obtain ⟨h1, h2, h3⟩ := h.at' j x hx
    exact ⟨(World.cell?_of_block (a := ⟨g, _, none⟩) hk).trans h1, (World.cell?_of_block (a := ⟨g, _, none⟩) hk).trans h2, h3⟩, fun j hj => (World.frozen?_of_block (a := ⟨g, j, none⟩) hk).trans (h.free j hj)⟩
theorem WrV.of {w : World} {g n : Nat} {xs : List Vl} (h : CopR vaR g n w xs n) (hn : xs.length = n) : WrV w g xs := by
  refine ⟨fun j x hx => ?_, fun j hj => (h.row j (by rw [← hn]; exact hj)).2⟩
  have hj := (List.getElem?_eq_some_iff.1 hx).1
  obtain ⟨vs, ⟨_, _, rfl, h1, rfl, b1⟩, h2⟩ := h.done j x (by omega) hx
  have h1 : _ = [Value.bool x.1] := h1
  subst h1
  exact ⟨h2 0 _ rfl, h2 1 _ rfl, b1⟩
theorem WrV.sl {w : World} {g : Nat} {xs : List Vl} (h : WrV w g xs) (hl : xs.length ≤ 1048576) : SlAt vaR (fun b => b = g) w (some ⟨g, 0, none⟩) xs.length xs := by
  refine ⟨rfl, by omega, .inr ⟨g, 0, rfl, rfl, fun i x hx => ?_⟩⟩
  obtain ⟨h1, h2, h3⟩ := h.at' i x hx
  refine ⟨[.bool x.1, .int .i64 x.2], ⟨[.bool x.1], [.int .i64 x.2], rfl, rfl, rfl, h3⟩, fun j v hv => ?_⟩
  match j, hv with
  | 0, hv => simp at hv; subst hv; rw [Nat.zero_add]; exact h1
  | 1, hv => simp at hv; subst hv; rw [Nat.zero_add]; exact h2

structure GrRow (w : World) (G n : Nat) (gs : List Ob) (k : Nat) (bs : Nat → Nat) : Prop where
  row : ∀ (j : Nat) (x : Ob), j < k → gs[j]? = some x → w.cell? ⟨G, j * 2, none⟩ = some (.int .i64 x.1) ∧ w.cell? ⟨G, j * 2 + 1, none⟩ = some (.slice (some ⟨bs j, 0, none⟩) x.2.length x.2.length) ∧ i64B x.1 ∧ WrV w (bs j) x.2
  free : ∀ j, j < n * 2 → (∃ v, w.cell? ⟨G, j, none⟩ = some v) ∧ w.frozen? ⟨G, j, none⟩ = false
  inc : ∀ i j, i < j → j < k → bs i < bs j
  gt : ∀ j, j < k → G < bs j ∧ bs j < w.heap.size
theorem GrRow.later {w w' : World} {G n k : Nat} {gs : List Ob} {bs : Nat → Nat} (h : GrRow w G n gs k bs) (hG : G < w.heap.size) (b : Below w.heap.size w w') : GrRow w' G n gs k bs :=
  ⟨fun j x hj hx => by
    obtain ⟨h1, h2, h3, h4⟩ := h.row j x hj hx
    exact ⟨(b.cell (p := ⟨G, _, none⟩) hG).trans h1, (b.cell (p := ⟨G, _, none⟩) hG).trans h2, h3, h4.keep (b.block _ (h.gt j hj).2)⟩, fun j hj => by
    obtain ⟨⟨v, hv⟩, hf⟩ := h.free j hj
    exact ⟨⟨v, (b.cell (p := ⟨G, j, none⟩) hG).trans hv⟩, (b.frozen (p := ⟨G, j, none⟩) hG).trans hf⟩, h.inc, fun j hj => ⟨(h.gt j hj).1, Nat.lt_of_lt_of_le (h.gt j hj).2 b.size⟩⟩
theorem heap_put (G : Nat) : ∀ (vs : List Value) (w : World) (o b : Nat), b ≠ G → (putCells w G o vs).heap[b]? = w.heap[b]?
  | [], _, _, _, _ => rfl
  | v :: vs, w, o, b, hb => by rw [putCells, heap_put G vs _ _ _ hb]; exact Below.heap_setCell w ⟨G, o, none⟩ v b hb
theorem GrRow.step {w w1 : World} {G n k b : Nat} {gs : List Ob} {bs : Nat → Nat} {x : Ob} (h : GrRow w G n gs k bs) (hG : G < w.heap.size) (hb : Below w.heap.size w w1) (hk : k < n) (hx : gs[k]? = some x) (hi : i64B x.1) (hv : WrV w1 b x.2) (h1 : w.heap.size ≤ b) (h2 : b < w1.heap.size) {m : Nat} (hm : x.2.length = m) :
    GrRow (putCells w1 G (k * 2) [.int .i64 x.1, .slice (some ⟨b, 0, none⟩) m m]) G n gs (k + 1) (fun j => if j = k then b else bs j) := by
  subst hm
  have hl := h.later hG hb
  have hG1 : G < w1.heap.size := Nat.lt_of_lt_of_le hG hb.size
  refine ⟨fun j y hj hy => ?_, fun j hj => ⟨?_, ?_⟩, fun i j hij hj => ?_, fun j hj => ?_⟩
  · by_cases e : j = k
    · subst e
      obtain rfl : y = x := by rw [hx] at hy; simpa using hy.symm
      rw [if_pos rfl]
      refine ⟨put_at G _ w1 (j * 2) 0 _ (fun i hi => ?_) rfl, put_at G _ w1 (j * 2) 1 _ (fun i hi => ?_) rfl, hi, hv.keep (heap_put G _ _ _ _ (by omega))⟩
      all_goals
        simp at hi
        exact (hl.free (j * 2 + i) (by omega)).1
    · rw [if_neg e]
      obtain ⟨h3, h4, h5, h6⟩ := hl.row j y (by omega) hy
      refine ⟨(put_off G _ w1 _ _ (.inl (by omega))).trans h3, (put_off G _ w1 _ _ (.inl (by omega))).trans h4, h5, h6.keep (heap_put G _ _ _ _ ?_)⟩
      have := (h.gt j (by omega)).1
      omega
  · exact put_some G _ w1 _ _ (hl.free j hj).1
  · rw [put_frozen]; exact (hl.free j hj).2
  · by_cases e : j = k
    · subst e
      show (if i = j then b else bs i) < (if j = j then b else bs j)
      rw [if_neg (by omega), if_pos rfl]
      have := (h.gt i hij).2
      omega
    · show (if i = k then b else bs i) < (if j = k then b else bs j)
      rw [if_neg (by omega), if_neg e]
      exact h.inc i j hij (by omega)
  · show G < (if j = k then b else bs j) ∧ (if j = k then b else bs j) < _
    rw [put_size]
    by_cases e : j = k
    · rw [if_pos e]; exact ⟨by omega, h2⟩
    · rw [if_neg e]
      have := h.gt j (by omega)
      have := hb.size
      exact ⟨by omega, by omega⟩
theorem GrRow.made (w : World) (z : Array Value) (n : Nat) (t : TypeId) (gs : List Ob) : GrRow (w.alloc (.cells (madeCells z (n * 2)) t)) w.heap.size n gs 0 (fun _ => 0) :=
  ⟨fun j _ hj => by omega, fun j hj => ⟨⟨_, (RowAt.made w z (n * 2) t j hj).1⟩, (RowAt.made w z (n * 2) t j hj).2⟩, fun _ _ _ hj => by omega, fun j hj => by omega⟩
theorem GrRow.sl {w : World} {G n : Nat} {gs : List Ob} {bs : Nat → Nat} (h : GrRow w G n gs n bs) (hn : gs.length = n) (hl : n ≤ 1048576) (hv : ∀ x ∈ gs, x.2.length ≤ 1048576) : SlAt obR (fun b => G ≤ b) w (some ⟨G, 0, none⟩) n gs := by
  refine ⟨hn, by omega, .inr ⟨G, 0, rfl, Nat.le_refl _, fun i x hx => ?_⟩⟩
  have hi := (List.getElem?_eq_some_iff.1 hx).1
  obtain ⟨h1, h2, h3, h4⟩ := h.row i x (by omega) hx
  have hg := (h.gt i (by omega)).1
  refine ⟨[.int .i64 x.1, .slice (some ⟨bs i, 0, none⟩) x.2.length x.2.length], ⟨[.int .i64 x.1], _, rfl, ⟨rfl, h3⟩, some ⟨bs i, 0, none⟩, x.2.length, x.2.length, rfl, (h4.sl (hv x (List.mem_of_getElem? hx))).mono (fun b hb _ => by omega)⟩, fun j v hv' => ?_⟩
  match j, hv' with
  | 0, hv' => simp at hv'; subst hv'; rw [Nat.zero_add]; exact h1
  | 1, hv' => simp at hv'; subst hv'; rw [Nat.zero_add]; exact h2

end Go.Proofs.YthdlccadcadopaaGreat
namespace Go.Proofs.YthdlccadcadopaaGreat
open Go.ChangeShapes Go.WideShapes Go.ChangeAt Go.RowKit

/-- The cells of values. -/
def flatV (xs : List Vl) : List Value := xs.flatMap fun v => [.bool v.1, .int .i64 v.2]
theorem flatV_snoc (xs : List Vl) (v : Vl) : flatV (xs ++ [v]) = flatV xs ++ [.bool v.1, .int .i64 v.2] := by simp [flatV]
theorem flatV_len (xs : List Vl) : (flatV xs).length = xs.length * 2 := by
  induction xs with
  | nil => rfl
  | cons v vs ih => simp [flatV] at ih ⊢; omega
theorem flatV_at : ∀ (xs : List Vl) (j : Nat) (x : Vl), xs[j]? = some x → (flatV xs)[j * 2]? = some (.bool x.1) ∧ (flatV xs)[j * 2 + 1]? = some (.int .i64 x.2)
  | v :: vs, 0, x, h => by simp at h; subst h; simp [flatV]
  | v :: vs, j + 1, x, h => by
    have ih := flatV_at vs j x (by simpa using h)
    have e : flatV (v :: vs) = [.bool v.1, .int .i64 v.2] ++ flatV vs := rfl
    have e2 : (j + 1) * 2 = j * 2 + 2 := by omega
    rw [e, e2]
    exact ⟨by simpa using ih.1, by simpa using ih.2⟩
/-- What is owned is read as a list. -/
theorem own_vals {w : World} {base n c : Nat} {a : Option Addr} {xs : List Vl} (h : w.ownsRow base 31 2 (.slice a n c) n (flatV xs)) (hb : ∀ x ∈ xs, i64B x.2) (hn : n ≤ 4000000) : SlAt vaR (fun b => base ≤ b) w a n xs := by
  have hl : xs.length = n := by have := h.1; rw [flatV_len] at this; omega
  refine ⟨hl, by omega, ?_⟩
  rcases h.2 with ⟨_, h0⟩ | ⟨g, cap, cur, e, hg, hcur, _, _, hsz, htk⟩
  · exact .inl h0
  · cases e
    refine .inr ⟨g, 0, rfl, hg, fun i x hx => ?_⟩
    have hi := (List.getElem?_eq_some_iff.1 hx).1
    obtain ⟨f0, f1⟩ := flatV_at xs i x hx
    rw [← htk] at f0 f1
    have key : ∀ j v, (cur.toList.take (n * 2))[j]? = some v → w.cell? ⟨g, j, none⟩ = some v := fun j v hj => by
      have : cur.toList[j]? = some v := by
        rw [List.getElem?_take] at hj
        by_cases hj2 : j < n * 2
        · rwa [if_pos hj2] at hj
        · rw [if_neg hj2] at hj; cases hj
      simp only [World.cell?, hcur]
      simpa using this
    refine ⟨[.bool x.1, .int .i64 x.2], ⟨[.bool x.1], [.int .i64 x.2], rfl, rfl, rfl, hb x (List.mem_of_getElem? hx)⟩, fun j v hv => ?_⟩
    match j, hv with
    | 0, hv => simp at hv; subst hv; rw [Nat.zero_add]; exact key _ _ f0
    | 1, hv => simp at hv; subst hv; rw [Nat.zero_add]; exact key _ _ f1

theorem own_none {w : World} (base b : Nat) (t : TypeId) (hb : base ≤ w.heap.size) (he : w.heap.size = b) : (w.alloc (.cells #[] t)).ownsRow base t 2 (.slice (some ⟨b, 0, none⟩) 0 0) 0 [] := by
  subst he
  exact ⟨rfl, .inr ⟨w.heap.size, 0, #[], rfl, hb, World.alloc_heap_new w _, Nat.le_refl _, Nat.zero_le _, rfl, rfl⟩⟩

theorem two_new (w : World) (x y : Value) (t : TypeId) (b : Nat) (hb : w.heap.size = b) : ∀ j u, [x, y][j]? = some u → (w.alloc (.cells #[x, y] t)).cell? ((⟨b, 0, none⟩ : Addr).add j) = some u := by
  subst hb
  intro j u hj
  rw [Addr.add_lit, Nat.zero_add, World.cell?_alloc_at _ _ _ _ rfl]
  match j, hj with
  | 0, hj => simpa using hj
  | 1, hj => simpa using hj

/-- An append whose run is known. -/
theorem op_appP {P : Program} {w w' : World} {ops : Array Oper} {o : Oper} {a : Act} {K : Act → World → Prop} {Q : Exit → Act → World → Prop} {E : Prop} (hg : o.guard = none) (s x : Operand) (t : TypeId) (hop : o.op = Op.call { callee := Callee.builtin Builtin.append, args := #[s, x], argTypes := #[t, t] })
    (v xv v' : Value) (hs : a.eval s = v) (hx : a.eval x = xv) (hrun : (Builtin.append_ #[t, t] o.type #[v, xv]).run P w = .ok v' w') (h : K (a.put o.dst v') w') : if Region.wanted o (yielded ops a.tmps) = true then Oper.wp P o a w K Q else E := by
  rw [if_pos (by simp [Region.wanted, hg])]
  unfold Oper.wp
  simp [execOp, hop, resolve, invoke, builtin, hs, hx, hrun, Result.andThen]
  exact h

theorem list_appP {P : Program} {w w' : World} {ops : Array Oper} {rest : List Oper} {o : Oper} {a : Act} {Q : Exit → Act → World → Prop} (hg : o.guard = none) (s x : Operand) (t : TypeId) (hop : o.op = Op.call { callee := Callee.builtin Builtin.append, args := #[s, x], argTypes := #[t, t] })
    (v xv v' : Value) (hs : a.eval s = v) (hx : a.eval x = xv) (hrun : (Builtin.append_ #[t, t] o.type #[v, xv]).run P w = .ok v' w') (h : wpList P ops Q rest (a.put o.dst v') w') : wpList P ops Q (o :: rest) a w :=
  wpList_plain hg fun K hK => by
    have := op_appP (ops := #[]) (Q := Q) (K := K) (E := False) hg s x t hop v xv v' hs hx hrun (hK _ _ h)
    have hw : Region.wanted o (yielded #[] a.tmps) = true := by simp [Region.wanted, hg]
    rw [if_pos hw] at this
    exact this
/-- A block of the call's own: what its cells hold, and what they hold when one is written. -/
theorem boxG {w : World} {X : Nat} {cur : Array Value} {t : TypeId} (h : w.heap[X]? = some (.cells cur t (0, 0))) (o : Nat) : w.cell? ⟨X, o, none⟩ = cur[o]? ∧ w.frozen? ⟨X, o, none⟩ = false := by
  simp [World.cell?, World.frozen?, h]
theorem boxS {w : World} {X : Nat} {cur : Array Value} {t : TypeId} (h : w.heap[X]? = some (.cells cur t (0, 0))) (o : Nat) (v : Value) : (w.setCell ⟨X, o, none⟩ v).heap[X]? = some (.cells (cur.setIfInBounds o v) t (0, 0)) := by
  have hl : X < w.heap.size := (Array.getElem?_eq_some_iff.1 h).1
  have h' : w.heap[X] = .cells cur t (0, 0) := (Array.getElem?_eq_some_iff.1 h).2
  simp [World.setCell, hl, Array.getElem_modify, h']
theorem boxN (w : World) (cur : Array Value) (t : TypeId) (b : Nat) (h : w.heap.size = b) : (w.alloc (.cells cur t)).heap[b]? = some (.cells cur t (0, 0)) := by subst h; exact World.alloc_heap_new w _
theorem own_ne {w : World} {base : Nat} {e : TypeId} {size n : Nat} {v : Value} {xs : List Value} (h : w.ownsRow base e size v n xs) {F : Nat} {cur : Array Value} {t : TypeId} {m : Nat × Nat} (hF : w.heap[F]? = some (.cells cur t m)) (hne : t ≠ e) : some F ≠ v.ownBlock := by
  intro k
  rcases h.2 with ⟨rfl, _⟩ | ⟨g, cap, cur2, rfl, _, hg, _⟩
  · simp [Value.ownBlock] at k
  · obtain rfl : F = g := by simpa [Value.ownBlock] using k
    rw [hg] at hF
    exact hne (by injection hF with hF; injection hF with _ e _; exact e.symm)
def slLen : Option Value → Nat
  | some (.slice _ n _) => n
  | _ => 0
theorem bdrew {B : Nat} {a w : World} (h : Below B a w) : Below B a w.drew := h.trans ⟨rfl, rfl, rfl, Nat.le_refl _, fun _ _ => rfl⟩

end Go.Proofs.YthdlccadcadopaaGreat
namespace Go.Proofs.YthdlccadcadopaaGreat
open Go.ChangeShapes Go.WideShapes Go.ChangeAt Go.RowKit

/-- The cells of things, of which the lists lie in memory of their own. -/
structure OutR (w : World) (base : Nat) (gs : List Ob) (k : Nat) (L : List Value) : Prop where
  len : L.length = k * 2
  at' : ∀ (j : Nat) (x : Ob), j < k → gs[j]? = some x → L[j * 2]? = some (.int .i64 x.1) ∧ i64B x.1 ∧ ∃ a c, L[j * 2 + 1]? = some (.slice a x.2.length c) ∧ w.ownsRow base 31 2 (.slice a x.2.length c) x.2.length (flatV x.2)
theorem OutR.keep {w w' : World} {base k : Nat} {gs : List Ob} {L : List Value} (h : OutR w base gs k L) (hk : ∀ (g : Nat) (cur : Array Value), w.heap[g]? = some (.cells cur 31 (0, 0)) → w'.heap[g]? = w.heap[g]?) : OutR w' base gs k L :=
  ⟨h.len, fun j x hj hx => by
    obtain ⟨h1, h2, a, c, h3, h4⟩ := h.at' j x hj hx
    refine ⟨h1, h2, a, c, h3, own_keep' h4 (fun g hg => ?_)⟩
    rcases h4.2 with ⟨e, _⟩ | ⟨g2, cap, cur, e, _, hcur, _⟩
    · rw [e] at hg; simp [Value.ownBlock] at hg
    · rw [e] at hg
      obtain rfl : g2 = g := by simpa [Value.ownBlock] using hg
      exact hk g2 cur hcur⟩
theorem OutR.snoc {w : World} {base k : Nat} {gs : List Ob} {L : List Value} {x : Ob} {a : Option Addr} {c m : Nat} (h : OutR w base gs k L) (hx : gs[k]? = some x) (hi : i64B x.1) (hm : x.2.length = m) (hw : w.ownsRow base 31 2 (.slice a m c) m (flatV x.2)) : OutR w base gs (k + 1) (L ++ [.int .i64 x.1, .slice a m c]) := by
  subst hm
  refine ⟨by rw [List.length_append, h.len]; simp; omega, fun j y hj hy => ?_⟩
  by_cases e : j = k
  · subst e
    obtain rfl : y = x := by rw [hx] at hy; simpa using hy.symm
    refine ⟨?_, hi, a, c, ?_, hw⟩
    · rw [List.getElem?_append_right (by rw [h.len]; omega), h.len]; simp
    · rw [List.getElem?_append_right (by rw [h.len]; omega), h.len, show j * 2 + 1 - j * 2 = 1 by omega]; simp
  · obtain ⟨h1, h2, a', c', h3, h4⟩ := h.at' j y (by omega) hy
    exact ⟨by rw [List.getElem?_append_left (by rw [h.len]; omega)]; exact h1, h2, a', c', by rw [List.getElem?_append_left (by rw [h.len]; omega)]; exact h3, h4⟩
theorem OutR.sl {w : World} {base b2 n c : Nat} {a : Option Addr} {gs : List Ob} {L : List Value} (h : OutR w base gs n L) (hn : gs.length = n) (hl : n ≤ 1048576) (hb : ∀ x ∈ gs, x.2.length ≤ 1048576 ∧ ∀ v ∈ x.2, i64B v.2) (hw : w.ownsRow b2 86 2 (.slice a n c) n L) (h2 : base ≤ b2) : SlAt obR (fun b => base ≤ b) w a n gs := by
  refine ⟨hn, by omega, ?_⟩
  rcases hw.2 with ⟨_, h0⟩ | ⟨g, cap, cur, e, hg, hcur, _, _, hsz, htk⟩
  · exact .inl h0
  · cases e
    refine .inr ⟨g, 0, rfl, by omega, fun i x hx => ?_⟩
    have hi := (List.getElem?_eq_some_iff.1 hx).1
    obtain ⟨f0, b0, a', c', f1, hw'⟩ := h.at' i x (by omega) hx
    obtain ⟨k1, k2⟩ := hb x (List.mem_of_getElem? hx)
    rw [← htk] at f0 f1
    have key : ∀ j v, (cur.toList.take (n * 2))[j]? = some v → w.cell? ⟨g, j, none⟩ = some v := fun j v hj => by
      have : cur.toList[j]? = some v := by
        rw [List.getElem?_take] at hj
        by_cases hj2 : j < n * 2
        · rwa [if_pos hj2] at hj
        · rw [if_neg hj2] at hj; cases hj
      simp only [World.cell?, hcur]
      simpa using this
    refine ⟨[.int .i64 x.1, .slice a' x.2.length c'], ⟨[.int .i64 x.1], _, rfl, ⟨rfl, b0⟩, a', x.2.length, c', rfl, own_vals hw' k2 (by omega)⟩, fun j v hv => ?_⟩
    match j, hv with
    | 0, hv => simp at hv; subst hv; rw [Nat.zero_add]; exact key _ _ f0
    | 1, hv => simp at hv; subst hv; rw [Nat.zero_add]; exact key _ _ f1


end Go.Proofs.YthdlccadcadopaaGreat
namespace Go.Proofs.YthdlccadcadopaaGreat
open Go.ChangeShapes Go.WideShapes Go.ChangeAt Go.RowKit

/-- Numbers stay numbers, truths stay truths, and all else stays. -/
structure Sty (w w' : World) : Prop where
  cell : ∀ p v, w.cell? p = some v → w'.cell? p = some v ∨ (∃ x z, v = .int .i64 x ∧ w'.cell? p = some (.int .i64 z) ∧ i64B z) ∨ (∃ x z, v = .bool x ∧ w'.cell? p = some (.bool z))
  frozen : ∀ p, w'.frozen? p = w.frozen? p
theorem Sty.refl (w : World) : Sty w w := ⟨fun _ _ h => .inl h, fun _ => rfl⟩
theorem Sty.trans {a b c : World} (h : Sty a b) (k : Sty b c) : Sty a c := by
  refine ⟨fun p v hv => ?_, fun p => (k.frozen p).trans (h.frozen p)⟩
  rcases h.cell p v hv with h1 | ⟨x, z, rfl, h1, hz⟩ | ⟨x, z, rfl, h1⟩
  · exact k.cell p v h1
  · rcases k.cell p _ h1 with h2 | ⟨x', z', e, h2, hz'⟩ | ⟨x', z', e, _⟩
    · exact .inr (.inl ⟨x, z, rfl, h2, hz⟩)
    · exact .inr (.inl ⟨x, z', rfl, h2, hz'⟩)
    · cases e
  · rcases k.cell p _ h1 with h2 | ⟨x', z', e, _⟩ | ⟨x', z', e, h2⟩
    · exact .inr (.inr ⟨x, z, rfl, h2⟩)
    · cases e
    · exact .inr (.inr ⟨x, z', rfl, h2⟩)
theorem Sty.set (w : World) (p : Addr) (x z : Int) (hp : w.cell? p = some (.int .i64 x)) (hz : i64B z) : Sty w (w.setCell p (.int .i64 z)) := by
  refine ⟨fun q v hv => ?_, fun q => World.frozen?_setCell _ _ _ _⟩
  by_cases e : p = q
  · subst e
    rw [hp] at hv
    cases hv
    exact .inr (.inl ⟨x, z, rfl, World.cell?_setCell_same w p _ hp, hz⟩)
  · exact .inl (by rw [World.cell?_setCell_other w _ _ _ e]; exact hv)
theorem Sty.setB (w : World) (p : Addr) (x z : Bool) (hp : w.cell? p = some (.bool x)) : Sty w (w.setCell p (.bool z)) := by
  refine ⟨fun q v hv => ?_, fun q => World.frozen?_setCell _ _ _ _⟩
  by_cases e : p = q
  · subst e
    rw [hp] at hv
    cases hv
    exact .inr (.inr ⟨x, z, rfl, World.cell?_setCell_same w p _ hp⟩)
  · exact .inl (by rw [World.cell?_setCell_other w _ _ _ e]; exact hv)
theorem Sty.alloc (w : World) (c : Array Value) (t : TypeId) : Sty w (w.alloc (.cells c t)) :=
  ⟨fun p v hv => .inl (by
    have hb := World.block_lt_of_cell? w _ hv
    have hs := World.cell?_spot hv
    obtain ⟨b, o, s⟩ := p
    simp only at hs hb
    subst hs
    rw [World.cell?_alloc_past _ _ _ hb]; exact hv), fun p => frozen?_alloc_cells _ _ _ _⟩

/-- Only blocks of such numbers have changed. -/
structure Chg (D : Nat → Prop) (w w' : World) : Prop where
  os : w'.os = w.os
  tape : w'.tape = w.tape
  output : w'.output = w.output
  size : w.heap.size ≤ w'.heap.size
  block : ∀ i, i < w.heap.size → ¬ D i → w'.heap[i]? = w.heap[i]?
theorem Chg.refl (D : Nat → Prop) (w : World) : Chg D w w := ⟨rfl, rfl, rfl, Nat.le_refl _, fun _ _ _ => rfl⟩
theorem Chg.trans {D E : Nat → Prop} {a b c : World} (h : Chg D a b) (k : Chg E b c) (m : ∀ i, i < a.heap.size → E i → D i) : Chg D a c :=
  ⟨k.os.trans h.os, k.tape.trans h.tape, k.output.trans h.output, Nat.le_trans h.size k.size, fun i hi hs => (k.block i (Nat.lt_of_lt_of_le hi h.size) (fun t => hs (m i hi t))).trans (h.block i hi hs)⟩
theorem Chg.below {D : Nat → Prop} {a b : World} (h : Chg D a b) {B : Nat} (hB : B ≤ a.heap.size) (m : ∀ i, i < B → ¬ D i) : Below B a b :=
  ⟨h.os, h.tape, h.output, h.size, fun k hk => h.block k (Nat.lt_of_lt_of_le hk hB) (m k hk)⟩
theorem Chg.set {D : Nat → Prop} (w : World) (p : Addr) (v : Value) (hp : D p.block) : Chg D w (w.setCell p v) :=
  ⟨rfl, rfl, rfl, by rw [World.size_setCell]; exact Nat.le_refl _, fun k _ hs => Below.heap_setCell w p v k (fun e => hs (by rw [e]; exact hp))⟩
theorem Chg.alloc (D : Nat → Prop) (w : World) (o : Obj) : Chg D w (w.alloc o) :=
  ⟨rfl, rfl, rfl, by simp, fun k hk _ => Below.heap_alloc w o k hk⟩
theorem Chg.cell {D : Nat → Prop} {w w' : World} (c : Chg D w w') (b o : Nat) (hb : b < w.heap.size) (hs : ¬ D b) : w'.cell? ⟨b, o, none⟩ = w.cell? ⟨b, o, none⟩ :=
  World.cell?_of_block (w := w) (c.block b hb hs)
theorem Chg.frozen {D : Nat → Prop} {w w' : World} (c : Chg D w w') (b o : Nat) (hb : b < w.heap.size) (hs : ¬ D b) : w'.frozen? ⟨b, o, none⟩ = w.frozen? ⟨b, o, none⟩ :=
  World.frozen?_of_block (w := w) (c.block b hb hs)
/-- Marked: both. -/
structure Mkd (D : Nat → Prop) (w w' : World) : Prop where
  sty : Sty w w'
  chg : Chg D w w'
theorem Mkd.refl (D : Nat → Prop) (w : World) : Mkd D w w := ⟨Sty.refl _, Chg.refl _ _⟩
theorem Mkd.trans {D : Nat → Prop} {a b c : World} (h : Mkd D a b) (k : Mkd D b c) : Mkd D a c := ⟨h.sty.trans k.sty, h.chg.trans k.chg fun _ _ h => h⟩
theorem Mkd.set {D : Nat → Prop} {a w : World} (h : Mkd D a w) (p : Addr) (z : Int) (hd : D p.block) (hp : ∃ x, w.cell? p = some (.int .i64 x)) (hz : i64B z) : Mkd D a (w.setCell p (.int .i64 z)) := by
  obtain ⟨x, hx⟩ := hp
  exact h.trans ⟨Sty.set w p x z hx hz, Chg.set w p _ hd⟩
theorem Mkd.setB {D : Nat → Prop} {a w : World} (h : Mkd D a w) (p : Addr) (z : Bool) (hd : D p.block) (hp : ∃ x, w.cell? p = some (.bool x)) : Mkd D a (w.setCell p (.bool z)) := by
  obtain ⟨x, hx⟩ := hp
  exact h.trans ⟨Sty.setB w p x z hx, Chg.set w p _ hd⟩
theorem Mkd.alloc {D : Nat → Prop} {a w : World} (h : Mkd D a w) (c : Array Value) (t : TypeId) : Mkd D a (w.alloc (.cells c t)) :=
  h.trans ⟨Sty.alloc w c t, Chg.alloc _ _ _⟩
/-- What is of such numbers may be written. -/
def Thw (D : Nat → Prop) (w : World) : Prop := ∀ b o, D b → w.frozen? ⟨b, o, none⟩ = false
theorem Thw.mkd {D : Nat → Prop} {w w' : World} (h : Thw D w) (m : Mkd D w w') : Thw D w' := fun b o hb => (m.sty.frozen _).trans (h b o hb)

/-- Data of such a make, that are not great, lie in a row from a place on. -/
def Lies {α : Type} (R : Rep α) (D : Nat → Prop) (w : World) (b o : Nat) : Prop := ∃ vs x, R.holds D w vs x ∧ R.small x ∧ ∀ j v, vs[j]? = some v → w.cell? ⟨b, o + j, none⟩ = some v
def Sts {α : Type} (R : Rep α) : Prop := ∀ (D : Nat → Prop) (w w' : World) (b o : Nat), Lies R D w b o → Sty w w' → Lies R D w' b o
structure SlP {α : Type} (R : Rep α) (D : Nat → Prop) (w : World) (a : Option Addr) (len : Nat) : Prop where
  few : len ≤ 1048576
  rows : len = 0 ∨ ∃ b off, a = some ⟨b, off, none⟩ ∧ D b ∧ ∀ i, i < len → Lies R D w b (off + i * R.sz)
theorem SlP.of {α : Type} {R : Rep α} {D : Nat → Prop} {w : World} {a : Option Addr} {len : Nat} {xs : List α} (h : SlAt R D w a len xs) (hs : (Rep.list R).small xs) : SlP R D w a len := by
  have hl := h.size
  refine ⟨by rw [← hl]; exact hs.1, ?_⟩
  rcases h.cells with h0 | ⟨b, off, ha, hd, hc⟩
  · exact .inl h0
  · refine .inr ⟨b, off, ha, hd, fun i hi => ?_⟩
    obtain ⟨vs, h1, h2⟩ := hc i (xs[i]'(by omega)) (List.getElem?_eq_getElem _)
    exact ⟨vs, _, h1, hs.2 _ (List.getElem_mem _), h2⟩
theorem SlP.sty {α : Type} {R : Rep α} {D : Nat → Prop} {w w' : World} {a : Option Addr} {len : Nat} (hR : Sts R) (h : SlP R D w a len) (s : Sty w w') : SlP R D w' a len := by
  refine ⟨h.few, ?_⟩
  rcases h.rows with h0 | ⟨b, off, ha, hd, hc⟩
  · exact .inl h0
  · exact .inr ⟨b, off, ha, hd, fun i hi => hR _ _ _ _ _ (hc i hi) s⟩
theorem SlP.back {α : Type} [Inhabited α] {R : Rep α} {D : Nat → Prop} {w : World} {a : Option Addr} {len : Nat} (h : SlP R D w a len) : ∃ xs, SlAt R D w a len xs ∧ (Rep.list R).small xs := by
  have hf := h.few
  rcases h.rows with h0 | ⟨b, off, ha, hd, hc⟩
  · exact ⟨[], ⟨h0.symm, by omega, .inl h0⟩, by simp, by simp⟩
  · obtain ⟨K, hK⟩ := Go.Deep.choose_lt (n := len) (α := α) (p := fun i x => ∃ vs, R.holds D w vs x ∧ R.small x ∧ ∀ j v, vs[j]? = some v → w.cell? ⟨b, off + i * R.sz + j, none⟩ = some v) (fun i hi => by
      obtain ⟨vs, x, h1, h2, h3⟩ := hc i hi
      exact ⟨x, vs, h1, h2, h3⟩)
    refine ⟨(List.range len).map K, ⟨by simp, by omega, .inr ⟨b, off, ha, hd, fun i x hx => ?_⟩⟩, by simpa using hf, fun x hx => ?_⟩
    · have hi : i < len := by have := (List.getElem?_eq_some_iff.1 hx).1; simpa using this
      obtain ⟨vs, h1, _, h3⟩ := hK i hi
      have e : K i = x := by rw [List.getElem?_map, List.getElem?_range hi] at hx; simpa using hx
      rw [e] at h1
      exact ⟨vs, h1, h3⟩
    · obtain ⟨i, hi, rfl⟩ := List.mem_map.1 hx
      obtain ⟨vs, _, h2, _⟩ := hK i (List.mem_range.1 hi)
      exact h2
theorem Lies.int {D : Nat → Prop} {w : World} {b o : Nat} (h : Lies .int D w b o) : ∃ z, w.cell? ⟨b, o, none⟩ = some (.int .i64 z) := by
  obtain ⟨vs, x, ⟨rfl, _⟩, _, h3⟩ := h
  exact ⟨x, h3 0 _ rfl⟩
theorem Lies.bool {D : Nat → Prop} {w : World} {b o : Nat} (h : Lies .bool D w b o) : ∃ z, w.cell? ⟨b, o, none⟩ = some (.bool z) := by
  obtain ⟨vs, x, h1, _, h3⟩ := h
  have h1 : vs = [.bool x] := h1
  subst h1
  exact ⟨x, h3 0 _ rfl⟩
theorem Lies.list {α : Type} {R : Rep α} {D : Nat → Prop} {w : World} {b o : Nat} (h : Lies R.list D w b o) : ∃ a len cap, w.cell? ⟨b, o, none⟩ = some (.slice a len cap) ∧ SlP R D w a len := by
  obtain ⟨vs, xs, ⟨a, len, cap, rfl, hS⟩, hs, h3⟩ := h
  exact ⟨a, len, cap, h3 0 _ rfl, SlP.of hS hs⟩
theorem Lies.pair {α β : Type} {R : Rep α} {S : Rep β} {D : Nat → Prop} {w : World} {b o : Nat} (h : Lies (R.pair S) D w b o) : Lies R D w b o ∧ Lies S D w b (o + R.sz) := by
  obtain ⟨vs, ⟨x, y⟩, ⟨us, ws, rfl, h1, h2⟩, ⟨s1, s2⟩, h3⟩ := h
  have hl := R.len h1
  refine ⟨⟨us, x, h1, s1, fun j v hv => h3 j v ?_⟩, ⟨ws, y, h2, s2, fun j v hv => ?_⟩⟩
  · rw [List.getElem?_append_left (List.getElem?_eq_some_iff.1 hv).1]; exact hv
  · rw [Nat.add_assoc, ← hl]
    refine h3 (us.length + j) v ?_
    rw [List.getElem?_append_right (by omega), Nat.add_sub_cancel_left]; exact hv
theorem sts_int : Sts .int := by
  intro D w w' b o h s
  obtain ⟨vs, x, ⟨rfl, hx⟩, _, h3⟩ := h
  rcases s.cell _ _ (h3 0 _ rfl) with h1 | ⟨_, z, _, h1, hz⟩ | ⟨_, _, e, _⟩
  · exact ⟨[.int .i64 x], x, ⟨rfl, hx⟩, trivial, fun j v hv => by
      match j, hv with
      | 0, hv => simp at hv; subst hv; exact h1⟩
  · exact ⟨[.int .i64 z], z, ⟨rfl, hz⟩, trivial, fun j v hv => by
      match j, hv with
      | 0, hv => simp at hv; subst hv; exact h1⟩
  · cases e
theorem sts_bool : Sts .bool := by
  intro D w w' b o h s
  obtain ⟨vs, x, h1, _, h3⟩ := h
  have h1 : vs = [.bool x] := h1
  subst h1
  rcases s.cell _ _ (h3 0 _ rfl) with h1 | ⟨_, _, e, _⟩ | ⟨_, z, _, h1⟩
  · exact ⟨[.bool x], x, rfl, trivial, fun j v hv => by
      match j, hv with
      | 0, hv => simp at hv; subst hv; exact h1⟩
  · cases e
  · exact ⟨[.bool z], z, rfl, trivial, fun j v hv => by
      match j, hv with
      | 0, hv => simp at hv; subst hv; exact h1⟩
theorem sts_list {α : Type} [Inhabited α] {R : Rep α} (hR : Sts R) : Sts R.list := by
  intro D w w' b o h s
  obtain ⟨a, len, cap, hc, hP⟩ := h.list
  obtain ⟨xs, hS, hs⟩ := (hP.sty hR s).back
  refine ⟨[.slice a len cap], xs, ⟨a, len, cap, rfl, hS⟩, hs, fun j v hv => ?_⟩
  match j, hv with
  | 0, hv =>
    simp at hv
    subst hv
    rcases s.cell _ _ hc with h1 | ⟨_, _, e, _⟩ | ⟨_, _, e, _⟩
    · exact h1
    · cases e
    · cases e
theorem sts_pair {α β : Type} {R : Rep α} {S : Rep β} (h1 : Sts R) (h2 : Sts S) : Sts (R.pair S) := by
  intro D w w' b o h s
  obtain ⟨ha, hb⟩ := h.pair
  obtain ⟨us, x, k1, k2, k3⟩ := h1 _ _ _ _ _ ha s
  obtain ⟨ws, y, l1, l2, l3⟩ := h2 _ _ _ _ _ hb s
  have hl := R.len k1
  refine ⟨us ++ ws, (x, y), ⟨us, ws, rfl, k1, l1⟩, ⟨k2, l2⟩, fun j v hv => ?_⟩
  by_cases hj : j < us.length
  · rw [List.getElem?_append_left hj] at hv
    exact k3 j v hv
  · rw [List.getElem?_append_right (by omega)] at hv
    have := l3 _ v hv
    rw [show o + R.sz + (j - us.length) = o + j by omega] at this
    exact this

/-- What marking gives. -/
def MarkP (D : Nat → Prop) (w : World) (k B : Int) (e : Ending) (w' : World) : Prop := ∃ r : Int, e = .returned (.int .i64 r) ∧ k ≤ r ∧ r ≤ k + B ∧ Mkd D w w'
theorem markLInt (a : Option Addr) (n c : Nat) (k : Int) (w : World) {D : Nat → Prop} (h : SlP intR D w a n) (hz : Thw D w) (k0 : 0 ≤ k) (k1 : k ≤ 4611686018427387904) :
    Calls Tryz.prog 37 #[.slice a n c, .int .i64 k] w fun e w' => MarkP D w k 1048576 e w' := by
  have hn := h.few
  have H : Hid (SlP intR D w a n) := h
  have HZ : Hid (Thw D w) := hz
  clear h hz
  go_enter Tryz.func37, Tryz.ntmps37
  go_wp2_with fail
  go_loopw [1, 5] (fun s t wr => ∃ i : Nat, i ≤ n ∧ t = .int .i64 i ∧ s = .int .i64 (k + i) ∧ Mkd D w wr) (fun _ t _ => n - (intOf t).toNat)
  case atStart => exact ⟨0, Nat.zero_le _, rfl, by simp, Mkd.refl _ _⟩
  case round =>
    obtain ⟨i, hi, rfl, rfl, hm⟩ := hrel
    have HM : Hid (Mkd D w wr) := hm
    clear hm
    by_cases hlt : i < n
    · obtain ⟨b, off, rfl, hd, z, hc⟩ : ∃ b off, a = some ⟨b, off, none⟩ ∧ D b ∧ ∃ z, wr.cell? ⟨b, off + i, none⟩ = some (.int .i64 z) := by
        rcases (H.out.sty sts_int HM.out.sty).rows with h0 | ⟨b, off, ha, hd, hr⟩
        · omega
        · obtain ⟨z, hz⟩ := (hr i hlt).int
          exact ⟨b, off, ha, hd, z, by simpa [Rep.int] using hz⟩
      have hf := (HZ.out.mkd HM.out) b (off + i) hd
      have HM2 : Hid (Mkd D w (wr.setCell ⟨b, off + i, none⟩ (.int .i64 (k + i)))) := HM.out.set _ _ hd ⟨z, hc⟩ ⟨by omega, by omega⟩
      go_wp2_with fail
      exact ⟨⟨i + 1, by omega, by go_num, by rw [show k + (i : Int) + 1 = k + ((i + 1 : Nat) : Int) by omega], HM2.out⟩, by simp [intOf]; omega⟩
    · have ei : i = n := by omega
      subst ei
      go_wp2_with fail
      go_ret
      exact ⟨_, rfl, by omega, by omega, HM.out⟩

/-- A list in memory that may be written, of whose numbers one knows. -/
structure Wri (w : World) (a : Option Addr) (n : Nat) (f : Nat → Int) : Prop where
  cells : n = 0 ∨ ∃ b off, a = some ⟨b, off, none⟩ ∧ ∀ j, j < n → w.cell? ⟨b, off + j, none⟩ = some (.int .i64 (f j)) ∧ w.frozen? ⟨b, off + j, none⟩ = false
theorem Wri.keep {w w' : World} {n : Nat} {a : Option Addr} {f : Nat → Int} {D : Nat → Prop} (h : Wri w a n f) (c : Chg D w w') (hS : ∀ x, a = some x → 0 < n → ¬ D x.block) : Wri w' a n f := by
  rcases h.cells with h0 | ⟨g, off, rfl, hc⟩
  · exact ⟨.inl h0⟩
  · refine ⟨.inr ⟨g, off, rfl, fun j hj => ?_⟩⟩
    have hl := World.block_lt_of_cell? w _ (hc j hj).1
    have hn := hS _ rfl (by omega)
    exact ⟨by rw [c.cell g _ hl hn]; exact (hc j hj).1, by rw [c.frozen g _ hl hn]; exact (hc j hj).2⟩
theorem Wri.later {w w' : World} {n : Nat} {a : Option Addr} {f : Nat → Int} (h : Wri w a n f) (b : Below w.heap.size w w') : Wri w' a n f := by
  rcases h.cells with h0 | ⟨g, off, ha, hc⟩
  · exact ⟨.inl h0⟩
  · refine ⟨.inr ⟨g, off, ha, fun j hj => ?_⟩⟩
    have hl := World.block_lt_of_cell? w _ (hc j hj).1
    exact ⟨by rw [b.cell hl]; exact (hc j hj).1, by rw [b.frozen hl]; exact (hc j hj).2⟩
theorem Wri.sl {w : World} {n : Nat} {a : Option Addr} {xs : List Int} (h : Wri w a n (fun j => xs.getD j 0)) (hs : xs.length = n) (hn : n ≤ 1048576) (hf : ∀ j, i64B (xs.getD j 0)) : SlAt intR (fun _ => True) w a n xs :=
  IntsAt.sl ⟨hs, by omega, by
    rcases h.cells with h0 | ⟨g, off, ha, hc⟩
    · exact .inl h0
    · exact .inr ⟨g, off, ha, trivial, fun j hj => (hc j hj).1⟩, hf⟩
theorem markOwn (a : Option Addr) (n c : Nat) (k : Int) (f : Nat → Int) (w : World) (h : Wri w a n f) (hn : n ≤ 1048576) (k0 : 0 ≤ k) (k1 : k ≤ 4000000000000) :
    Calls Tryz.prog 37 #[.slice a n c, .int .i64 k] w fun e w' => e = .returned (.int .i64 (k + n)) ∧ Wri w' a n (fun j => k + j) ∧ Chg (fun i => ∃ x, a = some x ∧ x.block = i ∧ 0 < n) w w' := by
  by_cases hn0 : n = 0
  · subst hn0
    go_enter Tryz.func37, Tryz.ntmps37
    go_wp2_with fail
    refine wp_loop_rounds 1 ?_
    rw [rounds_succ]
    go_wp2_with fail
    go_ret
    exact ⟨by simp, ⟨.inl rfl⟩, Chg.refl _ _⟩
  · obtain ⟨b, off, rfl, hc⟩ : ∃ b off, a = some ⟨b, off, none⟩ ∧ ∀ j, j < n → w.cell? ⟨b, off + j, none⟩ = some (.int .i64 (f j)) ∧ w.frozen? ⟨b, off + j, none⟩ = false := by
      rcases h.cells with h0 | h0
      · omega
      · exact h0
    have HC : Hid (∀ j, j < n → w.cell? ⟨b, off + j, none⟩ = some (.int .i64 (f j)) ∧ w.frozen? ⟨b, off + j, none⟩ = false) := hc
    clear h hc
    go_enter Tryz.func37, Tryz.ntmps37
    go_wp2_with fail
    go_loopw [1, 5] (fun s t wr => ∃ i : Nat, i ≤ n ∧ t = .int .i64 i ∧ s = .int .i64 (k + i) ∧ (∀ j, j < n → wr.cell? ⟨b, off + j, none⟩ = some (.int .i64 (if j < i then k + j else f j)) ∧ wr.frozen? ⟨b, off + j, none⟩ = false) ∧ Chg (fun i => i = b) w wr) (fun _ t _ => n - (intOf t).toNat)
    case atStart => exact ⟨0, Nat.zero_le _, rfl, by simp, fun j hj => by simpa using HC.out j hj, Chg.refl _ _⟩
    case round =>
      obtain ⟨i, hi, rfl, rfl, hr, hch⟩ := hrel
      have HR : Hid (∀ j, j < n → wr.cell? ⟨b, off + j, none⟩ = some (.int .i64 (if j < i then k + j else f j)) ∧ wr.frozen? ⟨b, off + j, none⟩ = false) := hr
      have HCh : Hid (Chg (fun i => i = b) w wr) := hch
      clear hr hch
      by_cases hlt : i < n
      · have c1 := (HR.out i hlt).1
        have c2 := (HR.out i hlt).2
        rw [if_neg (by omega)] at c1
        go_wp2_with fail
        refine ⟨⟨i + 1, by omega, by go_num, ?_, fun j hj => ⟨?_, ?_⟩, HCh.out.trans (Chg.set (D := fun i => i = b) _ _ _ rfl) (fun _ _ h => h)⟩, by simp [intOf]; omega⟩
        · rw [show k + (i : Int) + 1 = k + ((i + 1 : Nat) : Int) by omega]
        · by_cases e : j = i
          · subst e
            rw [World.cell?_setCell_same wr _ _ (HR.out j hj).1, if_pos (by omega)]
          · rw [World.cell?_setCell_other wr _ _ _ (by intro e'; have := congrArg Addr.off e'; simp at this; omega), (HR.out j hj).1]
            by_cases e2 : j < i
            · rw [if_pos e2, if_pos (by omega)]
            · rw [if_neg e2, if_neg (by omega)]
        · rw [World.frozen?_setCell]; exact (HR.out j hj).2
      · have ei : i = n := by omega
        subst ei
        go_wp2_with fail
        go_ret
        refine ⟨rfl, ⟨.inr ⟨b, off, rfl, fun j hj => ?_⟩⟩, (Chg.refl _ _).trans HCh.out (fun j _ e => ⟨_, rfl, e.symm, by omega⟩)⟩
        have := HR.out j hj
        rwa [if_pos hj] at this
theorem heldOwn (a : Option Addr) (n c : Nat) (k : Int) (w : World) (h : Wri w a n (fun j => k + j)) (hn : n ≤ 1048576) (k0 : 0 ≤ k) (k1 : k ≤ 4000000000000) :
    Calls Tryz.prog 40 #[.slice a n c, .int .i64 k] w fun e w' => e = .returned (.int .i64 (k + n)) ∧ w = w' := by
  have HC : Hid (Wri w a n (fun j => k + j)) := h
  clear h
  go_enter Tryz.func40, Tryz.ntmps40
  go_wp2_with fail
  go_loop [1, 5] (fun s t => ∃ i : Nat, i ≤ n ∧ t = .int .i64 i ∧ s = .int .i64 (k + i)) (fun _ t => n - (intOf t).toNat)
  case atStart => exact ⟨0, Nat.zero_le _, rfl, by simp⟩
  case round =>
    obtain ⟨i, hi, rfl, rfl⟩ := hrel
    by_cases hlt : i < n
    · obtain ⟨b, off, rfl, hc⟩ : ∃ b off, a = some ⟨b, off, none⟩ ∧ w.cell? ⟨b, off + i, none⟩ = some (.int .i64 (k + i)) := by
        rcases HC.out.cells with h0 | ⟨b, off, ha, hc⟩
        · omega
        · exact ⟨b, off, ha, (hc i hlt).1⟩
      have e1 : ((k + (i : Int)) != (k + (i : Int))) = false := by simp
      go_wp2_with fail
      exact ⟨⟨i + 1, by omega, by go_num, by rw [show k + (i : Int) + 1 = k + ((i + 1 : Nat) : Int) by omega]⟩, by simp [intOf]; omega⟩
    · have ei : i = n := by omega
      subst ei
      go_wp2_with fail
      go_ret
      exact ⟨rfl, rfl⟩

end Go.Proofs.YthdlccadcadopaaGreat
namespace Go.Proofs.YthdlccadcadopaaGreat
open Go.ChangeShapes Go.WideShapes Go.ChangeAt Go.RowKit

theorem Sty.slice {w w' : World} (s : Sty w w') {p : Addr} {a : Option Addr} {l c : Nat} (h : w.cell? p = some (.slice a l c)) : w'.cell? p = some (.slice a l c) := by
  rcases s.cell _ _ h with h1 | ⟨_, _, e, _⟩ | ⟨_, _, e, _⟩
  · exact h1
  · cases e
  · cases e
theorem Sty.int {w w' : World} (s : Sty w w') {p : Addr} {x : Int} (h : w.cell? p = some (.int .i64 x)) : ∃ z, w'.cell? p = some (.int .i64 z) := by
  rcases s.cell _ _ h with h1 | ⟨_, z, _, h1, _⟩ | ⟨_, _, e, _⟩
  · exact ⟨_, h1⟩
  · exact ⟨z, h1⟩
  · cases e
theorem Sty.bool {w w' : World} (s : Sty w w') {p : Addr} {x : Bool} (h : w.cell? p = some (.bool x)) : ∃ z, w'.cell? p = some (.bool z) := by
  rcases s.cell _ _ h with h1 | ⟨_, _, e, _⟩ | ⟨_, z, _, h1⟩
  · exact ⟨_, h1⟩
  · cases e
  · exact ⟨z, h1⟩
theorem sts_Class : Sts clR := (sts_pair sts_int (sts_list sts_int))
theorem sts_Ins : Sts inR := (sts_pair sts_int (sts_pair sts_int sts_int))
theorem sts_Shape : Sts shR := (sts_pair sts_bool (sts_pair (sts_list sts_int) (sts_list sts_int)))
theorem sts_Catch : Sts caR := (sts_pair sts_int (sts_pair sts_int (sts_pair sts_int sts_int)))
theorem sts_Method : Sts meR := (sts_pair sts_int (sts_pair sts_int (sts_pair (sts_list sts_int) (sts_pair sts_int (sts_pair sts_int (sts_pair (sts_list sts_Ins) (sts_pair (sts_list sts_Shape) (sts_list sts_Catch))))))))
theorem sts_Val : Sts vaR := (sts_pair sts_bool sts_int)
theorem sts_Obj : Sts obR := (sts_pair sts_int (sts_list sts_Val))
set_option maxRecDepth 100000 in
set_option maxHeartbeats 4000000 in
theorem markLClass (a : Option Addr) (n c : Nat) (k : Int) (w : World) {D : Nat → Prop} (h : SlP clR D w a n) (hz : Thw D w) (k0 : 0 ≤ k) (k1 : k ≤ 4611681620380876800) :
    Calls Tryz.prog 33 #[.slice a n c, .int .i64 k] w fun e w' => MarkP D w k 1099512676352 e w' := by
  have hn := h.few
  have H : Hid (SlP clR D w a n) := h
  have HZ : Hid (Thw D w) := hz
  clear h hz
  go_enter Tryz.func33, Tryz.ntmps33
  go_wp2_with fail
  go_loopw [1, 5] (fun s t wr => ∃ (i : Nat) (r : Int), i ≤ n ∧ t = .int .i64 i ∧ s = .int .i64 r ∧ k ≤ r ∧ r ≤ k + i * 1048577 ∧ Mkd D w wr) (fun _ t _ => n - (intOf t).toNat)
  case atStart => exact ⟨0, k, Nat.zero_le _, rfl, rfl, by omega, by omega, Mkd.refl _ _⟩
  case round =>
    obtain ⟨i, r, hi, rfl, rfl, r0, r1, hm⟩ := hrel
    have HM : Hid (Mkd D w wr) := hm
    clear hm
    by_cases hlt : i < n
    case neg =>
      have ei : i = n := by omega
      subst ei
      go_wp2_with fail
      go_ret
      exact ⟨_, rfl, by omega, by omega, HM.out⟩
    obtain ⟨b, off, rfl, hd, hL⟩ : ∃ b off, a = some ⟨b, off, none⟩ ∧ D b ∧ Lies clR D wr b (off + i * 2) := by
      rcases (H.out.sty sts_Class HM.out.sty).rows with h0 | ⟨b, off, ha, hd, hr⟩
      · omega
      · exact ⟨b, off, ha, hd, hr i hlt⟩
    obtain ⟨g0, hL1⟩ := hL.pair
    obtain ⟨z0, c0⟩ : ∃ z, wr.cell? ⟨b, off + i * 2, none⟩ = some (.int .i64 z) := g0.int
    obtain ⟨fa1, fl1, fc1, c1, P1⟩ : ∃ fa fl fc, wr.cell? ⟨b, off + i * 2 + 1, none⟩ = some (.slice fa fl fc) ∧ SlP intR D wr fa fl := hL1.list
    have Q1 : Hid (SlP intR D wr fa1 fl1) := P1
    clear P1
    have C0 : Hid (wr.cell? ⟨b, off + i * 2, none⟩ = some _) := c0
    have C1 : Hid (wr.cell? ⟨b, off + i * 2 + 1, none⟩ = some _) := c1
    have FR : Hid (∀ x, Mkd D w x → ∀ o, x.frozen? ⟨b, o, none⟩ = false) := fun x hx o => (HZ.out.mkd hx) b o hd
    clear hL g0 hL1
    have f0 := FR.out _ HM.out (off + i * 2)
    have S : Hid (Sty wr wr) := Sty.refl _
    have M0 : Hid (Mkd D w (wr.setCell ⟨b, off + i * 2, none⟩ (.int .i64 (r)))) := HM.out.set _ _ hd (S.out.int C0.out) ⟨by omega, by omega⟩
    have S0 : Hid (Sty wr (wr.setCell ⟨b, off + i * 2, none⟩ (.int .i64 (r)))) := by obtain ⟨z, hz⟩ := S.out.int C0.out; exact S.out.trans (Sty.set _ _ _ _ hz ⟨by omega, by omega⟩)
    go_wp2_with fail
    refine (markLInt _ _ _ _ _ (D := D) (Q1.out.sty sts_int S0.out) (HZ.out.mkd M0.out) (by omega) (by omega)).mono ?_
    rintro e w1 ⟨k1, rfl, a1, b1, hm⟩
    have M1 : Hid (Mkd D w w1) := M0.out.trans hm
    have S1 : Hid (Sty wr w1) := S0.out.trans hm.sty
    clear hm c0 c1 f0
    obtain ⟨z0_1, c0⟩ := S1.out.int C0.out
    have c1 := S1.out.slice C1.out
    have f0 := FR.out _ M1.out (off + i * 2)
    go_wp2_with fail
    exact ⟨⟨i + 1, _, by omega, by go_num, rfl, by omega, by omega, M1.out⟩, by simp [intOf]; omega⟩

set_option maxRecDepth 100000 in
set_option maxHeartbeats 4000000 in
theorem markLIns (a : Option Addr) (n c : Nat) (k : Int) (w : World) {D : Nat → Prop} (h : SlP inR D w a n) (hz : Thw D w) (k0 : 0 ≤ k) (k1 : k ≤ 4611686018427387904) :
    Calls Tryz.prog 71 #[.slice a n c, .int .i64 k] w fun e w' => MarkP D w k 3145728 e w' := by
  have hn := h.few
  have H : Hid (SlP inR D w a n) := h
  have HZ : Hid (Thw D w) := hz
  clear h hz
  go_enter Tryz.func71, Tryz.ntmps71
  go_wp2_with fail
  go_loopw [1, 5] (fun s t wr => ∃ (i : Nat) (r : Int), i ≤ n ∧ t = .int .i64 i ∧ s = .int .i64 r ∧ k ≤ r ∧ r ≤ k + i * 3 ∧ Mkd D w wr) (fun _ t _ => n - (intOf t).toNat)
  case atStart => exact ⟨0, k, Nat.zero_le _, rfl, rfl, by omega, by omega, Mkd.refl _ _⟩
  case round =>
    obtain ⟨i, r, hi, rfl, rfl, r0, r1, hm⟩ := hrel
    have HM : Hid (Mkd D w wr) := hm
    clear hm
    by_cases hlt : i < n
    case neg =>
      have ei : i = n := by omega
      subst ei
      go_wp2_with fail
      go_ret
      exact ⟨_, rfl, by omega, by omega, HM.out⟩
    obtain ⟨b, off, rfl, hd, hL⟩ : ∃ b off, a = some ⟨b, off, none⟩ ∧ D b ∧ Lies inR D wr b (off + i * 3) := by
      rcases (H.out.sty sts_Ins HM.out.sty).rows with h0 | ⟨b, off, ha, hd, hr⟩
      · omega
      · exact ⟨b, off, ha, hd, hr i hlt⟩
    obtain ⟨g0, hL1⟩ := hL.pair
    obtain ⟨z0, c0⟩ : ∃ z, wr.cell? ⟨b, off + i * 3, none⟩ = some (.int .i64 z) := g0.int
    obtain ⟨g1, hL2⟩ := hL1.pair
    obtain ⟨z1, c1⟩ : ∃ z, wr.cell? ⟨b, off + i * 3 + 1, none⟩ = some (.int .i64 z) := g1.int
    obtain ⟨z2, c2⟩ : ∃ z, wr.cell? ⟨b, off + i * 3 + 2, none⟩ = some (.int .i64 z) := hL2.int
    have C0 : Hid (wr.cell? ⟨b, off + i * 3, none⟩ = some _) := c0
    have C1 : Hid (wr.cell? ⟨b, off + i * 3 + 1, none⟩ = some _) := c1
    have C2 : Hid (wr.cell? ⟨b, off + i * 3 + 2, none⟩ = some _) := c2
    have FR : Hid (∀ x, Mkd D w x → ∀ o, x.frozen? ⟨b, o, none⟩ = false) := fun x hx o => (HZ.out.mkd hx) b o hd
    clear hL g0 hL1 g1 hL2
    have f0 := FR.out _ HM.out (off + i * 3)
    have f1 := FR.out _ HM.out (off + i * 3 + 1)
    have f2 := FR.out _ HM.out (off + i * 3 + 2)
    have S : Hid (Sty wr wr) := Sty.refl _
    have M0 : Hid (Mkd D w (wr.setCell ⟨b, off + i * 3, none⟩ (.int .i64 (r)))) := HM.out.set _ _ hd (S.out.int C0.out) ⟨by omega, by omega⟩
    have S0 : Hid (Sty wr (wr.setCell ⟨b, off + i * 3, none⟩ (.int .i64 (r)))) := by obtain ⟨z, hz⟩ := S.out.int C0.out; exact S.out.trans (Sty.set _ _ _ _ hz ⟨by omega, by omega⟩)
    have M1 : Hid (Mkd D w ((wr.setCell ⟨b, off + i * 3, none⟩ (.int .i64 (r))).setCell ⟨b, off + i * 3 + 1, none⟩ (.int .i64 (r + 1)))) := M0.out.set _ _ hd (S0.out.int C1.out) ⟨by omega, by omega⟩
    have S1 : Hid (Sty wr ((wr.setCell ⟨b, off + i * 3, none⟩ (.int .i64 (r))).setCell ⟨b, off + i * 3 + 1, none⟩ (.int .i64 (r + 1)))) := by obtain ⟨z, hz⟩ := S0.out.int C1.out; exact S0.out.trans (Sty.set _ _ _ _ hz ⟨by omega, by omega⟩)
    have M2 : Hid (Mkd D w (((wr.setCell ⟨b, off + i * 3, none⟩ (.int .i64 (r))).setCell ⟨b, off + i * 3 + 1, none⟩ (.int .i64 (r + 1))).setCell ⟨b, off + i * 3 + 2, none⟩ (.int .i64 (r + 1 + 1)))) := M1.out.set _ _ hd (S1.out.int C2.out) ⟨by omega, by omega⟩
    have S2 : Hid (Sty wr (((wr.setCell ⟨b, off + i * 3, none⟩ (.int .i64 (r))).setCell ⟨b, off + i * 3 + 1, none⟩ (.int .i64 (r + 1))).setCell ⟨b, off + i * 3 + 2, none⟩ (.int .i64 (r + 1 + 1)))) := by obtain ⟨z, hz⟩ := S1.out.int C2.out; exact S1.out.trans (Sty.set _ _ _ _ hz ⟨by omega, by omega⟩)
    go_wp2_with fail
    exact ⟨⟨i + 1, _, by omega, by go_num, rfl, by omega, by omega, M2.out⟩, by simp [intOf]; omega⟩

set_option maxRecDepth 100000 in
set_option maxHeartbeats 4000000 in
theorem markLShape (a : Option Addr) (n c : Nat) (k : Int) (w : World) {D : Nat → Prop} (h : SlP shR D w a n) (hz : Thw D w) (k0 : 0 ≤ k) (k1 : k ≤ 4611681620380876800) :
    Calls Tryz.prog 72 #[.slice a n c, .int .i64 k] w fun e w' => MarkP D w k 2199024304128 e w' := by
  have hn := h.few
  have H : Hid (SlP shR D w a n) := h
  have HZ : Hid (Thw D w) := hz
  clear h hz
  go_enter Tryz.func72, Tryz.ntmps72
  go_wp2_with fail
  go_loopw [1, 5] (fun s t wr => ∃ (i : Nat) (r : Int), i ≤ n ∧ t = .int .i64 i ∧ s = .int .i64 r ∧ k ≤ r ∧ r ≤ k + i * 2097153 ∧ Mkd D w wr) (fun _ t _ => n - (intOf t).toNat)
  case atStart => exact ⟨0, k, Nat.zero_le _, rfl, rfl, by omega, by omega, Mkd.refl _ _⟩
  case round =>
    obtain ⟨i, r, hi, rfl, rfl, r0, r1, hm⟩ := hrel
    have HM : Hid (Mkd D w wr) := hm
    clear hm
    by_cases hlt : i < n
    case neg =>
      have ei : i = n := by omega
      subst ei
      go_wp2_with fail
      go_ret
      exact ⟨_, rfl, by omega, by omega, HM.out⟩
    obtain ⟨b, off, rfl, hd, hL⟩ : ∃ b off, a = some ⟨b, off, none⟩ ∧ D b ∧ Lies shR D wr b (off + i * 3) := by
      rcases (H.out.sty sts_Shape HM.out.sty).rows with h0 | ⟨b, off, ha, hd, hr⟩
      · omega
      · exact ⟨b, off, ha, hd, hr i hlt⟩
    obtain ⟨g0, hL1⟩ := hL.pair
    obtain ⟨z0, c0⟩ : ∃ z, wr.cell? ⟨b, off + i * 3, none⟩ = some (.bool z) := g0.bool
    obtain ⟨g1, hL2⟩ := hL1.pair
    obtain ⟨fa1, fl1, fc1, c1, P1⟩ : ∃ fa fl fc, wr.cell? ⟨b, off + i * 3 + 1, none⟩ = some (.slice fa fl fc) ∧ SlP intR D wr fa fl := g1.list
    have Q1 : Hid (SlP intR D wr fa1 fl1) := P1
    clear P1
    obtain ⟨fa2, fl2, fc2, c2, P2⟩ : ∃ fa fl fc, wr.cell? ⟨b, off + i * 3 + 2, none⟩ = some (.slice fa fl fc) ∧ SlP intR D wr fa fl := hL2.list
    have Q2 : Hid (SlP intR D wr fa2 fl2) := P2
    clear P2
    have C0 : Hid (wr.cell? ⟨b, off + i * 3, none⟩ = some _) := c0
    have C1 : Hid (wr.cell? ⟨b, off + i * 3 + 1, none⟩ = some _) := c1
    have C2 : Hid (wr.cell? ⟨b, off + i * 3 + 2, none⟩ = some _) := c2
    have FR : Hid (∀ x, Mkd D w x → ∀ o, x.frozen? ⟨b, o, none⟩ = false) := fun x hx o => (HZ.out.mkd hx) b o hd
    clear hL g0 hL1 g1 hL2
    have f0 := FR.out _ HM.out (off + i * 3)
    have S : Hid (Sty wr wr) := Sty.refl _
    have M0 : Hid (Mkd D w (wr.setCell ⟨b, off + i * 3, none⟩ (.bool (r % 3 == 0)))) := HM.out.setB _ _ hd (S.out.bool C0.out)
    have S0 : Hid (Sty wr (wr.setCell ⟨b, off + i * 3, none⟩ (.bool (r % 3 == 0)))) := by obtain ⟨z, hz⟩ := S.out.bool C0.out; exact S.out.trans (Sty.setB _ _ _ _ hz)
    go_wp2_with fail
    refine (markLInt _ _ _ _ _ (D := D) (Q1.out.sty sts_int S0.out) (HZ.out.mkd M0.out) (by omega) (by omega)).mono ?_
    rintro e w1 ⟨k1, rfl, a1, b1, hm⟩
    have M1 : Hid (Mkd D w w1) := M0.out.trans hm
    have S1 : Hid (Sty wr w1) := S0.out.trans hm.sty
    clear hm c0 c1 c2 f0
    obtain ⟨z0_1, c0⟩ := S1.out.bool C0.out
    have c1 := S1.out.slice C1.out
    have c2 := S1.out.slice C2.out
    have f0 := FR.out _ M1.out (off + i * 3)
    go_wp2_with fail
    refine (markLInt _ _ _ _ _ (D := D) (Q2.out.sty sts_int S1.out) (HZ.out.mkd M1.out) (by omega) (by omega)).mono ?_
    rintro e w2 ⟨k2, rfl, a2, b2, hm⟩
    have M2 : Hid (Mkd D w w2) := M1.out.trans hm
    have S2 : Hid (Sty wr w2) := S1.out.trans hm.sty
    clear hm c0 c1 c2 f0
    obtain ⟨z0_2, c0⟩ := S2.out.bool C0.out
    have c1 := S2.out.slice C1.out
    have c2 := S2.out.slice C2.out
    have f0 := FR.out _ M2.out (off + i * 3)
    go_wp2_with fail
    exact ⟨⟨i + 1, _, by omega, by go_num, rfl, by omega, by omega, M2.out⟩, by simp [intOf]; omega⟩

set_option maxRecDepth 100000 in
set_option maxHeartbeats 4000000 in
theorem markLCatch (a : Option Addr) (n c : Nat) (k : Int) (w : World) {D : Nat → Prop} (h : SlP caR D w a n) (hz : Thw D w) (k0 : 0 ≤ k) (k1 : k ≤ 4611686018427387904) :
    Calls Tryz.prog 73 #[.slice a n c, .int .i64 k] w fun e w' => MarkP D w k 4194304 e w' := by
  have hn := h.few
  have H : Hid (SlP caR D w a n) := h
  have HZ : Hid (Thw D w) := hz
  clear h hz
  go_enter Tryz.func73, Tryz.ntmps73
  go_wp2_with fail
  go_loopw [1, 5] (fun s t wr => ∃ (i : Nat) (r : Int), i ≤ n ∧ t = .int .i64 i ∧ s = .int .i64 r ∧ k ≤ r ∧ r ≤ k + i * 4 ∧ Mkd D w wr) (fun _ t _ => n - (intOf t).toNat)
  case atStart => exact ⟨0, k, Nat.zero_le _, rfl, rfl, by omega, by omega, Mkd.refl _ _⟩
  case round =>
    obtain ⟨i, r, hi, rfl, rfl, r0, r1, hm⟩ := hrel
    have HM : Hid (Mkd D w wr) := hm
    clear hm
    by_cases hlt : i < n
    case neg =>
      have ei : i = n := by omega
      subst ei
      go_wp2_with fail
      go_ret
      exact ⟨_, rfl, by omega, by omega, HM.out⟩
    obtain ⟨b, off, rfl, hd, hL⟩ : ∃ b off, a = some ⟨b, off, none⟩ ∧ D b ∧ Lies caR D wr b (off + i * 4) := by
      rcases (H.out.sty sts_Catch HM.out.sty).rows with h0 | ⟨b, off, ha, hd, hr⟩
      · omega
      · exact ⟨b, off, ha, hd, hr i hlt⟩
    obtain ⟨g0, hL1⟩ := hL.pair
    obtain ⟨z0, c0⟩ : ∃ z, wr.cell? ⟨b, off + i * 4, none⟩ = some (.int .i64 z) := g0.int
    obtain ⟨g1, hL2⟩ := hL1.pair
    obtain ⟨z1, c1⟩ : ∃ z, wr.cell? ⟨b, off + i * 4 + 1, none⟩ = some (.int .i64 z) := g1.int
    obtain ⟨g2, hL3⟩ := hL2.pair
    obtain ⟨z2, c2⟩ : ∃ z, wr.cell? ⟨b, off + i * 4 + 2, none⟩ = some (.int .i64 z) := g2.int
    obtain ⟨z3, c3⟩ : ∃ z, wr.cell? ⟨b, off + i * 4 + 3, none⟩ = some (.int .i64 z) := hL3.int
    have C0 : Hid (wr.cell? ⟨b, off + i * 4, none⟩ = some _) := c0
    have C1 : Hid (wr.cell? ⟨b, off + i * 4 + 1, none⟩ = some _) := c1
    have C2 : Hid (wr.cell? ⟨b, off + i * 4 + 2, none⟩ = some _) := c2
    have C3 : Hid (wr.cell? ⟨b, off + i * 4 + 3, none⟩ = some _) := c3
    have FR : Hid (∀ x, Mkd D w x → ∀ o, x.frozen? ⟨b, o, none⟩ = false) := fun x hx o => (HZ.out.mkd hx) b o hd
    clear hL g0 hL1 g1 hL2 g2 hL3
    have f0 := FR.out _ HM.out (off + i * 4)
    have f1 := FR.out _ HM.out (off + i * 4 + 1)
    have f2 := FR.out _ HM.out (off + i * 4 + 2)
    have f3 := FR.out _ HM.out (off + i * 4 + 3)
    have S : Hid (Sty wr wr) := Sty.refl _
    have M0 : Hid (Mkd D w (wr.setCell ⟨b, off + i * 4, none⟩ (.int .i64 (r)))) := HM.out.set _ _ hd (S.out.int C0.out) ⟨by omega, by omega⟩
    have S0 : Hid (Sty wr (wr.setCell ⟨b, off + i * 4, none⟩ (.int .i64 (r)))) := by obtain ⟨z, hz⟩ := S.out.int C0.out; exact S.out.trans (Sty.set _ _ _ _ hz ⟨by omega, by omega⟩)
    have M1 : Hid (Mkd D w ((wr.setCell ⟨b, off + i * 4, none⟩ (.int .i64 (r))).setCell ⟨b, off + i * 4 + 1, none⟩ (.int .i64 (r + 1)))) := M0.out.set _ _ hd (S0.out.int C1.out) ⟨by omega, by omega⟩
    have S1 : Hid (Sty wr ((wr.setCell ⟨b, off + i * 4, none⟩ (.int .i64 (r))).setCell ⟨b, off + i * 4 + 1, none⟩ (.int .i64 (r + 1)))) := by obtain ⟨z, hz⟩ := S0.out.int C1.out; exact S0.out.trans (Sty.set _ _ _ _ hz ⟨by omega, by omega⟩)
    have M2 : Hid (Mkd D w (((wr.setCell ⟨b, off + i * 4, none⟩ (.int .i64 (r))).setCell ⟨b, off + i * 4 + 1, none⟩ (.int .i64 (r + 1))).setCell ⟨b, off + i * 4 + 2, none⟩ (.int .i64 (r + 1 + 1)))) := M1.out.set _ _ hd (S1.out.int C2.out) ⟨by omega, by omega⟩
    have S2 : Hid (Sty wr (((wr.setCell ⟨b, off + i * 4, none⟩ (.int .i64 (r))).setCell ⟨b, off + i * 4 + 1, none⟩ (.int .i64 (r + 1))).setCell ⟨b, off + i * 4 + 2, none⟩ (.int .i64 (r + 1 + 1)))) := by obtain ⟨z, hz⟩ := S1.out.int C2.out; exact S1.out.trans (Sty.set _ _ _ _ hz ⟨by omega, by omega⟩)
    have M3 : Hid (Mkd D w ((((wr.setCell ⟨b, off + i * 4, none⟩ (.int .i64 (r))).setCell ⟨b, off + i * 4 + 1, none⟩ (.int .i64 (r + 1))).setCell ⟨b, off + i * 4 + 2, none⟩ (.int .i64 (r + 1 + 1))).setCell ⟨b, off + i * 4 + 3, none⟩ (.int .i64 (r + 1 + 1 + 1)))) := M2.out.set _ _ hd (S2.out.int C3.out) ⟨by omega, by omega⟩
    have S3 : Hid (Sty wr ((((wr.setCell ⟨b, off + i * 4, none⟩ (.int .i64 (r))).setCell ⟨b, off + i * 4 + 1, none⟩ (.int .i64 (r + 1))).setCell ⟨b, off + i * 4 + 2, none⟩ (.int .i64 (r + 1 + 1))).setCell ⟨b, off + i * 4 + 3, none⟩ (.int .i64 (r + 1 + 1 + 1)))) := by obtain ⟨z, hz⟩ := S2.out.int C3.out; exact S2.out.trans (Sty.set _ _ _ _ hz ⟨by omega, by omega⟩)
    go_wp2_with fail
    exact ⟨⟨i + 1, _, by omega, by go_num, rfl, by omega, by omega, M3.out⟩, by simp [intOf]; omega⟩

set_option maxRecDepth 100000 in
set_option maxHeartbeats 4000000 in
theorem markLMethod (a : Option Addr) (n c : Nat) (k : Int) (w : World) {D : Nat → Prop} (h : SlP meR D w a n) (hz : Thw D w) (k0 : 0 ≤ k) (k1 : k ≤ 1152921504606846976) :
    Calls Tryz.prog 34 #[.slice a n c, .int .i64 k] w fun e w' => MarkP D w k 2305852904822538240 e w' := by
  have hn := h.few
  have H : Hid (SlP meR D w a n) := h
  have HZ : Hid (Thw D w) := hz
  clear h hz
  go_enter Tryz.func34, Tryz.ntmps34
  go_wp2_with fail
  go_loopw [1, 5] (fun s t wr => ∃ (i : Nat) (r : Int), i ≤ n ∧ t = .int .i64 i ∧ s = .int .i64 r ∧ k ≤ r ∧ r ≤ k + i * 2199032692740 ∧ Mkd D w wr) (fun _ t _ => n - (intOf t).toNat)
  case atStart => exact ⟨0, k, Nat.zero_le _, rfl, rfl, by omega, by omega, Mkd.refl _ _⟩
  case round =>
    obtain ⟨i, r, hi, rfl, rfl, r0, r1, hm⟩ := hrel
    have HM : Hid (Mkd D w wr) := hm
    clear hm
    by_cases hlt : i < n
    case neg =>
      have ei : i = n := by omega
      subst ei
      go_wp2_with fail
      go_ret
      exact ⟨_, rfl, by omega, by omega, HM.out⟩
    obtain ⟨b, off, rfl, hd, hL⟩ : ∃ b off, a = some ⟨b, off, none⟩ ∧ D b ∧ Lies meR D wr b (off + i * 8) := by
      rcases (H.out.sty sts_Method HM.out.sty).rows with h0 | ⟨b, off, ha, hd, hr⟩
      · omega
      · exact ⟨b, off, ha, hd, hr i hlt⟩
    obtain ⟨g0, hL1⟩ := hL.pair
    obtain ⟨z0, c0⟩ : ∃ z, wr.cell? ⟨b, off + i * 8, none⟩ = some (.int .i64 z) := g0.int
    obtain ⟨g1, hL2⟩ := hL1.pair
    obtain ⟨z1, c1⟩ : ∃ z, wr.cell? ⟨b, off + i * 8 + 1, none⟩ = some (.int .i64 z) := g1.int
    obtain ⟨g2, hL3⟩ := hL2.pair
    obtain ⟨fa2, fl2, fc2, c2, P2⟩ : ∃ fa fl fc, wr.cell? ⟨b, off + i * 8 + 2, none⟩ = some (.slice fa fl fc) ∧ SlP intR D wr fa fl := g2.list
    have Q2 : Hid (SlP intR D wr fa2 fl2) := P2
    clear P2
    obtain ⟨g3, hL4⟩ := hL3.pair
    obtain ⟨z3, c3⟩ : ∃ z, wr.cell? ⟨b, off + i * 8 + 3, none⟩ = some (.int .i64 z) := g3.int
    obtain ⟨g4, hL5⟩ := hL4.pair
    obtain ⟨z4, c4⟩ : ∃ z, wr.cell? ⟨b, off + i * 8 + 4, none⟩ = some (.int .i64 z) := g4.int
    obtain ⟨g5, hL6⟩ := hL5.pair
    obtain ⟨fa5, fl5, fc5, c5, P5⟩ : ∃ fa fl fc, wr.cell? ⟨b, off + i * 8 + 5, none⟩ = some (.slice fa fl fc) ∧ SlP inR D wr fa fl := g5.list
    have Q5 : Hid (SlP inR D wr fa5 fl5) := P5
    clear P5
    obtain ⟨g6, hL7⟩ := hL6.pair
    obtain ⟨fa6, fl6, fc6, c6, P6⟩ : ∃ fa fl fc, wr.cell? ⟨b, off + i * 8 + 6, none⟩ = some (.slice fa fl fc) ∧ SlP shR D wr fa fl := g6.list
    have Q6 : Hid (SlP shR D wr fa6 fl6) := P6
    clear P6
    obtain ⟨fa7, fl7, fc7, c7, P7⟩ : ∃ fa fl fc, wr.cell? ⟨b, off + i * 8 + 7, none⟩ = some (.slice fa fl fc) ∧ SlP caR D wr fa fl := hL7.list
    have Q7 : Hid (SlP caR D wr fa7 fl7) := P7
    clear P7
    have C0 : Hid (wr.cell? ⟨b, off + i * 8, none⟩ = some _) := c0
    have C1 : Hid (wr.cell? ⟨b, off + i * 8 + 1, none⟩ = some _) := c1
    have C2 : Hid (wr.cell? ⟨b, off + i * 8 + 2, none⟩ = some _) := c2
    have C3 : Hid (wr.cell? ⟨b, off + i * 8 + 3, none⟩ = some _) := c3
    have C4 : Hid (wr.cell? ⟨b, off + i * 8 + 4, none⟩ = some _) := c4
    have C5 : Hid (wr.cell? ⟨b, off + i * 8 + 5, none⟩ = some _) := c5
    have C6 : Hid (wr.cell? ⟨b, off + i * 8 + 6, none⟩ = some _) := c6
    have C7 : Hid (wr.cell? ⟨b, off + i * 8 + 7, none⟩ = some _) := c7
    have FR : Hid (∀ x, Mkd D w x → ∀ o, x.frozen? ⟨b, o, none⟩ = false) := fun x hx o => (HZ.out.mkd hx) b o hd
    clear hL g0 hL1 g1 hL2 g2 hL3 g3 hL4 g4 hL5 g5 hL6 g6 hL7
    have f0 := FR.out _ HM.out (off + i * 8)
    have f1 := FR.out _ HM.out (off + i * 8 + 1)
    have f3 := FR.out _ HM.out (off + i * 8 + 3)
    have f4 := FR.out _ HM.out (off + i * 8 + 4)
    have S : Hid (Sty wr wr) := Sty.refl _
    have M0 : Hid (Mkd D w (wr.setCell ⟨b, off + i * 8, none⟩ (.int .i64 (r)))) := HM.out.set _ _ hd (S.out.int C0.out) ⟨by omega, by omega⟩
    have S0 : Hid (Sty wr (wr.setCell ⟨b, off + i * 8, none⟩ (.int .i64 (r)))) := by obtain ⟨z, hz⟩ := S.out.int C0.out; exact S.out.trans (Sty.set _ _ _ _ hz ⟨by omega, by omega⟩)
    have M1 : Hid (Mkd D w ((wr.setCell ⟨b, off + i * 8, none⟩ (.int .i64 (r))).setCell ⟨b, off + i * 8 + 1, none⟩ (.int .i64 (r + 1)))) := M0.out.set _ _ hd (S0.out.int C1.out) ⟨by omega, by omega⟩
    have S1 : Hid (Sty wr ((wr.setCell ⟨b, off + i * 8, none⟩ (.int .i64 (r))).setCell ⟨b, off + i * 8 + 1, none⟩ (.int .i64 (r + 1)))) := by obtain ⟨z, hz⟩ := S0.out.int C1.out; exact S0.out.trans (Sty.set _ _ _ _ hz ⟨by omega, by omega⟩)
    go_wp2_with fail
    refine (markLInt _ _ _ _ _ (D := D) (Q2.out.sty sts_int S1.out) (HZ.out.mkd M1.out) (by omega) (by omega)).mono ?_
    rintro e w2 ⟨k2, rfl, a2, b2, hm⟩
    have M2 : Hid (Mkd D w w2) := M1.out.trans hm
    have S2 : Hid (Sty wr w2) := S1.out.trans hm.sty
    clear hm c0 c1 c2 c3 c4 c5 c6 c7 f0 f1 f3 f4
    obtain ⟨z0_2, c0⟩ := S2.out.int C0.out
    obtain ⟨z1_2, c1⟩ := S2.out.int C1.out
    have c2 := S2.out.slice C2.out
    obtain ⟨z3_2, c3⟩ := S2.out.int C3.out
    obtain ⟨z4_2, c4⟩ := S2.out.int C4.out
    have c5 := S2.out.slice C5.out
    have c6 := S2.out.slice C6.out
    have c7 := S2.out.slice C7.out
    have f0 := FR.out _ M2.out (off + i * 8)
    have f1 := FR.out _ M2.out (off + i * 8 + 1)
    have f3 := FR.out _ M2.out (off + i * 8 + 3)
    have f4 := FR.out _ M2.out (off + i * 8 + 4)
    have M3 : Hid (Mkd D w (w2.setCell ⟨b, off + i * 8 + 3, none⟩ (.int .i64 (k2)))) := M2.out.set _ _ hd (S2.out.int C3.out) ⟨by omega, by omega⟩
    have S3 : Hid (Sty wr (w2.setCell ⟨b, off + i * 8 + 3, none⟩ (.int .i64 (k2)))) := by obtain ⟨z, hz⟩ := S2.out.int C3.out; exact S2.out.trans (Sty.set _ _ _ _ hz ⟨by omega, by omega⟩)
    have M4 : Hid (Mkd D w ((w2.setCell ⟨b, off + i * 8 + 3, none⟩ (.int .i64 (k2))).setCell ⟨b, off + i * 8 + 4, none⟩ (.int .i64 (k2 + 1)))) := M3.out.set _ _ hd (S3.out.int C4.out) ⟨by omega, by omega⟩
    have S4 : Hid (Sty wr ((w2.setCell ⟨b, off + i * 8 + 3, none⟩ (.int .i64 (k2))).setCell ⟨b, off + i * 8 + 4, none⟩ (.int .i64 (k2 + 1)))) := by obtain ⟨z, hz⟩ := S3.out.int C4.out; exact S3.out.trans (Sty.set _ _ _ _ hz ⟨by omega, by omega⟩)
    go_wp2_with fail
    refine (markLIns _ _ _ _ _ (D := D) (Q5.out.sty sts_Ins S4.out) (HZ.out.mkd M4.out) (by omega) (by omega)).mono ?_
    rintro e w5 ⟨k5, rfl, a5, b5, hm⟩
    have M5 : Hid (Mkd D w w5) := M4.out.trans hm
    have S5 : Hid (Sty wr w5) := S4.out.trans hm.sty
    clear hm c0 c1 c2 c3 c4 c5 c6 c7 f0 f1 f3 f4
    obtain ⟨z0_5, c0⟩ := S5.out.int C0.out
    obtain ⟨z1_5, c1⟩ := S5.out.int C1.out
    have c2 := S5.out.slice C2.out
    obtain ⟨z3_5, c3⟩ := S5.out.int C3.out
    obtain ⟨z4_5, c4⟩ := S5.out.int C4.out
    have c5 := S5.out.slice C5.out
    have c6 := S5.out.slice C6.out
    have c7 := S5.out.slice C7.out
    have f0 := FR.out _ M5.out (off + i * 8)
    have f1 := FR.out _ M5.out (off + i * 8 + 1)
    have f3 := FR.out _ M5.out (off + i * 8 + 3)
    have f4 := FR.out _ M5.out (off + i * 8 + 4)
    go_wp2_with fail
    refine (markLShape _ _ _ _ _ (D := D) (Q6.out.sty sts_Shape S5.out) (HZ.out.mkd M5.out) (by omega) (by omega)).mono ?_
    rintro e w6 ⟨k6, rfl, a6, b6, hm⟩
    have M6 : Hid (Mkd D w w6) := M5.out.trans hm
    have S6 : Hid (Sty wr w6) := S5.out.trans hm.sty
    clear hm c0 c1 c2 c3 c4 c5 c6 c7 f0 f1 f3 f4
    obtain ⟨z0_6, c0⟩ := S6.out.int C0.out
    obtain ⟨z1_6, c1⟩ := S6.out.int C1.out
    have c2 := S6.out.slice C2.out
    obtain ⟨z3_6, c3⟩ := S6.out.int C3.out
    obtain ⟨z4_6, c4⟩ := S6.out.int C4.out
    have c5 := S6.out.slice C5.out
    have c6 := S6.out.slice C6.out
    have c7 := S6.out.slice C7.out
    have f0 := FR.out _ M6.out (off + i * 8)
    have f1 := FR.out _ M6.out (off + i * 8 + 1)
    have f3 := FR.out _ M6.out (off + i * 8 + 3)
    have f4 := FR.out _ M6.out (off + i * 8 + 4)
    go_wp2_with fail
    refine (markLCatch _ _ _ _ _ (D := D) (Q7.out.sty sts_Catch S6.out) (HZ.out.mkd M6.out) (by omega) (by omega)).mono ?_
    rintro e w7 ⟨k7, rfl, a7, b7, hm⟩
    have M7 : Hid (Mkd D w w7) := M6.out.trans hm
    have S7 : Hid (Sty wr w7) := S6.out.trans hm.sty
    clear hm c0 c1 c2 c3 c4 c5 c6 c7 f0 f1 f3 f4
    obtain ⟨z0_7, c0⟩ := S7.out.int C0.out
    obtain ⟨z1_7, c1⟩ := S7.out.int C1.out
    have c2 := S7.out.slice C2.out
    obtain ⟨z3_7, c3⟩ := S7.out.int C3.out
    obtain ⟨z4_7, c4⟩ := S7.out.int C4.out
    have c5 := S7.out.slice C5.out
    have c6 := S7.out.slice C6.out
    have c7 := S7.out.slice C7.out
    have f0 := FR.out _ M7.out (off + i * 8)
    have f1 := FR.out _ M7.out (off + i * 8 + 1)
    have f3 := FR.out _ M7.out (off + i * 8 + 3)
    have f4 := FR.out _ M7.out (off + i * 8 + 4)
    go_wp2_with fail
    exact ⟨⟨i + 1, _, by omega, by go_num, rfl, by omega, by omega, M7.out⟩, by simp [intOf]; omega⟩

set_option maxRecDepth 100000 in
set_option maxHeartbeats 4000000 in
theorem markLVal (a : Option Addr) (n c : Nat) (k : Int) (w : World) {D : Nat → Prop} (h : SlP vaR D w a n) (hz : Thw D w) (k0 : 0 ≤ k) (k1 : k ≤ 4611686018427387904) :
    Calls Tryz.prog 74 #[.slice a n c, .int .i64 k] w fun e w' => MarkP D w k 2097152 e w' := by
  have hn := h.few
  have H : Hid (SlP vaR D w a n) := h
  have HZ : Hid (Thw D w) := hz
  clear h hz
  go_enter Tryz.func74, Tryz.ntmps74
  go_wp2_with fail
  go_loopw [1, 5] (fun s t wr => ∃ (i : Nat) (r : Int), i ≤ n ∧ t = .int .i64 i ∧ s = .int .i64 r ∧ k ≤ r ∧ r ≤ k + i * 2 ∧ Mkd D w wr) (fun _ t _ => n - (intOf t).toNat)
  case atStart => exact ⟨0, k, Nat.zero_le _, rfl, rfl, by omega, by omega, Mkd.refl _ _⟩
  case round =>
    obtain ⟨i, r, hi, rfl, rfl, r0, r1, hm⟩ := hrel
    have HM : Hid (Mkd D w wr) := hm
    clear hm
    by_cases hlt : i < n
    case neg =>
      have ei : i = n := by omega
      subst ei
      go_wp2_with fail
      go_ret
      exact ⟨_, rfl, by omega, by omega, HM.out⟩
    obtain ⟨b, off, rfl, hd, hL⟩ : ∃ b off, a = some ⟨b, off, none⟩ ∧ D b ∧ Lies vaR D wr b (off + i * 2) := by
      rcases (H.out.sty sts_Val HM.out.sty).rows with h0 | ⟨b, off, ha, hd, hr⟩
      · omega
      · exact ⟨b, off, ha, hd, hr i hlt⟩
    obtain ⟨g0, hL1⟩ := hL.pair
    obtain ⟨z0, c0⟩ : ∃ z, wr.cell? ⟨b, off + i * 2, none⟩ = some (.bool z) := g0.bool
    obtain ⟨z1, c1⟩ : ∃ z, wr.cell? ⟨b, off + i * 2 + 1, none⟩ = some (.int .i64 z) := hL1.int
    have C0 : Hid (wr.cell? ⟨b, off + i * 2, none⟩ = some _) := c0
    have C1 : Hid (wr.cell? ⟨b, off + i * 2 + 1, none⟩ = some _) := c1
    have FR : Hid (∀ x, Mkd D w x → ∀ o, x.frozen? ⟨b, o, none⟩ = false) := fun x hx o => (HZ.out.mkd hx) b o hd
    clear hL g0 hL1
    have f0 := FR.out _ HM.out (off + i * 2)
    have f1 := FR.out _ HM.out (off + i * 2 + 1)
    have S : Hid (Sty wr wr) := Sty.refl _
    have M0 : Hid (Mkd D w (wr.setCell ⟨b, off + i * 2, none⟩ (.bool (r % 3 == 0)))) := HM.out.setB _ _ hd (S.out.bool C0.out)
    have S0 : Hid (Sty wr (wr.setCell ⟨b, off + i * 2, none⟩ (.bool (r % 3 == 0)))) := by obtain ⟨z, hz⟩ := S.out.bool C0.out; exact S.out.trans (Sty.setB _ _ _ _ hz)
    have M1 : Hid (Mkd D w ((wr.setCell ⟨b, off + i * 2, none⟩ (.bool (r % 3 == 0))).setCell ⟨b, off + i * 2 + 1, none⟩ (.int .i64 (r + 1)))) := M0.out.set _ _ hd (S0.out.int C1.out) ⟨by omega, by omega⟩
    have S1 : Hid (Sty wr ((wr.setCell ⟨b, off + i * 2, none⟩ (.bool (r % 3 == 0))).setCell ⟨b, off + i * 2 + 1, none⟩ (.int .i64 (r + 1)))) := by obtain ⟨z, hz⟩ := S0.out.int C1.out; exact S0.out.trans (Sty.set _ _ _ _ hz ⟨by omega, by omega⟩)
    go_wp2_with fail
    exact ⟨⟨i + 1, _, by omega, by go_num, rfl, by omega, by omega, M1.out⟩, by simp [intOf]; omega⟩

set_option maxRecDepth 100000 in
set_option maxHeartbeats 4000000 in
theorem markLObj (a : Option Addr) (n c : Nat) (k : Int) (w : World) {D : Nat → Prop} (h : SlP obR D w a n) (hz : Thw D w) (k0 : 0 ≤ k) (k1 : k ≤ 4611677222334365696) :
    Calls Tryz.prog 35 #[.slice a n c, .int .i64 k] w fun e w' => MarkP D w k 2199024304128 e w' := by
  have hn := h.few
  have H : Hid (SlP obR D w a n) := h
  have HZ : Hid (Thw D w) := hz
  clear h hz
  go_enter Tryz.func35, Tryz.ntmps35
  go_wp2_with fail
  go_loopw [1, 5] (fun s t wr => ∃ (i : Nat) (r : Int), i ≤ n ∧ t = .int .i64 i ∧ s = .int .i64 r ∧ k ≤ r ∧ r ≤ k + i * 2097153 ∧ Mkd D w wr) (fun _ t _ => n - (intOf t).toNat)
  case atStart => exact ⟨0, k, Nat.zero_le _, rfl, rfl, by omega, by omega, Mkd.refl _ _⟩
  case round =>
    obtain ⟨i, r, hi, rfl, rfl, r0, r1, hm⟩ := hrel
    have HM : Hid (Mkd D w wr) := hm
    clear hm
    by_cases hlt : i < n
    case neg =>
      have ei : i = n := by omega
      subst ei
      go_wp2_with fail
      go_ret
      exact ⟨_, rfl, by omega, by omega, HM.out⟩
    obtain ⟨b, off, rfl, hd, hL⟩ : ∃ b off, a = some ⟨b, off, none⟩ ∧ D b ∧ Lies obR D wr b (off + i * 2) := by
      rcases (H.out.sty sts_Obj HM.out.sty).rows with h0 | ⟨b, off, ha, hd, hr⟩
      · omega
      · exact ⟨b, off, ha, hd, hr i hlt⟩
    obtain ⟨g0, hL1⟩ := hL.pair
    obtain ⟨z0, c0⟩ : ∃ z, wr.cell? ⟨b, off + i * 2, none⟩ = some (.int .i64 z) := g0.int
    obtain ⟨fa1, fl1, fc1, c1, P1⟩ : ∃ fa fl fc, wr.cell? ⟨b, off + i * 2 + 1, none⟩ = some (.slice fa fl fc) ∧ SlP vaR D wr fa fl := hL1.list
    have Q1 : Hid (SlP vaR D wr fa1 fl1) := P1
    clear P1
    have C0 : Hid (wr.cell? ⟨b, off + i * 2, none⟩ = some _) := c0
    have C1 : Hid (wr.cell? ⟨b, off + i * 2 + 1, none⟩ = some _) := c1
    have FR : Hid (∀ x, Mkd D w x → ∀ o, x.frozen? ⟨b, o, none⟩ = false) := fun x hx o => (HZ.out.mkd hx) b o hd
    clear hL g0 hL1
    have f0 := FR.out _ HM.out (off + i * 2)
    have S : Hid (Sty wr wr) := Sty.refl _
    have M0 : Hid (Mkd D w (wr.setCell ⟨b, off + i * 2, none⟩ (.int .i64 (r)))) := HM.out.set _ _ hd (S.out.int C0.out) ⟨by omega, by omega⟩
    have S0 : Hid (Sty wr (wr.setCell ⟨b, off + i * 2, none⟩ (.int .i64 (r)))) := by obtain ⟨z, hz⟩ := S.out.int C0.out; exact S.out.trans (Sty.set _ _ _ _ hz ⟨by omega, by omega⟩)
    go_wp2_with fail
    refine (markLVal _ _ _ _ _ (D := D) (Q1.out.sty sts_Val S0.out) (HZ.out.mkd M0.out) (by omega) (by omega)).mono ?_
    rintro e w1 ⟨k1, rfl, a1, b1, hm⟩
    have M1 : Hid (Mkd D w w1) := M0.out.trans hm
    have S1 : Hid (Sty wr w1) := S0.out.trans hm.sty
    clear hm c0 c1 f0
    obtain ⟨z0_1, c0⟩ := S1.out.int C0.out
    have c1 := S1.out.slice C1.out
    have f0 := FR.out _ M1.out (off + i * 2)
    go_wp2_with fail
    exact ⟨⟨i + 1, _, by omega, by go_num, rfl, by omega, by omega, M1.out⟩, by simp [intOf]; omega⟩

set_option maxRecDepth 100000 in
theorem markRUnit (a0 : Option Addr) (l0 c0 : Nat) (a1 : Option Addr) (l1 c1 : Nat) (w : World) {D : Nat → Prop} (h0 : SlP clR D w a0 l0) (h1 : SlP meR D w a1 l1) (hz : Thw D w) :
    Calls Tryz.prog 11 #[.agg #[.slice a0 l0 c0, .slice a1 l1 c1], .int .i64 1] w fun e w' => ∃ r : Int, e = .returned (.int .i64 r) ∧ 0 ≤ r ∧ Chg D w w' := by
  have H0 : Hid (SlP clR D w a0 l0) := h0
  have H1 : Hid (SlP meR D w a1 l1) := h1
  have HZ : Hid (Thw D w) := hz
  have M0 : Hid (Mkd D w (w.alloc (.cells #[.slice a0 l0 c0, .slice a1 l1 c1] 38))) := (Mkd.refl _ _).alloc _ _
  have c1x : (w.alloc (.cells #[.slice a0 l0 c0, .slice a1 l1 c1] 38)).cell? ⟨w.heap.size, 1, none⟩ = some (.slice a1 l1 c1) := by rw [World.cell?_alloc_at _ _ _ _ rfl]; rfl
  have C1 : Hid ((w.alloc (.cells #[.slice a0 l0 c0, .slice a1 l1 c1] 38)).cell? ⟨w.heap.size, 1, none⟩ = some (.slice a1 l1 c1)) := c1x
  clear h0 h1 hz c1x
  go_enter Tryz.func11, Tryz.ntmps11
  go_wp2_with fail
  refine (markLClass _ _ _ _ _ (D := D) (H0.out.sty sts_Class M0.out.sty) (HZ.out.mkd M0.out) (by omega) (by omega)).mono ?_
  rintro e w1 ⟨r, rfl, r0, r1, hm⟩
  have M1 : Hid (Mkd D w w1) := M0.out.trans hm
  have d1 := hm.sty.slice C1.out
  clear hm
  go_wp2_with fail
  refine (markLMethod _ _ _ _ _ (D := D) (H1.out.sty sts_Method M1.out.sty) (HZ.out.mkd M1.out) (by omega) (by omega)).mono ?_
  rintro e w2 ⟨q, rfl, q0, q1, hm⟩
  have M2 : Hid (Mkd D w w2) := M1.out.trans hm
  clear hm
  go_wp2_with fail
  go_ret
  exact ⟨_, rfl, by omega, M2.out.chg⟩

end Go.Proofs.YthdlccadcadopaaGreat
namespace Go.Proofs.YthdlccadcadopaaGreat
open Go.ChangeShapes Go.WideShapes Go.ChangeAt Go.RowKit

/-- The marks of values, from a number on. -/
def mV (k : Int) (j : Nat) : Vl := ((k + 2 * (j : Int)) % 3 == 0, k + 2 * (j : Int) + 1)
structure WrF (w : World) (g n : Nat) (f : Nat → Vl) : Prop where
  at' : ∀ j, j < n → w.cell? ⟨g, j * 2, none⟩ = some (.bool (f j).1) ∧ w.cell? ⟨g, j * 2 + 1, none⟩ = some (.int .i64 (f j).2)
  free : ∀ j, j < n * 2 → w.frozen? ⟨g, j, none⟩ = false
theorem WrF.keep {w w' : World} {g n : Nat} {f : Nat → Vl} (h : WrF w g n f) (hk : w'.heap[g]? = w.heap[g]?) : WrF w' g n f :=
  ⟨fun j hj => ⟨(World.cell?_of_block (a := ⟨g, _, none⟩) hk).trans (h.at' j hj).1, (World.cell?_of_block (a := ⟨g, _, none⟩) hk).trans (h.at' j hj).2⟩, fun j hj => (World.frozen?_of_block (a := ⟨g, j, none⟩) hk).trans (h.free j hj)⟩
theorem WrV.f {w : World} {g : Nat} {xs : List Vl} (h : WrV w g xs) : WrF w g xs.length (fun j => xs.getD j (false, 0)) := by
  refine ⟨fun j hj => ?_, h.free⟩
  obtain ⟨h1, h2, _⟩ := h.at' j (xs[j]'hj) (List.getElem?_eq_getElem _)
  have e : xs.getD j (false, 0) = xs[j]'hj := by rw [List.getD_eq_getElem?_getD, List.getElem?_eq_getElem hj]; rfl
  rw [e]
  exact ⟨h1, h2⟩

set_option maxHeartbeats 4000000 in
theorem markOwnV (g n c : Nat) (k : Int) (f : Nat → Vl) (w : World) (h : WrF w g n f) (hn : n ≤ 1048576) (k0 : 0 ≤ k) (k1 : k ≤ 4000000000000000) :
    Calls Tryz.prog 74 #[.slice (some ⟨g, 0, none⟩) n c, .int .i64 k] w fun e w' => e = .returned (.int .i64 (k + 2 * n)) ∧ WrF w' g n (mV k) ∧ Chg (fun b => b = g) w w' := by
  have HC : Hid (WrF w g n f) := h
  clear h
  go_enter Tryz.func74, Tryz.ntmps74
  go_wp2_with fail
  go_loopw [1, 5] (fun s t wr => ∃ i : Nat, i ≤ n ∧ t = .int .i64 i ∧ s = .int .i64 (k + 2 * i) ∧ WrF wr g n (fun j => if j < i then mV k j else f j) ∧ Chg (fun b => b = g) w wr) (fun _ t _ => n - (intOf t).toNat)
  case atStart => exact ⟨0, Nat.zero_le _, rfl, by simp, HC.out, Chg.refl _ _⟩
  case round =>
    obtain ⟨i, hi, rfl, rfl, hr, hch⟩ := hrel
    have HR : Hid (WrF wr g n (fun j => if j < i then mV k j else f j)) := hr
    have HCh : Hid (Chg (fun b => b = g) w wr) := hch
    clear hr hch
    by_cases hlt : i < n
    · obtain ⟨c1, c2⟩ := HR.out.at' i hlt
      have f1 := HR.out.free (i * 2) (by omega)
      have f2 := HR.out.free (i * 2 + 1) (by omega)
      simp only [Nat.lt_irrefl, if_false] at c1 c2
      generalize (f i).1 = y1 at c1
      generalize (f i).2 = y2 at c2
      have hk3 : 0 ≤ k + 2 * (i : Int) := by omega
      have FIN : Hid (WrF ((wr.setCell ⟨g, i * 2, none⟩ (.bool ((k + 2 * (i : Int)) % 3 == 0))).setCell ⟨g, i * 2 + 1, none⟩ (.int .i64 (k + 2 * (i : Int) + 1))) g n (fun j => if j < i + 1 then mV k j else f j)) := by
        refine ⟨fun j hj => ?_, fun j hj => by rw [World.frozen?_setCell, World.frozen?_setCell]; exact HR.out.free j hj⟩
        obtain ⟨d1, d2⟩ := HR.out.at' j hj
        by_cases e : j = i
        · subst e
          simp only [Nat.lt_succ_self, if_true]
          refine ⟨?_, World.cell?_setCell_same _ _ _ (by rw [World.cell?_setCell_other _ _ _ _ (by intro e; have := congrArg Addr.off e; simp at this)]; exact c2)⟩
          rw [World.cell?_setCell_other _ _ _ _ (by intro e; have := congrArg Addr.off e; simp at this)]
          exact World.cell?_setCell_same wr _ _ c1
        · rw [World.cell?_setCell_other _ _ _ _ (by intro e; have := congrArg Addr.off e; simp at this; omega), World.cell?_setCell_other _ _ _ _ (by intro e; have := congrArg Addr.off e; simp at this; omega),
            World.cell?_setCell_other _ _ _ _ (by intro e; have := congrArg Addr.off e; simp at this; omega), World.cell?_setCell_other _ _ _ _ (by intro e; have := congrArg Addr.off e; simp at this; omega)]
          by_cases e2 : j < i
          · simp only [if_pos e2, if_pos (show j < i + 1 by omega)] at d1 d2 ⊢
            exact ⟨d1, d2⟩
          · simp only [if_neg e2, if_neg (show ¬ j < i + 1 by omega)] at d1 d2 ⊢
            exact ⟨d1, d2⟩
      go_wp2_with fail
      refine ⟨⟨i + 1, by omega, by go_num, ?_, FIN.out, (HCh.out.trans (Chg.set (D := fun b => b = g) _ _ _ rfl) (fun _ _ h => h)).trans (Chg.set (D := fun b => b = g) _ _ _ rfl) (fun _ _ h => h)⟩, by simp [intOf]; omega⟩
      rw [show k + 2 * (i : Int) + 1 + 1 = k + 2 * ((i + 1 : Nat) : Int) by omega]
    · have ei : i = n := by omega
      subst ei
      go_wp2_with fail
      go_ret
      refine ⟨rfl, ⟨fun j hj => ?_, HR.out.free⟩, HCh.out⟩
      have := HR.out.at' j hj
      simpa only [if_pos hj] using this
set_option maxHeartbeats 4000000 in
theorem heldOwnV (g n c : Nat) (k : Int) (w : World) (h : WrF w g n (mV k)) (hn : n ≤ 1048576) (k0 : 0 ≤ k) (k1 : k ≤ 4000000000000000) :
    Calls Tryz.prog 75 #[.slice (some ⟨g, 0, none⟩) n c, .int .i64 k] w fun e w' => e = .returned (.int .i64 (k + 2 * n)) ∧ w = w' := by
  have HC : Hid (WrF w g n (mV k)) := h
  clear h
  go_enter Tryz.func75, Tryz.ntmps75
  go_wp2_with fail
  go_loop [1, 5] (fun s t => ∃ i : Nat, i ≤ n ∧ t = .int .i64 i ∧ s = .int .i64 (k + 2 * i)) (fun _ t => n - (intOf t).toNat)
  case atStart => exact ⟨0, Nat.zero_le _, rfl, by simp⟩
  case round =>
    obtain ⟨i, hi, rfl, rfl⟩ := hrel
    by_cases hlt : i < n
    · obtain ⟨c1, c2⟩ := HC.out.at' i hlt
      simp only [mV] at c1 c2
      have hk3 : 0 ≤ k + 2 * (i : Int) := by omega
      have e1 : (((k + 2 * (i : Int)) % 3 == 0) != ((k + 2 * (i : Int)) % 3 == 0)) = false := by simp
      have e2 : ((k + 2 * (i : Int) + 1) != (k + 2 * (i : Int) + 1)) = false := by simp
      go_wp2_with fail
      exact ⟨⟨i + 1, by omega, by go_num, by rw [show k + 2 * (i : Int) + 1 + 1 = k + 2 * ((i + 1 : Nat) : Int) by omega]⟩, by simp [intOf]; omega⟩
    · have ei : i = n := by omega
      subst ei
      go_wp2_with fail
      go_ret
      exact ⟨rfl, rfl⟩

def kAt (k : Int) (len : Nat → Nat) : Nat → Int
  | 0 => k
  | i + 1 => kAt k len i + 1 + 2 * (len i : Int)
theorem kAt_bound {k : Int} {len : Nat → Nat} {n : Nat} (hl : ∀ j, j < n → len j ≤ 1048576) : ∀ i, i ≤ n → k ≤ kAt k len i ∧ kAt k len i ≤ k + 2097153 * (i : Int)
  | 0, _ => by simp [kAt]
  | i + 1, hi => by
    have h1 := kAt_bound (k := k) hl i (by omega)
    have h2 := hl i (by omega)
    rw [kAt]
    omega

structure GrF (w : World) (G n : Nat) (len bs : Nat → Nat) (cls : Nat → Int) (F : Nat → Nat → Vl) : Prop where
  row : ∀ j, j < n → w.cell? ⟨G, j * 2, none⟩ = some (.int .i64 (cls j)) ∧ w.cell? ⟨G, j * 2 + 1, none⟩ = some (.slice (some ⟨bs j, 0, none⟩) (len j) (len j)) ∧ WrF w (bs j) (len j) (F j)
  free : ∀ j, j < n * 2 → w.frozen? ⟨G, j, none⟩ = false
  apart : ∀ i j, i < n → j < n → i ≠ j → bs i ≠ bs j
  off : ∀ j, j < n → bs j ≠ G ∧ bs j < w.heap.size
theorem GrF.keep {w w' : World} {G n : Nat} {len bs : Nat → Nat} {cls : Nat → Int} {F : Nat → Nat → Vl} (h : GrF w G n len bs cls F) (hG : w'.heap[G]? = w.heap[G]?) (hb : ∀ j, j < n → w'.heap[bs j]? = w.heap[bs j]?) (hs : w.heap.size ≤ w'.heap.size) : GrF w' G n len bs cls F :=
  ⟨fun j hj => by
    obtain ⟨h1, h2, h3⟩ := h.row j hj
    exact ⟨(World.cell?_of_block (a := ⟨G, _, none⟩) hG).trans h1, (World.cell?_of_block (a := ⟨G, _, none⟩) hG).trans h2, h3.keep (hb j hj)⟩, fun j hj => (World.frozen?_of_block (a := ⟨G, j, none⟩) hG).trans (h.free j hj), h.apart, fun j hj => ⟨(h.off j hj).1, Nat.lt_of_lt_of_le (h.off j hj).2 hs⟩⟩
theorem GrRow.f {w : World} {G n : Nat} {gs : List Ob} {bs : Nat → Nat} (h : GrRow w G n gs n bs) (hn : gs.length = n) : GrF w G n (fun j => (gs.getD j (0, [])).2.length) bs (fun j => (gs.getD j (0, [])).1) (fun j i => (gs.getD j (0, [])).2.getD i (false, 0)) := by
  refine ⟨fun j hj => ?_, fun j hj => (h.free j hj).2, fun i j hi hj hne => ?_, fun j hj => ⟨by have := (h.gt j hj).1; omega, (h.gt j hj).2⟩⟩
  · have e : gs.getD j (0, []) = gs[j]'(by omega) := by rw [List.getD_eq_getElem?_getD, List.getElem?_eq_getElem (by omega)]; rfl
    obtain ⟨h1, h2, _, h4⟩ := h.row j (gs[j]'(by omega)) hj (List.getElem?_eq_getElem _)
    rw [e]
    exact ⟨h1, h2, h4.f⟩
  · rcases Nat.lt_or_gt_of_ne hne with h1 | h1
    · have := h.inc i j h1 hj; omega
    · have := h.inc j i h1 hi; omega

set_option maxHeartbeats 4000000 in
theorem markOwnO (G n c : Nat) (k : Int) (len bs : Nat → Nat) (cls : Nat → Int) (F : Nat → Nat → Vl) (w : World) (h : GrF w G n len bs cls F) (hn : n ≤ 1048576) (hl : ∀ j, j < n → len j ≤ 1048576) (k0 : 0 ≤ k) (k1 : k ≤ 1000000) :
    Calls Tryz.prog 35 #[.slice (some ⟨G, 0, none⟩) n c, .int .i64 k] w fun e w' => e = .returned (.int .i64 (kAt k len n)) ∧ GrF w' G n len bs (kAt k len) (fun j => mV (kAt k len j + 1)) ∧ Chg (fun b => b = G ∨ ∃ j, j < n ∧ b = bs j) w w' := by
  have HC : Hid (GrF w G n len bs cls F) := h
  have HB : Hid (∀ i, i ≤ n → k ≤ kAt k len i ∧ kAt k len i ≤ k + 2097153 * (i : Int)) := kAt_bound hl
  have HL : Hid (∀ j, j < n → len j ≤ 1048576) := hl
  clear h hl
  go_enter Tryz.func35, Tryz.ntmps35
  go_wp2_with fail
  go_loopw [1, 5] (fun s t wr => ∃ i : Nat, i ≤ n ∧ t = .int .i64 i ∧ s = .int .i64 (kAt k len i) ∧ GrF wr G n len bs (fun j => if j < i then kAt k len j else cls j) (fun j => if j < i then mV (kAt k len j + 1) else F j) ∧ Chg (fun b => b = G ∨ ∃ j, j < n ∧ b = bs j) w wr) (fun _ t _ => n - (intOf t).toNat)
  case atStart => exact ⟨0, Nat.zero_le _, rfl, rfl, HC.out, Chg.refl _ _⟩
  case round =>
    obtain ⟨i, hi, rfl, rfl, hr, hch⟩ := hrel
    have HR : Hid (GrF wr G n len bs (fun j => if j < i then kAt k len j else cls j) (fun j => if j < i then mV (kAt k len j + 1) else F j)) := hr
    have HCh : Hid (Chg (fun b => b = G ∨ ∃ j, j < n ∧ b = bs j) w wr) := hch
    have hki := HB.out i hi
    clear hr hch
    by_cases hlt : i < n
    · have hli := HL.out i hlt
      obtain ⟨c1, c2, hW⟩ := HR.out.row i hlt
      have f1 := HR.out.free (i * 2) (by omega)
      simp only [Nat.lt_irrefl, if_false] at c1 hW
      have hoff := HR.out.off i hlt
      have HW : Hid (WrF (wr.setCell ⟨G, i * 2, none⟩ (.int .i64 (kAt k len i))) (bs i) (len i) (F i)) := hW.keep (Below.heap_setCell wr _ _ _ hoff.1)
      have hz : Hid (kAt k len i + 1 + 2 * (len i : Int) = kAt k len (i + 1)) := rfl
      clear hW
      generalize hq : kAt k len i = q at *
      generalize cls i = y1 at c1
      go_wp2_with fail
      refine (markOwnV _ _ _ _ _ _ HW.out hli (by omega) (by omega)).mono ?_
      rintro e w2 ⟨rfl, hW2, hc2⟩
      have HW2 : Hid (WrF w2 (bs i) (len i) (mV (q + 1))) := hW2
      have HC2 : Hid (Chg (fun b => b = bs i) (wr.setCell ⟨G, i * 2, none⟩ (.int .i64 q)) w2) := hc2
      have hG2 : w2.heap[G]? = (wr.setCell ⟨G, i * 2, none⟩ (.int .i64 q)).heap[G]? := hc2.block G (by
        rw [World.size_setCell]
        exact World.block_lt_of_cell? wr _ c1) (fun e => hoff.1 e.symm)
      have FIN : Hid (GrF w2 G n len bs (fun j => if j < i + 1 then kAt k len j else cls j) (fun j => if j < i + 1 then mV (kAt k len j + 1) else F j)) := by
        have hs2 := hc2.size
        rw [World.size_setCell] at hs2
        refine ⟨fun j hj => ?_, fun j hj => ?_, HR.out.apart, fun j hj => ⟨(HR.out.off j hj).1, Nat.lt_of_lt_of_le (HR.out.off j hj).2 hs2⟩⟩
        · obtain ⟨d1, d2, d3⟩ := HR.out.row j hj
          rw [World.cell?_of_block (a := ⟨G, j * 2, none⟩) hG2, World.cell?_of_block (a := ⟨G, j * 2 + 1, none⟩) hG2]
          by_cases e : j = i
          · subst e
            simp only [Nat.lt_succ_self, if_true, hq]
            exact ⟨World.cell?_setCell_same wr _ _ c1, by rw [World.cell?_setCell_other _ _ _ _ (by intro e; have := congrArg Addr.off e; simp at this)]; exact d2, HW2.out⟩
          · have hb2 : w2.heap[bs j]? = wr.heap[bs j]? := (hc2.block (bs j) (by rw [World.size_setCell]; exact (HR.out.off j hj).2) (HR.out.apart j i hj hlt e)).trans (Below.heap_setCell wr _ _ _ (HR.out.off j hj).1)
            rw [World.cell?_setCell_other _ _ _ _ (by intro e; have := congrArg Addr.off e; simp at this; omega), World.cell?_setCell_other _ _ _ _ (by intro e; have := congrArg Addr.off e; simp at this; omega)]
            by_cases e2 : j < i
            · simp only [if_pos e2, if_pos (show j < i + 1 by omega)] at d1 d3 ⊢
              exact ⟨d1, d2, d3.keep hb2⟩
            · simp only [if_neg e2, if_neg (show ¬ j < i + 1 by omega)] at d1 d3 ⊢
              exact ⟨d1, d2, d3.keep hb2⟩
        · rw [World.frozen?_of_block (a := ⟨G, j, none⟩) hG2, World.frozen?_setCell]
          exact HR.out.free j hj
      have CF : Hid (Chg (fun b => b = G ∨ ∃ j, j < n ∧ b = bs j) w w2) := (HCh.out.trans (Chg.set (D := fun b => b = G) wr ⟨G, i * 2, none⟩ (.int .i64 q) rfl) (fun b _ e => .inl e)).trans HC2.out (fun b _ e => .inr ⟨i, hlt, e⟩)
      clear hW2 hc2 hG2
      go_wp2_with fail
      exact ⟨⟨i + 1, by omega, by go_num, by rw [← hz.out], FIN.out, CF.out⟩, by simp [intOf]; omega⟩
    · have ei : i = n := by omega
      subst ei
      go_wp2_with fail
      go_ret
      refine ⟨rfl, ⟨fun j hj => ?_, HR.out.free, HR.out.apart, HR.out.off⟩, HCh.out⟩
      have := HR.out.row j hj
      simpa only [if_pos hj] using this
set_option maxHeartbeats 4000000 in
theorem heldOwnO (G n c : Nat) (k : Int) (len bs : Nat → Nat) (w : World) (h : GrF w G n len bs (kAt k len) (fun j => mV (kAt k len j + 1))) (hn : n ≤ 1048576) (hl : ∀ j, j < n → len j ≤ 1048576) (k0 : 0 ≤ k) (k1 : k ≤ 1000000) :
    Calls Tryz.prog 38 #[.slice (some ⟨G, 0, none⟩) n c, .int .i64 k] w fun e w' => e = .returned (.int .i64 (kAt k len n)) ∧ w = w' := by
  have HC : Hid (GrF w G n len bs (kAt k len) (fun j => mV (kAt k len j + 1))) := h
  have HB : Hid (∀ i, i ≤ n → k ≤ kAt k len i ∧ kAt k len i ≤ k + 2097153 * (i : Int)) := kAt_bound hl
  have HL : Hid (∀ j, j < n → len j ≤ 1048576) := hl
  clear h hl
  go_enter Tryz.func38, Tryz.ntmps38
  go_wp2_with fail
  go_loop [1, 5] (fun s t => ∃ i : Nat, i ≤ n ∧ t = .int .i64 i ∧ s = .int .i64 (kAt k len i)) (fun _ t => n - (intOf t).toNat)
  case atStart => exact ⟨0, Nat.zero_le _, rfl, rfl⟩
  case round =>
    obtain ⟨i, hi, rfl, rfl⟩ := hrel
    have hki := HB.out i hi
    by_cases hlt : i < n
    · have hli := HL.out i hlt
      obtain ⟨c1, c2, hW⟩ := HC.out.row i hlt
      have HW : Hid (WrF w (bs i) (len i) (mV (kAt k len i + 1))) := hW
      have hz : Hid (kAt k len i + 1 + 2 * (len i : Int) = kAt k len (i + 1)) := rfl
      clear hW
      generalize kAt k len i = q at *
      have e1 : (q != q) = false := by simp
      go_wp2_with fail
      refine (heldOwnV _ _ _ _ _ HW.out hli (by omega) (by omega)).mono ?_
      rintro e w2 ⟨rfl, rfl⟩
      have e2 : ¬ (q + 1 + 2 * (len i : Int) < 0) := by omega
      go_wp2_with fail
      exact ⟨⟨i + 1, by omega, by go_num, by rw [← hz.out]⟩, by simp [intOf]; omega⟩
    · have ei : i = n := by omega
      subst ei
      go_wp2_with fail
      go_ret
      exact ⟨rfl, rfl⟩

end Go.Proofs.YthdlccadcadopaaGreat
