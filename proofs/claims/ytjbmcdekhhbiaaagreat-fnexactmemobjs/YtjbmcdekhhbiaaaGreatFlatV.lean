/-
  Lists of values that grow, in memory of their own; an append whose run is known.
-/
import Derived.Test.YtjbmcdekhhbiaaaGreatDtObj
import Derived.Test.YtjbmcdekhhbiaaaGreatAppI
import Derived.RangeFuncBox
namespace Go.Proofs.YtjbmcdekhhbiaaaGreat
open Go.ChangeShapes Go.WideShapes Go.ChangeAt Go.RowKit

/-- The cells of values. -/
def flatV (xs : List Vl) : List Value := xs.flatMap fun v => [.bool v.1, .int .i64 v.2]
theorem flatV_snoc (xs : List Vl) (v : Vl) : flatV (xs ++ [v]) = flatV xs ++ [.bool v.1, .int .i64 v.2] := by simp [flatV]
theorem flatV_len (xs : List Vl) : (flatV xs).length = xs.length * 2 := by
  induction xs with
  | nil => rfl
  | cons v vs ih => simp [flatV] at ih ⊢; omega
theorem flatV_at : ∀ (xs : List Vl) (j : Nat) (x : Vl), xs[j]? = some x → (flatV xs)[j * 2]? = some (.bool x.1) ∧ (flatV xs)[j * 2 + 1]? = some (.int .i64 x.2)
  | v :: vs, 0, x, h => by simp at h; subst h; simp [flatV]
  | v :: vs, j + 1, x, h => by
    have ih := flatV_at vs j x (by simpa using h)
    have e : flatV (v :: vs) = [.bool v.1, .int .i64 v.2] ++ flatV vs := rfl
    have e2 : (j + 1) * 2 = j * 2 + 2 := by omega
    rw [e, e2]
    exact ⟨by simpa using ih.1, by simpa using ih.2⟩
/-- What is owned is read as a list. -/
theorem own_vals {w : World} {base n c : Nat} {a : Option Addr} {xs : List Vl} (h : w.ownsRow base 121 2 (.slice a n c) n (flatV xs)) (hb : ∀ x ∈ xs, i64B x.2) (hn : n ≤ 4000000) : SlAt vaR (fun b => base ≤ b) w a n xs := by
  have hl : xs.length = n := by have := h.1; rw [flatV_len] at this; omega
  refine ⟨hl, by omega, ?_⟩
  rcases h.2 with ⟨_, h0⟩ | ⟨g, cap, cur, e, hg, hcur, _, _, hsz, htk⟩
  · exact .inl h0
  · cases e
    refine .inr ⟨g, 0, rfl, hg, fun i x hx => ?_⟩
    have hi := (List.getElem?_eq_some_iff.1 hx).1
    obtain ⟨f0, f1⟩ := flatV_at xs i x hx
    rw [← htk] at f0 f1
    have key : ∀ j v, (cur.toList.take (n * 2))[j]? = some v → w.cell? ⟨g, j, none⟩ = some v := fun j v hj => by
      have : cur.toList[j]? = some v := by
        rw [List.getElem?_take] at hj
        by_cases hj2 : j < n * 2
        · rwa [if_pos hj2] at hj
        · rw [if_neg hj2] at hj; cases hj
      simp only [World.cell?, hcur]
      simpa using this
    refine ⟨[.bool x.1, .int .i64 x.2], ⟨[.bool x.1], [.int .i64 x.2], rfl, rfl, rfl, hb x (List.mem_of_getElem? hx)⟩, fun j v hv => ?_⟩
    match j, hv with
    | 0, hv => simp at hv; subst hv; rw [Nat.zero_add]; exact key _ _ f0
    | 1, hv => simp at hv; subst hv; rw [Nat.zero_add]; exact key _ _ f1

theorem own_none {w : World} (base b : Nat) (t : TypeId) (hb : base ≤ w.heap.size) (he : w.heap.size = b) : (w.alloc (.cells #[] t)).ownsRow base t 2 (.slice (some ⟨b, 0, none⟩) 0 0) 0 [] := by
  subst he
  exact ⟨rfl, .inr ⟨w.heap.size, 0, #[], rfl, hb, World.alloc_heap_new w _, Nat.le_refl _, Nat.zero_le _, rfl, rfl⟩⟩

theorem two_new (w : World) (x y : Value) (t : TypeId) (b : Nat) (hb : w.heap.size = b) : ∀ j u, [x, y][j]? = some u → (w.alloc (.cells #[x, y] t)).cell? ((⟨b, 0, none⟩ : Addr).add j) = some u := by
  subst hb
  intro j u hj
  rw [Addr.add_lit, Nat.zero_add, World.cell?_alloc_at _ _ _ _ rfl]
  match j, hj with
  | 0, hj => simpa using hj
  | 1, hj => simpa using hj

/-- An append whose run is known. -/
theorem op_appP {P : Program} {w w' : World} {ops : Array Oper} {o : Oper} {a : Act} {K : Act → World → Prop} {Q : Exit → Act → World → Prop} {E : Prop} (hg : o.guard = none) (s x : Operand) (t : TypeId) (hop : o.op = Op.call { callee := Callee.builtin Builtin.append, args := #[s, x], argTypes := #[t, t] })
    (v xv v' : Value) (hs : a.eval s = v) (hx : a.eval x = xv) (hrun : (Builtin.append_ #[t, t] o.type #[v, xv]).run P w = .ok v' w') (h : K (a.put o.dst v') w') : if Region.wanted o (yielded ops a.tmps) = true then Oper.wp P o a w K Q else E := by
  rw [if_pos (by simp [Region.wanted, hg])]
  unfold Oper.wp
  simp [execOp, hop, resolve, invoke, builtin, hs, hx, hrun, Result.andThen]
  exact h

theorem list_appP {P : Program} {w w' : World} {ops : Array Oper} {rest : List Oper} {o : Oper} {a : Act} {Q : Exit → Act → World → Prop} (hg : o.guard = none) (s x : Operand) (t : TypeId) (hop : o.op = Op.call { callee := Callee.builtin Builtin.append, args := #[s, x], argTypes := #[t, t] })
    (v xv v' : Value) (hs : a.eval s = v) (hx : a.eval x = xv) (hrun : (Builtin.append_ #[t, t] o.type #[v, xv]).run P w = .ok v' w') (h : wpList P ops Q rest (a.put o.dst v') w') : wpList P ops Q (o :: rest) a w :=
  wpList_plain hg fun K hK => by
    have := op_appP (ops := #[]) (Q := Q) (K := K) (E := False) hg s x t hop v xv v' hs hx hrun (hK _ _ h)
    have hw : Region.wanted o (yielded #[] a.tmps) = true := by simp [Region.wanted, hg]
    rw [if_pos hw] at this
    exact this
/-- A block of the call's own: what its cells hold, and what they hold when one is written. -/
theorem boxG {w : World} {X : Nat} {cur : Array Value} {t : TypeId} (h : w.heap[X]? = some (.cells cur t (0, 0))) (o : Nat) : w.cell? ⟨X, o, none⟩ = cur[o]? ∧ w.frozen? ⟨X, o, none⟩ = false := by
  simp [World.cell?, World.frozen?, h]
theorem boxS {w : World} {X : Nat} {cur : Array Value} {t : TypeId} (h : w.heap[X]? = some (.cells cur t (0, 0))) (o : Nat) (v : Value) : (w.setCell ⟨X, o, none⟩ v).heap[X]? = some (.cells (cur.setIfInBounds o v) t (0, 0)) := by
  have hl : X < w.heap.size := (Array.getElem?_eq_some_iff.1 h).1
  have h' : w.heap[X] = .cells cur t (0, 0) := (Array.getElem?_eq_some_iff.1 h).2
  simp [World.setCell, hl, Array.getElem_modify, h']
theorem boxN (w : World) (cur : Array Value) (t : TypeId) (b : Nat) (h : w.heap.size = b) : (w.alloc (.cells cur t)).heap[b]? = some (.cells cur t (0, 0)) := by subst h; exact World.alloc_heap_new w _
theorem own_ne {w : World} {base : Nat} {e : TypeId} {size n : Nat} {v : Value} {xs : List Value} (h : w.ownsRow base e size v n xs) {F : Nat} {cur : Array Value} {t : TypeId} {m : Nat × Nat} (hF : w.heap[F]? = some (.cells cur t m)) (hne : t ≠ e) : some F ≠ v.ownBlock := by
  intro k
  rcases h.2 with ⟨rfl, _⟩ | ⟨g, cap, cur2, rfl, _, hg, _⟩
  · simp [Value.ownBlock] at k
  · obtain rfl : F = g := by simpa [Value.ownBlock] using k
    rw [hg] at hF
    exact hne (by injection hF with hF; injection hF with _ e _; exact e.symm)
def slLen : Option Value → Nat
  | some (.slice _ n _) => n
  | _ => 0
theorem bdrew {B : Nat} {a w : World} (h : Below B a w) : Below B a w.drew := h.trans ⟨rfl, rfl, rfl, Nat.le_refl _, fun _ _ => rfl⟩

end Go.Proofs.YtjbmcdekhhbiaaaGreat
