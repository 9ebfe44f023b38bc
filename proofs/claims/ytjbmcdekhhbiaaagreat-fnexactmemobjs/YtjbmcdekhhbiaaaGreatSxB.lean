/-
  What is owned, read, or told stays so in later memory, and while other blocks are written.
-/
import Derived.Test.YtjbmcdekhhbiaaaGreatAppI
import Derived.Test.YtjbmcdekhhbiaaaGreatFlatV
import Derived.Deep.RegionHeld3
namespace Go.Proofs.YtjbmcdekhhbiaaaGreat
open Go.ChangeShapes Go.WideShapes Go.ChangeAt Go.RowKit

theorem own_later {w y : World} {base : Nat} {e : TypeId} {size n : Nat} {v : Value} {xs : List Value} (h : w.ownsRow base e size v n xs) (hy : Below w.heap.size w y) : y.ownsRow base e size v n xs :=
  own_keep' h fun b hb => hy.block b (own_lt' h b hb)
theorem own_box {w : World} {b base : Nat} (xs : List Int) (hx : w.heap[b]? = some (.cells (xs.map (Value.int .i64)).toArray 3 (0, 0))) (hb : base ≤ b) (hl : xs.length ≤ 1000000) : w.ownsRow base 3 1 (.slice (some ⟨b, 0, none⟩) xs.length xs.length) xs.length (xs.map (Value.int .i64)) :=
  ⟨by simp, .inr ⟨b, xs.length, _, rfl, hb, hx, Nat.le_refl _, by unfold maxLen; omega, by simp, by rw [Nat.mul_one]; exact List.take_of_length_le (by simp)⟩⟩
theorem IntsAt.set {D : Nat → Prop} {w : World} {a : Option Addr} {len : Nat} {xs : List Int} (h : IntsAt D w a len xs) (p : Addr) (v : Value) (hp : ¬ D p.block) : IntsAt D (w.setCell p v) a len xs :=
  h.keep fun b o hb _ => World.cell?_setCell_other _ _ _ _ (by intro e; exact hp (by rw [e]; exact hb))
theorem own_setb {w : World} {base : Nat} {e : TypeId} {size n : Nat} {v : Value} {xs : List Value} (h : w.ownsRow base e size v n xs) (p : Addr) (u : Value) (hp : v.ownBlock ≠ some p.block) : (w.setCell p u).ownsRow base e size v n xs :=
  own_keep' h fun b hb => Below.heap_setCell _ _ _ _ (by intro e; exact hp (by rw [hb, e]))
theorem own_sl {w : World} {base : Nat} {e : TypeId} {size n : Nat} {v : Value} {xs : List Value} (h : w.ownsRow base e size v n xs) : ∃ a c, v = .slice a n c := by
  rcases h.2 with ⟨rfl, rfl⟩ | ⟨g, cap, cur, rfl, _⟩
  · exact ⟨_, _, rfl⟩
  · exact ⟨_, _, rfl⟩
theorem nat_beq (a b : Nat) : ((a : Int) == (b : Int)) = (a == b) := by rw [Bool.eq_iff_iff]; simp; omega

theorem bR {B : Nat} {w : World} : Below B w w := Below.refl _ _
theorem lF {p : World → Prop} {b0 : Nat} {c n : World} (F : Hid (∀ y, Below b0 c y → p y)) (hq : Below b0 c n) (hz : b0 ≤ n.heap.size) : Hid (∀ y, Below n.heap.size n y → p y) := fun y hy => F.out y (hq.trans (hy.mono hz))
theorem lA {p : World → Prop} {b0 : Nat} {c n : World} (F : Hid (∀ y, Below b0 c y → p y)) (BP : Hid (Below b0 c n)) : Hid (∀ y, Below (b0 + 1) n y → p y) := fun y hy => F.out y (BP.out.trans (hy.mono (Nat.le_succ _)))
theorem lD {p : World → Prop} {b0 : Nat} {c : World} (F : Hid (∀ y, Below b0 c y → p y)) : Hid (∀ y, Below b0 c.drew y → p y) := fun y hy => F.out y ((bdrew (Below.refl _ _)).trans hy)
theorem lL {a b : Nat} (h : a < b) : a < b + 1 := Nat.lt_succ_of_lt h
theorem lS {b0 a : Nat} {c : World} {o : Option Obj} (X : Hid (∀ y, Below b0 c y → y.heap[a]? = o)) (l : a < b0) (n : World) (h : n.heap[a]? = c.heap[a]?) : Hid (∀ y, Below b0 n y → y.heap[a]? = o) := fun _ hy => (hy.block a l).trans (h.trans (X.out c bR))
theorem lH {b0 a hb : Nat} {c n pre : World} {o : Option Obj} (X : Hid (∀ y, Below b0 c y → y.heap[a]? = o)) (hn : Below hb pre n) (hp : Below b0 c pre) (l : a < hb) (l0 : a < b0) (hs : hb ≤ pre.heap.size) : Hid (∀ y, Below n.heap.size n y → y.heap[a]? = o) := fun _ hy => (hy.block a (Nat.lt_of_lt_of_le l (Nat.le_trans hs hn.size))).trans ((hn.block a l).trans ((hp.block a l0).trans (X.out c bR)))
theorem bk1 {w : World} {X : Nat} {t : TypeId} {v0 : Value} (h : w.heap[X]? = some (.cells #[v0] t (0, 0))) : w.cell? ⟨X, 0, none⟩ = some v0 := (boxG h 0).1
theorem bq1 {w : World} {X : Nat} {t : TypeId} {v0 : Value} (h : w.heap[X]? = some (.cells #[v0] t (0, 0))) : w.frozen? ⟨X, 0, none⟩ = false := (boxG h 0).2
theorem bk2 {w : World} {X : Nat} {t : TypeId} {v0 v1 : Value} (h : w.heap[X]? = some (.cells #[v0, v1] t (0, 0))) : w.cell? ⟨X, 0, none⟩ = some v0 ∧ w.cell? ⟨X, 1, none⟩ = some v1 := ⟨(boxG h 0).1, (boxG h 1).1⟩
theorem bq2 {w : World} {X : Nat} {t : TypeId} {v0 v1 : Value} (h : w.heap[X]? = some (.cells #[v0, v1] t (0, 0))) : w.frozen? ⟨X, 0, none⟩ = false ∧ w.frozen? ⟨X, 1, none⟩ = false := ⟨(boxG h 0).2, (boxG h 1).2⟩
theorem bk3 {w : World} {X : Nat} {t : TypeId} {v0 v1 v2 : Value} (h : w.heap[X]? = some (.cells #[v0, v1, v2] t (0, 0))) : w.cell? ⟨X, 0, none⟩ = some v0 ∧ w.cell? ⟨X, 1, none⟩ = some v1 ∧ w.cell? ⟨X, 2, none⟩ = some v2 := ⟨(boxG h 0).1, (boxG h 1).1, (boxG h 2).1⟩
theorem bq3 {w : World} {X : Nat} {t : TypeId} {v0 v1 v2 : Value} (h : w.heap[X]? = some (.cells #[v0, v1, v2] t (0, 0))) : w.frozen? ⟨X, 0, none⟩ = false ∧ w.frozen? ⟨X, 1, none⟩ = false ∧ w.frozen? ⟨X, 2, none⟩ = false := ⟨(boxG h 0).2, (boxG h 1).2, (boxG h 2).2⟩
theorem bk4 {w : World} {X : Nat} {t : TypeId} {v0 v1 v2 v3 : Value} (h : w.heap[X]? = some (.cells #[v0, v1, v2, v3] t (0, 0))) : w.cell? ⟨X, 0, none⟩ = some v0 ∧ w.cell? ⟨X, 1, none⟩ = some v1 ∧ w.cell? ⟨X, 2, none⟩ = some v2 ∧ w.cell? ⟨X, 3, none⟩ = some v3 := ⟨(boxG h 0).1, (boxG h 1).1, (boxG h 2).1, (boxG h 3).1⟩
theorem bq4 {w : World} {X : Nat} {t : TypeId} {v0 v1 v2 v3 : Value} (h : w.heap[X]? = some (.cells #[v0, v1, v2, v3] t (0, 0))) : w.frozen? ⟨X, 0, none⟩ = false ∧ w.frozen? ⟨X, 1, none⟩ = false ∧ w.frozen? ⟨X, 2, none⟩ = false ∧ w.frozen? ⟨X, 3, none⟩ = false := ⟨(boxG h 0).2, (boxG h 1).2, (boxG h 2).2, (boxG h 3).2⟩
theorem bk5 {w : World} {X : Nat} {t : TypeId} {v0 v1 v2 v3 v4 : Value} (h : w.heap[X]? = some (.cells #[v0, v1, v2, v3, v4] t (0, 0))) : w.cell? ⟨X, 0, none⟩ = some v0 ∧ w.cell? ⟨X, 1, none⟩ = some v1 ∧ w.cell? ⟨X, 2, none⟩ = some v2 ∧ w.cell? ⟨X, 3, none⟩ = some v3 ∧ w.cell? ⟨X, 4, none⟩ = some v4 := ⟨(boxG h 0).1, (boxG h 1).1, (boxG h 2).1, (boxG h 3).1, (boxG h 4).1⟩
theorem bq5 {w : World} {X : Nat} {t : TypeId} {v0 v1 v2 v3 v4 : Value} (h : w.heap[X]? = some (.cells #[v0, v1, v2, v3, v4] t (0, 0))) : w.frozen? ⟨X, 0, none⟩ = false ∧ w.frozen? ⟨X, 1, none⟩ = false ∧ w.frozen? ⟨X, 2, none⟩ = false ∧ w.frozen? ⟨X, 3, none⟩ = false ∧ w.frozen? ⟨X, 4, none⟩ = false := ⟨(boxG h 0).2, (boxG h 1).2, (boxG h 2).2, (boxG h 3).2, (boxG h 4).2⟩
theorem bk6 {w : World} {X : Nat} {t : TypeId} {v0 v1 v2 v3 v4 v5 : Value} (h : w.heap[X]? = some (.cells #[v0, v1, v2, v3, v4, v5] t (0, 0))) : w.cell? ⟨X, 0, none⟩ = some v0 ∧ w.cell? ⟨X, 1, none⟩ = some v1 ∧ w.cell? ⟨X, 2, none⟩ = some v2 ∧ w.cell? ⟨X, 3, none⟩ = some v3 ∧ w.cell? ⟨X, 4, none⟩ = some v4 ∧ w.cell? ⟨X, 5, none⟩ = some v5 := ⟨(boxG h 0).1, (boxG h 1).1, (boxG h 2).1, (boxG h 3).1, (boxG h 4).1, (boxG h 5).1⟩
theorem bq6 {w : World} {X : Nat} {t : TypeId} {v0 v1 v2 v3 v4 v5 : Value} (h : w.heap[X]? = some (.cells #[v0, v1, v2, v3, v4, v5] t (0, 0))) : w.frozen? ⟨X, 0, none⟩ = false ∧ w.frozen? ⟨X, 1, none⟩ = false ∧ w.frozen? ⟨X, 2, none⟩ = false ∧ w.frozen? ⟨X, 3, none⟩ = false ∧ w.frozen? ⟨X, 4, none⟩ = false ∧ w.frozen? ⟨X, 5, none⟩ = false := ⟨(boxG h 0).2, (boxG h 1).2, (boxG h 2).2, (boxG h 3).2, (boxG h 4).2, (boxG h 5).2⟩
theorem bk13 {w : World} {X : Nat} {t : TypeId} {v0 v1 v2 v3 v4 v5 v6 v7 v8 v9 v10 v11 v12 : Value} (h : w.heap[X]? = some (.cells #[v0, v1, v2, v3, v4, v5, v6, v7, v8, v9, v10, v11, v12] t (0, 0))) : w.cell? ⟨X, 0, none⟩ = some v0 ∧ w.cell? ⟨X, 1, none⟩ = some v1 ∧ w.cell? ⟨X, 2, none⟩ = some v2 ∧ w.cell? ⟨X, 3, none⟩ = some v3 ∧ w.cell? ⟨X, 4, none⟩ = some v4 ∧ w.cell? ⟨X, 5, none⟩ = some v5 ∧ w.cell? ⟨X, 6, none⟩ = some v6 ∧ w.cell? ⟨X, 7, none⟩ = some v7 ∧ w.cell? ⟨X, 8, none⟩ = some v8 ∧ w.cell? ⟨X, 9, none⟩ = some v9 ∧ w.cell? ⟨X, 10, none⟩ = some v10 ∧ w.cell? ⟨X, 11, none⟩ = some v11 ∧ w.cell? ⟨X, 12, none⟩ = some v12 := ⟨(boxG h 0).1, (boxG h 1).1, (boxG h 2).1, (boxG h 3).1, (boxG h 4).1, (boxG h 5).1, (boxG h 6).1, (boxG h 7).1, (boxG h 8).1, (boxG h 9).1, (boxG h 10).1, (boxG h 11).1, (boxG h 12).1⟩
theorem bq13 {w : World} {X : Nat} {t : TypeId} {v0 v1 v2 v3 v4 v5 v6 v7 v8 v9 v10 v11 v12 : Value} (h : w.heap[X]? = some (.cells #[v0, v1, v2, v3, v4, v5, v6, v7, v8, v9, v10, v11, v12] t (0, 0))) : w.frozen? ⟨X, 0, none⟩ = false ∧ w.frozen? ⟨X, 1, none⟩ = false ∧ w.frozen? ⟨X, 2, none⟩ = false ∧ w.frozen? ⟨X, 3, none⟩ = false ∧ w.frozen? ⟨X, 4, none⟩ = false ∧ w.frozen? ⟨X, 5, none⟩ = false ∧ w.frozen? ⟨X, 6, none⟩ = false ∧ w.frozen? ⟨X, 7, none⟩ = false ∧ w.frozen? ⟨X, 8, none⟩ = false ∧ w.frozen? ⟨X, 9, none⟩ = false ∧ w.frozen? ⟨X, 10, none⟩ = false ∧ w.frozen? ⟨X, 11, none⟩ = false ∧ w.frozen? ⟨X, 12, none⟩ = false := ⟨(boxG h 0).2, (boxG h 1).2, (boxG h 2).2, (boxG h 3).2, (boxG h 4).2, (boxG h 5).2, (boxG h 6).2, (boxG h 7).2, (boxG h 8).2, (boxG h 9).2, (boxG h 10).2, (boxG h 11).2, (boxG h 12).2⟩
theorem box13 {w : World} {X : Nat} {cur : Array Value} {t : TypeId} (h : w.heap[X]? = some (.cells cur t (0, 0))) (hs : cur.size = 13) (v0 v1 v2 v3 v4 v5 v6 v7 v8 v9 v10 v11 v12 : Value) : (((((((((((((w.setCell ⟨X, 0, none⟩ v0).setCell ⟨X, 1, none⟩ v1).setCell ⟨X, 2, none⟩ v2).setCell ⟨X, 3, none⟩ v3).setCell ⟨X, 4, none⟩ v4).setCell ⟨X, 5, none⟩ v5).setCell ⟨X, 6, none⟩ v6).setCell ⟨X, 7, none⟩ v7).setCell ⟨X, 8, none⟩ v8).setCell ⟨X, 9, none⟩ v9).setCell ⟨X, 10, none⟩ v10).setCell ⟨X, 11, none⟩ v11).setCell ⟨X, 12, none⟩ v12).heap[X]? = some (.cells #[v0, v1, v2, v3, v4, v5, v6, v7, v8, v9, v10, v11, v12] t (0, 0)) := by
  refine ((boxS (boxS (boxS (boxS (boxS (boxS (boxS (boxS (boxS (boxS (boxS (boxS (boxS h 0 v0) 1 v1) 2 v2) 3 v3) 4 v4) 5 v5) 6 v6) 7 v7) 8 v8) 9 v9) 10 v10) 11 v11) 12 v12)).trans ?_
  obtain ⟨l⟩ := cur
  match l, hs with
  | [c0, c1, c2, c3, c4, c5, c6, c7, c8, c9, c10, c11, c12], _ => simp only [List.setIfInBounds_toArray, List.set_cons_zero, List.set_cons_succ]
theorem keep13 {w : World} {X b : Nat} {v0 v1 v2 v3 v4 v5 v6 v7 v8 v9 v10 v11 v12 : Value} (h : b ≠ X) : (((((((((((((w.setCell ⟨X, 0, none⟩ v0).setCell ⟨X, 1, none⟩ v1).setCell ⟨X, 2, none⟩ v2).setCell ⟨X, 3, none⟩ v3).setCell ⟨X, 4, none⟩ v4).setCell ⟨X, 5, none⟩ v5).setCell ⟨X, 6, none⟩ v6).setCell ⟨X, 7, none⟩ v7).setCell ⟨X, 8, none⟩ v8).setCell ⟨X, 9, none⟩ v9).setCell ⟨X, 10, none⟩ v10).setCell ⟨X, 11, none⟩ v11).setCell ⟨X, 12, none⟩ v12).heap[b]? = w.heap[b]? :=
  (Below.heap_setCell _ _ _ _ h).trans ((Below.heap_setCell _ _ _ _ h).trans ((Below.heap_setCell _ _ _ _ h).trans ((Below.heap_setCell _ _ _ _ h).trans ((Below.heap_setCell _ _ _ _ h).trans ((Below.heap_setCell _ _ _ _ h).trans ((Below.heap_setCell _ _ _ _ h).trans ((Below.heap_setCell _ _ _ _ h).trans ((Below.heap_setCell _ _ _ _ h).trans ((Below.heap_setCell _ _ _ _ h).trans ((Below.heap_setCell _ _ _ _ h).trans ((Below.heap_setCell _ _ _ _ h).trans ((Below.heap_setCell _ _ _ _ h)))))))))))))
theorem tU {P : Program} {md : Region.Mode} {ops : Array Oper} {Q : Exit → Act → World → Prop} {S : World → Prop} {oi : Oper} {fuel : Nat} {listed : Array Bool} {a : Act} {w : World} (i : Nat) (hi : ops[i]? = some oi)
    (hb : (Region.noSelect ops && Region.free md ops listed i && (Region.ready md ops listed).contains i && !Region.wanted oi (yielded ops a.tmps)) = true)
    (hQ : ∀ c a w, Q (.panic c) (a.put oi.dst undef) w → Q (.panic c) a w) (hS : S w)
    (h : wpAnyH P md ops Q S fuel (listed.setIfInBounds i true) (a.put oi.dst undef) w) : wpAnyH P md ops Q S (fuel + 1) listed a w := by
  simp only [Bool.and_eq_true, Bool.not_eq_true'] at hb
  exact wpAnyH_take hi hb.1.1.1 hb.1.1.2 hb.1.2 hQ (Or.inr ⟨hb.2, rfl⟩) hS h
theorem tV {P : Program} {md : Region.Mode} {ops : Array Oper} {Q : Exit → Act → World → Prop} {S : World → Prop} {oi : Oper} {v : Value} {fuel : Nat} {listed : Array Bool} {a : Act} {w : World} (i : Nat) (hi : ops[i]? = some oi)
    (hb : (Region.noSelect ops && Region.free md ops listed i && (Region.ready md ops listed).contains i && Region.wanted oi (yielded ops a.tmps)) = true)
    (hQ : ∀ c a w, Q (.panic c) (a.put oi.dst v) w → Q (.panic c) a w) (hv : ∀ w, S w → (execOp a.eval oi).run P w = .ok (.value v) w) (hS : S w)
    (h : wpAnyH P md ops Q S fuel (listed.setIfInBounds i true) (a.put oi.dst v) w) : wpAnyH P md ops Q S (fuel + 1) listed a w := by
  simp only [Bool.and_eq_true] at hb
  exact wpAnyH_take hi hb.1.1.1 hb.1.1.2 hb.1.2 hQ (Or.inl ⟨hb.2, hv⟩) hS h
theorem zgT {α : Type} {xs : List α} {i : Nat} (h : i < xs.toArray.size) : xs.toArray[i] = xs[i]'(by simpa using h) := rfl
theorem zg0 {α : Type} (a : α) (l : List α) (h : 0 < (a :: l).length) : (a :: l)[0] = a := rfl
theorem zgS {α : Type} (a : α) (l : List α) (i : Nat) (h : i + 1 < (a :: l).length) : (a :: l)[i + 1] = l[i]'(Nat.lt_of_succ_lt_succ h) := rfl
theorem zsT {α : Type} (l : List α) (i : Nat) (a : α) : l.toArray.setIfInBounds i a = (l.set i a).toArray := List.setIfInBounds_toArray l i a
theorem zs0 {α : Type} {x : α} {xs : List α} {a : α} : (x :: xs).set 0 a = a :: xs := rfl
theorem zsS {α : Type} {x : α} {xs : List α} {i : Nat} {a : α} : (x :: xs).set (i + 1) a = x :: xs.set i a := rfl

end Go.Proofs.YtjbmcdekhhbiaaaGreat
