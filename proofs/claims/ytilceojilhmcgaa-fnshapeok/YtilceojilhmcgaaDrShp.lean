/-
  What is drawn of a shape, whatever the code: a shape of two lists, in new memory alone.
-/
import Derived.Test.YtilceojilhmcgaaDrTy
namespace Go.Proofs.Ytilceojilhmcgaa
open Go.ChangeShapes Go.WideShapes Go.ChangeAt Go.RowKit

/-- The state while a shape is made in the box X; Y: where the result will lie. -/
structure ShL (B R Y X : Nat) (w wr : World) (any : Bool) (lv sv : Value) (m n k : Nat) : Prop where
  rd : Rd B wr R k
  box : wr.heap[X]? = some (.cells #[.bool any, lv, sv] 26 (0, 0))
  res : wr.heap[Y]? = some (.cells #[.bool false, .slice none 0 0, .slice none 0 0] 26 (0, 0))
  loc : ∃ xs : List Int, wr.ownsRow 0 3 1 lv m (xs.map (Value.int .i64)) ∧ (∀ x ∈ xs, -1000 ≤ x ∧ x ≤ 1000)
  st : ∃ ys : List Int, wr.ownsRow 0 3 1 sv n (ys.map (Value.int .i64)) ∧ (∀ x ∈ ys, -1000 ≤ x ∧ x ≤ 1000)
  aboveL : ∀ b, lv.ownBlock = some b → X < b
  aboveS : ∀ b, sv.ownBlock = some b → X < b
  apart : ∀ b, lv.ownBlock = some b → sv.ownBlock = some b → False
  ch : Ch (fun i => i = R) w wr
  size : X < wr.heap.size
theorem box3_cells {w : World} {X : Nat} {any : Bool} {lv sv : Value} {t : TypeId} (h : w.heap[X]? = some (.cells #[.bool any, lv, sv] t (0, 0))) :
    w.cell? ⟨X, 0, none⟩ = some (.bool any) ∧ w.cell? ⟨X, 1, none⟩ = some lv ∧ w.cell? ⟨X, 2, none⟩ = some sv ∧ w.frozen? ⟨X, 0, none⟩ = false ∧ w.frozen? ⟨X, 1, none⟩ = false ∧ w.frozen? ⟨X, 2, none⟩ = false := by
  simp [World.cell?, World.frozen?, h]
section
variable {Y : Nat}
theorem box3_setL {w : World} {X : Nat} {any : Bool} {lv sv nv : Value} {t : TypeId} (h : w.heap[X]? = some (.cells #[.bool any, lv, sv] t (0, 0))) :
    (w.setCell ⟨X, 1, none⟩ nv).heap[X]? = some (.cells #[.bool any, nv, sv] t (0, 0)) := by
  have hl : X < w.heap.size := by
    rcases Nat.lt_or_ge X w.heap.size with h' | h'
    · exact h'
    · rw [Array.getElem?_eq_none h'] at h; cases h
  have h' : w.heap[X] = .cells #[.bool any, lv, sv] t (0, 0) := by
    rw [Array.getElem?_eq_getElem hl] at h
    exact Option.some.inj h
  simp [World.setCell, hl, Array.getElem_modify, h']
theorem ShL.stepL {B R X : Nat} {w wr w4 w5 : World} {any : Bool} {lv sv : Value} {m n k k2 gg cap q : Nat} (hRw : R < w.heap.size) (hXw : w.heap.size ≤ Y) (hYX : Y < X) (h : ShL B R Y X w wr any lv sv m n k)
    (c4 : Ch (fun i => i = R) wr w4) (r4 : Rd B w4 R k2) (xs ys : List Int) (hxs : ∀ x ∈ xs, -1000 ≤ x ∧ x ≤ 1000) (hys : ∀ x ∈ ys, -1000 ≤ x ∧ x ≤ 1000) (o : Obj)
    (hg : (w4.alloc o).grownBy w5 lv.ownBlock) (ho : w5.ownsRow 0 3 1 (.slice (some ⟨gg, 0, none⟩) (m + q) cap) (m + q) (xs.map (Value.int .i64) ++ ys.map (Value.int .i64)))
    (hat : lv.ownBlock = some gg ∨ gg = w4.heap.size + 1) :
    ShL B R Y X w (w5.setCell ⟨X, 1, none⟩ (.slice (some ⟨gg, 0, none⟩) (m + q) cap)) any (.slice (some ⟨gg, 0, none⟩) (m + q) cap) sv (m + q) n k2 := by
  have hX := h.size
  have h4 := c4.size
  have hB := r4.low
  have hgX : X < gg := by
    rcases hat with e | e
    · exact h.aboveL gg e
    · omega
  have c5 : Ch (fun i => i = X ∨ lv.ownBlock = some i) w4 (w5.setCell ⟨X, 1, none⟩ (.slice (some ⟨gg, 0, none⟩) (m + q) cap)) :=
    (((Ch.refl _ w4).alloc o).grown hg (fun i e _ => .inr e)).setCell _ _ (fun _ => .inl rfl)
  have hbox5 : w5.heap[X]? = some (.cells #[.bool any, lv, sv] 26 (0, 0)) := by
    rw [hg.block X (by simp; omega) (fun e => by have := h.aboveL X e.symm; omega), Below.heap_alloc w4 o X (by omega), c4.block X hX (by omega)]
    exact h.box
  have hfar : ∀ b, sv.ownBlock = some b → b ≠ gg := fun b e1 e2 => by
    subst e2
    rcases hat with e | e
    · exact h.apart _ e e1
    · obtain ⟨zs, hz, _⟩ := h.st
      have := (own_lt hz _ e1).1
      omega
  obtain ⟨zs, hz, hzb⟩ := h.st
  have hoth : (w5.setCell ⟨X, 1, none⟩ (.slice (some ⟨gg, 0, none⟩) (m + q) cap)).ownsRow 0 3 1 sv n (zs.map (Value.int .i64)) := by
    refine own_keep (own_keep hz (fun b hb => c4.block b (own_lt hz b hb).1 (by have := h.aboveS b hb; omega))) fun b hb => ?_
    have := h.aboveS b hb
    exact c5.block b (Nat.lt_of_lt_of_le (own_lt hz b hb).1 c4.size) (fun e => by
      rcases e with e | e
      · omega
      · exact h.apart b e hb)
  have hnew : ∃ zs : List Int, (w5.setCell ⟨X, 1, none⟩ (.slice (some ⟨gg, 0, none⟩) (m + q) cap)).ownsRow 0 3 1 (.slice (some ⟨gg, 0, none⟩) (m + q) cap) (m + q) (zs.map (Value.int .i64)) ∧ ∀ x ∈ zs, -1000 ≤ x ∧ x ≤ 1000 := by
    refine ⟨xs ++ ys, ?_, ?_⟩
    · rw [List.map_append]
      refine own_keep ho fun b hb => ?_
      simp [Value.ownBlock] at hb
      exact Below.heap_setCell w5 _ _ b (by simp; omega)
    · intro x hx
      rcases List.mem_append.1 hx with hx | hx
      · exact hxs x hx
      · exact hys x hx
  have habv : ∀ b, (Value.slice (some ⟨gg, 0, none⟩) (m + q) cap).ownBlock = some b → X < b := fun b hb => by simp [Value.ownBlock] at hb; omega
  refine ⟨r4.ch c5 (fun i hi => ?_), box3_setL hbox5, ?_, hnew, ⟨zs, hoth, hzb⟩, habv, h.aboveS, fun b e1 e2 => ?_, ?_, ?_⟩
  · rcases hi with rfl | e
    · omega
    · have := h.aboveL i e; omega
  · rw [c5.block Y (by omega) (fun e => e.elim (fun e => by omega) (fun e => by have := h.aboveL Y e; omega)), c4.block Y (by omega) (by omega)]
    exact h.res
  · simp [Value.ownBlock] at e1
    exact hfar b e2 e1.symm
  · refine (h.ch.trans c4 (fun _ _ h => h)).trans c5 (fun i hi e => ?_)
    rcases e with rfl | e
    · omega
    · have := h.aboveL i e; omega
  · have := c5.size
    omega

theorem box3_setS {w : World} {X : Nat} {any : Bool} {lv sv nv : Value} {t : TypeId} (h : w.heap[X]? = some (.cells #[.bool any, lv, sv] t (0, 0))) :
    (w.setCell ⟨X, 2, none⟩ nv).heap[X]? = some (.cells #[.bool any, lv, nv] t (0, 0)) := by
  have hl : X < w.heap.size := by
    rcases Nat.lt_or_ge X w.heap.size with h' | h'
    · exact h'
    · rw [Array.getElem?_eq_none h'] at h; cases h
  have h' : w.heap[X] = .cells #[.bool any, lv, sv] t (0, 0) := by
    rw [Array.getElem?_eq_getElem hl] at h
    exact Option.some.inj h
  simp [World.setCell, hl, Array.getElem_modify, h']
theorem ShL.stepS {B R X : Nat} {w wr w4 w5 : World} {any : Bool} {lv sv : Value} {m n k k2 gg cap q : Nat} (hRw : R < w.heap.size) (hXw : w.heap.size ≤ Y) (hYX : Y < X) (h : ShL B R Y X w wr any lv sv m n k)
    (c4 : Ch (fun i => i = R) wr w4) (r4 : Rd B w4 R k2) (xs ys : List Int) (hxs : ∀ x ∈ xs, -1000 ≤ x ∧ x ≤ 1000) (hys : ∀ x ∈ ys, -1000 ≤ x ∧ x ≤ 1000) (o : Obj)
    (hg : (w4.alloc o).grownBy w5 sv.ownBlock) (ho : w5.ownsRow 0 3 1 (.slice (some ⟨gg, 0, none⟩) (n + q) cap) (n + q) (xs.map (Value.int .i64) ++ ys.map (Value.int .i64)))
    (hat : sv.ownBlock = some gg ∨ gg = w4.heap.size + 1) :
    ShL B R Y X w (w5.setCell ⟨X, 2, none⟩ (.slice (some ⟨gg, 0, none⟩) (n + q) cap)) any lv (.slice (some ⟨gg, 0, none⟩) (n + q) cap) m (n + q) k2 := by
  have hX := h.size
  have h4 := c4.size
  have hB := r4.low
  have hgX : X < gg := by
    rcases hat with e | e
    · exact h.aboveS gg e
    · omega
  have c5 : Ch (fun i => i = X ∨ sv.ownBlock = some i) w4 (w5.setCell ⟨X, 2, none⟩ (.slice (some ⟨gg, 0, none⟩) (n + q) cap)) :=
    (((Ch.refl _ w4).alloc o).grown hg (fun i e _ => .inr e)).setCell _ _ (fun _ => .inl rfl)
  have hbox5 : w5.heap[X]? = some (.cells #[.bool any, lv, sv] 26 (0, 0)) := by
    rw [hg.block X (by simp; omega) (fun e => by have := h.aboveS X e.symm; omega), Below.heap_alloc w4 o X (by omega), c4.block X hX (by omega)]
    exact h.box
  have hfar : ∀ b, lv.ownBlock = some b → b ≠ gg := fun b e1 e2 => by
    subst e2
    rcases hat with e | e
    · exact h.apart _ e1 e
    · obtain ⟨zs, hz, _⟩ := h.loc
      have := (own_lt hz _ e1).1
      omega
  obtain ⟨zs, hz, hzb⟩ := h.loc
  have hoth : (w5.setCell ⟨X, 2, none⟩ (.slice (some ⟨gg, 0, none⟩) (n + q) cap)).ownsRow 0 3 1 lv m (zs.map (Value.int .i64)) := by
    refine own_keep (own_keep hz (fun b hb => c4.block b (own_lt hz b hb).1 (by have := h.aboveL b hb; omega))) fun b hb => ?_
    have := h.aboveL b hb
    exact c5.block b (Nat.lt_of_lt_of_le (own_lt hz b hb).1 c4.size) (fun e => by
      rcases e with e | e
      · omega
      · exact h.apart b hb e)
  have hnew : ∃ zs : List Int, (w5.setCell ⟨X, 2, none⟩ (.slice (some ⟨gg, 0, none⟩) (n + q) cap)).ownsRow 0 3 1 (.slice (some ⟨gg, 0, none⟩) (n + q) cap) (n + q) (zs.map (Value.int .i64)) ∧ ∀ x ∈ zs, -1000 ≤ x ∧ x ≤ 1000 := by
    refine ⟨xs ++ ys, ?_, ?_⟩
    · rw [List.map_append]
      refine own_keep ho fun b hb => ?_
      simp [Value.ownBlock] at hb
      exact Below.heap_setCell w5 _ _ b (by simp; omega)
    · intro x hx
      rcases List.mem_append.1 hx with hx | hx
      · exact hxs x hx
      · exact hys x hx
  have habv : ∀ b, (Value.slice (some ⟨gg, 0, none⟩) (n + q) cap).ownBlock = some b → X < b := fun b hb => by simp [Value.ownBlock] at hb; omega
  refine ⟨r4.ch c5 (fun i hi => ?_), box3_setS hbox5, ?_, ⟨zs, hoth, hzb⟩, hnew, h.aboveL, habv, fun b e1 e2 => ?_, ?_, ?_⟩
  · rcases hi with rfl | e
    · omega
    · have := h.aboveS i e; omega
  · rw [c5.block Y (by omega) (fun e => e.elim (fun e => by omega) (fun e => by have := h.aboveS Y e; omega)), c4.block Y (by omega) (by omega)]
    exact h.res
  · simp [Value.ownBlock] at e2
    exact hfar b e1 e2.symm
  · refine (h.ch.trans c4 (fun _ _ h => h)).trans c5 (fun i hi e => ?_)
    rcases e with rfl | e
    · omega
    · have := h.aboveS i e; omega
  · have := c5.size
    omega
end


/-- What is so behind the drawing of a shape. -/
def DrawnSh (w : World) (B R k : Nat) (e : Ending) (w' : World) : Prop :=
  ∃ any la ll lc ka kl kc us vs k', e = .returned (.agg #[.bool any, .slice la ll lc, .slice ka kl kc]) ∧ IntsAt (fun b => w.heap.size ≤ b) w' la ll us ∧ IntsAt (fun b => w.heap.size ≤ b) w' ka kl vs ∧ Rd B w' R k' ∧ k' ≤ k + 100 ∧ Ch (fun i => i = R) w w'
theorem own_ints {D : Nat → Prop} {w : World} {v : Value} {m : Nat} {xs : List Int} (ho : w.ownsRow 0 3 1 v m (xs.map (Value.int .i64))) (hm : m ≤ 20) (hx : ∀ x ∈ xs, -1000 ≤ x ∧ x ≤ 1000) (hd : ∀ b, v.ownBlock = some b → D b) : ∃ a c, v = .slice a m c ∧ IntsAt D w a m xs := by
  obtain ⟨a, len, cap, ys, e, hI⟩ := FV.ints (D := D) (w := w) (fv := v) ⟨m, xs, ho, hm, hx, hd⟩
  have hl := own_len ho
  have hlen : xs.length = m := by have := ho.1; simpa using this
  subst e
  simp only [lenOf] at hl
  subst hl
  have hfit : ∀ j, -9223372036854775808 ≤ xs.getD j 0 ∧ xs.getD j 0 ≤ 9223372036854775807 := by
    intro j
    rw [List.getD_eq_getElem?_getD]
    cases e : xs[j]? with
    | none => simp
    | some z => have := hx z (List.mem_of_getElem? e); simp; omega
  refine ⟨a, cap, rfl, hlen, hI.room, ?_, hfit⟩
  rcases ho.2 with ⟨e, e2⟩ | ⟨g, cap', cur, e, _⟩
  · exact .inl e2
  · cases e
    refine .inr ⟨g, 0, rfl, hd g (by simp [Value.ownBlock]), fun j hj => ?_⟩
    rw [Nat.zero_add, ho.cellAt j (by omega), List.getElem?_map, List.getD_eq_getElem?_getD, List.getElem?_eq_getElem (by omega)]
    rfl
theorem ShL.start {B R k : Nat} {w : World} (h : Rd B w R k) : ShL B R w.heap.size (w.heap.size + 1) w ((w.alloc (.cells #[.bool false, .slice none 0 0, .slice none 0 0] 26)).alloc (.cells #[.bool true, .slice none 0 0, .slice none 0 0] 26)) true (.slice none 0 0) (.slice none 0 0) 0 0 k := by
  refine ⟨(h.alloc _).alloc _, ?_, ?_, ⟨[], ⟨rfl, .inl ⟨rfl, rfl⟩⟩, by simp⟩, ⟨[], ⟨rfl, .inl ⟨rfl, rfl⟩⟩, by simp⟩, by simp [Value.ownBlock], by simp [Value.ownBlock], by simp [Value.ownBlock], ((Ch.refl _ w).alloc _).alloc _, by simp⟩
  · have := heap_alloc_new (w.alloc (.cells #[.bool false, .slice none 0 0, .slice none 0 0] 26)) (.cells #[.bool true, .slice none 0 0, .slice none 0 0] 26)
    simpa using this
  · rw [Below.heap_alloc _ _ _ (by simp), heap_alloc_new]


theorem ShL.turn {B R Y X : Nat} {w wr w3 : World} {any : Bool} {lv sv : Value} {m n k k3 : Nat} (hRw : R < w.heap.size) (hYw : w.heap.size ≤ Y) (hYX : Y < X) (h : ShL B R Y X w wr any lv sv m n k) (c : Ch (fun i => i = R) wr w3) (r : Rd B w3 R k3) : ShL B R Y X w w3 any lv sv m n k3 := by
  have hX := h.size
  obtain ⟨xs, hx, hxb⟩ := h.loc
  obtain ⟨ys, hy, hyb⟩ := h.st
  exact ⟨r, by rw [c.block X hX (by omega)]; exact h.box, by rw [c.block Y (by omega) (by omega)]; exact h.res,
    ⟨xs, own_keep hx (fun b hb => c.block b (own_lt hx b hb).1 (by have := h.aboveL b hb; omega)), hxb⟩, ⟨ys, own_keep hy (fun b hb => c.block b (own_lt hy b hb).1 (by have := h.aboveS b hb; omega)), hyb⟩,
    h.aboveL, h.aboveS, h.apart, h.ch.trans c (fun _ _ h => h), Nat.lt_of_lt_of_le hX c.size⟩
theorem IntsAt.off {D : Nat → Prop} {w : World} {a : Option Addr} {len : Nat} {xs : List Int} (h : IntsAt D w a len xs) (p : Addr) (v : Value) (hp : ¬ D p.block) : IntsAt D (w.setCell p v) a len xs :=
  h.keep fun b o hd _ => World.cell?_setCell_other w _ _ _ (by intro e; exact hp (by rw [e]; exact hd))
theorem ShL.fin {B R X : Nat} {w wr : World} {any : Bool} {lv sv : Value} {m n k k0 : Nat} (hRw : R < w.heap.size) (hX : w.heap.size < X) (h : ShL B R w.heap.size X w wr any lv sv m n k) (hm : m ≤ 20) (hn : n ≤ 20) (hk : k ≤ k0 + 100) :
    DrawnSh w B R k0 (.returned (.agg #[.bool any, lv, sv])) (((wr.setCell ⟨w.heap.size, 0, none⟩ (.bool any)).setCell ⟨w.heap.size, 1, none⟩ lv).setCell ⟨w.heap.size, 2, none⟩ sv) := by
  obtain ⟨xs, hx, hxb⟩ := h.loc
  obtain ⟨ys, hy, hyb⟩ := h.st
  obtain ⟨la, lc, rfl, hI⟩ := own_ints (D := fun b => X < b) hx hm hxb h.aboveL
  obtain ⟨ka, kc, rfl, hJ⟩ := own_ints (D := fun b => X < b) hy hn hyb h.aboveS
  have hB := h.rd.low
  have c : Ch (fun i => i = w.heap.size) wr (((wr.setCell ⟨w.heap.size, 0, none⟩ (.bool any)).setCell ⟨w.heap.size, 1, none⟩ (.slice la m lc)).setCell ⟨w.heap.size, 2, none⟩ (.slice ka n kc)) :=
    Ch.setCell (Ch.setCell (Ch.setCell (Ch.refl (fun i => i = w.heap.size) wr) ⟨w.heap.size, 0, none⟩ _ (fun _ => rfl)) ⟨w.heap.size, 1, none⟩ _ (fun _ => rfl)) ⟨w.heap.size, 2, none⟩ _ (fun _ => rfl)
  refine ⟨any, la, m, lc, ka, n, kc, xs, ys, k, rfl, ?_, ?_, h.rd.ch c (fun i hi => by omega), hk, h.ch.trans c (fun i hi e => by omega)⟩
  · refine IntsAt.mono (D := fun b => X < b) ?_ (fun b hb _ => by omega)
    exact (((hI.off _ _ (by simp; omega)).off _ _ (by simp; omega)).off _ _ (by simp; omega))
  · refine IntsAt.mono (D := fun b => X < b) ?_ (fun b hb _ => by omega)
    exact (((hJ.off _ _ (by simp; omega)).off _ _ (by simp; omega)).off _ _ (by simp; omega))
theorem box3_setA {w : World} {X : Nat} {any b : Bool} {lv sv : Value} {t : TypeId} (h : w.heap[X]? = some (.cells #[.bool any, lv, sv] t (0, 0))) :
    (w.setCell ⟨X, 0, none⟩ (.bool b)).heap[X]? = some (.cells #[.bool b, lv, sv] t (0, 0)) := by
  have hl : X < w.heap.size := by
    rcases Nat.lt_or_ge X w.heap.size with h' | h'
    · exact h'
    · rw [Array.getElem?_eq_none h'] at h; cases h
  have h' : w.heap[X] = .cells #[.bool any, lv, sv] t (0, 0) := by
    rw [Array.getElem?_eq_getElem hl] at h
    exact Option.some.inj h
  simp [World.setCell, hl, Array.getElem_modify, h']
theorem ShL.some {B R Y X : Nat} {w wr : World} {any b : Bool} {lv sv : Value} {m n k : Nat} (hRw : R < w.heap.size) (hYw : w.heap.size ≤ Y) (hYX : Y < X) (h : ShL B R Y X w wr any lv sv m n k) : ShL B R Y X w (wr.setCell ⟨X, 0, none⟩ (.bool b)) b lv sv m n k := by
  have hX := h.size
  have hB := h.rd.low
  obtain ⟨xs, hx, hxb⟩ := h.loc
  obtain ⟨ys, hy, hyb⟩ := h.st
  have c : Ch (fun i => i = X) wr (wr.setCell ⟨X, 0, none⟩ (.bool b)) := Ch.setCell (Ch.refl _ wr) ⟨X, 0, none⟩ _ (fun _ => rfl)
  exact ⟨h.rd.ch c (fun i hi => by omega), box3_setA h.box, by rw [c.block Y (by omega) (by omega)]; exact h.res,
    ⟨xs, own_keep hx (fun b hb => c.block b (own_lt hx b hb).1 (by have := h.aboveL b hb; omega)), hxb⟩, ⟨ys, own_keep hy (fun b hb => c.block b (own_lt hy b hb).1 (by have := h.aboveS b hb; omega)), hyb⟩,
    h.aboveL, h.aboveS, h.apart, h.ch.trans c (fun i hi e => by omega), by rw [World.size_setCell]; exact hX⟩
theorem own_slice' {w : World} {base : Nat} {e : TypeId} {size n : Nat} {v : Value} {xs : List Value} (h : w.ownsRow base e size v n xs) : ∃ a c, v = .slice a n c := by
  rcases h.2 with ⟨rfl, rfl⟩ | ⟨g, cap, cur, rfl, _⟩
  · exact ⟨_, _, rfl⟩
  · exact ⟨_, _, rfl⟩
theorem noneSpec (w : World) : Calls Try.prog 51 #[] w fun e w' => ∃ a c b d, e = .returned (.agg #[.bool false, .slice a 0 c, .slice b 0 d]) ∧ Below w.heap.size w w' := by
  go_enter Try.func51, Try.ntmps51
  go_wp2_with fail
  refine bodyPost_ret (v := .agg #[.bool false, .slice (some ⟨w.heap.size + 1, 0, none⟩) 0 0, .slice (some ⟨w.heap.size + 1 + 1, 0, none⟩) 0 0]) ?_ rfl ?_
  · simp [results, Try.results51, go_sem]
  · exact ⟨_, _, _, _, rfl, by go_grown⟩

set_option maxRecDepth 100000 in
set_option maxHeartbeats 4000000 in
theorem drawShape (B R k lo : Nat) (n : Int) (w : World) (h : Rd B w R k) (hk : k ≤ 800000) (hlo : lo ≤ 3) (n0 : 1 ≤ n) (n1 : n ≤ 100) :
    Calls Try.prog 26 #[.pointer (some ⟨R, 0, none⟩), .int .i64 n, .int .i64 lo] w fun e w' => DrawnSh w B R k e w' := by
  have hRs := h.size
  have I0 : Hid (ShL B R w.heap.size (w.heap.size + 1) w ((w.alloc (.cells #[.bool false, .slice none 0 0, .slice none 0 0] 26)).alloc (.cells #[.bool true, .slice none 0 0, .slice none 0 0] 26)) true (.slice none 0 0) (.slice none 0 0) 0 0 k) := ShL.start h
  obtain ⟨i0, hi0, hz0, hz1, hz2⟩ := info_parts info_int2
  clear h
  go_enter Try.func26, Try.ntmps26
  go_wp2_with fail
  go_loopw [8] (fun t wr => ∃ (m kk : Nat) (lv : Value), t = .int .i64 m ∧ m ≤ lo ∧ ShL B R w.heap.size (w.heap.size + 1) w wr true lv (.slice none 0 0) m 0 kk ∧ kk ≤ k + 10 * m) (fun t _ => lo - (intOf t).toNat)
  case atStart => exact ⟨0, k, _, rfl, Nat.zero_le _, I0.out, by omega⟩
  case round =>
    clear I0
    obtain ⟨m, kk, lv, rfl, hm, hin, hkk⟩ := hrel
    have HI : Hid (ShL B R w.heap.size (w.heap.size + 1) w wr true lv (.slice none 0 0) m 0 kk) := hin
    clear hin
    by_cases hlt : m < lo
    · obtain ⟨xs, hown, hxs⟩ := HI.out.loc
      obtain ⟨b0, b1, b2, f0, f1, f2⟩ := box3_cells HI.out.box
      have HXs : Hid (∀ x ∈ xs, -1000 ≤ x ∧ x ≤ 1000) := hxs
      have hX := HI.out.size
      clear hxs
      have hXR : w.heap.size + 1 ≠ R := by omega
      have hfar : some (w.heap.size + 1) ≠ lv.ownBlock := fun e => by have := HI.out.aboveL _ e.symm; omega
      have K4 : Hid (∀ w4, Ch (fun i => i = R) wr.drew w4 → w4.cell? ⟨w.heap.size + 1, 1, none⟩ = some lv ∧ w4.frozen? ⟨w.heap.size + 1, 1, none⟩ = false) :=
        fun w4 c4 => ⟨(c4.cell _ _ hX hXR).trans b1, (c4.frozen _ _ hX hXR).trans f1⟩
      go_wp2_with fail
      go_region_law (first
          | (go_simp
             go_at_call 50
             refine (drawType B R kk n _ HI.out.rd.drew (by omega) (by omega) (by omega)).mono ?_
             rintro e w4 ⟨t, k4, rfl, t01, r4, hk4, c4⟩
             have s5 : w.heap.size + 1 < w4.heap.size := Nat.lt_of_lt_of_le hX c4.size
             have s6 : w.heap.size + 1 < (w4.alloc (.cells #[.int .i64 t] 3)).heap.size := by (simp; omega)
             have own4 := own_keep (w' := w4) hown (fun b hb => c4.block b (own_lt hown b hb).1 (by have := HI.out.aboveL b hb; omega))
             have d4 := (K4.out _ c4).1
             have f4 := (K4.out _ c4).2)
          | (refine step_append_lies _ (by rfl) _ _ _ (by rfl) 0 3 i0 _ 1 8 Try.underlying24 hi0 hz0 hz1 hz2 rfl (by omega) lv m _ (by rfl) (own4.alloc _) ⟨w4.heap.size, 0, none⟩ 1 1 [.int .i64 t] (by rfl) (by rfl) (World.news_of_block (cs := #[.int .i64 t]) (t := 3) (fr := (0, 0)) (heap_alloc_new w4 _)) (by simp [Value.oneCell']) (by omega) (by unfold maxLen; omega) (by omega) (Nat.zero_le _) (w4.heap.size + 1) (by simp) ?_
             intro gg cap' w5 hown5 hgrow hat hlt5
             have d5 : w5.cell? ⟨w.heap.size + 1, 1, none⟩ = some lv := (hgrow.cell_far _ s6 hfar).trans ((World.cell?_alloc_past _ _ _ s5).trans (K4.out _ c4).1)
             have f5 : w5.frozen? ⟨w.heap.size + 1, 1, none⟩ = false := (hgrow.frozen_far _ s6 hfar).trans ((World.frozen?_alloc_past _ _ _ s5).trans (K4.out _ c4).2)))
      all_goals
        have c4' : Ch (fun i => i = R) wr w4 := ⟨c4.os, c4.tape, c4.output, c4.size, c4.block⟩
        have I5 := HI.out.stepL hRs (Nat.le_refl _) (Nat.lt_succ_self _) c4' r4 xs [t] HXs.out (by intro x hx; simp at hx; omega) _ hgrow hown5 hat
        have HI5 : Hid _ := I5
        clear I5 hgrow hown5 hat own4 c4 c4' r4 hown d4 f4 d5 f5
        go_wp2_with fail
        exact ⟨⟨m + 1, k4, _, by go_num, by omega, HI5.out, by omega⟩, by simp [intOf]; omega⟩
    · have em : m = lo := by omega
      subst em
      go_wp2_with fail
      refine (pick B R kk 4 wr HI.out.rd (by omega) (by omega)).mono ?_
      rintro e w3 ⟨q, rfl, q0, q1, h3⟩
      have hq : q.toNat ≤ 3 := by omega
      obtain ⟨q, rfl⟩ := Int.eq_ofNat_of_zero_le q0
      have I3 : Hid (ShL B R w.heap.size (w.heap.size + 1) w w3 true lv (.slice none 0 0) m 0 (kk + 1)) := HI.out.turn hRs (Nat.le_refl _) (Nat.lt_succ_self _) h3.ch h3.rd
      clear h3 HI hlt hm hq
      go_wp2_with fail
      go_loopw [9] (fun t wr => ∃ (q j k5 : Nat) (sv : Value), t = .int .i64 q ∧ q ≤ 3 ∧ ShL B R w.heap.size (w.heap.size + 1) w wr true lv sv m j k5 ∧ j + q ≤ 3 ∧ k5 ≤ kk + 1 + 11 * j) (fun t _ => (intOf t).toNat)
      case atStart => exact ⟨q, 0, kk + 1, _, rfl, by omega, I3.out, by omega, by omega⟩
      case round =>
        clear I3 q0 q1
        obtain ⟨p, j, k5, sv, rfl, p3, hin, jp, hk5⟩ := hrel
        have HI : Hid (ShL B R w.heap.size (w.heap.size + 1) w wr true lv sv m j k5) := hin
        clear hin
        by_cases hp : 0 < p
        · obtain ⟨p, rfl⟩ : ∃ p' : Nat, p = p' + 1 := ⟨p - 1, by omega⟩
          go_wp2_with fail
          refine (drawType B R k5 n wr HI.out.rd (by omega) (by omega) (by omega)).mono ?_
          rintro e w4 ⟨t, k6, rfl, t01, r4, hk6, c4⟩
          have I4 : Hid (ShL B R w.heap.size (w.heap.size + 1) w w4 true lv sv m j k6) := HI.out.turn hRs (Nat.le_refl _) (Nat.lt_succ_self _) c4 r4
          clear HI r4 c4
          by_cases ht : t = 0
          · subst ht
            go_wp2_with fail
            refine (pick B R k6 8 w4 I4.out.rd (by omega) (by omega)).mono ?_
            rintro e w6 ⟨v, rfl, v0, v1, h6⟩
            have I6 : Hid (ShL B R w.heap.size (w.heap.size + 1) w w6 true lv sv m j (k6 + 1)) := I4.out.turn hRs (Nat.le_refl _) (Nat.lt_succ_self _) h6.ch h6.rd
            clear h6 I4
            by_cases hv : 0 < v
            · obtain ⟨ys, hown, hys⟩ := I6.out.st
              obtain ⟨b0, b1, b2, f0, f1, f2⟩ := box3_cells I6.out.box
              have HYs : Hid (∀ x ∈ ys, -1000 ≤ x ∧ x ≤ 1000) := hys
              have hX := I6.out.size
              have hfar : some (w.heap.size + 1) ≠ sv.ownBlock := fun e => by have := I6.out.aboveS _ e.symm; omega
              have s6 : w.heap.size + 1 < (w6.alloc (.cells #[.int .i64 1] 3)).heap.size := by (simp; omega)
              clear hys b0 b1 f0 f1
              go_wp2_with (at_builtin; refine wpList_append_lies _ rfl _ _ _ rfl 0 3 i0 _ 1 8 Try.underlying24 hi0 hz0 hz1 hz2 rfl (by omega) sv j _ rfl (hown.alloc _) ⟨w6.heap.size, 0, none⟩ 1 1 [.int .i64 1] rfl rfl (World.news_of_block (cs := #[.int .i64 1]) (t := 3) (fr := (0, 0)) (heap_alloc_new w6 _)) (by simp [Value.oneCell']) (by omega) (by unfold maxLen; omega) (by omega) (Nat.zero_le _) (w6.heap.size + 1) (by simp) ?_; intro gg cap' w9 hown9 hgrow hat hlt9; have d9 : w9.cell? ⟨w.heap.size + 1, 2, none⟩ = some sv := (hgrow.cell_far _ s6 hfar).trans ((World.cell?_alloc_past _ _ _ hX).trans b2); have f9 : w9.frozen? ⟨w.heap.size + 1, 2, none⟩ = false := (hgrow.frozen_far _ s6 hfar).trans ((World.frozen?_alloc_past _ _ _ hX).trans f2))
              exact ⟨⟨p, j + 1, k6 + 1, _, by go_num, by omega, I6.out.stepS hRs (Nat.le_refl _) (Nat.lt_succ_self _) (Ch.refl _ _) I6.out.rd ys [1] HYs.out (by intro x hx; simp at hx; omega) _ hgrow hown9 hat, by omega, by omega⟩, by simp [intOf]⟩
            · obtain ⟨ys, hown, hys⟩ := I6.out.st
              obtain ⟨b0, b1, b2, f0, f1, f2⟩ := box3_cells I6.out.box
              have HYs : Hid (∀ x ∈ ys, -1000 ≤ x ∧ x ≤ 1000) := hys
              have hX := I6.out.size
              have hfar : some (w.heap.size + 1) ≠ sv.ownBlock := fun e => by have := I6.out.aboveS _ e.symm; omega
              have s6 : w.heap.size + 1 < (w6.alloc (.cells #[.int .i64 0] 3)).heap.size := by (simp; omega)
              clear hys b0 b1 f0 f1
              go_wp2_with (at_builtin; refine wpList_append_lies _ rfl _ _ _ rfl 0 3 i0 _ 1 8 Try.underlying24 hi0 hz0 hz1 hz2 rfl (by omega) sv j _ rfl (hown.alloc _) ⟨w6.heap.size, 0, none⟩ 1 1 [.int .i64 0] rfl rfl (World.news_of_block (cs := #[.int .i64 0]) (t := 3) (fr := (0, 0)) (heap_alloc_new w6 _)) (by simp [Value.oneCell']) (by omega) (by unfold maxLen; omega) (by omega) (Nat.zero_le _) (w6.heap.size + 1) (by simp) ?_; intro gg cap' w9 hown9 hgrow hat hlt9; have d9 : w9.cell? ⟨w.heap.size + 1, 2, none⟩ = some sv := (hgrow.cell_far _ s6 hfar).trans ((World.cell?_alloc_past _ _ _ hX).trans b2); have f9 : w9.frozen? ⟨w.heap.size + 1, 2, none⟩ = false := (hgrow.frozen_far _ s6 hfar).trans ((World.frozen?_alloc_past _ _ _ hX).trans f2))
              exact ⟨⟨p, j + 1, k6 + 1, _, by go_num, by omega, I6.out.stepS hRs (Nat.le_refl _) (Nat.lt_succ_self _) (Ch.refl _ _) I6.out.rd ys [0] HYs.out (by intro x hx; simp at hx; omega) _ hgrow hown9 hat, by omega, by omega⟩, by simp [intOf]⟩
          · have ht' : (t == 0) = false := by simp [ht]
            obtain ⟨ys, hown, hys⟩ := I4.out.st
            obtain ⟨b0, b1, b2, f0, f1, f2⟩ := box3_cells I4.out.box
            have HYs : Hid (∀ x ∈ ys, -1000 ≤ x ∧ x ≤ 1000) := hys
            have hX := I4.out.size
            have hfar : some (w.heap.size + 1) ≠ sv.ownBlock := fun e => by have := I4.out.aboveS _ e.symm; omega
            have s6 : w.heap.size + 1 < (w4.alloc (.cells #[.int .i64 t] 3)).heap.size := by (simp; omega)
            clear hys b0 b1 f0 f1
            go_wp2_with (at_builtin; refine wpList_append_lies _ rfl _ _ _ rfl 0 3 i0 _ 1 8 Try.underlying24 hi0 hz0 hz1 hz2 rfl (by omega) sv j _ rfl (hown.alloc _) ⟨w4.heap.size, 0, none⟩ 1 1 [.int .i64 t] rfl rfl (World.news_of_block (cs := #[.int .i64 t]) (t := 3) (fr := (0, 0)) (heap_alloc_new w4 _)) (by simp [Value.oneCell']) (by omega) (by unfold maxLen; omega) (by omega) (Nat.zero_le _) (w4.heap.size + 1) (by simp) ?_; intro gg cap' w9 hown9 hgrow hat hlt9; have d9 : w9.cell? ⟨w.heap.size + 1, 2, none⟩ = some sv := (hgrow.cell_far _ s6 hfar).trans ((World.cell?_alloc_past _ _ _ hX).trans b2); have f9 : w9.frozen? ⟨w.heap.size + 1, 2, none⟩ = false := (hgrow.frozen_far _ s6 hfar).trans ((World.frozen?_alloc_past _ _ _ hX).trans f2))
            exact ⟨⟨p, j + 1, k6, _, by go_num, by omega, I4.out.stepS hRs (Nat.le_refl _) (Nat.lt_succ_self _) (Ch.refl _ _) I4.out.rd ys [t] HYs.out (by intro x hx; simp at hx; omega) _ hgrow hown9 hat, by omega, by omega⟩, by simp [intOf]⟩
        · have hp0 : p = 0 := by omega
          subst hp0
          go_wp2_with fail
          refine (pick B R k5 30 wr HI.out.rd (by omega) (by omega)).mono ?_
          rintro e w6 ⟨v, rfl, v0, v1, h6⟩
          have I6 : Hid (ShL B R w.heap.size (w.heap.size + 1) w w6 true lv sv m j (k5 + 1)) := HI.out.turn hRs (Nat.le_refl _) (Nat.lt_succ_self _) h6.ch h6.rd
          clear h6 HI
          rcases (show v = 0 ∨ v = 1 ∨ v = 2 ∨ v = 3 ∨ 4 ≤ v by omega) with rfl | rfl | rfl | rfl | h4
          · have hY : w.heap.size < w6.heap.size := by have := I6.out.size; omega
            go_wp2_with fail
            refine (noneSpec _).mono ?_
            rintro e w7 ⟨za, zc, zb, zd, rfl, hb7⟩
            obtain ⟨y0, y1, y2, g0, g1, g2⟩ := box3_cells (by rw [hb7.block _ hY]; exact I6.out.res)
            have R7 : Hid (Rd B (((w7.setCell ⟨w.heap.size, 0, none⟩ (.bool false)).setCell ⟨w.heap.size, 1, none⟩ (.slice za 0 zc)).setCell ⟨w.heap.size, 2, none⟩ (.slice zb 0 zd)) R (k5 + 1) ∧ Ch (fun i => i = R) w (((w7.setCell ⟨w.heap.size, 0, none⟩ (.bool false)).setCell ⟨w.heap.size, 1, none⟩ (.slice za 0 zc)).setCell ⟨w.heap.size, 2, none⟩ (.slice zb 0 zd))) := by
              have c7 : Ch (fun i => i = w.heap.size) w6 w7 := ⟨hb7.os, hb7.tape, hb7.output, hb7.size, fun k hk _ => hb7.block k hk⟩
              have hB := I6.out.rd.low
              have c8 := Ch.setCell (Ch.setCell (Ch.setCell c7 ⟨w.heap.size, 0, none⟩ (.bool false) (fun _ => rfl)) ⟨w.heap.size, 1, none⟩ (.slice za 0 zc) (fun _ => rfl)) ⟨w.heap.size, 2, none⟩ (.slice zb 0 zd) (fun _ => rfl)
              exact ⟨I6.out.rd.ch c8 (fun i hi => by omega), I6.out.ch.trans c8 (fun i hi e => by omega)⟩
            clear hb7
            go_wp2_with fail
            refine bodyPost_ret (v := .agg #[.bool false, .slice za 0 zc, .slice zb 0 zd]) ?_ rfl ?_
            · simp [results, Try.results26, go_sem, *]
            · exact ⟨false, za, 0, zc, zb, 0, zd, [], [], _, rfl, ⟨rfl, by omega, .inl rfl, by simp⟩, ⟨rfl, by omega, .inl rfl, by simp⟩, R7.out.1, by omega, R7.out.2⟩
          · obtain ⟨b0, b1, b2, f0, f1, f2⟩ := box3_cells I6.out.box
            obtain ⟨y0, y1, y2, g0, g1, g2⟩ := box3_cells I6.out.res
            obtain ⟨xs, hx, _⟩ := I6.out.loc
            obtain ⟨la, lc, rfl⟩ := own_slice' hx
            obtain ⟨ys, hy, _⟩ := I6.out.st
            obtain ⟨ka, kc, rfl⟩ := own_slice' hy
            have P : Hid _ := (I6.out.some (b := false) hRs (Nat.le_refl _) (Nat.lt_succ_self _)).fin hRs (Nat.lt_succ_self _) (by omega) (by omega) (k0 := k) (by omega)
            clear hx hy
            go_wp2_with fail
            refine bodyPost_ret (v := .agg #[.bool false, .slice la m lc, .slice ka j kc]) ?_ rfl ?_
            · simp [results, Try.results26, go_sem, *]
            · exact P.out
          · obtain ⟨b0, b1, b2, f0, f1, f2⟩ := box3_cells I6.out.box
            obtain ⟨y0, y1, y2, g0, g1, g2⟩ := box3_cells I6.out.res
            obtain ⟨xs, hx, hxb⟩ := I6.out.loc
            obtain ⟨la, lc, rfl⟩ := own_slice' hx
            obtain ⟨ys, hy, hyb⟩ := I6.out.st
            obtain ⟨ka, kc, rfl⟩ := own_slice' hy
            have HXb : Hid (∀ x ∈ xs, -1000 ≤ x ∧ x ≤ 1000) := hxb
            have hX := I6.out.size
            have hY : w.heap.size < w6.heap.size := by omega
            have hfar : some (w.heap.size + 1) ≠ (Value.slice la m lc).ownBlock := fun e => by have := I6.out.aboveL _ e.symm; omega
            have hfarY : some w.heap.size ≠ (Value.slice la m lc).ownBlock := fun e => by have := I6.out.aboveL _ e.symm; omega
            have s6 : w.heap.size + 1 < (w6.alloc (.cells #[.int .i64 1] 3)).heap.size := by (simp; omega)
            have s7 : w.heap.size < (w6.alloc (.cells #[.int .i64 1] 3)).heap.size := by (simp; omega)
            clear hxb hyb
            go_wp2_with (at_builtin; refine wpList_append_lies _ rfl _ _ _ rfl 0 3 i0 _ 1 8 Try.underlying24 hi0 hz0 hz1 hz2 rfl (by omega) (Value.slice la m lc) m _ rfl (hx.alloc _) ⟨w6.heap.size, 0, none⟩ 1 1 [.int .i64 1] rfl rfl (World.news_of_block (cs := #[.int .i64 1]) (t := 3) (fr := (0, 0)) (heap_alloc_new w6 _)) (by simp [Value.oneCell']) (by omega) (by unfold maxLen; omega) (by omega) (Nat.zero_le _) (w6.heap.size + 1) (by simp) ?_; intro gg cap' w9 hown9 hgrow hat hlt9; have dx0 : w9.cell? ⟨w.heap.size + 1, 0, none⟩ = some (.bool true) := (hgrow.cell_far _ s6 hfar).trans ((World.cell?_alloc_past _ _ _ hX).trans b0); have qx0 : w9.frozen? ⟨w.heap.size + 1, 0, none⟩ = false := (hgrow.frozen_far _ s6 hfar).trans ((World.frozen?_alloc_past _ _ _ hX).trans f0); have dx1 : w9.cell? ⟨w.heap.size + 1, 1, none⟩ = some (.slice la m lc) := (hgrow.cell_far _ s6 hfar).trans ((World.cell?_alloc_past _ _ _ hX).trans b1); have qx1 : w9.frozen? ⟨w.heap.size + 1, 1, none⟩ = false := (hgrow.frozen_far _ s6 hfar).trans ((World.frozen?_alloc_past _ _ _ hX).trans f1); have dx2 : w9.cell? ⟨w.heap.size + 1, 2, none⟩ = some (.slice ka j kc) := (hgrow.cell_far _ s6 hfar).trans ((World.cell?_alloc_past _ _ _ hX).trans b2); have qx2 : w9.frozen? ⟨w.heap.size + 1, 2, none⟩ = false := (hgrow.frozen_far _ s6 hfar).trans ((World.frozen?_alloc_past _ _ _ hX).trans f2); have dy0 : w9.cell? ⟨w.heap.size, 0, none⟩ = some (.bool false) := (hgrow.cell_far _ s7 hfarY).trans ((World.cell?_alloc_past _ _ _ hY).trans y0); have qy0 : w9.frozen? ⟨w.heap.size, 0, none⟩ = false := (hgrow.frozen_far _ s7 hfarY).trans ((World.frozen?_alloc_past _ _ _ hY).trans g0); have dy1 : w9.cell? ⟨w.heap.size, 1, none⟩ = some (.slice none 0 0) := (hgrow.cell_far _ s7 hfarY).trans ((World.cell?_alloc_past _ _ _ hY).trans y1); have qy1 : w9.frozen? ⟨w.heap.size, 1, none⟩ = false := (hgrow.frozen_far _ s7 hfarY).trans ((World.frozen?_alloc_past _ _ _ hY).trans g1); have dy2 : w9.cell? ⟨w.heap.size, 2, none⟩ = some (.slice none 0 0) := (hgrow.cell_far _ s7 hfarY).trans ((World.cell?_alloc_past _ _ _ hY).trans y2); have qy2 : w9.frozen? ⟨w.heap.size, 2, none⟩ = false := (hgrow.frozen_far _ s7 hfarY).trans ((World.frozen?_alloc_past _ _ _ hY).trans g2))
            have I9 := I6.out.stepL hRs (Nat.le_refl _) (Nat.lt_succ_self _) (Ch.refl _ _) I6.out.rd xs [1] HXb.out (by intro x hx; simp at hx; omega) _ hgrow hown9 hat
            have P : Hid _ := I9.fin hRs (Nat.lt_succ_self _) (by omega) (by omega) (k0 := k) (by omega)
            refine bodyPost_ret (v := .agg #[.bool true, .slice (some ⟨gg, 0, none⟩) (m + 1) cap', .slice ka j kc]) ?_ rfl ?_
            · simp [results, Try.results26, go_sem, *]
            · exact P.out
          · obtain ⟨b0, b1, b2, f0, f1, f2⟩ := box3_cells I6.out.box
            obtain ⟨y0, y1, y2, g0, g1, g2⟩ := box3_cells I6.out.res
            obtain ⟨xs, hx, hxb⟩ := I6.out.loc
            obtain ⟨la, lc, rfl⟩ := own_slice' hx
            obtain ⟨ys, hy, hyb⟩ := I6.out.st
            obtain ⟨ka, kc, rfl⟩ := own_slice' hy
            have HXb : Hid (∀ x ∈ ys, -1000 ≤ x ∧ x ≤ 1000) := hyb
            have hX := I6.out.size
            have hY : w.heap.size < w6.heap.size := by omega
            have hfar : some (w.heap.size + 1) ≠ (Value.slice ka j kc).ownBlock := fun e => by have := I6.out.aboveS _ e.symm; omega
            have hfarY : some w.heap.size ≠ (Value.slice ka j kc).ownBlock := fun e => by have := I6.out.aboveS _ e.symm; omega
            have s6 : w.heap.size + 1 < (w6.alloc (.cells #[.int .i64 1, .int .i64 1, .int .i64 1, .int .i64 1] 3)).heap.size := by (simp; omega)
            have s7 : w.heap.size < (w6.alloc (.cells #[.int .i64 1, .int .i64 1, .int .i64 1, .int .i64 1] 3)).heap.size := by (simp; omega)
            clear hxb hyb
            go_wp2_with (at_builtin; refine wpList_append_lies _ rfl _ _ _ rfl 0 3 i0 _ 1 8 Try.underlying24 hi0 hz0 hz1 hz2 rfl (by omega) (Value.slice ka j kc) j _ rfl (hy.alloc _) ⟨w6.heap.size, 0, none⟩ 4 4 [.int .i64 1, .int .i64 1, .int .i64 1, .int .i64 1] rfl rfl (World.news_of_block (cs := #[.int .i64 1, .int .i64 1, .int .i64 1, .int .i64 1]) (t := 3) (fr := (0, 0)) (heap_alloc_new w6 _)) (by simp [Value.oneCell']) (by omega) (by unfold maxLen; omega) (by omega) (Nat.zero_le _) (w6.heap.size + 1) (by simp) ?_; intro gg cap' w9 hown9 hgrow hat hlt9; have dx0 : w9.cell? ⟨w.heap.size + 1, 0, none⟩ = some (.bool true) := (hgrow.cell_far _ s6 hfar).trans ((World.cell?_alloc_past _ _ _ hX).trans b0); have qx0 : w9.frozen? ⟨w.heap.size + 1, 0, none⟩ = false := (hgrow.frozen_far _ s6 hfar).trans ((World.frozen?_alloc_past _ _ _ hX).trans f0); have dx1 : w9.cell? ⟨w.heap.size + 1, 1, none⟩ = some (.slice la m lc) := (hgrow.cell_far _ s6 hfar).trans ((World.cell?_alloc_past _ _ _ hX).trans b1); have qx1 : w9.frozen? ⟨w.heap.size + 1, 1, none⟩ = false := (hgrow.frozen_far _ s6 hfar).trans ((World.frozen?_alloc_past _ _ _ hX).trans f1); have dx2 : w9.cell? ⟨w.heap.size + 1, 2, none⟩ = some (.slice ka j kc) := (hgrow.cell_far _ s6 hfar).trans ((World.cell?_alloc_past _ _ _ hX).trans b2); have qx2 : w9.frozen? ⟨w.heap.size + 1, 2, none⟩ = false := (hgrow.frozen_far _ s6 hfar).trans ((World.frozen?_alloc_past _ _ _ hX).trans f2); have dy0 : w9.cell? ⟨w.heap.size, 0, none⟩ = some (.bool false) := (hgrow.cell_far _ s7 hfarY).trans ((World.cell?_alloc_past _ _ _ hY).trans y0); have qy0 : w9.frozen? ⟨w.heap.size, 0, none⟩ = false := (hgrow.frozen_far _ s7 hfarY).trans ((World.frozen?_alloc_past _ _ _ hY).trans g0); have dy1 : w9.cell? ⟨w.heap.size, 1, none⟩ = some (.slice none 0 0) := (hgrow.cell_far _ s7 hfarY).trans ((World.cell?_alloc_past _ _ _ hY).trans y1); have qy1 : w9.frozen? ⟨w.heap.size, 1, none⟩ = false := (hgrow.frozen_far _ s7 hfarY).trans ((World.frozen?_alloc_past _ _ _ hY).trans g1); have dy2 : w9.cell? ⟨w.heap.size, 2, none⟩ = some (.slice none 0 0) := (hgrow.cell_far _ s7 hfarY).trans ((World.cell?_alloc_past _ _ _ hY).trans y2); have qy2 : w9.frozen? ⟨w.heap.size, 2, none⟩ = false := (hgrow.frozen_far _ s7 hfarY).trans ((World.frozen?_alloc_past _ _ _ hY).trans g2))
            have I9 := I6.out.stepS hRs (Nat.le_refl _) (Nat.lt_succ_self _) (Ch.refl _ _) I6.out.rd ys [1, 1, 1, 1] HXb.out (by intro x hx; simp at hx; omega) _ hgrow hown9 hat
            have P : Hid _ := I9.fin hRs (Nat.lt_succ_self _) (by omega) (by omega) (k0 := k) (by omega)
            refine bodyPost_ret (v := .agg #[.bool true, .slice la m lc, .slice (some ⟨gg, 0, none⟩) (j + 4) cap']) ?_ rfl ?_
            · simp [results, Try.results26, go_sem, *]
            · exact P.out
          · have e0 : (v == 0) = false := by simp; omega
            have e1 : (v == 1) = false := by simp; omega
            have e2 : (v == 2) = false := by simp; omega
            have e3 : (v == 3) = false := by simp; omega
            obtain ⟨b0, b1, b2, f0, f1, f2⟩ := box3_cells I6.out.box
            obtain ⟨y0, y1, y2, g0, g1, g2⟩ := box3_cells I6.out.res
            obtain ⟨xs, hx, _⟩ := I6.out.loc
            obtain ⟨la, lc, rfl⟩ := own_slice' hx
            obtain ⟨ys, hy, _⟩ := I6.out.st
            obtain ⟨ka, kc, rfl⟩ := own_slice' hy
            have P : Hid _ := I6.out.fin hRs (Nat.lt_succ_self _) (by omega) (by omega) (k0 := k) (by omega)
            clear hx hy
            go_wp2_with fail
            refine bodyPost_ret (v := .agg #[.bool true, .slice la m lc, .slice ka j kc]) ?_ rfl ?_
            · simp [results, Try.results26, go_sem, *]
            · exact P.out


end Go.Proofs.Ytilceojilhmcgaa
