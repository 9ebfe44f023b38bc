/-
  Cells of the call's own, written one behind the other; a slice that is copied into new memory, element by element, of whatever make its elements are.
-/
import Derived.Test.YtjbmcdekhhbiaaaGreatRep
import Derived.Test.YtjbmcdekhhbiaaaGreatInts2
namespace Go.Proofs.YtjbmcdekhhbiaaaGreat
open Go.ChangeShapes Go.WideShapes Go.ChangeAt Go.RowKit

/-- Values are written into a block from a place on. -/
def putCells (w : World) (G o : Nat) : List Value → World
  | [] => w
  | v :: vs => putCells (w.setCell ⟨G, o, none⟩ v) G (o + 1) vs
theorem put_other (G : Nat) : ∀ (vs : List Value) (w : World) (o b k : Nat), b ≠ G → (putCells w G o vs).cell? ⟨b, k, none⟩ = w.cell? ⟨b, k, none⟩
  | [], _, _, _, _, _ => rfl
  | v :: vs, w, o, b, k, hb => by
    rw [putCells, put_other G vs _ _ _ _ hb, World.cell?_setCell_other w _ _ _ (by intro e; exact hb (congrArg Addr.block e).symm)]
theorem put_off (G : Nat) : ∀ (vs : List Value) (w : World) (o k : Nat), (k < o ∨ o + vs.length ≤ k) → (putCells w G o vs).cell? ⟨G, k, none⟩ = w.cell? ⟨G, k, none⟩
  | [], _, _, _, _ => rfl
  | v :: vs, w, o, k, hk => by
    rw [List.length_cons] at hk
    rw [putCells, put_off G vs _ _ _ (by omega), World.cell?_setCell_other w _ _ _ (by intro e; have := congrArg Addr.off e; simp at this; omega)]
theorem put_at (G : Nat) : ∀ (vs : List Value) (w : World) (o j : Nat) (v : Value), (∀ i, i < vs.length → ∃ u, w.cell? ⟨G, o + i, none⟩ = some u) → vs[j]? = some v → (putCells w G o vs).cell? ⟨G, o + j, none⟩ = some v
  | [], _, _, _, _, _, hv => by simp at hv
  | u :: vs, w, o, j, v, hc, hv => by
    have h0 := hc 0 (by simp)
    match j, hv with
    | 0, hv =>
      simp at hv
      subst hv
      obtain ⟨x, hx⟩ := h0
      rw [putCells, put_off G vs _ _ _ (by omega)]
      exact World.cell?_setCell_same w _ _ hx
    | j + 1, hv =>
      rw [putCells, show o + (j + 1) = o + 1 + j by omega]
      refine put_at G vs _ _ j v (fun i hi => ?_) (by simpa using hv)
      obtain ⟨x, hx⟩ := hc (i + 1) (by simpa using hi)
      rw [World.cell?_setCell_other w _ _ _ (by intro e; have := congrArg Addr.off e; simp at this; omega), show o + 1 + i = o + (i + 1) by omega]
      exact ⟨x, hx⟩
theorem put_frozen (G : Nat) : ∀ (vs : List Value) (w : World) (o : Nat) (p : Addr), (putCells w G o vs).frozen? p = w.frozen? p
  | [], _, _, _ => rfl
  | v :: vs, w, o, p => by rw [putCells, put_frozen G vs, World.frozen?_setCell]
theorem put_some (G : Nat) : ∀ (vs : List Value) (w : World) (o k : Nat), (∃ u, w.cell? ⟨G, k, none⟩ = some u) → ∃ u, (putCells w G o vs).cell? ⟨G, k, none⟩ = some u
  | [], _, _, _, h => h
  | v :: vs, w, o, k, h => by
    rw [putCells]
    refine put_some G vs _ _ _ ?_
    by_cases e : k = o
    · subst e
      obtain ⟨u, hu⟩ := h
      exact ⟨v, World.cell?_setCell_same w _ _ hu⟩
    · rw [World.cell?_setCell_other w _ _ _ (by intro e'; have := congrArg Addr.off e'; simp at this; omega)]
      exact h
theorem put_size (G : Nat) : ∀ (vs : List Value) (w : World) (o : Nat), (putCells w G o vs).heap.size = w.heap.size
  | [], _, _ => rfl
  | v :: vs, w, o => by rw [putCells, put_size G vs, World.size_setCell]
theorem put_below (G : Nat) {B : Nat} (hG : B ≤ G) : ∀ (vs : List Value) (w0 w : World) (o : Nat), Below B w0 w → Below B w0 (putCells w G o vs)
  | [], _, _, _, h => h
  | v :: vs, w0, w, o, h => by rw [putCells]; exact put_below G hG vs _ _ _ (h.setCell hG _)

/-- The first k elements have been copied into the row at G. -/
structure CopR {α : Type} (R : Rep α) (G len : Nat) (wr : World) (xs : List α) (k : Nat) : Prop where
  row : ∀ j, j < len * R.sz → (∃ v, wr.cell? ⟨G, j, none⟩ = some v) ∧ wr.frozen? ⟨G, j, none⟩ = false
  done : ∀ i x, i < k → xs[i]? = some x → ∃ vs, R.holds (fun b => G < b) wr vs x ∧ ∀ j v, vs[j]? = some v → wr.cell? ⟨G, i * R.sz + j, none⟩ = some v

theorem CopR.made {α : Type} (R : Rep α) (w : World) (z : Array Value) (len : Nat) (t : TypeId) (xs : List α) : CopR R w.heap.size len (w.alloc (.cells (madeCells z (len * R.sz)) t)) xs 0 :=
  ⟨fun j hj => ⟨⟨_, (RowAt.made w z (len * R.sz) t j hj).1⟩, (RowAt.made w z (len * R.sz) t j hj).2⟩, fun i _ hi => by omega⟩
theorem mul_lt_row {k len s j : Nat} (hk : k < len) (hj : j < s) : k * s + j < len * s := by
  have h1 : (k + 1) * s ≤ len * s := Nat.mul_le_mul_right s hk
  rw [Nat.succ_mul] at h1
  omega
theorem mul_apart {i k s j : Nat} (hik : i < k) (hj : j < s) : i * s + j < k * s := mul_lt_row hik hj
theorem CopR.step {α : Type} {R : Rep α} {G len k : Nat} {wr w1 : World} {xs : List α} {x : α} {us : List Value} (h : CopR R G len wr xs k) (hb : Below wr.heap.size wr w1) (hG : G < wr.heap.size) (hk : k < len) (hx : xs[k]? = some x)
    (hu : R.holds (fun b => wr.heap.size ≤ b) w1 us x) : CopR R G len (putCells w1 G (k * R.sz) us) xs (k + 1) := by
  have hsz := hb.size
  have hlen := R.len hu
  refine ⟨fun j hj => ⟨?_, ?_⟩, fun i y hi hy => ?_⟩
  · obtain ⟨v, hv⟩ := (h.row j hj).1
    exact put_some G _ _ _ _ ⟨v, by rw [hb.cell (p := ⟨G, j, none⟩) hG]; exact hv⟩
  · rw [put_frozen, hb.frozen (p := ⟨G, j, none⟩) hG]
    exact (h.row j hj).2
  · by_cases e : i = k
    · subst e
      have e2 : y = x := by rw [hx] at hy; simpa using hy.symm
      subst e2
      refine ⟨us, R.keep (R.mono (E := fun b => G < b) hu (fun b hb' _ => by omega)) (fun b o hd _ => put_other G _ _ _ _ _ (by omega)), fun j v hv => ?_⟩
      refine put_at G us w1 _ j v (fun j' hj' => ?_) hv
      obtain ⟨v', hv'⟩ := (h.row (i * R.sz + j') (mul_lt_row hk (by omega))).1
      exact ⟨v', by rw [hb.cell (p := ⟨G, i * R.sz + j', none⟩) hG]; exact hv'⟩
    · obtain ⟨vs, h1, h2⟩ := h.done i y (by omega) hy
      have hvl := R.len h1
      refine ⟨vs, R.keep (R.later h1 hb) (fun b o hd _ => put_other G _ _ _ _ _ (by omega)), fun j v hv => ?_⟩
      have hj := (List.getElem?_eq_some_iff.1 hv).1
      have := mul_apart (i := i) (k := k) (s := R.sz) (j := j) (by omega) (by omega)
      rw [put_off G us w1 _ _ (.inl this), hb.cell (p := ⟨G, i * R.sz + j, none⟩) hG]
      exact h2 j v hv
theorem CopR.sl {α : Type} {R : Rep α} {G len : Nat} {wr : World} {xs : List α} (h : CopR R G len wr xs len) (hs : xs.length = len) (hl : len ≤ 1048576) : SlAt R (fun b => G ≤ b) wr (some ⟨G, 0, none⟩) len xs := by
  refine ⟨hs, by omega, .inr ⟨G, 0, rfl, Nat.le_refl _, fun i x hx => ?_⟩⟩
  have hi := (List.getElem?_eq_some_iff.1 hx).1
  obtain ⟨vs, h1, h2⟩ := h.done i x (by omega) hx
  exact ⟨vs, R.mono h1 (fun b hb _ => Nat.le_of_lt hb), fun j v hv => by rw [Nat.zero_add]; exact h2 j v hv⟩

end Go.Proofs.YtjbmcdekhhbiaaaGreat
