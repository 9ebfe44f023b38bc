/-
  Classes that are drawn lie in memory of the call's own: what is kept of them from step to step.
-/
import Derived.Test.YtcmjhgpkpiadmaaCls
import Derived.Handy
import Derived.Deep.AppendLies
import Derived.Deep.SlicePairs
namespace Go.Proofs.Ytcmjhgpkpiadmaa
open Go.ChangeShapes Go.WideShapes Go.ChangeAt Go.RowKit

/-- No block that was there has turned but those of which 'S' is so. -/
structure Ch (S : Nat → Prop) (w w' : World) : Prop where
  os : w'.os = w.os
  tape : w'.tape = w.tape
  output : w'.output = w.output
  size : w.heap.size ≤ w'.heap.size
  block : ∀ k, k < w.heap.size → ¬ S k → w'.heap[k]? = w.heap[k]?

theorem Ch.refl (S : Nat → Prop) (w : World) : Ch S w w := ⟨rfl, rfl, rfl, Nat.le_refl _, fun _ _ _ => rfl⟩
theorem Ch.trans {S T : Nat → Prop} {a b c : World} (h : Ch S a b) (k : Ch T b c) (m : ∀ i, i < a.heap.size → T i → S i) : Ch S a c :=
  ⟨k.os.trans h.os, k.tape.trans h.tape, k.output.trans h.output, Nat.le_trans h.size k.size, fun i hi hs => (k.block i (Nat.lt_of_lt_of_le hi h.size) (fun t => hs (m i hi t))).trans (h.block i hi hs)⟩
theorem Ch.mono {S T : Nat → Prop} {a b : World} (h : Ch S a b) (m : ∀ i, i < a.heap.size → S i → T i) : Ch T a b :=
  ⟨h.os, h.tape, h.output, h.size, fun i hi ht => h.block i hi (fun s => ht (m i hi s))⟩
theorem Ch.below {S : Nat → Prop} {a b : World} (h : Ch S a b) {B : Nat} (hB : B ≤ a.heap.size) (m : ∀ i, i < B → ¬ S i) : Below B a b :=
  ⟨h.os, h.tape, h.output, h.size, fun k hk => h.block k (Nat.lt_of_lt_of_le hk hB) (m k hk)⟩
theorem Ch.alloc {S : Nat → Prop} {a b : World} (h : Ch S a b) (o : Obj) : Ch S a (b.alloc o) :=
  ⟨h.os, h.tape, h.output, by have := h.size; simp; omega, fun k hk hs => (Below.heap_alloc b o k (Nat.lt_of_lt_of_le hk h.size)).trans (h.block k hk hs)⟩
theorem Ch.setCell {S : Nat → Prop} {a b : World} (h : Ch S a b) (p : Addr) (v : Value) (hp : p.block < a.heap.size → S p.block) : Ch S a (b.setCell p v) :=
  ⟨h.os, h.tape, h.output, by rw [World.size_setCell]; exact h.size, fun k hk hs => (Below.heap_setCell b p v k (fun e => hs (by rw [e] at hk ⊢; exact hp hk))).trans (h.block k hk hs)⟩
theorem Ch.drew {S : Nat → Prop} {a b : World} (h : Ch S a b) : Ch S a b.drew := ⟨h.os, h.tape, h.output, h.size, h.block⟩
theorem Ch.grown {S : Nat → Prop} {a b c : World} {row : Option Nat} (h : Ch S a b) (g : b.grownBy c row) (m : ∀ i, row = some i → i < a.heap.size → S i) : Ch S a c :=
  ⟨g.os.trans h.os, g.tape.trans h.tape, g.output.trans h.output, Nat.le_trans h.size g.size, fun k hk hs => (g.block k (Nat.lt_of_lt_of_le hk h.size) (fun e => hs (m k e.symm hk))).trans (h.block k hk hs)⟩
theorem Stp.ch {B R k : Nat} {w w' : World} (h : Stp B R k w w') : Ch (fun i => i = R) w w' :=
  ⟨h.below.os, h.below.tape, h.below.output, h.below.size, fun j _ hj => h.block j hj⟩

/-- The reader where other blocks have turned. -/
theorem Rd.ch {B R k : Nat} {w w' : World} {S : Nat → Prop} (h : Rd B w R k) (c : Ch S w w') (hS : ∀ i, S i → i ≠ R ∧ B ≤ i) : Rd B w' R k := by
  have hs := h.size
  have hlow := h.low
  have hR : w'.heap[R]? = w.heap[R]? := c.block R hs (fun s => (hS R s).1 rfl)
  refine ⟨h.low, Nat.lt_of_lt_of_le hs c.size, ?_, ?_, ?_⟩
  · rw [World.cell?_of_block (w := w) hR]; exact h.at0
  · rw [World.frozen?_of_block (w := w) hR]; exact h.free
  · obtain ⟨a, len, cap, hc, hr⟩ := h.code
    refine ⟨a, len, cap, by rw [World.cell?_of_block (w := w) hR]; exact hc, ?_⟩
    rcases hr with hr | ⟨b, off, f, ha, hb, hl, hf⟩
    · exact .inl hr
    · refine .inr ⟨b, off, f, ha, hb, hl, fun i hi => ⟨?_, (hf i hi).2⟩⟩
      have hB : w'.heap[b]? = w.heap[b]? := c.block b (by omega) (fun s => by have := (hS b s).2; omega)
      rw [World.cell?_of_block (w := w) hB]; exact (hf i hi).1

/-- An owned row where other blocks have turned. -/
theorem own_lt {w : World} {e : TypeId} {size n : Nat} {v : Value} {xs : List Value} (h : w.ownsRow 0 e size v n xs) (b : Nat) (hb : v.ownBlock = some b) : b < w.heap.size ∧ ∃ cur, w.heap[b]? = some (.cells cur e (0, 0)) := by
  rcases h.2 with ⟨rfl, _⟩ | ⟨g, cap, cur, rfl, _, hg, _⟩
  · simp [Value.ownBlock] at hb
  · simp [Value.ownBlock] at hb
    subst hb
    refine ⟨?_, cur, hg⟩
    rcases Nat.lt_or_ge g w.heap.size with h | h
    · exact h
    · rw [Array.getElem?_eq_none h] at hg
      cases hg
theorem own_keep {w w' : World} {e : TypeId} {size n : Nat} {v : Value} {xs : List Value} (h : w.ownsRow 0 e size v n xs) (hk : ∀ b, v.ownBlock = some b → w'.heap[b]? = w.heap[b]?) : w'.ownsRow 0 e size v n xs := by
  refine ⟨h.1, ?_⟩
  rcases h.2 with h2 | ⟨g, cap, cur, rfl, h3, hg, h4⟩
  · exact .inl h2
  · exact .inr ⟨g, cap, cur, rfl, h3, by rw [hk g (by simp [Value.ownBlock])]; exact hg, h4⟩

/-- A list of fields in memory of the call's own. -/
def FV (D : Nat → Prop) (w : World) (fv : Value) : Prop :=
  ∃ (m : Nat) (xs : List Int), w.ownsRow 0 3 1 fv m (xs.map (Value.int .i64)) ∧ m ≤ 20 ∧ (∀ x ∈ xs, -1000 ≤ x ∧ x ≤ 1000) ∧ ∀ b, fv.ownBlock = some b → D b
theorem FV.empty (D : Nat → Prop) (w : World) : FV D w (.slice none 0 0) := ⟨0, [], ⟨rfl, .inl ⟨rfl, rfl⟩⟩, by omega, by simp, by simp [Value.ownBlock]⟩
theorem FV.ch {D S : Nat → Prop} {w w' : World} {fv : Value} (h : FV D w fv) (c : Ch S w w') (hS : ∀ b cur, D b → b < w.heap.size → w.heap[b]? = some (.cells cur 3 (0, 0)) → ¬ S b) : FV D w' fv := by
  obtain ⟨m, xs, ho, hm, hx, hd⟩ := h
  refine ⟨m, xs, own_keep ho fun b hb => ?_, hm, hx, hd⟩
  obtain ⟨hl, cur, hc⟩ := own_lt ho b hb
  exact c.block b hl (hS b cur (hd b hb) hl hc)
theorem FV.mono {D E : Nat → Prop} {w : World} {fv : Value} (h : FV D w fv) (m : ∀ b, D b → b < w.heap.size → E b) : FV E w fv := by
  obtain ⟨k, xs, ho, hm, hx, hd⟩ := h
  exact ⟨k, xs, ho, hm, hx, fun b hb => m b (hd b hb) (own_lt ho b hb).1⟩

/-- Classes in memory of the call's own. -/
def Dist (xs : List Value) (n : Nat) : Prop := ∀ (i j : Nat) (fi fj : Value) (b : Nat), i < n → j < n → xs[i * 2 + 1]? = some fi → xs[j * 2 + 1]? = some fj → fi.ownBlock = some b → fj.ownBlock = some b → i = j
/-- Each list of fields is short. -/
def lenOf : Value → Nat | .slice _ n _ => n | _ => 0
def Short (xs : List Value) (n : Nat) : Prop := ∀ (i : Nat) (f : Value), i < n → xs[i * 2 + 1]? = some f → lenOf f ≤ 10
theorem own_len {w : World} {e : TypeId} {size n : Nat} {v : Value} {xs : List Value} (h : w.ownsRow 0 e size v n xs) : lenOf v = n := by
  rcases h.2 with ⟨rfl, rfl⟩ | ⟨g, cap, cur, rfl, _⟩ <;> rfl
def Out (dd : Prop) (D : Nat → Prop) (w : World) (v : Value) (n : Nat) : Prop :=
  ∃ xs : List Value, w.ownsRow 0 49 2 v n xs ∧ n ≤ 20 ∧ (∀ b, v.ownBlock = some b → D b) ∧
    (∀ i, i < n → ∃ (s : Int) (fv : Value), xs[i * 2]? = some (.int .i64 s) ∧ (-1000 ≤ s ∧ s ≤ 1000) ∧ xs[i * 2 + 1]? = some fv ∧ FV D w fv) ∧ (dd → Dist xs n ∧ Short xs n)
theorem Out.weak {dd : Prop} {D : Nat → Prop} {w : World} {v : Value} {n : Nat} (h : Out dd D w v n) : Out False D w v n := by
  obtain ⟨xs, ho, hn, hd, hi, _⟩ := h
  exact ⟨xs, ho, hn, hd, hi, fun h => h.elim⟩
theorem Out.ch {dd : Prop} {D S : Nat → Prop} {w w' : World} {v : Value} {n : Nat} (h : Out dd D w v n) (c : Ch S w w') (hS : ∀ b, D b → b < w.heap.size → ¬ S b) : Out dd D w' v n := by
  obtain ⟨xs, ho, hn, hd, hi, hdi⟩ := h
  refine ⟨xs, own_keep ho fun b hb => c.block b (own_lt ho b hb).1 (hS b (hd b hb) (own_lt ho b hb).1), hn, hd, fun i hil => ?_, hdi⟩
  obtain ⟨s, fv, h1, h2, h3, h4⟩ := hi i hil
  exact ⟨s, fv, h1, h2, h3, h4.ch c fun b _ hb hl _ => hS b hb hl⟩
theorem Out.mono {dd : Prop} {D E : Nat → Prop} {w : World} {v : Value} {n : Nat} (h : Out dd D w v n) (m : ∀ b, D b → b < w.heap.size → E b) : Out dd E w v n := by
  obtain ⟨xs, ho, hn, hd, hi, hdi⟩ := h
  refine ⟨xs, ho, hn, fun b hb => m b (hd b hb) (own_lt ho b hb).1, fun i hil => ?_, hdi⟩
  obtain ⟨s, fv, h1, h2, h3, h4⟩ := hi i hil
  exact ⟨s, fv, h1, h2, h3, h4.mono m⟩

theorem FV.ints {D : Nat → Prop} {w : World} {fv : Value} (h : FV D w fv) : ∃ a len cap xs, fv = .slice a len cap ∧ IntsAt D w a len xs := by
  obtain ⟨m, xs, ho, hm, hx, hd⟩ := h
  have hlen : xs.length = m := by have := ho.1; simpa using this
  have hfit : ∀ j, -9223372036854775808 ≤ xs.getD j 0 ∧ xs.getD j 0 ≤ 9223372036854775807 := by
    intro j
    rw [List.getD_eq_getElem?_getD]
    cases e : xs[j]? with
    | none => simp
    | some z => have := hx z (List.mem_of_getElem? e); simp; omega
  rcases ho.2 with ⟨rfl, rfl⟩ | ⟨g, cap, cur, rfl, _⟩
  · exact ⟨none, 0, 0, xs, rfl, hlen, by omega, .inl rfl, hfit⟩
  · refine ⟨some ⟨g, 0, none⟩, m, cap, xs, rfl, hlen, by omega, .inr ⟨g, 0, rfl, hd g (by simp [Value.ownBlock]), fun j hj => ?_⟩, hfit⟩
    rw [Nat.zero_add, ho.cellAt j (by omega), List.getElem?_map, List.getD_eq_getElem?_getD, List.getElem?_eq_getElem (by omega)]
    rfl

theorem Out.cls {dd : Prop} {D : Nat → Prop} {w : World} {g n cap : Nat} (h : Out dd D w (.slice (some ⟨g, 0, none⟩) n cap) n) (m : Nat) (hm : m ≤ n) : ∃ L, ClsAt D D w (some ⟨g, 0, none⟩) m L := by
  obtain ⟨xs, ho, hn, hd, hi, _⟩ := h
  obtain ⟨K, hK⟩ := Go.Deep.choose_lt (n := n) (α := Cl × Option Addr × Nat × Nat) (p := fun i k => xs[i * 2]? = some (.int .i64 k.1.1) ∧ (-1000 ≤ k.1.1 ∧ k.1.1 ≤ 1000) ∧ xs[i * 2 + 1]? = some (.slice k.2.1 k.2.2.1 k.2.2.2) ∧ IntsAt D w k.2.1 k.2.2.1 k.1.2) (fun i hil => by
    obtain ⟨s, fv, h1, h2, h3, h4⟩ := hi i hil
    obtain ⟨fa, fl, fc, ys, rfl, h5⟩ := h4.ints
    exact ⟨((s, ys), fa, fl, fc), h1, h2, h3, h5⟩)
  have hget : ∀ i, i < m → cl ((List.range m).map fun i => (K i).1) i = (K i).1 := by
    intro i hi
    rw [cl, List.getD_eq_getElem?_getD, List.getElem?_map, List.getElem?_range hi]; rfl
  refine ⟨(List.range m).map fun i => (K i).1, by simp, by omega, .inr ⟨g, 0, rfl, hd g (by simp [Value.ownBlock]), fun i hil => ?_⟩, ?_⟩
  · obtain ⟨h1, _, h2, h3⟩ := hK i (by omega)
    rw [hget i hil]
    refine ⟨?_, (K i).2.1, (K i).2.2.1, (K i).2.2.2, ?_, h3⟩
    · rw [Nat.zero_add, ho.cellAt _ (by omega), h1]
    · rw [Nat.zero_add, ho.cellAt _ (by omega), h2]
  · intro i
    by_cases hil : i < m
    · rw [hget i hil]; have := (hK i (by omega)).2.1; omega
    · rw [cl, List.getD_eq_getElem?_getD, List.getElem?_eq_none (by simp; omega)]; simp

end Go.Proofs.Ytcmjhgpkpiadmaa
