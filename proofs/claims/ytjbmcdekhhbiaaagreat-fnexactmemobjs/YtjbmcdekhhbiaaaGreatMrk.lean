/-
  What is marked: numbers and truths of the call's own are overwritten, all else stays; what lies there is still read as data of the same make.
-/
import Derived.Test.YtjbmcdekhhbiaaaGreatDtInt
namespace Go.Proofs.YtjbmcdekhhbiaaaGreat
open Go.ChangeShapes Go.WideShapes Go.ChangeAt Go.RowKit

/-- Numbers stay numbers, truths stay truths, and all else stays. -/
structure Sty (w w' : World) : Prop where
  cell : ∀ p v, w.cell? p = some v → w'.cell? p = some v ∨ (∃ x z, v = .int .i64 x ∧ w'.cell? p = some (.int .i64 z) ∧ i64B z) ∨ (∃ x z, v = .bool x ∧ w'.cell? p = some (.bool z))
  frozen : ∀ p, w'.frozen? p = w.frozen? p
theorem Sty.refl (w : World) : Sty w w := ⟨fun _ _ h => .inl h, fun _ => rfl⟩
theorem Sty.trans {a b c : World} (h : Sty a b) (k : Sty b c) : Sty a c := by
  refine ⟨fun p v hv => ?_, fun p => (k.frozen p).trans (h.frozen p)⟩
  rcases h.cell p v hv with h1 | ⟨x, z, rfl, h1, hz⟩ | ⟨x, z, rfl, h1⟩
  · exact k.cell p v h1
  · rcases k.cell p _ h1 with h2 | ⟨x', z', e, h2, hz'⟩ | ⟨x', z', e, _⟩
    · exact .inr (.inl ⟨x, z, rfl, h2, hz⟩)
    · exact .inr (.inl ⟨x, z', rfl, h2, hz'⟩)
    · cases e
  · rcases k.cell p _ h1 with h2 | ⟨x', z', e, _⟩ | ⟨x', z', e, h2⟩
    · exact .inr (.inr ⟨x, z, rfl, h2⟩)
    · cases e
    · exact .inr (.inr ⟨x, z', rfl, h2⟩)
theorem Sty.set (w : World) (p : Addr) (x z : Int) (hp : w.cell? p = some (.int .i64 x)) (hz : i64B z) : Sty w (w.setCell p (.int .i64 z)) := by
  refine ⟨fun q v hv => ?_, fun q => World.frozen?_setCell _ _ _ _⟩
  by_cases e : p = q
  · subst e
    rw [hp] at hv
    cases hv
    exact .inr (.inl ⟨x, z, rfl, World.cell?_setCell_same w p _ hp, hz⟩)
  · exact .inl (by rw [World.cell?_setCell_other w _ _ _ e]; exact hv)
theorem Sty.setB (w : World) (p : Addr) (x z : Bool) (hp : w.cell? p = some (.bool x)) : Sty w (w.setCell p (.bool z)) := by
  refine ⟨fun q v hv => ?_, fun q => World.frozen?_setCell _ _ _ _⟩
  by_cases e : p = q
  · subst e
    rw [hp] at hv
    cases hv
    exact .inr (.inr ⟨x, z, rfl, World.cell?_setCell_same w p _ hp⟩)
  · exact .inl (by rw [World.cell?_setCell_other w _ _ _ e]; exact hv)
theorem Sty.alloc (w : World) (c : Array Value) (t : TypeId) : Sty w (w.alloc (.cells c t)) :=
  ⟨fun p v hv => .inl (by
    have hb := World.block_lt_of_cell? w _ hv
    have hs := World.cell?_spot hv
    obtain ⟨b, o, s⟩ := p
    simp only at hs hb
    subst hs
    rw [World.cell?_alloc_past _ _ _ hb]; exact hv), fun p => frozen?_alloc_cells _ _ _ _⟩

/-- Only blocks of such numbers have changed. -/
structure Chg (D : Nat → Prop) (w w' : World) : Prop where
  os : w'.os = w.os
  tape : w'.tape = w.tape
  output : w'.output = w.output
  size : w.heap.size ≤ w'.heap.size
  block : ∀ i, i < w.heap.size → ¬ D i → w'.heap[i]? = w.heap[i]?
theorem Chg.refl (D : Nat → Prop) (w : World) : Chg D w w := ⟨rfl, rfl, rfl, Nat.le_refl _, fun _ _ _ => rfl⟩
theorem Chg.trans {D E : Nat → Prop} {a b c : World} (h : Chg D a b) (k : Chg E b c) (m : ∀ i, i < a.heap.size → E i → D i) : Chg D a c :=
  ⟨k.os.trans h.os, k.tape.trans h.tape, k.output.trans h.output, Nat.le_trans h.size k.size, fun i hi hs => (k.block i (Nat.lt_of_lt_of_le hi h.size) (fun t => hs (m i hi t))).trans (h.block i hi hs)⟩
theorem Chg.below {D : Nat → Prop} {a b : World} (h : Chg D a b) {B : Nat} (hB : B ≤ a.heap.size) (m : ∀ i, i < B → ¬ D i) : Below B a b :=
  ⟨h.os, h.tape, h.output, h.size, fun k hk => h.block k (Nat.lt_of_lt_of_le hk hB) (m k hk)⟩
theorem Chg.set {D : Nat → Prop} (w : World) (p : Addr) (v : Value) (hp : D p.block) : Chg D w (w.setCell p v) :=
  ⟨rfl, rfl, rfl, by rw [World.size_setCell]; exact Nat.le_refl _, fun k _ hs => Below.heap_setCell w p v k (fun e => hs (by rw [e]; exact hp))⟩
theorem Chg.alloc (D : Nat → Prop) (w : World) (o : Obj) : Chg D w (w.alloc o) :=
  ⟨rfl, rfl, rfl, by simp, fun k hk _ => Below.heap_alloc w o k hk⟩
theorem Chg.cell {D : Nat → Prop} {w w' : World} (c : Chg D w w') (b o : Nat) (hb : b < w.heap.size) (hs : ¬ D b) : w'.cell? ⟨b, o, none⟩ = w.cell? ⟨b, o, none⟩ :=
  World.cell?_of_block (w := w) (c.block b hb hs)
theorem Chg.frozen {D : Nat → Prop} {w w' : World} (c : Chg D w w') (b o : Nat) (hb : b < w.heap.size) (hs : ¬ D b) : w'.frozen? ⟨b, o, none⟩ = w.frozen? ⟨b, o, none⟩ :=
  World.frozen?_of_block (w := w) (c.block b hb hs)
/-- Marked: both. -/
structure Mkd (D : Nat → Prop) (w w' : World) : Prop where
  sty : Sty w w'
  chg : Chg D w w'
theorem Mkd.refl (D : Nat → Prop) (w : World) : Mkd D w w := ⟨Sty.refl _, Chg.refl _ _⟩
theorem Mkd.trans {D : Nat → Prop} {a b c : World} (h : Mkd D a b) (k : Mkd D b c) : Mkd D a c := ⟨h.sty.trans k.sty, h.chg.trans k.chg fun _ _ h => h⟩
theorem Mkd.set {D : Nat → Prop} {a w : World} (h : Mkd D a w) (p : Addr) (z : Int) (hd : D p.block) (hp : ∃ x, w.cell? p = some (.int .i64 x)) (hz : i64B z) : Mkd D a (w.setCell p (.int .i64 z)) := by
  obtain ⟨x, hx⟩ := hp
  exact h.trans ⟨Sty.set w p x z hx hz, Chg.set w p _ hd⟩
theorem Mkd.setB {D : Nat → Prop} {a w : World} (h : Mkd D a w) (p : Addr) (z : Bool) (hd : D p.block) (hp : ∃ x, w.cell? p = some (.bool x)) : Mkd D a (w.setCell p (.bool z)) := by
  obtain ⟨x, hx⟩ := hp
  exact h.trans ⟨Sty.setB w p x z hx, Chg.set w p _ hd⟩
theorem Mkd.alloc {D : Nat → Prop} {a w : World} (h : Mkd D a w) (c : Array Value) (t : TypeId) : Mkd D a (w.alloc (.cells c t)) :=
  h.trans ⟨Sty.alloc w c t, Chg.alloc _ _ _⟩
/-- What is of such numbers may be written. -/
def Thw (D : Nat → Prop) (w : World) : Prop := ∀ b o, D b → w.frozen? ⟨b, o, none⟩ = false
theorem Thw.mkd {D : Nat → Prop} {w w' : World} (h : Thw D w) (m : Mkd D w w') : Thw D w' := fun b o hb => (m.sty.frozen _).trans (h b o hb)

/-- Data of such a make, that are not great, lie in a row from a place on. -/
def Lies {α : Type} (R : Rep α) (D : Nat → Prop) (w : World) (b o : Nat) : Prop := ∃ vs x, R.holds D w vs x ∧ R.small x ∧ ∀ j v, vs[j]? = some v → w.cell? ⟨b, o + j, none⟩ = some v
def Sts {α : Type} (R : Rep α) : Prop := ∀ (D : Nat → Prop) (w w' : World) (b o : Nat), Lies R D w b o → Sty w w' → Lies R D w' b o
structure SlP {α : Type} (R : Rep α) (D : Nat → Prop) (w : World) (a : Option Addr) (len : Nat) : Prop where
  few : len ≤ 1048576
  rows : len = 0 ∨ ∃ b off, a = some ⟨b, off, none⟩ ∧ D b ∧ ∀ i, i < len → Lies R D w b (off + i * R.sz)
theorem SlP.of {α : Type} {R : Rep α} {D : Nat → Prop} {w : World} {a : Option Addr} {len : Nat} {xs : List α} (h : SlAt R D w a len xs) (hs : (Rep.list R).small xs) : SlP R D w a len := by
  have hl := h.size
  refine ⟨by rw [← hl]; exact hs.1, ?_⟩
  rcases h.cells with h0 | ⟨b, off, ha, hd, hc⟩
  · exact .inl h0
  · refine .inr ⟨b, off, ha, hd, fun i hi => ?_⟩
    obtain ⟨vs, h1, h2⟩ := hc i (xs[i]'(by omega)) (List.getElem?_eq_getElem _)
    exact ⟨vs, _, h1, hs.2 _ (List.getElem_mem _), h2⟩
theorem SlP.sty {α : Type} {R : Rep α} {D : Nat → Prop} {w w' : World} {a : Option Addr} {len : Nat} (hR : Sts R) (h : SlP R D w a len) (s : Sty w w') : SlP R D w' a len := by
  refine ⟨h.few, ?_⟩
  rcases h.rows with h0 | ⟨b, off, ha, hd, hc⟩
  · exact .inl h0
  · exact .inr ⟨b, off, ha, hd, fun i hi => hR _ _ _ _ _ (hc i hi) s⟩
theorem SlP.back {α : Type} [Inhabited α] {R : Rep α} {D : Nat → Prop} {w : World} {a : Option Addr} {len : Nat} (h : SlP R D w a len) : ∃ xs, SlAt R D w a len xs ∧ (Rep.list R).small xs := by
  have hf := h.few
  rcases h.rows with h0 | ⟨b, off, ha, hd, hc⟩
  · exact ⟨[], ⟨h0.symm, by omega, .inl h0⟩, by simp, by simp⟩
  · obtain ⟨K, hK⟩ := Go.Deep.choose_lt (n := len) (α := α) (p := fun i x => ∃ vs, R.holds D w vs x ∧ R.small x ∧ ∀ j v, vs[j]? = some v → w.cell? ⟨b, off + i * R.sz + j, none⟩ = some v) (fun i hi => by
      obtain ⟨vs, x, h1, h2, h3⟩ := hc i hi
      exact ⟨x, vs, h1, h2, h3⟩)
    refine ⟨(List.range len).map K, ⟨by simp, by omega, .inr ⟨b, off, ha, hd, fun i x hx => ?_⟩⟩, by simpa using hf, fun x hx => ?_⟩
    · have hi : i < len := by have := (List.getElem?_eq_some_iff.1 hx).1; simpa using this
      obtain ⟨vs, h1, _, h3⟩ := hK i hi
      have e : K i = x := by rw [List.getElem?_map, List.getElem?_range hi] at hx; simpa using hx
      rw [e] at h1
      exact ⟨vs, h1, h3⟩
    · obtain ⟨i, hi, rfl⟩ := List.mem_map.1 hx
      obtain ⟨vs, _, h2, _⟩ := hK i (List.mem_range.1 hi)
      exact h2
theorem Lies.int {D : Nat → Prop} {w : World} {b o : Nat} (h : Lies .int D w b o) : ∃ z, w.cell? ⟨b, o, none⟩ = some (.int .i64 z) := by
  obtain ⟨vs, x, ⟨rfl, _⟩, _, h3⟩ := h
  exact ⟨x, h3 0 _ rfl⟩
theorem Lies.bool {D : Nat → Prop} {w : World} {b o : Nat} (h : Lies .bool D w b o) : ∃ z, w.cell? ⟨b, o, none⟩ = some (.bool z) := by
  obtain ⟨vs, x, h1, _, h3⟩ := h
  have h1 : vs = [.bool x] := h1
  subst h1
  exact ⟨x, h3 0 _ rfl⟩
theorem Lies.list {α : Type} {R : Rep α} {D : Nat → Prop} {w : World} {b o : Nat} (h : Lies R.list D w b o) : ∃ a len cap, w.cell? ⟨b, o, none⟩ = some (.slice a len cap) ∧ SlP R D w a len := by
  obtain ⟨vs, xs, ⟨a, len, cap, rfl, hS⟩, hs, h3⟩ := h
  exact ⟨a, len, cap, h3 0 _ rfl, SlP.of hS hs⟩
theorem Lies.pair {α β : Type} {R : Rep α} {S : Rep β} {D : Nat → Prop} {w : World} {b o : Nat} (h : Lies (R.pair S) D w b o) : Lies R D w b o ∧ Lies S D w b (o + R.sz) := by
  obtain ⟨vs, ⟨x, y⟩, ⟨us, ws, rfl, h1, h2⟩, ⟨s1, s2⟩, h3⟩ := h
  have hl := R.len h1
  refine ⟨⟨us, x, h1, s1, fun j v hv => h3 j v ?_⟩, ⟨ws, y, h2, s2, fun j v hv => ?_⟩⟩
  · rw [List.getElem?_append_left (List.getElem?_eq_some_iff.1 hv).1]; exact hv
  · rw [Nat.add_assoc, ← hl]
    refine h3 (us.length + j) v ?_
    rw [List.getElem?_append_right (by omega), Nat.add_sub_cancel_left]; exact hv
theorem sts_int : Sts .int := by
  intro D w w' b o h s
  obtain ⟨vs, x, ⟨rfl, hx⟩, _, h3⟩ := h
  rcases s.cell _ _ (h3 0 _ rfl) with h1 | ⟨_, z, _, h1, hz⟩ | ⟨_, _, e, _⟩
  · exact ⟨[.int .i64 x], x, ⟨rfl, hx⟩, trivial, fun j v hv => by
      match j, hv with
      | 0, hv => simp at hv; subst hv; exact h1⟩
  · exact ⟨[.int .i64 z], z, ⟨rfl, hz⟩, trivial, fun j v hv => by
      match j, hv with
      | 0, hv => simp at hv; subst hv; exact h1⟩
  · cases e
theorem sts_bool : Sts .bool := by
  intro D w w' b o h s
  obtain ⟨vs, x, h1, _, h3⟩ := h
  have h1 : vs = [.bool x] := h1
  subst h1
  rcases s.cell _ _ (h3 0 _ rfl) with h1 | ⟨_, _, e, _⟩ | ⟨_, z, _, h1⟩
  · exact ⟨[.bool x], x, rfl, trivial, fun j v hv => by
      match j, hv with
      | 0, hv => simp at hv; subst hv; exact h1⟩
  · cases e
  · exact ⟨[.bool z], z, rfl, trivial, fun j v hv => by
      match j, hv with
      | 0, hv => simp at hv; subst hv; exact h1⟩
theorem sts_list {α : Type} [Inhabited α] {R : Rep α} (hR : Sts R) : Sts R.list := by
  intro D w w' b o h s
  obtain ⟨a, len, cap, hc, hP⟩ := h.list
  obtain ⟨xs, hS, hs⟩ := (hP.sty hR s).back
  refine ⟨[.slice a len cap], xs, ⟨a, len, cap, rfl, hS⟩, hs, fun j v hv => ?_⟩
  match j, hv with
  | 0, hv =>
    simp at hv
    subst hv
    rcases s.cell _ _ hc with h1 | ⟨_, _, e, _⟩ | ⟨_, _, e, _⟩
    · exact h1
    · cases e
    · cases e
theorem sts_pair {α β : Type} {R : Rep α} {S : Rep β} (h1 : Sts R) (h2 : Sts S) : Sts (R.pair S) := by
  intro D w w' b o h s
  obtain ⟨ha, hb⟩ := h.pair
  obtain ⟨us, x, k1, k2, k3⟩ := h1 _ _ _ _ _ ha s
  obtain ⟨ws, y, l1, l2, l3⟩ := h2 _ _ _ _ _ hb s
  have hl := R.len k1
  refine ⟨us ++ ws, (x, y), ⟨us, ws, rfl, k1, l1⟩, ⟨k2, l2⟩, fun j v hv => ?_⟩
  by_cases hj : j < us.length
  · rw [List.getElem?_append_left hj] at hv
    exact k3 j v hv
  · rw [List.getElem?_append_right (by omega)] at hv
    have := l3 _ v hv
    rw [show o + R.sz + (j - us.length) = o + j by omega] at this
    exact this

/-- What marking gives. -/
def MarkP (D : Nat → Prop) (w : World) (k B : Int) (e : Ending) (w' : World) : Prop := ∃ r : Int, e = .returned (.int .i64 r) ∧ k ≤ r ∧ r ≤ k + B ∧ Mkd D w w'
theorem markLInt (a : Option Addr) (n c : Nat) (k : Int) (w : World) {D : Nat → Prop} (h : SlP intR D w a n) (hz : Thw D w) (k0 : 0 ≤ k) (k1 : k ≤ 4611686018427387904) :
    Calls Tryz.prog 40 #[.slice a n c, .int .i64 k] w fun e w' => MarkP D w k 1048576 e w' := by
  have hn := h.few
  have H : Hid (SlP intR D w a n) := h
  have HZ : Hid (Thw D w) := hz
  clear h hz
  go_enter Tryz.func40, Tryz.ntmps40
  go_wp2_with fail
  go_loopw [1, 5] (fun s t wr => ∃ i : Nat, i ≤ n ∧ t = .int .i64 i ∧ s = .int .i64 (k + i) ∧ Mkd D w wr) (fun _ t _ => n - (intOf t).toNat)
  case atStart => exact ⟨0, Nat.zero_le _, rfl, by simp, Mkd.refl _ _⟩
  case round =>
    obtain ⟨i, hi, rfl, rfl, hm⟩ := hrel
    have HM : Hid (Mkd D w wr) := hm
    clear hm
    by_cases hlt : i < n
    · obtain ⟨b, off, rfl, hd, z, hc⟩ : ∃ b off, a = some ⟨b, off, none⟩ ∧ D b ∧ ∃ z, wr.cell? ⟨b, off + i, none⟩ = some (.int .i64 z) := by
        rcases (H.out.sty sts_int HM.out.sty).rows with h0 | ⟨b, off, ha, hd, hr⟩
        · omega
        · obtain ⟨z, hz⟩ := (hr i hlt).int
          exact ⟨b, off, ha, hd, z, by simpa [Rep.int] using hz⟩
      have hf := (HZ.out.mkd HM.out) b (off + i) hd
      have HM2 : Hid (Mkd D w (wr.setCell ⟨b, off + i, none⟩ (.int .i64 (k + i)))) := HM.out.set _ _ hd ⟨z, hc⟩ ⟨by omega, by omega⟩
      go_wp2_with fail
      exact ⟨⟨i + 1, by omega, by go_num, by rw [show k + (i : Int) + 1 = k + ((i + 1 : Nat) : Int) by omega], HM2.out⟩, by simp [intOf]; omega⟩
    · have ei : i = n := by omega
      subst ei
      go_wp2_with fail
      go_ret
      exact ⟨_, rfl, by omega, by omega, HM.out⟩

/-- A list in memory that may be written, of whose numbers one knows. -/
structure Wri (w : World) (a : Option Addr) (n : Nat) (f : Nat → Int) : Prop where
  cells : n = 0 ∨ ∃ b off, a = some ⟨b, off, none⟩ ∧ ∀ j, j < n → w.cell? ⟨b, off + j, none⟩ = some (.int .i64 (f j)) ∧ w.frozen? ⟨b, off + j, none⟩ = false
theorem Wri.keep {w w' : World} {n : Nat} {a : Option Addr} {f : Nat → Int} {D : Nat → Prop} (h : Wri w a n f) (c : Chg D w w') (hS : ∀ x, a = some x → 0 < n → ¬ D x.block) : Wri w' a n f := by
  rcases h.cells with h0 | ⟨g, off, rfl, hc⟩
  · exact ⟨.inl h0⟩
  · refine ⟨.inr ⟨g, off, rfl, fun j hj => ?_⟩⟩
    have hl := World.block_lt_of_cell? w _ (hc j hj).1
    have hn := hS _ rfl (by omega)
    exact ⟨by rw [c.cell g _ hl hn]; exact (hc j hj).1, by rw [c.frozen g _ hl hn]; exact (hc j hj).2⟩
theorem Wri.later {w w' : World} {n : Nat} {a : Option Addr} {f : Nat → Int} (h : Wri w a n f) (b : Below w.heap.size w w') : Wri w' a n f := by
  rcases h.cells with h0 | ⟨g, off, ha, hc⟩
  · exact ⟨.inl h0⟩
  · refine ⟨.inr ⟨g, off, ha, fun j hj => ?_⟩⟩
    have hl := World.block_lt_of_cell? w _ (hc j hj).1
    exact ⟨by rw [b.cell hl]; exact (hc j hj).1, by rw [b.frozen hl]; exact (hc j hj).2⟩
theorem Wri.sl {w : World} {n : Nat} {a : Option Addr} {xs : List Int} (h : Wri w a n (fun j => xs.getD j 0)) (hs : xs.length = n) (hn : n ≤ 1048576) (hf : ∀ j, i64B (xs.getD j 0)) : SlAt intR (fun _ => True) w a n xs :=
  IntsAt.sl ⟨hs, by omega, by
    rcases h.cells with h0 | ⟨g, off, ha, hc⟩
    · exact .inl h0
    · exact .inr ⟨g, off, ha, trivial, fun j hj => (hc j hj).1⟩, hf⟩
theorem markOwn (a : Option Addr) (n c : Nat) (k : Int) (f : Nat → Int) (w : World) (h : Wri w a n f) (hn : n ≤ 1048576) (k0 : 0 ≤ k) (k1 : k ≤ 4000000000000) :
    Calls Tryz.prog 40 #[.slice a n c, .int .i64 k] w fun e w' => e = .returned (.int .i64 (k + n)) ∧ Wri w' a n (fun j => k + j) ∧ Chg (fun i => ∃ x, a = some x ∧ x.block = i ∧ 0 < n) w w' := by
  by_cases hn0 : n = 0
  · subst hn0
    go_enter Tryz.func40, Tryz.ntmps40
    go_wp2_with fail
    refine wp_loop_rounds 1 ?_
    rw [rounds_succ]
    go_wp2_with fail
    go_ret
    exact ⟨by simp, ⟨.inl rfl⟩, Chg.refl _ _⟩
  · obtain ⟨b, off, rfl, hc⟩ : ∃ b off, a = some ⟨b, off, none⟩ ∧ ∀ j, j < n → w.cell? ⟨b, off + j, none⟩ = some (.int .i64 (f j)) ∧ w.frozen? ⟨b, off + j, none⟩ = false := by
      rcases h.cells with h0 | h0
      · omega
      · exact h0
    have HC : Hid (∀ j, j < n → w.cell? ⟨b, off + j, none⟩ = some (.int .i64 (f j)) ∧ w.frozen? ⟨b, off + j, none⟩ = false) := hc
    clear h hc
    go_enter Tryz.func40, Tryz.ntmps40
    go_wp2_with fail
    go_loopw [1, 5] (fun s t wr => ∃ i : Nat, i ≤ n ∧ t = .int .i64 i ∧ s = .int .i64 (k + i) ∧ (∀ j, j < n → wr.cell? ⟨b, off + j, none⟩ = some (.int .i64 (if j < i then k + j else f j)) ∧ wr.frozen? ⟨b, off + j, none⟩ = false) ∧ Chg (fun i => i = b) w wr) (fun _ t _ => n - (intOf t).toNat)
    case atStart => exact ⟨0, Nat.zero_le _, rfl, by simp, fun j hj => by simpa using HC.out j hj, Chg.refl _ _⟩
    case round =>
      obtain ⟨i, hi, rfl, rfl, hr, hch⟩ := hrel
      have HR : Hid (∀ j, j < n → wr.cell? ⟨b, off + j, none⟩ = some (.int .i64 (if j < i then k + j else f j)) ∧ wr.frozen? ⟨b, off + j, none⟩ = false) := hr
      have HCh : Hid (Chg (fun i => i = b) w wr) := hch
      clear hr hch
      by_cases hlt : i < n
      · have c1 := (HR.out i hlt).1
        have c2 := (HR.out i hlt).2
        rw [if_neg (by omega)] at c1
        go_wp2_with fail
        refine ⟨⟨i + 1, by omega, by go_num, ?_, fun j hj => ⟨?_, ?_⟩, HCh.out.trans (Chg.set (D := fun i => i = b) _ _ _ rfl) (fun _ _ h => h)⟩, by simp [intOf]; omega⟩
        · rw [show k + (i : Int) + 1 = k + ((i + 1 : Nat) : Int) by omega]
        · by_cases e : j = i
          · subst e
            rw [World.cell?_setCell_same wr _ _ (HR.out j hj).1, if_pos (by omega)]
          · rw [World.cell?_setCell_other wr _ _ _ (by intro e'; have := congrArg Addr.off e'; simp at this; omega), (HR.out j hj).1]
            by_cases e2 : j < i
            · rw [if_pos e2, if_pos (by omega)]
            · rw [if_neg e2, if_neg (by omega)]
        · rw [World.frozen?_setCell]; exact (HR.out j hj).2
      · have ei : i = n := by omega
        subst ei
        go_wp2_with fail
        go_ret
        refine ⟨rfl, ⟨.inr ⟨b, off, rfl, fun j hj => ?_⟩⟩, (Chg.refl _ _).trans HCh.out (fun j _ e => ⟨_, rfl, e.symm, by omega⟩)⟩
        have := HR.out j hj
        rwa [if_pos hj] at this
theorem heldOwn (a : Option Addr) (n c : Nat) (k : Int) (w : World) (h : Wri w a n (fun j => k + j)) (hn : n ≤ 1048576) (k0 : 0 ≤ k) (k1 : k ≤ 4000000000000) :
    Calls Tryz.prog 42 #[.slice a n c, .int .i64 k] w fun e w' => e = .returned (.int .i64 (k + n)) ∧ w = w' := by
  have HC : Hid (Wri w a n (fun j => k + j)) := h
  clear h
  go_enter Tryz.func42, Tryz.ntmps42
  go_wp2_with fail
  go_loop [1, 5] (fun s t => ∃ i : Nat, i ≤ n ∧ t = .int .i64 i ∧ s = .int .i64 (k + i)) (fun _ t => n - (intOf t).toNat)
  case atStart => exact ⟨0, Nat.zero_le _, rfl, by simp⟩
  case round =>
    obtain ⟨i, hi, rfl, rfl⟩ := hrel
    by_cases hlt : i < n
    · obtain ⟨b, off, rfl, hc⟩ : ∃ b off, a = some ⟨b, off, none⟩ ∧ w.cell? ⟨b, off + i, none⟩ = some (.int .i64 (k + i)) := by
        rcases HC.out.cells with h0 | ⟨b, off, ha, hc⟩
        · omega
        · exact ⟨b, off, ha, (hc i hlt).1⟩
      have e1 : ((k + (i : Int)) != (k + (i : Int))) = false := by simp
      go_wp2_with fail
      exact ⟨⟨i + 1, by omega, by go_num, by rw [show k + (i : Int) + 1 = k + ((i + 1 : Nat) : Int) by omega]⟩, by simp [intOf]; omega⟩
    · have ei : i = n := by omega
      subst ei
      go_wp2_with fail
      go_ret
      exact ⟨rfl, rfl⟩

end Go.Proofs.YtjbmcdekhhbiaaaGreat
