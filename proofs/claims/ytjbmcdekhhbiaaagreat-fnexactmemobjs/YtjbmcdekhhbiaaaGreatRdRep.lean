/-
  Data that came in are read as lists and pairs.
-/
import Derived.Test.YtjbmcdekhhbiaaaGreatRep
import Derived.ProofKit
import Derived.OpenShut
import Derived.ChangeOld
namespace Go.Proofs.YtjbmcdekhhbiaaaGreat
open Go.ChangeShapes Go.WideShapes Go.ChangeAt Go.RowKit

/-- Whatever of a type comes in is read so. -/
def Reads {α : Type} (t : TypeId) (R : Rep α) : Prop :=
  ∀ (H : Type) (enc : TypeId × Value → H) (W : World) (fuel : Nat) (cs : List Value) (x : DataW H × List MemPlace), DataW.trod enc Tryz.prog W 0 (fun _ => true) true fuel t cs = some x → ∃ y, R.holds (fun _ => True) W cs y

theorem reads_int {t : TypeId} (ht : Tryz.prog.underlying t = some (.int .i64)) : Reads t .int := by
  intro H enc W fuel cs x h
  obtain ⟨n, hcs, _, hw⟩ := DataW.trod_int ht h
  exact ⟨n, hcs, bounds_i64 hw⟩
theorem reads_bool {t : TypeId} (ht : Tryz.prog.underlying t = some .bool) : Reads t .bool := by
  intro H enc W fuel cs x h
  obtain ⟨b, hcs, _⟩ := DataW.trod_bool ht h
  exact ⟨b, hcs⟩
theorem reads_list {α : Type} [Inhabited α] {R : Rep α} {t e : TypeId} (ht : Tryz.prog.underlying t = some (.slice e)) (hc : Tryz.prog.cellsOf e = R.sz) (he : Reads e R) : Reads t R.list := by
  intro H enc W fuel cs x h
  rcases Go.Deep.open_slice ht h with ⟨hcs, _⟩ | ⟨a, len, cap, m, n, D, Pl, hcs, _, hl, hm, hmm, _, hx⟩
  · exact ⟨[], none, 0, 0, hcs, rfl, by omega, .inl rfl⟩
  · simp at hmm
    subst hmm
    unfold maxLen at hm
    obtain ⟨K, hK⟩ := Go.Deep.choose_lt (n := m) (α := α × List Value) (p := fun i k => R.holds (fun _ => True) W k.2 k.1 ∧ ∀ j v, k.2[j]? = some v → W.cell? (a.add (i * R.sz + j)) = some v) (fun i hi => by
      obtain ⟨cs', h1, h2⟩ := hx i hi
      obtain ⟨y, hy⟩ := he H enc W n cs' _ h2
      obtain ⟨_, hlen, hcell⟩ := World.cells?_some h1
      refine ⟨(y, cs'), hy, fun j v hv => ?_⟩
      have hj : j < cs'.length := (List.getElem?_eq_some_iff.1 hv).1
      have := hcell j (by omega)
      rw [Go.Deep.add_add, hc] at this
      rw [this]; exact hv)
    refine ⟨(List.range len).map fun i => (K i).1, some a, len, m, hcs, by simp, by omega, ?_⟩
    by_cases h0 : len = 0
    · exact .inl h0
    · obtain ⟨b, off, spot⟩ := a
      have hspot : spot = none := by
        obtain ⟨h1, h2⟩ := hK 0 (by omega)
        have hp := R.pos
        have hlen := R.len h1
        simpa [Addr.add] using World.cell?_spot (h2 0 ((K 0).2[0]'(by omega)) (List.getElem?_eq_getElem _))
      subst hspot
      refine .inr ⟨b, off, rfl, trivial, fun i y hy => ?_⟩
      have hi : i < len := by have := (List.getElem?_eq_some_iff.1 hy).1; simpa using this
      obtain ⟨h1, h2⟩ := hK i (by omega)
      have e : (K i).1 = y := by rw [List.getElem?_map, List.getElem?_range hi] at hy; simpa using hy
      rw [e] at h1
      refine ⟨(K i).2, h1, fun j v hv => ?_⟩
      have := h2 j v hv
      rw [Addr.add_lit] at this
      rw [Nat.add_assoc]; exact this

/-- Fields one behind the other are read so. -/
def FR (fs : List Field) (o : Nat) (α : Type) (R : Rep α) : Prop :=
  ∀ (H : Type) (enc : TypeId × Value → H) (W : World) (n : Nat) (cs : List Value), (∀ f ∈ fs, ∃ x, DataW.trod enc Tryz.prog W 0 (fun _ => true) true n f.type ((cs.drop f.offset).take (Tryz.prog.cellsOf f.type)) = some x) → ∃ y, R.holds (fun _ => True) W ((cs.drop o).take R.sz) y
theorem FR.one {α : Type} {R : Rep α} {f : Field} {o : Nat} (h1 : f.offset = o) (h2 : Tryz.prog.cellsOf f.type = R.sz) (h3 : Reads f.type R) : FR [f] o α R := by
  intro H enc W n cs hf
  obtain ⟨x, hx⟩ := hf _ (List.mem_cons_self ..)
  rw [h1, h2] at hx
  exact h3 H enc W n _ x hx
theorem FR.cons {α β : Type} {R : Rep α} {S : Rep β} {f : Field} {fs : List Field} {o : Nat} (h1 : f.offset = o) (h2 : Tryz.prog.cellsOf f.type = R.sz) (h3 : Reads f.type R) (h4 : FR fs (o + R.sz) β S) : FR (f :: fs) o (α × β) (R.pair S) := by
  intro H enc W n cs hf
  obtain ⟨x, hx⟩ := hf _ (List.mem_cons_self ..)
  rw [h1, h2] at hx
  obtain ⟨y, hy⟩ := h3 H enc W n _ x hx
  obtain ⟨z, hz⟩ := h4 H enc W n cs (fun f hm => hf f (List.mem_cons_of_mem _ hm))
  refine ⟨(y, z), _, _, ?_, hy, hz⟩
  rw [← List.drop_drop]
  exact List.take_add
theorem FR.reads {fs : List Field} {o : Nat} {α : Type} {R : Rep α} (h : FR fs o α R) {H : Type} {enc : TypeId × Value → H} {W : World} {n : Nat} {cs : List Value}
    (hf : ∀ f ∈ fs, ∃ x, DataW.trod enc Tryz.prog W 0 (fun _ => true) true n f.type ((cs.drop f.offset).take (Tryz.prog.cellsOf f.type)) = some x) : ∃ y, R.holds (fun _ => True) W ((cs.drop o).take R.sz) y := h H enc W n cs hf
theorem reads_struct {α : Type} {R : Rep α} {t : TypeId} {fs : Array Field} (ht : Tryz.prog.underlying t = some (.struct fs)) (hc : Tryz.prog.cellsOf t = R.sz) (h : FR fs.toList 0 α R) : Reads t R := by
  intro H enc W fuel cs x hx
  obtain ⟨xs, n, _, _, hlen, hxl, hf⟩ := DataW.trod_struct ht hx
  have := h.reads (enc := enc) (W := W) (n := n) (cs := cs) (fun f hm => by
    obtain ⟨i, hi⟩ := List.getElem?_of_mem hm
    have := hf i f (by rw [← Array.getElem?_toList]; exact hi)
    have hl := (List.getElem?_eq_some_iff.1 hi).1
    rw [this]
    exact ⟨xs[i]'(by rw [hxl]; simpa using hl), List.getElem?_eq_getElem _⟩)
  rw [List.drop_zero, ← hc, ← hlen, List.take_length] at this
  exact this

end Go.Proofs.YtjbmcdekhhbiaaaGreat
