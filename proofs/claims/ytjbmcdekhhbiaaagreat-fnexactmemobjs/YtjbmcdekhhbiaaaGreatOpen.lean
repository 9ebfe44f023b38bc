/-
  The reader of a code is laid in new memory, whatever the code; a step of it leaves all other memory.
-/
import Derived.Test.YtjbmcdekhhbiaaaGreatPick
import Derived.WalkLawsBesides
namespace Go.Proofs.YtjbmcdekhhbiaaaGreat
open Go.ChangeShapes Go.WideShapes Go.ChangeAt Go.RowKit

theorem Rd.alloc {B R k : Nat} {w : World} (h : Rd B w R k) (o : Obj) : Rd B (w.alloc o) R k := by
  have hlow := h.low
  have hs := h.size
  refine ⟨h.low, by simp; omega, ?_, ?_, ?_⟩
  · rw [World.cell?_alloc_past _ _ _ hs]; exact h.at0
  · rw [World.frozen?_alloc_past _ _ _ hs]; exact h.free
  · obtain ⟨a, len, cap, hc, hr⟩ := h.code
    refine ⟨a, len, cap, by rw [World.cell?_alloc_past _ _ _ hs]; exact hc, ?_⟩
    rcases hr with hr | ⟨b, off, f, ha, hb, hl, hf⟩
    · exact .inl hr
    · exact .inr ⟨b, off, f, ha, hb, hl, fun i hi => ⟨by rw [World.cell?_alloc_past _ _ _ (by omega)]; exact (hf i hi).1, (hf i hi).2⟩⟩

/-- A step of the reader leaves the cells of every other block. -/
theorem Stp.cell {B R k : Nat} {w w' : World} (h : Stp B R k w w') (b o : Nat) (hb : b ≠ R) : w'.cell? ⟨b, o, none⟩ = w.cell? ⟨b, o, none⟩ :=
  World.cell?_of_block (w := w) (h.block b hb)

theorem rowLater {k : IntKind} {w w' : World} {a : Option Addr} {len cap : Nat} {zs : List Int} (h : IsRow k w a len cap zs) (b : Below w.heap.size w w') : IsRow k w' a len cap zs := by
  rcases h with h | ⟨x, hx, hl, hc, hz, hcell, hwz⟩
  · exact .inl h
  · exact .inr ⟨x, hx, hl, hc, hz, fun i hi => by rw [b.cell (World.block_lt_of_cell? w _ (hcell i hi))]; exact hcell i hi, hwz⟩

end Go.Proofs.YtjbmcdekhhbiaaaGreat
