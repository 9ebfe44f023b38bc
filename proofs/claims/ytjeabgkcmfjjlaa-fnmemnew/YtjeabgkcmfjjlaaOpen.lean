/-
  The reader of a code is laid in new memory, whatever the code; a step of it leaves all other memory.
-/
import Derived.Test.YtjeabgkcmfjjlaaPick
import Derived.WalkLawsBesides
namespace Go.Proofs.Ytjeabgkcmfjjlaa
open Go.ChangeShapes Go.WideShapes Go.ChangeAt Go.RowKit

theorem openFin (a : Option Addr) (len cap m : Nat) (zs : List Int) (w : World) (h : IsRow .u8 w a len cap zs) (hm : m ≤ len) (hm2 : m ≤ 2000) :
    Rd w.heap.size (w.alloc (.cells #[.slice a m cap, .int .i64 0] 57)) w.heap.size 0 := by
  have hr := row_bytes h m hm hm2
  refine ⟨Nat.le_refl _, by simp, ?_, ?_, a, m, cap, ?_, ?_⟩
  · rw [World.cell?_alloc_at _ _ _ _ rfl]; rfl
  · exact World.frozen?_alloc_at _ _ _ _ rfl
  · rw [World.cell?_alloc_at _ _ _ _ rfl]; rfl
  · rcases hr with hr | ⟨b, off, f, ha, hb, hm, hf⟩
    · exact .inl hr
    · exact .inr ⟨b, off, f, ha, hb, hm, fun i hi => ⟨by rw [World.cell?_alloc_past _ _ _ hb]; exact (hf i hi).1, (hf i hi).2⟩⟩

theorem openRd (a : Option Addr) (len cap : Nat) (zs : List Int) (w : World) (h : IsRow .u8 w a len cap zs) :
    Calls Try.prog 10 #[.slice a len cap] w fun e w' => e = .returned (.pointer (some ⟨w.heap.size, 0, none⟩)) ∧ Rd w.heap.size w' w.heap.size 0 ∧ Below w.heap.size w w' ∧ w'.heap.size = w.heap.size + 1 := by
  by_cases hl : len ≤ 2000
  · have Fin : Hid (Rd w.heap.size (w.alloc (.cells #[.slice a len cap, .int .i64 0] 57)) w.heap.size 0) := openFin a len cap len zs w h (Nat.le_refl _) hl
    clear h
    go_enter Try.func10, Try.ntmps10
    go_wp2
    go_ret
    exact ⟨rfl, Fin.out, by go_grown, by simp⟩
  · have Fin : Hid (Rd w.heap.size (w.alloc (.cells #[.slice a 2000 cap, .int .i64 0] 57)) w.heap.size 0) := openFin a len cap 2000 zs w h (by omega) (Nat.le_refl _)
    rcases h with ⟨rfl, rfl, rfl, rfl⟩ | ⟨x, rfl, hlc, hc, hz, hcell, hwz⟩
    · exact absurd (Nat.zero_le _) hl
    · clear hcell hwz hz
      unfold maxLen at hc
      have hl1 : 2000 < len := by omega
      have hl2 : 2000 ≤ cap := by omega
      go_enter Try.func10, Try.ntmps10
      go_wp2
      go_ret
      exact ⟨rfl, Fin.out, by go_grown, by simp⟩

theorem Rd.alloc {B R k : Nat} {w : World} (h : Rd B w R k) (o : Obj) : Rd B (w.alloc o) R k := by
  have hlow := h.low
  have hs := h.size
  refine ⟨h.low, by simp; omega, ?_, ?_, ?_⟩
  · rw [World.cell?_alloc_past _ _ _ hs]; exact h.at0
  · rw [World.frozen?_alloc_past _ _ _ hs]; exact h.free
  · obtain ⟨a, len, cap, hc, hr⟩ := h.code
    refine ⟨a, len, cap, by rw [World.cell?_alloc_past _ _ _ hs]; exact hc, ?_⟩
    rcases hr with hr | ⟨b, off, f, ha, hb, hl, hf⟩
    · exact .inl hr
    · exact .inr ⟨b, off, f, ha, hb, hl, fun i hi => ⟨by rw [World.cell?_alloc_past _ _ _ (by omega)]; exact (hf i hi).1, (hf i hi).2⟩⟩

/-- A step of the reader leaves the cells of every other block. -/
theorem Stp.cell {B R k : Nat} {w w' : World} (h : Stp B R k w w') (b o : Nat) (hb : b ≠ R) : w'.cell? ⟨b, o, none⟩ = w.cell? ⟨b, o, none⟩ :=
  World.cell?_of_block (w := w) (h.block b hb)

theorem rowLater {k : IntKind} {w w' : World} {a : Option Addr} {len cap : Nat} {zs : List Int} (h : IsRow k w a len cap zs) (b : Below w.heap.size w w') : IsRow k w' a len cap zs := by
  rcases h with h | ⟨x, hx, hl, hc, hz, hcell, hwz⟩
  · exact .inl h
  · exact .inr ⟨x, hx, hl, hc, hz, fun i hi => by rw [b.cell (World.block_lt_of_cell? w _ (hcell i hi))]; exact hcell i hi, hwz⟩

end Go.Proofs.Ytjeabgkcmfjjlaa
