/-
  Whether an instruction is ok, of the specification: fields, calls, what is sent, and what is no instruction.
-/
import Derived.Test.YtkggmcbjpmhmcaaDoorInsSpec
import Derived.Deep.RegionHeld3
namespace Go.Proofs.YtkggmcbjpmhmcaaDoor
open Go.ChangeShapes Go.WideShapes Go.ChangeAt Go.RowKit

theorem meOf {D : Nat → Prop} {w : World} {a : Option Addr} {len : Nat} {M : List Me} (h : SlAt meR D w a len M) (i : Nat) (hi : i < len) :
    ∃ b off, a = some ⟨b, off, none⟩ ∧ D b ∧ ∃ aa al ac da dl dc sa sl sc ha hl hc,
      w.cell? ⟨b, off + i * 8, none⟩ = some (.int .i64 (me M i).1) ∧ w.cell? ⟨b, off + i * 8 + 1, none⟩ = some (.int .i64 (me M i).2.1) ∧ w.cell? ⟨b, off + i * 8 + 2, none⟩ = some (.slice aa al ac) ∧
      w.cell? ⟨b, off + i * 8 + 3, none⟩ = some (.int .i64 (me M i).2.2.2.1) ∧ w.cell? ⟨b, off + i * 8 + 4, none⟩ = some (.int .i64 (me M i).2.2.2.2.1) ∧ w.cell? ⟨b, off + i * 8 + 5, none⟩ = some (.slice da dl dc) ∧
      w.cell? ⟨b, off + i * 8 + 6, none⟩ = some (.slice sa sl sc) ∧ w.cell? ⟨b, off + i * 8 + 7, none⟩ = some (.slice ha hl hc) ∧
      SlAt intR D w aa al (me M i).2.2.1 ∧ SlAt inR D w da dl (me M i).2.2.2.2.2.1 ∧ SlAt shR D w sa sl (me M i).2.2.2.2.2.2.1 ∧ SlAt caR D w ha hl (me M i).2.2.2.2.2.2.2 ∧
      i64B (me M i).1 ∧ i64B (me M i).2.1 ∧ i64B (me M i).2.2.2.1 ∧ i64B (me M i).2.2.2.2.1 := by
  have hs := h.size
  have hx : M[i]? = some (me M i) := by
    unfold me
    rw [List.getD_eq_getElem?_getD, List.getElem?_eq_getElem (by omega)]; rfl
  obtain ⟨b, off, ha, hd, vs, hv, hc⟩ := h.at i _ hx
  generalize me M i = x at *
  obtain ⟨x0, x1, xs2, x3, x4, xs5, xs6, xs7⟩ := x
  obtain ⟨_, _, rfl, ⟨rfl, b0⟩, _, _, rfl, ⟨rfl, b1⟩, _, _, rfl, ⟨aa, al, ac, rfl, h2⟩, _, _, rfl, ⟨rfl, b3⟩, _, _, rfl, ⟨rfl, b4⟩, _, _, rfl, ⟨da, dl, dc, rfl, h5⟩, _, _, rfl, ⟨sa, sl, sc, rfl, h6⟩, ⟨ha', hl, hcc, rfl, h7⟩⟩ := hv
  exact ⟨b, off, ha, hd, aa, al, ac, da, dl, dc, sa, sl, sc, ha', hl, hcc, hc 0 _ rfl, hc 1 _ rfl, hc 2 _ rfl, hc 3 _ rfl, hc 4 _ rfl, hc 5 _ rfl, hc 6 _ rfl, hc 7 _ rfl, h2, h5, h6, h7, b0, b1, b3, b4⟩

theorem own_slice {w : World} {base : Nat} {e : TypeId} {size n : Nat} {v : Value} {xs : List Value} (h : w.ownsRow base e size v n xs) : ∃ a c, v = .slice a n c := by
  rcases h.2 with ⟨rfl, rfl⟩ | ⟨g, cap, cur, rfl, _⟩
  · exact ⟨_, _, rfl⟩
  · exact ⟨_, _, rfl⟩
theorem al3 {w : World} {a b : Obj} {cs : Array Value} {t : TypeId} {j : Nat} {v : Value} (hv : cs[j]? = some v) : (((w.alloc a).alloc b).alloc (.cells cs t)).drew.cell? ⟨w.heap.size + 1 + 1, j, none⟩ = some v := by
  show (((w.alloc a).alloc b).alloc (.cells cs t)).cell? ⟨w.heap.size + 1 + 1, j, none⟩ = some v
  rw [World.cell?_alloc_at _ _ _ _ (by simp)]
  exact hv
theorem al3c {w : World} {a b : Obj} {cs : Array Value} {t : TypeId} {j : Nat} {v : Value} (hv : cs[j]? = some v) : (((w.alloc (.cells cs t)).alloc a).alloc b).drew.cell? ⟨w.heap.size, j, none⟩ = some v := by
  show (((w.alloc (.cells cs t)).alloc a).alloc b).cell? ⟨w.heap.size, j, none⟩ = some v
  rw [World.cell?_alloc_past _ _ _ (by simp; omega), World.cell?_alloc_past _ _ _ (by simp), World.cell?_alloc_at _ _ _ _ rfl]
  exact hv
theorem inI_nat {x : Int} {n : Nat} (h : inI x 0 ((n : Int) - 1) = true) : ∃ m : Nat, x = m ∧ m < n := by
  unfold inI at h
  simp at h
  exact ⟨x.toNat, by omega, by omega⟩

end Go.Proofs.YtkggmcbjpmhmcaaDoor
