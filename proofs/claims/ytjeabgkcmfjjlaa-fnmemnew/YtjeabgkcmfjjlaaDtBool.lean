/-
  Slices of truths: copied into new memory, held against another one that is the same, their size.
-/
import Derived.Test.YtjeabgkcmfjjlaaDtInt
namespace Go.Proofs.Ytjeabgkcmfjjlaa
open Go.ChangeShapes Go.WideShapes Go.ChangeAt Go.RowKit

abbrev boolR : Rep Bool := .bool
theorem SlAt.tru {D : Nat → Prop} {w : World} {a : Option Addr} {len : Nat} {xs : List Bool} (h : SlAt boolR D w a len xs) (i : Nat) (hi : i < len) : ∃ b off, a = some ⟨b, off, none⟩ ∧ D b ∧ w.cell? ⟨b, off + i, none⟩ = some (.bool (xs.getD i false)) := by
  have hs := h.size
  obtain ⟨b, off, ha, hd, vs, hv, hc⟩ := h.at i (xs[i]'(by omega)) (List.getElem?_eq_getElem _)
  have hv : vs = [.bool (xs[i]'(by omega))] := hv
  subst hv
  refine ⟨b, off, ha, hd, ?_⟩
  have := hc 0 _ rfl
  rw [List.getD_eq_getElem?_getD, List.getElem?_eq_getElem (by omega)]
  simpa [Rep.bool] using this
theorem SlAt.ofTru {D : Nat → Prop} {w : World} {a : Option Addr} {len : Nat} {xs : List Bool} (hs : xs.length = len) (hr : len ≤ 9223372036854775807) (h : len = 0 ∨ ∃ b off, a = some ⟨b, off, none⟩ ∧ D b ∧ ∀ j, j < len → w.cell? ⟨b, off + j, none⟩ = some (.bool (xs.getD j false))) : SlAt boolR D w a len xs := by
  refine ⟨hs, hr, ?_⟩
  rcases h with h0 | ⟨b, off, ha, hd, hc⟩
  · exact .inl h0
  · refine .inr ⟨b, off, ha, hd, fun i x hx => ⟨[.bool x], rfl, fun j v hv => ?_⟩⟩
    have hi := (List.getElem?_eq_some_iff.1 hx).1
    have := hc i (by omega)
    rw [List.getD_eq_getElem?_getD, hx] at this
    match j, hv with
    | 0, hv =>
      simp at hv
      subst hv
      simpa [Rep.bool] using this
theorem RowAt.tru {w : World} {G len : Nat} {xs : List Bool} (h : RowAt w G len (fun j => .bool (xs.getD j false))) (hs : xs.length = len) (hl : len ≤ 1048576) {D : Nat → Prop} (hd : D G) : SlAt boolR D w (some ⟨G, 0, none⟩) len xs :=
  SlAt.ofTru hs (by omega) (.inr ⟨G, 0, rfl, hd, fun j hj => by rw [Nat.zero_add]; exact (h j hj).1⟩)
theorem info_boo : (Try.prog.info? 4).map (fun i => (i.zero, i.size, i.bytes)) = some (some (.bool false), 1, 1) := by kernel_rfl
theorem rdL_Bool : Reads 26 (.list .bool) := reads_list Try.underlying26 (by kernel_rfl) rd_bool

end Go.Proofs.Ytjeabgkcmfjjlaa
