/-
  A slice of classes that came in is read as a list of classes.
-/
import Derived.Test.YtjbmcdekhhbiaaaGreatEqCls
import Derived.ProofKit
import Derived.OpenShut
import Derived.ChangeOld
import Derived.Deep.SlicePairs
namespace Go.Proofs.YtjbmcdekhhbiaaaGreat
open Go.ChangeShapes Go.WideShapes Go.ChangeAt Go.RowKit

theorem own : ownKnob Tryz.prog.godebug = none := by kernel_rfl
theorem laidOut : laidOutB Tryz.prog = true := by kernel_rfl

theorem fits_i64 {n : Int} (h : (Lit.int .i64 n).wf = true) : -9223372036854775808 ≤ n ∧ n ≤ 9223372036854775807 := by
  simp only [Lit.wf, IntKind.min, IntKind.max, IntKind.signed, IntKind.bits, Bool.and_eq_true] at h
  simp at h
  omega

/-- A slice of ints that came in. -/
theorem intsOf {H : Type} {enc : TypeId × Value → H} {W : World} {v : Value} {fuel : Nat} {x : DataW H × List MemPlace} (h : DataW.trod enc Tryz.prog W 0 (fun _ => true) true fuel 23 [v] = some x) :
    ∃ a len cap xs, v = .slice a len cap ∧ IntsAt (fun _ => True) W a len xs := by
  rcases open_ints Tryz.underlying23 Tryz.underlying3 (by kernel_rfl) h with ⟨hcs, _⟩ | ⟨a, len, cap, zs, hcs, _, hl, hm, hz, _, hcell, hwz⟩
  · simp at hcs
    exact ⟨none, 0, 0, [], hcs, rfl, by omega, .inl rfl, fun j => by simp⟩
  · simp at hcs
    simp at hz
    unfold maxLen at hm
    have hz0 : ∀ j, -9223372036854775808 ≤ zs.getD j 0 ∧ zs.getD j 0 ≤ 9223372036854775807 := by
      intro j
      rw [List.getD_eq_getElem?_getD]
      cases e : zs[j]? with
      | none => simp
      | some z => simpa using fits_i64 (hwz z (List.mem_of_getElem? e))
    have hget : ∀ j, j < len → (zs.take len).getD j 0 = zs.getD j 0 := by
      intro j hj
      rw [List.getD_eq_getElem?_getD, List.getD_eq_getElem?_getD, List.getElem?_take_of_lt hj]
    refine ⟨some a, len, cap, zs.take len, hcs, by rw [List.length_take]; omega, by omega, ?_, ?_⟩
    · by_cases h0 : len = 0
      · exact .inl h0
      · obtain ⟨b, off, spot⟩ := a
        have hspot : spot = none := by simpa [Addr.add] using World.cell?_spot (hcell 0 (by omega))
        subst hspot
        refine .inr ⟨b, off, rfl, trivial, fun j hj => ?_⟩
        have := hcell j (by omega)
        rw [Addr.add_lit] at this
        rw [this, hget j hj]
    · intro j
      by_cases hj : j < len
      · rw [hget j hj]; exact hz0 j
      · rw [List.getD_eq_getElem?_getD, List.getElem?_eq_none (by rw [List.length_take]; omega)]; simp

theorem cells_lcls : Tryz.prog.cellsOf 50 = 2 := by kernel_rfl
theorem cells_ints : Tryz.prog.cellsOf 23 = 1 := by kernel_rfl
theorem cells_int : Tryz.prog.cellsOf 3 = 1 := by kernel_rfl

/-- A slice of classes that came in. -/
theorem clsOf {H : Type} {enc : TypeId × Value → H} {W : World} {v : Value} {d : DataW H} {p : List MemPlace} (h : DataW.Trod enc Tryz.prog W 0 (fun _ => true) true 22 v d p) (hv : ∃ a len cap, v = .slice a len cap) :
    ∃ a len cap L, v = .slice a len cap ∧ ClsAt (fun _ => True) (fun _ => True) W a len L := by
  obtain ⟨a0, len0, cap0, rfl⟩ := hv
  obtain ⟨fuel, hf⟩ := h
  rcases Go.Deep.open_slice_pairs Tryz.underlying22 Tryz.underlying50 cells_lcls rfl rfl cells_int cells_ints hf with ⟨hcs, _⟩ | ⟨a, len, cap, m, n, V0, V1, D0, D1, P0, P1, hcs, _, hl, hm, hmm, _, hx⟩
  · simp [Value.cells] at hcs
    obtain ⟨rfl, rfl, rfl⟩ := hcs
    exact ⟨none, 0, 0, [], rfl, rfl, by omega, .inl rfl, fun i => by simp [cl]⟩
  · simp [Value.cells] at hcs
    obtain ⟨rfl, rfl, rfl⟩ := hcs
    simp at hmm
    subst hmm
    unfold maxLen at hm
    obtain ⟨K, hK⟩ := Go.Deep.choose_lt (n := m) (α := Cl × Option Addr × Nat × Nat) (p := fun i k => W.cell? (a.add (i * 2)) = some (.int .i64 k.1.1) ∧ (-9223372036854775808 ≤ k.1.1 ∧ k.1.1 ≤ 9223372036854775807) ∧ W.cell? (a.add (i * 2 + 1)) = some (.slice k.2.1 k.2.2.1 k.2.2.2) ∧ IntsAt (fun _ => True) W k.2.1 k.2.2.1 k.1.2) (fun i hi => by
      obtain ⟨h1, h2, h3, h4⟩ := hx i hi
      obtain ⟨x, e0, _, wx⟩ := DataW.trod_int Tryz.underlying3 h3
      obtain ⟨fa, fl, fc, xs, e1, hI⟩ := intsOf h4
      simp at e0
      rw [e0] at h1
      rw [e1] at h2
      exact ⟨((x, xs), fa, fl, fc), h1, fits_i64 wx, h2, hI⟩)
    have hget : ∀ i, i < len0 → cl ((List.range len0).map fun i => (K i).1) i = (K i).1 := by
      intro i hi
      rw [cl, List.getD_eq_getElem?_getD, List.getElem?_map, List.getElem?_range hi]; rfl
    refine ⟨some a, len0, m, (List.range len0).map fun i => (K i).1, rfl, by simp, by omega, ?_, ?_⟩
    · by_cases h0 : len0 = 0
      · exact .inl h0
      · obtain ⟨b, off, spot⟩ := a
        have hspot : spot = none := by
          have := (hK 0 (by omega)).1
          rw [Nat.zero_mul] at this
          simpa [Addr.add] using World.cell?_spot this
        subst hspot
        refine .inr ⟨b, off, rfl, trivial, fun i hi => ?_⟩
        obtain ⟨h1, _, h2, h3⟩ := hK i (by omega)
        rw [Addr.add_lit] at h1 h2
        rw [hget i hi]
        exact ⟨h1, _, _, _, h2, h3⟩
    · intro i
      by_cases hi : i < len0
      · rw [hget i hi]; exact (hK i (by omega)).2.1
      · rw [cl, List.getD_eq_getElem?_getD, List.getElem?_eq_none (by simp; omega)]; simp

end Go.Proofs.YtjbmcdekhhbiaaaGreat
