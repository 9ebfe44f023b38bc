/-
  How data lie in memory: numbers, truths, slices and structs of such, read as lists and pairs; what stays so while other memory is written.
-/
import Derived.Test.YtjbmcdekhhbiaaaGreatCls
import Derived.Deep.Slices
namespace Go.Proofs.YtjbmcdekhhbiaaaGreat
open Go.ChangeShapes Go.WideShapes Go.ChangeAt Go.RowKit

/-- What values of so many cells are read as; of blocks of which 'D' is so. -/
structure Rep (α : Type) where
  sz : Nat
  holds : (Nat → Prop) → World → List Value → α → Prop
  small : α → Prop
  pos : 0 < sz
  len : ∀ {D : Nat → Prop} {w : World} {vs : List Value} {x : α}, holds D w vs x → vs.length = sz
  keep : ∀ {D : Nat → Prop} {w w' : World} {vs : List Value} {x : α}, holds D w vs x → (∀ b o, D b → b < w.heap.size → w'.cell? ⟨b, o, none⟩ = w.cell? ⟨b, o, none⟩) → holds D w' vs x
  mono : ∀ {D E : Nat → Prop} {w : World} {vs : List Value} {x : α}, holds D w vs x → (∀ b, D b → b < w.heap.size → E b) → holds E w vs x

theorem Rep.later {α : Type} (R : Rep α) {D : Nat → Prop} {w w' : World} {vs : List Value} {x : α} (h : R.holds D w vs x) (b : Below w.heap.size w w') : R.holds D w' vs x :=
  R.keep h fun _ _ _ hl => b.cell hl

/-- A slice of such. -/
structure SlAt {α : Type} (R : Rep α) (D : Nat → Prop) (w : World) (a : Option Addr) (len : Nat) (xs : List α) : Prop where
  size : xs.length = len
  room : len ≤ 9223372036854775807
  cells : len = 0 ∨ ∃ b off, a = some ⟨b, off, none⟩ ∧ D b ∧ ∀ i x, xs[i]? = some x → ∃ vs, R.holds D w vs x ∧ ∀ j v, vs[j]? = some v → w.cell? ⟨b, off + i * R.sz + j, none⟩ = some v

theorem SlAt.keep {α : Type} {R : Rep α} {D : Nat → Prop} {w w' : World} {a : Option Addr} {len : Nat} {xs : List α} (h : SlAt R D w a len xs) (k : ∀ b o, D b → b < w.heap.size → w'.cell? ⟨b, o, none⟩ = w.cell? ⟨b, o, none⟩) : SlAt R D w' a len xs := by
  refine ⟨h.size, h.room, ?_⟩
  rcases h.cells with h0 | ⟨b, off, ha, hd, hc⟩
  · exact .inl h0
  · refine .inr ⟨b, off, ha, hd, fun i x hx => ?_⟩
    obtain ⟨vs, h1, h2⟩ := hc i x hx
    exact ⟨vs, R.keep h1 k, fun j v hv => by rw [k b _ hd (World.block_lt_of_cell? w _ (h2 j v hv))]; exact h2 j v hv⟩
theorem SlAt.later {α : Type} {R : Rep α} {D : Nat → Prop} {w w' : World} {a : Option Addr} {len : Nat} {xs : List α} (h : SlAt R D w a len xs) (b : Below w.heap.size w w') : SlAt R D w' a len xs :=
  h.keep fun _ _ _ hl => b.cell hl
theorem SlAt.mono {α : Type} {R : Rep α} {D E : Nat → Prop} {w : World} {a : Option Addr} {len : Nat} {xs : List α} (h : SlAt R D w a len xs) (k : ∀ b, D b → b < w.heap.size → E b) : SlAt R E w a len xs := by
  refine ⟨h.size, h.room, ?_⟩
  rcases h.cells with h0 | ⟨b, off, ha, hd, hc⟩
  · exact .inl h0
  · by_cases h0 : len = 0
    · exact .inl h0
    · have hs := h.size
      refine .inr ⟨b, off, ha, ?_, fun i x hx => ?_⟩
      · obtain ⟨vs, h1, h2⟩ := hc 0 (xs[0]'(by omega)) (List.getElem?_eq_getElem _)
        have hp := R.pos
        have hl := R.len h1
        exact k b hd (World.block_lt_of_cell? w _ (h2 0 (vs[0]'(by omega)) (List.getElem?_eq_getElem _)))
      · obtain ⟨vs, h1, h2⟩ := hc i x hx
        exact ⟨vs, R.mono h1 k, h2⟩

/-- Numbers, truths, slices, pairs. -/
def Rep.int : Rep Int where
  sz := 1
  holds := fun _ _ vs x => vs = [.int .i64 x] ∧ i64B x
  small := fun _ => True
  pos := by decide
  len := by rintro _ _ _ _ ⟨rfl, _⟩; rfl
  keep := by rintro _ _ _ _ _ h _; exact h
  mono := by rintro _ _ _ _ _ h _; exact h
def Rep.bool : Rep Bool where
  sz := 1
  holds := fun _ _ vs x => vs = [.bool x]
  small := fun _ => True
  pos := by decide
  len := by rintro _ _ _ _ rfl; rfl
  keep := by rintro _ _ _ _ _ h _; exact h
  mono := by rintro _ _ _ _ _ h _; exact h
def Rep.list {α : Type} (R : Rep α) : Rep (List α) where
  sz := 1
  holds := fun D w vs xs => ∃ a len cap, vs = [.slice a len cap] ∧ SlAt R D w a len xs
  small := fun xs => xs.length ≤ 1048576 ∧ ∀ x ∈ xs, R.small x
  pos := by decide
  len := by rintro _ _ _ _ ⟨_, _, _, rfl, _⟩; rfl
  keep := by rintro _ _ _ _ _ ⟨a, l, c, e, h⟩ k; exact ⟨a, l, c, e, h.keep k⟩
  mono := by rintro _ _ _ _ _ ⟨a, l, c, e, h⟩ k; exact ⟨a, l, c, e, h.mono k⟩
def Rep.pair {α β : Type} (R : Rep α) (S : Rep β) : Rep (α × β) where
  sz := R.sz + S.sz
  holds := fun D w vs x => ∃ us ws, vs = us ++ ws ∧ R.holds D w us x.1 ∧ S.holds D w ws x.2
  small := fun x => R.small x.1 ∧ S.small x.2
  pos := by have := R.pos; omega
  len := by rintro _ _ _ _ ⟨us, ws, rfl, h1, h2⟩; rw [List.length_append, R.len h1, S.len h2]
  keep := by rintro _ _ _ _ _ ⟨us, ws, e, h1, h2⟩ k; exact ⟨us, ws, e, R.keep h1 k, S.keep h2 k⟩
  mono := by rintro _ _ _ _ _ ⟨us, ws, e, h1, h2⟩ k; exact ⟨us, ws, e, R.mono h1 k, S.mono h2 k⟩

/-- An element of a slice. -/
theorem SlAt.at {α : Type} {R : Rep α} {D : Nat → Prop} {w : World} {a : Option Addr} {len : Nat} {xs : List α} (h : SlAt R D w a len xs) (i : Nat) (x : α) (hx : xs[i]? = some x) :
    ∃ b off, a = some ⟨b, off, none⟩ ∧ D b ∧ ∃ vs, R.holds D w vs x ∧ ∀ j v, vs[j]? = some v → w.cell? ⟨b, off + i * R.sz + j, none⟩ = some v := by
  have hi : i < xs.length := (List.getElem?_eq_some_iff.1 hx).1
  rw [h.size] at hi
  rcases h.cells with h0 | ⟨b, off, ha, hd, hc⟩
  · omega
  · exact ⟨b, off, ha, hd, hc i x hx⟩

abbrev intR : Rep Int := .int
abbrev clR : Rep Cl := .pair .int (.list .int)
abbrev In := Int × Int × Int
abbrev inR : Rep In := .pair .int (.pair .int .int)
abbrev Sh := Bool × List Int × List Int
abbrev shR : Rep Sh := .pair .bool (.pair (.list .int) (.list .int))
abbrev Ca := Int × Int × Int × Int
abbrev caR : Rep Ca := .pair .int (.pair .int (.pair .int .int))
abbrev Me := Int × Int × List Int × Int × Int × List In × List Sh × List Ca
abbrev meR : Rep Me := .pair .int (.pair .int (.pair (.list .int) (.pair .int (.pair .int (.pair (.list inR) (.pair (.list shR) (.list caR)))))))
abbrev Un := List Cl × List Me
abbrev unR : Rep Un := .pair (.list clR) (.list meR)
abbrev Vl := Bool × Int
abbrev vaR : Rep Vl := .pair .bool .int
abbrev Ob := Int × List Vl
abbrev obR : Rep Ob := .pair .int (.list vaR)

/-- The elder readings of ints and of classes. -/
theorem SlAt.ints {D : Nat → Prop} {w : World} {a : Option Addr} {len : Nat} {xs : List Int} (h : SlAt .int D w a len xs) : IntsAt D w a len xs := by
  have hs := h.size
  refine ⟨h.size, h.room, ?_, fun j => ?_⟩
  · rcases h.cells with h0 | ⟨b, off, ha, hd, hc⟩
    · exact .inl h0
    · refine .inr ⟨b, off, ha, hd, fun j hj => ?_⟩
      obtain ⟨vs, ⟨rfl, _⟩, h2⟩ := hc j (xs[j]'(by omega)) (List.getElem?_eq_getElem _)
      have := h2 0 _ rfl
      rw [List.getD_eq_getElem?_getD, List.getElem?_eq_getElem (by omega)]
      simpa [Rep.int] using this
  · rw [List.getD_eq_getElem?_getD]
    cases e : xs[j]? with
    | none => simp
    | some x =>
      rcases h.cells with h0 | ⟨b, off, _, _, hc⟩
      · have := (List.getElem?_eq_some_iff.1 e).1
        omega
      · obtain ⟨vs, ⟨_, hb⟩, _⟩ := hc j x e
        exact hb
theorem IntsAt.sl {D : Nat → Prop} {w : World} {a : Option Addr} {len : Nat} {xs : List Int} (h : IntsAt D w a len xs) : SlAt .int D w a len xs := by
  refine ⟨h.size, h.room, ?_⟩
  rcases h.cells with h0 | ⟨b, off, ha, hd, hc⟩
  · exact .inl h0
  · refine .inr ⟨b, off, ha, hd, fun i x hx => ⟨[.int .i64 x], ⟨rfl, ?_⟩, fun j v hv => ?_⟩⟩
    · have := h.fits i
      rw [List.getD_eq_getElem?_getD, hx] at this
      exact this
    · have hi := (List.getElem?_eq_some_iff.1 hx).1
      rw [h.size] at hi
      have := hc i hi
      rw [List.getD_eq_getElem?_getD, hx] at this
      match j, hv with
      | 0, hv =>
        simp at hv
        subst hv
        simpa [Rep.int] using this
theorem SlAt.cls {D : Nat → Prop} {w : World} {a : Option Addr} {len : Nat} {L : List Cl} (h : SlAt clR D w a len L) : ClsAt D D w a len L := by
  have hs := h.size
  refine ⟨h.size, h.room, ?_, fun i => ?_⟩
  · rcases h.cells with h0 | ⟨b, off, ha, hd, hc⟩
    · exact .inl h0
    · refine .inr ⟨b, off, ha, hd, fun i hi => ?_⟩
      obtain ⟨vs, ⟨us, ws, rfl, ⟨rfl, _⟩, fa, fl, fc, rfl, hI⟩, h2⟩ := hc i (L[i]'(by omega)) (List.getElem?_eq_getElem _)
      have e : cl L i = L[i]'(by omega) := by rw [cl, List.getD_eq_getElem?_getD, List.getElem?_eq_getElem (by omega)]; rfl
      rw [e]
      have c0 := h2 0 _ rfl
      have c1 := h2 1 _ rfl
      exact ⟨by simpa [Rep.int, Rep.pair, Rep.list] using c0, fa, fl, fc, by simpa [Rep.int, Rep.pair, Rep.list] using c1, hI.ints⟩
  · rw [cl, List.getD_eq_getElem?_getD]
    cases e : L[i]? with
    | none => simp
    | some x =>
      rcases h.cells with h0 | ⟨b, off, _, _, hc⟩
      · have := (List.getElem?_eq_some_iff.1 e).1
        omega
      · obtain ⟨vs, ⟨us, ws, _, ⟨_, hb⟩, _⟩, _⟩ := hc i x e
        exact hb
theorem ClsAt.sl {D : Nat → Prop} {w : World} {a : Option Addr} {len : Nat} {L : List Cl} (h : ClsAt D D w a len L) : SlAt clR D w a len L := by
  refine ⟨h.size, h.room, ?_⟩
  rcases h.cells with h0 | ⟨b, off, ha, hd, hc⟩
  · exact .inl h0
  · refine .inr ⟨b, off, ha, hd, fun i x hx => ?_⟩
    have hi := (List.getElem?_eq_some_iff.1 hx).1
    rw [h.size] at hi
    have e : cl L i = x := by rw [cl, List.getD_eq_getElem?_getD, hx]; rfl
    obtain ⟨h1, fa, fl, fc, h2, h3⟩ := hc i hi
    have h4 := h.fits i
    rw [e] at h1 h3 h4
    refine ⟨[.int .i64 x.1, .slice fa fl fc], ⟨[.int .i64 x.1], [.slice fa fl fc], rfl, ⟨rfl, h4⟩, fa, fl, fc, rfl, h3.sl⟩, fun j v hv => ?_⟩
    match j, hv with
    | 0, hv =>
      simp at hv
      subst hv
      simpa [Rep.int, Rep.pair, Rep.list] using h1
    | 1, hv =>
      simp at hv
      subst hv
      simpa [Rep.int, Rep.pair, Rep.list] using h2

end Go.Proofs.YtjbmcdekhhbiaaaGreat
