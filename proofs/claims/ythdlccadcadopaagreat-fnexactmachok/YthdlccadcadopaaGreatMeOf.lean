/-
  A method at a place of a slice of methods: its parts, where they lie, and what they are read as.
-/
import Derived.Test.YthdlccadcadopaaGreatMethSpec
namespace Go.Proofs.YthdlccadcadopaaGreat
open Go.ChangeShapes Go.WideShapes Go.ChangeAt Go.RowKit

/-- Where a method's parts lie, and what they are read as. -/
structure MeAt (D : Nat → Prop) (w : World) (m : Me) (c s : Int) (args : List Int) (o lo : Int) (X : List In) (Y : List Sh) (Z : List Ca) (aa : Option Addr) (al : Nat) (da : Option Addr) (dl : Nat) (sa : Option Addr) (sl : Nat) (ha : Option Addr) (hl : Nat) : Prop where
  is : m = (c, s, args, o, lo, X, Y, Z)
  args : SlAt intR D w aa al args
  code : SlAt inR D w da dl X
  shapes : SlAt shR D w sa sl Y
  catches : SlAt caR D w ha hl Z
  fc : i64B c
  fs : i64B s
  fo : i64B o
  flo : i64B lo
theorem MeAt.later {D : Nat → Prop} {w w' : World} {m : Me} {c s : Int} {args : List Int} {o lo : Int} {X : List In} {Y : List Sh} {Z : List Ca} {aa : Option Addr} {al : Nat} {da : Option Addr} {dl : Nat} {sa : Option Addr} {sl : Nat} {ha : Option Addr} {hl : Nat}
    (h : MeAt D w m c s args o lo X Y Z aa al da dl sa sl ha hl) (b : Below w.heap.size w w') : MeAt D w' m c s args o lo X Y Z aa al da dl sa sl ha hl :=
  ⟨h.is, h.args.later b, h.code.later b, h.shapes.later b, h.catches.later b, h.fc, h.fs, h.fo, h.flo⟩
theorem meAt {D : Nat → Prop} {w : World} {b off len : Nat} {M : List Me} (h : SlAt meR D w (some ⟨b, off, none⟩) len M) (i : Nat) (hi : i < len) :
    ∃ c s args o lo X Y Z aa al ac da dl dc sa sl sc ha hl hc, MeAt D w (me M i) c s args o lo X Y Z aa al da dl sa sl ha hl ∧ w.cell? ⟨b, off + i * 8, none⟩ = some (.int .i64 c) ∧ w.cell? ⟨b, off + i * 8 + 1, none⟩ = some (.int .i64 s) ∧ w.cell? ⟨b, off + i * 8 + 2, none⟩ = some (.slice aa al ac) ∧ w.cell? ⟨b, off + i * 8 + 3, none⟩ = some (.int .i64 o) ∧ w.cell? ⟨b, off + i * 8 + 4, none⟩ = some (.int .i64 lo) ∧ w.cell? ⟨b, off + i * 8 + 5, none⟩ = some (.slice da dl dc) ∧ w.cell? ⟨b, off + i * 8 + 6, none⟩ = some (.slice sa sl sc) ∧ w.cell? ⟨b, off + i * 8 + 7, none⟩ = some (.slice ha hl hc) := by
  obtain ⟨b', off', ha, _, aa, al, ac, da, dl, dc, sa, sl, sc, ha', hl, hc, m0, m1, m2, m3, m4, m5, m6, m7, h2, h5, h6, h7, b0, b1, b3, b4⟩ := meOf h i hi
  obtain ⟨rfl, rfl⟩ : b = b' ∧ off = off' := by simpa using ha
  exact ⟨_, _, _, _, _, _, _, _, aa, al, ac, da, dl, dc, sa, sl, sc, ha', hl, hc, ⟨rfl, h2, h5, h6, h7, b0, b1, b3, b4⟩, m0, m1, m2, m3, m4, m5, m6, m7⟩
theorem meBlock {D : Nat → Prop} {w : World} {a : Option Addr} {len : Nat} {M : List Me} (h : SlAt meR D w a len M) : ∃ b off, 0 < len → a = some ⟨b, off, none⟩ ∧ b < w.heap.size := by
  by_cases h0 : 0 < len
  · obtain ⟨b, off, ha, _, aa, al, ac, da, dl, dc, sa, sl, sc, ha', hl, hc, m0, _⟩ := meOf h 0 h0
    exact ⟨b, off, fun _ => ⟨ha, World.block_lt_of_cell? w _ m0⟩⟩
  · exact ⟨0, 0, fun h => absurd h h0⟩
theorem later1 {w x : World} {q : Obj} {b j : Nat} {v : Value} (h : Below (w.heap.size + 1) (w.alloc q) x) (hv : w.cell? ⟨b, j, none⟩ = some v) : x.cell? ⟨b, j, none⟩ = some v := by
  have hb := World.block_lt_of_cell? _ _ hv
  rw [(box_below h).cell (p := ⟨b, j, none⟩) hb]
  exact hv

end Go.Proofs.YthdlccadcadopaaGreat
