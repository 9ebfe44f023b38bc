/-
  The reader of a code: at every reader, place and number from 1 on, 'pick' gives a number from 0 to one less, its place is one more, and no other memory is written.
-/
import Derived.Test.YtjbmcdekhhbiaaaGreatRows
import Derived.WalkKit
import Derived.ProofKit
import Derived.OpenShut
import Derived.Below
import Derived.Handy
import Derived.Deep.QuietTactic
import Derived.BigQuiet
import Derived.WalkSmall
namespace Go.Proofs.YtjbmcdekhhbiaaaGreat
open Go.ChangeShapes Go.WideShapes Go.ChangeAt Go.RowKit

theorem xorNat (a b : Nat) (ha : a < 9223372036854775808) (hb : b < 9223372036854775808) :
    bits .xor .i64 (a : Int) (b : Int) = ((a ^^^ b : Nat) : Int) := by
  have hx : a ^^^ b < 2 ^ 63 := Nat.xor_lt_two_pow (by omega) (by omega)
  have h1 : (BitVec.ofInt 64 (a : Int)).toNat = a := by
    rw [BitVec.ofInt_natCast, BitVec.toNat_ofNat]; exact Nat.mod_eq_of_lt (by omega)
  have h2 : (BitVec.ofInt 64 (b : Int)).toNat = b := by
    rw [BitVec.ofInt_natCast, BitVec.toNat_ofNat]; exact Nat.mod_eq_of_lt (by omega)
  show IntKind.i64.wrap ((BitVec.ofInt 64 (a : Int) ^^^ BitVec.ofInt 64 (b : Int)).toNat : Int) = _
  rw [BitVec.toNat_xor, h1, h2]
  simp only [IntKind.wrap, IntKind.bits, IntKind.signed, Bool.true_and, decide_eq_true_eq, ge_iff_le]
  split <;> omega

theorem xorPos (a b : Int) (ha : 0 ≤ a) (ha' : a < 9223372036854775808) (hb : 0 ≤ b) (hb' : b < 9223372036854775808) :
    0 ≤ bits .xor .i64 a b ∧ bits .xor .i64 a b < 9223372036854775808 := by
  obtain ⟨m, rfl⟩ := Int.eq_ofNat_of_zero_le ha
  obtain ⟨k, rfl⟩ := Int.eq_ofNat_of_zero_le hb
  have hx : m ^^^ k < 2 ^ 63 := Nat.xor_lt_two_pow (by omega) (by omega)
  rw [xorNat m k (by omega) (by omega)]
  omega

/-- THE READER 'l6Rd' OF A CODE: block R holds the slice and the place k; all bytes lie below B, in what came in. -/
structure Rd (B : Nat) (w : World) (R k : Nat) : Prop where
  low : B ≤ R
  size : R < w.heap.size
  at0 : w.cell? ⟨R, 1, none⟩ = some (.int .i64 k)
  free : w.frozen? ⟨R, 1, none⟩ = false
  code : ∃ a len cap, w.cell? ⟨R, 0, none⟩ = some (.slice a len cap) ∧ (len = 0 ∨ ∃ (b off : Nat) (f : Nat → Int), a = some ⟨b, off, none⟩ ∧ b < B ∧ len ≤ 2000 ∧ ∀ i, i < len → w.cell? ⟨b, off + i, none⟩ = some (.int .u8 (f i)) ∧ 0 ≤ f i ∧ f i ≤ 255)

/-- A STEP OF THE READER: its place is one more; no other block has turned. -/
structure Stp (B R k : Nat) (w w' : World) : Prop where
  rd : Rd B w' R (k + 1)
  below : Below B w w'
  size : w'.heap.size = w.heap.size
  block : ∀ j, j ≠ R → w'.heap[j]? = w.heap[j]?

theorem Rd.next {B R k : Nat} {w : World} (h : Rd B w R k) (nq : Nat) : Stp B R k w ((w.setCell ⟨R, 1, none⟩ (.int .i64 ((k : Int) + 1))).drewN nq) := by
  refine ⟨⟨h.low, ?_, ?_, ?_, ?_⟩, ?_, ?_, ?_⟩
  · show R < (w.setCell ⟨R, 1, none⟩ (.int .i64 ((k : Int) + 1))).heap.size
    rw [World.size_setCell]; exact h.size
  · show (w.setCell ⟨R, 1, none⟩ (.int .i64 ((k : Int) + 1))).cell? ⟨R, 1, none⟩ = _
    rw [World.cell?_setCell_same w _ _ h.at0, Int.natCast_add]; rfl
  · show (w.setCell ⟨R, 1, none⟩ (.int .i64 ((k : Int) + 1))).frozen? ⟨R, 1, none⟩ = _
    rw [World.frozen?_setCell]; exact h.free
  · obtain ⟨a, len, cap, hc, hr⟩ := h.code
    refine ⟨a, len, cap, ?_, ?_⟩
    · show (w.setCell ⟨R, 1, none⟩ (.int .i64 ((k : Int) + 1))).cell? ⟨R, 0, none⟩ = _
      rw [World.cell?_setCell_other w _ _ _ (by simp)]; exact hc
    · rcases hr with hr | ⟨b, off, f, ha, hb, hl, hf⟩
      · exact .inl hr
      · refine .inr ⟨b, off, f, ha, hb, hl, fun i hi => ?_⟩
        have hlow := h.low
        refine ⟨?_, (hf i hi).2⟩
        show (w.setCell ⟨R, 1, none⟩ (.int .i64 ((k : Int) + 1))).cell? ⟨b, off + i, none⟩ = _
        rw [World.cell?_setCell_other w _ _ _ (by intro e; have := congrArg Addr.block e; simp at this; omega)]; exact (hf i hi).1
  · exact below_drewN ((Below.refl B w).setCell (p := ⟨R, 1, none⟩) h.low _) nq
  · show (w.setCell ⟨R, 1, none⟩ (.int .i64 ((k : Int) + 1))).heap.size = _
    rw [World.size_setCell]
  · intro j hj
    exact Below.heap_setCell w ⟨R, 1, none⟩ _ j hj

/-- WHAT A WALK IS TOLD OF A SLICE OF INTEGERS THAT CAME IN. -/
def IsRow (k : IntKind) (w : World) (a : Option Addr) (len cap : Nat) (zs : List Int) : Prop :=
  (a = none ∧ len = 0 ∧ cap = 0 ∧ zs = []) ∨
  ∃ x, a = some x ∧ len ≤ cap ∧ cap ≤ maxLen ∧ zs.length = cap ∧ (∀ i, i < zs.length → w.cell? (x.add i) = some (.int k (zs.getD i 0))) ∧ ∀ n ∈ zs, (Lit.int k n).wf = true

theorem getD_u8 (zs : List Int) (h : ∀ n ∈ zs, (Lit.int .u8 n).wf = true) (i : Nat) : 0 ≤ zs.getD i 0 ∧ zs.getD i 0 ≤ 255 := by
  rw [List.getD_eq_getElem?_getD]
  cases e : zs[i]? with
  | none => simp
  | some z =>
    have hz := h z (List.mem_of_getElem? e)
    simp only [Lit.wf, IntKind.min, IntKind.max, IntKind.signed, IntKind.bits, Bool.and_eq_true] at hz
    simp at hz
    simp
    omega

/-- The bytes of a slice that came in, at a first part of it. -/
theorem row_bytes {w : World} {a : Option Addr} {len cap : Nat} {zs : List Int} (h : IsRow .u8 w a len cap zs) (m : Nat) (hm : m ≤ len) (hm2 : m ≤ 2000) :
    m = 0 ∨ ∃ (b off : Nat) (f : Nat → Int), a = some ⟨b, off, none⟩ ∧ b < w.heap.size ∧ m ≤ 2000 ∧ ∀ i, i < m → w.cell? ⟨b, off + i, none⟩ = some (.int .u8 (f i)) ∧ 0 ≤ f i ∧ f i ≤ 255 := by
  rcases h with ⟨rfl, rfl, rfl, rfl⟩ | ⟨x, rfl, hl, hc, hz, hcell, hwz⟩
  · exact .inl (by omega)
  · by_cases h0 : m = 0
    · exact .inl h0
    · obtain ⟨b, off, spot⟩ := x
      have hc0 := hcell 0 (by omega)
      have hspot : spot = none := by simpa [Addr.add] using World.cell?_spot hc0
      subst hspot
      refine .inr ⟨b, off, fun i => zs.getD i 0, rfl, ?_, hm2, fun i hi => ⟨?_, getD_u8 zs hwz i⟩⟩
      · exact World.block_lt_of_cell? w _ hc0
      · have hci := hcell i (by omega)
        rwa [Addr.add_lit] at hci
end Go.Proofs.YtjbmcdekhhbiaaaGreat
