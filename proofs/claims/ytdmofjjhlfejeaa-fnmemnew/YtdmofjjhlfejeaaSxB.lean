/-
  What is owned, read, or told stays so in later memory, and while other blocks are written.
-/
import Derived.Test.YtdmofjjhlfejeaaAppI
import Derived.Test.YtdmofjjhlfejeaaFlatV
namespace Go.Proofs.Ytdmofjjhlfejeaa
open Go.ChangeShapes Go.WideShapes Go.ChangeAt Go.RowKit

theorem own_later {w y : World} {base : Nat} {e : TypeId} {size n : Nat} {v : Value} {xs : List Value} (h : w.ownsRow base e size v n xs) (hy : Below w.heap.size w y) : y.ownsRow base e size v n xs :=
  own_keep' h fun b hb => hy.block b (own_lt' h b hb)
theorem own_box {w : World} {b base : Nat} (xs : List Int) (hx : w.heap[b]? = some (.cells (xs.map (Value.int .i64)).toArray 3 (0, 0))) (hb : base ≤ b) (hl : xs.length ≤ 1000000) : w.ownsRow base 3 1 (.slice (some ⟨b, 0, none⟩) xs.length xs.length) xs.length (xs.map (Value.int .i64)) :=
  ⟨by simp, .inr ⟨b, xs.length, _, rfl, hb, hx, Nat.le_refl _, by unfold maxLen; omega, by simp, by rw [Nat.mul_one]; exact List.take_of_length_le (by simp)⟩⟩
theorem IntsAt.set {D : Nat → Prop} {w : World} {a : Option Addr} {len : Nat} {xs : List Int} (h : IntsAt D w a len xs) (p : Addr) (v : Value) (hp : ¬ D p.block) : IntsAt D (w.setCell p v) a len xs :=
  h.keep fun b o hb _ => World.cell?_setCell_other _ _ _ _ (by intro e; exact hp (by rw [e]; exact hb))
theorem own_setb {w : World} {base : Nat} {e : TypeId} {size n : Nat} {v : Value} {xs : List Value} (h : w.ownsRow base e size v n xs) (p : Addr) (u : Value) (hp : v.ownBlock ≠ some p.block) : (w.setCell p u).ownsRow base e size v n xs :=
  own_keep' h fun b hb => Below.heap_setCell _ _ _ _ (by intro e; exact hp (by rw [hb, e]))
theorem own_sl {w : World} {base : Nat} {e : TypeId} {size n : Nat} {v : Value} {xs : List Value} (h : w.ownsRow base e size v n xs) : ∃ a c, v = .slice a n c := by
  rcases h.2 with ⟨rfl, rfl⟩ | ⟨g, cap, cur, rfl, _⟩
  · exact ⟨_, _, rfl⟩
  · exact ⟨_, _, rfl⟩
theorem nat_beq (a b : Nat) : ((a : Int) == (b : Int)) = (a == b) := by rw [Bool.eq_iff_iff]; simp; omega

end Go.Proofs.Ytdmofjjhlfejeaa
