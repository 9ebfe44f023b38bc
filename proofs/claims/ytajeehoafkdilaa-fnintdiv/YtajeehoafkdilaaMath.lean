/-
  Words are reckoned with as numbers are, but for a multiple of 256: plain arithmetic of 'wd' and 'doV'.
-/
import Derived.Test.YtajeehoafkdilaaInts
namespace Go.Proofs.Ytajeehoafkdilaa
open Go.RowKit

theorem dec_wd (x : Int) : ∃ q, wd x = x - 256 * q := ⟨(x + 128) / 256, by unfold wd; omega⟩
theorem wd_same {x y : Int} (k : Int) (h : x = y + 256 * k) : wd x = wd y := by unfold wd; omega
theorem wd_mul (a x : Int) : wd (a * wd x) = wd (a * x) := by
  obtain ⟨q, hq⟩ := dec_wd x
  rw [hq]
  exact wd_same (-(a * q)) (by rw [Int.mul_sub, Int.mul_neg, Int.mul_left_comm a 256 q]; omega)
theorem wd_add (x y : Int) : wd (wd x + wd y) = wd (x + y) := by unfold wd; omega
theorem wd_sub (x y : Int) : wd (wd x - y) = wd (x - y) := by unfold wd; omega
theorem doV_word (op a b : Int) : -128 ≤ doV op a b ∧ doV op a b ≤ 127 := by
  unfold doV
  split
  · split
    · exact ⟨wd_lo _, wd_hi _⟩
    · split
      · exact ⟨wd_lo _, wd_hi _⟩
      · split
        · exact ⟨wd_lo _, wd_hi _⟩
        · split
          · exact ⟨wd_lo _, wd_hi _⟩
          · omega
  · omega
theorem tmod_bd (n : Int) : -255 ≤ n.tmod 256 ∧ n.tmod 256 ≤ 255 := by have := tmod_two n; omega
theorem wrap_rest (n : Int) : ((n.tmod 256 - wd n).tmod 256 == 0) = true := by
  have h := tmod_two n
  have h2 := tmod_two (n.tmod 256 - wd n)
  rw [beq_iff_eq]
  unfold wd at *
  omega

end Go.Proofs.Ytajeehoafkdilaa
