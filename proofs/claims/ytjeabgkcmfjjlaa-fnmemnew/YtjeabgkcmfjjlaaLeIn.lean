/-
  Two lists of words are held against each other by the laws: what is said.
-/
import Derived.Test.YtjeabgkcmfjjlaaAppE
import Derived.Test.YtjeabgkcmfjjlaaTypSpec
import Derived.Deep.QuietTactic
import Derived.BigQuiet
namespace Go.Proofs.Ytjeabgkcmfjjlaa
open Go.ChangeShapes Go.WideShapes Go.ChangeAt Go.RowKit
set_option linter.unusedVariables false

theorem leInts (a : Option Addr) (la ca : Nat) (xs : List Int) (b : Option Addr) (lb cb : Nat) (ys : List Int) (w : World) {D E : Nat → Prop} (hx : IntsAt D w a la xs) (hy : IntsAt E w b lb ys) :
    Calls Try.prog 14 #[.slice a la ca, .slice b lb cb] w fun e w' => e = .returned (.bool (decide (xs = ys))) ∧ ∃ n, w' = w.drewN n := by
  have hra := hx.room
  have hrb := hy.room
  have HX : Hid (IntsAt D w a la xs) := hx
  have HY : Hid (IntsAt E w b lb ys) := hy
  clear hx hy
  by_cases hl : la = lb
  · subst hl
    have e1 : ((la : Int) != la) = false := by simp
    go_enter Try.func14, Try.ntmps14
    go_wp2_with fail
    go_loopw [5] (fun t wr => ∃ k : Nat, k ≤ la ∧ t = .int .i64 k ∧ (∀ j, j < k → xs.getD j 0 = ys.getD j 0) ∧ ∃ n, wr = w.drewN n) (fun t _ => la - (intOf t).toNat)
    case atStart => exact ⟨0, Nat.zero_le _, rfl, by omega, 0, rfl⟩
    case round =>
      obtain ⟨k, hk, rfl, hu, n, rfl⟩ := hrel
      have HU : Hid (∀ j, j < k → xs.getD j 0 = ys.getD j 0) := hu
      clear hu
      by_cases hlt : k < la
      · obtain ⟨b1, o1, rfl, hc1⟩ : ∃ b off, a = some ⟨b, off, none⟩ ∧ w.cell? ⟨b, off + k, none⟩ = some (.int .i64 (xs.getD k 0)) := by
          rcases HX.out.cells with h0 | ⟨b, off, ha, _, hc⟩
          · omega
          · exact ⟨b, off, ha, hc k hlt⟩
        obtain ⟨b2, o2, rfl, hc2⟩ : ∃ c off, b = some ⟨c, off, none⟩ ∧ w.cell? ⟨c, off + k, none⟩ = some (.int .i64 (ys.getD k 0)) := by
          rcases HY.out.cells with h0 | ⟨c, off, ha, _, hc⟩
          · omega
          · exact ⟨c, off, ha, hc k hlt⟩
        have HK1 : Hid (xs.getD k 0 = xs.getD k 0 ∧ ∀ x, xs.getD k 0 = x → xs.getD k 0 = x) := ⟨rfl, fun _ h => h⟩
        obtain ⟨x, hxk⟩ : ∃ x, x = xs.getD k 0 := ⟨_, rfl⟩
        obtain ⟨y, hyk⟩ : ∃ y, y = ys.getD k 0 := ⟨_, rfl⟩
        rw [← hxk] at hc1
        rw [← hyk] at hc2
        have GX : Hid (x = xs.getD k 0) := hxk
        have GY : Hid (y = ys.getD k 0) := hyk
        clear hxk hyk HK1
        cases hne : (x != y)
        · go_wp2_with fail
          go_quiet (fail)
          go_wp2_with fail
          refine ⟨⟨k + 1, by omega, by go_num, ?_, ?_⟩, by simp [intOf]; omega⟩
          · intro j hj
            by_cases e : j = k
            · subst e
              rw [← GX.out, ← GY.out]; simpa using hne
            · exact HU.out j (by omega)
          · exact ⟨n + nq, rfl⟩
        · have HF : Hid (decide (xs = ys) = false) := by
            show _ = _
            rw [decide_eq_false_iff_not]
            intro e
            rw [bne_iff_ne, GX.out, GY.out, e] at hne
            exact hne rfl
          go_wp2_with fail
          go_quiet (fail)
          go_wp2_with fail
          go_ret
          exact ⟨by rw [HF.out]; rfl, n + nq, by simp⟩
      · have ek : k = la := by omega
        subst ek
        have HF : Hid (decide (xs = ys) = true) := by
          show _ = _
          rw [decide_eq_true_iff]
          exact getD_ext xs ys (by rw [HX.out.size, HY.out.size]) (by rw [HX.out.size]; exact HU.out)
        go_wp2_with fail
        go_ret
        exact ⟨by rw [HF.out]; rfl, _, rfl⟩
  · have e1 : ((la : Int) != lb) = true := by simp; omega
    have HF : Hid (decide (xs = ys) = false) := by
      show _ = _
      rw [decide_eq_false_iff_not]
      intro e
      exact hl (by rw [← HX.out.size, ← HY.out.size, e])
    go_enter Try.func14, Try.ntmps14
    go_wp2_with fail
    go_ret
    exact ⟨by rw [HF.out]; rfl, 0, rfl⟩

end Go.Proofs.Ytjeabgkcmfjjlaa
