/-
  Truths of the call's own are marked, and held against their marks.
-/
import Derived.Test.YtjbmcdekhhbiaaaGreatMrk
import Derived.Test.YtjbmcdekhhbiaaaGreatDtBool
namespace Go.Proofs.YtjbmcdekhhbiaaaGreat
open Go.ChangeShapes Go.WideShapes Go.ChangeAt Go.RowKit

theorem markLBool (a : Option Addr) (n c : Nat) (k : Int) (w : World) {D : Nat → Prop} (h : SlP boolR D w a n) (hz : Thw D w) (k0 : 0 ≤ k) (k1 : k ≤ 4611686018427387904) :
    Calls Tryz.prog 41 #[.slice a n c, .int .i64 k] w fun e w' => MarkP D w k 1048576 e w' := by
  have hn := h.few
  have H : Hid (SlP boolR D w a n) := h
  have HZ : Hid (Thw D w) := hz
  clear h hz
  go_enter Tryz.func41, Tryz.ntmps41
  go_wp2_with fail
  go_loopw [1, 5] (fun s t wr => ∃ i : Nat, i ≤ n ∧ t = .int .i64 i ∧ s = .int .i64 (k + i) ∧ Mkd D w wr) (fun _ t _ => n - (intOf t).toNat)
  case atStart => exact ⟨0, Nat.zero_le _, rfl, by simp, Mkd.refl _ _⟩
  case round =>
    obtain ⟨i, hi, rfl, rfl, hm⟩ := hrel
    have HM : Hid (Mkd D w wr) := hm
    clear hm
    by_cases hlt : i < n
    · obtain ⟨b, off, rfl, hd, z, hc⟩ : ∃ b off, a = some ⟨b, off, none⟩ ∧ D b ∧ ∃ z, wr.cell? ⟨b, off + i, none⟩ = some (.bool z) := by
        rcases (H.out.sty sts_bool HM.out.sty).rows with h0 | ⟨b, off, ha, hd, hr⟩
        · omega
        · obtain ⟨z, hz⟩ := (hr i hlt).bool
          exact ⟨b, off, ha, hd, z, by simpa [Rep.bool] using hz⟩
      have hf := (HZ.out.mkd HM.out) b (off + i) hd
      have hk3 : 0 ≤ k + (i : Int) := by omega
      have HM2 : Hid (Mkd D w (wr.setCell ⟨b, off + i, none⟩ (.bool ((k + (i : Int)) % 3 == 0)))) := HM.out.setB _ _ hd ⟨z, hc⟩
      go_wp2_with fail
      exact ⟨⟨i + 1, by omega, by go_num, by rw [show k + (i : Int) + 1 = k + ((i + 1 : Nat) : Int) by omega], HM2.out⟩, by simp [intOf]; omega⟩
    · have ei : i = n := by omega
      subst ei
      go_wp2_with fail
      go_ret
      exact ⟨_, rfl, by omega, by omega, HM.out⟩

/-- A list of truths in memory that may be written. -/
structure WriB (w : World) (a : Option Addr) (n : Nat) (f : Nat → Bool) : Prop where
  cells : n = 0 ∨ ∃ b off, a = some ⟨b, off, none⟩ ∧ ∀ j, j < n → w.cell? ⟨b, off + j, none⟩ = some (.bool (f j)) ∧ w.frozen? ⟨b, off + j, none⟩ = false
theorem WriB.keep {w w' : World} {n : Nat} {a : Option Addr} {f : Nat → Bool} {D : Nat → Prop} (h : WriB w a n f) (c : Chg D w w') (hS : ∀ x, a = some x → 0 < n → ¬ D x.block) : WriB w' a n f := by
  rcases h.cells with h0 | ⟨g, off, rfl, hc⟩
  · exact ⟨.inl h0⟩
  · refine ⟨.inr ⟨g, off, rfl, fun j hj => ?_⟩⟩
    have hl := World.block_lt_of_cell? w _ (hc j hj).1
    have hn := hS _ rfl (by omega)
    exact ⟨by rw [c.cell g _ hl hn]; exact (hc j hj).1, by rw [c.frozen g _ hl hn]; exact (hc j hj).2⟩
theorem WriB.later {w w' : World} {n : Nat} {a : Option Addr} {f : Nat → Bool} (h : WriB w a n f) (b : Below w.heap.size w w') : WriB w' a n f := by
  rcases h.cells with h0 | ⟨g, off, ha, hc⟩
  · exact ⟨.inl h0⟩
  · refine ⟨.inr ⟨g, off, ha, fun j hj => ?_⟩⟩
    have hl := World.block_lt_of_cell? w _ (hc j hj).1
    exact ⟨by rw [b.cell hl]; exact (hc j hj).1, by rw [b.frozen hl]; exact (hc j hj).2⟩
theorem WriB.sl {w : World} {n : Nat} {a : Option Addr} {xs : List Bool} (h : WriB w a n (fun j => xs.getD j false)) (hs : xs.length = n) (hn : n ≤ 1048576) : SlAt boolR (fun _ => True) w a n xs :=
  SlAt.ofTru hs (by omega) (by
    rcases h.cells with h0 | ⟨g, off, ha, hc⟩
    · exact .inl h0
    · exact .inr ⟨g, off, ha, trivial, fun j hj => (hc j hj).1⟩)
theorem markOwnB (a : Option Addr) (n c : Nat) (k : Int) (f : Nat → Bool) (w : World) (h : WriB w a n f) (hn : n ≤ 1048576) (k0 : 0 ≤ k) (k1 : k ≤ 4000000000000) :
    Calls Tryz.prog 41 #[.slice a n c, .int .i64 k] w fun e w' => e = .returned (.int .i64 (k + n)) ∧ WriB w' a n (fun j => (k + (j : Int)) % 3 == 0) ∧ Chg (fun i => ∃ x, a = some x ∧ x.block = i ∧ 0 < n) w w' := by
  by_cases hn0 : n = 0
  · subst hn0
    go_enter Tryz.func41, Tryz.ntmps41
    go_wp2_with fail
    refine wp_loop_rounds 1 ?_
    rw [rounds_succ]
    go_wp2_with fail
    go_ret
    exact ⟨by simp, ⟨.inl rfl⟩, Chg.refl _ _⟩
  · obtain ⟨b, off, rfl, hc⟩ : ∃ b off, a = some ⟨b, off, none⟩ ∧ ∀ j, j < n → w.cell? ⟨b, off + j, none⟩ = some (.bool (f j)) ∧ w.frozen? ⟨b, off + j, none⟩ = false := by
      rcases h.cells with h0 | h0
      · omega
      · exact h0
    have HC : Hid (∀ j, j < n → w.cell? ⟨b, off + j, none⟩ = some (.bool (f j)) ∧ w.frozen? ⟨b, off + j, none⟩ = false) := hc
    clear h hc
    go_enter Tryz.func41, Tryz.ntmps41
    go_wp2_with fail
    go_loopw [1, 5] (fun s t wr => ∃ i : Nat, i ≤ n ∧ t = .int .i64 i ∧ s = .int .i64 (k + i) ∧ (∀ j, j < n → wr.cell? ⟨b, off + j, none⟩ = some (.bool (if j < i then ((k + (j : Int)) % 3 == 0) else f j)) ∧ wr.frozen? ⟨b, off + j, none⟩ = false) ∧ Chg (fun i => i = b) w wr) (fun _ t _ => n - (intOf t).toNat)
    case atStart => exact ⟨0, Nat.zero_le _, rfl, by simp, fun j hj => by simpa using HC.out j hj, Chg.refl _ _⟩
    case round =>
      obtain ⟨i, hi, rfl, rfl, hr, hch⟩ := hrel
      have HR : Hid (∀ j, j < n → wr.cell? ⟨b, off + j, none⟩ = some (.bool (if j < i then ((k + (j : Int)) % 3 == 0) else f j)) ∧ wr.frozen? ⟨b, off + j, none⟩ = false) := hr
      have HCh : Hid (Chg (fun i => i = b) w wr) := hch
      clear hr hch
      by_cases hlt : i < n
      · have c1 := (HR.out i hlt).1
        have c2 := (HR.out i hlt).2
        rw [if_neg (by omega)] at c1
        generalize f i = y at c1
        have hk3 : 0 ≤ k + (i : Int) := by omega
        have FIN : Hid (∀ j, j < n → (wr.setCell ⟨b, off + i, none⟩ (.bool ((k + (i : Int)) % 3 == 0))).cell? ⟨b, off + j, none⟩ = some (.bool (if j < i + 1 then ((k + (j : Int)) % 3 == 0) else f j)) ∧ (wr.setCell ⟨b, off + i, none⟩ (.bool ((k + (i : Int)) % 3 == 0))).frozen? ⟨b, off + j, none⟩ = false) := fun j hj => by
          refine ⟨?_, by rw [World.frozen?_setCell]; exact (HR.out j hj).2⟩
          by_cases e : j = i
          · subst e
            rw [World.cell?_setCell_same wr _ _ (HR.out j hj).1, if_pos (by omega)]
          · rw [World.cell?_setCell_other wr _ _ _ (by intro e'; have := congrArg Addr.off e'; simp at this; omega), (HR.out j hj).1]
            by_cases e2 : j < i
            · rw [if_pos e2, if_pos (by omega)]
            · rw [if_neg e2, if_neg (by omega)]
        go_wp2_with fail
        refine ⟨⟨i + 1, by omega, by go_num, ?_, FIN.out, HCh.out.trans (Chg.set (D := fun i => i = b) _ _ _ rfl) (fun _ _ h => h)⟩, by simp [intOf]; omega⟩
        rw [show k + (i : Int) + 1 = k + ((i + 1 : Nat) : Int) by omega]
      · have ei : i = n := by omega
        subst ei
        go_wp2_with fail
        go_ret
        refine ⟨rfl, ⟨.inr ⟨b, off, rfl, fun j hj => ?_⟩⟩, (Chg.refl _ _).trans HCh.out (fun j _ e => ⟨_, rfl, e.symm, by omega⟩)⟩
        have := HR.out j hj
        rwa [if_pos hj] at this
theorem heldOwnB (a : Option Addr) (n c : Nat) (k : Int) (w : World) (h : WriB w a n (fun j => (k + (j : Int)) % 3 == 0)) (hn : n ≤ 1048576) (k0 : 0 ≤ k) (k1 : k ≤ 4000000000000) :
    Calls Tryz.prog 43 #[.slice a n c, .int .i64 k] w fun e w' => e = .returned (.int .i64 (k + n)) ∧ w = w' := by
  have HC : Hid (WriB w a n (fun j => (k + (j : Int)) % 3 == 0)) := h
  clear h
  go_enter Tryz.func43, Tryz.ntmps43
  go_wp2_with fail
  go_loop [1, 5] (fun s t => ∃ i : Nat, i ≤ n ∧ t = .int .i64 i ∧ s = .int .i64 (k + i)) (fun _ t => n - (intOf t).toNat)
  case atStart => exact ⟨0, Nat.zero_le _, rfl, by simp⟩
  case round =>
    obtain ⟨i, hi, rfl, rfl⟩ := hrel
    by_cases hlt : i < n
    · obtain ⟨b, off, rfl, hc⟩ : ∃ b off, a = some ⟨b, off, none⟩ ∧ w.cell? ⟨b, off + i, none⟩ = some (.bool ((k + (i : Int)) % 3 == 0)) := by
        rcases HC.out.cells with h0 | ⟨b, off, ha, hc⟩
        · omega
        · exact ⟨b, off, ha, (hc i hlt).1⟩
      have hk3 : 0 ≤ k + (i : Int) := by omega
      have e1 : (((k + (i : Int)) % 3 == 0) != ((k + (i : Int)) % 3 == 0)) = false := by simp
      go_wp2_with fail
      exact ⟨⟨i + 1, by omega, by go_num, by rw [show k + (i : Int) + 1 = k + ((i + 1 : Nat) : Int) by omega]⟩, by simp [intOf]; omega⟩
    · have ei : i = n := by omega
      subst ei
      go_wp2_with fail
      go_ret
      exact ⟨rfl, rfl⟩

end Go.Proofs.YtjbmcdekhhbiaaaGreat
