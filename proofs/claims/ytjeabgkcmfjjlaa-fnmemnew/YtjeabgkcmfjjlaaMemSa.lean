/-
  The specification's small functions on memories: what they say of words; they write nothing that was there.
-/
import Derived.Test.YtjeabgkcmfjjlaaMemM
import Derived.Test.YtjeabgkcmfjjlaaSxB
namespace Go.Proofs.Ytjeabgkcmfjjlaa
open Go.ChangeShapes Go.WideShapes Go.ChangeAt Go.RowKit
set_option linter.unusedVariables false

theorem cardsSpec (n : Int) (h0 : -1000000000 ≤ n) (h1 : n ≤ 1000000000000) (w : World) : Calls Try.prog 16 #[.int .i64 n] w fun e w' => e = .returned (.int .i64 (crd n)) ∧ w = w' := by
  have HF : Hid (crd n = (n + 3).tdiv 4) := rfl
  go_enter Try.func16, Try.ntmps16
  go_wp2_with fail
  go_ret
  refine ⟨?_, rfl⟩
  rw [HF.out, show n + 3 = n + 4 - 1 by omega]
  rfl
theorem fldT_cls {L : List Cl} (ok : clsOk L = true) {c : Nat} (hc : c < L.length) : ∀ t ∈ (cl L c).2, fieldB L.length t = true := by
  unfold clsOk at ok
  simp only [Bool.and_eq_true] at ok
  have := List.all_eq_true.1 ok.2 c (List.mem_range.2 hc)
  unfold classB at this
  simp only [Bool.and_eq_true] at this
  exact fun t ht => List.all_eq_true.1 this.1 t ht
theorem fldT_fld {L : List Cl} (ok : clsOk L = true) : ∀ (c : Nat), c < L.length → ∀ t ∈ fld L c, fieldB L.length t = true := by
  intro c
  induction c using Nat.strongRecOn with
  | ind c ih =>
    intro hl t ht
    by_cases h0 : c = 0
    · subst h0; simp [fld_zero] at ht
    · rw [fld_step ok c hl (by omega)] at ht
      rcases List.mem_append.1 ht with h | h
      · have hs := (sup_lt ok c (by omega) hl).1
        exact ih _ hs (by omega) t h
      · exact fldT_cls ok hl t h
theorem fldT_rng {L : List Cl} (ok : clsOk L = true) {c : Nat} (hc : c < L.length) : ∀ t ∈ fld L c, 1 ≤ t ∧ t ≤ 12 := fun t ht => by
  have h := fldT_fld ok c hc t ht
  have h2 := ok_len ok
  unfold fieldB at h
  simp at h
  omega
theorem fldT_fits {L : List Cl} (ok : clsOk L = true) {c : Nat} (hc : c < L.length) : ∀ j, -9223372036854775808 ≤ (fld L c).getD j 0 ∧ (fld L c).getD j 0 ≤ 9223372036854775807 := fits_lit fun t ht => by
  have := fldT_rng ok hc t ht
  omega
theorem typ_rng {L : List Cl} (ok : clsOk L = true) {x n : Int} (h : isT L x n = true) : ∀ t ∈ typ L x n, 1 ≤ t ∧ t ≤ 12 := fun t ht => by
  unfold typ at ht
  unfold isT at h
  by_cases h1 : x = -1
  · rw [if_pos h1] at ht; obtain ⟨_, rfl⟩ := List.mem_replicate.1 ht; omega
  · rw [if_neg h1] at ht
    by_cases h2 : x = -2
    · rw [if_pos h2] at ht; obtain ⟨_, rfl⟩ := List.mem_replicate.1 ht; omega
    · rw [if_neg h2] at ht
      have hn : ¬ (x = -1 ∨ x = -2) := by omega
      rw [if_neg hn, inI_iff] at h
      exact fldT_rng ok (by omega) t ht
theorem typ_len {L : List Cl} (ok : clsOk L = true) {x n : Int} (h : isT L x n = true) : (typ L x n).length ≤ 10 := by
  unfold typ
  unfold isT at h
  by_cases h1 : x = -1
  · rw [if_pos (Or.inl h1), inI_iff] at h; rw [if_pos h1, List.length_replicate]; omega
  · rw [if_neg h1]
    by_cases h2 : x = -2
    · rw [if_pos (Or.inr h2), inI_iff] at h; rw [if_pos h2, List.length_replicate]; omega
    · rw [if_neg h2]
      have hn : ¬ (x = -1 ∨ x = -2) := by omega
      rw [if_neg hn, inI_iff] at h
      have := fld_short ok x.toNat (by omega)
      have := ok_len ok
      omega

theorem seg_len {ws : List Int} {i e : Nat} (he : e ≤ ws.length) : ((ws.take e).drop i).length = e - i := by
  rw [List.length_drop, List.length_take]; omega
theorem seg_at {ws : List Int} {i e j : Nat} (h : i + j < e) : ((ws.take e).drop i).getD j 0 = ws.getD (i + j) 0 := by
  rw [getD_drop, getD_take h]
theorem seg_over {ws : List Int} {i e j : Nat} (he : e ≤ ws.length) (h : e ≤ i + j) : ((ws.take e).drop i).getD j 0 = 0 := by
  rw [List.getD_eq_getElem?_getD, List.getElem?_eq_none (by rw [seg_len he]; omega)]; rfl
theorem tsz_out {L : List Cl} {ws : List Int} {i e : Nat} (he : e ≤ ws.length) (h : e ≤ i) : tsz L ((ws.take e).drop i) = 0 := by
  unfold tsz; rw [if_pos (by rw [seg_len he]; omega)]
theorem tsz_cls {L : List Cl} {ws : List Int} {i e : Nat} {x : Int} (he : e ≤ ws.length) (h : i < e) (hx : ws.getD i 0 = x) (hc : 0 ≤ x ∧ x ≤ (L.length : Int) - 1) :
    tsz L ((ws.take e).drop i) = if i + (1 + (fld L x.toNat).length) ≤ e then 1 + (fld L x.toNat).length else 0 := by
  have h0 : ((ws.take e).drop i).getD 0 0 = x := by rw [seg_at (by omega)]; exact hx
  have hn : ¬ (x = -1 ∨ x = -2) := by omega
  have k1 : ∀ n, isT L x n = true := fun n => by unfold isT; rw [if_neg hn]; exact inI_iff.2 hc
  have k2 : ∀ n, typ L x n = fld L x.toNat := fun n => by unfold typ; rw [if_neg (by omega), if_neg (by omega)]
  have k3 : hdN x = 1 := if_neg hn
  unfold tsz
  rw [seg_len he, h0, if_neg (by omega), k1, k2, k3, if_pos rfl]
  by_cases h2 : i + (1 + (fld L x.toNat).length) ≤ e
  · rw [if_pos h2, if_pos (by omega)]
  · rw [if_neg h2, if_neg (by omega)]
theorem tsz_arr {L : List Cl} {ws : List Int} {i e : Nat} {x y : Int} (he : e ≤ ws.length) (h : i + 1 < e) (hx : ws.getD i 0 = x) (hy : ws.getD (i + 1) 0 = y) (hc : x = -1 ∨ x = -2) :
    tsz L ((ws.take e).drop i) = if inI y 0 6 = true then (if i + (2 + y.toNat) ≤ e then 2 + y.toNat else 0) else 0 := by
  have h0 : ((ws.take e).drop i).getD 0 0 = x := by rw [seg_at (by omega)]; exact hx
  have h1 : ((ws.take e).drop i).getD 1 0 = y := by rw [seg_at h]; exact hy
  have hl : (typ L x y).length = y.toNat := by
    unfold typ
    split
    · exact List.length_replicate
    · split
      · exact List.length_replicate
      · omega
  have k1 : isT L x y = inI y 0 6 := if_pos hc
  have k3 : hdN x = 2 := if_pos hc
  unfold tsz
  rw [seg_len he, h0, h1, if_neg (by omega), hl, k1, k3]
  by_cases h2 : i + (2 + y.toNat) ≤ e
  · rw [if_pos h2, if_pos (show 2 + y.toNat ≤ e - i by omega)]
  · rw [if_neg h2, if_neg (show ¬ 2 + y.toNat ≤ e - i by omega)]
theorem tsz_arr1 {L : List Cl} {ws : List Int} {i e : Nat} {x : Int} (he : e ≤ ws.length) (h : i < e) (h1 : e ≤ i + 1) (hx : ws.getD i 0 = x) (hc : x = -1 ∨ x = -2) : tsz L ((ws.take e).drop i) = 0 := by
  have h0 : ((ws.take e).drop i).getD 0 0 = x := by rw [seg_at (by omega)]; exact hx
  unfold tsz
  rw [seg_len he, h0, if_neg (by omega)]
  split
  · rw [if_neg]
    have : hdN x = 2 := if_pos hc
    omega
  · rfl
theorem tsz_none {L : List Cl} {ws : List Int} {i e : Nat} {x : Int} (he : e ≤ ws.length) (h : i < e) (hx : ws.getD i 0 = x) (hc : ¬ (0 ≤ x ∧ x ≤ (L.length : Int) - 1)) (h1 : x ≠ -1) (h2 : x ≠ -2) : tsz L ((ws.take e).drop i) = 0 := by
  have h0 : ((ws.take e).drop i).getD 0 0 = x := by rw [seg_at (by omega)]; exact hx
  unfold tsz
  rw [h0]
  split
  · rfl
  · rw [if_neg]
    have hn : ¬ (x = -1 ∨ x = -2) := by omega
    unfold isT
    rw [if_neg hn, inI_iff]
    exact hc

theorem IntsAt.one {D : Nat → Prop} {w : World} {a : Option Addr} {len : Nat} {xs : List Int} (h : IntsAt D w a len xs) (i : Nat) (hi : i < len) : ∃ b off, a = some ⟨b, off, none⟩ ∧ D b ∧ ∀ j, j < len → w.cell? ⟨b, off + j, none⟩ = some (.int .i64 (xs.getD j 0)) := by
  rcases h.cells with h0 | ⟨b, off, ha, hd, hc⟩
  · omega
  · exact ⟨b, off, ha, hd, hc⟩

end Go.Proofs.Ytjeabgkcmfjjlaa
