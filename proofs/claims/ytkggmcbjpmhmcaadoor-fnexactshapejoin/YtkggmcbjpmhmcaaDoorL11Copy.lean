/-
  A shape is copied into new memory by the specification, whatever memory there is; nothing that was there is written.
-/
import Derived.Test.YtkggmcbjpmhmcaaDoorL11In
import Derived.Test.YtkggmcbjpmhmcaaDoorAppI
namespace Go.Proofs.YtkggmcbjpmhmcaaDoor
open Go.ChangeShapes Go.WideShapes Go.ChangeAt Go.RowKit

theorem sz2 {w x : World} {q r : Obj} (h : Below (w.heap.size + 1 + 1) ((w.alloc q).alloc r) x) : w.heap.size + 1 + 1 ≤ x.heap.size := by have := h.size; simpa using this
/-- A shape in memory of the call's own: two lists that are apart. -/
structure ShOwn (base : Nat) (w : World) (lv sv : Value) (us vs : List Int) : Prop where
  loc : w.ownsRow base 3 1 lv us.length (us.map (Value.int .i64))
  st : w.ownsRow base 3 1 sv vs.length (vs.map (Value.int .i64))
  apart : ∀ b, lv.ownBlock = some b → sv.ownBlock = some b → False

set_option maxRecDepth 100000 in
set_option maxHeartbeats 8000000 in
theorem copySpec (any : Bool) (la : Option Addr) (ll lc : Nat) (ka : Option Addr) (kl kc : Nat) (us vs : List Int) (w : World) {P Q : Nat → Prop} (hu : IntsAt P w la ll us) (hv : IntsAt Q w ka kl vs) (hll : ll ≤ 1048576) (hkl : kl ≤ 1048576) :
    Calls Tryd.prog 48 #[.agg #[.bool any, .slice la ll lc, .slice ka kl kc]] w fun e w' => ∃ lv sv, e = .returned (.agg #[.bool any, lv, sv]) ∧ ShOwn w.heap.size w' lv sv us vs ∧ Below w.heap.size w w' := by
  have HU : Hid (IntsAt P w la ll us) := hu
  have HV : Hid (IntsAt Q w ka kl vs) := hv
  have SU : Hid (us.length = ll) := hu.size
  have SV : Hid (vs.length = kl) := hv.size
  have KS1 : Hid (∀ x : World, Below (w.heap.size + 1) (w.alloc (.cells #[.bool any, .slice la ll lc, .slice ka kl kc] 26)) x → x.cell? ⟨w.heap.size, 0, none⟩ = some (.bool any) ∧ x.cell? ⟨w.heap.size, 1, none⟩ = some (.slice la ll lc) ∧ x.cell? ⟨w.heap.size, 2, none⟩ = some (.slice ka kl kc)) := fun x hb => ⟨box_cell hb 0 _ rfl, box_cell hb 1 _ rfl, box_cell hb 2 _ rfl⟩
  have TR : Hid (∀ x : World, Below (w.heap.size + 1 + 1) ((w.alloc (.cells #[.bool any, .slice la ll lc, .slice ka kl kc] 26)).alloc (.cells #[.bool false, .slice none 0 0, .slice none 0 0] 26)) x → Below (w.heap.size + 1) (w.alloc (.cells #[.bool any, .slice la ll lc, .slice ka kl kc] 26)) x) := fun x hb => ((Below.refl _ _).alloc (by simp) _).trans (hb.mono (by omega))
  have KS : Hid (∀ x : World, Below (w.heap.size + 1 + 1) ((w.alloc (.cells #[.bool any, .slice la ll lc, .slice ka kl kc] 26)).alloc (.cells #[.bool false, .slice none 0 0, .slice none 0 0] 26)) x → x.cell? ⟨w.heap.size, 0, none⟩ = some (.bool any) ∧ x.cell? ⟨w.heap.size, 1, none⟩ = some (.slice la ll lc) ∧ x.cell? ⟨w.heap.size, 2, none⟩ = some (.slice ka kl kc)) := fun x hb => KS1.out x (TR.out x hb)
  have KZ : Hid (∀ x : World, Below (w.heap.size + 1 + 1) ((w.alloc (.cells #[.bool any, .slice la ll lc, .slice ka kl kc] 26)).alloc (.cells #[.bool false, .slice none 0 0, .slice none 0 0] 26)) x → x.cell? ⟨w.heap.size + 1, 0, none⟩ = some (.bool false) ∧ x.cell? ⟨w.heap.size + 1, 1, none⟩ = some (.slice none 0 0) ∧ x.cell? ⟨w.heap.size + 1, 2, none⟩ = some (.slice none 0 0) ∧ x.frozen? ⟨w.heap.size + 1, 0, none⟩ = false ∧ x.frozen? ⟨w.heap.size + 1, 1, none⟩ = false ∧ x.frozen? ⟨w.heap.size + 1, 2, none⟩ = false) := fun x hb => by
    have hf : ∀ j, x.frozen? ⟨w.heap.size + 1, j, none⟩ = false := fun j => by rw [hb.frozen (p := ⟨w.heap.size + 1, j, none⟩) (by simp)]; exact World.frozen?_alloc_at _ _ _ _ (by simp)
    exact ⟨later2 hb (two_second rfl), later2 hb (two_second rfl), later2 hb (two_second rfl), hf 0, hf 1, hf 2⟩
  have D0 : Hid (Below (w.heap.size + 1 + 1) ((w.alloc (.cells #[.bool any, .slice la ll lc, .slice ka kl kc] 26)).alloc (.cells #[.bool false, .slice none 0 0, .slice none 0 0] 26)) ((w.alloc (.cells #[.bool any, .slice la ll lc, .slice ka kl kc] 26)).alloc (.cells #[.bool false, .slice none 0 0, .slice none 0 0] 26)).drew) := below_drewN (Below.refl _ _) 1
  clear hu hv
  go_enter Tryd.func48, Tryd.ntmps48
  go_wp2_with fail
  refine wp_region_held_drew (S := fun x => x.cell? ⟨w.heap.size, 0, none⟩ = some (.bool any) ∧ x.cell? ⟨w.heap.size, 1, none⟩ = some (.slice la ll lc) ∧ x.cell? ⟨w.heap.size, 2, none⟩ = some (.slice ka kl kc)) (by kernel_rfl) ?_ (fun hHeld => ?_)
  · exact KS.out _ D0.out
  refine wpAnyH_take (i := 0) (v := .pointer (some ⟨w.heap.size, 0, none⟩)) rfl (by kernel_rfl) (by kernel_rfl) (by kernel_rfl) (fun _ _ _ h => h) (Or.inl ⟨by kernel_rfl, by (intro x hSx; (try dsimp only at hSx); go_simp)⟩) (by assumption) ?_
  try simp only [Act.put, List.getElem_toArray, List.getElem_cons_zero, List.setIfInBounds_toArray, List.set_cons_zero, List.set_cons_succ]
  refine wpAnyH_take (i := 1) (v := .bool any) rfl (by kernel_rfl) (by kernel_rfl) (by kernel_rfl) (fun _ _ _ h => h) (Or.inl ⟨by kernel_rfl, by (intro x hSx; (try dsimp only at hSx); go_simp)⟩) (by assumption) ?_
  try simp only [Act.put, List.getElem_toArray, List.getElem_cons_zero, List.getElem_cons_succ, List.setIfInBounds_toArray, List.set_cons_zero, List.set_cons_succ]
  refine wpAnyH_take (i := 3) (v := .pointer (some ⟨w.heap.size, 1, none⟩)) rfl (by kernel_rfl) (by kernel_rfl) (by kernel_rfl) (fun _ _ _ h => h) (Or.inl ⟨by kernel_rfl, by (intro x hSx; (try dsimp only at hSx); go_simp)⟩) (by assumption) ?_
  try simp only [Act.put, List.getElem_toArray, List.getElem_cons_zero, List.getElem_cons_succ, List.setIfInBounds_toArray, List.set_cons_zero, List.set_cons_succ]
  refine wpAnyH_take (i := 4) (v := .slice la ll lc) rfl (by kernel_rfl) (by kernel_rfl) (by kernel_rfl) (fun _ _ _ h => h) (Or.inl ⟨by kernel_rfl, by (intro x hSx; (try dsimp only at hSx); go_simp)⟩) (by assumption) ?_
  try simp only [Act.put, List.getElem_toArray, List.getElem_cons_zero, List.getElem_cons_succ, List.setIfInBounds_toArray, List.set_cons_zero, List.set_cons_succ]
  refine wpAnyH_take (i := 7) (v := .pointer (some ⟨w.heap.size, 2, none⟩)) rfl (by kernel_rfl) (by kernel_rfl) (by kernel_rfl) (fun _ _ _ h => h) (Or.inl ⟨by kernel_rfl, by (intro x hSx; (try dsimp only at hSx); go_simp)⟩) (by assumption) ?_
  try simp only [Act.put, List.getElem_toArray, List.getElem_cons_zero, List.getElem_cons_succ, List.setIfInBounds_toArray, List.set_cons_zero, List.set_cons_succ]
  refine wpAnyH_take (i := 8) (v := .slice ka kl kc) rfl (by kernel_rfl) (by kernel_rfl) (by kernel_rfl) (fun _ _ _ h => h) (Or.inl ⟨by kernel_rfl, by (intro x hSx; (try dsimp only at hSx); go_simp)⟩) (by assumption) ?_
  try simp only [Act.put, List.getElem_toArray, List.getElem_cons_zero, List.getElem_cons_succ, List.setIfInBounds_toArray, List.set_cons_zero, List.set_cons_succ]
  refine wpAnyH_ready (rs := [2, 6]) (by kernel_rfl) (by simp) ?_
  refine AllReadyH.cons rfl (fun K hK => ?_) (AllReadyH.cons rfl (fun K hK => ?_) AllReadyH.nil)
  · go_simp
    have hb2 : w.heap.size + 1 + 1 ≤ w.heap.size + 1 + 1 := by have := D0.out.size; first | omega | (simp at this; omega)
    have O2 : Hid ((((w.alloc (.cells #[.bool any, .slice la ll lc, .slice ka kl kc] 26)).alloc (.cells #[.bool false, .slice none 0 0, .slice none 0 0] 26)).drew.alloc (.cells #[] 3)).ownsRow (w.heap.size + 1 + 1) 3 1 (.slice (some ⟨w.heap.size + 1 + 1, 0, none⟩) 0 0) 0 (([] : List Int).map (Value.int .i64))) := own_empty _ _ (sz2 D0.out) (by simp)
    have D1 : Hid (Below (w.heap.size + 1 + 1) ((w.alloc (.cells #[.bool any, .slice la ll lc, .slice ka kl kc] 26)).alloc (.cells #[.bool false, .slice none 0 0, .slice none 0 0] 26)) (((w.alloc (.cells #[.bool any, .slice la ll lc, .slice ka kl kc] 26)).alloc (.cells #[.bool false, .slice none 0 0, .slice none 0 0] 26)).drew.alloc (.cells #[] 3))) := D0.out.alloc (sz2 D0.out) _
    refine hK.out _ _ (KS.out _ D1.out) (fun hHeld2 => ?_)
    clear hK K
    try simp only [Act.put, List.getElem_toArray, List.getElem_cons_zero, List.getElem_cons_succ, List.setIfInBounds_toArray, List.set_cons_zero, List.set_cons_succ]
    refine wpAnyH_ready (rs := [5, 6]) (by kernel_rfl) (by simp) ?_
    refine AllReadyH.cons rfl (fun K hK => ?_) (AllReadyH.cons rfl (fun K hK => ?_) AllReadyH.nil)
    · refine step_app (by rfl) _ _ (by rfl) (w.heap.size + 1 + 1) (.slice (some ⟨w.heap.size + 1 + 1, 0, none⟩) 0 0) 0 [] (by rfl) O2.out _ _ _ (by rfl) us (HU.out.later (below2 D1.out)) (by omega) (by omega) (sz2 D1.out) ?_
      intro a5 c5 w2 hown2 hgrow2 hloc2
      simp only [Nat.zero_add, List.nil_append] at hown2 hloc2 ⊢
      have D2 : Hid (Below (w.heap.size + 1 + 1) ((w.alloc (.cells #[.bool any, .slice la ll lc, .slice ka kl kc] 26)).alloc (.cells #[.bool false, .slice none 0 0, .slice none 0 0] 26)) w2) := D1.out.grown hgrow2 (sz2 D1.out) (fun j e => by simp [Value.ownBlock] at e; omega)
      have O5 : Hid (w2.ownsRow (w.heap.size + 1 + 1) 3 1 (.slice a5 ll c5) ll (us.map (Value.int .i64))) := hown2
      clear hown2 hgrow2 hloc2 O2
      refine hK.out _ _ (KS.out _ D2.out) (fun hHeld3 => ?_)
      clear hK K
      try simp only [Act.put, List.getElem_toArray, List.getElem_cons_zero, List.getElem_cons_succ, List.setIfInBounds_toArray, List.set_cons_zero, List.set_cons_succ]
      refine wpAnyH_ready (rs := [6]) (by kernel_rfl) (by simp) ?_
      refine AllReadyH.cons rfl (fun K hK => ?_) AllReadyH.nil
      go_simp
      have hb6 : w.heap.size + 1 + 1 ≤ w2.heap.size := by have := D2.out.size; first | omega | (simp at this; omega)
      have N56 : Hid (∀ b, (Value.slice a5 ll c5).ownBlock = some b → b ≠ w2.heap.size) := fun b hb e => by have := own_lt' O5.out b hb; omega
      have P5 : Hid ((w2.alloc (.cells #[] 3)).ownsRow (w.heap.size + 1 + 1) 3 1 (.slice a5 ll c5) ll (us.map (Value.int .i64))) := O5.out.alloc _
      clear O5
      have O5 : Hid ((w2.alloc (.cells #[] 3)).ownsRow (w.heap.size + 1 + 1) 3 1 (.slice a5 ll c5) ll (us.map (Value.int .i64))) := P5.out
      clear P5
      have O6 : Hid ((w2.alloc (.cells #[] 3)).ownsRow (w.heap.size + 1 + 1) 3 1 (.slice (some ⟨w2.heap.size, 0, none⟩) 0 0) 0 (([] : List Int).map (Value.int .i64))) := own_empty _ _ (sz2 D2.out) (by simp)
      have D3 : Hid (Below (w.heap.size + 1 + 1) ((w.alloc (.cells #[.bool any, .slice la ll lc, .slice ka kl kc] 26)).alloc (.cells #[.bool false, .slice none 0 0, .slice none 0 0] 26)) (w2.alloc (.cells #[] 3))) := D2.out.alloc (sz2 D2.out) _
      refine hK.out _ _ (KS.out _ D3.out) (fun hHeld4 => ?_)
      clear hK K
      try simp only [Act.put, List.getElem_toArray, List.getElem_cons_zero, List.getElem_cons_succ, List.setIfInBounds_toArray, List.set_cons_zero, List.set_cons_succ]
      refine wpAnyH_ready (rs := [9]) (by kernel_rfl) (by simp) ?_
      refine AllReadyH.cons rfl (fun K hK => ?_) AllReadyH.nil
      refine step_app (by rfl) _ _ (by rfl) (w.heap.size + 1 + 1) (.slice (some ⟨w2.heap.size, 0, none⟩) 0 0) 0 [] (by rfl) O6.out _ _ _ (by rfl) vs (HV.out.later (below2 D3.out)) (by omega) (by omega) (sz2 D3.out) ?_
      intro a9 c9 w4 hown4 hgrow4 hloc4
      simp only [Nat.zero_add, List.nil_append] at hown4 hloc4 ⊢
      have D4 : Hid (Below (w.heap.size + 1 + 1) ((w.alloc (.cells #[.bool any, .slice la ll lc, .slice ka kl kc] 26)).alloc (.cells #[.bool false, .slice none 0 0, .slice none 0 0] 26)) w4) := D3.out.grown hgrow4 (sz2 D3.out) (fun j e => by simp [Value.ownBlock] at e; omega)
      have AP : Hid (∀ b, (Value.slice a5 ll c5).ownBlock = some b → (Value.slice a9 kl c9).ownBlock = some b → False) := fun b h5 h9 => by
        have hl := own_lt' O5.out b h5
        rcases hloc4 b h9 with h1 | h1
        · exact N56.out b h5 (by simp [Value.ownBlock] at h1; omega)
        · omega
      have P5 : Hid (w4.ownsRow (w.heap.size + 1 + 1) 3 1 (.slice a5 ll c5) ll (us.map (Value.int .i64))) := own_keep' O5.out (fun b hb => hgrow4.block b (own_lt' O5.out b hb) (fun e => N56.out b hb (by simp [Value.ownBlock] at e; omega)))
      clear O5
      have O5 : Hid (w4.ownsRow (w.heap.size + 1 + 1) 3 1 (.slice a5 ll c5) ll (us.map (Value.int .i64))) := P5.out
      clear P5
      have O9 : Hid (w4.ownsRow (w.heap.size + 1 + 1) 3 1 (.slice a9 kl c9) kl (vs.map (Value.int .i64))) := hown4
      clear hown4 hgrow4 hloc4 O6
      refine hK.out _ _ (KS.out _ D4.out) (fun hHeld5 => ?_)
      clear hK K
      try simp only [Act.put, List.getElem_toArray, List.getElem_cons_zero, List.getElem_cons_succ, List.setIfInBounds_toArray, List.set_cons_zero, List.set_cons_succ]
      refine wpAnyH_take (i := 10) (v := .agg #[.bool any, .slice a5 ll c5, .slice a9 kl c9]) rfl (by kernel_rfl) (by kernel_rfl) (by kernel_rfl) (fun _ _ _ h => h) (Or.inl ⟨by kernel_rfl, by (intro x hSx; (try dsimp only at hSx); go_simp)⟩) (by assumption) ?_
      try simp only [Act.put, List.getElem_toArray, List.getElem_cons_zero, List.getElem_cons_succ, List.setIfInBounds_toArray, List.set_cons_zero, List.set_cons_succ]
      refine wpAnyH_ready (rs := [11]) (by kernel_rfl) (by simp) ?_
      refine AllReadyH.cons rfl (fun K hK => ?_) AllReadyH.nil
      obtain ⟨z0, z1, z2, f0, f1, f2⟩ := KZ.out _ D4.out
      go_simp
      have D5 : Hid (Below (w.heap.size + 1) (w.alloc (.cells #[.bool any, .slice la ll lc, .slice ka kl kc] 26)) (((w4.setCell ⟨w.heap.size + 1, 0, none⟩ (.bool any)).setCell ⟨w.heap.size + 1, 1, none⟩ (.slice a5 ll c5)).setCell ⟨w.heap.size + 1, 2, none⟩ (.slice a9 kl c9))) := (((TR.out _ D4.out).setCell (by simp) _).setCell (by simp) _).setCell (by simp) _
      refine hK.out _ _ (KS1.out _ D5.out) (fun hHeld6 => ?_)
      clear hK K
      try simp only [Act.put, List.getElem_toArray, List.getElem_cons_zero, List.getElem_cons_succ, List.setIfInBounds_toArray, List.set_cons_zero, List.set_cons_succ]
      refine wpAnyH_done (by kernel_rfl) ?_ _
      clear hHeld hHeld2 hHeld3 hHeld4 hHeld5 hHeld6
      have FIN : Hid (ShOwn w.heap.size (((w4.setCell ⟨w.heap.size + 1, 0, none⟩ (.bool any)).setCell ⟨w.heap.size + 1, 1, none⟩ (.slice a5 ll c5)).setCell ⟨w.heap.size + 1, 2, none⟩ (.slice a9 kl c9)) (.slice a5 ll c5) (.slice a9 kl c9) us vs ∧ Below w.heap.size w (((w4.setCell ⟨w.heap.size + 1, 0, none⟩ (.bool any)).setCell ⟨w.heap.size + 1, 1, none⟩ (.slice a5 ll c5)).setCell ⟨w.heap.size + 1, 2, none⟩ (.slice a9 kl c9))) := ⟨⟨by rw [SU.out]; exact own_low (own_set (own_set (own_set O5.out ⟨w.heap.size + 1, 0, none⟩ _ (by simp)) ⟨w.heap.size + 1, 1, none⟩ _ (by simp)) ⟨w.heap.size + 1, 2, none⟩ _ (by simp)) (by omega), by rw [SV.out]; exact own_low (own_set (own_set (own_set O9.out ⟨w.heap.size + 1, 0, none⟩ _ (by simp)) ⟨w.heap.size + 1, 1, none⟩ _ (by simp)) ⟨w.heap.size + 1, 2, none⟩ _ (by simp)) (by omega), AP.out⟩, box_below D5.out⟩
      go_wp2_with fail
      refine bodyPost_ret (v := .agg #[.bool any, .slice a5 ll c5, .slice a9 kl c9]) ?_ rfl ?_
      · simp [results, Tryd.results48, go_sem, z0, z1, z2]
      · exact ⟨_, _, rfl, FIN.out.1, FIN.out.2⟩
    · go_simp
      have hb6 : w.heap.size + 1 + 1 ≤ w.heap.size + 1 + 1 + 1 := by have := D1.out.size; first | omega | (simp at this; omega)
      have P2 : Hid (((((w.alloc (.cells #[.bool any, .slice la ll lc, .slice ka kl kc] 26)).alloc (.cells #[.bool false, .slice none 0 0, .slice none 0 0] 26)).drew.alloc (.cells #[] 3)).alloc (.cells #[] 3)).ownsRow (w.heap.size + 1 + 1) 3 1 (.slice (some ⟨w.heap.size + 1 + 1, 0, none⟩) 0 0) 0 (([] : List Int).map (Value.int .i64))) := O2.out.alloc _
      clear O2
      have O2 : Hid (((((w.alloc (.cells #[.bool any, .slice la ll lc, .slice ka kl kc] 26)).alloc (.cells #[.bool false, .slice none 0 0, .slice none 0 0] 26)).drew.alloc (.cells #[] 3)).alloc (.cells #[] 3)).ownsRow (w.heap.size + 1 + 1) 3 1 (.slice (some ⟨w.heap.size + 1 + 1, 0, none⟩) 0 0) 0 (([] : List Int).map (Value.int .i64))) := P2.out
      clear P2
      have O6 : Hid (((((w.alloc (.cells #[.bool any, .slice la ll lc, .slice ka kl kc] 26)).alloc (.cells #[.bool false, .slice none 0 0, .slice none 0 0] 26)).drew.alloc (.cells #[] 3)).alloc (.cells #[] 3)).ownsRow (w.heap.size + 1 + 1) 3 1 (.slice (some ⟨w.heap.size + 1 + 1 + 1, 0, none⟩) 0 0) 0 (([] : List Int).map (Value.int .i64))) := own_empty _ _ (sz2 D1.out) (by simp)
      have D2 : Hid (Below (w.heap.size + 1 + 1) ((w.alloc (.cells #[.bool any, .slice la ll lc, .slice ka kl kc] 26)).alloc (.cells #[.bool false, .slice none 0 0, .slice none 0 0] 26)) ((((w.alloc (.cells #[.bool any, .slice la ll lc, .slice ka kl kc] 26)).alloc (.cells #[.bool false, .slice none 0 0, .slice none 0 0] 26)).drew.alloc (.cells #[] 3)).alloc (.cells #[] 3))) := D1.out.alloc (sz2 D1.out) _
      refine hK.out _ _ (KS.out _ D2.out) (fun hHeld3 => ?_)
      clear hK K
      try simp only [Act.put, List.getElem_toArray, List.getElem_cons_zero, List.getElem_cons_succ, List.setIfInBounds_toArray, List.set_cons_zero, List.set_cons_succ]
      refine wpAnyH_ready (rs := [5]) (by kernel_rfl) (by simp) ?_
      refine AllReadyH.cons rfl (fun K hK => ?_) AllReadyH.nil
      refine step_app (by rfl) _ _ (by rfl) (w.heap.size + 1 + 1) (.slice (some ⟨w.heap.size + 1 + 1, 0, none⟩) 0 0) 0 [] (by rfl) O2.out _ _ _ (by rfl) us (HU.out.later (below2 D2.out)) (by omega) (by omega) (sz2 D2.out) ?_
      intro a5 c5 w3 hown3 hgrow3 hloc3
      simp only [Nat.zero_add, List.nil_append] at hown3 hloc3 ⊢
      have D3 : Hid (Below (w.heap.size + 1 + 1) ((w.alloc (.cells #[.bool any, .slice la ll lc, .slice ka kl kc] 26)).alloc (.cells #[.bool false, .slice none 0 0, .slice none 0 0] 26)) w3) := D2.out.grown hgrow3 (sz2 D2.out) (fun j e => by simp [Value.ownBlock] at e; omega)
      have N56 : Hid (∀ b, (Value.slice a5 ll c5).ownBlock = some b → b ≠ w.heap.size + 1 + 1 + 1) := fun b hb e => by
        rcases hloc3 b hb with h1 | h1
        · simp [Value.ownBlock] at h1; omega
        · simp at h1; omega
      have P6 : Hid (w3.ownsRow (w.heap.size + 1 + 1) 3 1 (.slice (some ⟨w.heap.size + 1 + 1 + 1, 0, none⟩) 0 0) 0 (([] : List Int).map (Value.int .i64))) := own_keep' O6.out (fun b hb => hgrow3.block b (own_lt' O6.out b hb) (fun e => by simp [Value.ownBlock] at e hb; omega))
      clear O6
      have O6 : Hid (w3.ownsRow (w.heap.size + 1 + 1) 3 1 (.slice (some ⟨w.heap.size + 1 + 1 + 1, 0, none⟩) 0 0) 0 (([] : List Int).map (Value.int .i64))) := P6.out
      clear P6
      have O5 : Hid (w3.ownsRow (w.heap.size + 1 + 1) 3 1 (.slice a5 ll c5) ll (us.map (Value.int .i64))) := hown3
      clear hown3 hgrow3 hloc3 O2
      refine hK.out _ _ (KS.out _ D3.out) (fun hHeld4 => ?_)
      clear hK K
      try simp only [Act.put, List.getElem_toArray, List.getElem_cons_zero, List.getElem_cons_succ, List.setIfInBounds_toArray, List.set_cons_zero, List.set_cons_succ]
      refine wpAnyH_ready (rs := [9]) (by kernel_rfl) (by simp) ?_
      refine AllReadyH.cons rfl (fun K hK => ?_) AllReadyH.nil
      refine step_app (by rfl) _ _ (by rfl) (w.heap.size + 1 + 1) (.slice (some ⟨w.heap.size + 1 + 1 + 1, 0, none⟩) 0 0) 0 [] (by rfl) O6.out _ _ _ (by rfl) vs (HV.out.later (below2 D3.out)) (by omega) (by omega) (sz2 D3.out) ?_
      intro a9 c9 w4 hown4 hgrow4 hloc4
      simp only [Nat.zero_add, List.nil_append] at hown4 hloc4 ⊢
      have D4 : Hid (Below (w.heap.size + 1 + 1) ((w.alloc (.cells #[.bool any, .slice la ll lc, .slice ka kl kc] 26)).alloc (.cells #[.bool false, .slice none 0 0, .slice none 0 0] 26)) w4) := D3.out.grown hgrow4 (sz2 D3.out) (fun j e => by simp [Value.ownBlock] at e; omega)
      have AP : Hid (∀ b, (Value.slice a5 ll c5).ownBlock = some b → (Value.slice a9 kl c9).ownBlock = some b → False) := fun b h5 h9 => by
        have hl := own_lt' O5.out b h5
        rcases hloc4 b h9 with h1 | h1
        · exact N56.out b h5 (by simp [Value.ownBlock] at h1; omega)
        · omega
      have P5 : Hid (w4.ownsRow (w.heap.size + 1 + 1) 3 1 (.slice a5 ll c5) ll (us.map (Value.int .i64))) := own_keep' O5.out (fun b hb => hgrow4.block b (own_lt' O5.out b hb) (fun e => N56.out b hb (by simp [Value.ownBlock] at e; omega)))
      clear O5
      have O5 : Hid (w4.ownsRow (w.heap.size + 1 + 1) 3 1 (.slice a5 ll c5) ll (us.map (Value.int .i64))) := P5.out
      clear P5
      have O9 : Hid (w4.ownsRow (w.heap.size + 1 + 1) 3 1 (.slice a9 kl c9) kl (vs.map (Value.int .i64))) := hown4
      clear hown4 hgrow4 hloc4 O6
      refine hK.out _ _ (KS.out _ D4.out) (fun hHeld5 => ?_)
      clear hK K
      try simp only [Act.put, List.getElem_toArray, List.getElem_cons_zero, List.getElem_cons_succ, List.setIfInBounds_toArray, List.set_cons_zero, List.set_cons_succ]
      refine wpAnyH_take (i := 10) (v := .agg #[.bool any, .slice a5 ll c5, .slice a9 kl c9]) rfl (by kernel_rfl) (by kernel_rfl) (by kernel_rfl) (fun _ _ _ h => h) (Or.inl ⟨by kernel_rfl, by (intro x hSx; (try dsimp only at hSx); go_simp)⟩) (by assumption) ?_
      try simp only [Act.put, List.getElem_toArray, List.getElem_cons_zero, List.getElem_cons_succ, List.setIfInBounds_toArray, List.set_cons_zero, List.set_cons_succ]
      refine wpAnyH_ready (rs := [11]) (by kernel_rfl) (by simp) ?_
      refine AllReadyH.cons rfl (fun K hK => ?_) AllReadyH.nil
      obtain ⟨z0, z1, z2, f0, f1, f2⟩ := KZ.out _ D4.out
      go_simp
      have D5 : Hid (Below (w.heap.size + 1) (w.alloc (.cells #[.bool any, .slice la ll lc, .slice ka kl kc] 26)) (((w4.setCell ⟨w.heap.size + 1, 0, none⟩ (.bool any)).setCell ⟨w.heap.size + 1, 1, none⟩ (.slice a5 ll c5)).setCell ⟨w.heap.size + 1, 2, none⟩ (.slice a9 kl c9))) := (((TR.out _ D4.out).setCell (by simp) _).setCell (by simp) _).setCell (by simp) _
      refine hK.out _ _ (KS1.out _ D5.out) (fun hHeld6 => ?_)
      clear hK K
      try simp only [Act.put, List.getElem_toArray, List.getElem_cons_zero, List.getElem_cons_succ, List.setIfInBounds_toArray, List.set_cons_zero, List.set_cons_succ]
      refine wpAnyH_done (by kernel_rfl) ?_ _
      clear hHeld hHeld2 hHeld3 hHeld4 hHeld5 hHeld6
      have FIN : Hid (ShOwn w.heap.size (((w4.setCell ⟨w.heap.size + 1, 0, none⟩ (.bool any)).setCell ⟨w.heap.size + 1, 1, none⟩ (.slice a5 ll c5)).setCell ⟨w.heap.size + 1, 2, none⟩ (.slice a9 kl c9)) (.slice a5 ll c5) (.slice a9 kl c9) us vs ∧ Below w.heap.size w (((w4.setCell ⟨w.heap.size + 1, 0, none⟩ (.bool any)).setCell ⟨w.heap.size + 1, 1, none⟩ (.slice a5 ll c5)).setCell ⟨w.heap.size + 1, 2, none⟩ (.slice a9 kl c9))) := ⟨⟨by rw [SU.out]; exact own_low (own_set (own_set (own_set O5.out ⟨w.heap.size + 1, 0, none⟩ _ (by simp)) ⟨w.heap.size + 1, 1, none⟩ _ (by simp)) ⟨w.heap.size + 1, 2, none⟩ _ (by simp)) (by omega), by rw [SV.out]; exact own_low (own_set (own_set (own_set O9.out ⟨w.heap.size + 1, 0, none⟩ _ (by simp)) ⟨w.heap.size + 1, 1, none⟩ _ (by simp)) ⟨w.heap.size + 1, 2, none⟩ _ (by simp)) (by omega), AP.out⟩, box_below D5.out⟩
      go_wp2_with fail
      refine bodyPost_ret (v := .agg #[.bool any, .slice a5 ll c5, .slice a9 kl c9]) ?_ rfl ?_
      · simp [results, Tryd.results48, go_sem, z0, z1, z2]
      · exact ⟨_, _, rfl, FIN.out.1, FIN.out.2⟩
  · go_simp
    have hb6 : w.heap.size + 1 + 1 ≤ w.heap.size + 1 + 1 := by have := D0.out.size; first | omega | (simp at this; omega)
    have O6 : Hid ((((w.alloc (.cells #[.bool any, .slice la ll lc, .slice ka kl kc] 26)).alloc (.cells #[.bool false, .slice none 0 0, .slice none 0 0] 26)).drew.alloc (.cells #[] 3)).ownsRow (w.heap.size + 1 + 1) 3 1 (.slice (some ⟨w.heap.size + 1 + 1, 0, none⟩) 0 0) 0 (([] : List Int).map (Value.int .i64))) := own_empty _ _ (sz2 D0.out) (by simp)
    have D1 : Hid (Below (w.heap.size + 1 + 1) ((w.alloc (.cells #[.bool any, .slice la ll lc, .slice ka kl kc] 26)).alloc (.cells #[.bool false, .slice none 0 0, .slice none 0 0] 26)) (((w.alloc (.cells #[.bool any, .slice la ll lc, .slice ka kl kc] 26)).alloc (.cells #[.bool false, .slice none 0 0, .slice none 0 0] 26)).drew.alloc (.cells #[] 3))) := D0.out.alloc (sz2 D0.out) _
    refine hK.out _ _ (KS.out _ D1.out) (fun hHeld2 => ?_)
    clear hK K
    try simp only [Act.put, List.getElem_toArray, List.getElem_cons_zero, List.getElem_cons_succ, List.setIfInBounds_toArray, List.set_cons_zero, List.set_cons_succ]
    refine wpAnyH_ready (rs := [2]) (by kernel_rfl) (by simp) ?_
    refine AllReadyH.cons rfl (fun K hK => ?_) AllReadyH.nil
    go_simp
    have hb2 : w.heap.size + 1 + 1 ≤ w.heap.size + 1 + 1 + 1 := by have := D1.out.size; first | omega | (simp at this; omega)
    have P6 : Hid (((((w.alloc (.cells #[.bool any, .slice la ll lc, .slice ka kl kc] 26)).alloc (.cells #[.bool false, .slice none 0 0, .slice none 0 0] 26)).drew.alloc (.cells #[] 3)).alloc (.cells #[] 3)).ownsRow (w.heap.size + 1 + 1) 3 1 (.slice (some ⟨w.heap.size + 1 + 1, 0, none⟩) 0 0) 0 (([] : List Int).map (Value.int .i64))) := O6.out.alloc _
    clear O6
    have O6 : Hid (((((w.alloc (.cells #[.bool any, .slice la ll lc, .slice ka kl kc] 26)).alloc (.cells #[.bool false, .slice none 0 0, .slice none 0 0] 26)).drew.alloc (.cells #[] 3)).alloc (.cells #[] 3)).ownsRow (w.heap.size + 1 + 1) 3 1 (.slice (some ⟨w.heap.size + 1 + 1, 0, none⟩) 0 0) 0 (([] : List Int).map (Value.int .i64))) := P6.out
    clear P6
    have O2 : Hid (((((w.alloc (.cells #[.bool any, .slice la ll lc, .slice ka kl kc] 26)).alloc (.cells #[.bool false, .slice none 0 0, .slice none 0 0] 26)).drew.alloc (.cells #[] 3)).alloc (.cells #[] 3)).ownsRow (w.heap.size + 1 + 1) 3 1 (.slice (some ⟨w.heap.size + 1 + 1 + 1, 0, none⟩) 0 0) 0 (([] : List Int).map (Value.int .i64))) := own_empty _ _ (sz2 D1.out) (by simp)
    have D2 : Hid (Below (w.heap.size + 1 + 1) ((w.alloc (.cells #[.bool any, .slice la ll lc, .slice ka kl kc] 26)).alloc (.cells #[.bool false, .slice none 0 0, .slice none 0 0] 26)) ((((w.alloc (.cells #[.bool any, .slice la ll lc, .slice ka kl kc] 26)).alloc (.cells #[.bool false, .slice none 0 0, .slice none 0 0] 26)).drew.alloc (.cells #[] 3)).alloc (.cells #[] 3))) := D1.out.alloc (sz2 D1.out) _
    refine hK.out _ _ (KS.out _ D2.out) (fun hHeld3 => ?_)
    clear hK K
    try simp only [Act.put, List.getElem_toArray, List.getElem_cons_zero, List.getElem_cons_succ, List.setIfInBounds_toArray, List.set_cons_zero, List.set_cons_succ]
    refine wpAnyH_ready (rs := [5]) (by kernel_rfl) (by simp) ?_
    refine AllReadyH.cons rfl (fun K hK => ?_) AllReadyH.nil
    refine step_app (by rfl) _ _ (by rfl) (w.heap.size + 1 + 1) (.slice (some ⟨w.heap.size + 1 + 1 + 1, 0, none⟩) 0 0) 0 [] (by rfl) O2.out _ _ _ (by rfl) us (HU.out.later (below2 D2.out)) (by omega) (by omega) (sz2 D2.out) ?_
    intro a5 c5 w3 hown3 hgrow3 hloc3
    simp only [Nat.zero_add, List.nil_append] at hown3 hloc3 ⊢
    have D3 : Hid (Below (w.heap.size + 1 + 1) ((w.alloc (.cells #[.bool any, .slice la ll lc, .slice ka kl kc] 26)).alloc (.cells #[.bool false, .slice none 0 0, .slice none 0 0] 26)) w3) := D2.out.grown hgrow3 (sz2 D2.out) (fun j e => by simp [Value.ownBlock] at e; omega)
    have N56 : Hid (∀ b, (Value.slice a5 ll c5).ownBlock = some b → b ≠ w.heap.size + 1 + 1) := fun b hb e => by
      rcases hloc3 b hb with h1 | h1
      · simp [Value.ownBlock] at h1; omega
      · simp at h1; omega
    have P6 : Hid (w3.ownsRow (w.heap.size + 1 + 1) 3 1 (.slice (some ⟨w.heap.size + 1 + 1, 0, none⟩) 0 0) 0 (([] : List Int).map (Value.int .i64))) := own_keep' O6.out (fun b hb => hgrow3.block b (own_lt' O6.out b hb) (fun e => by simp [Value.ownBlock] at e hb; omega))
    clear O6
    have O6 : Hid (w3.ownsRow (w.heap.size + 1 + 1) 3 1 (.slice (some ⟨w.heap.size + 1 + 1, 0, none⟩) 0 0) 0 (([] : List Int).map (Value.int .i64))) := P6.out
    clear P6
    have O5 : Hid (w3.ownsRow (w.heap.size + 1 + 1) 3 1 (.slice a5 ll c5) ll (us.map (Value.int .i64))) := hown3
    clear hown3 hgrow3 hloc3 O2
    refine hK.out _ _ (KS.out _ D3.out) (fun hHeld4 => ?_)
    clear hK K
    try simp only [Act.put, List.getElem_toArray, List.getElem_cons_zero, List.getElem_cons_succ, List.setIfInBounds_toArray, List.set_cons_zero, List.set_cons_succ]
    refine wpAnyH_ready (rs := [9]) (by kernel_rfl) (by simp) ?_
    refine AllReadyH.cons rfl (fun K hK => ?_) AllReadyH.nil
    refine step_app (by rfl) _ _ (by rfl) (w.heap.size + 1 + 1) (.slice (some ⟨w.heap.size + 1 + 1, 0, none⟩) 0 0) 0 [] (by rfl) O6.out _ _ _ (by rfl) vs (HV.out.later (below2 D3.out)) (by omega) (by omega) (sz2 D3.out) ?_
    intro a9 c9 w4 hown4 hgrow4 hloc4
    simp only [Nat.zero_add, List.nil_append] at hown4 hloc4 ⊢
    have D4 : Hid (Below (w.heap.size + 1 + 1) ((w.alloc (.cells #[.bool any, .slice la ll lc, .slice ka kl kc] 26)).alloc (.cells #[.bool false, .slice none 0 0, .slice none 0 0] 26)) w4) := D3.out.grown hgrow4 (sz2 D3.out) (fun j e => by simp [Value.ownBlock] at e; omega)
    have AP : Hid (∀ b, (Value.slice a5 ll c5).ownBlock = some b → (Value.slice a9 kl c9).ownBlock = some b → False) := fun b h5 h9 => by
      have hl := own_lt' O5.out b h5
      rcases hloc4 b h9 with h1 | h1
      · exact N56.out b h5 (by simp [Value.ownBlock] at h1; omega)
      · omega
    have P5 : Hid (w4.ownsRow (w.heap.size + 1 + 1) 3 1 (.slice a5 ll c5) ll (us.map (Value.int .i64))) := own_keep' O5.out (fun b hb => hgrow4.block b (own_lt' O5.out b hb) (fun e => N56.out b hb (by simp [Value.ownBlock] at e; omega)))
    clear O5
    have O5 : Hid (w4.ownsRow (w.heap.size + 1 + 1) 3 1 (.slice a5 ll c5) ll (us.map (Value.int .i64))) := P5.out
    clear P5
    have O9 : Hid (w4.ownsRow (w.heap.size + 1 + 1) 3 1 (.slice a9 kl c9) kl (vs.map (Value.int .i64))) := hown4
    clear hown4 hgrow4 hloc4 O6
    refine hK.out _ _ (KS.out _ D4.out) (fun hHeld5 => ?_)
    clear hK K
    try simp only [Act.put, List.getElem_toArray, List.getElem_cons_zero, List.getElem_cons_succ, List.setIfInBounds_toArray, List.set_cons_zero, List.set_cons_succ]
    refine wpAnyH_take (i := 10) (v := .agg #[.bool any, .slice a5 ll c5, .slice a9 kl c9]) rfl (by kernel_rfl) (by kernel_rfl) (by kernel_rfl) (fun _ _ _ h => h) (Or.inl ⟨by kernel_rfl, by (intro x hSx; (try dsimp only at hSx); go_simp)⟩) (by assumption) ?_
    try simp only [Act.put, List.getElem_toArray, List.getElem_cons_zero, List.getElem_cons_succ, List.setIfInBounds_toArray, List.set_cons_zero, List.set_cons_succ]
    refine wpAnyH_ready (rs := [11]) (by kernel_rfl) (by simp) ?_
    refine AllReadyH.cons rfl (fun K hK => ?_) AllReadyH.nil
    obtain ⟨z0, z1, z2, f0, f1, f2⟩ := KZ.out _ D4.out
    go_simp
    have D5 : Hid (Below (w.heap.size + 1) (w.alloc (.cells #[.bool any, .slice la ll lc, .slice ka kl kc] 26)) (((w4.setCell ⟨w.heap.size + 1, 0, none⟩ (.bool any)).setCell ⟨w.heap.size + 1, 1, none⟩ (.slice a5 ll c5)).setCell ⟨w.heap.size + 1, 2, none⟩ (.slice a9 kl c9))) := (((TR.out _ D4.out).setCell (by simp) _).setCell (by simp) _).setCell (by simp) _
    refine hK.out _ _ (KS1.out _ D5.out) (fun hHeld6 => ?_)
    clear hK K
    try simp only [Act.put, List.getElem_toArray, List.getElem_cons_zero, List.getElem_cons_succ, List.setIfInBounds_toArray, List.set_cons_zero, List.set_cons_succ]
    refine wpAnyH_done (by kernel_rfl) ?_ _
    clear hHeld hHeld2 hHeld3 hHeld4 hHeld5 hHeld6
    have FIN : Hid (ShOwn w.heap.size (((w4.setCell ⟨w.heap.size + 1, 0, none⟩ (.bool any)).setCell ⟨w.heap.size + 1, 1, none⟩ (.slice a5 ll c5)).setCell ⟨w.heap.size + 1, 2, none⟩ (.slice a9 kl c9)) (.slice a5 ll c5) (.slice a9 kl c9) us vs ∧ Below w.heap.size w (((w4.setCell ⟨w.heap.size + 1, 0, none⟩ (.bool any)).setCell ⟨w.heap.size + 1, 1, none⟩ (.slice a5 ll c5)).setCell ⟨w.heap.size + 1, 2, none⟩ (.slice a9 kl c9))) := ⟨⟨by rw [SU.out]; exact own_low (own_set (own_set (own_set O5.out ⟨w.heap.size + 1, 0, none⟩ _ (by simp)) ⟨w.heap.size + 1, 1, none⟩ _ (by simp)) ⟨w.heap.size + 1, 2, none⟩ _ (by simp)) (by omega), by rw [SV.out]; exact own_low (own_set (own_set (own_set O9.out ⟨w.heap.size + 1, 0, none⟩ _ (by simp)) ⟨w.heap.size + 1, 1, none⟩ _ (by simp)) ⟨w.heap.size + 1, 2, none⟩ _ (by simp)) (by omega), AP.out⟩, box_below D5.out⟩
    go_wp2_with fail
    refine bodyPost_ret (v := .agg #[.bool any, .slice a5 ll c5, .slice a9 kl c9]) ?_ rfl ?_
    · simp [results, Tryd.results48, go_sem, z0, z1, z2]
    · exact ⟨_, _, rfl, FIN.out.1, FIN.out.2⟩

end Go.Proofs.YtkggmcbjpmhmcaaDoor
