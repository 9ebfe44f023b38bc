/-
  Types joined, one by one, into a list of one's own: that the program gives what is said of it, in whatever memory; it writes nothing that was there.
-/
import Derived.Test.YtkggmcbjpmhmcaaDoorShInImpl
import Derived.Test.YtkggmcbjpmhmcaaDoorImplT
namespace Go.Proofs.YtkggmcbjpmhmcaaDoor
open Go.ChangeShapes Go.WideShapes Go.ChangeAt Go.RowKit

def jn (L : List Cl) (us xs : List Int) (j : Nat) : Int := tyJoinV L (us.getD j 0) (xs.getD j 0)
set_option maxRecDepth 100000 in
set_option maxHeartbeats 8000000 in
theorem allJoinedImpl (a : Option Addr) (len cap : Nat) (la : Option Addr) (ll lc : Nat) (ma : Option Addr) (ml mc : Nat) (us xs : List Int) (L : List Cl) (w : World) {D E P S : Nat → Prop}
    (h : ClsAt D E w a len L) (ok : clsOk L = true) (hu : IntsAt P w la ll us) (hx : IntsAt S w ma ml xs) (hll : ll ≤ ml) (hl : ll ≤ 1048576) :
    Calls Tryd.prog 43 #[.slice a len cap, .slice la ll lc, .slice ma ml mc] w fun e w' => e = .returned (.slice (some ⟨w.heap.size, 0, none⟩) ll ll) ∧ RowAt w' w.heap.size ll (fun j => .int .i64 (jn L us xs j)) ∧ Below w.heap.size w w' ∧ w.heap.size < w'.heap.size := by
  have hmk := fun wx => run_make_row' (P := Tryd.prog) 24 3 (.int .i64 0) 8 Tryd.underlying24 info_int rfl .i64 .i64 ll (by omega) (by omega) wx
  have H : Hid (ClsAt D E w a len L) := h
  have OK : Hid (clsOk L = true) := ok
  have HU : Hid (IntsAt P w la ll us) := hu
  have HX : Hid (IntsAt S w ma ml xs) := hx
  have ru := hu.room
  have rx := hx.room
  clear h ok hu hx
  go_enter Tryd.func43, Tryd.ntmps43
  go_wp2_with fail
  go_loopw [14] (fun t wr => ∃ k : Nat, k ≤ ll ∧ t = .int .i64 k ∧ RowAt wr w.heap.size ll (fun j => if j < k then .int .i64 (jn L us xs j) else .int .i64 0) ∧ Below w.heap.size w wr ∧ w.heap.size < wr.heap.size) (fun t _ => ll - (intOf t).toNat)
  case atStart => exact ⟨0, Nat.zero_le _, rfl, (RowAt.made w #[.int .i64 0] ll 3).congr (fun j _ => by simp [Nat.mod_one]), by go_grown, by simp⟩
  case round =>
    obtain ⟨k, hk, rfl, hrow, hb, hz⟩ := hrel
    have HR : Hid (RowAt wr w.heap.size ll (fun j => if j < k then .int .i64 (jn L us xs j) else .int .i64 0)) := hrow
    have HB : Hid (Below w.heap.size w wr) := hb
    have HZ : Hid (w.heap.size < wr.heap.size) := hz
    clear hrow hb hz
    by_cases hlt : k < ll
    case neg =>
      have ek : k = ll := by omega
      subst ek
      go_wp2_with fail
      go_ret
      exact ⟨rfl, HR.out.congr (fun j hj => by rw [if_pos hj]), HB.out, HZ.out⟩
    obtain ⟨b1, o1, rfl, hc1, hl1⟩ : ∃ b off, la = some ⟨b, off, none⟩ ∧ wr.cell? ⟨b, off + k, none⟩ = some (.int .i64 (us.getD k 0)) ∧ b < w.heap.size := by
      rcases HU.out.cells with h0 | ⟨b, off, ha, _, hcs⟩
      · omega
      · have hl := World.block_lt_of_cell? w _ (hcs k hlt)
        exact ⟨b, off, ha, by rw [HB.out.cell hl]; exact hcs k hlt, hl⟩
    obtain ⟨b2, o2, rfl, hc2, hl2⟩ : ∃ b off, ma = some ⟨b, off, none⟩ ∧ wr.cell? ⟨b, off + k, none⟩ = some (.int .i64 (xs.getD k 0)) ∧ b < w.heap.size := by
      rcases HX.out.cells with h0 | ⟨b, off, ha, _, hcs⟩
      · omega
      · have hl := World.block_lt_of_cell? w _ (hcs k (by omega))
        exact ⟨b, off, ha, by rw [HB.out.cell hl]; exact hcs k (by omega), hl⟩
    have hf := HU.out.fits k
    have hg := HX.out.fits k
    have HE : Hid (tyJoinV L (us.getD k 0) (xs.getD k 0) = jn L us xs k) := rfl
    generalize us.getD k 0 = f at hc1 hf HE
    generalize xs.getD k 0 = g at hc2 hg HE
    have hltI : (k : Int) < (ll : Int) := by omega
    have hltI2 : (k : Int) < (ml : Int) := by omega
    have KS : Hid (∀ x : World, Below wr.heap.size wr x → x.cell? ⟨b1, o1 + k, none⟩ = some (.int .i64 f) ∧ x.cell? ⟨b2, o2 + k, none⟩ = some (.int .i64 g)) := fun x hb => ⟨by rw [hb.cell (p := ⟨b1, o1 + k, none⟩) (World.block_lt_of_cell? wr _ hc1)]; exact hc1, by rw [hb.cell (p := ⟨b2, o2 + k, none⟩) (World.block_lt_of_cell? wr _ hc2)]; exact hc2⟩
    have KT : Hid (∀ y : World, Below wr.heap.size wr y → ∀ v, ((y.setCell ⟨w.heap.size, k, none⟩ v).cell? ⟨b1, o1 + k, none⟩ = some (.int .i64 f) ∧ (y.setCell ⟨w.heap.size, k, none⟩ v).cell? ⟨b2, o2 + k, none⟩ = some (.int .i64 g))) := fun y hb v => ⟨by
      rw [World.cell?_setCell_other _ _ _ _ (by intro e; have := congrArg Addr.block e; simp at this; omega)]; exact (KS.out y hb).1, by
      rw [World.cell?_setCell_other _ _ _ _ (by intro e; have := congrArg Addr.block e; simp at this; omega)]; exact (KS.out y hb).2⟩
    clear hc1 hc2
    go_wp2_with fail
    refine wp_region_held_drew (S := fun x => x.cell? ⟨b1, o1 + k, none⟩ = some (.int .i64 f) ∧ x.cell? ⟨b2, o2 + k, none⟩ = some (.int .i64 g)) (by kernel_rfl) ?_ (fun hHeld => ?_)
    · exact KS.out _ (below_drewN (Below.refl _ _) 1)
    refine wpAnyH_take (i := 0) (v := .slice (some ⟨w.heap.size, 0, none⟩) ll ll) rfl (by kernel_rfl) (by kernel_rfl) (by kernel_rfl) (fun _ _ _ h => h) (Or.inl ⟨by kernel_rfl, by (intro x hSx; (try dsimp only at hSx); go_simp)⟩) (by assumption) ?_
    try simp only [Act.put, List.getElem_toArray, List.getElem_cons_zero, List.setIfInBounds_toArray, List.set_cons_zero, List.set_cons_succ]
    refine wpAnyH_take (i := 1) (v := .int .i64 k) rfl (by kernel_rfl) (by kernel_rfl) (by kernel_rfl) (fun _ _ _ h => h) (Or.inl ⟨by kernel_rfl, by (intro x hSx; (try dsimp only at hSx); go_simp)⟩) (by assumption) ?_
    try simp only [Act.put, List.getElem_toArray, List.getElem_cons_zero, List.getElem_cons_succ, List.setIfInBounds_toArray, List.set_cons_zero, List.set_cons_succ]
    refine wpAnyH_take (i := 2) (v := .slice a len cap) rfl (by kernel_rfl) (by kernel_rfl) (by kernel_rfl) (fun _ _ _ h => h) (Or.inl ⟨by kernel_rfl, by (intro x hSx; (try dsimp only at hSx); go_simp)⟩) (by assumption) ?_
    try simp only [Act.put, List.getElem_toArray, List.getElem_cons_zero, List.getElem_cons_succ, List.setIfInBounds_toArray, List.set_cons_zero, List.set_cons_succ]
    refine wpAnyH_take (i := 3) (v := .slice (some ⟨b1, o1, none⟩) ll lc) rfl (by kernel_rfl) (by kernel_rfl) (by kernel_rfl) (fun _ _ _ h => h) (Or.inl ⟨by kernel_rfl, by (intro x hSx; (try dsimp only at hSx); go_simp)⟩) (by assumption) ?_
    try simp only [Act.put, List.getElem_toArray, List.getElem_cons_zero, List.getElem_cons_succ, List.setIfInBounds_toArray, List.set_cons_zero, List.set_cons_succ]
    refine wpAnyH_take (i := 4) (v := .int .i64 k) rfl (by kernel_rfl) (by kernel_rfl) (by kernel_rfl) (fun _ _ _ h => h) (Or.inl ⟨by kernel_rfl, by (intro x hSx; (try dsimp only at hSx); go_simp)⟩) (by assumption) ?_
    try simp only [Act.put, List.getElem_toArray, List.getElem_cons_zero, List.getElem_cons_succ, List.setIfInBounds_toArray, List.set_cons_zero, List.set_cons_succ]
    refine wpAnyH_take (i := 5) (v := .pointer (some ⟨b1, o1 + k, none⟩)) rfl (by kernel_rfl) (by kernel_rfl) (by kernel_rfl) (fun _ _ _ h => h) (Or.inl ⟨by kernel_rfl, by (intro x hSx; (try dsimp only at hSx); go_simp)⟩) (by assumption) ?_
    try simp only [Act.put, List.getElem_toArray, List.getElem_cons_zero, List.getElem_cons_succ, List.setIfInBounds_toArray, List.set_cons_zero, List.set_cons_succ]
    refine wpAnyH_take (i := 6) (v := .int .i64 f) rfl (by kernel_rfl) (by kernel_rfl) (by kernel_rfl) (fun _ _ _ h => h) (Or.inl ⟨by kernel_rfl, by (intro x hSx; (try dsimp only at hSx); go_simp)⟩) (by assumption) ?_
    try simp only [Act.put, List.getElem_toArray, List.getElem_cons_zero, List.getElem_cons_succ, List.setIfInBounds_toArray, List.set_cons_zero, List.set_cons_succ]
    refine wpAnyH_take (i := 7) (v := .slice (some ⟨b2, o2, none⟩) ml mc) rfl (by kernel_rfl) (by kernel_rfl) (by kernel_rfl) (fun _ _ _ h => h) (Or.inl ⟨by kernel_rfl, by (intro x hSx; (try dsimp only at hSx); go_simp)⟩) (by assumption) ?_
    try simp only [Act.put, List.getElem_toArray, List.getElem_cons_zero, List.getElem_cons_succ, List.setIfInBounds_toArray, List.set_cons_zero, List.set_cons_succ]
    refine wpAnyH_take (i := 8) (v := .int .i64 k) rfl (by kernel_rfl) (by kernel_rfl) (by kernel_rfl) (fun _ _ _ h => h) (Or.inl ⟨by kernel_rfl, by (intro x hSx; (try dsimp only at hSx); go_simp)⟩) (by assumption) ?_
    try simp only [Act.put, List.getElem_toArray, List.getElem_cons_zero, List.getElem_cons_succ, List.setIfInBounds_toArray, List.set_cons_zero, List.set_cons_succ]
    refine wpAnyH_take (i := 9) (v := .pointer (some ⟨b2, o2 + k, none⟩)) rfl (by kernel_rfl) (by kernel_rfl) (by kernel_rfl) (fun _ _ _ h => h) (Or.inl ⟨by kernel_rfl, by (intro x hSx; (try dsimp only at hSx); go_simp)⟩) (by assumption) ?_
    try simp only [Act.put, List.getElem_toArray, List.getElem_cons_zero, List.getElem_cons_succ, List.setIfInBounds_toArray, List.set_cons_zero, List.set_cons_succ]
    refine wpAnyH_take (i := 10) (v := .int .i64 g) rfl (by kernel_rfl) (by kernel_rfl) (by kernel_rfl) (fun _ _ _ h => h) (Or.inl ⟨by kernel_rfl, by (intro x hSx; (try dsimp only at hSx); go_simp)⟩) (by assumption) ?_
    try simp only [Act.put, List.getElem_toArray, List.getElem_cons_zero, List.getElem_cons_succ, List.setIfInBounds_toArray, List.set_cons_zero, List.set_cons_succ]
    refine wpAnyH_ready (rs := [11]) (by kernel_rfl) (by simp) ?_
    refine AllReadyH.cons rfl (fun K hK => ?_) AllReadyH.nil
    go_simp
    go_at_call 55
    refine (treeJoinImpl _ _ _ _ _ L _ (H.out.later (below_drewN HB.out 1)) OK.out hf hg).mono ?_
    rintro e w2 ⟨rfl, hb2⟩
    have D2 : Hid (Below wr.heap.size wr w2) := (below_drewN (Below.refl _ _) 1).trans (hb2.mono (by simp))
    have C2 : Hid (Below w.heap.size w w2) := HB.out.trans (D2.out.mono HB.out.size)
    have r2 := (HR.out.later D2.out) k hlt
    obtain ⟨r2c, r2f⟩ := r2
    have F2 : Hid (RowAt (w2.setCell ⟨w.heap.size, k, none⟩ (.int .i64 (tyJoinV L f g))) w.heap.size ll (fun j => if j < k + 1 then .int .i64 (jn L us xs j) else .int .i64 0)) := ((HR.out.later D2.out).set k _).congr (fun j _ => by
      by_cases e : j = k
      · subst e; rw [if_pos rfl, if_pos (by omega), HE.out]
      · by_cases e2 : j < k
        · rw [if_neg e, if_pos e2, if_pos (by omega)]
        · rw [if_neg e, if_neg e2, if_neg (by omega)])
    simp only [Nat.lt_irrefl, if_false] at r2c
    clear hb2
    go_wp2_with fail
    refine hK.out _ _ (KS.out _ D2.out) (fun hHeld2 => ?_)
    clear hK K
    try simp only [Act.put, List.getElem_toArray, List.getElem_cons_zero, List.getElem_cons_succ, List.setIfInBounds_toArray, List.set_cons_zero, List.set_cons_succ]
    refine wpAnyH_take (i := 12) (v := .pointer (some ⟨w.heap.size, 0 + k, none⟩)) rfl (by kernel_rfl) (by kernel_rfl) (by kernel_rfl) (fun _ _ _ h => h) (Or.inl ⟨by kernel_rfl, by (intro x hSx; (try dsimp only at hSx); go_simp)⟩) (by assumption) ?_
    try simp only [Act.put, List.getElem_toArray, List.getElem_cons_zero, List.getElem_cons_succ, List.setIfInBounds_toArray, List.set_cons_zero, List.set_cons_succ]
    refine wpAnyH_ready (rs := [13]) (by kernel_rfl) (by simp) ?_
    refine AllReadyH.cons rfl (fun K hK => ?_) AllReadyH.nil
    go_simp
    refine hK.out _ _ (KT.out _ D2.out _) (fun hHeld3 => ?_)
    clear hK K
    try simp only [Act.put, List.getElem_toArray, List.getElem_cons_zero, List.getElem_cons_succ, List.setIfInBounds_toArray, List.set_cons_zero, List.set_cons_succ]
    refine wpAnyH_done (by kernel_rfl) ?_ _
    clear hHeld hHeld2 hHeld3
    go_wp2_with fail
    exact ⟨⟨k + 1, by omega, by go_num, F2.out, C2.out.setCell (Nat.le_refl _) _, by rw [World.size_setCell]; have := D2.out.size; have := HZ.out; omega⟩, by simp [intOf]; omega⟩

end Go.Proofs.YtkggmcbjpmhmcaaDoor
