/-
  Whether two shapes fit, and whether one may stand where the other is told: the program says what is said of it, in whatever memory; it writes nothing that was there.
-/
import Derived.Test.YtkggmcbjpmhmcaaDoorFitSpec
import Derived.Test.YtkggmcbjpmhmcaaDoorShpImpl
import Derived.Test.YtkggmcbjpmhmcaaDoorImplI
namespace Go.Proofs.YtkggmcbjpmhmcaaDoor
open Go.ChangeShapes Go.WideShapes Go.ChangeAt Go.RowKit

def fitK (n : Nat) (s t : Sh) : Bool := (((s.1 && t.1) && decide (s.2.2.length = t.2.2.length)) && shK n s.2.1.length s) && shK n s.2.1.length t
def allInB (L : List Cl) (us xs : List Int) : Bool := (List.range us.length).all (fun i => tyInB L (us.getD i 0) (xs.getD i 0))
theorem fit_eq {L : List Cl} (ok : clsOk L = true) (s t : Sh) : fitB L s t = fitK L.length s t := by
  unfold fitB fitK
  rw [shB_K, shB_K, ok]
  cases s.1 <;> cases t.1 <;> cases decide (s.2.2.length = t.2.2.length) <;> cases shK L.length s.2.1.length s <;> cases shK L.length s.2.1.length t <;> rfl
theorem allIn_eq {L : List Cl} {us xs : List Int} (ok : clsOk L = true) (hl : us.length ≤ xs.length) (hu : ∀ x ∈ us, Ty L x) (hx : ∀ x ∈ xs, Ty L x) : allInB L us xs = inL L us xs := by
  unfold allInB inL
  rw [Bool.eq_iff_iff, List.all_eq_true, List.all_eq_true]
  have h : ∀ i ∈ List.range us.length, tyInB L (us.getD i 0) (xs.getD i 0) = inB L (us.getD i 0) (xs.getD i 0) := fun i hi => by
    have hi := List.mem_range.1 hi
    rw [List.getD_eq_getElem?_getD, List.getD_eq_getElem?_getD, List.getElem?_eq_getElem hi, List.getElem?_eq_getElem (by omega)]
    simp only [Option.getD_some]
    rw [tyInB, (hu _ (List.getElem_mem hi)).tyB ok, (hx _ (List.getElem_mem (by omega))).tyB ok]
    rfl
  exact ⟨fun k i hi => by rw [← h i hi]; exact k i hi, fun k i hi => by rw [h i hi]; exact k i hi⟩

set_option maxRecDepth 100000 in
set_option maxHeartbeats 8000000 in
theorem fitImpl (a : Option Addr) (len cap : Nat) (x0 : Bool) (la : Option Addr) (ll lc : Nat) (ka : Option Addr) (kl kc : Nat) (y0 : Bool) (ma : Option Addr) (ml mc : Nat) (na : Option Addr) (nl nc : Nat) (us vs xs ys : List Int) (L : List Cl) (w : World) {D E P Q S T : Nat → Prop}
    (h : ClsAt D E w a len L) (hu : IntsAt P w la ll us) (hv : IntsAt Q w ka kl vs) (hx : IntsAt S w ma ml xs) (hy : IntsAt T w na nl ys) :
    Calls Tryd.prog 42 #[.slice a len cap, .agg #[.bool x0, .slice la ll lc, .slice ka kl kc], .agg #[.bool y0, .slice ma ml mc, .slice na nl nc]] w fun e w' => e = .returned (.bool (fitK len (x0, us, vs) (y0, xs, ys))) ∧ Below w.heap.size w w' := by
  have H : Hid (ClsAt D E w a len L) := h
  have HS : Hid (L.length = len) := h.size
  have hr := h.room
  have HU : Hid (IntsAt P w la ll us) := hu
  have HV : Hid (IntsAt Q w ka kl vs) := hv
  have HX : Hid (IntsAt S w ma ml xs) := hx
  have HY : Hid (IntsAt T w na nl ys) := hy
  have SU : Hid (us.length = ll) := hu.size
  have SV : Hid (vs.length = kl) := hv.size
  have SX : Hid (xs.length = ml) := hx.size
  have SY : Hid (ys.length = nl) := hy.size
  have ru := hu.room
  have rv := hv.room
  have rx := hx.room
  have ry := hy.room
  have HF : Hid (fitK len (x0, us, vs) (y0, xs, ys) = ((((x0 && y0) && ((kl : Int) == (nl : Int))) && shK len ll (x0, us, vs)) && shK len ll (y0, xs, ys))) := by
    show _ = _
    unfold fitK
    simp only
    rw [SU.out, SV.out, SY.out, show ((kl : Int) == (nl : Int)) = decide (kl = nl) by rw [Bool.eq_iff_iff]; simp; omega]
  have KC : Hid (∀ x : World, Below (w.heap.size + 1 + 1) ((w.alloc (.cells #[.bool x0, .slice la ll lc, .slice ka kl kc] 26)).alloc (.cells #[.bool y0, .slice ma ml mc, .slice na nl nc] 26)) x → x.cell? ⟨w.heap.size, 0, none⟩ = some (.bool x0) ∧ x.cell? ⟨w.heap.size, 1, none⟩ = some (.slice la ll lc) ∧ x.cell? ⟨w.heap.size, 2, none⟩ = some (.slice ka kl kc) ∧ x.cell? ⟨w.heap.size + 1, 0, none⟩ = some (.bool y0) ∧ x.cell? ⟨w.heap.size + 1, 1, none⟩ = some (.slice ma ml mc) ∧ x.cell? ⟨w.heap.size + 1, 2, none⟩ = some (.slice na nl nc)) :=
    fun x hb => ⟨later2 hb (two_first rfl), later2 hb (two_first rfl), later2 hb (two_first rfl), later2 hb (two_second rfl), later2 hb (two_second rfl), later2 hb (two_second rfl)⟩
  have B0 : Hid (Below w.heap.size w ((w.alloc (.cells #[.bool x0, .slice la ll lc, .slice ka kl kc] 26)).alloc (.cells #[.bool y0, .slice ma ml mc, .slice na nl nc] 26))) := ((Below.refl _ _).alloc (Nat.le_refl _) _).alloc (by simp) _
  clear h hu hv hx hy
  cases x0
  · go_enter Tryd.func42, Tryd.ntmps42
    go_wp2_with fail
    go_ret
    exact ⟨by rw [HF.out]; rfl, by go_grown⟩
  cases y0
  · go_enter Tryd.func42, Tryd.ntmps42
    go_wp2_with fail
    go_ret
    exact ⟨by rw [HF.out]; rfl, by go_grown⟩
  cases h2 : ((kl : Int) == (nl : Int))
  · go_enter Tryd.func42, Tryd.ntmps42
    go_wp2_with fail
    go_ret
    exact ⟨by rw [HF.out, h2]; rfl, by go_grown⟩
  go_enter Tryd.func42, Tryd.ntmps42
  go_wp2_with fail
  refine (shapeKImpl _ _ _ _ _ _ _ _ _ _ (true, us, vs) _ hr (HU.out.later B0.out) (HV.out.later B0.out)).mono ?_
  rintro e w1 ⟨rfl, hb1⟩
  have B1 : Hid (Below (w.heap.size + 1 + 1) ((w.alloc (.cells #[.bool true, .slice la ll lc, .slice ka kl kc] 26)).alloc (.cells #[.bool true, .slice ma ml mc, .slice na nl nc] 26)) w1) := by show Below _ _ _; simpa using hb1
  obtain ⟨p0, p1, p2, p3, p4, p5⟩ := KC.out w1 B1.out
  have C1 : Hid (Below w.heap.size w w1) := below2 B1.out
  clear hb1
  cases hs : shK len ll (true, us, vs)
  · go_wp2_with fail
    go_ret
    exact ⟨by rw [HF.out, h2, hs]; rfl, C1.out⟩
  go_wp2_with fail
  refine (shapeKImpl _ _ _ _ _ _ _ _ _ _ (true, xs, ys) _ hr (HX.out.later C1.out) (HY.out.later C1.out)).mono ?_
  rintro e w2 ⟨rfl, hb2⟩
  have C2 : Hid (Below w.heap.size w w2) := C1.out.trans (hb2.mono C1.out.size)
  clear p0 p1 p2 p3 p4 p5 hb2
  go_wp2_with fail
  go_ret
  exact ⟨by rw [HF.out, h2, hs]; rfl, C2.out⟩

set_option maxRecDepth 100000 in
set_option maxHeartbeats 8000000 in
theorem allInImpl (a : Option Addr) (len cap : Nat) (la : Option Addr) (ll lc : Nat) (ma : Option Addr) (ml mc : Nat) (us xs : List Int) (L : List Cl) (w : World) {D E P S : Nat → Prop}
    (h : ClsAt D E w a len L) (ok : clsOk L = true) (hu : IntsAt P w la ll us) (hx : IntsAt S w ma ml xs) (hll : ll ≤ ml) :
    Calls Tryd.prog 50 #[.slice a len cap, .slice la ll lc, .slice ma ml mc] w fun e w' => e = .returned (.bool (allInB L us xs)) ∧ Below w.heap.size w w' := by
  have H : Hid (ClsAt D E w a len L) := h
  have OK : Hid (clsOk L = true) := ok
  have HU : Hid (IntsAt P w la ll us) := hu
  have HX : Hid (IntsAt S w ma ml xs) := hx
  have SU : Hid (us.length = ll) := hu.size
  have ru := hu.room
  have rx := hx.room
  have HF : Hid (allInB L us xs = (List.range ll).all (fun i => tyInB L (us.getD i 0) (xs.getD i 0))) := by show _ = _; rw [allInB, SU.out]
  clear h ok hu hx
  go_enter Tryd.func50, Tryd.ntmps50
  go_wp2_with fail
  go_loopw [10] (fun t wr => ∃ k : Nat, k ≤ ll ∧ t = .int .i64 k ∧ (List.range k).all (fun i => tyInB L (us.getD i 0) (xs.getD i 0)) = true ∧ Below w.heap.size w wr) (fun t _ => ll - (intOf t).toNat)
  case atStart => exact ⟨0, Nat.zero_le _, rfl, rfl, Below.refl _ _⟩
  case round =>
    obtain ⟨k, hk, rfl, hall, hb⟩ := hrel
    have HA : Hid ((List.range k).all (fun i => tyInB L (us.getD i 0) (xs.getD i 0)) = true) := hall
    have HB : Hid (Below w.heap.size w wr) := hb
    clear hall hb
    by_cases hlt : k < ll
    · obtain ⟨b1, o1, rfl, hc1⟩ : ∃ b off, la = some ⟨b, off, none⟩ ∧ wr.cell? ⟨b, off + k, none⟩ = some (.int .i64 (us.getD k 0)) := by
        rcases (HU.out.later HB.out).cells with h0 | ⟨b, off, ha, _, hcs⟩
        · omega
        · exact ⟨b, off, ha, hcs k hlt⟩
      obtain ⟨b2, o2, rfl, hc2⟩ : ∃ b off, ma = some ⟨b, off, none⟩ ∧ wr.cell? ⟨b, off + k, none⟩ = some (.int .i64 (xs.getD k 0)) := by
        rcases (HX.out.later HB.out).cells with h0 | ⟨b, off, ha, _, hcs⟩
        · omega
        · exact ⟨b, off, ha, hcs k (by omega)⟩
      have hf := HU.out.fits k
      have hg := HX.out.fits k
      have HE : Hid (∀ r, tyInB L (us.getD k 0) (xs.getD k 0) = r → (fun i => tyInB L (us.getD i 0) (xs.getD i 0)) k = r) := fun r h => h
      generalize us.getD k 0 = f at hc1 hf HE
      generalize xs.getD k 0 = g at hc2 hg HE
      have hltI : (k : Int) < (ll : Int) := by omega
      have hltI2 : (k : Int) < (ml : Int) := by omega
      have KS : Hid (∀ x : World, Below wr.heap.size wr x → x.cell? ⟨b1, o1 + k, none⟩ = some (.int .i64 f) ∧ x.cell? ⟨b2, o2 + k, none⟩ = some (.int .i64 g)) := fun x hb => ⟨by rw [hb.cell (p := ⟨b1, o1 + k, none⟩) (World.block_lt_of_cell? wr _ hc1)]; exact hc1, by rw [hb.cell (p := ⟨b2, o2 + k, none⟩) (World.block_lt_of_cell? wr _ hc2)]; exact hc2⟩
      clear hc1 hc2
      cases hI : tyInB L f g
      · have HN : Hid ((List.range ll).all (fun i => tyInB L (us.getD i 0) (xs.getD i 0)) = false) := range_no hlt (HE.out _ hI)
        go_wp2_with fail
        refine wp_region_held_drew (S := fun x => x.cell? ⟨b1, o1 + k, none⟩ = some (.int .i64 f) ∧ x.cell? ⟨b2, o2 + k, none⟩ = some (.int .i64 g)) (by kernel_rfl) ?_ (fun hHeld => ?_)
        · exact KS.out _ (below_drewN (Below.refl _ _) 1)
        refine wpAnyH_take (i := 0) (v := .slice a len cap) rfl (by kernel_rfl) (by kernel_rfl) (by kernel_rfl) (fun _ _ _ h => h) (Or.inl ⟨by kernel_rfl, by (intro x hSx; (try dsimp only at hSx); go_simp)⟩) (by assumption) ?_
        try simp only [Act.put, List.getElem_toArray, List.getElem_cons_zero, List.setIfInBounds_toArray, List.set_cons_zero, List.set_cons_succ]
        refine wpAnyH_take (i := 1) (v := .slice (some ⟨b1, o1, none⟩) ll lc) rfl (by kernel_rfl) (by kernel_rfl) (by kernel_rfl) (fun _ _ _ h => h) (Or.inl ⟨by kernel_rfl, by (intro x hSx; (try dsimp only at hSx); go_simp)⟩) (by assumption) ?_
        try simp only [Act.put, List.getElem_toArray, List.getElem_cons_zero, List.getElem_cons_succ, List.setIfInBounds_toArray, List.set_cons_zero, List.set_cons_succ]
        refine wpAnyH_take (i := 2) (v := .int .i64 k) rfl (by kernel_rfl) (by kernel_rfl) (by kernel_rfl) (fun _ _ _ h => h) (Or.inl ⟨by kernel_rfl, by (intro x hSx; (try dsimp only at hSx); go_simp)⟩) (by assumption) ?_
        try simp only [Act.put, List.getElem_toArray, List.getElem_cons_zero, List.getElem_cons_succ, List.setIfInBounds_toArray, List.set_cons_zero, List.set_cons_succ]
        refine wpAnyH_take (i := 3) (v := .pointer (some ⟨b1, o1 + k, none⟩)) rfl (by kernel_rfl) (by kernel_rfl) (by kernel_rfl) (fun _ _ _ h => h) (Or.inl ⟨by kernel_rfl, by (intro x hSx; (try dsimp only at hSx); go_simp)⟩) (by assumption) ?_
        try simp only [Act.put, List.getElem_toArray, List.getElem_cons_zero, List.getElem_cons_succ, List.setIfInBounds_toArray, List.set_cons_zero, List.set_cons_succ]
        refine wpAnyH_take (i := 4) (v := .int .i64 f) rfl (by kernel_rfl) (by kernel_rfl) (by kernel_rfl) (fun _ _ _ h => h) (Or.inl ⟨by kernel_rfl, by (intro x hSx; (try dsimp only at hSx); go_simp)⟩) (by assumption) ?_
        try simp only [Act.put, List.getElem_toArray, List.getElem_cons_zero, List.getElem_cons_succ, List.setIfInBounds_toArray, List.set_cons_zero, List.set_cons_succ]
        refine wpAnyH_take (i := 5) (v := .slice (some ⟨b2, o2, none⟩) ml mc) rfl (by kernel_rfl) (by kernel_rfl) (by kernel_rfl) (fun _ _ _ h => h) (Or.inl ⟨by kernel_rfl, by (intro x hSx; (try dsimp only at hSx); go_simp)⟩) (by assumption) ?_
        try simp only [Act.put, List.getElem_toArray, List.getElem_cons_zero, List.getElem_cons_succ, List.setIfInBounds_toArray, List.set_cons_zero, List.set_cons_succ]
        refine wpAnyH_take (i := 6) (v := .int .i64 k) rfl (by kernel_rfl) (by kernel_rfl) (by kernel_rfl) (fun _ _ _ h => h) (Or.inl ⟨by kernel_rfl, by (intro x hSx; (try dsimp only at hSx); go_simp)⟩) (by assumption) ?_
        try simp only [Act.put, List.getElem_toArray, List.getElem_cons_zero, List.getElem_cons_succ, List.setIfInBounds_toArray, List.set_cons_zero, List.set_cons_succ]
        refine wpAnyH_take (i := 7) (v := .pointer (some ⟨b2, o2 + k, none⟩)) rfl (by kernel_rfl) (by kernel_rfl) (by kernel_rfl) (fun _ _ _ h => h) (Or.inl ⟨by kernel_rfl, by (intro x hSx; (try dsimp only at hSx); go_simp)⟩) (by assumption) ?_
        try simp only [Act.put, List.getElem_toArray, List.getElem_cons_zero, List.getElem_cons_succ, List.setIfInBounds_toArray, List.set_cons_zero, List.set_cons_succ]
        refine wpAnyH_take (i := 8) (v := .int .i64 g) rfl (by kernel_rfl) (by kernel_rfl) (by kernel_rfl) (fun _ _ _ h => h) (Or.inl ⟨by kernel_rfl, by (intro x hSx; (try dsimp only at hSx); go_simp)⟩) (by assumption) ?_
        try simp only [Act.put, List.getElem_toArray, List.getElem_cons_zero, List.getElem_cons_succ, List.setIfInBounds_toArray, List.set_cons_zero, List.set_cons_succ]
        refine wpAnyH_ready (rs := [9]) (by kernel_rfl) (by simp) ?_
        refine AllReadyH.cons rfl (fun K hK => ?_) AllReadyH.nil
        go_simp
        go_at_call 62
        refine (treeInImpl _ _ _ _ _ L _ (H.out.later (below_drewN HB.out 1)) OK.out hf hg).mono ?_
        rintro e w2 ⟨rfl, hb2⟩
        have D2 : Hid (Below wr.heap.size wr w2) := (below_drewN (Below.refl _ _) 1).trans (hb2.mono (by simp))
        have C2 : Hid (Below w.heap.size w w2) := HB.out.trans (D2.out.mono HB.out.size)
        clear hb2
        rw [hI]
        go_wp2_with fail
        refine hK.out _ _ (KS.out _ D2.out) (fun hHeld2 => ?_)
        clear hK K
        try simp only [Act.put, List.getElem_toArray, List.getElem_cons_zero, List.getElem_cons_succ, List.setIfInBounds_toArray, List.set_cons_zero, List.set_cons_succ]
        refine wpAnyH_take (i := 10) (v := .bool true) rfl (by kernel_rfl) (by kernel_rfl) (by kernel_rfl) (fun _ _ _ h => h) (Or.inl ⟨by kernel_rfl, by (intro x hSx; (try dsimp only at hSx); go_simp)⟩) (by assumption) ?_
        try simp only [Act.put, List.getElem_toArray, List.getElem_cons_zero, List.getElem_cons_succ, List.setIfInBounds_toArray, List.set_cons_zero, List.set_cons_succ]
        refine wpAnyH_done (by kernel_rfl) ?_ _
        clear hHeld hHeld2
        go_wp2_with fail
        go_ret
        exact ⟨by rw [HF.out, HN.out]; rfl, C2.out⟩
      · go_wp2_with fail
        refine wp_region_held_drew (S := fun x => x.cell? ⟨b1, o1 + k, none⟩ = some (.int .i64 f) ∧ x.cell? ⟨b2, o2 + k, none⟩ = some (.int .i64 g)) (by kernel_rfl) ?_ (fun hHeld => ?_)
        · exact KS.out _ (below_drewN (Below.refl _ _) 1)
        refine wpAnyH_take (i := 0) (v := .slice a len cap) rfl (by kernel_rfl) (by kernel_rfl) (by kernel_rfl) (fun _ _ _ h => h) (Or.inl ⟨by kernel_rfl, by (intro x hSx; (try dsimp only at hSx); go_simp)⟩) (by assumption) ?_
        try simp only [Act.put, List.getElem_toArray, List.getElem_cons_zero, List.setIfInBounds_toArray, List.set_cons_zero, List.set_cons_succ]
        refine wpAnyH_take (i := 1) (v := .slice (some ⟨b1, o1, none⟩) ll lc) rfl (by kernel_rfl) (by kernel_rfl) (by kernel_rfl) (fun _ _ _ h => h) (Or.inl ⟨by kernel_rfl, by (intro x hSx; (try dsimp only at hSx); go_simp)⟩) (by assumption) ?_
        try simp only [Act.put, List.getElem_toArray, List.getElem_cons_zero, List.getElem_cons_succ, List.setIfInBounds_toArray, List.set_cons_zero, List.set_cons_succ]
        refine wpAnyH_take (i := 2) (v := .int .i64 k) rfl (by kernel_rfl) (by kernel_rfl) (by kernel_rfl) (fun _ _ _ h => h) (Or.inl ⟨by kernel_rfl, by (intro x hSx; (try dsimp only at hSx); go_simp)⟩) (by assumption) ?_
        try simp only [Act.put, List.getElem_toArray, List.getElem_cons_zero, List.getElem_cons_succ, List.setIfInBounds_toArray, List.set_cons_zero, List.set_cons_succ]
        refine wpAnyH_take (i := 3) (v := .pointer (some ⟨b1, o1 + k, none⟩)) rfl (by kernel_rfl) (by kernel_rfl) (by kernel_rfl) (fun _ _ _ h => h) (Or.inl ⟨by kernel_rfl, by (intro x hSx; (try dsimp only at hSx); go_simp)⟩) (by assumption) ?_
        try simp only [Act.put, List.getElem_toArray, List.getElem_cons_zero, List.getElem_cons_succ, List.setIfInBounds_toArray, List.set_cons_zero, List.set_cons_succ]
        refine wpAnyH_take (i := 4) (v := .int .i64 f) rfl (by kernel_rfl) (by kernel_rfl) (by kernel_rfl) (fun _ _ _ h => h) (Or.inl ⟨by kernel_rfl, by (intro x hSx; (try dsimp only at hSx); go_simp)⟩) (by assumption) ?_
        try simp only [Act.put, List.getElem_toArray, List.getElem_cons_zero, List.getElem_cons_succ, List.setIfInBounds_toArray, List.set_cons_zero, List.set_cons_succ]
        refine wpAnyH_take (i := 5) (v := .slice (some ⟨b2, o2, none⟩) ml mc) rfl (by kernel_rfl) (by kernel_rfl) (by kernel_rfl) (fun _ _ _ h => h) (Or.inl ⟨by kernel_rfl, by (intro x hSx; (try dsimp only at hSx); go_simp)⟩) (by assumption) ?_
        try simp only [Act.put, List.getElem_toArray, List.getElem_cons_zero, List.getElem_cons_succ, List.setIfInBounds_toArray, List.set_cons_zero, List.set_cons_succ]
        refine wpAnyH_take (i := 6) (v := .int .i64 k) rfl (by kernel_rfl) (by kernel_rfl) (by kernel_rfl) (fun _ _ _ h => h) (Or.inl ⟨by kernel_rfl, by (intro x hSx; (try dsimp only at hSx); go_simp)⟩) (by assumption) ?_
        try simp only [Act.put, List.getElem_toArray, List.getElem_cons_zero, List.getElem_cons_succ, List.setIfInBounds_toArray, List.set_cons_zero, List.set_cons_succ]
        refine wpAnyH_take (i := 7) (v := .pointer (some ⟨b2, o2 + k, none⟩)) rfl (by kernel_rfl) (by kernel_rfl) (by kernel_rfl) (fun _ _ _ h => h) (Or.inl ⟨by kernel_rfl, by (intro x hSx; (try dsimp only at hSx); go_simp)⟩) (by assumption) ?_
        try simp only [Act.put, List.getElem_toArray, List.getElem_cons_zero, List.getElem_cons_succ, List.setIfInBounds_toArray, List.set_cons_zero, List.set_cons_succ]
        refine wpAnyH_take (i := 8) (v := .int .i64 g) rfl (by kernel_rfl) (by kernel_rfl) (by kernel_rfl) (fun _ _ _ h => h) (Or.inl ⟨by kernel_rfl, by (intro x hSx; (try dsimp only at hSx); go_simp)⟩) (by assumption) ?_
        try simp only [Act.put, List.getElem_toArray, List.getElem_cons_zero, List.getElem_cons_succ, List.setIfInBounds_toArray, List.set_cons_zero, List.set_cons_succ]
        refine wpAnyH_ready (rs := [9]) (by kernel_rfl) (by simp) ?_
        refine AllReadyH.cons rfl (fun K hK => ?_) AllReadyH.nil
        go_simp
        go_at_call 62
        refine (treeInImpl _ _ _ _ _ L _ (H.out.later (below_drewN HB.out 1)) OK.out hf hg).mono ?_
        rintro e w2 ⟨rfl, hb2⟩
        have D2 : Hid (Below wr.heap.size wr w2) := (below_drewN (Below.refl _ _) 1).trans (hb2.mono (by simp))
        have C2 : Hid (Below w.heap.size w w2) := HB.out.trans (D2.out.mono HB.out.size)
        clear hb2
        rw [hI]
        go_wp2_with fail
        refine hK.out _ _ (KS.out _ D2.out) (fun hHeld2 => ?_)
        clear hK K
        try simp only [Act.put, List.getElem_toArray, List.getElem_cons_zero, List.getElem_cons_succ, List.setIfInBounds_toArray, List.set_cons_zero, List.set_cons_succ]
        refine wpAnyH_take (i := 10) (v := .bool false) rfl (by kernel_rfl) (by kernel_rfl) (by kernel_rfl) (fun _ _ _ h => h) (Or.inl ⟨by kernel_rfl, by (intro x hSx; (try dsimp only at hSx); go_simp)⟩) (by assumption) ?_
        try simp only [Act.put, List.getElem_toArray, List.getElem_cons_zero, List.getElem_cons_succ, List.setIfInBounds_toArray, List.set_cons_zero, List.set_cons_succ]
        refine wpAnyH_done (by kernel_rfl) ?_ _
        clear hHeld hHeld2
        go_wp2_with fail
        exact ⟨⟨k + 1, by omega, by go_num, by rw [range_on, HA.out, HE.out _ hI]; rfl, C2.out⟩, by simp [intOf]; omega⟩
    · have ek : k = ll := by omega
      subst ek
      go_wp2_with fail
      go_ret
      exact ⟨by rw [HF.out, HA.out]; rfl, HB.out⟩

def inK (L : List Cl) (s t : Sh) : Bool := (fitK L.length s t && allInB L s.2.1 t.2.1) && allInB L s.2.2 t.2.2
theorem inK_eq {L : List Cl} (ok : clsOk L = true) (s t : Sh) : inK L s t = shInB L s t := by
  obtain ⟨x0, us, vs⟩ := s
  obtain ⟨y0, xs, ys⟩ := t
  unfold inK shInB
  rw [← fit_eq ok]
  cases hf : fitB L (x0, us, vs) (y0, xs, ys)
  · rfl
  · obtain ⟨rfl, rfl, h1, h2, h3⟩ := fit_of hf
    have h4 := h2.len
    simp only at h4
    rw [allIn_eq ok (by simp only; omega) h1.loc h2.loc, allIn_eq ok (by simp only; omega) (fun x hx => (h1.st x hx).1) (fun x hx => (h2.st x hx).1)]
    unfold inS
    simp only
    rw [decide_eq_true h3, Bool.and_assoc]; rfl

set_option maxRecDepth 100000 in
set_option maxHeartbeats 8000000 in
theorem treeShInImpl (a : Option Addr) (len cap : Nat) (x0 : Bool) (la : Option Addr) (ll lc : Nat) (ka : Option Addr) (kl kc : Nat) (y0 : Bool) (ma : Option Addr) (ml mc : Nat) (na : Option Addr) (nl nc : Nat) (us vs xs ys : List Int) (L : List Cl) (w : World) {D E P Q S T : Nat → Prop}
    (h : ClsAt D E w a len L) (hu : IntsAt P w la ll us) (hv : IntsAt Q w ka kl vs) (hx : IntsAt S w ma ml xs) (hy : IntsAt T w na nl ys) (ok : clsOk L = true) :
    Calls Tryd.prog 28 #[.slice a len cap, .agg #[.bool x0, .slice la ll lc, .slice ka kl kc], .agg #[.bool y0, .slice ma ml mc, .slice na nl nc]] w fun e w' => e = .returned (.bool (shInB L (x0, us, vs) (y0, xs, ys))) ∧ Below w.heap.size w w' := by
  have H : Hid (ClsAt D E w a len L) := h
  have HS : Hid (L.length = len) := h.size
  have hr := h.room
  have HU : Hid (IntsAt P w la ll us) := hu
  have HV : Hid (IntsAt Q w ka kl vs) := hv
  have HX : Hid (IntsAt S w ma ml xs) := hx
  have HY : Hid (IntsAt T w na nl ys) := hy
  have SU : Hid (us.length = ll) := hu.size
  have SV : Hid (vs.length = kl) := hv.size
  have SX : Hid (xs.length = ml) := hx.size
  have SY : Hid (ys.length = nl) := hy.size
  have ru := hu.room
  have rv := hv.room
  have rx := hx.room
  have ry := hy.room
  have OK : Hid (clsOk L = true) := ok
  have HF : Hid (shInB L (x0, us, vs) (y0, xs, ys) = ((fitK len (x0, us, vs) (y0, xs, ys) && allInB L us xs) && allInB L vs ys)) := by show _ = _; rw [← inK_eq ok, inK, HS.out]
  have KC : Hid (∀ x : World, Below (w.heap.size + 1 + 1) ((w.alloc (.cells #[.bool x0, .slice la ll lc, .slice ka kl kc] 26)).alloc (.cells #[.bool y0, .slice ma ml mc, .slice na nl nc] 26)) x → x.cell? ⟨w.heap.size, 0, none⟩ = some (.bool x0) ∧ x.cell? ⟨w.heap.size, 1, none⟩ = some (.slice la ll lc) ∧ x.cell? ⟨w.heap.size, 2, none⟩ = some (.slice ka kl kc) ∧ x.cell? ⟨w.heap.size + 1, 0, none⟩ = some (.bool y0) ∧ x.cell? ⟨w.heap.size + 1, 1, none⟩ = some (.slice ma ml mc) ∧ x.cell? ⟨w.heap.size + 1, 2, none⟩ = some (.slice na nl nc)) :=
    fun x hb => ⟨later2 hb (two_first rfl), later2 hb (two_first rfl), later2 hb (two_first rfl), later2 hb (two_second rfl), later2 hb (two_second rfl), later2 hb (two_second rfl)⟩
  have B0 : Hid (Below w.heap.size w ((w.alloc (.cells #[.bool x0, .slice la ll lc, .slice ka kl kc] 26)).alloc (.cells #[.bool y0, .slice ma ml mc, .slice na nl nc] 26))) := ((Below.refl _ _).alloc (Nat.le_refl _) _).alloc (by simp) _
  clear h hu hv hx hy ok
  cases hf : fitK len (x0, us, vs) (y0, xs, ys)
  · go_enter Tryd.func28, Tryd.ntmps28
    go_wp2_with fail
    refine (fitImpl _ _ _ _ _ _ _ _ _ _ _ _ _ _ _ _ _ us vs xs ys L _ (H.out.later B0.out) (HU.out.later B0.out) (HV.out.later B0.out) (HX.out.later B0.out) (HY.out.later B0.out)).mono ?_
    rintro e w1 ⟨rfl, hb1⟩
    have B1 : Hid (Below (w.heap.size + 1 + 1) ((w.alloc (.cells #[.bool x0, .slice la ll lc, .slice ka kl kc] 26)).alloc (.cells #[.bool y0, .slice ma ml mc, .slice na nl nc] 26)) w1) := by show Below _ _ _; simpa using hb1
    obtain ⟨p0, p1, p2, p3, p4, p5⟩ := KC.out w1 B1.out
    have C1 : Hid (Below w.heap.size w w1) := below2 B1.out
    clear hb1
    rw [hf]
    go_wp2_with fail
    go_ret
    exact ⟨by rw [HF.out, hf]; rfl, C1.out⟩
  have HO : Hid (x0 = true ∧ y0 = true ∧ ShR L us.length (true, us, vs) ∧ ShR L us.length (true, xs, ys) ∧ vs.length = ys.length) := fit_of (by rw [fit_eq OK.out, HS.out]; exact hf)
  have hll : ll ≤ ml := by have := HO.out.2.2.2.1.len; simp only at this; rw [SU.out, SX.out] at this; omega
  have hkl : kl ≤ nl := by have := HO.out.2.2.2.2; rw [SV.out, SY.out] at this; omega
  go_enter Tryd.func28, Tryd.ntmps28
  go_wp2_with fail
  refine (fitImpl _ _ _ _ _ _ _ _ _ _ _ _ _ _ _ _ _ us vs xs ys L _ (H.out.later B0.out) (HU.out.later B0.out) (HV.out.later B0.out) (HX.out.later B0.out) (HY.out.later B0.out)).mono ?_
  rintro e w1 ⟨rfl, hb1⟩
  have B1 : Hid (Below (w.heap.size + 1 + 1) ((w.alloc (.cells #[.bool x0, .slice la ll lc, .slice ka kl kc] 26)).alloc (.cells #[.bool y0, .slice ma ml mc, .slice na nl nc] 26)) w1) := by show Below _ _ _; simpa using hb1
  obtain ⟨p0, p1, p2, p3, p4, p5⟩ := KC.out w1 B1.out
  have C1 : Hid (Below w.heap.size w w1) := below2 B1.out
  clear hb1
  rw [hf]
  go_wp2_with fail
  refine (allInImpl _ _ _ _ _ _ _ _ _ us xs L _ (H.out.later C1.out) OK.out (HU.out.later C1.out) (HX.out.later C1.out) hll).mono ?_
  rintro e w2 ⟨rfl, hb2⟩
  have B2 : Hid (Below (w.heap.size + 1 + 1) ((w.alloc (.cells #[.bool x0, .slice la ll lc, .slice ka kl kc] 26)).alloc (.cells #[.bool y0, .slice ma ml mc, .slice na nl nc] 26)) w2) := B1.out.trans (hb2.mono (by have := B1.out.size; simpa using this))
  clear p0 p1 p2 p3 p4 p5 hb2
  obtain ⟨p0, p1, p2, p3, p4, p5⟩ := KC.out w2 B2.out
  have C2 : Hid (Below w.heap.size w w2) := below2 B2.out
  cases hg : allInB L us xs
  · go_wp2_with fail
    go_ret
    exact ⟨by rw [HF.out, hf, hg]; rfl, C2.out⟩
  go_wp2_with fail
  refine (allInImpl _ _ _ _ _ _ _ _ _ vs ys L _ (H.out.later C2.out) OK.out (HV.out.later C2.out) (HY.out.later C2.out) hkl).mono ?_
  rintro e w3 ⟨rfl, hb3⟩
  have C3 : Hid (Below w.heap.size w w3) := C2.out.trans (hb3.mono C2.out.size)
  clear hb3
  go_wp2_with fail
  go_ret
  exact ⟨by rw [HF.out, hf, hg]; rfl, C3.out⟩

set_option maxRecDepth 100000 in
set_option maxHeartbeats 8000000 in
theorem shapeInImpl (a : Option Addr) (len cap : Nat) (x0 : Bool) (la : Option Addr) (ll lc : Nat) (ka : Option Addr) (kl kc : Nat) (y0 : Bool) (ma : Option Addr) (ml mc : Nat) (na : Option Addr) (nl nc : Nat) (us vs xs ys : List Int) (L : List Cl) (w : World) {D E P Q S T : Nat → Prop}
    (h : ClsAt D E w a len L) (hu : IntsAt P w la ll us) (hv : IntsAt Q w ka kl vs) (hx : IntsAt S w ma ml xs) (hy : IntsAt T w na nl ys) :
    Calls Tryd.prog 9 #[.slice a len cap, .agg #[.bool x0, .slice la ll lc, .slice ka kl kc], .agg #[.bool y0, .slice ma ml mc, .slice na nl nc]] w fun e w' => e = .returned (.bool (shInB L (x0, us, vs) (y0, xs, ys))) ∧ Below w.heap.size w w' := by
  have H : Hid (ClsAt D E w a len L) := h
  have HS : Hid (L.length = len) := h.size
  have hr := h.room
  have HU : Hid (IntsAt P w la ll us) := hu
  have HV : Hid (IntsAt Q w ka kl vs) := hv
  have HX : Hid (IntsAt S w ma ml xs) := hx
  have HY : Hid (IntsAt T w na nl ys) := hy
  have SU : Hid (us.length = ll) := hu.size
  have SV : Hid (vs.length = kl) := hv.size
  have SX : Hid (xs.length = ml) := hx.size
  have SY : Hid (ys.length = nl) := hy.size
  have ru := hu.room
  have rv := hv.room
  have rx := hx.room
  have ry := hy.room
  have KC : Hid (∀ x : World, Below (w.heap.size + 1 + 1) ((w.alloc (.cells #[.bool x0, .slice la ll lc, .slice ka kl kc] 26)).alloc (.cells #[.bool y0, .slice ma ml mc, .slice na nl nc] 26)) x → x.cell? ⟨w.heap.size, 0, none⟩ = some (.bool x0) ∧ x.cell? ⟨w.heap.size, 1, none⟩ = some (.slice la ll lc) ∧ x.cell? ⟨w.heap.size, 2, none⟩ = some (.slice ka kl kc) ∧ x.cell? ⟨w.heap.size + 1, 0, none⟩ = some (.bool y0) ∧ x.cell? ⟨w.heap.size + 1, 1, none⟩ = some (.slice ma ml mc) ∧ x.cell? ⟨w.heap.size + 1, 2, none⟩ = some (.slice na nl nc)) :=
    fun x hb => ⟨later2 hb (two_first rfl), later2 hb (two_first rfl), later2 hb (two_first rfl), later2 hb (two_second rfl), later2 hb (two_second rfl), later2 hb (two_second rfl)⟩
  have B0 : Hid (Below w.heap.size w ((w.alloc (.cells #[.bool x0, .slice la ll lc, .slice ka kl kc] 26)).alloc (.cells #[.bool y0, .slice ma ml mc, .slice na nl nc] 26))) := ((Below.refl _ _).alloc (Nat.le_refl _) _).alloc (by simp) _
  clear h hu hv hx hy
  cases hok : clsOk L
  · have HF : Hid (shInB L (x0, us, vs) (y0, xs, ys) = false) := by show _ = _; unfold shInB fitB; rw [shB_K, shB_K, hok]; simp
    go_enter Tryd.func9, Tryd.ntmps9
    go_wp2_with fail
    refine (okImpl _ _ _ L _ (H.out.later B0.out)).mono ?_
    rintro e w1 ⟨rfl, hb1⟩
    have B1 : Hid (Below (w.heap.size + 1 + 1) ((w.alloc (.cells #[.bool x0, .slice la ll lc, .slice ka kl kc] 26)).alloc (.cells #[.bool y0, .slice ma ml mc, .slice na nl nc] 26)) w1) := by show Below _ _ _; simpa using hb1
    obtain ⟨p0, p1, p2, p3, p4, p5⟩ := KC.out w1 B1.out
    have C1 : Hid (Below w.heap.size w w1) := below2 B1.out
    clear hb1
    rw [hok]
    go_wp2_with fail
    go_ret
    exact ⟨by rw [HF.out]; rfl, C1.out⟩
  go_enter Tryd.func9, Tryd.ntmps9
  go_wp2_with fail
  refine (okImpl _ _ _ L _ (H.out.later B0.out)).mono ?_
  rintro e w1 ⟨rfl, hb1⟩
  have B1 : Hid (Below (w.heap.size + 1 + 1) ((w.alloc (.cells #[.bool x0, .slice la ll lc, .slice ka kl kc] 26)).alloc (.cells #[.bool y0, .slice ma ml mc, .slice na nl nc] 26)) w1) := by show Below _ _ _; simpa using hb1
  obtain ⟨p0, p1, p2, p3, p4, p5⟩ := KC.out w1 B1.out
  have C1 : Hid (Below w.heap.size w w1) := below2 B1.out
  clear hb1
  rw [hok]
  go_wp2_with fail
  refine (treeShInImpl _ _ _ _ _ _ _ _ _ _ _ _ _ _ _ _ _ us vs xs ys L _ (H.out.later C1.out) (HU.out.later C1.out) (HV.out.later C1.out) (HX.out.later C1.out) (HY.out.later C1.out) hok).mono ?_
  rintro e w2 ⟨rfl, hb2⟩
  have C2 : Hid (Below w.heap.size w w2) := C1.out.trans (hb2.mono C1.out.size)
  clear hb2
  go_wp2_with fail
  go_ret
  exact ⟨rfl, C2.out⟩

end Go.Proofs.YtkggmcbjpmhmcaaDoor
