/-
  Whether a shape may stand where another one is told: what is said of it, and that the specification says so, in whatever memory; it writes nothing that was there.
-/
import Derived.Test.YtmhhopccgokglaaSameSpec
namespace Go.Proofs.Ytmhhopccgokglaa
open Go.ChangeShapes Go.WideShapes Go.ChangeAt Go.RowKit

/-- Types, one by one. -/
def inL (L : List Cl) (us xs : List Int) : Bool := (List.range us.length).all (fun i => inB L (us.getD i 0) (xs.getD i 0))
def inS (L : List Cl) (s t : Sh) : Bool := decide (s.2.2.length = t.2.2.length) && (inL L s.2.1 t.2.1 && inL L s.2.2 t.2.2)
def TyR (L : List Cl) (us : List Int) : Prop := ∀ x ∈ us, 0 ≤ x ∧ x ≤ 8 + (L.length : Int) - 1
theorem TyR.at {L : List Cl} {us : List Int} (h : TyR L us) (i : Nat) (hi : i < us.length) : 0 ≤ us.getD i 0 ∧ us.getD i 0 ≤ 8 + (L.length : Int) - 1 := by
  rw [List.getD_eq_getElem?_getD, List.getElem?_eq_getElem hi]
  exact h _ (List.getElem_mem hi)
theorem range_no {p : Nat → Bool} {n k : Nat} (hk : k < n) (h : p k = false) : (List.range n).all p = false := by
  rw [List.all_eq_false]
  exact ⟨k, List.mem_range.2 hk, by simp [h]⟩
theorem range_on {p : Nat → Bool} (k : Nat) : (List.range (k + 1)).all p = ((List.range k).all p && p k) := by
  rw [List.range_succ, List.all_append]; simp

set_option maxRecDepth 100000 in
set_option maxHeartbeats 8000000 in
theorem l11InSpec (a : Option Addr) (len cap : Nat) (x0 : Bool) (la : Option Addr) (ll lc : Nat) (ka : Option Addr) (kl kc : Nat) (y0 : Bool) (ma : Option Addr) (ml mc : Nat) (na : Option Addr) (nl nc : Nat) (us vs xs ys : List Int) (L : List Cl) (w : World) {D E P Q S T : Nat → Prop}
    (h : ClsAt D E w a len L) (ok : clsOk L = true) (hu : IntsAt P w la ll us) (hv : IntsAt Q w ka kl vs) (hx : IntsAt S w ma ml xs) (hy : IntsAt T w na nl ys) (hll : ll ≤ ml) (tu : TyR L us) (tv : TyR L vs) (tx : TyR L xs) (ty : TyR L ys) :
    Calls Try.prog 24 #[.slice a len cap, .agg #[.bool x0, .slice la ll lc, .slice ka kl kc], .agg #[.bool y0, .slice ma ml mc, .slice na nl nc]] w fun e w' => e = .returned (.bool (inS L (x0, us, vs) (y0, xs, ys))) ∧ Below w.heap.size w w' := by
  have H : Hid (ClsAt D E w a len L) := h
  have OK : Hid (clsOk L = true) := ok
  have HS : Hid (L.length = len) := h.size
  have HU : Hid (IntsAt P w la ll us) := hu
  have HV : Hid (IntsAt Q w ka kl vs) := hv
  have HX : Hid (IntsAt S w ma ml xs) := hx
  have HY : Hid (IntsAt T w na nl ys) := hy
  have SU : Hid (us.length = ll) := hu.size
  have SV : Hid (vs.length = kl) := hv.size
  have SX : Hid (xs.length = ml) := hx.size
  have SY : Hid (ys.length = nl) := hy.size
  have ru := hu.room
  have rv := hv.room
  have rx := hx.room
  have ry := hy.room
  have TU : Hid (TyR L us) := tu
  have TV : Hid (TyR L vs) := tv
  have TX : Hid (TyR L xs) := tx
  have TY : Hid (TyR L ys) := ty
  have HF : Hid (inS L (x0, us, vs) (y0, xs, ys) = (decide (kl = nl) && ((List.range ll).all (fun i => inB L (us.getD i 0) (xs.getD i 0)) && (List.range kl).all (fun i => inB L (vs.getD i 0) (ys.getD i 0))))) := by
    show _ = _
    unfold inS inL
    simp only
    rw [SU.out, SV.out, SY.out]
  clear h ok hu hv hx hy tu tv tx ty
  by_cases h2 : kl = nl
  case neg =>
    have e2 : ((kl : Int) != (nl : Int)) = true := by simp; omega
    go_enter Try.func24, Try.ntmps24
    go_wp2_with fail
    go_ret
    exact ⟨by rw [HF.out, decide_eq_false h2]; rfl, by go_grown⟩
  subst h2
  have e2 : ((kl : Int) != (kl : Int)) = false := by simp
  have HG : Hid (inS L (x0, us, vs) (y0, xs, ys) = ((List.range ll).all (fun i => inB L (us.getD i 0) (xs.getD i 0)) && (List.range kl).all (fun i => inB L (vs.getD i 0) (ys.getD i 0)))) := by show _ = _; rw [HF.out]; simp
  clear HF
  go_enter Try.func24, Try.ntmps24
  go_wp2_with fail

  go_loopw [7] (fun t wr => ∃ k : Nat, k ≤ ll ∧ t = .int .i64 k ∧ (List.range k).all (fun i => inB L (us.getD i 0) (xs.getD i 0)) = true ∧ ∃ n, wr = ((w.alloc (.cells #[.bool x0, .slice la ll lc, .slice ka kl kc] 31)).alloc (.cells #[.bool y0, .slice ma ml mc, .slice na kl nc] 31)).drewN n) (fun t _ => ll - (intOf t).toNat)
  case atStart => exact ⟨0, Nat.zero_le _, rfl, rfl, 0, rfl⟩
  case round =>
    obtain ⟨k, hk, rfl, hall, n, rfl⟩ := hrel
    have HA : Hid ((List.range k).all (fun i => inB L (us.getD i 0) (xs.getD i 0)) = true) := hall
    clear hall
    by_cases hlt : k < ll
    · obtain ⟨b1, o1, rfl, hc1⟩ : ∃ b off, la = some ⟨b, off, none⟩ ∧ w.cell? ⟨b, off + k, none⟩ = some (.int .i64 (us.getD k 0)) := by
        rcases HU.out.cells with h0 | ⟨b, off, ha, _, hcs⟩
        · omega
        · exact ⟨b, off, ha, hcs k hlt⟩
      obtain ⟨b2, o2, rfl, hc2⟩ : ∃ b off, ma = some ⟨b, off, none⟩ ∧ w.cell? ⟨b, off + k, none⟩ = some (.int .i64 (xs.getD k 0)) := by
        rcases HX.out.cells with h0 | ⟨b, off, ha, _, hcs⟩
        · omega
        · exact ⟨b, off, ha, hcs k (by omega)⟩
      have hf := TU.out.at k (by rw [SU.out]; exact hlt)
      have hg := TX.out.at k (by rw [SX.out]; omega)
      rw [HS.out] at hf hg
      have HE : Hid (∀ r, inB L (us.getD k 0) (xs.getD k 0) = r → (fun i => inB L (us.getD i 0) (xs.getD i 0)) k = r) := fun r h => h
      generalize us.getD k 0 = f at hc1 hf HE
      generalize xs.getD k 0 = g at hc2 hg HE
      have hltI : (k : Int) < (ll : Int) := by omega
      have hltI2 : (k : Int) < (ml : Int) := by omega
      have KS : Hid (∀ x : World, x.heap = ((w.alloc (.cells #[.bool x0, .slice (some ⟨b1, o1, none⟩) ll lc, .slice ka kl kc] 31)).alloc (.cells #[.bool y0, .slice (some ⟨b2, o2, none⟩) ml mc, .slice na kl nc] 31)).heap → x.cell? ⟨w.heap.size, 1, none⟩ = some (.slice (some ⟨b1, o1, none⟩) ll lc) ∧ x.cell? ⟨w.heap.size + 1, 1, none⟩ = some (.slice (some ⟨b2, o2, none⟩) ml mc) ∧ x.cell? ⟨b1, o1 + k, none⟩ = some (.int .i64 f) ∧ x.cell? ⟨b2, o2 + k, none⟩ = some (.int .i64 g)) := fun x hx =>
        ⟨(cell_heap hx _ _).trans (two_first rfl), (cell_heap hx _ _).trans (two_second rfl), (cell_heap hx _ _).trans (two_elder hc1), (cell_heap hx _ _).trans (two_elder hc2)⟩
      have BW : Hid (Below w.heap.size w ((w.alloc (.cells #[.bool x0, .slice (some ⟨b1, o1, none⟩) ll lc, .slice ka kl kc] 31)).alloc (.cells #[.bool y0, .slice (some ⟨b2, o2, none⟩) ml mc, .slice na kl nc] 31))) := ((Below.refl _ _).alloc (Nat.le_refl _) _).alloc (by simp) _
      clear hc1 hc2
      cases hI : inB L f g
      · have HN : Hid ((List.range ll).all (fun i => inB L (us.getD i 0) (xs.getD i 0)) = false) := range_no hlt (HE.out _ hI)
        go_wp2_with fail
        refine wp_region_held_drew (S := fun x => x.cell? ⟨w.heap.size, 1, none⟩ = some (.slice (some ⟨b1, o1, none⟩) ll lc) ∧ x.cell? ⟨w.heap.size + 1, 1, none⟩ = some (.slice (some ⟨b2, o2, none⟩) ml mc) ∧ x.cell? ⟨b1, o1 + k, none⟩ = some (.int .i64 f) ∧ x.cell? ⟨b2, o2 + k, none⟩ = some (.int .i64 g)) (by kernel_rfl) ?_ (fun hHeld => ?_)
        · exact KS.out _ rfl
        refine wpAnyH_take (i := 0) (v := .slice a len cap) rfl (by kernel_rfl) (by kernel_rfl) (by kernel_rfl) (fun _ _ _ h => h) (Or.inl ⟨by kernel_rfl, by (intro x hSx; (try dsimp only at hSx); go_simp)⟩) (by assumption) ?_
        try simp only [Act.put, List.getElem_toArray, List.getElem_cons_zero, List.setIfInBounds_toArray, List.set_cons_zero, List.set_cons_succ]
        refine wpAnyH_take (i := 1) (v := .pointer (some ⟨w.heap.size, 1, none⟩)) rfl (by kernel_rfl) (by kernel_rfl) (by kernel_rfl) (fun _ _ _ h => h) (Or.inl ⟨by kernel_rfl, by (intro x hSx; (try dsimp only at hSx); go_simp)⟩) (by assumption) ?_
        try simp only [Act.put, List.getElem_toArray, List.getElem_cons_zero, List.getElem_cons_succ, List.setIfInBounds_toArray, List.set_cons_zero, List.set_cons_succ]
        refine wpAnyH_take (i := 2) (v := .slice (some ⟨b1, o1, none⟩) ll lc) rfl (by kernel_rfl) (by kernel_rfl) (by kernel_rfl) (fun _ _ _ h => h) (Or.inl ⟨by kernel_rfl, by (intro x hSx; (try dsimp only at hSx); go_simp)⟩) (by assumption) ?_
        try simp only [Act.put, List.getElem_toArray, List.getElem_cons_zero, List.getElem_cons_succ, List.setIfInBounds_toArray, List.set_cons_zero, List.set_cons_succ]
        refine wpAnyH_take (i := 3) (v := .int .i64 k) rfl (by kernel_rfl) (by kernel_rfl) (by kernel_rfl) (fun _ _ _ h => h) (Or.inl ⟨by kernel_rfl, by (intro x hSx; (try dsimp only at hSx); go_simp)⟩) (by assumption) ?_
        try simp only [Act.put, List.getElem_toArray, List.getElem_cons_zero, List.getElem_cons_succ, List.setIfInBounds_toArray, List.set_cons_zero, List.set_cons_succ]
        refine wpAnyH_take (i := 4) (v := .pointer (some ⟨b1, o1 + k, none⟩)) rfl (by kernel_rfl) (by kernel_rfl) (by kernel_rfl) (fun _ _ _ h => h) (Or.inl ⟨by kernel_rfl, by (intro x hSx; (try dsimp only at hSx); go_simp)⟩) (by assumption) ?_
        try simp only [Act.put, List.getElem_toArray, List.getElem_cons_zero, List.getElem_cons_succ, List.setIfInBounds_toArray, List.set_cons_zero, List.set_cons_succ]
        refine wpAnyH_take (i := 5) (v := .int .i64 f) rfl (by kernel_rfl) (by kernel_rfl) (by kernel_rfl) (fun _ _ _ h => h) (Or.inl ⟨by kernel_rfl, by (intro x hSx; (try dsimp only at hSx); go_simp)⟩) (by assumption) ?_
        try simp only [Act.put, List.getElem_toArray, List.getElem_cons_zero, List.getElem_cons_succ, List.setIfInBounds_toArray, List.set_cons_zero, List.set_cons_succ]
        refine wpAnyH_take (i := 6) (v := .pointer (some ⟨w.heap.size + 1, 1, none⟩)) rfl (by kernel_rfl) (by kernel_rfl) (by kernel_rfl) (fun _ _ _ h => h) (Or.inl ⟨by kernel_rfl, by (intro x hSx; (try dsimp only at hSx); go_simp)⟩) (by assumption) ?_
        try simp only [Act.put, List.getElem_toArray, List.getElem_cons_zero, List.getElem_cons_succ, List.setIfInBounds_toArray, List.set_cons_zero, List.set_cons_succ]
        refine wpAnyH_take (i := 7) (v := .slice (some ⟨b2, o2, none⟩) ml mc) rfl (by kernel_rfl) (by kernel_rfl) (by kernel_rfl) (fun _ _ _ h => h) (Or.inl ⟨by kernel_rfl, by (intro x hSx; (try dsimp only at hSx); go_simp)⟩) (by assumption) ?_
        try simp only [Act.put, List.getElem_toArray, List.getElem_cons_zero, List.getElem_cons_succ, List.setIfInBounds_toArray, List.set_cons_zero, List.set_cons_succ]
        refine wpAnyH_take (i := 8) (v := .int .i64 k) rfl (by kernel_rfl) (by kernel_rfl) (by kernel_rfl) (fun _ _ _ h => h) (Or.inl ⟨by kernel_rfl, by (intro x hSx; (try dsimp only at hSx); go_simp)⟩) (by assumption) ?_
        try simp only [Act.put, List.getElem_toArray, List.getElem_cons_zero, List.getElem_cons_succ, List.setIfInBounds_toArray, List.set_cons_zero, List.set_cons_succ]
        refine wpAnyH_take (i := 9) (v := .pointer (some ⟨b2, o2 + k, none⟩)) rfl (by kernel_rfl) (by kernel_rfl) (by kernel_rfl) (fun _ _ _ h => h) (Or.inl ⟨by kernel_rfl, by (intro x hSx; (try dsimp only at hSx); go_simp)⟩) (by assumption) ?_
        try simp only [Act.put, List.getElem_toArray, List.getElem_cons_zero, List.getElem_cons_succ, List.setIfInBounds_toArray, List.set_cons_zero, List.set_cons_succ]
        refine wpAnyH_take (i := 10) (v := .int .i64 g) rfl (by kernel_rfl) (by kernel_rfl) (by kernel_rfl) (fun _ _ _ h => h) (Or.inl ⟨by kernel_rfl, by (intro x hSx; (try dsimp only at hSx); go_simp)⟩) (by assumption) ?_
        try simp only [Act.put, List.getElem_toArray, List.getElem_cons_zero, List.getElem_cons_succ, List.setIfInBounds_toArray, List.set_cons_zero, List.set_cons_succ]
        refine wpAnyH_ready (rs := [11]) (by kernel_rfl) (by simp) ?_
        refine AllReadyH.cons rfl (fun K hK => ?_) AllReadyH.nil
        go_simp
        go_at_call 43
        refine (l2InSpec _ _ _ _ _ L _ (H.out.later (below_drewN (below_drewN BW.out n) 1)) OK.out hf.1 hf.2 hg.1 hg.2).mono ?_
        rintro e w2 ⟨rfl, hw2⟩
        subst hw2
        rw [hI]
        go_wp2_with fail
        refine hK.out _ _ (KS.out _ rfl) (fun hHeld2 => ?_)
        clear hK K
        try simp only [Act.put, List.getElem_toArray, List.getElem_cons_zero, List.getElem_cons_succ, List.setIfInBounds_toArray, List.set_cons_zero, List.set_cons_succ]
        refine wpAnyH_take (i := 12) (v := .bool true) rfl (by kernel_rfl) (by kernel_rfl) (by kernel_rfl) (fun _ _ _ h => h) (Or.inl ⟨by kernel_rfl, by (intro x hSx; (try dsimp only at hSx); go_simp)⟩) (by assumption) ?_
        try simp only [Act.put, List.getElem_toArray, List.getElem_cons_zero, List.getElem_cons_succ, List.setIfInBounds_toArray, List.set_cons_zero, List.set_cons_succ]
        refine wpAnyH_done (by kernel_rfl) ?_ _
        clear hHeld hHeld2
        go_wp2_with fail
        go_ret
        exact ⟨by rw [HG.out, HN.out]; rfl, below_drewN (below_drewN BW.out n) 1⟩
      · go_wp2_with fail
        refine wp_region_held_drew (S := fun x => x.cell? ⟨w.heap.size, 1, none⟩ = some (.slice (some ⟨b1, o1, none⟩) ll lc) ∧ x.cell? ⟨w.heap.size + 1, 1, none⟩ = some (.slice (some ⟨b2, o2, none⟩) ml mc) ∧ x.cell? ⟨b1, o1 + k, none⟩ = some (.int .i64 f) ∧ x.cell? ⟨b2, o2 + k, none⟩ = some (.int .i64 g)) (by kernel_rfl) ?_ (fun hHeld => ?_)
        · exact KS.out _ rfl
        refine wpAnyH_take (i := 0) (v := .slice a len cap) rfl (by kernel_rfl) (by kernel_rfl) (by kernel_rfl) (fun _ _ _ h => h) (Or.inl ⟨by kernel_rfl, by (intro x hSx; (try dsimp only at hSx); go_simp)⟩) (by assumption) ?_
        try simp only [Act.put, List.getElem_toArray, List.getElem_cons_zero, List.setIfInBounds_toArray, List.set_cons_zero, List.set_cons_succ]
        refine wpAnyH_take (i := 1) (v := .pointer (some ⟨w.heap.size, 1, none⟩)) rfl (by kernel_rfl) (by kernel_rfl) (by kernel_rfl) (fun _ _ _ h => h) (Or.inl ⟨by kernel_rfl, by (intro x hSx; (try dsimp only at hSx); go_simp)⟩) (by assumption) ?_
        try simp only [Act.put, List.getElem_toArray, List.getElem_cons_zero, List.getElem_cons_succ, List.setIfInBounds_toArray, List.set_cons_zero, List.set_cons_succ]
        refine wpAnyH_take (i := 2) (v := .slice (some ⟨b1, o1, none⟩) ll lc) rfl (by kernel_rfl) (by kernel_rfl) (by kernel_rfl) (fun _ _ _ h => h) (Or.inl ⟨by kernel_rfl, by (intro x hSx; (try dsimp only at hSx); go_simp)⟩) (by assumption) ?_
        try simp only [Act.put, List.getElem_toArray, List.getElem_cons_zero, List.getElem_cons_succ, List.setIfInBounds_toArray, List.set_cons_zero, List.set_cons_succ]
        refine wpAnyH_take (i := 3) (v := .int .i64 k) rfl (by kernel_rfl) (by kernel_rfl) (by kernel_rfl) (fun _ _ _ h => h) (Or.inl ⟨by kernel_rfl, by (intro x hSx; (try dsimp only at hSx); go_simp)⟩) (by assumption) ?_
        try simp only [Act.put, List.getElem_toArray, List.getElem_cons_zero, List.getElem_cons_succ, List.setIfInBounds_toArray, List.set_cons_zero, List.set_cons_succ]
        refine wpAnyH_take (i := 4) (v := .pointer (some ⟨b1, o1 + k, none⟩)) rfl (by kernel_rfl) (by kernel_rfl) (by kernel_rfl) (fun _ _ _ h => h) (Or.inl ⟨by kernel_rfl, by (intro x hSx; (try dsimp only at hSx); go_simp)⟩) (by assumption) ?_
        try simp only [Act.put, List.getElem_toArray, List.getElem_cons_zero, List.getElem_cons_succ, List.setIfInBounds_toArray, List.set_cons_zero, List.set_cons_succ]
        refine wpAnyH_take (i := 5) (v := .int .i64 f) rfl (by kernel_rfl) (by kernel_rfl) (by kernel_rfl) (fun _ _ _ h => h) (Or.inl ⟨by kernel_rfl, by (intro x hSx; (try dsimp only at hSx); go_simp)⟩) (by assumption) ?_
        try simp only [Act.put, List.getElem_toArray, List.getElem_cons_zero, List.getElem_cons_succ, List.setIfInBounds_toArray, List.set_cons_zero, List.set_cons_succ]
        refine wpAnyH_take (i := 6) (v := .pointer (some ⟨w.heap.size + 1, 1, none⟩)) rfl (by kernel_rfl) (by kernel_rfl) (by kernel_rfl) (fun _ _ _ h => h) (Or.inl ⟨by kernel_rfl, by (intro x hSx; (try dsimp only at hSx); go_simp)⟩) (by assumption) ?_
        try simp only [Act.put, List.getElem_toArray, List.getElem_cons_zero, List.getElem_cons_succ, List.setIfInBounds_toArray, List.set_cons_zero, List.set_cons_succ]
        refine wpAnyH_take (i := 7) (v := .slice (some ⟨b2, o2, none⟩) ml mc) rfl (by kernel_rfl) (by kernel_rfl) (by kernel_rfl) (fun _ _ _ h => h) (Or.inl ⟨by kernel_rfl, by (intro x hSx; (try dsimp only at hSx); go_simp)⟩) (by assumption) ?_
        try simp only [Act.put, List.getElem_toArray, List.getElem_cons_zero, List.getElem_cons_succ, List.setIfInBounds_toArray, List.set_cons_zero, List.set_cons_succ]
        refine wpAnyH_take (i := 8) (v := .int .i64 k) rfl (by kernel_rfl) (by kernel_rfl) (by kernel_rfl) (fun _ _ _ h => h) (Or.inl ⟨by kernel_rfl, by (intro x hSx; (try dsimp only at hSx); go_simp)⟩) (by assumption) ?_
        try simp only [Act.put, List.getElem_toArray, List.getElem_cons_zero, List.getElem_cons_succ, List.setIfInBounds_toArray, List.set_cons_zero, List.set_cons_succ]
        refine wpAnyH_take (i := 9) (v := .pointer (some ⟨b2, o2 + k, none⟩)) rfl (by kernel_rfl) (by kernel_rfl) (by kernel_rfl) (fun _ _ _ h => h) (Or.inl ⟨by kernel_rfl, by (intro x hSx; (try dsimp only at hSx); go_simp)⟩) (by assumption) ?_
        try simp only [Act.put, List.getElem_toArray, List.getElem_cons_zero, List.getElem_cons_succ, List.setIfInBounds_toArray, List.set_cons_zero, List.set_cons_succ]
        refine wpAnyH_take (i := 10) (v := .int .i64 g) rfl (by kernel_rfl) (by kernel_rfl) (by kernel_rfl) (fun _ _ _ h => h) (Or.inl ⟨by kernel_rfl, by (intro x hSx; (try dsimp only at hSx); go_simp)⟩) (by assumption) ?_
        try simp only [Act.put, List.getElem_toArray, List.getElem_cons_zero, List.getElem_cons_succ, List.setIfInBounds_toArray, List.set_cons_zero, List.set_cons_succ]
        refine wpAnyH_ready (rs := [11]) (by kernel_rfl) (by simp) ?_
        refine AllReadyH.cons rfl (fun K hK => ?_) AllReadyH.nil
        go_simp
        go_at_call 43
        refine (l2InSpec _ _ _ _ _ L _ (H.out.later (below_drewN (below_drewN BW.out n) 1)) OK.out hf.1 hf.2 hg.1 hg.2).mono ?_
        rintro e w2 ⟨rfl, hw2⟩
        subst hw2
        rw [hI]
        go_wp2_with fail
        refine hK.out _ _ (KS.out _ rfl) (fun hHeld2 => ?_)
        clear hK K
        try simp only [Act.put, List.getElem_toArray, List.getElem_cons_zero, List.getElem_cons_succ, List.setIfInBounds_toArray, List.set_cons_zero, List.set_cons_succ]
        refine wpAnyH_take (i := 12) (v := .bool false) rfl (by kernel_rfl) (by kernel_rfl) (by kernel_rfl) (fun _ _ _ h => h) (Or.inl ⟨by kernel_rfl, by (intro x hSx; (try dsimp only at hSx); go_simp)⟩) (by assumption) ?_
        try simp only [Act.put, List.getElem_toArray, List.getElem_cons_zero, List.getElem_cons_succ, List.setIfInBounds_toArray, List.set_cons_zero, List.set_cons_succ]
        refine wpAnyH_done (by kernel_rfl) ?_ _
        clear hHeld hHeld2
        go_wp2_with fail
        exact ⟨⟨k + 1, by omega, by go_num, by rw [range_on, HA.out, HE.out _ hI]; rfl, n + 1, rfl⟩, by simp [intOf]; omega⟩
    · have ek : k = ll := by omega
      subst ek
      have HJ : Hid (inS L (x0, us, vs) (y0, xs, ys) = (List.range kl).all (fun i => inB L (vs.getD i 0) (ys.getD i 0))) := by show _ = _; rw [HG.out, HA.out]; rfl
      clear HA HG hlt hk
      obtain ⟨k0, rfl⟩ : ∃ k0, k0 = k := ⟨k, rfl⟩
      obtain ⟨n0, rfl⟩ : ∃ n0, n0 = n := ⟨n, rfl⟩
      go_wp2_with fail
      go_loopw [8] (fun t wr => ∃ k : Nat, k ≤ kl ∧ t = .int .i64 k ∧ (List.range k).all (fun i => inB L (vs.getD i 0) (ys.getD i 0)) = true ∧ ∃ n, wr = ((w.alloc (.cells #[.bool x0, .slice la k0 lc, .slice ka kl kc] 31)).alloc (.cells #[.bool y0, .slice ma ml mc, .slice na kl nc] 31)).drewN n) (fun t _ => kl - (intOf t).toNat)
      case atStart => exact ⟨0, Nat.zero_le _, rfl, rfl, n0, rfl⟩
      case round =>
        obtain ⟨k, hk, rfl, hall, n, rfl⟩ := hrel
        have HA : Hid ((List.range k).all (fun i => inB L (vs.getD i 0) (ys.getD i 0)) = true) := hall
        clear hall
        by_cases hlt : k < kl
        · obtain ⟨b1, o1, rfl, hc1⟩ : ∃ b off, ka = some ⟨b, off, none⟩ ∧ w.cell? ⟨b, off + k, none⟩ = some (.int .i64 (vs.getD k 0)) := by
            rcases HV.out.cells with h0 | ⟨b, off, ha, _, hcs⟩
            · omega
            · exact ⟨b, off, ha, hcs k hlt⟩
          obtain ⟨b2, o2, rfl, hc2⟩ : ∃ b off, na = some ⟨b, off, none⟩ ∧ w.cell? ⟨b, off + k, none⟩ = some (.int .i64 (ys.getD k 0)) := by
            rcases HY.out.cells with h0 | ⟨b, off, ha, _, hcs⟩
            · omega
            · exact ⟨b, off, ha, hcs k (by omega)⟩
          have hf := TV.out.at k (by rw [SV.out]; exact hlt)
          have hg := TY.out.at k (by rw [SY.out]; omega)
          rw [HS.out] at hf hg
          have HE : Hid (∀ r, inB L (vs.getD k 0) (ys.getD k 0) = r → (fun i => inB L (vs.getD i 0) (ys.getD i 0)) k = r) := fun r h => h
          generalize vs.getD k 0 = f at hc1 hf HE
          generalize ys.getD k 0 = g at hc2 hg HE
          have hltI : (k : Int) < (kl : Int) := by omega
          have hltI2 : (k : Int) < (kl : Int) := by omega
          have KS : Hid (∀ x : World, x.heap = ((w.alloc (.cells #[.bool x0, .slice la k0 lc, .slice (some ⟨b1, o1, none⟩) kl kc] 31)).alloc (.cells #[.bool y0, .slice ma ml mc, .slice (some ⟨b2, o2, none⟩) kl nc] 31)).heap → x.cell? ⟨w.heap.size, 2, none⟩ = some (.slice (some ⟨b1, o1, none⟩) kl kc) ∧ x.cell? ⟨w.heap.size + 1, 2, none⟩ = some (.slice (some ⟨b2, o2, none⟩) kl nc) ∧ x.cell? ⟨b1, o1 + k, none⟩ = some (.int .i64 f) ∧ x.cell? ⟨b2, o2 + k, none⟩ = some (.int .i64 g)) := fun x hx =>
            ⟨(cell_heap hx _ _).trans (two_first rfl), (cell_heap hx _ _).trans (two_second rfl), (cell_heap hx _ _).trans (two_elder hc1), (cell_heap hx _ _).trans (two_elder hc2)⟩
          have BW : Hid (Below w.heap.size w ((w.alloc (.cells #[.bool x0, .slice la k0 lc, .slice (some ⟨b1, o1, none⟩) kl kc] 31)).alloc (.cells #[.bool y0, .slice ma ml mc, .slice (some ⟨b2, o2, none⟩) kl nc] 31))) := ((Below.refl _ _).alloc (Nat.le_refl _) _).alloc (by simp) _
          clear hc1 hc2
          cases hI : inB L f g
          · have HN : Hid ((List.range kl).all (fun i => inB L (vs.getD i 0) (ys.getD i 0)) = false) := range_no hlt (HE.out _ hI)
            go_wp2_with fail
            refine wp_region_held_drew (S := fun x => x.cell? ⟨w.heap.size, 2, none⟩ = some (.slice (some ⟨b1, o1, none⟩) kl kc) ∧ x.cell? ⟨w.heap.size + 1, 2, none⟩ = some (.slice (some ⟨b2, o2, none⟩) kl nc) ∧ x.cell? ⟨b1, o1 + k, none⟩ = some (.int .i64 f) ∧ x.cell? ⟨b2, o2 + k, none⟩ = some (.int .i64 g)) (by kernel_rfl) ?_ (fun hHeld => ?_)
            · exact KS.out _ rfl
            refine wpAnyH_take (i := 0) (v := .slice a len cap) rfl (by kernel_rfl) (by kernel_rfl) (by kernel_rfl) (fun _ _ _ h => h) (Or.inl ⟨by kernel_rfl, by (intro x hSx; (try dsimp only at hSx); go_simp)⟩) (by assumption) ?_
            try simp only [Act.put, List.getElem_toArray, List.getElem_cons_zero, List.setIfInBounds_toArray, List.set_cons_zero, List.set_cons_succ]
            refine wpAnyH_take (i := 1) (v := .pointer (some ⟨w.heap.size, 2, none⟩)) rfl (by kernel_rfl) (by kernel_rfl) (by kernel_rfl) (fun _ _ _ h => h) (Or.inl ⟨by kernel_rfl, by (intro x hSx; (try dsimp only at hSx); go_simp)⟩) (by assumption) ?_
            try simp only [Act.put, List.getElem_toArray, List.getElem_cons_zero, List.getElem_cons_succ, List.setIfInBounds_toArray, List.set_cons_zero, List.set_cons_succ]
            refine wpAnyH_take (i := 2) (v := .slice (some ⟨b1, o1, none⟩) kl kc) rfl (by kernel_rfl) (by kernel_rfl) (by kernel_rfl) (fun _ _ _ h => h) (Or.inl ⟨by kernel_rfl, by (intro x hSx; (try dsimp only at hSx); go_simp)⟩) (by assumption) ?_
            try simp only [Act.put, List.getElem_toArray, List.getElem_cons_zero, List.getElem_cons_succ, List.setIfInBounds_toArray, List.set_cons_zero, List.set_cons_succ]
            refine wpAnyH_take (i := 3) (v := .int .i64 k) rfl (by kernel_rfl) (by kernel_rfl) (by kernel_rfl) (fun _ _ _ h => h) (Or.inl ⟨by kernel_rfl, by (intro x hSx; (try dsimp only at hSx); go_simp)⟩) (by assumption) ?_
            try simp only [Act.put, List.getElem_toArray, List.getElem_cons_zero, List.getElem_cons_succ, List.setIfInBounds_toArray, List.set_cons_zero, List.set_cons_succ]
            refine wpAnyH_take (i := 4) (v := .pointer (some ⟨b1, o1 + k, none⟩)) rfl (by kernel_rfl) (by kernel_rfl) (by kernel_rfl) (fun _ _ _ h => h) (Or.inl ⟨by kernel_rfl, by (intro x hSx; (try dsimp only at hSx); go_simp)⟩) (by assumption) ?_
            try simp only [Act.put, List.getElem_toArray, List.getElem_cons_zero, List.getElem_cons_succ, List.setIfInBounds_toArray, List.set_cons_zero, List.set_cons_succ]
            refine wpAnyH_take (i := 5) (v := .int .i64 f) rfl (by kernel_rfl) (by kernel_rfl) (by kernel_rfl) (fun _ _ _ h => h) (Or.inl ⟨by kernel_rfl, by (intro x hSx; (try dsimp only at hSx); go_simp)⟩) (by assumption) ?_
            try simp only [Act.put, List.getElem_toArray, List.getElem_cons_zero, List.getElem_cons_succ, List.setIfInBounds_toArray, List.set_cons_zero, List.set_cons_succ]
            refine wpAnyH_take (i := 6) (v := .pointer (some ⟨w.heap.size + 1, 2, none⟩)) rfl (by kernel_rfl) (by kernel_rfl) (by kernel_rfl) (fun _ _ _ h => h) (Or.inl ⟨by kernel_rfl, by (intro x hSx; (try dsimp only at hSx); go_simp)⟩) (by assumption) ?_
            try simp only [Act.put, List.getElem_toArray, List.getElem_cons_zero, List.getElem_cons_succ, List.setIfInBounds_toArray, List.set_cons_zero, List.set_cons_succ]
            refine wpAnyH_take (i := 7) (v := .slice (some ⟨b2, o2, none⟩) kl nc) rfl (by kernel_rfl) (by kernel_rfl) (by kernel_rfl) (fun _ _ _ h => h) (Or.inl ⟨by kernel_rfl, by (intro x hSx; (try dsimp only at hSx); go_simp)⟩) (by assumption) ?_
            try simp only [Act.put, List.getElem_toArray, List.getElem_cons_zero, List.getElem_cons_succ, List.setIfInBounds_toArray, List.set_cons_zero, List.set_cons_succ]
            refine wpAnyH_take (i := 8) (v := .int .i64 k) rfl (by kernel_rfl) (by kernel_rfl) (by kernel_rfl) (fun _ _ _ h => h) (Or.inl ⟨by kernel_rfl, by (intro x hSx; (try dsimp only at hSx); go_simp)⟩) (by assumption) ?_
            try simp only [Act.put, List.getElem_toArray, List.getElem_cons_zero, List.getElem_cons_succ, List.setIfInBounds_toArray, List.set_cons_zero, List.set_cons_succ]
            refine wpAnyH_take (i := 9) (v := .pointer (some ⟨b2, o2 + k, none⟩)) rfl (by kernel_rfl) (by kernel_rfl) (by kernel_rfl) (fun _ _ _ h => h) (Or.inl ⟨by kernel_rfl, by (intro x hSx; (try dsimp only at hSx); go_simp)⟩) (by assumption) ?_
            try simp only [Act.put, List.getElem_toArray, List.getElem_cons_zero, List.getElem_cons_succ, List.setIfInBounds_toArray, List.set_cons_zero, List.set_cons_succ]
            refine wpAnyH_take (i := 10) (v := .int .i64 g) rfl (by kernel_rfl) (by kernel_rfl) (by kernel_rfl) (fun _ _ _ h => h) (Or.inl ⟨by kernel_rfl, by (intro x hSx; (try dsimp only at hSx); go_simp)⟩) (by assumption) ?_
            try simp only [Act.put, List.getElem_toArray, List.getElem_cons_zero, List.getElem_cons_succ, List.setIfInBounds_toArray, List.set_cons_zero, List.set_cons_succ]
            refine wpAnyH_ready (rs := [11]) (by kernel_rfl) (by simp) ?_
            refine AllReadyH.cons rfl (fun K hK => ?_) AllReadyH.nil
            go_simp
            go_at_call 43
            refine (l2InSpec _ _ _ _ _ L _ (H.out.later (below_drewN (below_drewN BW.out n) 1)) OK.out hf.1 hf.2 hg.1 hg.2).mono ?_
            rintro e w2 ⟨rfl, hw2⟩
            subst hw2
            rw [hI]
            go_wp2_with fail
            refine hK.out _ _ (KS.out _ rfl) (fun hHeld2 => ?_)
            clear hK K
            try simp only [Act.put, List.getElem_toArray, List.getElem_cons_zero, List.getElem_cons_succ, List.setIfInBounds_toArray, List.set_cons_zero, List.set_cons_succ]
            refine wpAnyH_take (i := 12) (v := .bool true) rfl (by kernel_rfl) (by kernel_rfl) (by kernel_rfl) (fun _ _ _ h => h) (Or.inl ⟨by kernel_rfl, by (intro x hSx; (try dsimp only at hSx); go_simp)⟩) (by assumption) ?_
            try simp only [Act.put, List.getElem_toArray, List.getElem_cons_zero, List.getElem_cons_succ, List.setIfInBounds_toArray, List.set_cons_zero, List.set_cons_succ]
            refine wpAnyH_done (by kernel_rfl) ?_ _
            clear hHeld hHeld2
            go_wp2_with fail
            go_ret
            exact ⟨by rw [HJ.out, HN.out]; rfl, below_drewN (below_drewN BW.out n) 1⟩
          · go_wp2_with fail
            refine wp_region_held_drew (S := fun x => x.cell? ⟨w.heap.size, 2, none⟩ = some (.slice (some ⟨b1, o1, none⟩) kl kc) ∧ x.cell? ⟨w.heap.size + 1, 2, none⟩ = some (.slice (some ⟨b2, o2, none⟩) kl nc) ∧ x.cell? ⟨b1, o1 + k, none⟩ = some (.int .i64 f) ∧ x.cell? ⟨b2, o2 + k, none⟩ = some (.int .i64 g)) (by kernel_rfl) ?_ (fun hHeld => ?_)
            · exact KS.out _ rfl
            refine wpAnyH_take (i := 0) (v := .slice a len cap) rfl (by kernel_rfl) (by kernel_rfl) (by kernel_rfl) (fun _ _ _ h => h) (Or.inl ⟨by kernel_rfl, by (intro x hSx; (try dsimp only at hSx); go_simp)⟩) (by assumption) ?_
            try simp only [Act.put, List.getElem_toArray, List.getElem_cons_zero, List.setIfInBounds_toArray, List.set_cons_zero, List.set_cons_succ]
            refine wpAnyH_take (i := 1) (v := .pointer (some ⟨w.heap.size, 2, none⟩)) rfl (by kernel_rfl) (by kernel_rfl) (by kernel_rfl) (fun _ _ _ h => h) (Or.inl ⟨by kernel_rfl, by (intro x hSx; (try dsimp only at hSx); go_simp)⟩) (by assumption) ?_
            try simp only [Act.put, List.getElem_toArray, List.getElem_cons_zero, List.getElem_cons_succ, List.setIfInBounds_toArray, List.set_cons_zero, List.set_cons_succ]
            refine wpAnyH_take (i := 2) (v := .slice (some ⟨b1, o1, none⟩) kl kc) rfl (by kernel_rfl) (by kernel_rfl) (by kernel_rfl) (fun _ _ _ h => h) (Or.inl ⟨by kernel_rfl, by (intro x hSx; (try dsimp only at hSx); go_simp)⟩) (by assumption) ?_
            try simp only [Act.put, List.getElem_toArray, List.getElem_cons_zero, List.getElem_cons_succ, List.setIfInBounds_toArray, List.set_cons_zero, List.set_cons_succ]
            refine wpAnyH_take (i := 3) (v := .int .i64 k) rfl (by kernel_rfl) (by kernel_rfl) (by kernel_rfl) (fun _ _ _ h => h) (Or.inl ⟨by kernel_rfl, by (intro x hSx; (try dsimp only at hSx); go_simp)⟩) (by assumption) ?_
            try simp only [Act.put, List.getElem_toArray, List.getElem_cons_zero, List.getElem_cons_succ, List.setIfInBounds_toArray, List.set_cons_zero, List.set_cons_succ]
            refine wpAnyH_take (i := 4) (v := .pointer (some ⟨b1, o1 + k, none⟩)) rfl (by kernel_rfl) (by kernel_rfl) (by kernel_rfl) (fun _ _ _ h => h) (Or.inl ⟨by kernel_rfl, by (intro x hSx; (try dsimp only at hSx); go_simp)⟩) (by assumption) ?_
            try simp only [Act.put, List.getElem_toArray, List.getElem_cons_zero, List.getElem_cons_succ, List.setIfInBounds_toArray, List.set_cons_zero, List.set_cons_succ]
            refine wpAnyH_take (i := 5) (v := .int .i64 f) rfl (by kernel_rfl) (by kernel_rfl) (by kernel_rfl) (fun _ _ _ h => h) (Or.inl ⟨by kernel_rfl, by (intro x hSx; (try dsimp only at hSx); go_simp)⟩) (by assumption) ?_
            try simp only [Act.put, List.getElem_toArray, List.getElem_cons_zero, List.getElem_cons_succ, List.setIfInBounds_toArray, List.set_cons_zero, List.set_cons_succ]
            refine wpAnyH_take (i := 6) (v := .pointer (some ⟨w.heap.size + 1, 2, none⟩)) rfl (by kernel_rfl) (by kernel_rfl) (by kernel_rfl) (fun _ _ _ h => h) (Or.inl ⟨by kernel_rfl, by (intro x hSx; (try dsimp only at hSx); go_simp)⟩) (by assumption) ?_
            try simp only [Act.put, List.getElem_toArray, List.getElem_cons_zero, List.getElem_cons_succ, List.setIfInBounds_toArray, List.set_cons_zero, List.set_cons_succ]
            refine wpAnyH_take (i := 7) (v := .slice (some ⟨b2, o2, none⟩) kl nc) rfl (by kernel_rfl) (by kernel_rfl) (by kernel_rfl) (fun _ _ _ h => h) (Or.inl ⟨by kernel_rfl, by (intro x hSx; (try dsimp only at hSx); go_simp)⟩) (by assumption) ?_
            try simp only [Act.put, List.getElem_toArray, List.getElem_cons_zero, List.getElem_cons_succ, List.setIfInBounds_toArray, List.set_cons_zero, List.set_cons_succ]
            refine wpAnyH_take (i := 8) (v := .int .i64 k) rfl (by kernel_rfl) (by kernel_rfl) (by kernel_rfl) (fun _ _ _ h => h) (Or.inl ⟨by kernel_rfl, by (intro x hSx; (try dsimp only at hSx); go_simp)⟩) (by assumption) ?_
            try simp only [Act.put, List.getElem_toArray, List.getElem_cons_zero, List.getElem_cons_succ, List.setIfInBounds_toArray, List.set_cons_zero, List.set_cons_succ]
            refine wpAnyH_take (i := 9) (v := .pointer (some ⟨b2, o2 + k, none⟩)) rfl (by kernel_rfl) (by kernel_rfl) (by kernel_rfl) (fun _ _ _ h => h) (Or.inl ⟨by kernel_rfl, by (intro x hSx; (try dsimp only at hSx); go_simp)⟩) (by assumption) ?_
            try simp only [Act.put, List.getElem_toArray, List.getElem_cons_zero, List.getElem_cons_succ, List.setIfInBounds_toArray, List.set_cons_zero, List.set_cons_succ]
            refine wpAnyH_take (i := 10) (v := .int .i64 g) rfl (by kernel_rfl) (by kernel_rfl) (by kernel_rfl) (fun _ _ _ h => h) (Or.inl ⟨by kernel_rfl, by (intro x hSx; (try dsimp only at hSx); go_simp)⟩) (by assumption) ?_
            try simp only [Act.put, List.getElem_toArray, List.getElem_cons_zero, List.getElem_cons_succ, List.setIfInBounds_toArray, List.set_cons_zero, List.set_cons_succ]
            refine wpAnyH_ready (rs := [11]) (by kernel_rfl) (by simp) ?_
            refine AllReadyH.cons rfl (fun K hK => ?_) AllReadyH.nil
            go_simp
            go_at_call 43
            refine (l2InSpec _ _ _ _ _ L _ (H.out.later (below_drewN (below_drewN BW.out n) 1)) OK.out hf.1 hf.2 hg.1 hg.2).mono ?_
            rintro e w2 ⟨rfl, hw2⟩
            subst hw2
            rw [hI]
            go_wp2_with fail
            refine hK.out _ _ (KS.out _ rfl) (fun hHeld2 => ?_)
            clear hK K
            try simp only [Act.put, List.getElem_toArray, List.getElem_cons_zero, List.getElem_cons_succ, List.setIfInBounds_toArray, List.set_cons_zero, List.set_cons_succ]
            refine wpAnyH_take (i := 12) (v := .bool false) rfl (by kernel_rfl) (by kernel_rfl) (by kernel_rfl) (fun _ _ _ h => h) (Or.inl ⟨by kernel_rfl, by (intro x hSx; (try dsimp only at hSx); go_simp)⟩) (by assumption) ?_
            try simp only [Act.put, List.getElem_toArray, List.getElem_cons_zero, List.getElem_cons_succ, List.setIfInBounds_toArray, List.set_cons_zero, List.set_cons_succ]
            refine wpAnyH_done (by kernel_rfl) ?_ _
            clear hHeld hHeld2
            go_wp2_with fail
            exact ⟨⟨k + 1, by omega, by go_num, by rw [range_on, HA.out, HE.out _ hI]; rfl, n + 1, rfl⟩, by simp [intOf]; omega⟩
        · have ek : k = kl := by omega
          subst ek
          go_wp2_with fail
          go_ret
          exact ⟨by rw [HJ.out, HA.out]; rfl, below_drewN (by go_grown) n⟩

end Go.Proofs.Ytmhhopccgokglaa
