/-
  Things in another order, each standing so many places earlier, and values that lead to the same.
-/
import Derived.Test.YtacapffmdmpnkaaAppR
namespace Go.Proofs.Ytacapffmdmpnkaa
open Go.ChangeShapes Go.WideShapes Go.ChangeAt Go.RowKit

/-- By which number a thing stands then. -/
def tnN (n b : Nat) (m : Int) : Int := (m - 1 - b) % n + 1
def tnV (n b : Nat) (v : Vl) : Vl := if v.1 = true ∧ 0 < v.2 then (true, tnN n b v.2) else v
theorem tnV_snoc (n b : Nat) (vs : List Vl) (k : Nat) (x : Vl) (hx : vs[k]? = some x) : (vs.take (k + 1)).map (tnV n b) = (vs.take k).map (tnV n b) ++ [tnV n b x] := by
  rw [List.take_add_one, hx]; simp

set_option maxRecDepth 100000 in
set_option maxHeartbeats 4000000 in
theorem leTurn (a : Option Addr) (l c : Nat) (vs : List Vl) (n b : Nat) (w : World) {D : Nat → Prop} (h : SlAt vaR D w a l vs) (hl : l ≤ 1000) (hn : n ≤ 1000) (hb : b < n) (hv : ∀ v ∈ vs, v.1 = true → v.2 ≤ n) :
    Calls Try.prog 20 #[.slice a l c, .int .i64 n, .int .i64 b] w fun e w' => ∃ ra rc, e = .returned (.slice ra l rc) ∧ w'.ownsRow w.heap.size 32 2 (.slice ra l rc) l (flatV (vs.map (tnV n b))) ∧ Below w.heap.size w w' := by
  have HS : Hid (vs.length = l) := h.size
  have HX : Hid (SlAt vaR D w a l vs) := h
  have HV : Hid (∀ v ∈ vs, v.1 = true → v.2 ≤ n) := hv
  obtain ⟨i0, hi0, hz0, hz1, hz2⟩ := info_parts info_Val
  have hn0 : ((n : Int) == 0) = false := by simp; omega
  have hn0' : ¬ (n : Int) = 0 := by omega
  have hn1 : ((n : Int) == -1) = false := by simp
  clear h hv
  go_enter Try.func20, Try.ntmps20
  go_wp2_with fail
  go_loopw [7, 8] (fun s t wr => ∃ (k : Nat) (xa : Option Addr) (xc : Nat), k ≤ l ∧ t = .int .i64 k ∧ s = .slice xa k xc ∧ wr.ownsRow w.heap.size 32 2 (.slice xa k xc) k (flatV ((vs.take k).map (tnV n b))) ∧ Below w.heap.size w wr) (fun _ t _ => l - (intOf t).toNat)
  case atStart => exact ⟨0, _, _, Nat.zero_le _, rfl, rfl, own_none _ _ _ (Nat.le_refl _) rfl, (Below.refl _ _).alloc (Nat.le_refl _) _⟩
  case round =>
    obtain ⟨k, xa, xc, hk, rfl, rfl, hO, hB⟩ := hrel
    have HO : Hid (wr.ownsRow w.heap.size 32 2 (.slice xa k xc) k (flatV ((vs.take k).map (tnV n b)))) := hO
    have HB : Hid (Below w.heap.size w wr) := hB
    have hsz := hB.size
    clear hO hB
    by_cases hlt : k < l
    · obtain ⟨x, hx⟩ : ∃ x, vs[k]? = some x := ⟨vs[k]'(by rw [HS.out]; exact hlt), List.getElem?_eq_getElem _⟩
      have hxv := HV.out x (List.mem_of_getElem? hx)
      have hsn : Hid ((vs.take (k + 1)).map (tnV n b) = (vs.take k).map (tnV n b) ++ [tnV n b x]) := tnV_snoc n b vs k x hx
      obtain ⟨b1, o1, rfl, _, us, hu, hc⟩ := (HX.out.later HB.out).at k x hx
      obtain ⟨x0, x1⟩ := x
      obtain ⟨_, _, rfl, rfl, rfl, ub1⟩ := hu
      have c0x : wr.cell? ⟨b1, o1 + k * 2, none⟩ = some (.bool x0) := hc 0 _ rfl
      have c1x : wr.cell? ⟨b1, o1 + k * 2 + 1, none⟩ = some (.int .i64 x1) := hc 1 _ rfl
      clear hx hc
      have FIN : Hid (∀ (y0 : Bool) (y1 : Int) (W w6 : World) (v' : Value), tnV n b (x0, x1) = (y0, y1) → Below w.heap.size w W → w6.ownsRow w.heap.size 32 2 v' (k + 1) (flatV ((vs.take k).map (tnV n b)) ++ [.bool y0, .int .i64 y1]) → W.grownBy w6 (Value.slice xa k xc).ownBlock → ∃ (xa : Option Addr) (xc : Nat), v' = .slice xa (k + 1) xc ∧ w6.ownsRow w.heap.size 32 2 (.slice xa (k + 1) xc) (k + 1) (flatV ((vs.take (k + 1)).map (tnV n b))) ∧ Below w.heap.size w w6) := by
        intro y0 y1 W w6 v' ht hW r1 r2
        obtain ⟨g', cap', rfl⟩ := ownsRow_succ r1
        refine ⟨_, _, rfl, ?_, Below.grown hW r2 hW.size (fun b hb => own_ge HO.out b hb.symm)⟩
        rw [hsn.out, ht, flatV_snoc]
        exact r1
      cases x0
      · have ht : Hid (tnV n b (false, x1) = (false, x1)) := by show _ = _; simp [tnV]
        go_wp2_with (at_builtin; refine wpList_append_own _ rfl _ _ 24 rfl w.heap.size 32 i0 _ 2 16 Try.underlying24 hi0 hz0 hz1 hz2 rfl (by decide) (.slice xa k xc) k _ rfl ((HO.out.alloc _).alloc _) ⟨wr.heap.size + 1, 0, none⟩ 1 1 [.bool false, .int .i64 x1] rfl rfl (two_new _ _ _ _ _ (by simp)) (by simp [Value.oneCell']) (by unfold maxLen; omega) (by omega) (by simp; omega) ?_; intro v' w6 r1 r2 _)
        obtain ⟨xa2, xc2, rfl, h1, h2⟩ := FIN.out false _ _ w6 v' ht.out ((HB.out.alloc (by omega) _).alloc (by simp; omega) _) r1 r2
        exact ⟨⟨k + 1, xa2, xc2, by omega, by go_num, rfl, h1, h2⟩, by simp [intOf]; omega⟩
      · have hxn : x1 ≤ n := hxv rfl
        have ub2 : i64B x1 := ub1
        unfold i64B at ub2
        clear hxv ub1
        by_cases hp : 0 < x1
        · have ht : Hid (tnV n b (true, x1) = (true, (x1 - 1 - b) % n + 1)) := by show _ = _; simp [tnV, tnN, hp]
          have hm0 : 0 ≤ (x1 - 1 - b) % n := Int.emod_nonneg _ hn0'
          have hm1 : (x1 - 1 - b) % n < n := Int.emod_lt_of_pos _ (by omega)
          go_wp2_with (at_builtin; refine wpList_append_own _ rfl _ _ 24 rfl w.heap.size 32 i0 _ 2 16 Try.underlying24 hi0 hz0 hz1 hz2 rfl (by decide) (.slice xa k xc) k _ rfl ((HO.out.alloc _).alloc _) ⟨wr.heap.size + 1, 0, none⟩ 1 1 [.bool true, .int .i64 ((x1 - 1 - b) % n + 1)] rfl rfl (two_new _ _ _ _ _ (by simp)) (by simp [Value.oneCell']) (by unfold maxLen; omega) (by omega) (by simp; omega) ?_; intro v' w6 r1 r2 _)
          obtain ⟨xa2, xc2, rfl, h1, h2⟩ := FIN.out true _ _ w6 v' ht.out ((HB.out.alloc (by omega) _).alloc (by simp; omega) _) r1 r2
          exact ⟨⟨k + 1, xa2, xc2, by omega, by go_num, rfl, h1, h2⟩, by simp [intOf]; omega⟩
        · have ht : Hid (tnV n b (true, x1) = (true, x1)) := by show _ = _; simp [tnV, hp]
          go_wp2_with (at_builtin; refine wpList_append_own _ rfl _ _ 24 rfl w.heap.size 32 i0 _ 2 16 Try.underlying24 hi0 hz0 hz1 hz2 rfl (by decide) (.slice xa k xc) k _ rfl ((HO.out.alloc _).alloc _) ⟨wr.heap.size + 1, 0, none⟩ 1 1 [.bool true, .int .i64 x1] rfl rfl (two_new _ _ _ _ _ (by simp)) (by simp [Value.oneCell']) (by unfold maxLen; omega) (by omega) (by simp; omega) ?_; intro v' w6 r1 r2 _)
          obtain ⟨xa2, xc2, rfl, h1, h2⟩ := FIN.out true _ _ w6 v' ht.out ((HB.out.alloc (by omega) _).alloc (by simp; omega) _) r1 r2
          exact ⟨⟨k + 1, xa2, xc2, by omega, by go_num, rfl, h1, h2⟩, by simp [intOf]; omega⟩
    · have ek : k = l := by omega
      subst ek
      go_wp2_with fail
      go_ret
      have := HO.out
      rw [List.take_of_length_le (by rw [HS.out]; exact Nat.le_refl _)] at this
      exact ⟨_, _, rfl, this, HB.out⟩

/-- All things, turned. -/
def tnO (X : List Ob) (b : Nat) (i : Nat) : Ob := ((X.getD ((i + b) % X.length) (0, [])).1, (X.getD ((i + b) % X.length) (0, [])).2.map (tnV X.length b))
def tnX (X : List Ob) (b : Nat) : List Ob := (List.range X.length).map (tnO X b)
theorem tnX_len (X : List Ob) (b : Nat) : (tnX X b).length = X.length := by simp [tnX]
theorem tnX_at (X : List Ob) (b i : Nat) (h : i < X.length) : (tnX X b)[i]? = some (tnO X b i) := by simp [tnX, h]
theorem valB_ref {n : Nat} {v : Vl} (h : valB n v = true) (h1 : v.1 = true) : 0 ≤ v.2 ∧ v.2 ≤ n := by
  obtain ⟨v1, v2⟩ := v
  simp only at h1
  subst h1
  simpa [valB] using h
theorem tn_range {n b : Nat} (hn : 0 < n) (m : Int) : 1 ≤ tnN n b m ∧ tnN n b m ≤ n := by
  unfold tnN
  have h0 : 0 ≤ (m - 1 - b) % (n : Int) := Int.emod_nonneg _ (by omega)
  have h1 : (m - 1 - b) % (n : Int) < n := Int.emod_lt_of_pos _ (by omega)
  omega
theorem tnV_ok {n b : Nat} (hn : 0 < n) {v : Vl} (h : valB n v = true) : valB n (tnV n b v) = true := by
  unfold tnV
  by_cases c : v.1 = true ∧ 0 < v.2
  · rw [if_pos c]
    have := tn_range (n := n) (b := b) hn v.2
    simp [valB]
    omega
  · rw [if_neg c]; exact h
theorem tnV_mv {n b : Nat} {v : Vl} (h : valB n v = true) : tnV n b v = mv (tnN n b) v := by
  unfold tnV mv
  by_cases c : v.1 = true
  · have := valB_ref h c
    by_cases d : 0 < v.2
    · rw [if_pos ⟨c, d⟩, if_pos ⟨c, by omega⟩]
    · rw [if_neg (fun k => d k.2), if_neg (fun k => k.2 (by omega))]
  · rw [if_neg (fun k => c k.1), if_neg (fun k => c k.1)]
theorem tnV_bd {n b : Nat} (hn : 0 < n) (hn2 : n ≤ 1000) {v : Vl} (h : i64B v.2) : i64B (tnV n b v).2 := by
  unfold tnV
  by_cases c : v.1 = true ∧ 0 < v.2
  · rw [if_pos c]
    have := tn_range (n := n) (b := b) hn v.2
    unfold i64B
    simp only
    omega
  · rw [if_neg c]; exact h
theorem tn_inj {n b : Nat} (m k : Int) (hm : 1 ≤ m ∧ m ≤ n) (hk : 1 ≤ k ∧ k ≤ n) (e : tnN n b m = tnN n b k) : m = k := by
  unfold tnN at e
  have e2 : (m - 1 - b) % (n : Int) = (k - 1 - b) % (n : Int) := by omega
  have d : (n : Int) ∣ (m - 1 - b) - (k - 1 - b) := Int.dvd_of_emod_eq_zero (Int.emod_eq_emod_iff_emod_sub_eq_zero.1 e2)
  have d2 : (n : Int) ∣ m - k := by have : (m - 1 - b) - (k - 1 - b) = m - k := by omega
                                    rwa [this] at d
  obtain ⟨q, hq⟩ := d2
  by_cases q0 : q = 0
  · subst q0; simp at hq; omega
  · exfalso
    rcases Int.lt_or_gt_of_ne q0 with hl | hg
    · have : (n : Int) * q ≤ n * (-1) := Int.mul_le_mul_of_nonneg_left (by omega) (by omega)
      omega
    · have : (n : Int) * 1 ≤ n * q := Int.mul_le_mul_of_nonneg_left (by omega) (by omega)
      omega
theorem tn_back {n b : Nat} (hb : b < n) (m : Int) (hm : 1 ≤ m ∧ m ≤ n) : ((tnN n b m).toNat - 1 + b) % n = m.toNat - 1 := by
  have hr := tn_range (n := n) (b := b) (by omega) m
  have e : ((tnN n b m).toNat - 1 : Nat) = ((m - 1 - b) % (n : Int)).toNat := by unfold tnN at *; omega
  by_cases c : (b : Int) ≤ m - 1
  · have e2 : (m - 1 - b) % (n : Int) = m - 1 - b := Int.emod_eq_of_lt (by omega) (by omega)
    rw [e, e2]
    have e3 : (m - 1 - (b : Int)).toNat + b = m.toNat - 1 := by omega
    rw [e3, Nat.mod_eq_of_lt (by omega)]
  · have e2 : (m - 1 - b) % (n : Int) = m - 1 - b + n := by
      rw [← Int.add_emod_right]
      exact Int.emod_eq_of_lt (by omega) (by omega)
    rw [e, e2]
    have e3 : (m - 1 - (b : Int) + n).toNat + b = m.toNat - 1 + n := by omega
    rw [e3, Nat.add_mod_right, Nat.mod_eq_of_lt (by omega)]
theorem SlAt.vbds {D : Nat → Prop} {w : World} {a : Option Addr} {n : Nat} {vs : List Vl} (h : SlAt vaR D w a n vs) : ∀ v ∈ vs, i64B v.2 := by
  intro v hv
  obtain ⟨i, hi⟩ := List.getElem?_of_mem hv
  obtain ⟨_, _, _, _, us, hh, _⟩ := h.at i v hi
  obtain ⟨_, _, _, _, _, ub⟩ := hh
  exact ub
theorem SlAt.obds {D : Nat → Prop} {w : World} {a : Option Addr} {n : Nat} {xs : List Ob} (h : SlAt obR D w a n xs) : ∀ x ∈ xs, ∀ v ∈ x.2, i64B v.2 := by
  intro x hx
  obtain ⟨i, hi⟩ := List.getElem?_of_mem hx
  obtain ⟨_, _, _, _, us, hh, _⟩ := h.at i x hi
  obtain ⟨_, _, _, _, _, _, _, _, h1⟩ := hh
  exact h1.vbds
theorem bdrew {B : Nat} {a w : World} (h : Below B a w) : Below B a w.drew := h.trans ⟨rfl, rfl, rfl, Nat.le_refl _, fun _ _ => rfl⟩
theorem heapB_roots {X : List Ob} {r : List Vl} (ok : heapB X r = true) : ∀ v ∈ r, valB X.length v = true := by
  rw [heapB, Bool.and_eq_true] at ok
  exact List.all_eq_true.1 ok.1
theorem heapB_vals {X : List Ob} {r : List Vl} (ok : heapB X r = true) : ∀ x ∈ X, ∀ v ∈ x.2, valB X.length v = true := by
  rw [heapB, Bool.and_eq_true] at ok
  exact fun x hx => List.all_eq_true.1 (List.all_eq_true.1 ok.2 x hx)
theorem heapB_getD {X : List Ob} {r : List Vl} (ok : heapB X r = true) (i : Nat) : ∀ v ∈ (X.getD i (0, [])).2, valB X.length v = true := by
  rw [List.getD_eq_getElem?_getD]
  cases e : X[i]? with
  | none => simp
  | some x => exact heapB_vals ok x (List.mem_of_getElem? e)
theorem tn_heapB {X : List Ob} {r : List Vl} {b : Nat} (ok : heapB X r = true) (hb : b < X.length) : heapB (tnX X b) (r.map (tnV X.length b)) = true := by
  rw [heapB, Bool.and_eq_true, tnX_len]
  refine ⟨List.all_eq_true.2 fun v hv => ?_, List.all_eq_true.2 fun x hx => List.all_eq_true.2 fun v hv => ?_⟩
  · obtain ⟨u, hu, rfl⟩ := List.mem_map.1 hv
    exact tnV_ok (by omega) (heapB_roots ok u hu)
  · obtain ⟨i, _, rfl⟩ := List.mem_map.1 hx
    obtain ⟨u, hu, rfl⟩ := List.mem_map.1 hv
    exact tnV_ok (by omega) (heapB_getD ok _ u hu)
theorem leads_rng {n : Nat} {vs : List Vl} (h : ∀ v ∈ vs, valB n v = true) : ∀ m ∈ leads vs, 1 ≤ m ∧ m ≤ (n : Int) := by
  intro m hm
  obtain ⟨v, hv, e⟩ := List.mem_filterMap.1 hm
  by_cases c : v.1 = true ∧ v.2 ≠ 0
  · rw [if_pos c] at e
    have := valB_ref (h v hv) c.1
    have e : v.2 = m := by simpa using e
    have := c.2
    omega
  · rw [if_neg c] at e
    cases e
theorem tn_moved {X : List Ob} {r : List Vl} {b : Nat} (ok : heapB X r = true) (hb : b < X.length) : Moved (tnN X.length b) (fun m => 1 ≤ m ∧ m ≤ (X.length : Int)) X r (tnX X b) (r.map (tnV X.length b)) := by
  refine ⟨fun m k hm hk e => tn_inj m k hm hk e, fun m hm => ⟨by omega, by have := tn_range (n := X.length) (b := b) (by omega) m; omega⟩, ?_, fun m hm => ?_, ?_, fun m _ => ?_⟩
  · exact List.map_congr_left fun v hv => tnV_mv (heapB_roots ok v hv)
  · have hr := tn_range (n := X.length) (b := b) (by omega) m
    have hk := tn_back hb m hm
    rw [List.getD_eq_getElem?_getD, tnX_at X b _ (by omega), Option.getD_some, tnO, hk, valsOf]
    have := heapB_getD ok (m.toNat - 1)
    rw [List.map_congr_left fun v hv => tnV_mv (this v hv)]
  · exact leads_rng (heapB_roots ok)
  · exact leads_rng (heapB_getD ok _)
theorem gTurn {X : List Ob} {r : List Vl} {b : Nat} (ok : heapB X r = true) (hb : b < X.length) : gOf (tnX X b) (r.map (tnV X.length b)) = gOf X r ∧ rOf (tnX X b) (r.map (tnV X.length b)) = rOf X r := by
  have od : Ordr X.length (orderOf X r) := ordr_at ok (X.length + 1)
  have hs := (tn_moved ok hb).same ok (by rw [tnX_len]; exact od.le)
  unfold gOf rOf
  rw [if_pos (tn_heapB ok hb), if_pos ok, if_pos (tn_heapB ok hb), if_pos ok]
  exact hs
theorem tn_few {X : List Ob} {r : List Vl} {b : Nat} (f : Few X r) : Few (tnX X b) (r.map (tnV X.length b)) := by
  refine ⟨by rw [tnX_len]; exact f.things, fun x hx => ?_, by rw [List.length_map]; exact f.roots⟩
  obtain ⟨i, _, rfl⟩ := List.mem_map.1 hx
  rw [tnO]
  simp only [List.length_map]
  rw [List.getD_eq_getElem?_getD]
  cases e : X[(i + b) % X.length]? with
  | none => simp
  | some x => exact f.inn x (List.mem_of_getElem? e)

set_option maxRecDepth 100000 in
set_option maxHeartbeats 8000000 in
theorem leTurned (oa : Option Addr) (oc : Nat) (ra : Option Addr) (rc : Nat) (X : List Ob) (r : List Vl) (b : Nat) (w : World) {D E : Nat → Prop} (h : SlAt obR D w oa X.length X) (g : SlAt vaR E w ra r.length r) (f : Few X r) (ok : heapB X r = true) (hb : b < X.length) :
    Calls Try.prog 11 #[.slice oa X.length oc, .slice ra r.length rc, .int .i64 b] w fun e w' => ∃ a c a2 c2, e = .returned (.tuple #[.slice a X.length c, .slice a2 r.length c2]) ∧ SlAt obR (fun _ => True) w' a X.length (tnX X b) ∧ SlAt vaR (fun _ => True) w' a2 r.length (r.map (tnV X.length b)) ∧ Below w.heap.size w w' := by
  have HX : Hid (SlAt obR D w oa X.length X) := h
  have HR : Hid (SlAt vaR E w ra r.length r) := g
  have HV : Hid (∀ i, ∀ v ∈ (X.getD i (0, [])).2, valB X.length v = true) := fun i => heapB_getD ok i
  have HVR : Hid (∀ v ∈ r, valB X.length v = true) := heapB_roots ok
  have FT := f.things
  have FR := f.roots
  have FI : Hid (∀ x ∈ X, x.2.length ≤ 1000) := f.inn
  have HL : Hid (∀ i, i < X.length → (tnX X b)[i]? = some (tnO X b i)) := fun i hi => tnX_at X b i hi
  have HO' : Hid (∀ i x, X[(i + b) % X.length]? = some x → tnO X b i = (x.1, x.2.map (tnV X.length b))) := by
    intro i x hx
    rw [tnO, List.getD_eq_getElem?_getD, hx]
    rfl
  have HIB : Hid (∀ x ∈ tnX X b, x.2.length ≤ 1048576 ∧ ∀ v ∈ x.2, i64B v.2) := by
    intro x hx
    refine ⟨by have := (tn_few (b := b) f).inn x hx; omega, fun v hv => ?_⟩
    obtain ⟨i, _, rfl⟩ := List.mem_map.1 hx
    obtain ⟨u, hu, rfl⟩ := List.mem_map.1 hv
    refine tnV_bd (by omega) FT ?_
    rw [List.getD_eq_getElem?_getD] at hu
    cases e : X[(i + b) % X.length]? with
    | none => rw [e] at hu; simp at hu
    | some x => rw [e] at hu; exact h.obds x (List.mem_of_getElem? e) u hu
  obtain ⟨j0, hj0, yz0, yz1, yz2⟩ := info_parts info_Obj
  have hn0 : ((X.length : Int) == 0) = false := by rw [beq_eq_false_iff_ne]; omega
  have hn0' : ¬ (X.length : Int) = 0 := by omega
  generalize hN : X.length = n at *
  have NN : Hid (X.length = n) := hN
  clear h g ok f hN
  go_enter Try.func11, Try.ntmps11
  go_wp2_with fail
  go_loopw [9, 10] (fun s t wr => ∃ (i : Nat) (xa : Option Addr) (xc : Nat) (L : List Value), i ≤ n ∧ t = .int .i64 i ∧ s = .slice xa i xc ∧ wr.ownsRow w.heap.size 34 2 (.slice xa i xc) i L ∧ OutR wr w.heap.size (tnX X b) i L ∧ Below w.heap.size w wr) (fun _ t _ => n - (intOf t).toNat)
  case atStart => exact ⟨0, _, _, [], Nat.zero_le _, rfl, rfl, own_none _ _ _ (Nat.le_refl _) rfl, ⟨rfl, fun j _ hj => by omega⟩, (Below.refl _ _).alloc (Nat.le_refl _) _⟩
  case round =>
    obtain ⟨i, xa, xc, L, hi, rfl, rfl, hO, hT, hB⟩ := hrel
    have HO : Hid (wr.ownsRow w.heap.size 34 2 (.slice xa i xc) i L) := hO
    have HT : Hid (OutR wr w.heap.size (tnX X b) i L) := hT
    have HB : Hid (Below w.heap.size w wr) := hB
    have hsz := hB.size
    clear hO hT hB
    by_cases hlt : i < n
    · have hm1 : (i + b) % n < n := Nat.mod_lt _ (by omega)
      have hmi : ((i : Int) + b) % n = (((i + b) % n : Nat) : Int) := by norm_cast
      generalize hp : (i + b) % n = p at *
      obtain ⟨x, hx⟩ : ∃ x, X[p]? = some x := ⟨X[p]'(by rw [NN.out]; exact hm1), List.getElem?_eq_getElem _⟩
      have TO : Hid (tnO X b i = (x.1, x.2.map (tnV n b))) := HO'.out i x (by rw [hp]; exact hx)
      have hvx : Hid (∀ v ∈ x.2, v.1 = true → v.2 ≤ n) := fun v hv h1 => (valB_ref (HV.out p v (by rw [List.getD_eq_getElem?_getD, hx]; exact hv)) h1).2
      have hlx := FI.out x (List.mem_of_getElem? hx)
      obtain ⟨b1, o1, rfl, _, us, hu, hc⟩ := (HX.out.later HB.out).at p x hx
      obtain ⟨x0, xs1⟩ := x
      obtain ⟨_, _, rfl, ⟨rfl, ub0⟩, a1, l1, c1, rfl, h1⟩ := hu
      have c0x : wr.cell? ⟨b1, o1 + p * 2, none⟩ = some (.int .i64 x0) := hc 0 _ rfl
      have c1x : wr.cell? ⟨b1, o1 + p * 2 + 1, none⟩ = some (.slice a1 l1 c1) := hc 1 _ rfl
      have hl1 : xs1.length = l1 := h1.size
      have H1 : Hid (SlAt vaR D wr a1 l1 xs1) := h1
      have hl1k : l1 ≤ 1000 := by simp only at hlx; omega
      clear hx hc h1
      have W0 : Hid (Below wr.heap.size wr (wr.alloc (.cells #[.int .i64 x0, .slice a1 l1 c1] 34)).drew) := bdrew ((Below.refl _ _).alloc (Nat.le_refl _) _)
      go_wp2_with fail
      refine wp_region_any (by kernel_rfl) ?_
      change wpAny _ _ _ _ _ _ _ (World.drew _)
      refine wpAny_take (i := 0) (v := .slice xa i xc) rfl (by kernel_rfl) (by kernel_rfl) (by kernel_rfl) (fun _ _ _ h => h) (Or.inl ⟨by rfl, by (intro w; go_simp)⟩) ?_
      try simp only [Act.put, List.getElem_toArray, List.getElem_cons_zero, List.setIfInBounds_toArray, List.set_cons_zero, List.set_cons_succ]
      refine wpAny_take (i := 1) (v := .pointer (some ⟨wr.heap.size, 0, none⟩)) rfl (by kernel_rfl) (by kernel_rfl) (by kernel_rfl) (fun _ _ _ h => h) (Or.inl ⟨by rfl, by (intro w; go_simp)⟩) ?_
      try simp only [Act.put, List.getElem_toArray, List.getElem_cons_zero, List.getElem_cons_succ, List.setIfInBounds_toArray, List.set_cons_zero, List.set_cons_succ]
      refine wpAny_take (i := 3) (v := .pointer (some ⟨wr.heap.size, 1, none⟩)) rfl (by kernel_rfl) (by kernel_rfl) (by kernel_rfl) (fun _ _ _ h => h) (Or.inl ⟨by rfl, by (intro w; go_simp)⟩) ?_
      try simp only [Act.put, List.getElem_toArray, List.getElem_cons_zero, List.getElem_cons_succ, List.setIfInBounds_toArray, List.set_cons_zero, List.set_cons_succ]
      refine wpAny_take (i := 5) (v := .int .i64 n) rfl (by kernel_rfl) (by kernel_rfl) (by kernel_rfl) (fun _ _ _ h => h) (Or.inl ⟨by rfl, by (intro w; go_simp)⟩) ?_
      try simp only [Act.put, List.getElem_toArray, List.getElem_cons_zero, List.getElem_cons_succ, List.setIfInBounds_toArray, List.set_cons_zero, List.set_cons_succ]
      refine wpAny_take (i := 6) (v := .int .i64 b) rfl (by kernel_rfl) (by kernel_rfl) (by kernel_rfl) (fun _ _ _ h => h) (Or.inl ⟨by rfl, by (intro w; go_simp)⟩) ?_
      try simp only [Act.put, List.getElem_toArray, List.getElem_cons_zero, List.getElem_cons_succ, List.setIfInBounds_toArray, List.set_cons_zero, List.set_cons_succ]
      refine wpAny_ready (rs := [2, 4]) (by kernel_rfl) (by simp) ?_
      refine AllReady.cons rfl (fun K hK => ?_) ?_
      · go_simp
        refine hK _ _ ?_
        clear hK K
        try simp only [Act.put, List.getElem_toArray, List.getElem_cons_zero, List.getElem_cons_succ, List.setIfInBounds_toArray, List.set_cons_zero, List.set_cons_succ]
        refine wpAny_ready (rs := [4]) (by kernel_rfl) (by simp) ?_
        refine AllReady.cons rfl (fun K hK => ?_) AllReady.nil
        go_simp
        refine hK _ _ ?_
        clear hK K
        try simp only [Act.put, List.getElem_toArray, List.getElem_cons_zero, List.getElem_cons_succ, List.setIfInBounds_toArray, List.set_cons_zero, List.set_cons_succ]
        refine wpAny_ready (rs := [7]) (by kernel_rfl) (by simp) ?_
        refine AllReady.cons rfl (fun K hK => ?_) AllReady.nil
        go_simp
        go_at_call 20
        refine (leTurn _ _ _ xs1 n b _ (H1.out.later W0.out) (by omega) (by omega) hb hvx.out).mono ?_
        rintro e w5 ⟨ra5, rc5, rfl, h5, hb5⟩
        have g5 : ∀ k, k < wr.heap.size → w5.heap[k]? = wr.heap[k]? := fun k hk => (hb5.block k (by simp [World.drew]; omega)).trans (Below.heap_alloc wr _ k hk)
        have d0 : w5.cell? ⟨wr.heap.size, 0, none⟩ = some (.int .i64 x0) := (hb5.cell (p := ⟨wr.heap.size, 0, none⟩) (by simp [World.drew])).trans (by show (wr.alloc _).cell? _ = _; rw [World.cell?_alloc_at _ _ _ _ rfl]; rfl)
        have s5 : wr.heap.size < w5.heap.size := by have := hb5.size; simp [World.drew] at this; omega
        have s5' : wr.heap.size < w5.heap.size + 1 := by omega
        have own5 := (own_keep' HO.out (fun g hg => g5 g (own_lt' HO.out g hg))).alloc (.cells #[.int .i64 x0, .slice ra5 l1 rc5] 34)
        obtain ⟨v', w6, hrun, r1, r2, _⟩ := run_append_own (P := Try.prog) (w5.alloc (.cells #[.int .i64 x0, .slice ra5 l1 rc5] 34)) w.heap.size 23 23 34 j0 _ 2 32 Try.underlying23 hj0 yz0 yz1 yz2 rfl (by decide) (.slice xa i xc) i _ own5 ⟨w5.heap.size, 0, none⟩ 1 1 [.int .i64 x0, .slice ra5 l1 rc5] rfl (two_new w5 _ _ _ _ rfl) (by simp [Value.oneCell']) (by unfold maxLen; omega) (by omega) (by simp; omega)
        obtain ⟨g', cap', rfl⟩ := ownsRow_succ r1
        have b6 : ∀ g, g < w5.heap.size → some g ≠ (Value.slice xa i xc).ownBlock → w6.heap[g]? = w5.heap[g]? := fun g h1 h2 => (r2.block g (by simp; omega) h2).trans (Below.heap_alloc w5 _ g h1)
        have OL : ∀ g, some g = (Value.slice xa i xc).ownBlock → g < wr.heap.size := fun g hg => own_lt' HO.out g hg.symm
        have hw6 : w6.ownsRow w.heap.size 32 2 (.slice ra5 l1 rc5) l1 (flatV (xs1.map (tnV n b))) := own_low (own_keep' h5 (fun g hg => b6 g (own_lt' h5 g hg) (fun e => by have := OL g e; have := own_ge h5 g hg.symm; simp [World.drew] at this; omega))) (by simp [World.drew]; omega)
        have ho6 : OutR w6 w.heap.size (tnX X b) i L := HT.out.keep (fun g cur hg => (b6 g (by have := (Array.getElem?_eq_some_iff.1 hg).1; omega) (fun e => by
          rcases HO.out.2 with ⟨e1, _⟩ | ⟨g2, cap2, cur2, e1, _, hg2, _⟩
          · rw [e1] at e; simp [Value.ownBlock] at e
          · rw [e1] at e
            obtain rfl : g = g2 := by simpa [Value.ownBlock] using e
            rw [hg2] at hg
            cases hg)).trans (g5 g (Array.getElem?_eq_some_iff.1 hg).1))
        have ho7 : OutR w6 w.heap.size (tnX X b) (i + 1) (L ++ [.int .i64 x0, .slice ra5 l1 rc5]) := ho6.snoc (x := (x0, xs1.map (tnV n b))) (by rw [HL.out i hlt, TO.out]) ub0 (by simp [hl1]) hw6
        have b7 : Below w.heap.size w w6 := Below.grown ((HB.out.trans ((W0.out.trans (hb5.mono (by simp [World.drew]))).mono HB.out.size)).alloc (by omega) _) r2 (by simp; omega) (fun b hb => own_ge HO.out b hb.symm)
        have FIN : Hid (w6.ownsRow w.heap.size 34 2 (.slice (some ⟨g', 0, none⟩) (i + 1) cap') (i + 1) (L ++ [.int .i64 x0, .slice ra5 l1 rc5]) ∧ OutR w6 w.heap.size (tnX X b) (i + 1) (L ++ [.int .i64 x0, .slice ra5 l1 rc5]) ∧ Below w.heap.size w w6) := ⟨r1, ho7, b7⟩
        have HRUN : Hid ((Builtin.append_ #[23, 23] 23 #[.slice xa i xc, .slice (some ⟨w5.heap.size, 0, none⟩) 1 1]).run Try.prog (w5.alloc (.cells #[.int .i64 x0, .slice ra5 l1 rc5] 34)) = .ok (.slice (some ⟨g', 0, none⟩) (i + 1) cap') w6) := hrun
        clear hrun r1 r2 own5 b6 g5 h5 hb5 OL hw6 ho6 ho7 b7
        go_wp2_with fail
        try simp only [Act.put, List.getElem_toArray, List.getElem_cons_zero, List.getElem_cons_succ, List.setIfInBounds_toArray, List.set_cons_zero, List.set_cons_succ]
        refine wpAny_ready (rs := [8]) (by kernel_rfl) (by simp) ?_
        refine AllReady.cons rfl (fun K hK => ?_) AllReady.nil
        go_simp
        refine hK _ _ ?_
        clear hK K
        try simp only [Act.put, List.getElem_toArray, List.getElem_cons_zero, List.getElem_cons_succ, List.setIfInBounds_toArray, List.set_cons_zero, List.set_cons_succ]
        refine wpAny_ready (rs := [9]) (by kernel_rfl) (by simp) ?_
        refine AllReady.cons rfl (fun K hK => ?_) AllReady.nil
        go_simp
        refine hK _ _ ?_
        clear hK K
        try simp only [Act.put, List.getElem_toArray, List.getElem_cons_zero, List.getElem_cons_succ, List.setIfInBounds_toArray, List.set_cons_zero, List.set_cons_succ]
        refine wpAny_ready (rs := [10]) (by kernel_rfl) (by simp) ?_
        refine AllReady.cons rfl (fun K hK => ?_) AllReady.nil
        refine op_appP rfl _ _ _ rfl _ _ _ rfl rfl HRUN.out ?_
        refine hK _ _ ?_
        clear hK K
        try simp only [Act.put, List.getElem_toArray, List.getElem_cons_zero, List.getElem_cons_succ, List.setIfInBounds_toArray, List.set_cons_zero, List.set_cons_succ]
        refine wpAny_ready (rs := [11]) (by kernel_rfl) (by simp) ?_
        refine AllReady.cons rfl (fun K hK => ?_) AllReady.nil
        go_simp
        refine hK _ _ ?_
        clear hK K
        try simp only [Act.put, List.getElem_toArray, List.getElem_cons_zero, List.getElem_cons_succ, List.setIfInBounds_toArray, List.set_cons_zero, List.set_cons_succ]
        refine wpAny_done (by kernel_rfl) ?_ _
        go_wp2_with fail
        exact ⟨⟨i + 1, _, _, _, by omega, by go_num, rfl, FIN.out.1, FIN.out.2.1, FIN.out.2.2⟩, by simp [intOf]; omega⟩
      refine AllReady.cons rfl (fun K hK => ?_) AllReady.nil
      go_simp
      refine hK _ _ ?_
      clear hK K
      try simp only [Act.put, List.getElem_toArray, List.getElem_cons_zero, List.getElem_cons_succ, List.setIfInBounds_toArray, List.set_cons_zero, List.set_cons_succ]
      refine wpAny_ready (rs := [2, 7]) (by kernel_rfl) (by simp) ?_
      refine AllReady.cons rfl (fun K hK => ?_) ?_
      · go_simp
        refine hK _ _ ?_
        clear hK K
        try simp only [Act.put, List.getElem_toArray, List.getElem_cons_zero, List.getElem_cons_succ, List.setIfInBounds_toArray, List.set_cons_zero, List.set_cons_succ]
        refine wpAny_ready (rs := [7]) (by kernel_rfl) (by simp) ?_
        refine AllReady.cons rfl (fun K hK => ?_) AllReady.nil
        go_simp
        go_at_call 20
        refine (leTurn _ _ _ xs1 n b _ (H1.out.later W0.out) (by omega) (by omega) hb hvx.out).mono ?_
        rintro e w5 ⟨ra5, rc5, rfl, h5, hb5⟩
        have g5 : ∀ k, k < wr.heap.size → w5.heap[k]? = wr.heap[k]? := fun k hk => (hb5.block k (by simp [World.drew]; omega)).trans (Below.heap_alloc wr _ k hk)
        have d0 : w5.cell? ⟨wr.heap.size, 0, none⟩ = some (.int .i64 x0) := (hb5.cell (p := ⟨wr.heap.size, 0, none⟩) (by simp [World.drew])).trans (by show (wr.alloc _).cell? _ = _; rw [World.cell?_alloc_at _ _ _ _ rfl]; rfl)
        have s5 : wr.heap.size < w5.heap.size := by have := hb5.size; simp [World.drew] at this; omega
        have s5' : wr.heap.size < w5.heap.size + 1 := by omega
        have own5 := (own_keep' HO.out (fun g hg => g5 g (own_lt' HO.out g hg))).alloc (.cells #[.int .i64 x0, .slice ra5 l1 rc5] 34)
        obtain ⟨v', w6, hrun, r1, r2, _⟩ := run_append_own (P := Try.prog) (w5.alloc (.cells #[.int .i64 x0, .slice ra5 l1 rc5] 34)) w.heap.size 23 23 34 j0 _ 2 32 Try.underlying23 hj0 yz0 yz1 yz2 rfl (by decide) (.slice xa i xc) i _ own5 ⟨w5.heap.size, 0, none⟩ 1 1 [.int .i64 x0, .slice ra5 l1 rc5] rfl (two_new w5 _ _ _ _ rfl) (by simp [Value.oneCell']) (by unfold maxLen; omega) (by omega) (by simp; omega)
        obtain ⟨g', cap', rfl⟩ := ownsRow_succ r1
        have b6 : ∀ g, g < w5.heap.size → some g ≠ (Value.slice xa i xc).ownBlock → w6.heap[g]? = w5.heap[g]? := fun g h1 h2 => (r2.block g (by simp; omega) h2).trans (Below.heap_alloc w5 _ g h1)
        have OL : ∀ g, some g = (Value.slice xa i xc).ownBlock → g < wr.heap.size := fun g hg => own_lt' HO.out g hg.symm
        have hw6 : w6.ownsRow w.heap.size 32 2 (.slice ra5 l1 rc5) l1 (flatV (xs1.map (tnV n b))) := own_low (own_keep' h5 (fun g hg => b6 g (own_lt' h5 g hg) (fun e => by have := OL g e; have := own_ge h5 g hg.symm; simp [World.drew] at this; omega))) (by simp [World.drew]; omega)
        have ho6 : OutR w6 w.heap.size (tnX X b) i L := HT.out.keep (fun g cur hg => (b6 g (by have := (Array.getElem?_eq_some_iff.1 hg).1; omega) (fun e => by
          rcases HO.out.2 with ⟨e1, _⟩ | ⟨g2, cap2, cur2, e1, _, hg2, _⟩
          · rw [e1] at e; simp [Value.ownBlock] at e
          · rw [e1] at e
            obtain rfl : g = g2 := by simpa [Value.ownBlock] using e
            rw [hg2] at hg
            cases hg)).trans (g5 g (Array.getElem?_eq_some_iff.1 hg).1))
        have ho7 : OutR w6 w.heap.size (tnX X b) (i + 1) (L ++ [.int .i64 x0, .slice ra5 l1 rc5]) := ho6.snoc (x := (x0, xs1.map (tnV n b))) (by rw [HL.out i hlt, TO.out]) ub0 (by simp [hl1]) hw6
        have b7 : Below w.heap.size w w6 := Below.grown ((HB.out.trans ((W0.out.trans (hb5.mono (by simp [World.drew]))).mono HB.out.size)).alloc (by omega) _) r2 (by simp; omega) (fun b hb => own_ge HO.out b hb.symm)
        have FIN : Hid (w6.ownsRow w.heap.size 34 2 (.slice (some ⟨g', 0, none⟩) (i + 1) cap') (i + 1) (L ++ [.int .i64 x0, .slice ra5 l1 rc5]) ∧ OutR w6 w.heap.size (tnX X b) (i + 1) (L ++ [.int .i64 x0, .slice ra5 l1 rc5]) ∧ Below w.heap.size w w6) := ⟨r1, ho7, b7⟩
        have HRUN : Hid ((Builtin.append_ #[23, 23] 23 #[.slice xa i xc, .slice (some ⟨w5.heap.size, 0, none⟩) 1 1]).run Try.prog (w5.alloc (.cells #[.int .i64 x0, .slice ra5 l1 rc5] 34)) = .ok (.slice (some ⟨g', 0, none⟩) (i + 1) cap') w6) := hrun
        clear hrun r1 r2 own5 b6 g5 h5 hb5 OL hw6 ho6 ho7 b7
        go_wp2_with fail
        try simp only [Act.put, List.getElem_toArray, List.getElem_cons_zero, List.getElem_cons_succ, List.setIfInBounds_toArray, List.set_cons_zero, List.set_cons_succ]
        refine wpAny_ready (rs := [8]) (by kernel_rfl) (by simp) ?_
        refine AllReady.cons rfl (fun K hK => ?_) AllReady.nil
        go_simp
        refine hK _ _ ?_
        clear hK K
        try simp only [Act.put, List.getElem_toArray, List.getElem_cons_zero, List.getElem_cons_succ, List.setIfInBounds_toArray, List.set_cons_zero, List.set_cons_succ]
        refine wpAny_ready (rs := [9]) (by kernel_rfl) (by simp) ?_
        refine AllReady.cons rfl (fun K hK => ?_) AllReady.nil
        go_simp
        refine hK _ _ ?_
        clear hK K
        try simp only [Act.put, List.getElem_toArray, List.getElem_cons_zero, List.getElem_cons_succ, List.setIfInBounds_toArray, List.set_cons_zero, List.set_cons_succ]
        refine wpAny_ready (rs := [10]) (by kernel_rfl) (by simp) ?_
        refine AllReady.cons rfl (fun K hK => ?_) AllReady.nil
        refine op_appP rfl _ _ _ rfl _ _ _ rfl rfl HRUN.out ?_
        refine hK _ _ ?_
        clear hK K
        try simp only [Act.put, List.getElem_toArray, List.getElem_cons_zero, List.getElem_cons_succ, List.setIfInBounds_toArray, List.set_cons_zero, List.set_cons_succ]
        refine wpAny_ready (rs := [11]) (by kernel_rfl) (by simp) ?_
        refine AllReady.cons rfl (fun K hK => ?_) AllReady.nil
        go_simp
        refine hK _ _ ?_
        clear hK K
        try simp only [Act.put, List.getElem_toArray, List.getElem_cons_zero, List.getElem_cons_succ, List.setIfInBounds_toArray, List.set_cons_zero, List.set_cons_succ]
        refine wpAny_done (by kernel_rfl) ?_ _
        go_wp2_with fail
        exact ⟨⟨i + 1, _, _, _, by omega, by go_num, rfl, FIN.out.1, FIN.out.2.1, FIN.out.2.2⟩, by simp [intOf]; omega⟩
      refine AllReady.cons rfl (fun K hK => ?_) AllReady.nil
      go_simp
      go_at_call 20
      refine (leTurn _ _ _ xs1 n b _ (H1.out.later W0.out) (by omega) (by omega) hb hvx.out).mono ?_
      rintro e w5 ⟨ra5, rc5, rfl, h5, hb5⟩
      have g5 : ∀ k, k < wr.heap.size → w5.heap[k]? = wr.heap[k]? := fun k hk => (hb5.block k (by simp [World.drew]; omega)).trans (Below.heap_alloc wr _ k hk)
      have d0 : w5.cell? ⟨wr.heap.size, 0, none⟩ = some (.int .i64 x0) := (hb5.cell (p := ⟨wr.heap.size, 0, none⟩) (by simp [World.drew])).trans (by show (wr.alloc _).cell? _ = _; rw [World.cell?_alloc_at _ _ _ _ rfl]; rfl)
      have s5 : wr.heap.size < w5.heap.size := by have := hb5.size; simp [World.drew] at this; omega
      have s5' : wr.heap.size < w5.heap.size + 1 := by omega
      have own5 := (own_keep' HO.out (fun g hg => g5 g (own_lt' HO.out g hg))).alloc (.cells #[.int .i64 x0, .slice ra5 l1 rc5] 34)
      obtain ⟨v', w6, hrun, r1, r2, _⟩ := run_append_own (P := Try.prog) (w5.alloc (.cells #[.int .i64 x0, .slice ra5 l1 rc5] 34)) w.heap.size 23 23 34 j0 _ 2 32 Try.underlying23 hj0 yz0 yz1 yz2 rfl (by decide) (.slice xa i xc) i _ own5 ⟨w5.heap.size, 0, none⟩ 1 1 [.int .i64 x0, .slice ra5 l1 rc5] rfl (two_new w5 _ _ _ _ rfl) (by simp [Value.oneCell']) (by unfold maxLen; omega) (by omega) (by simp; omega)
      obtain ⟨g', cap', rfl⟩ := ownsRow_succ r1
      have b6 : ∀ g, g < w5.heap.size → some g ≠ (Value.slice xa i xc).ownBlock → w6.heap[g]? = w5.heap[g]? := fun g h1 h2 => (r2.block g (by simp; omega) h2).trans (Below.heap_alloc w5 _ g h1)
      have OL : ∀ g, some g = (Value.slice xa i xc).ownBlock → g < wr.heap.size := fun g hg => own_lt' HO.out g hg.symm
      have hw6 : w6.ownsRow w.heap.size 32 2 (.slice ra5 l1 rc5) l1 (flatV (xs1.map (tnV n b))) := own_low (own_keep' h5 (fun g hg => b6 g (own_lt' h5 g hg) (fun e => by have := OL g e; have := own_ge h5 g hg.symm; simp [World.drew] at this; omega))) (by simp [World.drew]; omega)
      have ho6 : OutR w6 w.heap.size (tnX X b) i L := HT.out.keep (fun g cur hg => (b6 g (by have := (Array.getElem?_eq_some_iff.1 hg).1; omega) (fun e => by
        rcases HO.out.2 with ⟨e1, _⟩ | ⟨g2, cap2, cur2, e1, _, hg2, _⟩
        · rw [e1] at e; simp [Value.ownBlock] at e
        · rw [e1] at e
          obtain rfl : g = g2 := by simpa [Value.ownBlock] using e
          rw [hg2] at hg
          cases hg)).trans (g5 g (Array.getElem?_eq_some_iff.1 hg).1))
      have ho7 : OutR w6 w.heap.size (tnX X b) (i + 1) (L ++ [.int .i64 x0, .slice ra5 l1 rc5]) := ho6.snoc (x := (x0, xs1.map (tnV n b))) (by rw [HL.out i hlt, TO.out]) ub0 (by simp [hl1]) hw6
      have b7 : Below w.heap.size w w6 := Below.grown ((HB.out.trans ((W0.out.trans (hb5.mono (by simp [World.drew]))).mono HB.out.size)).alloc (by omega) _) r2 (by simp; omega) (fun b hb => own_ge HO.out b hb.symm)
      have FIN : Hid (w6.ownsRow w.heap.size 34 2 (.slice (some ⟨g', 0, none⟩) (i + 1) cap') (i + 1) (L ++ [.int .i64 x0, .slice ra5 l1 rc5]) ∧ OutR w6 w.heap.size (tnX X b) (i + 1) (L ++ [.int .i64 x0, .slice ra5 l1 rc5]) ∧ Below w.heap.size w w6) := ⟨r1, ho7, b7⟩
      have HRUN : Hid ((Builtin.append_ #[23, 23] 23 #[.slice xa i xc, .slice (some ⟨w5.heap.size, 0, none⟩) 1 1]).run Try.prog (w5.alloc (.cells #[.int .i64 x0, .slice ra5 l1 rc5] 34)) = .ok (.slice (some ⟨g', 0, none⟩) (i + 1) cap') w6) := hrun
      clear hrun r1 r2 own5 b6 g5 h5 hb5 OL hw6 ho6 ho7 b7
      go_wp2_with fail
      try simp only [Act.put, List.getElem_toArray, List.getElem_cons_zero, List.getElem_cons_succ, List.setIfInBounds_toArray, List.set_cons_zero, List.set_cons_succ]
      refine wpAny_ready (rs := [2]) (by kernel_rfl) (by simp) ?_
      refine AllReady.cons rfl (fun K hK => ?_) AllReady.nil
      go_simp
      refine hK _ _ ?_
      clear hK K
      try simp only [Act.put, List.getElem_toArray, List.getElem_cons_zero, List.getElem_cons_succ, List.setIfInBounds_toArray, List.set_cons_zero, List.set_cons_succ]
      refine wpAny_ready (rs := [8]) (by kernel_rfl) (by simp) ?_
      refine AllReady.cons rfl (fun K hK => ?_) AllReady.nil
      go_simp
      refine hK _ _ ?_
      clear hK K
      try simp only [Act.put, List.getElem_toArray, List.getElem_cons_zero, List.getElem_cons_succ, List.setIfInBounds_toArray, List.set_cons_zero, List.set_cons_succ]
      refine wpAny_ready (rs := [9]) (by kernel_rfl) (by simp) ?_
      refine AllReady.cons rfl (fun K hK => ?_) AllReady.nil
      go_simp
      refine hK _ _ ?_
      clear hK K
      try simp only [Act.put, List.getElem_toArray, List.getElem_cons_zero, List.getElem_cons_succ, List.setIfInBounds_toArray, List.set_cons_zero, List.set_cons_succ]
      refine wpAny_ready (rs := [10]) (by kernel_rfl) (by simp) ?_
      refine AllReady.cons rfl (fun K hK => ?_) AllReady.nil
      refine op_appP rfl _ _ _ rfl _ _ _ rfl rfl HRUN.out ?_
      refine hK _ _ ?_
      clear hK K
      try simp only [Act.put, List.getElem_toArray, List.getElem_cons_zero, List.getElem_cons_succ, List.setIfInBounds_toArray, List.set_cons_zero, List.set_cons_succ]
      refine wpAny_ready (rs := [11]) (by kernel_rfl) (by simp) ?_
      refine AllReady.cons rfl (fun K hK => ?_) AllReady.nil
      go_simp
      refine hK _ _ ?_
      clear hK K
      try simp only [Act.put, List.getElem_toArray, List.getElem_cons_zero, List.getElem_cons_succ, List.setIfInBounds_toArray, List.set_cons_zero, List.set_cons_succ]
      refine wpAny_done (by kernel_rfl) ?_ _
      go_wp2_with fail
      exact ⟨⟨i + 1, _, _, _, by omega, by go_num, rfl, FIN.out.1, FIN.out.2.1, FIN.out.2.2⟩, by simp [intOf]; omega⟩
    · have ek : i = n := by omega
      subst ek
      have hXX : Hid (SlAt obR (fun b => w.heap.size ≤ b) wr xa i (tnX X b)) := HT.out.sl (by rw [tnX_len]; exact NN.out) (by omega) HIB.out HO.out (Nat.le_refl _)
      go_wp2_with fail
      refine (leTurn _ _ _ r i b wr (HR.out.later HB.out) (by omega) (by omega) hb (fun v hv h1 => (valB_ref (HVR.out v hv) h1).2)).mono ?_
      rintro e w5 ⟨ra5, rc5, rfl, h5, hb5⟩
      have H5 : Hid (w5.ownsRow wr.heap.size 32 2 (.slice ra5 r.length rc5) r.length (flatV (r.map (tnV i b)))) := h5
      have B5 : Hid (Below wr.heap.size wr w5) := hb5
      clear h5 hb5
      go_wp2_with fail
      go_ret2
      exact ⟨_, _, _, _, rfl, (hXX.out.later B5.out).mono (fun _ _ _ => trivial), (own_vals H5.out (fun x hx => by obtain ⟨u, hu, rfl⟩ := List.mem_map.1 hx; exact tnV_bd (by omega) (by omega) (HR.out.vbds u hu)) (by omega)).mono (fun _ _ _ => trivial), HB.out.trans (B5.out.mono HB.out.size)⟩

end Go.Proofs.Ytacapffmdmpnkaa
