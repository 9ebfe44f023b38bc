/-
  Two shapes joined: what the program's answer is said to be, and that it is what the specification is said to answer.
-/
import Derived.Test.YtkggmcbjpmhmcaaDoorJoinP
import Derived.Test.YtkggmcbjpmhmcaaDoorIsE
import Derived.Test.YtkggmcbjpmhmcaaDoorMrkQ
namespace Go.Proofs.YtkggmcbjpmhmcaaDoor
open Go.ChangeShapes Go.WideShapes Go.ChangeAt Go.RowKit

theorem join_fits (L : List Cl) (x y : Int) : -9223372036854775808 ≤ tyJoinV L x y ∧ tyJoinV L x y ≤ 9223372036854775807 := by
  cases hx : tyB L x
  · rw [show tyJoinV L x y = 0 by rw [tyJoinV, hx]; rfl]; omega
  cases hy : tyB L y
  · rw [show tyJoinV L x y = 0 by rw [tyJoinV, hx, hy]; rfl]; omega
  rw [show tyJoinV L x y = meetV L x y by rw [tyJoinV, hx, hy]; rfl]
  have ok : clsOk L = true := by unfold tyB at hx; rw [Bool.and_eq_true] at hx; exact hx.1
  have ht := meet_ty ok (Ty.of hx) (Ty.of hy)
  have h1 := ht.low
  have h2 := ht.high
  have h3 := (ok_len ok).2
  omega
theorem jl_fits (L : List Cl) (us xs : List Int) : ∀ j, -9223372036854775808 ≤ (jl L us xs).getD j 0 ∧ (jl L us xs).getD j 0 ≤ 9223372036854775807 :=
  fits_lit (fun x hm => by
    obtain ⟨i, _, rfl⟩ := List.mem_map.1 hm
    exact join_fits L _ _)
theorem jn_mt {L : List Cl} {us xs : List Int} (ok : clsOk L = true) (hl : us.length ≤ xs.length) (hu : ∀ x ∈ us, Ty L x) (hx : ∀ x ∈ xs, Ty L x) {j : Nat} (hj : j < us.length) : jn L us xs j = mt L us xs j := by
  unfold jn mt
  rw [List.getD_eq_getElem?_getD, List.getD_eq_getElem?_getD, List.getElem?_eq_getElem hj, List.getElem?_eq_getElem (by omega)]
  simp only [Option.getD_some]
  rw [tyJoinV, (hu _ (List.getElem_mem hj)).tyB ok, (hx _ (List.getElem_mem (by omega : j < xs.length))).tyB ok]
  rfl
theorem jl_meet {L : List Cl} {us xs : List Int} (ok : clsOk L = true) (hl : us.length ≤ xs.length) (hu : ∀ x ∈ us, Ty L x) (hx : ∀ x ∈ xs, Ty L x) : jl L us xs = meetL L us xs :=
  List.map_congr_left (fun _ hj => jn_mt ok hl hu hx (List.mem_range.1 hj))
theorem any_someZ {L : List Cl} {vs ys : List Int} (h : jl L vs ys = meetL L vs ys) : (jl L vs ys).any (fun x => 0 == x) = someZ L vs ys := by
  rw [h, meetL, someZ, List.any_map]
  congr 1
  funext j
  simp only [Function.comp]
  rw [Bool.eq_iff_iff]
  simp only [beq_iff_eq]
  exact eq_comm
/-- What it comes to. -/
theorem join_none {L : List Cl} (ok : clsOk L = true) {s t : Sh} (h : fitK L.length s t = false ∨ (jl L s.2.2 t.2.2).any (fun x => 0 == x) = true) : shJoinV L s t = (false, [], []) := by
  obtain ⟨x0, us, vs⟩ := s
  obtain ⟨y0, xs, ys⟩ := t
  rw [shJoinV, fit_eq ok]
  cases hf : fitK L.length (x0, us, vs) (y0, xs, ys)
  · rfl
  rcases h with h | h
  · rw [hf] at h; cases h
  obtain ⟨_, _, h1, h2, h3⟩ := fit_of (by rw [fit_eq ok]; exact hf)
  simp only at h
  rw [any_someZ (jl_meet (us := vs) (xs := ys) ok (by omega) (fun x hm => (h1.st x hm).1) (fun x hm => (h2.st x hm).1))] at h
  simp only [if_true, joinSh, h]
  simp
theorem join_some {L : List Cl} (ok : clsOk L = true) {x0 y0 : Bool} {us vs xs ys : List Int} (hf : fitK L.length (x0, us, vs) (y0, xs, ys) = true) (h : (jl L vs ys).any (fun x => 0 == x) = false) : shJoinV L (x0, us, vs) (y0, xs, ys) = (true, jl L us xs, jl L vs ys) := by
  obtain ⟨rfl, rfl, h1, h2, h3⟩ := fit_of (by rw [fit_eq ok]; exact hf)
  have hl := h2.len
  simp only at hl
  have e2 := jl_meet (us := vs) (xs := ys) ok (by omega) (fun x hm => (h1.st x hm).1) (fun x hm => (h2.st x hm).1)
  have e1 := jl_meet (us := us) (xs := xs) ok (by omega) h1.loc h2.loc

  rw [any_someZ e2] at h
  rw [shJoinV, fit_eq ok, hf, e1, e2]
  simp only [if_true, joinSh, h, h3]
  simp

/-- What ShapeJoin answers, in memory of its own: two lists that are apart. -/
def OwnP (w : World) (s : Sh) (e : Ending) (w' : World) : Prop :=
  ∃ ga n gc ka k kc, e = .returned (.agg #[.bool s.1, .slice ga n gc, .slice ka k kc]) ∧ s.2.1.length = n ∧ s.2.2.length = k ∧ n ≤ 1048576 ∧ k ≤ 1048576 ∧ (∀ j, i64B (s.2.1.getD j 0)) ∧ (∀ j, i64B (s.2.2.getD j 0)) ∧ Wri w' ga n (fun j => s.2.1.getD j 0) ∧ Wri w' ka k (fun j => s.2.2.getD j 0) ∧ (∀ x, ga = some x → 0 < n → w.heap.size ≤ x.block) ∧ (∀ x, ka = some x → 0 < k → w.heap.size ≤ x.block) ∧ (∀ x y, ga = some x → ka = some y → 0 < n → 0 < k → x.block ≠ y.block) ∧ Below w.heap.size w w'
theorem ownP_none {w w' : World} (b : Below w.heap.size w w') : OwnP w (false, [], []) (.returned (.agg #[.bool false, .slice none 0 0, .slice none 0 0])) w' :=
  ⟨none, 0, 0, none, 0, 0, rfl, rfl, rfl, by omega, by omega, (fun j => ⟨by simp, by simp⟩), (fun j => ⟨by simp, by simp⟩), ⟨.inl rfl⟩, ⟨.inl rfl⟩, (fun x hx => by cases hx), (fun x hx => by cases hx), (fun x y hx => by cases hx), b⟩
theorem wri_row {L : List Cl} {w : World} {g n : Nat} {us xs : List Int} (h : RowAt w g n (fun j => .int .i64 (jn L us xs j))) (hl : us.length = n) : Wri w (some ⟨g, 0, none⟩) n (fun j => (jl L us xs).getD j 0) :=
  ⟨.inr ⟨g, 0, rfl, fun j hj => by
    rw [Nat.zero_add, (h j hj).1, jl, hl, List.getD_eq_getElem?_getD, List.getElem?_map, List.getElem?_range hj]
    exact ⟨rfl, (h j hj).2⟩⟩⟩
set_option maxRecDepth 100000 in
set_option maxHeartbeats 8000000 in
theorem shapeJoinImpl (a : Option Addr) (len cap : Nat) (x0 : Bool) (la : Option Addr) (ll lc : Nat) (ka : Option Addr) (kl kc : Nat) (y0 : Bool) (ma : Option Addr) (ml mc : Nat) (na : Option Addr) (nl nc : Nat) (us vs xs ys : List Int) (ea : Addr) (L : List Cl) (w : World) {D E P Q S T : Nat → Prop}
    (h : ClsAt D E w a len L) (hu : IntsAt P w la ll us) (hv : IntsAt Q w ka kl vs) (hx : IntsAt S w ma ml xs) (hy : IntsAt T w na nl ys) (h1l : ll ≤ 1048576) (h1k : kl ≤ 1048576) (hG : w.cell? ⟨0, 0, none⟩ = some (.iface 114 (.pointer (some ea)))) :
    Calls Tryd.prog 6 #[.slice a len cap, .agg #[.bool x0, .slice la ll lc, .slice ka kl kc], .agg #[.bool y0, .slice ma ml mc, .slice na nl nc]] w fun e w' => OwnP w (shJoinV L (x0, us, vs) (y0, xs, ys)) e w' := by
  have H : Hid (ClsAt D E w a len L) := h
  have HS : Hid (L.length = len) := h.size
  have HU : Hid (IntsAt P w la ll us) := hu
  have HV : Hid (IntsAt Q w ka kl vs) := hv
  have HX : Hid (IntsAt S w ma ml xs) := hx
  have HY : Hid (IntsAt T w na nl ys) := hy
  have SU : Hid (us.length = ll) := hu.size
  have SV : Hid (vs.length = kl) := hv.size
  have KG : Hid (∀ x, Below w.heap.size w x → x.cell? ⟨0, 0, none⟩ = some (.iface 114 (.pointer (some ea)))) := fun x hb => by rw [hb.cell (p := ⟨0, 0, none⟩) (World.block_lt_of_cell? w _ hG)]; exact hG
  have hw0 : 0 < w.heap.size := World.block_lt_of_cell? w _ hG
  have KB : Hid (∀ x : World, Below (w.heap.size + 1 + 1 + 1) (((w.alloc (.cells #[.bool x0, .slice la ll lc, .slice ka kl kc] 26)).alloc (.cells #[.bool y0, .slice ma ml mc, .slice na nl nc] 26)).alloc (.cells #[.bool false, .slice none 0 0, .slice none 0 0] 26)) x → x.cell? ⟨w.heap.size, 0, none⟩ = some (.bool x0) ∧ x.cell? ⟨w.heap.size, 1, none⟩ = some (.slice la ll lc) ∧ x.cell? ⟨w.heap.size, 2, none⟩ = some (.slice ka kl kc) ∧ x.cell? ⟨w.heap.size + 1, 0, none⟩ = some (.bool y0) ∧ x.cell? ⟨w.heap.size + 1, 1, none⟩ = some (.slice ma ml mc) ∧ x.cell? ⟨w.heap.size + 1, 2, none⟩ = some (.slice na nl nc) ∧ x.cell? ⟨w.heap.size + 1 + 1, 0, none⟩ = some (.bool false) ∧ x.cell? ⟨w.heap.size + 1 + 1, 1, none⟩ = some (.slice none 0 0) ∧ x.cell? ⟨w.heap.size + 1 + 1, 2, none⟩ = some (.slice none 0 0) ∧ x.frozen? ⟨w.heap.size + 1 + 1, 0, none⟩ = false ∧ x.frozen? ⟨w.heap.size + 1 + 1, 1, none⟩ = false ∧ x.frozen? ⟨w.heap.size + 1 + 1, 2, none⟩ = false) := fun x hb => by
    have hf : ∀ j, x.frozen? ⟨w.heap.size + 1 + 1, j, none⟩ = false := fun j => by rw [hb.frozen (p := ⟨w.heap.size + 1 + 1, j, none⟩) (by simp)]; exact World.frozen?_alloc_at _ _ _ _ (by simp)
    have k0 : ∀ j v, (#[.bool x0, .slice la ll lc, .slice ka kl kc] : Array Value)[j]? = some v → x.cell? ⟨w.heap.size, j, none⟩ = some v := fun j v hv => by
      rw [hb.cell (p := ⟨w.heap.size, j, none⟩) (by simp only; omega), World.cell?_alloc_past _ _ _ (by simp; omega)]; exact two_first hv
    have k1 : ∀ j v, (#[.bool y0, .slice ma ml mc, .slice na nl nc] : Array Value)[j]? = some v → x.cell? ⟨w.heap.size + 1, j, none⟩ = some v := fun j v hv => by
      rw [hb.cell (p := ⟨w.heap.size + 1, j, none⟩) (by simp only; omega), World.cell?_alloc_past _ _ _ (by simp)]; exact two_second hv
    have k2 : ∀ j v, (#[.bool false, .slice none 0 0, .slice none 0 0] : Array Value)[j]? = some v → x.cell? ⟨w.heap.size + 1 + 1, j, none⟩ = some v := fun j v hv => by
      rw [hb.cell (p := ⟨w.heap.size + 1 + 1, j, none⟩) (by simp), World.cell?_alloc_at _ _ _ _ (by simp)]; exact hv
    exact ⟨k0 0 _ rfl, k0 1 _ rfl, k0 2 _ rfl, k1 0 _ rfl, k1 1 _ rfl, k1 2 _ rfl, k2 0 _ rfl, k2 1 _ rfl, k2 2 _ rfl, hf 0, hf 1, hf 2⟩
  have B3 : Hid (Below w.heap.size w (((w.alloc (.cells #[.bool x0, .slice la ll lc, .slice ka kl kc] 26)).alloc (.cells #[.bool y0, .slice ma ml mc, .slice na nl nc] 26)).alloc (.cells #[.bool false, .slice none 0 0, .slice none 0 0] 26))) := (((Below.refl _ _).alloc (Nat.le_refl _) _).alloc (by simp) _).alloc (by simp; omega) _
  clear h hu hv hx hy hG
  go_enter Tryd.func6, Tryd.ntmps6
  go_wp2_with fail
  refine (okImpl _ _ _ L _ (H.out.later B3.out)).mono ?_
  rintro e w1 ⟨rfl, hb1⟩
  have B1 : Hid (Below (w.heap.size + 1 + 1 + 1) (((w.alloc (.cells #[.bool x0, .slice la ll lc, .slice ka kl kc] 26)).alloc (.cells #[.bool y0, .slice ma ml mc, .slice na nl nc] 26)).alloc (.cells #[.bool false, .slice none 0 0, .slice none 0 0] 26)) w1) := by show Below _ _ _; simpa using hb1
  have hz1 : w.heap.size + 1 + 1 + 1 ≤ w1.heap.size := by have := hb1.size; simpa using this
  have C1 : Hid (Below w.heap.size w w1) := B3.out.trans (B1.out.mono (by omega))
  obtain ⟨pa0, pa1, pa2, pb0, pb1, pb2, pq0, pq1, pq2, pf0, pf1, pf2⟩ := KB.out w1 B1.out
  clear hb1
  cases hok : clsOk L
  · have HN : Hid (shJoinV L (x0, us, vs) (y0, xs, ys) = (false, [], [])) := by show _ = _; unfold shJoinV fitB; rw [shB_K, shB_K, hok]; simp
    go_wp2_with fail
    refine bodyPost_ret (v := .agg #[.bool false, .slice none 0 0, .slice none 0 0]) ?_ rfl ?_
    · simp [results, Tryd.results6, go_sem, pq0, pq1, pq2]
    · rw [HN.out]
      exact ownP_none (((C1.out.setCell (by simp; omega) _).setCell (by simp; omega) _).setCell (by simp; omega) _)
  go_wp2_with fail
  refine (treeShJoinImpl _ _ _ _ _ _ _ _ _ _ _ _ _ _ _ _ _ us vs xs ys ea L _ (H.out.later C1.out) hok (HU.out.later C1.out) (HV.out.later C1.out) (HX.out.later C1.out) (HY.out.later C1.out) h1l (KG.out w1 C1.out) (jl_fits L vs ys)).mono ?_
  rintro e w2 ⟨hP, hb2⟩
  have B2 : Hid (Below (w.heap.size + 1 + 1 + 1) (((w.alloc (.cells #[.bool x0, .slice la ll lc, .slice ka kl kc] 26)).alloc (.cells #[.bool y0, .slice ma ml mc, .slice na nl nc] 26)).alloc (.cells #[.bool false, .slice none 0 0, .slice none 0 0] 26)) w2) := B1.out.trans (hb2.mono hz1)
  have C2 : Hid (Below w.heap.size w w2) := B3.out.trans (B2.out.mono (by omega))
  have hz2 : w1.heap.size ≤ w2.heap.size := hb2.size
  have y0' : 0 < w2.heap.size := by omega
  have pg := KG.out w2 C2.out
  clear hb2 pa0 pa1 pa2 pb0 pb1 pb2 pq0 pq1 pq2 pf0 pf1 pf2
  obtain ⟨pa0, pa1, pa2, pb0, pb1, pb2, pq0, pq1, pq2, pf0, pf1, pf2⟩ := KB.out w2 B2.out
  have y2' : w.heap.size + 1 + 1 < w2.heap.size := by omega
  rcases hP with ⟨hc, rfl⟩ | ⟨hf, hc, g1, g2, rfl, hr1, hr2, hg1, hg2, hne⟩
  · have HN : Hid (shJoinV L (x0, us, vs) (y0, xs, ys) = (false, [], [])) := join_none hok (by rw [HS.out]; exact hc)
    clear hc
    go_wp2_with fail
    refine (isSame _ _).mono ?_
    rintro e w3 ⟨rfl, rfl⟩
    go_wp2_with fail
    refine bodyPost_ret (v := .agg #[.bool false, .slice none 0 0, .slice none 0 0]) ?_ rfl ?_
    · simp [results, Tryd.results6, go_sem, *]
    · rw [HN.out]
      refine ownP_none ?_
      refine Below.alloc ?_ ?_ _
      · exact ((C2.out.setCell (by simp; omega) _).setCell (by simp; omega) _).setCell (by simp; omega) _
      · simp only [World.size_setCell]; have := C2.out.size; omega
  have HR : Hid (shJoinV L (x0, us, vs) (y0, xs, ys) = (true, jl L us xs, jl L vs ys)) := join_some hok (by rw [HS.out]; exact hf) hc
  have R1 : Hid (RowAt w2 g1 ll (fun j => .int .i64 (jn L us xs j))) := hr1
  have R2 : Hid (RowAt w2 g2 kl (fun j => .int .i64 (jn L vs ys j))) := hr2
  clear hr1 hr2 hf hc
  go_wp2_with fail
  refine (isNil _ _).mono ?_
  rintro e w3 ⟨rfl, rfl⟩
  go_wp2_with fail
  refine bodyPost_ret (v := .agg #[.bool true, .slice (some ⟨g1, 0, none⟩) ll ll, .slice (some ⟨g2, 0, none⟩) kl kl]) ?_ rfl ?_
  · simp [results, Tryd.results6, go_sem, *]
  · rw [HR.out]
    refine ⟨_, _, _, _, _, _, rfl, by simp [jl, SU.out], by simp [jl, SV.out], h1l, h1k, jl_fits L us xs, jl_fits L vs ys, ?_, ?_, (fun x hx _ => by cases hx; simp only; omega), (fun x hx _ => by cases hx; simp only; omega), (fun x y hx hy _ _ => by cases hx; cases hy; exact hne), ?_⟩
    · exact wri_row ((R1.out.other3 (w.heap.size + 1 + 1) (by omega) _ _ _).later ((Below.refl _ _).alloc (Nat.le_refl _) _)) SU.out
    · exact wri_row ((R2.out.other3 (w.heap.size + 1 + 1) (by omega) _ _ _).later ((Below.refl _ _).alloc (Nat.le_refl _) _)) SV.out
    · refine Below.alloc ?_ ?_ _
      · exact ((C2.out.setCell (by simp; omega) _).setCell (by simp; omega) _).setCell (by simp; omega) _
      · simp only [World.size_setCell]; have := C2.out.size; omega

end Go.Proofs.YtkggmcbjpmhmcaaDoor
