/-
  Two shapes joined, if they fit: that the specification says so, in whatever memory; it writes nothing that was there.
-/
import Derived.Test.YtkggmcbjpmhmcaaDoorJoinS
namespace Go.Proofs.YtkggmcbjpmhmcaaDoor
open Go.ChangeShapes Go.WideShapes Go.ChangeAt Go.RowKit

def shJoinV (L : List Cl) (s t : Sh) : Sh := if fitB L s t then joinSh L s t else (false, [], [])
set_option maxRecDepth 100000 in
set_option maxHeartbeats 8000000 in
theorem shapeJoinSpec (a : Option Addr) (len cap : Nat) (x0 : Bool) (la : Option Addr) (ll lc : Nat) (ka : Option Addr) (kl kc : Nat) (y0 : Bool) (ma : Option Addr) (ml mc : Nat) (na : Option Addr) (nl nc : Nat) (us vs xs ys : List Int) (L : List Cl) (w : World) {D E P Q S T : Nat → Prop}
    (h : ClsAt D E w a len L) (hu : IntsAt P w la ll us) (hv : IntsAt Q w ka kl vs) (hx : IntsAt S w ma ml xs) (hy : IntsAt T w na nl ys) (h1l : ll ≤ 1048576) :
    Calls Tryd.prog 8 #[.slice a len cap, .agg #[.bool x0, .slice la ll lc, .slice ka kl kc], .agg #[.bool y0, .slice ma ml mc, .slice na nl nc]] w fun e w' => JoinP w (shJoinV L (x0, us, vs) (y0, xs, ys)) e w' := by
  have H : Hid (ClsAt D E w a len L) := h
  have HU : Hid (IntsAt P w la ll us) := hu
  have HV : Hid (IntsAt Q w ka kl vs) := hv
  have HX : Hid (IntsAt S w ma ml xs) := hx
  have HY : Hid (IntsAt T w na nl ys) := hy
  have SU : Hid (us.length = ll) := hu.size
  have SV : Hid (vs.length = kl) := hv.size
  have SX : Hid (xs.length = ml) := hx.size
  have KB : Hid (∀ x : World, Below (w.heap.size + 1 + 1 + 1) (((w.alloc (.cells #[.bool x0, .slice la ll lc, .slice ka kl kc] 26)).alloc (.cells #[.bool y0, .slice ma ml mc, .slice na nl nc] 26)).alloc (.cells #[.bool false, .slice none 0 0, .slice none 0 0] 26)) x → x.cell? ⟨w.heap.size, 0, none⟩ = some (.bool x0) ∧ x.cell? ⟨w.heap.size, 1, none⟩ = some (.slice la ll lc) ∧ x.cell? ⟨w.heap.size, 2, none⟩ = some (.slice ka kl kc) ∧ x.cell? ⟨w.heap.size + 1, 0, none⟩ = some (.bool y0) ∧ x.cell? ⟨w.heap.size + 1, 1, none⟩ = some (.slice ma ml mc) ∧ x.cell? ⟨w.heap.size + 1, 2, none⟩ = some (.slice na nl nc) ∧ x.cell? ⟨w.heap.size + 1 + 1, 0, none⟩ = some (.bool false) ∧ x.cell? ⟨w.heap.size + 1 + 1, 1, none⟩ = some (.slice none 0 0) ∧ x.cell? ⟨w.heap.size + 1 + 1, 2, none⟩ = some (.slice none 0 0) ∧ x.frozen? ⟨w.heap.size + 1 + 1, 0, none⟩ = false ∧ x.frozen? ⟨w.heap.size + 1 + 1, 1, none⟩ = false ∧ x.frozen? ⟨w.heap.size + 1 + 1, 2, none⟩ = false) := fun x hb => by
    have hf : ∀ j, x.frozen? ⟨w.heap.size + 1 + 1, j, none⟩ = false := fun j => by rw [hb.frozen (p := ⟨w.heap.size + 1 + 1, j, none⟩) (by simp)]; exact World.frozen?_alloc_at _ _ _ _ (by simp)
    have k0 : ∀ j v, (#[.bool x0, .slice la ll lc, .slice ka kl kc] : Array Value)[j]? = some v → x.cell? ⟨w.heap.size, j, none⟩ = some v := fun j v hv => by
      rw [hb.cell (p := ⟨w.heap.size, j, none⟩) (by simp only; omega), World.cell?_alloc_past _ _ _ (by simp; omega)]; exact two_first hv
    have k1 : ∀ j v, (#[.bool y0, .slice ma ml mc, .slice na nl nc] : Array Value)[j]? = some v → x.cell? ⟨w.heap.size + 1, j, none⟩ = some v := fun j v hv => by
      rw [hb.cell (p := ⟨w.heap.size + 1, j, none⟩) (by simp only; omega), World.cell?_alloc_past _ _ _ (by simp)]; exact two_second hv
    have k2 : ∀ j v, (#[.bool false, .slice none 0 0, .slice none 0 0] : Array Value)[j]? = some v → x.cell? ⟨w.heap.size + 1 + 1, j, none⟩ = some v := fun j v hv => by
      rw [hb.cell (p := ⟨w.heap.size + 1 + 1, j, none⟩) (by simp), World.cell?_alloc_at _ _ _ _ (by simp)]; exact hv
    exact ⟨k0 0 _ rfl, k0 1 _ rfl, k0 2 _ rfl, k1 0 _ rfl, k1 1 _ rfl, k1 2 _ rfl, k2 0 _ rfl, k2 1 _ rfl, k2 2 _ rfl, hf 0, hf 1, hf 2⟩
  have B3 : Hid (Below w.heap.size w (((w.alloc (.cells #[.bool x0, .slice la ll lc, .slice ka kl kc] 26)).alloc (.cells #[.bool y0, .slice ma ml mc, .slice na nl nc] 26)).alloc (.cells #[.bool false, .slice none 0 0, .slice none 0 0] 26))) := (((Below.refl _ _).alloc (Nat.le_refl _) _).alloc (by simp) _).alloc (by simp; omega) _
  clear h hu hv hx hy
  go_enter Tryd.func8, Tryd.ntmps8
  go_wp2_with fail
  refine (fitsSpec _ _ _ _ _ _ _ _ _ _ _ _ _ _ _ _ _ us vs xs ys L _ (H.out.later B3.out) (HU.out.later B3.out) (HV.out.later B3.out) (HX.out.later B3.out) (HY.out.later B3.out)).mono ?_
  rintro e w1 ⟨rfl, hb1⟩
  have B1 : Hid (Below (w.heap.size + 1 + 1 + 1) (((w.alloc (.cells #[.bool x0, .slice la ll lc, .slice ka kl kc] 26)).alloc (.cells #[.bool y0, .slice ma ml mc, .slice na nl nc] 26)).alloc (.cells #[.bool false, .slice none 0 0, .slice none 0 0] 26)) w1) := by show Below _ _ _; simpa using hb1
  have hz1 : w.heap.size + 1 + 1 + 1 ≤ w1.heap.size := by have := hb1.size; simpa using this
  have C1 : Hid (Below w.heap.size w w1) := B3.out.trans (B1.out.mono (by omega))
  obtain ⟨pa0, pa1, pa2, pb0, pb1, pb2, pq0, pq1, pq2, pf0, pf1, pf2⟩ := KB.out w1 B1.out
  clear hb1
  cases hf : fitB L (x0, us, vs) (y0, xs, ys)
  · have HN : Hid (shJoinV L (x0, us, vs) (y0, xs, ys) = (false, [], [])) := by show _ = _; rw [shJoinV, hf]; rfl
    go_wp2_with fail
    refine (noneS _).mono ?_
    rintro e w5 ⟨ga, gk, rfl, hb5⟩
    have B5 : Hid (Below (w.heap.size + 1 + 1 + 1) (((w.alloc (.cells #[.bool x0, .slice la ll lc, .slice ka kl kc] 26)).alloc (.cells #[.bool y0, .slice ma ml mc, .slice na nl nc] 26)).alloc (.cells #[.bool false, .slice none 0 0, .slice none 0 0] 26)) w5) := B1.out.trans (hb5.mono hz1)
    clear hb5 pa0 pa1 pa2 pb0 pb1 pb2 pq0 pq1 pq2 pf0 pf1 pf2
    obtain ⟨pa0, pa1, pa2, pb0, pb1, pb2, pq0, pq1, pq2, pf0, pf1, pf2⟩ := KB.out w5 B5.out
    go_wp2_with fail
    refine bodyPost_ret (v := .agg #[.bool false, .slice ga 0 0, .slice gk 0 0]) ?_ rfl ?_
    · simp [results, Tryd.results8, go_sem, pq0, pq1, pq2]
    · unfold JoinP
      rw [HN.out]
      exact ⟨_, _, _, _, _, _, rfl, ⟨rfl, by omega, .inl rfl, fun j => by simp⟩, ⟨rfl, by omega, .inl rfl, fun j => by simp⟩, (((B3.out.trans (B5.out.mono (by omega))).setCell (by simp; omega) _).setCell (by simp; omega) _).setCell (by simp; omega) _⟩
  have HV' : Hid (shJoinV L (x0, us, vs) (y0, xs, ys) = joinSh L (x0, us, vs) (y0, xs, ys)) := by show _ = _; rw [shJoinV, hf]; rfl
  have HO : Hid (x0 = true ∧ y0 = true ∧ ShR L us.length (true, us, vs) ∧ ShR L us.length (true, xs, ys) ∧ vs.length = ys.length) := fit_of hf
  have hll : ll ≤ ml := by have := HO.out.2.2.2.1.len; simp only at this; rw [SU.out, SX.out] at this; omega
  have h1k : kl ≤ 1048576 := by have := HO.out.2.2.1.few; simp only at this; rw [SV.out] at this; omega
  go_wp2_with fail
  refine (l11JoinSpec _ _ _ _ _ _ _ _ _ _ _ _ _ _ _ _ _ us vs xs ys L _ (H.out.later C1.out) HO.out.2.2.1.ok (HU.out.later C1.out) (HV.out.later C1.out) (HX.out.later C1.out) (HY.out.later C1.out) hll h1l h1k HO.out.2.2.1.loc (fun x hm => (HO.out.2.2.1.st x hm).1) HO.out.2.2.2.1.loc (fun x hm => (HO.out.2.2.2.1.st x hm).1)).mono ?_
  intro e w2 hP
  rw [← HV'.out] at hP
  obtain ⟨r, hr⟩ : ∃ r, shJoinV L (x0, us, vs) (y0, xs, ys) = r := ⟨_, rfl⟩
  have HR : Hid (shJoinV L (x0, us, vs) (y0, xs, ys) = r) := hr
  rw [hr] at hP
  clear hr
  obtain ⟨ga, n, gc, gk, k, kc', rfl, hI1, hI2, hb2⟩ := hP
  have B2 : Hid (Below (w.heap.size + 1 + 1 + 1) (((w.alloc (.cells #[.bool x0, .slice la ll lc, .slice ka kl kc] 26)).alloc (.cells #[.bool y0, .slice ma ml mc, .slice na nl nc] 26)).alloc (.cells #[.bool false, .slice none 0 0, .slice none 0 0] 26)) w2) := B1.out.trans (hb2.mono hz1)
  have I1 : Hid (IntsAt (fun b => w1.heap.size ≤ b) w2 ga n r.2.1) := hI1
  have I2 : Hid (IntsAt (fun b => w1.heap.size ≤ b) w2 gk k r.2.2) := hI2
  clear hI1 hI2 hb2 pa0 pa1 pa2 pb0 pb1 pb2 pq0 pq1 pq2 pf0 pf1 pf2
  obtain ⟨pa0, pa1, pa2, pb0, pb1, pb2, pq0, pq1, pq2, pf0, pf1, pf2⟩ := KB.out w2 B2.out
  go_wp2_with fail
  refine bodyPost_ret (v := .agg #[.bool r.1, .slice ga n gc, .slice gk k kc']) ?_ rfl ?_
  · simp [results, Tryd.results8, go_sem, pq0, pq1, pq2]
  · unfold JoinP
    rw [HR.out]
    refine ⟨_, _, _, _, _, _, rfl, ?_, ?_, (((B3.out.trans (B2.out.mono (by omega))).setCell (by simp; omega) _).setCell (by simp; omega) _).setCell (by simp; omega) _⟩
    · exact IntsAt.mono (I1.out.laid3 (w.heap.size + 1 + 1) (by omega) _ _ _) (fun b hb _ => by omega)
    · exact IntsAt.mono (I2.out.laid3 (w.heap.size + 1 + 1) (by omega) _ _ _) (fun b hb _ => by omega)

end Go.Proofs.YtkggmcbjpmhmcaaDoor
