/-
  Two shapes joined: that the program gives what is said of it, or the error, in whatever memory; it writes nothing that was there.
-/
import Derived.Test.YtkggmcbjpmhmcaaDoorJoinI
import Derived.Test.YtkggmcbjpmhmcaaDoorJoinT
namespace Go.Proofs.YtkggmcbjpmhmcaaDoor
open Go.ChangeShapes Go.WideShapes Go.ChangeAt Go.RowKit

def jl (L : List Cl) (us xs : List Int) : List Int := (List.range us.length).map (jn L us xs)
theorem below_dr {B : Nat} {a w : World} (h : Below B a w) : Below B a w.drew := h.trans ⟨rfl, rfl, rfl, Nat.le_refl _, fun _ _ => rfl⟩
theorem row_alloc (w : World) (cs : Array Value) (t : TypeId) (X : Nat) (hX : w.heap.size = X) : RowAt (w.alloc (.cells cs t)) X cs.size (fun j => cs.getD j undef) := by
  subst hX
  intro j hj
  refine ⟨?_, World.frozen?_alloc_at _ _ _ _ rfl⟩
  rw [World.cell?_alloc_at _ _ _ _ rfl]
  simp [hj]
theorem laid_al (w : World) (a b c v0 v1 v2 : Value) (t : TypeId) (Z : Nat) (hZ : Z = w.heap.size) : (((w.alloc (.cells #[a, b, c] t)).setCell ⟨Z, 0, none⟩ v0).setCell ⟨Z, 1, none⟩ v1).setCell ⟨Z, 2, none⟩ v2 = w.alloc (.cells #[v0, v1, v2] t) := by
  rw [World.setCell_alloc_at _ _ _ _ _ hZ, World.setCell_alloc_at _ _ _ _ _ hZ, World.setCell_alloc_at _ _ _ _ _ hZ]
  rfl
theorem allJoinedI (a : Option Addr) (len cap : Nat) (la : Option Addr) (ll lc : Nat) (ma : Option Addr) (ml mc : Nat) (us xs : List Int) (L : List Cl) (w : World) {D E P S : Nat → Prop}
    (h : ClsAt D E w a len L) (ok : clsOk L = true) (hu : IntsAt P w la ll us) (hx : IntsAt S w ma ml xs) (hll : ll ≤ ml) (hl : ll ≤ 1048576) :
    Calls Tryd.prog 43 #[.slice a len cap, .slice la ll lc, .slice ma ml mc] w fun e w' => ∃ g, e = .returned (.slice (some ⟨g, 0, none⟩) ll ll) ∧ w.heap.size ≤ g ∧ g < w'.heap.size ∧ RowAt w' g ll (fun j => .int .i64 (jn L us xs j)) ∧ Below w.heap.size w w' :=
  (allJoinedImpl a len cap la ll lc ma ml mc us xs L w h ok hu hx hll hl).mono fun _ _ h => ⟨_, h.1, Nat.le_refl _, h.2.2.2, h.2.1, h.2.2.1⟩
structure JF (w : World) (X g1 g2 ll kl : Nat) (L : List Cl) (us vs xs ys : List Int) (W0 x : World) : Prop where
  r1 : RowAt x g1 ll (fun j => .int .i64 (jn L us xs j))
  r2 : RowAt x g2 kl (fun j => .int .i64 (jn L vs ys j))
  c0 : x.cell? ⟨X, 0, none⟩ = some (.bool true)
  c1 : x.cell? ⟨X, 1, none⟩ = some (.slice (some ⟨g1, 0, none⟩) ll ll)
  c2 : x.cell? ⟨X, 2, none⟩ = some (.slice (some ⟨g2, 0, none⟩) kl kl)
  be : Below (w.heap.size + 1 + 1 + 1) W0 x
  lo1 : w.heap.size + 1 + 1 + 1 ≤ g1
  lo2 : w.heap.size + 1 + 1 + 1 ≤ g2
  ne : g1 ≠ g2
theorem RowAt.other3 {w : World} {G n : Nat} {f : Nat → Value} (h : RowAt w G n f) (X : Nat) (hX : G ≠ X) (x y z : Value) : RowAt (((w.setCell ⟨X, 0, none⟩ x).setCell ⟨X, 1, none⟩ y).setCell ⟨X, 2, none⟩ z) G n f := fun j hj => by
  refine ⟨?_, by rw [World.frozen?_setCell, World.frozen?_setCell, World.frozen?_setCell]; exact (h j hj).2⟩
  rw [World.cell?_setCell_other _ _ _ _ (by intro q; exact hX (congrArg Addr.block q).symm), World.cell?_setCell_other _ _ _ _ (by intro q; exact hX (congrArg Addr.block q).symm), World.cell?_setCell_other _ _ _ _ (by intro q; exact hX (congrArg Addr.block q).symm)]
  exact (h j hj).1
theorem JF.mk3 {w : World} {X g1 g2 ll kl : Nat} {L : List Cl} {us vs xs ys : List Int} {W0 x : World} {v0 v1 v2 : Value} (h1 : RowAt x g1 ll (fun j => .int .i64 (jn L us xs j))) (h2 : RowAt x g2 kl (fun j => .int .i64 (jn L vs ys j))) (hb : Below (w.heap.size + 1 + 1 + 1) W0 x) (z0 : x.cell? ⟨X, 0, none⟩ = some v0) (z1 : x.cell? ⟨X, 1, none⟩ = some v1) (z2 : x.cell? ⟨X, 2, none⟩ = some v2)
    (hX : w.heap.size + 1 + 1 + 1 ≤ X) (n1 : g1 ≠ X) (n2 : g2 ≠ X) (l1 : w.heap.size + 1 + 1 + 1 ≤ g1) (l2 : w.heap.size + 1 + 1 + 1 ≤ g2) (l12 : g1 < g2) :
    JF w X g1 g2 ll kl L us vs xs ys W0 (((x.setCell ⟨X, 0, none⟩ (.bool true)).setCell ⟨X, 1, none⟩ (.slice (some ⟨g1, 0, none⟩) ll ll)).setCell ⟨X, 2, none⟩ (.slice (some ⟨g2, 0, none⟩) kl kl)) := by
  have a1 : (x.setCell ⟨X, 0, none⟩ (.bool true)).cell? ⟨X, 1, none⟩ = some v1 := by rw [World.cell?_setCell_other _ _ _ _ (by simp)]; exact z1
  have a2 : ((x.setCell ⟨X, 0, none⟩ (.bool true)).setCell ⟨X, 1, none⟩ (.slice (some ⟨g1, 0, none⟩) ll ll)).cell? ⟨X, 2, none⟩ = some v2 := by rw [World.cell?_setCell_other _ _ _ _ (by simp), World.cell?_setCell_other _ _ _ _ (by simp)]; exact z2
  refine ⟨h1.other3 X n1 _ _ _, h2.other3 X n2 _ _ _, ?_, ?_, World.cell?_setCell_same _ _ _ a2, ((hb.setCell hX _).setCell hX _).setCell hX _, l1, l2, by omega⟩
  · rw [World.cell?_setCell_other _ _ _ _ (by simp), World.cell?_setCell_other _ _ _ _ (by simp)]; exact World.cell?_setCell_same _ _ _ z0
  · rw [World.cell?_setCell_other _ _ _ _ (by simp)]; exact World.cell?_setCell_same _ _ _ a1
theorem JF.ints2 {w : World} {X g1 g2 ll kl : Nat} {L : List Cl} {us vs xs ys : List Int} {W0 x : World} (h : JF w X g1 g2 ll kl L us vs xs ys W0 x) (hs : vs.length = kl) (hn : kl ≤ 1048576) (hf : ∀ j, -9223372036854775808 ≤ (jl L vs ys).getD j 0 ∧ (jl L vs ys).getD j 0 ≤ 9223372036854775807) : IntsAt (fun _ => True) x (some ⟨g2, 0, none⟩) kl (jl L vs ys) := by
  refine ⟨by simp [jl, hs], by omega, .inr ⟨g2, 0, rfl, trivial, fun j hj => ?_⟩, hf⟩
  rw [Nat.zero_add, (h.r2 j hj).1, jl, hs, List.getD_eq_getElem?_getD, List.getElem?_map, List.getElem?_range hj]
  rfl
theorem JF.row1 {w : World} {X g1 g2 ll kl : Nat} {L : List Cl} {us vs xs ys : List Int} {W0 x : World} (h : JF w X g1 g2 ll kl L us vs xs ys W0 x) (p q r : Value) : RowAt (((x.setCell ⟨w.heap.size + 1 + 1, 0, none⟩ p).setCell ⟨w.heap.size + 1 + 1, 1, none⟩ q).setCell ⟨w.heap.size + 1 + 1, 2, none⟩ r) g1 ll (fun j => .int .i64 (jn L us xs j)) := h.r1.other3 _ (by have := h.lo1; omega) _ _ _
theorem JF.row2 {w : World} {X g1 g2 ll kl : Nat} {L : List Cl} {us vs xs ys : List Int} {W0 x : World} (h : JF w X g1 g2 ll kl L us vs xs ys W0 x) (p q r : Value) : RowAt (((x.setCell ⟨w.heap.size + 1 + 1, 0, none⟩ p).setCell ⟨w.heap.size + 1 + 1, 1, none⟩ q).setCell ⟨w.heap.size + 1 + 1, 2, none⟩ r) g2 kl (fun j => .int .i64 (jn L vs ys j)) := h.r2.other3 _ (by have := h.lo2; omega) _ _ _

set_option maxRecDepth 100000 in
set_option maxHeartbeats 8000000 in
theorem treeShJoinImpl (a : Option Addr) (len cap : Nat) (x0 : Bool) (la : Option Addr) (ll lc : Nat) (ka : Option Addr) (kl kc : Nat) (y0 : Bool) (ma : Option Addr) (ml mc : Nat) (na : Option Addr) (nl nc : Nat) (us vs xs ys : List Int) (ea : Addr) (L : List Cl) (w : World) {D E P Q S T : Nat → Prop}
    (h : ClsAt D E w a len L) (ok : clsOk L = true) (hu : IntsAt P w la ll us) (hv : IntsAt Q w ka kl vs) (hx : IntsAt S w ma ml xs) (hy : IntsAt T w na nl ys) (h1l : ll ≤ 1048576) (hG : w.cell? ⟨0, 0, none⟩ = some (.iface 114 (.pointer (some ea)))) (hfit : ∀ j, -9223372036854775808 ≤ (jl L vs ys).getD j 0 ∧ (jl L vs ys).getD j 0 ≤ 9223372036854775807) :
    Calls Tryd.prog 22 #[.slice a len cap, .agg #[.bool x0, .slice la ll lc, .slice ka kl kc], .agg #[.bool y0, .slice ma ml mc, .slice na nl nc]] w fun e w' =>
      (((fitK len (x0, us, vs) (y0, xs, ys) = false ∨ (jl L vs ys).any (fun x => 0 == x) = true) ∧ e = .returned (.tuple #[.agg #[.bool false, .slice none 0 0, .slice none 0 0], .iface 114 (.pointer (some ea))])) ∨
       (fitK len (x0, us, vs) (y0, xs, ys) = true ∧ (jl L vs ys).any (fun x => 0 == x) = false ∧ ∃ g1 g2, e = .returned (.tuple #[.agg #[.bool true, .slice (some ⟨g1, 0, none⟩) ll ll, .slice (some ⟨g2, 0, none⟩) kl kl], .nilIface]) ∧ RowAt w' g1 ll (fun j => .int .i64 (jn L us xs j)) ∧ RowAt w' g2 kl (fun j => .int .i64 (jn L vs ys j)) ∧ w.heap.size ≤ g1 ∧ w.heap.size ≤ g2 ∧ g1 ≠ g2)) ∧ Below w.heap.size w w' := by
  have H : Hid (ClsAt D E w a len L) := h
  have OK : Hid (clsOk L = true) := ok
  have HS : Hid (L.length = len) := h.size
  have HU : Hid (IntsAt P w la ll us) := hu
  have HV : Hid (IntsAt Q w ka kl vs) := hv
  have HX : Hid (IntsAt S w ma ml xs) := hx
  have HY : Hid (IntsAt T w na nl ys) := hy
  have SU : Hid (us.length = ll) := hu.size
  have SV : Hid (vs.length = kl) := hv.size
  have SX : Hid (xs.length = ml) := hx.size
  have SY : Hid (ys.length = nl) := hy.size
  have F2 : Hid (∀ j, -9223372036854775808 ≤ (jl L vs ys).getD j 0 ∧ (jl L vs ys).getD j 0 ≤ 9223372036854775807) := hfit
  have KG : Hid (∀ x, Below w.heap.size w x → x.cell? ⟨0, 0, none⟩ = some (.iface 114 (.pointer (some ea)))) := fun x hb => by rw [hb.cell (p := ⟨0, 0, none⟩) (World.block_lt_of_cell? w _ hG)]; exact hG
  have KB : Hid (∀ x : World, Below (w.heap.size + 1 + 1 + 1) (((w.alloc (.cells #[.bool x0, .slice la ll lc, .slice ka kl kc] 26)).alloc (.cells #[.bool y0, .slice ma ml mc, .slice na nl nc] 26)).alloc (.cells #[.bool false, .slice none 0 0, .slice none 0 0] 26)) x → x.cell? ⟨w.heap.size, 0, none⟩ = some (.bool x0) ∧ x.cell? ⟨w.heap.size, 1, none⟩ = some (.slice la ll lc) ∧ x.cell? ⟨w.heap.size, 2, none⟩ = some (.slice ka kl kc) ∧ x.cell? ⟨w.heap.size + 1, 0, none⟩ = some (.bool y0) ∧ x.cell? ⟨w.heap.size + 1, 1, none⟩ = some (.slice ma ml mc) ∧ x.cell? ⟨w.heap.size + 1, 2, none⟩ = some (.slice na nl nc) ∧ x.cell? ⟨w.heap.size + 1 + 1, 0, none⟩ = some (.bool false) ∧ x.cell? ⟨w.heap.size + 1 + 1, 1, none⟩ = some (.slice none 0 0) ∧ x.cell? ⟨w.heap.size + 1 + 1, 2, none⟩ = some (.slice none 0 0) ∧ x.frozen? ⟨w.heap.size + 1 + 1, 0, none⟩ = false ∧ x.frozen? ⟨w.heap.size + 1 + 1, 1, none⟩ = false ∧ x.frozen? ⟨w.heap.size + 1 + 1, 2, none⟩ = false) := fun x hb => by
    have hf : ∀ j, x.frozen? ⟨w.heap.size + 1 + 1, j, none⟩ = false := fun j => by rw [hb.frozen (p := ⟨w.heap.size + 1 + 1, j, none⟩) (by simp)]; exact World.frozen?_alloc_at _ _ _ _ (by simp)
    have k0 : ∀ j v, (#[.bool x0, .slice la ll lc, .slice ka kl kc] : Array Value)[j]? = some v → x.cell? ⟨w.heap.size, j, none⟩ = some v := fun j v hv => by
      rw [hb.cell (p := ⟨w.heap.size, j, none⟩) (by simp only; omega), World.cell?_alloc_past _ _ _ (by simp; omega)]; exact two_first hv
    have k1 : ∀ j v, (#[.bool y0, .slice ma ml mc, .slice na nl nc] : Array Value)[j]? = some v → x.cell? ⟨w.heap.size + 1, j, none⟩ = some v := fun j v hv => by
      rw [hb.cell (p := ⟨w.heap.size + 1, j, none⟩) (by simp only; omega), World.cell?_alloc_past _ _ _ (by simp)]; exact two_second hv
    have k2 : ∀ j v, (#[.bool false, .slice none 0 0, .slice none 0 0] : Array Value)[j]? = some v → x.cell? ⟨w.heap.size + 1 + 1, j, none⟩ = some v := fun j v hv => by
      rw [hb.cell (p := ⟨w.heap.size + 1 + 1, j, none⟩) (by simp), World.cell?_alloc_at _ _ _ _ (by simp)]; exact hv
    exact ⟨k0 0 _ rfl, k0 1 _ rfl, k0 2 _ rfl, k1 0 _ rfl, k1 1 _ rfl, k1 2 _ rfl, k2 0 _ rfl, k2 1 _ rfl, k2 2 _ rfl, hf 0, hf 1, hf 2⟩
  have B3 : Hid (Below w.heap.size w (((w.alloc (.cells #[.bool x0, .slice la ll lc, .slice ka kl kc] 26)).alloc (.cells #[.bool y0, .slice ma ml mc, .slice na nl nc] 26)).alloc (.cells #[.bool false, .slice none 0 0, .slice none 0 0] 26))) := (((Below.refl _ _).alloc (Nat.le_refl _) _).alloc (by simp) _).alloc (by simp; omega) _
  clear h ok hu hv hx hy hG hfit
  go_enter Tryd.func22, Tryd.ntmps22
  go_wp2_with fail
  refine (fitImpl _ _ _ _ _ _ _ _ _ _ _ _ _ _ _ _ _ us vs xs ys L _ (H.out.later B3.out) (HU.out.later B3.out) (HV.out.later B3.out) (HX.out.later B3.out) (HY.out.later B3.out)).mono ?_
  rintro e w1 ⟨rfl, hb1⟩
  have B1 : Hid (Below (w.heap.size + 1 + 1 + 1) (((w.alloc (.cells #[.bool x0, .slice la ll lc, .slice ka kl kc] 26)).alloc (.cells #[.bool y0, .slice ma ml mc, .slice na nl nc] 26)).alloc (.cells #[.bool false, .slice none 0 0, .slice none 0 0] 26)) w1) := by show Below _ _ _; simpa using hb1
  have hz1 : w.heap.size + 1 + 1 + 1 ≤ w1.heap.size := by have := hb1.size; simpa using this
  obtain ⟨pa0, pa1, pa2, pb0, pb1, pb2, pq0, pq1, pq2, pf0, pf1, pf2⟩ := KB.out w1 B1.out
  have pg := KG.out w1 (B3.out.trans (B1.out.mono (by omega)))
  clear hb1
  cases hf : fitK len (x0, us, vs) (y0, xs, ys)
  · go_wp2_with fail
    go_region
    go_wp2_with fail
    refine bodyPost_ret (v := .tuple #[.agg #[.bool false, .slice none 0 0, .slice none 0 0], .iface 114 (.pointer (some ea))]) ?_ rfl ?_
    · simp [results, Tryd.results22, go_sem, pq0, pq1, pq2]
    · exact ⟨.inl ⟨.inl hf, rfl⟩, below_dr ((((B3.out.trans (B1.out.mono (by omega))).setCell (by simp; omega) _).setCell (by simp; omega) _).setCell (by simp; omega) _)⟩
  have HO : Hid (x0 = true ∧ y0 = true ∧ ShR L us.length (true, us, vs) ∧ ShR L us.length (true, xs, ys) ∧ vs.length = ys.length) := fit_of (by rw [fit_eq OK.out, HS.out]; exact hf)
  have hll : ll ≤ ml := by have := HO.out.2.2.2.1.len; simp only at this; rw [SU.out, SX.out] at this; omega
  have hkl : kl ≤ nl := by have := HO.out.2.2.2.2; rw [SV.out, SY.out] at this; omega
  have h1k : kl ≤ 1048576 := by have := HO.out.2.2.1.few; simp only at this; rw [SV.out] at this; omega
  have D0 : Hid (Below (w.heap.size + 1 + 1 + 1) (((w.alloc (.cells #[.bool x0, .slice la ll lc, .slice ka kl kc] 26)).alloc (.cells #[.bool y0, .slice ma ml mc, .slice na nl nc] 26)).alloc (.cells #[.bool false, .slice none 0 0, .slice none 0 0] 26)) (w1.drewN 1)) := below_drewN B1.out 1
  have C0 : Hid (Below w.heap.size w (w1.drewN 1)) := B3.out.trans (D0.out.mono (by omega))
  have KS : Hid (∀ x, Below (w.heap.size + 1 + 1 + 1) (((w.alloc (.cells #[.bool x0, .slice la ll lc, .slice ka kl kc] 26)).alloc (.cells #[.bool y0, .slice ma ml mc, .slice na nl nc] 26)).alloc (.cells #[.bool false, .slice none 0 0, .slice none 0 0] 26)) x → x.cell? ⟨w.heap.size, 1, none⟩ = some (.slice la ll lc) ∧ x.cell? ⟨w.heap.size, 2, none⟩ = some (.slice ka kl kc) ∧ x.cell? ⟨w.heap.size + 1, 1, none⟩ = some (.slice ma ml mc) ∧ x.cell? ⟨w.heap.size + 1, 2, none⟩ = some (.slice na nl nc)) := fun x hb => by
    obtain ⟨k0, k1, k2, k3, k4, k5, _⟩ := KB.out x hb
    exact ⟨k1, k2, k4, k5⟩
  clear pa0 pa1 pa2 pb0 pb1 pb2 pq0 pq1 pq2 pf0 pf1 pf2 pg
  go_wp2_with fail
  refine wp_region_held_drew (S := fun x => x.cell? ⟨w.heap.size, 1, none⟩ = some (.slice la ll lc) ∧ x.cell? ⟨w.heap.size, 2, none⟩ = some (.slice ka kl kc) ∧ x.cell? ⟨w.heap.size + 1, 1, none⟩ = some (.slice ma ml mc) ∧ x.cell? ⟨w.heap.size + 1, 2, none⟩ = some (.slice na nl nc)) (by kernel_rfl) ?_ (fun hHeld => ?_)
  · exact KS.out _ D0.out
  refine wpAnyH_take (i := 0) (v := .slice a len cap) rfl (by kernel_rfl) (by kernel_rfl) (by kernel_rfl) (fun _ _ _ h => h) (Or.inl ⟨by kernel_rfl, by (intro x hSx; (try dsimp only at hSx); go_simp)⟩) (by assumption) ?_
  try simp only [Act.put, List.getElem_toArray, List.getElem_cons_zero, List.setIfInBounds_toArray, List.set_cons_zero, List.set_cons_succ]
  refine wpAnyH_take (i := 1) (v := .pointer (some ⟨w.heap.size, 1, none⟩)) rfl (by kernel_rfl) (by kernel_rfl) (by kernel_rfl) (fun _ _ _ h => h) (Or.inl ⟨by kernel_rfl, by (intro x hSx; (try dsimp only at hSx); go_simp)⟩) (by assumption) ?_
  try simp only [Act.put, List.getElem_toArray, List.getElem_cons_zero, List.getElem_cons_succ, List.setIfInBounds_toArray, List.set_cons_zero, List.set_cons_succ]
  refine wpAnyH_take (i := 2) (v := .slice la ll lc) rfl (by kernel_rfl) (by kernel_rfl) (by kernel_rfl) (fun _ _ _ h => h) (Or.inl ⟨by kernel_rfl, by (intro x hSx; (try dsimp only at hSx); go_simp)⟩) (by assumption) ?_
  try simp only [Act.put, List.getElem_toArray, List.getElem_cons_zero, List.getElem_cons_succ, List.setIfInBounds_toArray, List.set_cons_zero, List.set_cons_succ]
  refine wpAnyH_take (i := 3) (v := .pointer (some ⟨w.heap.size + 1, 1, none⟩)) rfl (by kernel_rfl) (by kernel_rfl) (by kernel_rfl) (fun _ _ _ h => h) (Or.inl ⟨by kernel_rfl, by (intro x hSx; (try dsimp only at hSx); go_simp)⟩) (by assumption) ?_
  try simp only [Act.put, List.getElem_toArray, List.getElem_cons_zero, List.getElem_cons_succ, List.setIfInBounds_toArray, List.set_cons_zero, List.set_cons_succ]
  refine wpAnyH_take (i := 4) (v := .slice ma ml mc) rfl (by kernel_rfl) (by kernel_rfl) (by kernel_rfl) (fun _ _ _ h => h) (Or.inl ⟨by kernel_rfl, by (intro x hSx; (try dsimp only at hSx); go_simp)⟩) (by assumption) ?_
  try simp only [Act.put, List.getElem_toArray, List.getElem_cons_zero, List.getElem_cons_succ, List.setIfInBounds_toArray, List.set_cons_zero, List.set_cons_succ]
  refine wpAnyH_take (i := 6) (v := .slice a len cap) rfl (by kernel_rfl) (by kernel_rfl) (by kernel_rfl) (fun _ _ _ h => h) (Or.inl ⟨by kernel_rfl, by (intro x hSx; (try dsimp only at hSx); go_simp)⟩) (by assumption) ?_
  try simp only [Act.put, List.getElem_toArray, List.getElem_cons_zero, List.getElem_cons_succ, List.setIfInBounds_toArray, List.set_cons_zero, List.set_cons_succ]
  refine wpAnyH_take (i := 7) (v := .pointer (some ⟨w.heap.size, 2, none⟩)) rfl (by kernel_rfl) (by kernel_rfl) (by kernel_rfl) (fun _ _ _ h => h) (Or.inl ⟨by kernel_rfl, by (intro x hSx; (try dsimp only at hSx); go_simp)⟩) (by assumption) ?_
  try simp only [Act.put, List.getElem_toArray, List.getElem_cons_zero, List.getElem_cons_succ, List.setIfInBounds_toArray, List.set_cons_zero, List.set_cons_succ]
  refine wpAnyH_take (i := 8) (v := .slice ka kl kc) rfl (by kernel_rfl) (by kernel_rfl) (by kernel_rfl) (fun _ _ _ h => h) (Or.inl ⟨by kernel_rfl, by (intro x hSx; (try dsimp only at hSx); go_simp)⟩) (by assumption) ?_
  try simp only [Act.put, List.getElem_toArray, List.getElem_cons_zero, List.getElem_cons_succ, List.setIfInBounds_toArray, List.set_cons_zero, List.set_cons_succ]
  refine wpAnyH_take (i := 9) (v := .pointer (some ⟨w.heap.size + 1, 2, none⟩)) rfl (by kernel_rfl) (by kernel_rfl) (by kernel_rfl) (fun _ _ _ h => h) (Or.inl ⟨by kernel_rfl, by (intro x hSx; (try dsimp only at hSx); go_simp)⟩) (by assumption) ?_
  try simp only [Act.put, List.getElem_toArray, List.getElem_cons_zero, List.getElem_cons_succ, List.setIfInBounds_toArray, List.set_cons_zero, List.set_cons_succ]
  refine wpAnyH_take (i := 10) (v := .slice na nl nc) rfl (by kernel_rfl) (by kernel_rfl) (by kernel_rfl) (fun _ _ _ h => h) (Or.inl ⟨by kernel_rfl, by (intro x hSx; (try dsimp only at hSx); go_simp)⟩) (by assumption) ?_
  try simp only [Act.put, List.getElem_toArray, List.getElem_cons_zero, List.getElem_cons_succ, List.setIfInBounds_toArray, List.set_cons_zero, List.set_cons_succ]
  refine wpAnyH_ready (rs := [5, 13]) (by kernel_rfl) (by simp) ?_
  refine AllReadyH.cons rfl (fun K hK => ?_) (AllReadyH.cons rfl (fun K hK => ?_) AllReadyH.nil)
  · go_simp
    go_at_call 43
    refine (allJoinedI _ _ _ _ _ _ _ _ _ us xs L _ (H.out.later (C0.out)) OK.out (HU.out.later (C0.out)) (HX.out.later (C0.out)) hll h1l).mono ?_
    rintro e w2 ⟨g1, rfl, hg, hgl, hr, hb⟩
    have R1 : Hid (RowAt w2 g1 ll (fun j => .int .i64 (jn L us xs j))) := hr
    have D1 : Hid (Below (w.heap.size + 1 + 1 + 1) (((w.alloc (.cells #[.bool x0, .slice la ll lc, .slice ka kl kc] 26)).alloc (.cells #[.bool y0, .slice ma ml mc, .slice na nl nc] 26)).alloc (.cells #[.bool false, .slice none 0 0, .slice none 0 0] 26)) w2) := D0.out.trans (hb.mono (by have := D0.out.size; simpa using this))
    have C1 : Hid (Below w.heap.size w w2) := B3.out.trans (D1.out.mono (by omega))
    have hgs1 : w1.heap.size ≤ g1 := by first | exact hg | (have := hg; simp at this; omega)
    have g1_lo : (w.heap.size + 1 + 1 + 1) ≤ g1 := Nat.le_trans (by have := D0.out.size; simpa using this) hg
    have g1_hi : g1 < w2.heap.size := hgl
    have s1 : w1.heap.size ≤ w2.heap.size := by first | exact hb.size | (have := hb.size; simp at this; omega)
    clear hb hr hg hgl
    go_wp2_with fail
    refine hK.out _ _ (KS.out _ D1.out) (fun hHeld2 => ?_)
    clear hK K
    try simp only [Act.put, List.getElem_toArray, List.getElem_cons_zero, List.getElem_cons_succ, List.setIfInBounds_toArray, List.set_cons_zero, List.set_cons_succ]
    refine wpAnyH_ready (rs := [11, 13]) (by kernel_rfl) (by simp) ?_
    refine AllReadyH.cons rfl (fun K hK => ?_) (AllReadyH.cons rfl (fun K hK => ?_) AllReadyH.nil)
    · go_simp
      go_at_call 43
      refine (allJoinedI _ _ _ _ _ _ _ _ _ vs ys L _ (H.out.later (C1.out)) OK.out (HV.out.later (C1.out)) (HY.out.later (C1.out)) hkl h1k).mono ?_
      rintro e w3 ⟨g2, rfl, hg, hgl, hr, hb⟩
      replace R1 : Hid (RowAt w3 g1 ll (fun j => .int .i64 (jn L us xs j))) := R1.out.later hb
      have R2 : Hid (RowAt w3 g2 kl (fun j => .int .i64 (jn L vs ys j))) := hr
      have D2 : Hid (Below (w.heap.size + 1 + 1 + 1) (((w.alloc (.cells #[.bool x0, .slice la ll lc, .slice ka kl kc] 26)).alloc (.cells #[.bool y0, .slice ma ml mc, .slice na nl nc] 26)).alloc (.cells #[.bool false, .slice none 0 0, .slice none 0 0] 26)) w3) := D1.out.trans (hb.mono (by have := D1.out.size; simpa using this))
      have C2 : Hid (Below w.heap.size w w3) := B3.out.trans (D2.out.mono (by omega))
      have hgs2 : w2.heap.size ≤ g2 := by first | exact hg | (have := hg; simp at this; omega)
      have g2_lo : (w.heap.size + 1 + 1 + 1) ≤ g2 := Nat.le_trans (by have := D1.out.size; simpa using this) hg
      have g2_hi : g2 < w3.heap.size := hgl
      have g12 : g1 < g2 := by omega
      have s2 : w2.heap.size ≤ w3.heap.size := by first | exact hb.size | (have := hb.size; simp at this; omega)
      clear hb hr hg hgl
      go_wp2_with fail
      refine hK.out _ _ (KS.out _ D2.out) (fun hHeld3 => ?_)
      clear hK K
      try simp only [Act.put, List.getElem_toArray, List.getElem_cons_zero, List.getElem_cons_succ, List.setIfInBounds_toArray, List.set_cons_zero, List.set_cons_succ]
      refine wpAnyH_take (i := 12) (v := .agg #[.bool true, .slice (some ⟨g1, 0, none⟩) ll ll, .slice (some ⟨g2, 0, none⟩) kl kl]) rfl (by kernel_rfl) (by kernel_rfl) (by kernel_rfl) (fun _ _ _ h => h) (Or.inl ⟨by kernel_rfl, by (intro x hSx; (try dsimp only at hSx); go_simp)⟩) (by assumption) ?_
      try simp only [Act.put, List.getElem_toArray, List.getElem_cons_zero, List.getElem_cons_succ, List.setIfInBounds_toArray, List.set_cons_zero, List.set_cons_succ]
      refine wpAnyH_ready (rs := [13]) (by kernel_rfl) (by simp) ?_
      refine AllReadyH.cons rfl (fun K hK => ?_) AllReadyH.nil
      go_simp
      have D3 : Hid (Below (w.heap.size + 1 + 1 + 1) (((w.alloc (.cells #[.bool x0, .slice la ll lc, .slice ka kl kc] 26)).alloc (.cells #[.bool y0, .slice ma ml mc, .slice na nl nc] 26)).alloc (.cells #[.bool false, .slice none 0 0, .slice none 0 0] 26)) (w3.alloc (.cells #[.bool false, .slice none 0 0, .slice none 0 0] 26))) := D2.out.alloc (by have := D2.out.size; simpa using this) _
      have C3 : Hid (Below w.heap.size w (w3.alloc (.cells #[.bool false, .slice none 0 0, .slice none 0 0] 26))) := B3.out.trans (D3.out.mono (by omega))
      replace R1 : Hid (RowAt (w3.alloc (.cells #[.bool false, .slice none 0 0, .slice none 0 0] 26)) g1 ll (fun j => .int .i64 (jn L us xs j))) := R1.out.later ((Below.refl _ _).alloc (Nat.le_refl _) _)
      replace R2 : Hid (RowAt (w3.alloc (.cells #[.bool false, .slice none 0 0, .slice none 0 0] 26)) g2 kl (fun j => .int .i64 (jn L vs ys j))) := R2.out.later ((Below.refl _ _).alloc (Nat.le_refl _) _)
      have RX : Hid (RowAt (w3.alloc (.cells #[.bool false, .slice none 0 0, .slice none 0 0] 26)) w3.heap.size 3 (fun j => (#[.bool false, .slice none 0 0, .slice none 0 0] : Array Value).getD j undef)) := row_alloc _ _ _ _ (by simp)
      have X_lo : (w.heap.size + 1 + 1 + 1) ≤ w3.heap.size := by have := D2.out.size; simpa using this
      have g1_x : g1 ≠ w3.heap.size := by omega
      have g2_x : g2 ≠ w3.heap.size := by omega
      refine hK.out _ _ (KS.out _ D3.out) (fun hHeld4 => ?_)
      clear hK K
      try simp only [Act.put, List.getElem_toArray, List.getElem_cons_zero, List.getElem_cons_succ, List.setIfInBounds_toArray, List.set_cons_zero, List.set_cons_succ]
      refine wpAnyH_ready (rs := [14]) (by kernel_rfl) (by simp) ?_
      refine AllReadyH.cons rfl (fun K hK => ?_) AllReadyH.nil
      have z0 : (w3.alloc (.cells #[.bool false, .slice none 0 0, .slice none 0 0] 26)).cell? ⟨w3.heap.size, 0, none⟩ = some (.bool false) := (RX.out 0 (by omega)).1
      have z1 : (w3.alloc (.cells #[.bool false, .slice none 0 0, .slice none 0 0] 26)).cell? ⟨w3.heap.size, 1, none⟩ = some (.slice none 0 0) := (RX.out 1 (by omega)).1
      have z2 : (w3.alloc (.cells #[.bool false, .slice none 0 0, .slice none 0 0] 26)).cell? ⟨w3.heap.size, 2, none⟩ = some (.slice none 0 0) := (RX.out 2 (by omega)).1
      have Z0 : Hid ((w3.alloc (.cells #[.bool false, .slice none 0 0, .slice none 0 0] 26)).cell? ⟨w3.heap.size, 0, none⟩ = some (.bool false)) := z0
      have Z1 : Hid ((w3.alloc (.cells #[.bool false, .slice none 0 0, .slice none 0 0] 26)).cell? ⟨w3.heap.size, 1, none⟩ = some (.slice none 0 0)) := z1
      have Z2 : Hid ((w3.alloc (.cells #[.bool false, .slice none 0 0, .slice none 0 0] 26)).cell? ⟨w3.heap.size, 2, none⟩ = some (.slice none 0 0)) := z2
      have f0 := (RX.out 0 (by omega)).2
      have f1 := (RX.out 1 (by omega)).2
      have f2 := (RX.out 2 (by omega)).2
      go_simp
      have FIN : Hid (JF w w3.heap.size g1 g2 ll kl L us vs xs ys (((w.alloc (.cells #[.bool x0, .slice la ll lc, .slice ka kl kc] 26)).alloc (.cells #[.bool y0, .slice ma ml mc, .slice na nl nc] 26)).alloc (.cells #[.bool false, .slice none 0 0, .slice none 0 0] 26)) (w3.alloc (.cells #[.bool true, .slice (some ⟨g1, 0, none⟩) ll ll, .slice (some ⟨g2, 0, none⟩) kl kl] 26))) := by
        show JF _ _ _ _ _ _ _ _ _ _ _ _ _
        rw [← laid_al w3 (.bool false) (.slice none 0 0) (.slice none 0 0) _ _ _ _ _ rfl]
        exact JF.mk3 R1.out R2.out D3.out Z0.out Z1.out Z2.out X_lo g1_x g2_x g1_lo g2_lo g12
      clear z0 z1 z2 f0 f1 f2 Z0 Z1 Z2
      refine hK.out _ _ ?_ (fun hHeld5 => ?_)
      · exact KS.out _ FIN.out.be
      clear hK K
      try simp only [Act.put, List.getElem_toArray, List.getElem_cons_zero, List.getElem_cons_succ, List.setIfInBounds_toArray, List.set_cons_zero, List.set_cons_succ]
      refine wpAnyH_done (by kernel_rfl) ?_ _
      clear hHeld hHeld2 hHeld3 hHeld4 hHeld5
      have fc0 := FIN.out.c0
      have fc1 := FIN.out.c1
      have fc2 := FIN.out.c2
      have fbe : Hid (Below (w.heap.size + 1 + 1 + 1) (((w.alloc (.cells #[.bool x0, .slice la ll lc, .slice ka kl kc] 26)).alloc (.cells #[.bool y0, .slice ma ml mc, .slice na nl nc] 26)).alloc (.cells #[.bool false, .slice none 0 0, .slice none 0 0] 26)) (w3.alloc (.cells #[.bool true, .slice (some ⟨g1, 0, none⟩) ll ll, .slice (some ⟨g2, 0, none⟩) kl kl] 26))) := FIN.out.be
      obtain ⟨w7, hw7⟩ : ∃ x, x = (w3.alloc (.cells #[.bool true, .slice (some ⟨g1, 0, none⟩) ll ll, .slice (some ⟨g2, 0, none⟩) kl kl] 26)) := ⟨_, rfl⟩
      rw [← hw7] at fc0 fc1 fc2 fbe FIN
      clear RX R1 R2
      rw [← hw7]
      clear hw7
      go_wp2_with fail
      refine (containsImpl _ _ _ 0 (jl L vs ys) _ (FIN.out.ints2 SV.out h1k F2.out)).mono ?_
      rintro e w8 ⟨rfl, rfl⟩
      obtain ⟨pa0, pa1, pa2, pb0, pb1, pb2, pq0, pq1, pq2, pf0, pf1, pf2⟩ := KB.out w7 fbe.out
      have pg := KG.out w7 (B3.out.trans (fbe.out.mono (by omega)))
      cases hc : (jl L vs ys).any (fun x => 0 == x)
      · go_wp2_with fail
        refine bodyPost_ret (v := .tuple #[.agg #[.bool true, .slice (some ⟨g1, 0, none⟩) ll ll, .slice (some ⟨g2, 0, none⟩) kl kl], .nilIface]) ?_ rfl ?_
        · simp [results, Tryd.results22, go_sem, pq0, pq1, pq2]
        · exact ⟨.inr ⟨hf, hc, g1, g2, rfl, FIN.out.row1 _ _ _, FIN.out.row2 _ _ _, by have := FIN.out.lo1; omega, by have := FIN.out.lo2; omega, FIN.out.ne⟩, (((B3.out.trans (fbe.out.mono (by omega))).setCell (by simp; omega) _).setCell (by simp; omega) _).setCell (by simp; omega) _⟩
      · go_wp2_with fail
        go_region
        go_wp2_with fail
        refine bodyPost_ret (v := .tuple #[.agg #[.bool false, .slice none 0 0, .slice none 0 0], .iface 114 (.pointer (some ea))]) ?_ rfl ?_
        · simp [results, Tryd.results22, go_sem, pq0, pq1, pq2]
        · exact ⟨.inl ⟨.inr hc, rfl⟩, below_dr ((((B3.out.trans (fbe.out.mono (by omega))).setCell (by simp; omega) _).setCell (by simp; omega) _).setCell (by simp; omega) _)⟩
    · go_simp
      have D2 : Hid (Below (w.heap.size + 1 + 1 + 1) (((w.alloc (.cells #[.bool x0, .slice la ll lc, .slice ka kl kc] 26)).alloc (.cells #[.bool y0, .slice ma ml mc, .slice na nl nc] 26)).alloc (.cells #[.bool false, .slice none 0 0, .slice none 0 0] 26)) (w2.alloc (.cells #[.bool false, .slice none 0 0, .slice none 0 0] 26))) := D1.out.alloc (by have := D1.out.size; simpa using this) _
      have C2 : Hid (Below w.heap.size w (w2.alloc (.cells #[.bool false, .slice none 0 0, .slice none 0 0] 26))) := B3.out.trans (D2.out.mono (by omega))
      replace R1 : Hid (RowAt (w2.alloc (.cells #[.bool false, .slice none 0 0, .slice none 0 0] 26)) g1 ll (fun j => .int .i64 (jn L us xs j))) := R1.out.later ((Below.refl _ _).alloc (Nat.le_refl _) _)
      have RX : Hid (RowAt (w2.alloc (.cells #[.bool false, .slice none 0 0, .slice none 0 0] 26)) w2.heap.size 3 (fun j => (#[.bool false, .slice none 0 0, .slice none 0 0] : Array Value).getD j undef)) := row_alloc _ _ _ _ (by simp)
      have X_lo : (w.heap.size + 1 + 1 + 1) ≤ w2.heap.size := by have := D1.out.size; simpa using this
      have g1_x : g1 ≠ w2.heap.size := by omega
      refine hK.out _ _ (KS.out _ D2.out) (fun hHeld3 => ?_)
      clear hK K
      try simp only [Act.put, List.getElem_toArray, List.getElem_cons_zero, List.getElem_cons_succ, List.setIfInBounds_toArray, List.set_cons_zero, List.set_cons_succ]
      refine wpAnyH_ready (rs := [11]) (by kernel_rfl) (by simp) ?_
      refine AllReadyH.cons rfl (fun K hK => ?_) AllReadyH.nil
      go_simp
      go_at_call 43
      refine (allJoinedI _ _ _ _ _ _ _ _ _ vs ys L _ (H.out.later (C2.out)) OK.out (HV.out.later (C2.out)) (HY.out.later (C2.out)) hkl h1k).mono ?_
      rintro e w4 ⟨g2, rfl, hg, hgl, hr, hb⟩
      replace R1 : Hid (RowAt w4 g1 ll (fun j => .int .i64 (jn L us xs j))) := R1.out.later hb
      replace RX : Hid (RowAt w4 w2.heap.size 3 (fun j => (#[.bool false, .slice none 0 0, .slice none 0 0] : Array Value).getD j undef)) := RX.out.later hb
      have R2 : Hid (RowAt w4 g2 kl (fun j => .int .i64 (jn L vs ys j))) := hr
      have D3 : Hid (Below (w.heap.size + 1 + 1 + 1) (((w.alloc (.cells #[.bool x0, .slice la ll lc, .slice ka kl kc] 26)).alloc (.cells #[.bool y0, .slice ma ml mc, .slice na nl nc] 26)).alloc (.cells #[.bool false, .slice none 0 0, .slice none 0 0] 26)) w4) := D2.out.trans (hb.mono (by have := D2.out.size; simpa using this))
      have C3 : Hid (Below w.heap.size w w4) := B3.out.trans (D3.out.mono (by omega))
      have hgs3 : w2.heap.size + 1 ≤ g2 := by first | exact hg | (have := hg; simp at this; omega)
      have g2_lo : (w.heap.size + 1 + 1 + 1) ≤ g2 := Nat.le_trans (by have := D2.out.size; simpa using this) hg
      have g2_hi : g2 < w4.heap.size := hgl
      have g12 : g1 < g2 := by omega
      have g2_x : g2 ≠ w2.heap.size := by omega
      have s3 : w2.heap.size + 1 ≤ w4.heap.size := by first | exact hb.size | (have := hb.size; simp at this; omega)
      clear hb hr hg hgl
      go_wp2_with fail
      refine hK.out _ _ (KS.out _ D3.out) (fun hHeld4 => ?_)
      clear hK K
      try simp only [Act.put, List.getElem_toArray, List.getElem_cons_zero, List.getElem_cons_succ, List.setIfInBounds_toArray, List.set_cons_zero, List.set_cons_succ]
      refine wpAnyH_take (i := 12) (v := .agg #[.bool true, .slice (some ⟨g1, 0, none⟩) ll ll, .slice (some ⟨g2, 0, none⟩) kl kl]) rfl (by kernel_rfl) (by kernel_rfl) (by kernel_rfl) (fun _ _ _ h => h) (Or.inl ⟨by kernel_rfl, by (intro x hSx; (try dsimp only at hSx); go_simp)⟩) (by assumption) ?_
      try simp only [Act.put, List.getElem_toArray, List.getElem_cons_zero, List.getElem_cons_succ, List.setIfInBounds_toArray, List.set_cons_zero, List.set_cons_succ]
      refine wpAnyH_ready (rs := [14]) (by kernel_rfl) (by simp) ?_
      refine AllReadyH.cons rfl (fun K hK => ?_) AllReadyH.nil
      have z0 : w4.cell? ⟨w2.heap.size, 0, none⟩ = some (.bool false) := (RX.out 0 (by omega)).1
      have z1 : w4.cell? ⟨w2.heap.size, 1, none⟩ = some (.slice none 0 0) := (RX.out 1 (by omega)).1
      have z2 : w4.cell? ⟨w2.heap.size, 2, none⟩ = some (.slice none 0 0) := (RX.out 2 (by omega)).1
      have Z0 : Hid (w4.cell? ⟨w2.heap.size, 0, none⟩ = some (.bool false)) := z0
      have Z1 : Hid (w4.cell? ⟨w2.heap.size, 1, none⟩ = some (.slice none 0 0)) := z1
      have Z2 : Hid (w4.cell? ⟨w2.heap.size, 2, none⟩ = some (.slice none 0 0)) := z2
      have f0 := (RX.out 0 (by omega)).2
      have f1 := (RX.out 1 (by omega)).2
      have f2 := (RX.out 2 (by omega)).2
      go_simp
      have FIN : Hid (JF w w2.heap.size g1 g2 ll kl L us vs xs ys (((w.alloc (.cells #[.bool x0, .slice la ll lc, .slice ka kl kc] 26)).alloc (.cells #[.bool y0, .slice ma ml mc, .slice na nl nc] 26)).alloc (.cells #[.bool false, .slice none 0 0, .slice none 0 0] 26)) (((w4.setCell ⟨w2.heap.size, 0, none⟩ (.bool true)).setCell ⟨w2.heap.size, 1, none⟩ (.slice (some ⟨g1, 0, none⟩) ll ll)).setCell ⟨w2.heap.size, 2, none⟩ (.slice (some ⟨g2, 0, none⟩) kl kl))) := JF.mk3 R1.out R2.out D3.out Z0.out Z1.out Z2.out X_lo g1_x g2_x g1_lo g2_lo g12
      clear z0 z1 z2 f0 f1 f2 Z0 Z1 Z2
      refine hK.out _ _ ?_ (fun hHeld5 => ?_)
      · exact KS.out _ FIN.out.be
      clear hK K
      try simp only [Act.put, List.getElem_toArray, List.getElem_cons_zero, List.getElem_cons_succ, List.setIfInBounds_toArray, List.set_cons_zero, List.set_cons_succ]
      refine wpAnyH_done (by kernel_rfl) ?_ _
      clear hHeld hHeld2 hHeld3 hHeld4 hHeld5
      have fc0 := FIN.out.c0
      have fc1 := FIN.out.c1
      have fc2 := FIN.out.c2
      have fbe : Hid (Below (w.heap.size + 1 + 1 + 1) (((w.alloc (.cells #[.bool x0, .slice la ll lc, .slice ka kl kc] 26)).alloc (.cells #[.bool y0, .slice ma ml mc, .slice na nl nc] 26)).alloc (.cells #[.bool false, .slice none 0 0, .slice none 0 0] 26)) (((w4.setCell ⟨w2.heap.size, 0, none⟩ (.bool true)).setCell ⟨w2.heap.size, 1, none⟩ (.slice (some ⟨g1, 0, none⟩) ll ll)).setCell ⟨w2.heap.size, 2, none⟩ (.slice (some ⟨g2, 0, none⟩) kl kl))) := FIN.out.be
      obtain ⟨w7, hw7⟩ : ∃ x, x = (((w4.setCell ⟨w2.heap.size, 0, none⟩ (.bool true)).setCell ⟨w2.heap.size, 1, none⟩ (.slice (some ⟨g1, 0, none⟩) ll ll)).setCell ⟨w2.heap.size, 2, none⟩ (.slice (some ⟨g2, 0, none⟩) kl kl)) := ⟨_, rfl⟩
      rw [← hw7] at fc0 fc1 fc2 fbe FIN
      clear RX R1 R2
      rw [← hw7]
      clear hw7
      go_wp2_with fail
      refine (containsImpl _ _ _ 0 (jl L vs ys) _ (FIN.out.ints2 SV.out h1k F2.out)).mono ?_
      rintro e w8 ⟨rfl, rfl⟩
      obtain ⟨pa0, pa1, pa2, pb0, pb1, pb2, pq0, pq1, pq2, pf0, pf1, pf2⟩ := KB.out w7 fbe.out
      have pg := KG.out w7 (B3.out.trans (fbe.out.mono (by omega)))
      cases hc : (jl L vs ys).any (fun x => 0 == x)
      · go_wp2_with fail
        refine bodyPost_ret (v := .tuple #[.agg #[.bool true, .slice (some ⟨g1, 0, none⟩) ll ll, .slice (some ⟨g2, 0, none⟩) kl kl], .nilIface]) ?_ rfl ?_
        · simp [results, Tryd.results22, go_sem, pq0, pq1, pq2]
        · exact ⟨.inr ⟨hf, hc, g1, g2, rfl, FIN.out.row1 _ _ _, FIN.out.row2 _ _ _, by have := FIN.out.lo1; omega, by have := FIN.out.lo2; omega, FIN.out.ne⟩, (((B3.out.trans (fbe.out.mono (by omega))).setCell (by simp; omega) _).setCell (by simp; omega) _).setCell (by simp; omega) _⟩
      · go_wp2_with fail
        go_region
        go_wp2_with fail
        refine bodyPost_ret (v := .tuple #[.agg #[.bool false, .slice none 0 0, .slice none 0 0], .iface 114 (.pointer (some ea))]) ?_ rfl ?_
        · simp [results, Tryd.results22, go_sem, pq0, pq1, pq2]
        · exact ⟨.inl ⟨.inr hc, rfl⟩, below_dr ((((B3.out.trans (fbe.out.mono (by omega))).setCell (by simp; omega) _).setCell (by simp; omega) _).setCell (by simp; omega) _)⟩
  · go_simp
    have D1 : Hid (Below (w.heap.size + 1 + 1 + 1) (((w.alloc (.cells #[.bool x0, .slice la ll lc, .slice ka kl kc] 26)).alloc (.cells #[.bool y0, .slice ma ml mc, .slice na nl nc] 26)).alloc (.cells #[.bool false, .slice none 0 0, .slice none 0 0] 26)) ((w1.drewN 1).alloc (.cells #[.bool false, .slice none 0 0, .slice none 0 0] 26))) := D0.out.alloc (by have := D0.out.size; simpa using this) _
    have C1 : Hid (Below w.heap.size w ((w1.drewN 1).alloc (.cells #[.bool false, .slice none 0 0, .slice none 0 0] 26))) := B3.out.trans (D1.out.mono (by omega))
    have RX : Hid (RowAt ((w1.drewN 1).alloc (.cells #[.bool false, .slice none 0 0, .slice none 0 0] 26)) w1.heap.size 3 (fun j => (#[.bool false, .slice none 0 0, .slice none 0 0] : Array Value).getD j undef)) := row_alloc _ _ _ _ (by simp)
    have X_lo : (w.heap.size + 1 + 1 + 1) ≤ w1.heap.size := by have := D0.out.size; simpa using this
    refine hK.out _ _ (KS.out _ D1.out) (fun hHeld2 => ?_)
    clear hK K
    try simp only [Act.put, List.getElem_toArray, List.getElem_cons_zero, List.getElem_cons_succ, List.setIfInBounds_toArray, List.set_cons_zero, List.set_cons_succ]
    refine wpAnyH_ready (rs := [5]) (by kernel_rfl) (by simp) ?_
    refine AllReadyH.cons rfl (fun K hK => ?_) AllReadyH.nil
    go_simp
    go_at_call 43
    refine (allJoinedI _ _ _ _ _ _ _ _ _ us xs L _ (H.out.later (C1.out)) OK.out (HU.out.later (C1.out)) (HX.out.later (C1.out)) hll h1l).mono ?_
    rintro e w3 ⟨g1, rfl, hg, hgl, hr, hb⟩
    replace RX : Hid (RowAt w3 w1.heap.size 3 (fun j => (#[.bool false, .slice none 0 0, .slice none 0 0] : Array Value).getD j undef)) := RX.out.later hb
    have R1 : Hid (RowAt w3 g1 ll (fun j => .int .i64 (jn L us xs j))) := hr
    have D2 : Hid (Below (w.heap.size + 1 + 1 + 1) (((w.alloc (.cells #[.bool x0, .slice la ll lc, .slice ka kl kc] 26)).alloc (.cells #[.bool y0, .slice ma ml mc, .slice na nl nc] 26)).alloc (.cells #[.bool false, .slice none 0 0, .slice none 0 0] 26)) w3) := D1.out.trans (hb.mono (by have := D1.out.size; simpa using this))
    have C2 : Hid (Below w.heap.size w w3) := B3.out.trans (D2.out.mono (by omega))
    have hgs2 : w1.heap.size + 1 ≤ g1 := by first | exact hg | (have := hg; simp at this; omega)
    have g1_lo : (w.heap.size + 1 + 1 + 1) ≤ g1 := Nat.le_trans (by have := D1.out.size; simpa using this) hg
    have g1_hi : g1 < w3.heap.size := hgl
    have g1_x : g1 ≠ w1.heap.size := by omega
    have s2 : w1.heap.size + 1 ≤ w3.heap.size := by first | exact hb.size | (have := hb.size; simp at this; omega)
    clear hb hr hg hgl
    go_wp2_with fail
    refine hK.out _ _ (KS.out _ D2.out) (fun hHeld3 => ?_)
    clear hK K
    try simp only [Act.put, List.getElem_toArray, List.getElem_cons_zero, List.getElem_cons_succ, List.setIfInBounds_toArray, List.set_cons_zero, List.set_cons_succ]
    refine wpAnyH_ready (rs := [11]) (by kernel_rfl) (by simp) ?_
    refine AllReadyH.cons rfl (fun K hK => ?_) AllReadyH.nil
    go_simp
    go_at_call 43
    refine (allJoinedI _ _ _ _ _ _ _ _ _ vs ys L _ (H.out.later (C2.out)) OK.out (HV.out.later (C2.out)) (HY.out.later (C2.out)) hkl h1k).mono ?_
    rintro e w4 ⟨g2, rfl, hg, hgl, hr, hb⟩
    replace RX : Hid (RowAt w4 w1.heap.size 3 (fun j => (#[.bool false, .slice none 0 0, .slice none 0 0] : Array Value).getD j undef)) := RX.out.later hb
    replace R1 : Hid (RowAt w4 g1 ll (fun j => .int .i64 (jn L us xs j))) := R1.out.later hb
    have R2 : Hid (RowAt w4 g2 kl (fun j => .int .i64 (jn L vs ys j))) := hr
    have D3 : Hid (Below (w.heap.size + 1 + 1 + 1) (((w.alloc (.cells #[.bool x0, .slice la ll lc, .slice ka kl kc] 26)).alloc (.cells #[.bool y0, .slice ma ml mc, .slice na nl nc] 26)).alloc (.cells #[.bool false, .slice none 0 0, .slice none 0 0] 26)) w4) := D2.out.trans (hb.mono (by have := D2.out.size; simpa using this))
    have C3 : Hid (Below w.heap.size w w4) := B3.out.trans (D3.out.mono (by omega))
    have hgs3 : w3.heap.size ≤ g2 := by first | exact hg | (have := hg; simp at this; omega)
    have g2_lo : (w.heap.size + 1 + 1 + 1) ≤ g2 := Nat.le_trans (by have := D2.out.size; simpa using this) hg
    have g2_hi : g2 < w4.heap.size := hgl
    have g12 : g1 < g2 := by omega
    have g2_x : g2 ≠ w1.heap.size := by omega
    have s3 : w3.heap.size ≤ w4.heap.size := by first | exact hb.size | (have := hb.size; simp at this; omega)
    clear hb hr hg hgl
    go_wp2_with fail
    refine hK.out _ _ (KS.out _ D3.out) (fun hHeld4 => ?_)
    clear hK K
    try simp only [Act.put, List.getElem_toArray, List.getElem_cons_zero, List.getElem_cons_succ, List.setIfInBounds_toArray, List.set_cons_zero, List.set_cons_succ]
    refine wpAnyH_take (i := 12) (v := .agg #[.bool true, .slice (some ⟨g1, 0, none⟩) ll ll, .slice (some ⟨g2, 0, none⟩) kl kl]) rfl (by kernel_rfl) (by kernel_rfl) (by kernel_rfl) (fun _ _ _ h => h) (Or.inl ⟨by kernel_rfl, by (intro x hSx; (try dsimp only at hSx); go_simp)⟩) (by assumption) ?_
    try simp only [Act.put, List.getElem_toArray, List.getElem_cons_zero, List.getElem_cons_succ, List.setIfInBounds_toArray, List.set_cons_zero, List.set_cons_succ]
    refine wpAnyH_ready (rs := [14]) (by kernel_rfl) (by simp) ?_
    refine AllReadyH.cons rfl (fun K hK => ?_) AllReadyH.nil
    have z0 : w4.cell? ⟨w1.heap.size, 0, none⟩ = some (.bool false) := (RX.out 0 (by omega)).1
    have z1 : w4.cell? ⟨w1.heap.size, 1, none⟩ = some (.slice none 0 0) := (RX.out 1 (by omega)).1
    have z2 : w4.cell? ⟨w1.heap.size, 2, none⟩ = some (.slice none 0 0) := (RX.out 2 (by omega)).1
    have Z0 : Hid (w4.cell? ⟨w1.heap.size, 0, none⟩ = some (.bool false)) := z0
    have Z1 : Hid (w4.cell? ⟨w1.heap.size, 1, none⟩ = some (.slice none 0 0)) := z1
    have Z2 : Hid (w4.cell? ⟨w1.heap.size, 2, none⟩ = some (.slice none 0 0)) := z2
    have f0 := (RX.out 0 (by omega)).2
    have f1 := (RX.out 1 (by omega)).2
    have f2 := (RX.out 2 (by omega)).2
    go_simp
    have FIN : Hid (JF w w1.heap.size g1 g2 ll kl L us vs xs ys (((w.alloc (.cells #[.bool x0, .slice la ll lc, .slice ka kl kc] 26)).alloc (.cells #[.bool y0, .slice ma ml mc, .slice na nl nc] 26)).alloc (.cells #[.bool false, .slice none 0 0, .slice none 0 0] 26)) (((w4.setCell ⟨w1.heap.size, 0, none⟩ (.bool true)).setCell ⟨w1.heap.size, 1, none⟩ (.slice (some ⟨g1, 0, none⟩) ll ll)).setCell ⟨w1.heap.size, 2, none⟩ (.slice (some ⟨g2, 0, none⟩) kl kl))) := JF.mk3 R1.out R2.out D3.out Z0.out Z1.out Z2.out X_lo g1_x g2_x g1_lo g2_lo g12
    clear z0 z1 z2 f0 f1 f2 Z0 Z1 Z2
    refine hK.out _ _ ?_ (fun hHeld5 => ?_)
    · exact KS.out _ FIN.out.be
    clear hK K
    try simp only [Act.put, List.getElem_toArray, List.getElem_cons_zero, List.getElem_cons_succ, List.setIfInBounds_toArray, List.set_cons_zero, List.set_cons_succ]
    refine wpAnyH_done (by kernel_rfl) ?_ _
    clear hHeld hHeld2 hHeld3 hHeld4 hHeld5
    have fc0 := FIN.out.c0
    have fc1 := FIN.out.c1
    have fc2 := FIN.out.c2
    have fbe : Hid (Below (w.heap.size + 1 + 1 + 1) (((w.alloc (.cells #[.bool x0, .slice la ll lc, .slice ka kl kc] 26)).alloc (.cells #[.bool y0, .slice ma ml mc, .slice na nl nc] 26)).alloc (.cells #[.bool false, .slice none 0 0, .slice none 0 0] 26)) (((w4.setCell ⟨w1.heap.size, 0, none⟩ (.bool true)).setCell ⟨w1.heap.size, 1, none⟩ (.slice (some ⟨g1, 0, none⟩) ll ll)).setCell ⟨w1.heap.size, 2, none⟩ (.slice (some ⟨g2, 0, none⟩) kl kl))) := FIN.out.be
    obtain ⟨w7, hw7⟩ : ∃ x, x = (((w4.setCell ⟨w1.heap.size, 0, none⟩ (.bool true)).setCell ⟨w1.heap.size, 1, none⟩ (.slice (some ⟨g1, 0, none⟩) ll ll)).setCell ⟨w1.heap.size, 2, none⟩ (.slice (some ⟨g2, 0, none⟩) kl kl)) := ⟨_, rfl⟩
    rw [← hw7] at fc0 fc1 fc2 fbe FIN
    clear RX R1 R2
    rw [← hw7]
    clear hw7
    go_wp2_with fail
    refine (containsImpl _ _ _ 0 (jl L vs ys) _ (FIN.out.ints2 SV.out h1k F2.out)).mono ?_
    rintro e w8 ⟨rfl, rfl⟩
    obtain ⟨pa0, pa1, pa2, pb0, pb1, pb2, pq0, pq1, pq2, pf0, pf1, pf2⟩ := KB.out w7 fbe.out
    have pg := KG.out w7 (B3.out.trans (fbe.out.mono (by omega)))
    cases hc : (jl L vs ys).any (fun x => 0 == x)
    · go_wp2_with fail
      refine bodyPost_ret (v := .tuple #[.agg #[.bool true, .slice (some ⟨g1, 0, none⟩) ll ll, .slice (some ⟨g2, 0, none⟩) kl kl], .nilIface]) ?_ rfl ?_
      · simp [results, Tryd.results22, go_sem, pq0, pq1, pq2]
      · exact ⟨.inr ⟨hf, hc, g1, g2, rfl, FIN.out.row1 _ _ _, FIN.out.row2 _ _ _, by have := FIN.out.lo1; omega, by have := FIN.out.lo2; omega, FIN.out.ne⟩, (((B3.out.trans (fbe.out.mono (by omega))).setCell (by simp; omega) _).setCell (by simp; omega) _).setCell (by simp; omega) _⟩
    · go_wp2_with fail
      go_region
      go_wp2_with fail
      refine bodyPost_ret (v := .tuple #[.agg #[.bool false, .slice none 0 0, .slice none 0 0], .iface 114 (.pointer (some ea))]) ?_ rfl ?_
      · simp [results, Tryd.results22, go_sem, pq0, pq1, pq2]
      · exact ⟨.inl ⟨.inr hc, rfl⟩, below_dr ((((B3.out.trans (fbe.out.mono (by omega))).setCell (by simp; omega) _).setCell (by simp; omega) _).setCell (by simp; omega) _)⟩

end Go.Proofs.YtkggmcbjpmhmcaaDoor
