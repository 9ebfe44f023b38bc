/-
  Two shapes joined: what is said of it, and that the specification says so, in whatever memory; it writes nothing that was there.
-/
import Derived.Test.YtkggmcbjpmhmcaaDoorFitSpec
import Derived.Test.YtkggmcbjpmhmcaaDoorL11Copy
namespace Go.Proofs.YtkggmcbjpmhmcaaDoor
open Go.ChangeShapes Go.WideShapes Go.ChangeAt Go.RowKit

def mt (L : List Cl) (us xs : List Int) (j : Nat) : Int := meetV L (us.getD j 0) (xs.getD j 0)
def meetL (L : List Cl) (us xs : List Int) : List Int := (List.range us.length).map (mt L us xs)
def someZ (L : List Cl) (vs ys : List Int) : Bool := (List.range vs.length).any (fun j => mt L vs ys j == 0)
def joinSh (L : List Cl) (s t : Sh) : Sh := if decide (s.2.2.length = t.2.2.length) && !(someZ L s.2.2 t.2.2) then (s.1, meetL L s.2.1 t.2.1, meetL L s.2.2 t.2.2) else (false, [], [])
theorem own_row {w : World} {base n c : Nat} {a : Option Addr} {xs : List Int} (h : w.ownsRow base 3 1 (.slice a n c) n (xs.map (Value.int .i64))) : ∃ g, (0 < n → a = some ⟨g, 0, none⟩ ∧ base ≤ g ∧ g < w.heap.size ∧ (Value.slice a n c).ownBlock = some g) ∧ RowAt w g n (fun j => .int .i64 (xs.getD j 0)) := by
  have hlen : xs.length = n := by have := h.1; simpa using this
  rcases h.2 with ⟨_, h0⟩ | ⟨g, cap, cur, e, hb, hg, _⟩
  · exact ⟨0, by omega, fun j hj => by omega⟩
  · cases e
    have hc : ∀ j, j < n → w.cell? ⟨g, j, none⟩ = some (.int .i64 (xs.getD j 0)) := fun j hj => by
      rw [h.cellAt j (by omega), List.getElem?_map, List.getD_eq_getElem?_getD, List.getElem?_eq_getElem (by omega)]; rfl
    exact ⟨g, fun hp => ⟨rfl, hb, World.block_lt_of_cell? w _ (hc 0 hp), rfl⟩, fun j hj => ⟨hc j hj, h.frozenAt _⟩⟩
theorem meet_fits {L : List Cl} {us xs : List Int} (ok : clsOk L = true) (hl : us.length ≤ xs.length) (hu : ∀ x ∈ us, Ty L x) (hx : ∀ x ∈ xs, Ty L x) : ∀ j, -9223372036854775808 ≤ (meetL L us xs).getD j 0 ∧ (meetL L us xs).getD j 0 ≤ 9223372036854775807 :=
  fits_lit (fun x hm => by
    obtain ⟨i, hi, rfl⟩ := List.mem_map.1 hm
    have hi := List.mem_range.1 hi
    unfold mt
    rw [List.getD_eq_getElem?_getD, List.getD_eq_getElem?_getD, List.getElem?_eq_getElem hi, List.getElem?_eq_getElem (by omega)]
    have ht := meet_ty ok (hu _ (List.getElem_mem hi)) (hx _ (List.getElem_mem (by omega : i < xs.length)))
    have h1 := ht.low
    have h2 := ht.high
    have h3 := (ok_len ok).2
    simp only [Option.getD_some]
    omega)
theorem row_meet {L : List Cl} {w : World} {g n base : Nat} {a : Option Addr} {us xs : List Int} (hr : RowAt w g n (fun j => .int .i64 (mt L us xs j))) (hl : us.length = n) (hn : n ≤ 1048576) (ha : 0 < n → a = some ⟨g, 0, none⟩ ∧ base ≤ g) (hf : ∀ j, -9223372036854775808 ≤ (meetL L us xs).getD j 0 ∧ (meetL L us xs).getD j 0 ≤ 9223372036854775807) : IntsAt (fun b => base ≤ b) w a n (meetL L us xs) := by
  refine ⟨by simp [meetL, hl], by omega, ?_, hf⟩
  by_cases h0 : n = 0
  · exact .inl h0
  · obtain ⟨e, hb⟩ := ha (by omega)
    refine .inr ⟨g, 0, e, hb, fun j hj => ?_⟩
    rw [Nat.zero_add, (hr j hj).1, meetL, hl, List.getD_eq_getElem?_getD, List.getElem?_map, List.getElem?_range hj]
    rfl
theorem someZ_at {L : List Cl} {vs ys : List Int} {k : Nat} (hk : k < vs.length) (h : (mt L vs ys k == 0) = true) : someZ L vs ys = true := by
  unfold someZ
  rw [List.any_eq_true]
  exact ⟨k, List.mem_range.2 hk, h⟩
theorem someZ_no {L : List Cl} {vs ys : List Int} (h : ∀ j, j < vs.length → (mt L vs ys j == 0) = false) : someZ L vs ys = false := by
  unfold someZ
  rw [List.any_eq_false]
  exact fun j hj => by rw [h j (List.mem_range.1 hj)]; simp
/-- While it is joined: the lists so far, in blocks of the call's own, and the box that holds them. -/
structure JI (w w1 : World) (x0 : Bool) (g1 g2 : Nat) (aa : Option Addr) (ll ac : Nat) (ba : Option Addr) (kl bc : Nat) (f1 f2 : Nat → Int) (W0 wr : World) : Prop where
  r1 : RowAt wr g1 ll (fun j => .int .i64 (f1 j))
  r2 : RowAt wr g2 kl (fun j => .int .i64 (f2 j))
  c0 : wr.cell? ⟨w1.heap.size, 0, none⟩ = some (.bool x0)
  c1 : wr.cell? ⟨w1.heap.size, 1, none⟩ = some (.slice aa ll ac)
  c2 : wr.cell? ⟨w1.heap.size, 2, none⟩ = some (.slice ba kl bc)
  be : Below (w.heap.size + 1 + 1 + 1) W0 wr
  sz : w1.heap.size < wr.heap.size
theorem JI.drew {w w1 : World} {x0 : Bool} {g1 g2 : Nat} {aa : Option Addr} {ll ac : Nat} {ba : Option Addr} {kl bc : Nat} {f1 f2 : Nat → Int} {W0 wr : World} (h : JI w w1 x0 g1 g2 aa ll ac ba kl bc f1 f2 W0 wr) : JI w w1 x0 g1 g2 aa ll ac ba kl bc f1 f2 W0 (wr.drewN 1) :=
  ⟨h.r1, h.r2, h.c0, h.c1, h.c2, below_drewN h.be 1, h.sz⟩
theorem JI.set1 {w w1 : World} {x0 : Bool} {g1 g2 : Nat} {aa : Option Addr} {ll ac : Nat} {ba : Option Addr} {kl bc : Nat} {f1 f2 : Nat → Int} {W0 wr : World} (h : JI w w1 x0 g1 g2 aa ll ac ba kl bc f1 f2 W0 wr) (k : Nat) (z : Int) (hb : w.heap.size + 1 + 1 + 1 ≤ g1) (hx : g1 < w1.heap.size) (h12 : 0 < kl → g1 ≠ g2) : JI w w1 x0 g1 g2 aa ll ac ba kl bc (fun j => if j = k then z else f1 j) f2 W0 (wr.setCell ⟨g1, k, none⟩ (.int .i64 z)) := by
  have ne : ∀ b o, b ≠ g1 → (wr.setCell ⟨g1, k, none⟩ (.int .i64 z)).cell? ⟨b, o, none⟩ = wr.cell? ⟨b, o, none⟩ := fun b o hb => World.cell?_setCell_other _ _ _ _ (by intro e; exact hb (congrArg Addr.block e).symm)
  refine ⟨(h.r1.set k _).congr (fun j _ => by by_cases e : j = k <;> simp [e]), fun j hj => ?_, by rw [ne _ _ (by omega)]; exact h.c0, by rw [ne _ _ (by omega)]; exact h.c1, by rw [ne _ _ (by omega)]; exact h.c2, h.be.setCell hb _, by rw [World.size_setCell]; exact h.sz⟩
  have hg := h12 (by omega)
  exact ⟨by rw [ne _ _ (fun e => hg e.symm)]; exact (h.r2 j hj).1, by rw [World.frozen?_setCell]; exact (h.r2 j hj).2⟩
theorem JI.set2 {w w1 : World} {x0 : Bool} {g1 g2 : Nat} {aa : Option Addr} {ll ac : Nat} {ba : Option Addr} {kl bc : Nat} {f1 f2 : Nat → Int} {W0 wr : World} (h : JI w w1 x0 g1 g2 aa ll ac ba kl bc f1 f2 W0 wr) (k : Nat) (z : Int) (hb : w.heap.size + 1 + 1 + 1 ≤ g2) (hx : g2 < w1.heap.size) (h12 : 0 < ll → g1 ≠ g2) : JI w w1 x0 g1 g2 aa ll ac ba kl bc f1 (fun j => if j = k then z else f2 j) W0 (wr.setCell ⟨g2, k, none⟩ (.int .i64 z)) := by
  have ne : ∀ b o, b ≠ g2 → (wr.setCell ⟨g2, k, none⟩ (.int .i64 z)).cell? ⟨b, o, none⟩ = wr.cell? ⟨b, o, none⟩ := fun b o hb => World.cell?_setCell_other _ _ _ _ (by intro e; exact hb (congrArg Addr.block e).symm)
  refine ⟨fun j hj => ?_, (h.r2.set k _).congr (fun j _ => by by_cases e : j = k <;> simp [e]), by rw [ne _ _ (by omega)]; exact h.c0, by rw [ne _ _ (by omega)]; exact h.c1, by rw [ne _ _ (by omega)]; exact h.c2, h.be.setCell hb _, by rw [World.size_setCell]; exact h.sz⟩
  have hg := h12 (by omega)
  exact ⟨by rw [ne _ _ hg]; exact (h.r1 j hj).1, by rw [World.frozen?_setCell]; exact (h.r1 j hj).2⟩
theorem JI.congr {w w1 : World} {x0 : Bool} {g1 g2 : Nat} {aa : Option Addr} {ll ac : Nat} {ba : Option Addr} {kl bc : Nat} {f1 f2 e1 e2 : Nat → Int} {W0 wr : World} (h : JI w w1 x0 g1 g2 aa ll ac ba kl bc f1 f2 W0 wr) (h1 : ∀ j, j < ll → f1 j = e1 j) (h2 : ∀ j, j < kl → f2 j = e2 j) : JI w w1 x0 g1 g2 aa ll ac ba kl bc e1 e2 W0 wr :=
  ⟨h.r1.congr (fun j hj => by rw [h1 j hj]), h.r2.congr (fun j hj => by rw [h2 j hj]), h.c0, h.c1, h.c2, h.be, h.sz⟩

theorem own_slv {w : World} {base : Nat} {e : TypeId} {size n : Nat} {v : Value} {xs : List Value} (h : w.ownsRow base e size v n xs) : ∃ a c, v = .slice a n c := by
  rcases h.2 with ⟨rfl, rfl⟩ | ⟨g, cap, cur, rfl, _⟩
  · exact ⟨_, _, rfl⟩
  · exact ⟨_, _, rfl⟩
theorem stepF {L : List Cl} {us xs : List Int} {k : Nat} {z : Int} (h : z = mt L us xs k) (j : Nat) : (if j = k then z else (if j < k then mt L us xs j else us.getD j 0)) = (if j < k + 1 then mt L us xs j else us.getD j 0) := by
  by_cases e : j = k
  · subst e; rw [if_pos rfl, if_pos (by omega), h]
  · rw [if_neg e]
    by_cases e2 : j < k
    · rw [if_pos e2, if_pos (by omega)]
    · rw [if_neg e2, if_neg (by omega)]
theorem IntsAt.laid3 {D : Nat → Prop} {w : World} {a : Option Addr} {n : Nat} {xs : List Int} (h : IntsAt D w a n xs) (Z : Nat) (hZ : ¬ D Z) (x y z : Value) : IntsAt D (((w.setCell ⟨Z, 0, none⟩ x).setCell ⟨Z, 1, none⟩ y).setCell ⟨Z, 2, none⟩ z) a n xs :=
  h.keep fun b o hb _ => by
    have e : b ≠ Z := fun e => hZ (by rw [← e]; exact hb)
    rw [World.cell?_setCell_other _ _ _ _ (by intro q; exact e (congrArg Addr.block q).symm), World.cell?_setCell_other _ _ _ _ (by intro q; exact e (congrArg Addr.block q).symm), World.cell?_setCell_other _ _ _ _ (by intro q; exact e (congrArg Addr.block q).symm)]
theorem noneS (w : World) : Calls Tryd.prog 26 #[] w fun e w' => ∃ ga ka, e = .returned (.agg #[.bool false, .slice ga 0 0, .slice ka 0 0]) ∧ Below w.heap.size w w' := by
  go_enter Tryd.func26, Tryd.ntmps26
  go_wp2_with fail
  refine bodyPost_ret (v := .agg #[.bool false, .slice (some ⟨w.heap.size + 1, 0, none⟩) 0 0, .slice (some ⟨w.heap.size + 1 + 1, 0, none⟩) 0 0]) ?_ rfl ?_
  · simp [results, Tryd.results26, go_sem]
  · exact ⟨_, _, rfl, by go_grown⟩
/-- A shape as an answer. -/
def JoinP (w : World) (s : Sh) (e : Ending) (w' : World) : Prop :=
  ∃ ga n gc ka k kc, e = .returned (.agg #[.bool s.1, .slice ga n gc, .slice ka k kc]) ∧ IntsAt (fun b => w.heap.size ≤ b) w' ga n s.2.1 ∧ IntsAt (fun b => w.heap.size ≤ b) w' ka k s.2.2 ∧ Below w.heap.size w w'
set_option maxRecDepth 100000 in
set_option maxHeartbeats 8000000 in
theorem l11JoinSpec (a : Option Addr) (len cap : Nat) (x0 : Bool) (la : Option Addr) (ll lc : Nat) (ka : Option Addr) (kl kc : Nat) (y0 : Bool) (ma : Option Addr) (ml mc : Nat) (na : Option Addr) (nl nc : Nat) (us vs xs ys : List Int) (L : List Cl) (w : World) {D E P Q S T : Nat → Prop}
    (h : ClsAt D E w a len L) (ok : clsOk L = true) (hu : IntsAt P w la ll us) (hv : IntsAt Q w ka kl vs) (hx : IntsAt S w ma ml xs) (hy : IntsAt T w na nl ys) (hll : ll ≤ ml) (h1l : ll ≤ 1048576) (h1k : kl ≤ 1048576) (tu : ∀ x ∈ us, Ty L x) (tv : ∀ x ∈ vs, Ty L x) (tx : ∀ x ∈ xs, Ty L x) (ty : ∀ x ∈ ys, Ty L x) :
    Calls Tryd.prog 27 #[.slice a len cap, .agg #[.bool x0, .slice la ll lc, .slice ka kl kc], .agg #[.bool y0, .slice ma ml mc, .slice na nl nc]] w fun e w' => JoinP w (joinSh L (x0, us, vs) (y0, xs, ys)) e w' := by
  have H : Hid (ClsAt D E w a len L) := h
  have OK : Hid (clsOk L = true) := ok
  have HS : Hid (L.length = len) := h.size
  have HU : Hid (IntsAt P w la ll us) := hu
  have HV : Hid (IntsAt Q w ka kl vs) := hv
  have HX : Hid (IntsAt S w ma ml xs) := hx
  have HY : Hid (IntsAt T w na nl ys) := hy
  have SU : Hid (us.length = ll) := hu.size
  have SV : Hid (vs.length = kl) := hv.size
  have STX : Hid (xs.length = ml) := hx.size
  have STY : Hid (ys.length = nl) := hy.size
  have ru := hu.room
  have rv := hv.room
  have rx := hx.room
  have ry := hy.room
  have TU : Hid (TyR L us) := fun x hm => ⟨(tu x hm).low, (tu x hm).high⟩
  have TV : Hid (TyR L vs) := fun x hm => ⟨(tv x hm).low, (tv x hm).high⟩
  have TX : Hid (TyR L xs) := fun x hm => ⟨(tx x hm).low, (tx x hm).high⟩
  have TY : Hid (TyR L ys) := fun x hm => ⟨(ty x hm).low, (ty x hm).high⟩
  have FU : Hid (∀ j, -9223372036854775808 ≤ (meetL L us xs).getD j 0 ∧ (meetL L us xs).getD j 0 ≤ 9223372036854775807) := meet_fits ok (by rw [hu.size, hx.size]; exact hll) tu tx
  have FV : Hid (kl = nl → ∀ j, -9223372036854775808 ≤ (meetL L vs ys).getD j 0 ∧ (meetL L vs ys).getD j 0 ≤ 9223372036854775807) := fun e => meet_fits ok (by rw [hv.size, hy.size, e]; exact Nat.le_refl _) tv ty
  have KB : Hid (∀ x : World, Below (w.heap.size + 1 + 1 + 1) (((w.alloc (.cells #[.bool x0, .slice la ll lc, .slice ka kl kc] 26)).alloc (.cells #[.bool y0, .slice ma ml mc, .slice na nl nc] 26)).alloc (.cells #[.bool false, .slice none 0 0, .slice none 0 0] 26)) x → x.cell? ⟨w.heap.size, 0, none⟩ = some (.bool x0) ∧ x.cell? ⟨w.heap.size, 1, none⟩ = some (.slice la ll lc) ∧ x.cell? ⟨w.heap.size, 2, none⟩ = some (.slice ka kl kc) ∧ x.cell? ⟨w.heap.size + 1, 0, none⟩ = some (.bool y0) ∧ x.cell? ⟨w.heap.size + 1, 1, none⟩ = some (.slice ma ml mc) ∧ x.cell? ⟨w.heap.size + 1, 2, none⟩ = some (.slice na nl nc) ∧ x.cell? ⟨w.heap.size + 1 + 1, 0, none⟩ = some (.bool false) ∧ x.cell? ⟨w.heap.size + 1 + 1, 1, none⟩ = some (.slice none 0 0) ∧ x.cell? ⟨w.heap.size + 1 + 1, 2, none⟩ = some (.slice none 0 0) ∧ x.frozen? ⟨w.heap.size + 1 + 1, 0, none⟩ = false ∧ x.frozen? ⟨w.heap.size + 1 + 1, 1, none⟩ = false ∧ x.frozen? ⟨w.heap.size + 1 + 1, 2, none⟩ = false) := fun x hb => by
    have hf : ∀ j, x.frozen? ⟨w.heap.size + 1 + 1, j, none⟩ = false := fun j => by rw [hb.frozen (p := ⟨w.heap.size + 1 + 1, j, none⟩) (by simp)]; exact World.frozen?_alloc_at _ _ _ _ (by simp)
    have k0 : ∀ j v, (#[.bool x0, .slice la ll lc, .slice ka kl kc] : Array Value)[j]? = some v → x.cell? ⟨w.heap.size, j, none⟩ = some v := fun j v hv => by
      rw [hb.cell (p := ⟨w.heap.size, j, none⟩) (by simp only; omega), World.cell?_alloc_past _ _ _ (by simp; omega)]; exact two_first hv
    have k1 : ∀ j v, (#[.bool y0, .slice ma ml mc, .slice na nl nc] : Array Value)[j]? = some v → x.cell? ⟨w.heap.size + 1, j, none⟩ = some v := fun j v hv => by
      rw [hb.cell (p := ⟨w.heap.size + 1, j, none⟩) (by simp only; omega), World.cell?_alloc_past _ _ _ (by simp)]; exact two_second hv
    have k2 : ∀ j v, (#[.bool false, .slice none 0 0, .slice none 0 0] : Array Value)[j]? = some v → x.cell? ⟨w.heap.size + 1 + 1, j, none⟩ = some v := fun j v hv => by
      rw [hb.cell (p := ⟨w.heap.size + 1 + 1, j, none⟩) (by simp), World.cell?_alloc_at _ _ _ _ (by simp)]; exact hv
    exact ⟨k0 0 _ rfl, k0 1 _ rfl, k0 2 _ rfl, k1 0 _ rfl, k1 1 _ rfl, k1 2 _ rfl, k2 0 _ rfl, k2 1 _ rfl, k2 2 _ rfl, hf 0, hf 1, hf 2⟩
  have B3 : Hid (Below w.heap.size w (((w.alloc (.cells #[.bool x0, .slice la ll lc, .slice ka kl kc] 26)).alloc (.cells #[.bool y0, .slice ma ml mc, .slice na nl nc] 26)).alloc (.cells #[.bool false, .slice none 0 0, .slice none 0 0] 26))) := (((Below.refl _ _).alloc (Nat.le_refl _) _).alloc (by simp) _).alloc (by simp; omega) _
  clear h ok hu hv hx hy tu tv tx ty
  go_enter Tryd.func27, Tryd.ntmps27
  go_wp2_with fail
  refine (copySpec _ _ _ _ _ _ _ us vs _ (HU.out.later B3.out) (HV.out.later B3.out) h1l h1k).mono ?_
  rintro e w1 ⟨lv, sv, rfl, hO, hb1⟩
  have hz1 : w.heap.size + 1 + 1 + 1 ≤ w1.heap.size := by have := hb1.size; simpa using this
  have B1 : Hid (Below (w.heap.size + 1 + 1 + 1) (((w.alloc (.cells #[.bool x0, .slice la ll lc, .slice ka kl kc] 26)).alloc (.cells #[.bool y0, .slice ma ml mc, .slice na nl nc] 26)).alloc (.cells #[.bool false, .slice none 0 0, .slice none 0 0] 26)) w1) := by show Below _ _ _; simpa using hb1
  have hlo := hO.loc
  have hso := hO.st
  have hap := hO.apart
  rw [SU.out] at hlo
  rw [SV.out] at hso
  obtain ⟨aa, ac, rfl⟩ := own_slv hlo
  obtain ⟨ba, bc, rfl⟩ := own_slv hso
  obtain ⟨g1, hg1, hr1⟩ := own_row hlo
  obtain ⟨g2, hg2, hr2⟩ := own_row hso
  have HG1 : Hid (0 < ll → aa = some ⟨g1, 0, none⟩ ∧ w.heap.size + 1 + 1 + 1 ≤ g1 ∧ g1 < w1.heap.size) := fun hp => ⟨(hg1 hp).1, by have := (hg1 hp).2.1; simpa using this, (hg1 hp).2.2.1⟩
  have HG2 : Hid (0 < kl → ba = some ⟨g2, 0, none⟩ ∧ w.heap.size + 1 + 1 + 1 ≤ g2 ∧ g2 < w1.heap.size) := fun hp => ⟨(hg2 hp).1, by have := (hg2 hp).2.1; simpa using this, (hg2 hp).2.2.1⟩
  have AP : Hid (0 < ll → 0 < kl → g1 ≠ g2) := fun h1 h2 e => hap g1 (hg1 h1).2.2.2 (by rw [e]; exact (hg2 h2).2.2.2)
  have J0 : Hid (JI w w1 x0 g1 g2 aa ll ac ba kl bc (fun j => us.getD j 0) (fun j => vs.getD j 0) (((w.alloc (.cells #[.bool x0, .slice la ll lc, .slice ka kl kc] 26)).alloc (.cells #[.bool y0, .slice ma ml mc, .slice na nl nc] 26)).alloc (.cells #[.bool false, .slice none 0 0, .slice none 0 0] 26)) (w1.alloc (.cells #[.bool x0, .slice aa ll ac, .slice ba kl bc] 26))) :=
    ⟨hr1.later ((Below.refl _ _).alloc (Nat.le_refl _) _), hr2.later ((Below.refl _ _).alloc (Nat.le_refl _) _), by rw [World.cell?_alloc_at _ _ _ _ rfl]; rfl, by rw [World.cell?_alloc_at _ _ _ _ rfl]; rfl, by rw [World.cell?_alloc_at _ _ _ _ rfl]; rfl, B1.out.alloc (by simpa using hz1) _, by simp⟩
  have y0' : w.heap.size < w1.heap.size := by omega
  have y1' : w.heap.size + 1 < w1.heap.size := by omega
  obtain ⟨pa0, pa1, pa2, pb0, pb1, pb2, pq0, pq1, pq2, pf0, pf1, pf2⟩ := KB.out w1 B1.out
  clear hb1 hO hlo hso hap hg1 hg2 hr1 hr2
  by_cases h2 : kl = nl
  case neg =>
    have e2 : ((kl : Int) != (nl : Int)) = true := by simp; omega
    have HN : Hid (joinSh L (x0, us, vs) (y0, xs, ys) = (false, [], [])) := by show _ = _; unfold joinSh; simp only; rw [SV.out, STY.out, decide_eq_false h2]; rfl
    go_wp2_with fail
    refine (noneS _).mono ?_
    rintro e w5 ⟨ga, gk, rfl, hb5⟩
    have B5 : Hid (Below (w.heap.size + 1 + 1 + 1) (((w.alloc (.cells #[.bool x0, .slice la ll lc, .slice ka kl kc] 26)).alloc (.cells #[.bool y0, .slice ma ml mc, .slice na nl nc] 26)).alloc (.cells #[.bool false, .slice none 0 0, .slice none 0 0] 26)) w5) := (B1.out.alloc (by simpa using hz1) (.cells #[.bool x0, .slice aa ll ac, .slice ba kl bc] 26)).trans (hb5.mono (by have := (B1.out.alloc (by simpa using hz1) (.cells #[.bool x0, .slice aa ll ac, .slice ba kl bc] 26)).size; simpa using this))
    clear hb5
    obtain ⟨pa0, pa1, pa2, pb0, pb1, pb2, pq0, pq1, pq2, pf0, pf1, pf2⟩ := KB.out w5 B5.out
    go_wp2_with fail
    refine bodyPost_ret (v := .agg #[.bool false, .slice ga 0 0, .slice gk 0 0]) ?_ rfl ?_
    · simp [results, Tryd.results27, go_sem, pq0, pq1, pq2]
    · unfold JoinP
      rw [HN.out]
      exact ⟨_, _, _, _, _, _, rfl, ⟨rfl, by omega, .inl rfl, fun j => by simp⟩, ⟨rfl, by omega, .inl rfl, fun j => by simp⟩, (((B3.out.trans (B5.out.mono (by omega))).setCell (by simp; omega) _).setCell (by simp; omega) _).setCell (by simp; omega) _⟩
  subst h2
  have e2 : ((kl : Int) != (kl : Int)) = false := by simp
  clear pa0 pa1 pa2 pb0 pb1 pb2 pq0 pq1 pq2 pf0 pf1 pf2
  obtain ⟨pa0, pa1, pa2, pb0, pb1, pb2, pq0, pq1, pq2, pf0, pf1, pf2⟩ := KB.out w1 B1.out
  go_wp2_with fail
  clear pa0 pa1 pa2 pb0 pb1 pb2 pq0 pq1 pq2 pf0 pf1 pf2
  go_loopw [8] (fun t wr => ∃ k : Nat, k ≤ ll ∧ t = .int .i64 k ∧ JI w w1 x0 g1 g2 aa ll ac ba kl bc (fun j => if j < k then mt L us xs j else us.getD j 0) (fun j => vs.getD j 0) (((w.alloc (.cells #[.bool x0, .slice la ll lc, .slice ka kl kc] 26)).alloc (.cells #[.bool y0, .slice ma ml mc, .slice na kl nc] 26)).alloc (.cells #[.bool false, .slice none 0 0, .slice none 0 0] 26)) wr) (fun t _ => ll - (intOf t).toNat)
  case atStart => exact ⟨0, Nat.zero_le _, rfl, J0.out.congr (fun j _ => by simp) (fun _ _ => rfl)⟩
  case round =>
    obtain ⟨k, hk, rfl, hj⟩ := hrel
    have HJ : Hid (JI w w1 x0 g1 g2 aa ll ac ba kl bc (fun j => if j < k then mt L us xs j else us.getD j 0) (fun j => vs.getD j 0) (((w.alloc (.cells #[.bool x0, .slice la ll lc, .slice ka kl kc] 26)).alloc (.cells #[.bool y0, .slice ma ml mc, .slice na kl nc] 26)).alloc (.cells #[.bool false, .slice none 0 0, .slice none 0 0] 26)) wr) := hj
    clear hj
    have BW : Hid (Below w.heap.size w wr) := B3.out.trans (HJ.out.be.mono (by omega))
    obtain ⟨pa0, pa1, pa2, pb0, pb1, pb2, pq0, pq1, pq2, pf0, pf1, pf2⟩ := KB.out wr HJ.out.be
    have hc0 := HJ.out.c0
    have hc1 := HJ.out.c1
    have hc2 := HJ.out.c2
    have hsz := HJ.out.sz
    by_cases hlt : k < ll
    case neg =>
      have ek : ll = k := by omega
      subst ek
      have J1 : Hid (JI w w1 x0 g1 g2 aa ll ac ba kl bc (mt L us xs) (fun j => vs.getD j 0) (((w.alloc (.cells #[.bool x0, .slice la ll lc, .slice ka kl kc] 26)).alloc (.cells #[.bool y0, .slice ma ml mc, .slice na kl nc] 26)).alloc (.cells #[.bool false, .slice none 0 0, .slice none 0 0] 26)) wr) := HJ.out.congr (fun j hj => by rw [if_pos hj]) (fun _ _ => rfl)
      clear HJ
      by_cases hk0 : kl = 0
      · have GB2 : Hid (0 < kl → ba = some ⟨g2, 0, none⟩ ∧ (w.heap.size + 1 + 1 + 1) ≤ g2) := fun hp => by omega
        have HK0 : Hid (kl = 0) := hk0
        clear hk0
        go_wp2_with fail
        obtain ⟨wv, hwv⟩ : ∃ wv, wv = wr := ⟨wr, rfl⟩
        subst hwv
        clear pa0 pa1 pa2 pb0 pb1 pb2 pq0 pq1 pq2 pf0 pf1 pf2 hc0 hc1 hc2 hsz
        go_loopw [9] (fun t wr => ∃ k : Nat, k ≤ kl ∧ t = .int .i64 k ∧ (∀ j, j < k → (mt L vs ys j == 0) = false) ∧ JI w w1 x0 g1 g2 aa ll ac ba kl bc (mt L us xs) (fun j => if j < k then mt L vs ys j else vs.getD j 0) (((w.alloc (.cells #[.bool x0, .slice la ll lc, .slice ka kl kc] 26)).alloc (.cells #[.bool y0, .slice ma ml mc, .slice na kl nc] 26)).alloc (.cells #[.bool false, .slice none 0 0, .slice none 0 0] 26)) wr) (fun t _ => kl - (intOf t).toNat)
        case atStart => exact ⟨0, Nat.zero_le _, rfl, fun j hj => by omega, J1.out.congr (fun _ _ => rfl) (fun j _ => by simp)⟩
        case round =>
          clear BW J1
          obtain ⟨k, hk, rfl, hzz, hj⟩ := hrel
          have HZ : Hid (∀ j, j < k → (mt L vs ys j == 0) = false) := hzz
          clear hzz
          have HJ : Hid (JI w w1 x0 g1 g2 aa ll ac ba kl bc (mt L us xs) (fun j => if j < k then mt L vs ys j else vs.getD j 0) (((w.alloc (.cells #[.bool x0, .slice la ll lc, .slice ka kl kc] 26)).alloc (.cells #[.bool y0, .slice ma ml mc, .slice na kl nc] 26)).alloc (.cells #[.bool false, .slice none 0 0, .slice none 0 0] 26)) wr) := hj
          clear hj
          have BW : Hid (Below w.heap.size w wr) := B3.out.trans (HJ.out.be.mono (by omega))
          obtain ⟨pa0, pa1, pa2, pb0, pb1, pb2, pq0, pq1, pq2, pf0, pf1, pf2⟩ := KB.out wr HJ.out.be
          have hc0 := HJ.out.c0
          have hc1 := HJ.out.c1
          have hc2 := HJ.out.c2
          have hsz := HJ.out.sz
          by_cases hlt : k < kl
          case neg =>
            have ek : kl = k := by omega
            subst ek
            have HR : Hid (joinSh L (x0, us, vs) (y0, xs, ys) = (x0, meetL L us xs, meetL L vs ys)) := by
              show _ = _
              unfold joinSh
              simp only
              rw [SV.out, STY.out, decide_eq_true rfl, someZ_no (fun j hj => HZ.out j (by rw [← SV.out]; exact hj))]
              rfl
            have I1 : Hid (IntsAt (fun b => (w.heap.size + 1 + 1 + 1) ≤ b) wr aa ll (meetL L us xs)) := row_meet HJ.out.r1 SU.out h1l (fun hp => ⟨(HG1.out hp).1, (HG1.out hp).2.1⟩) FU.out
            have I2 : Hid (IntsAt (fun b => (w.heap.size + 1 + 1 + 1) ≤ b) wr ba kl (meetL L vs ys)) := row_meet (HJ.out.r2.congr (fun j hj => by rw [if_pos hj])) SV.out h1k (fun hp => GB2.out hp) (FV.out trivial)
            go_wp2_with fail
            refine bodyPost_ret (v := .agg #[.bool x0, .slice aa ll ac, .slice ba kl bc]) ?_ rfl ?_
            · simp [results, Tryd.results27, go_sem, pq0, pq1, pq2]
            · unfold JoinP
              rw [HR.out]
              exact ⟨_, _, _, _, _, _, rfl, IntsAt.mono (I1.out.laid3 (w.heap.size + 1 + 1) (by omega) _ _ _) (fun b hb _ => by omega), IntsAt.mono (I2.out.laid3 (w.heap.size + 1 + 1) (by omega) _ _ _) (fun b hb _ => by omega), ((BW.out.setCell (by simp; omega) _).setCell (by simp; omega) _).setCell (by simp; omega) _⟩
          exact absurd HK0.out (by omega)
      obtain ⟨rfl, hgb2, hgc2⟩ := HG2.out (by omega)
      have GB2 : Hid (0 < kl → (some ⟨g2, 0, none⟩ : Option Addr) = some ⟨g2, 0, none⟩ ∧ (w.heap.size + 1 + 1 + 1) ≤ g2) := fun hp => ⟨rfl, hgb2⟩
      go_wp2_with fail
      obtain ⟨wv, hwv⟩ : ∃ wv, wv = wr := ⟨wr, rfl⟩
      subst hwv
      clear pa0 pa1 pa2 pb0 pb1 pb2 pq0 pq1 pq2 pf0 pf1 pf2 hc0 hc1 hc2 hsz
      go_loopw [9] (fun t wr => ∃ k : Nat, k ≤ kl ∧ t = .int .i64 k ∧ (∀ j, j < k → (mt L vs ys j == 0) = false) ∧ JI w w1 x0 g1 g2 aa ll ac (some ⟨g2, 0, none⟩) kl bc (mt L us xs) (fun j => if j < k then mt L vs ys j else vs.getD j 0) (((w.alloc (.cells #[.bool x0, .slice la ll lc, .slice ka kl kc] 26)).alloc (.cells #[.bool y0, .slice ma ml mc, .slice na kl nc] 26)).alloc (.cells #[.bool false, .slice none 0 0, .slice none 0 0] 26)) wr) (fun t _ => kl - (intOf t).toNat)
      case atStart => exact ⟨0, Nat.zero_le _, rfl, fun j hj => by omega, J1.out.congr (fun _ _ => rfl) (fun j _ => by simp)⟩
      case round =>
        clear BW J1
        obtain ⟨k, hk, rfl, hzz, hj⟩ := hrel
        have HZ : Hid (∀ j, j < k → (mt L vs ys j == 0) = false) := hzz
        clear hzz
        have HJ : Hid (JI w w1 x0 g1 g2 aa ll ac (some ⟨g2, 0, none⟩) kl bc (mt L us xs) (fun j => if j < k then mt L vs ys j else vs.getD j 0) (((w.alloc (.cells #[.bool x0, .slice la ll lc, .slice ka kl kc] 26)).alloc (.cells #[.bool y0, .slice ma ml mc, .slice na kl nc] 26)).alloc (.cells #[.bool false, .slice none 0 0, .slice none 0 0] 26)) wr) := hj
        clear hj
        have BW : Hid (Below w.heap.size w wr) := B3.out.trans (HJ.out.be.mono (by omega))
        obtain ⟨pa0, pa1, pa2, pb0, pb1, pb2, pq0, pq1, pq2, pf0, pf1, pf2⟩ := KB.out wr HJ.out.be
        have hc0 := HJ.out.c0
        have hc1 := HJ.out.c1
        have hc2 := HJ.out.c2
        have hsz := HJ.out.sz
        by_cases hlt : k < kl
        case neg =>
          have ek : kl = k := by omega
          subst ek
          have HR : Hid (joinSh L (x0, us, vs) (y0, xs, ys) = (x0, meetL L us xs, meetL L vs ys)) := by
            show _ = _
            unfold joinSh
            simp only
            rw [SV.out, STY.out, decide_eq_true rfl, someZ_no (fun j hj => HZ.out j (by rw [← SV.out]; exact hj))]
            rfl
          have I1 : Hid (IntsAt (fun b => (w.heap.size + 1 + 1 + 1) ≤ b) wr aa ll (meetL L us xs)) := row_meet HJ.out.r1 SU.out h1l (fun hp => ⟨(HG1.out hp).1, (HG1.out hp).2.1⟩) FU.out
          have I2 : Hid (IntsAt (fun b => (w.heap.size + 1 + 1 + 1) ≤ b) wr (some ⟨g2, 0, none⟩) kl (meetL L vs ys)) := row_meet (HJ.out.r2.congr (fun j hj => by rw [if_pos hj])) SV.out h1k (fun hp => ⟨rfl, (GB2.out hp).2⟩) (FV.out trivial)
          go_wp2_with fail
          refine bodyPost_ret (v := .agg #[.bool x0, .slice aa ll ac, .slice (some ⟨g2, 0, none⟩) kl bc]) ?_ rfl ?_
          · simp [results, Tryd.results27, go_sem, pq0, pq1, pq2]
          · unfold JoinP
            rw [HR.out]
            exact ⟨_, _, _, _, _, _, rfl, IntsAt.mono (I1.out.laid3 (w.heap.size + 1 + 1) (by omega) _ _ _) (fun b hb _ => by omega), IntsAt.mono (I2.out.laid3 (w.heap.size + 1 + 1) (by omega) _ _ _) (fun b hb _ => by omega), ((BW.out.setCell (by simp; omega) _).setCell (by simp; omega) _).setCell (by simp; omega) _⟩
        obtain ⟨u1, o1, rfl, hd1, hl1⟩ : ∃ b off, ka = some ⟨b, off, none⟩ ∧ wr.cell? ⟨b, off + k, none⟩ = some (.int .i64 (vs.getD k 0)) ∧ b < w.heap.size := by
          rcases HV.out.cells with h0 | ⟨b, off, ha, _, hcs⟩
          · omega
          · have hl := World.block_lt_of_cell? w _ (hcs k hlt)
            exact ⟨b, off, ha, by rw [BW.out.cell hl]; exact hcs k hlt, hl⟩
        obtain ⟨u2, o2, rfl, hd2, hl2⟩ : ∃ b off, na = some ⟨b, off, none⟩ ∧ wr.cell? ⟨b, off + k, none⟩ = some (.int .i64 (ys.getD k 0)) ∧ b < w.heap.size := by
          rcases HY.out.cells with h0 | ⟨b, off, ha, _, hcs⟩
          · omega
          · have hl := World.block_lt_of_cell? w _ (hcs k (by omega))
            exact ⟨b, off, ha, by rw [BW.out.cell hl]; exact hcs k (by omega), hl⟩
        have hgb := hgb2
        have hgc := hgc2
        have hf := TV.out.at k (by rw [SV.out]; exact hlt)
        have hg := TY.out.at k (by rw [STY.out]; omega)
        rw [HS.out] at hf hg
        have HE : Hid (meetV L (vs.getD k 0) (ys.getD k 0) = mt L vs ys k) := rfl
        generalize vs.getD k 0 = f at hd1 hf HE
        generalize ys.getD k 0 = g at hd2 hg HE
        have hltI : (k : Int) < (kl : Int) := by omega
        have hltI2 : (k : Int) < (kl : Int) := by omega
        have rk := HJ.out.r2 k hlt
        obtain ⟨rkc, rkf⟩ := rk
        have N1 : Hid (JI w w1 x0 g1 g2 aa ll ac (some ⟨g2, 0, none⟩) kl bc (mt L us xs) (fun j => if j < k + 1 then mt L vs ys j else vs.getD j 0) (((w.alloc (.cells #[.bool x0, .slice la ll lc, .slice (some ⟨u1, o1, none⟩) kl kc] 26)).alloc (.cells #[.bool y0, .slice ma ml mc, .slice (some ⟨u2, o2, none⟩) kl nc] 26)).alloc (.cells #[.bool false, .slice none 0 0, .slice none 0 0] 26)) ((wr.drewN 1).setCell ⟨g2, k, none⟩ (.int .i64 (meetV L f g)))) := (HJ.out.drew.set2 k _ hgb hgc (fun hp => AP.out (by omega) (by omega))).congr (fun _ _ => rfl) (fun j _ => stepF HE.out j)
        have KS : Hid (∀ x : World, x.heap = wr.heap → x.cell? ⟨w1.heap.size, 2, none⟩ = some (.slice (some ⟨g2, 0, none⟩) kl bc) ∧ x.cell? ⟨w.heap.size, 2, none⟩ = some (.slice (some ⟨u1, o1, none⟩) kl kc) ∧ x.cell? ⟨w.heap.size + 1, 2, none⟩ = some (.slice (some ⟨u2, o2, none⟩) kl nc) ∧ x.cell? ⟨u1, o1 + k, none⟩ = some (.int .i64 f) ∧ x.cell? ⟨u2, o2 + k, none⟩ = some (.int .i64 g)) := fun x hx => ⟨(cell_heap hx _ _).trans hc2, (cell_heap hx _ _).trans pa2, (cell_heap hx _ _).trans pb2, (cell_heap hx _ _).trans hd1, (cell_heap hx _ _).trans hd2⟩
        have KT : Hid (∀ y : World, y.heap = wr.heap → ∀ v, (fun x : World => x.cell? ⟨w1.heap.size, 2, none⟩ = some (.slice (some ⟨g2, 0, none⟩) kl bc) ∧ x.cell? ⟨w.heap.size, 2, none⟩ = some (.slice (some ⟨u1, o1, none⟩) kl kc) ∧ x.cell? ⟨w.heap.size + 1, 2, none⟩ = some (.slice (some ⟨u2, o2, none⟩) kl nc) ∧ x.cell? ⟨u1, o1 + k, none⟩ = some (.int .i64 f) ∧ x.cell? ⟨u2, o2 + k, none⟩ = some (.int .i64 g)) (y.setCell ⟨g2, k, none⟩ v)) := fun y hy v => by
          have ne : ∀ b o, b ≠ g2 → (y.setCell ⟨g2, k, none⟩ v).cell? ⟨b, o, none⟩ = y.cell? ⟨b, o, none⟩ := fun b o hb => World.cell?_setCell_other _ _ _ _ (by intro e; exact hb (congrArg Addr.block e).symm)
          have ks := KS.out y hy
          exact ⟨by rw [ne _ _ (by omega)]; exact ks.1, by rw [ne _ _ (by omega)]; exact ks.2.1, by rw [ne _ _ (by omega)]; exact ks.2.2.1, by rw [ne _ _ (by omega)]; exact ks.2.2.2.1, by rw [ne _ _ (by omega)]; exact ks.2.2.2.2⟩
        go_wp2_with fail
        refine wp_region_held_drew (S := fun x => x.cell? ⟨w1.heap.size, 2, none⟩ = some (.slice (some ⟨g2, 0, none⟩) kl bc) ∧ x.cell? ⟨w.heap.size, 2, none⟩ = some (.slice (some ⟨u1, o1, none⟩) kl kc) ∧ x.cell? ⟨w.heap.size + 1, 2, none⟩ = some (.slice (some ⟨u2, o2, none⟩) kl nc) ∧ x.cell? ⟨u1, o1 + k, none⟩ = some (.int .i64 f) ∧ x.cell? ⟨u2, o2 + k, none⟩ = some (.int .i64 g)) (by kernel_rfl) ?_ (fun hHeld => ?_)
        · exact KS.out _ rfl
        refine wpAnyH_take (i := 0) (v := .pointer (some ⟨w1.heap.size, 2, none⟩)) rfl (by kernel_rfl) (by kernel_rfl) (by kernel_rfl) (fun _ _ _ h => h) (Or.inl ⟨by kernel_rfl, by (intro x hSx; (try dsimp only at hSx); go_simp)⟩) (by assumption) ?_
        try simp only [Act.put, List.getElem_toArray, List.getElem_cons_zero, List.setIfInBounds_toArray, List.set_cons_zero, List.set_cons_succ]
        refine wpAnyH_take (i := 1) (v := .slice (some ⟨g2, 0, none⟩) kl bc) rfl (by kernel_rfl) (by kernel_rfl) (by kernel_rfl) (fun _ _ _ h => h) (Or.inl ⟨by kernel_rfl, by (intro x hSx; (try dsimp only at hSx); go_simp)⟩) (by assumption) ?_
        try simp only [Act.put, List.getElem_toArray, List.getElem_cons_zero, List.getElem_cons_succ, List.setIfInBounds_toArray, List.set_cons_zero, List.set_cons_succ]
        refine wpAnyH_take (i := 2) (v := .int .i64 k) rfl (by kernel_rfl) (by kernel_rfl) (by kernel_rfl) (fun _ _ _ h => h) (Or.inl ⟨by kernel_rfl, by (intro x hSx; (try dsimp only at hSx); go_simp)⟩) (by assumption) ?_
        try simp only [Act.put, List.getElem_toArray, List.getElem_cons_zero, List.getElem_cons_succ, List.setIfInBounds_toArray, List.set_cons_zero, List.set_cons_succ]
        refine wpAnyH_take (i := 3) (v := .slice a len cap) rfl (by kernel_rfl) (by kernel_rfl) (by kernel_rfl) (fun _ _ _ h => h) (Or.inl ⟨by kernel_rfl, by (intro x hSx; (try dsimp only at hSx); go_simp)⟩) (by assumption) ?_
        try simp only [Act.put, List.getElem_toArray, List.getElem_cons_zero, List.getElem_cons_succ, List.setIfInBounds_toArray, List.set_cons_zero, List.set_cons_succ]
        refine wpAnyH_take (i := 4) (v := .pointer (some ⟨w.heap.size, 2, none⟩)) rfl (by kernel_rfl) (by kernel_rfl) (by kernel_rfl) (fun _ _ _ h => h) (Or.inl ⟨by kernel_rfl, by (intro x hSx; (try dsimp only at hSx); go_simp)⟩) (by assumption) ?_
        try simp only [Act.put, List.getElem_toArray, List.getElem_cons_zero, List.getElem_cons_succ, List.setIfInBounds_toArray, List.set_cons_zero, List.set_cons_succ]
        refine wpAnyH_take (i := 5) (v := .slice (some ⟨u1, o1, none⟩) kl kc) rfl (by kernel_rfl) (by kernel_rfl) (by kernel_rfl) (fun _ _ _ h => h) (Or.inl ⟨by kernel_rfl, by (intro x hSx; (try dsimp only at hSx); go_simp)⟩) (by assumption) ?_
        try simp only [Act.put, List.getElem_toArray, List.getElem_cons_zero, List.getElem_cons_succ, List.setIfInBounds_toArray, List.set_cons_zero, List.set_cons_succ]
        refine wpAnyH_take (i := 6) (v := .int .i64 k) rfl (by kernel_rfl) (by kernel_rfl) (by kernel_rfl) (fun _ _ _ h => h) (Or.inl ⟨by kernel_rfl, by (intro x hSx; (try dsimp only at hSx); go_simp)⟩) (by assumption) ?_
        try simp only [Act.put, List.getElem_toArray, List.getElem_cons_zero, List.getElem_cons_succ, List.setIfInBounds_toArray, List.set_cons_zero, List.set_cons_succ]
        refine wpAnyH_take (i := 7) (v := .pointer (some ⟨u1, o1 + k, none⟩)) rfl (by kernel_rfl) (by kernel_rfl) (by kernel_rfl) (fun _ _ _ h => h) (Or.inl ⟨by kernel_rfl, by (intro x hSx; (try dsimp only at hSx); go_simp)⟩) (by assumption) ?_
        try simp only [Act.put, List.getElem_toArray, List.getElem_cons_zero, List.getElem_cons_succ, List.setIfInBounds_toArray, List.set_cons_zero, List.set_cons_succ]
        refine wpAnyH_take (i := 8) (v := .int .i64 f) rfl (by kernel_rfl) (by kernel_rfl) (by kernel_rfl) (fun _ _ _ h => h) (Or.inl ⟨by kernel_rfl, by (intro x hSx; (try dsimp only at hSx); go_simp)⟩) (by assumption) ?_
        try simp only [Act.put, List.getElem_toArray, List.getElem_cons_zero, List.getElem_cons_succ, List.setIfInBounds_toArray, List.set_cons_zero, List.set_cons_succ]
        refine wpAnyH_take (i := 9) (v := .pointer (some ⟨w.heap.size + 1, 2, none⟩)) rfl (by kernel_rfl) (by kernel_rfl) (by kernel_rfl) (fun _ _ _ h => h) (Or.inl ⟨by kernel_rfl, by (intro x hSx; (try dsimp only at hSx); go_simp)⟩) (by assumption) ?_
        try simp only [Act.put, List.getElem_toArray, List.getElem_cons_zero, List.getElem_cons_succ, List.setIfInBounds_toArray, List.set_cons_zero, List.set_cons_succ]
        refine wpAnyH_take (i := 10) (v := .slice (some ⟨u2, o2, none⟩) kl nc) rfl (by kernel_rfl) (by kernel_rfl) (by kernel_rfl) (fun _ _ _ h => h) (Or.inl ⟨by kernel_rfl, by (intro x hSx; (try dsimp only at hSx); go_simp)⟩) (by assumption) ?_
        try simp only [Act.put, List.getElem_toArray, List.getElem_cons_zero, List.getElem_cons_succ, List.setIfInBounds_toArray, List.set_cons_zero, List.set_cons_succ]
        refine wpAnyH_take (i := 11) (v := .int .i64 k) rfl (by kernel_rfl) (by kernel_rfl) (by kernel_rfl) (fun _ _ _ h => h) (Or.inl ⟨by kernel_rfl, by (intro x hSx; (try dsimp only at hSx); go_simp)⟩) (by assumption) ?_
        try simp only [Act.put, List.getElem_toArray, List.getElem_cons_zero, List.getElem_cons_succ, List.setIfInBounds_toArray, List.set_cons_zero, List.set_cons_succ]
        refine wpAnyH_take (i := 12) (v := .pointer (some ⟨u2, o2 + k, none⟩)) rfl (by kernel_rfl) (by kernel_rfl) (by kernel_rfl) (fun _ _ _ h => h) (Or.inl ⟨by kernel_rfl, by (intro x hSx; (try dsimp only at hSx); go_simp)⟩) (by assumption) ?_
        try simp only [Act.put, List.getElem_toArray, List.getElem_cons_zero, List.getElem_cons_succ, List.setIfInBounds_toArray, List.set_cons_zero, List.set_cons_succ]
        refine wpAnyH_take (i := 13) (v := .int .i64 g) rfl (by kernel_rfl) (by kernel_rfl) (by kernel_rfl) (fun _ _ _ h => h) (Or.inl ⟨by kernel_rfl, by (intro x hSx; (try dsimp only at hSx); go_simp)⟩) (by assumption) ?_
        try simp only [Act.put, List.getElem_toArray, List.getElem_cons_zero, List.getElem_cons_succ, List.setIfInBounds_toArray, List.set_cons_zero, List.set_cons_succ]
        refine wpAnyH_ready (rs := [14]) (by kernel_rfl) (by simp) ?_
        refine AllReadyH.cons rfl (fun K hK => ?_) AllReadyH.nil
        go_simp
        go_at_call 49
        refine (meetsSpec _ _ _ _ _ L _ (H.out.later (below_drewN BW.out 1)) OK.out hf.1 hf.2 hg.1 hg.2).mono ?_
        rintro e w2 ⟨rfl, hw2⟩
        subst hw2
        go_wp2_with fail
        refine hK.out _ _ (KS.out _ rfl) (fun hHeld2 => ?_)
        clear hK K
        try simp only [Act.put, List.getElem_toArray, List.getElem_cons_zero, List.getElem_cons_succ, List.setIfInBounds_toArray, List.set_cons_zero, List.set_cons_succ]
        refine wpAnyH_take (i := 15) (v := .pointer (some ⟨g2, 0 + k, none⟩)) rfl (by kernel_rfl) (by kernel_rfl) (by kernel_rfl) (fun _ _ _ h => h) (Or.inl ⟨by kernel_rfl, by (intro x hSx; (try dsimp only at hSx); go_simp)⟩) (by assumption) ?_
        try simp only [Act.put, List.getElem_toArray, List.getElem_cons_zero, List.getElem_cons_succ, List.setIfInBounds_toArray, List.set_cons_zero, List.set_cons_succ]
        refine wpAnyH_ready (rs := [16]) (by kernel_rfl) (by simp) ?_
        refine AllReadyH.cons rfl (fun K hK => ?_) AllReadyH.nil
        go_simp
        refine hK.out _ _ (KT.out _ rfl _) (fun hHeld3 => ?_)
        clear hK K
        try simp only [Act.put, List.getElem_toArray, List.getElem_cons_zero, List.getElem_cons_succ, List.setIfInBounds_toArray, List.set_cons_zero, List.set_cons_succ]
        refine wpAnyH_done (by kernel_rfl) ?_ _
        clear hHeld hHeld2 hHeld3
        generalize hw6 : ((wr.drewN 1).setCell ⟨g2, k, none⟩ (.int .i64 (meetV L f g))) = w6 at N1 ⊢
        clear hw6
        clear hc0 hc1 hc2 hsz pa0 pa1 pa2 pb0 pb1 pb2 pq0 pq1 pq2 pf0 pf1 pf2
        have hc2 := N1.out.c2
        have hrk := (N1.out.r2 k hlt).1
        simp only at hrk
        rw [if_pos (by omega : k < k + 1), ← HE.out] at hrk
        have N6 : Hid (Below (w.heap.size + 1 + 1 + 1) (((w.alloc (.cells #[.bool x0, .slice la ll lc, .slice (some ⟨u1, o1, none⟩) kl kc] 26)).alloc (.cells #[.bool y0, .slice ma ml mc, .slice (some ⟨u2, o2, none⟩) kl nc] 26)).alloc (.cells #[.bool false, .slice none 0 0, .slice none 0 0] 26)) w6) := N1.out.be
        cases hz0 : (meetV L f g == 0)
        · go_wp2_with fail
          refine ⟨⟨k + 1, by omega, by go_num, fun j hj => ?_, N1.out⟩, by simp [intOf]; omega⟩
          by_cases e : j = k
          · subst e; rw [← HE.out]; exact hz0
          · exact HZ.out j (by omega)
        · have HN : Hid (joinSh L (x0, us, vs) (y0, xs, ys) = (false, [], [])) := by
            show _ = _
            unfold joinSh
            simp only
            rw [someZ_at (by rw [SV.out]; exact hlt) (by rw [← HE.out]; exact hz0)]
            simp
          go_wp2_with fail
          refine (noneS _).mono ?_
          rintro e w5 ⟨ga, gk, rfl, hb5⟩
          have B5 : Hid (Below (w.heap.size + 1 + 1 + 1) (((w.alloc (.cells #[.bool x0, .slice la ll lc, .slice (some ⟨u1, o1, none⟩) kl kc] 26)).alloc (.cells #[.bool y0, .slice ma ml mc, .slice (some ⟨u2, o2, none⟩) kl nc] 26)).alloc (.cells #[.bool false, .slice none 0 0, .slice none 0 0] 26)) w5) := N6.out.trans (hb5.mono (by have := N1.out.sz; omega))
          clear hb5
          obtain ⟨pa0, pa1, pa2, pb0, pb1, pb2, pq0, pq1, pq2, pf0, pf1, pf2⟩ := KB.out w5 B5.out
          go_wp2_with fail
          refine bodyPost_ret (v := .agg #[.bool false, .slice ga 0 0, .slice gk 0 0]) ?_ rfl ?_
          · simp [results, Tryd.results27, go_sem, pq0, pq1, pq2]
          · unfold JoinP
            rw [HN.out]
            exact ⟨_, _, _, _, _, _, rfl, ⟨rfl, by omega, .inl rfl, fun j => by simp⟩, ⟨rfl, by omega, .inl rfl, fun j => by simp⟩, (((B3.out.trans (B5.out.mono (by omega))).setCell (by simp; omega) _).setCell (by simp; omega) _).setCell (by simp; omega) _⟩
    obtain ⟨u1, o1, rfl, hd1, hl1⟩ : ∃ b off, la = some ⟨b, off, none⟩ ∧ wr.cell? ⟨b, off + k, none⟩ = some (.int .i64 (us.getD k 0)) ∧ b < w.heap.size := by
      rcases HU.out.cells with h0 | ⟨b, off, ha, _, hcs⟩
      · omega
      · have hl := World.block_lt_of_cell? w _ (hcs k hlt)
        exact ⟨b, off, ha, by rw [BW.out.cell hl]; exact hcs k hlt, hl⟩
    obtain ⟨u2, o2, rfl, hd2, hl2⟩ : ∃ b off, ma = some ⟨b, off, none⟩ ∧ wr.cell? ⟨b, off + k, none⟩ = some (.int .i64 (xs.getD k 0)) ∧ b < w.heap.size := by
      rcases HX.out.cells with h0 | ⟨b, off, ha, _, hcs⟩
      · omega
      · have hl := World.block_lt_of_cell? w _ (hcs k (by omega))
        exact ⟨b, off, ha, by rw [BW.out.cell hl]; exact hcs k (by omega), hl⟩
    obtain ⟨hga, hgb, hgc⟩ := HG1.out (by omega)
    have HGA : Hid (aa = some ⟨g1, 0, none⟩) := hga
    clear hga
    have hf := TU.out.at k (by rw [SU.out]; exact hlt)
    have hg := TX.out.at k (by rw [STX.out]; omega)
    rw [HS.out] at hf hg
    have HE : Hid (meetV L (us.getD k 0) (xs.getD k 0) = mt L us xs k) := rfl
    generalize us.getD k 0 = f at hd1 hf HE
    generalize xs.getD k 0 = g at hd2 hg HE
    have hltI : (k : Int) < (ll : Int) := by omega
    have hltI2 : (k : Int) < (ml : Int) := by omega
    have rk := HJ.out.r1 k hlt
    obtain ⟨rkc, rkf⟩ := rk
    have N1 : Hid (JI w w1 x0 g1 g2 aa ll ac ba kl bc (fun j => if j < k + 1 then mt L us xs j else us.getD j 0) (fun j => vs.getD j 0) (((w.alloc (.cells #[.bool x0, .slice (some ⟨u1, o1, none⟩) ll lc, .slice ka kl kc] 26)).alloc (.cells #[.bool y0, .slice (some ⟨u2, o2, none⟩) ml mc, .slice na kl nc] 26)).alloc (.cells #[.bool false, .slice none 0 0, .slice none 0 0] 26)) ((wr.drewN 1).setCell ⟨g1, k, none⟩ (.int .i64 (meetV L f g)))) := (HJ.out.drew.set1 k _ hgb hgc (fun hp => AP.out (by omega) (by omega))).congr (fun j _ => stepF HE.out j) (fun _ _ => rfl)
    have KS : Hid (∀ x : World, x.heap = wr.heap → x.cell? ⟨w1.heap.size, 1, none⟩ = some (.slice aa ll ac) ∧ x.cell? ⟨w.heap.size, 1, none⟩ = some (.slice (some ⟨u1, o1, none⟩) ll lc) ∧ x.cell? ⟨w.heap.size + 1, 1, none⟩ = some (.slice (some ⟨u2, o2, none⟩) ml mc) ∧ x.cell? ⟨u1, o1 + k, none⟩ = some (.int .i64 f) ∧ x.cell? ⟨u2, o2 + k, none⟩ = some (.int .i64 g)) := fun x hx => ⟨(cell_heap hx _ _).trans hc1, (cell_heap hx _ _).trans pa1, (cell_heap hx _ _).trans pb1, (cell_heap hx _ _).trans hd1, (cell_heap hx _ _).trans hd2⟩
    have KT : Hid (∀ y : World, y.heap = wr.heap → ∀ v, (fun x : World => x.cell? ⟨w1.heap.size, 1, none⟩ = some (.slice aa ll ac) ∧ x.cell? ⟨w.heap.size, 1, none⟩ = some (.slice (some ⟨u1, o1, none⟩) ll lc) ∧ x.cell? ⟨w.heap.size + 1, 1, none⟩ = some (.slice (some ⟨u2, o2, none⟩) ml mc) ∧ x.cell? ⟨u1, o1 + k, none⟩ = some (.int .i64 f) ∧ x.cell? ⟨u2, o2 + k, none⟩ = some (.int .i64 g)) (y.setCell ⟨g1, k, none⟩ v)) := fun y hy v => by
      have ne : ∀ b o, b ≠ g1 → (y.setCell ⟨g1, k, none⟩ v).cell? ⟨b, o, none⟩ = y.cell? ⟨b, o, none⟩ := fun b o hb => World.cell?_setCell_other _ _ _ _ (by intro e; exact hb (congrArg Addr.block e).symm)
      have ks := KS.out y hy
      exact ⟨by rw [ne _ _ (by omega)]; exact ks.1, by rw [ne _ _ (by omega)]; exact ks.2.1, by rw [ne _ _ (by omega)]; exact ks.2.2.1, by rw [ne _ _ (by omega)]; exact ks.2.2.2.1, by rw [ne _ _ (by omega)]; exact ks.2.2.2.2⟩
    go_wp2_with fail
    refine wp_region_held_drew (S := fun x => x.cell? ⟨w1.heap.size, 1, none⟩ = some (.slice aa ll ac) ∧ x.cell? ⟨w.heap.size, 1, none⟩ = some (.slice (some ⟨u1, o1, none⟩) ll lc) ∧ x.cell? ⟨w.heap.size + 1, 1, none⟩ = some (.slice (some ⟨u2, o2, none⟩) ml mc) ∧ x.cell? ⟨u1, o1 + k, none⟩ = some (.int .i64 f) ∧ x.cell? ⟨u2, o2 + k, none⟩ = some (.int .i64 g)) (by kernel_rfl) ?_ (fun hHeld => ?_)
    · exact KS.out _ rfl
    refine wpAnyH_take (i := 0) (v := .pointer (some ⟨w1.heap.size, 1, none⟩)) rfl (by kernel_rfl) (by kernel_rfl) (by kernel_rfl) (fun _ _ _ h => h) (Or.inl ⟨by kernel_rfl, by (intro x hSx; (try dsimp only at hSx); go_simp)⟩) (by assumption) ?_
    try simp only [Act.put, List.getElem_toArray, List.getElem_cons_zero, List.setIfInBounds_toArray, List.set_cons_zero, List.set_cons_succ]
    refine wpAnyH_take (i := 1) (v := .slice aa ll ac) rfl (by kernel_rfl) (by kernel_rfl) (by kernel_rfl) (fun _ _ _ h => h) (Or.inl ⟨by kernel_rfl, by (intro x hSx; (try dsimp only at hSx); go_simp)⟩) (by assumption) ?_
    try simp only [Act.put, List.getElem_toArray, List.getElem_cons_zero, List.getElem_cons_succ, List.setIfInBounds_toArray, List.set_cons_zero, List.set_cons_succ]
    refine wpAnyH_take (i := 2) (v := .int .i64 k) rfl (by kernel_rfl) (by kernel_rfl) (by kernel_rfl) (fun _ _ _ h => h) (Or.inl ⟨by kernel_rfl, by (intro x hSx; (try dsimp only at hSx); go_simp)⟩) (by assumption) ?_
    try simp only [Act.put, List.getElem_toArray, List.getElem_cons_zero, List.getElem_cons_succ, List.setIfInBounds_toArray, List.set_cons_zero, List.set_cons_succ]
    refine wpAnyH_take (i := 3) (v := .slice a len cap) rfl (by kernel_rfl) (by kernel_rfl) (by kernel_rfl) (fun _ _ _ h => h) (Or.inl ⟨by kernel_rfl, by (intro x hSx; (try dsimp only at hSx); go_simp)⟩) (by assumption) ?_
    try simp only [Act.put, List.getElem_toArray, List.getElem_cons_zero, List.getElem_cons_succ, List.setIfInBounds_toArray, List.set_cons_zero, List.set_cons_succ]
    refine wpAnyH_take (i := 4) (v := .pointer (some ⟨w.heap.size, 1, none⟩)) rfl (by kernel_rfl) (by kernel_rfl) (by kernel_rfl) (fun _ _ _ h => h) (Or.inl ⟨by kernel_rfl, by (intro x hSx; (try dsimp only at hSx); go_simp)⟩) (by assumption) ?_
    try simp only [Act.put, List.getElem_toArray, List.getElem_cons_zero, List.getElem_cons_succ, List.setIfInBounds_toArray, List.set_cons_zero, List.set_cons_succ]
    refine wpAnyH_take (i := 5) (v := .slice (some ⟨u1, o1, none⟩) ll lc) rfl (by kernel_rfl) (by kernel_rfl) (by kernel_rfl) (fun _ _ _ h => h) (Or.inl ⟨by kernel_rfl, by (intro x hSx; (try dsimp only at hSx); go_simp)⟩) (by assumption) ?_
    try simp only [Act.put, List.getElem_toArray, List.getElem_cons_zero, List.getElem_cons_succ, List.setIfInBounds_toArray, List.set_cons_zero, List.set_cons_succ]
    refine wpAnyH_take (i := 6) (v := .int .i64 k) rfl (by kernel_rfl) (by kernel_rfl) (by kernel_rfl) (fun _ _ _ h => h) (Or.inl ⟨by kernel_rfl, by (intro x hSx; (try dsimp only at hSx); go_simp)⟩) (by assumption) ?_
    try simp only [Act.put, List.getElem_toArray, List.getElem_cons_zero, List.getElem_cons_succ, List.setIfInBounds_toArray, List.set_cons_zero, List.set_cons_succ]
    refine wpAnyH_take (i := 7) (v := .pointer (some ⟨u1, o1 + k, none⟩)) rfl (by kernel_rfl) (by kernel_rfl) (by kernel_rfl) (fun _ _ _ h => h) (Or.inl ⟨by kernel_rfl, by (intro x hSx; (try dsimp only at hSx); go_simp)⟩) (by assumption) ?_
    try simp only [Act.put, List.getElem_toArray, List.getElem_cons_zero, List.getElem_cons_succ, List.setIfInBounds_toArray, List.set_cons_zero, List.set_cons_succ]
    refine wpAnyH_take (i := 8) (v := .int .i64 f) rfl (by kernel_rfl) (by kernel_rfl) (by kernel_rfl) (fun _ _ _ h => h) (Or.inl ⟨by kernel_rfl, by (intro x hSx; (try dsimp only at hSx); go_simp)⟩) (by assumption) ?_
    try simp only [Act.put, List.getElem_toArray, List.getElem_cons_zero, List.getElem_cons_succ, List.setIfInBounds_toArray, List.set_cons_zero, List.set_cons_succ]
    refine wpAnyH_take (i := 9) (v := .pointer (some ⟨w.heap.size + 1, 1, none⟩)) rfl (by kernel_rfl) (by kernel_rfl) (by kernel_rfl) (fun _ _ _ h => h) (Or.inl ⟨by kernel_rfl, by (intro x hSx; (try dsimp only at hSx); go_simp)⟩) (by assumption) ?_
    try simp only [Act.put, List.getElem_toArray, List.getElem_cons_zero, List.getElem_cons_succ, List.setIfInBounds_toArray, List.set_cons_zero, List.set_cons_succ]
    refine wpAnyH_take (i := 10) (v := .slice (some ⟨u2, o2, none⟩) ml mc) rfl (by kernel_rfl) (by kernel_rfl) (by kernel_rfl) (fun _ _ _ h => h) (Or.inl ⟨by kernel_rfl, by (intro x hSx; (try dsimp only at hSx); go_simp)⟩) (by assumption) ?_
    try simp only [Act.put, List.getElem_toArray, List.getElem_cons_zero, List.getElem_cons_succ, List.setIfInBounds_toArray, List.set_cons_zero, List.set_cons_succ]
    refine wpAnyH_take (i := 11) (v := .int .i64 k) rfl (by kernel_rfl) (by kernel_rfl) (by kernel_rfl) (fun _ _ _ h => h) (Or.inl ⟨by kernel_rfl, by (intro x hSx; (try dsimp only at hSx); go_simp)⟩) (by assumption) ?_
    try simp only [Act.put, List.getElem_toArray, List.getElem_cons_zero, List.getElem_cons_succ, List.setIfInBounds_toArray, List.set_cons_zero, List.set_cons_succ]
    refine wpAnyH_take (i := 12) (v := .pointer (some ⟨u2, o2 + k, none⟩)) rfl (by kernel_rfl) (by kernel_rfl) (by kernel_rfl) (fun _ _ _ h => h) (Or.inl ⟨by kernel_rfl, by (intro x hSx; (try dsimp only at hSx); go_simp)⟩) (by assumption) ?_
    try simp only [Act.put, List.getElem_toArray, List.getElem_cons_zero, List.getElem_cons_succ, List.setIfInBounds_toArray, List.set_cons_zero, List.set_cons_succ]
    refine wpAnyH_take (i := 13) (v := .int .i64 g) rfl (by kernel_rfl) (by kernel_rfl) (by kernel_rfl) (fun _ _ _ h => h) (Or.inl ⟨by kernel_rfl, by (intro x hSx; (try dsimp only at hSx); go_simp)⟩) (by assumption) ?_
    try simp only [Act.put, List.getElem_toArray, List.getElem_cons_zero, List.getElem_cons_succ, List.setIfInBounds_toArray, List.set_cons_zero, List.set_cons_succ]
    refine wpAnyH_ready (rs := [14]) (by kernel_rfl) (by simp) ?_
    refine AllReadyH.cons rfl (fun K hK => ?_) AllReadyH.nil
    go_simp
    go_at_call 49
    refine (meetsSpec _ _ _ _ _ L _ (H.out.later (below_drewN BW.out 1)) OK.out hf.1 hf.2 hg.1 hg.2).mono ?_
    rintro e w2 ⟨rfl, hw2⟩
    subst hw2
    go_wp2_with fail
    refine hK.out _ _ (KS.out _ rfl) (fun hHeld2 => ?_)
    clear hK K
    try simp only [Act.put, List.getElem_toArray, List.getElem_cons_zero, List.getElem_cons_succ, List.setIfInBounds_toArray, List.set_cons_zero, List.set_cons_succ]
    refine wpAnyH_take (i := 15) (v := .pointer (some ⟨g1, 0 + k, none⟩)) rfl (by kernel_rfl) (by kernel_rfl) (by kernel_rfl) (fun _ _ _ h => h) (Or.inl ⟨by kernel_rfl, by (intro x hSx; (try dsimp only at hSx); simp only [HGA.out]; go_simp)⟩) (by assumption) ?_
    try simp only [Act.put, List.getElem_toArray, List.getElem_cons_zero, List.getElem_cons_succ, List.setIfInBounds_toArray, List.set_cons_zero, List.set_cons_succ]
    refine wpAnyH_ready (rs := [16]) (by kernel_rfl) (by simp) ?_
    refine AllReadyH.cons rfl (fun K hK => ?_) AllReadyH.nil
    go_simp
    refine hK.out _ _ (KT.out _ rfl _) (fun hHeld3 => ?_)
    clear hK K
    try simp only [Act.put, List.getElem_toArray, List.getElem_cons_zero, List.getElem_cons_succ, List.setIfInBounds_toArray, List.set_cons_zero, List.set_cons_succ]
    refine wpAnyH_done (by kernel_rfl) ?_ _
    clear hHeld hHeld2 hHeld3
    go_wp2_with fail
    exact ⟨⟨k + 1, by omega, by go_num, N1.out⟩, by simp [intOf]; omega⟩

end Go.Proofs.YtkggmcbjpmhmcaaDoor
