/-
  Whether a method is ok: what is said of it, and that the specification says so, in whatever memory; it writes nothing that was there.
-/
import Derived.Test.YthdlccadcadopaaGreatSameSpec
namespace Go.Proofs.YthdlccadcadopaaGreat
open Go.ChangeShapes Go.WideShapes Go.ChangeAt Go.RowKit

def ins (X : List In) (i : Nat) : In := X.getD i (0, 0, 0)
def shp (Y : List Sh) (i : Nat) : Sh := Y.getD i (false, [], [])
def cat (Z : List Ca) (i : Nat) : Ca := Z.getD i (0, 0, 0, 0)
theorem insOf {D : Nat → Prop} {w : World} {a : Option Addr} {len : Nat} {X : List In} (h : SlAt inR D w a len X) (k : Nat) (hk : k < len) : ∃ b off i0 i1 i2, a = some ⟨b, off, none⟩ ∧ ins X k = (i0, i1, i2) ∧
    w.cell? ⟨b, off + k * 3, none⟩ = some (.int .i64 i0) ∧ w.cell? ⟨b, off + k * 3 + 1, none⟩ = some (.int .i64 i1) ∧ w.cell? ⟨b, off + k * 3 + 2, none⟩ = some (.int .i64 i2) := by
  have hs := h.size
  have hx : X[k]? = some (ins X k) := by unfold ins; rw [List.getD_eq_getElem?_getD, List.getElem?_eq_getElem (by omega)]; rfl
  obtain ⟨b, off, ha, _, vs, hv, hc⟩ := h.at k _ hx
  generalize ins X k = x at *
  obtain ⟨x0, x1, x2⟩ := x
  obtain ⟨_, _, rfl, ⟨rfl, _⟩, _, _, rfl, ⟨rfl, _⟩, ⟨rfl, _⟩⟩ := hv
  exact ⟨b, off, x0, x1, x2, ha, rfl, hc 0 _ rfl, hc 1 _ rfl, hc 2 _ rfl⟩
theorem shpOf {D : Nat → Prop} {w : World} {a : Option Addr} {len : Nat} {Y : List Sh} (h : SlAt shR D w a len Y) (k : Nat) (hk : k < len) : ∃ b off y0 us vs la ll lc ka kl kc, a = some ⟨b, off, none⟩ ∧ shp Y k = (y0, us, vs) ∧
    w.cell? ⟨b, off + k * 3, none⟩ = some (.bool y0) ∧ w.cell? ⟨b, off + k * 3 + 1, none⟩ = some (.slice la ll lc) ∧ w.cell? ⟨b, off + k * 3 + 2, none⟩ = some (.slice ka kl kc) ∧ IntsAt D w la ll us ∧ IntsAt D w ka kl vs := by
  have hs := h.size
  have hx : Y[k]? = some (shp Y k) := by unfold shp; rw [List.getD_eq_getElem?_getD, List.getElem?_eq_getElem (by omega)]; rfl
  obtain ⟨b, off, ha, _, vs, hv, hc⟩ := h.at k _ hx
  generalize shp Y k = x at *
  obtain ⟨x0, us, ks⟩ := x
  obtain ⟨_, _, rfl, rfl, _, _, rfl, ⟨la, ll, lc, rfl, h1⟩, ⟨ka, kl, kc, rfl, h2⟩⟩ := hv
  exact ⟨b, off, x0, us, ks, la, ll, lc, ka, kl, kc, ha, rfl, hc 0 _ rfl, hc 1 _ rfl, hc 2 _ rfl, h1.ints, h2.ints⟩
theorem catOf {D : Nat → Prop} {w : World} {a : Option Addr} {len : Nat} {Z : List Ca} (h : SlAt caR D w a len Z) (k : Nat) (hk : k < len) : ∃ b off i0 i1 i2 i3, a = some ⟨b, off, none⟩ ∧ cat Z k = (i0, i1, i2, i3) ∧
    w.cell? ⟨b, off + k * 4, none⟩ = some (.int .i64 i0) ∧ w.cell? ⟨b, off + k * 4 + 1, none⟩ = some (.int .i64 i1) ∧ w.cell? ⟨b, off + k * 4 + 2, none⟩ = some (.int .i64 i2) ∧ w.cell? ⟨b, off + k * 4 + 3, none⟩ = some (.int .i64 i3) := by
  have hs := h.size
  have hx : Z[k]? = some (cat Z k) := by unfold cat; rw [List.getD_eq_getElem?_getD, List.getElem?_eq_getElem (by omega)]; rfl
  obtain ⟨b, off, ha, _, vs, hv, hc⟩ := h.at k _ hx
  generalize cat Z k = x at *
  obtain ⟨x0, x1, x2, x3⟩ := x
  obtain ⟨_, _, rfl, ⟨rfl, _⟩, _, _, rfl, ⟨rfl, _⟩, _, _, rfl, ⟨rfl, _⟩, ⟨rfl, _⟩⟩ := hv
  exact ⟨b, off, x0, x1, x2, x3, ha, rfl, hc 0 _ rfl, hc 1 _ rfl, hc 2 _ rfl, hc 3 _ rfl⟩

/-- Whether a method is ok. -/
def codB (L : List Cl) (M : List Me) (lo : Int) (X : List In) (Y : List Sh) (n i : Nat) : Bool := insB L M lo n (ins X i) && shB L lo (shp Y i)
def methB (L : List Cl) (M : List Me) (m : Me) : Bool :=
  ((((hdB L.length m && inI (m.2.2.2.2.2.1.length : Int) 1 12) && decide (m.2.2.2.2.2.1.length = m.2.2.2.2.2.2.1.length)) && decide (m.2.2.2.2.2.2.2.length ≤ 2)) && (List.range m.2.2.2.2.2.1.length).all (codB L M m.2.2.2.2.1 m.2.2.2.2.2.1 m.2.2.2.2.2.2.1 m.2.2.2.2.2.1.length))
    && (List.range m.2.2.2.2.2.2.2.length).all (fun i => catB L m.2.2.2.2.2.1.length (cat m.2.2.2.2.2.2.2 i))
theorem range_false {p : Nat → Bool} {n k : Nat} (hk : k < n) (h : p k = false) : (List.range n).all p = false := by
  rw [List.all_eq_false]
  exact ⟨k, List.mem_range.2 hk, by simp [h]⟩
theorem range_more {p : Nat → Bool} (k : Nat) : (List.range (k + 1)).all p = ((List.range k).all p && p k) := by
  rw [List.range_succ, List.all_append]; simp
theorem hd_lo {n : Nat} {c s o lo : Int} {args : List Int} {X : List In} {Y : List Sh} {Z : List Ca} (h : hdB n (c, s, args, o, lo, X, Y, Z) = true) : 0 ≤ lo ∧ lo ≤ 3 := by
  unfold hdB at h
  simp only [Bool.and_eq_true] at h
  have := h.1.2
  unfold inI selfN at this
  simp at this
  split at this <;> omega


set_option maxRecDepth 100000 in
set_option maxHeartbeats 16000000 in
theorem methSpec (ca : Option Addr) (cn cc : Nat) (ma : Option Addr) (mn mc : Nat) (c s o lo : Int) (aa : Option Addr) (al ac : Nat) (da : Option Addr) (dl dc : Nat) (sa : Option Addr) (sl sc : Nat) (ha : Option Addr) (hl hc : Nat) (args : List Int) (X : List In) (Y : List Sh) (Z : List Ca) (L : List Cl) (M : List Me) (w : World) {D E G : Nat → Prop}
    (h : ClsAt D E w ca cn L) (ok : clsOk L = true) (hM : SlAt meR G w ma mn M) (hA : SlAt intR G w aa al args) (hX : SlAt inR G w da dl X) (hY : SlAt shR G w sa sl Y) (hZ : SlAt caR G w ha hl Z) :
    Calls Tryz.prog 58 #[.agg #[.slice ca cn cc, .slice ma mn mc], .agg #[.int .i64 c, .int .i64 s, .slice aa al ac, .int .i64 o, .int .i64 lo, .slice da dl dc, .slice sa sl sc, .slice ha hl hc]] w fun e w' => e = .returned (.bool (methB L M (c, s, args, o, lo, X, Y, Z))) ∧ Below w.heap.size w w' := by
  have H : Hid (ClsAt D E w ca cn L) := h
  have OK : Hid (clsOk L = true) := ok
  have HS : Hid (L.length = cn) := h.size
  have hl5 := (ok_len ok).2
  rw [h.size] at hl5
  have HM : Hid (SlAt meR G w ma mn M) := hM
  have HA : Hid (IntsAt G w aa al args) := hA.ints
  have HX : Hid (SlAt inR G w da dl X) := hX
  have HY : Hid (SlAt shR G w sa sl Y) := hY
  have HZ : Hid (SlAt caR G w ha hl Z) := hZ
  have XS : Hid (X.length = dl) := hX.size
  have YS : Hid (Y.length = sl) := hY.size
  have ZS : Hid (Z.length = hl) := hZ.size
  have xr := hX.room
  have yr := hY.room
  have zr := hZ.room
  have HF : Hid (methB L M (c, s, args, o, lo, X, Y, Z) = (((((hdB cn (c, s, args, o, lo, X, Y, Z) && inI (dl : Int) 1 12) && decide (dl = sl)) && decide (hl ≤ 2)) && (List.range dl).all (codB L M lo X Y dl)) && (List.range hl).all (fun i => catB L dl (cat Z i)))) := by
    show _ = _
    rw [methB]; simp only; rw [XS.out, YS.out, ZS.out, HS.out]
  have KC : Hid (∀ x : World, Below (w.heap.size + 1 + 1) ((w.alloc (.cells #[.slice ca cn cc, .slice ma mn mc] 38)).alloc (.cells #[.int .i64 c, .int .i64 s, .slice aa al ac, .int .i64 o, .int .i64 lo, .slice da dl dc, .slice sa sl sc, .slice ha hl hc] 68)) x → x.cell? ⟨w.heap.size, 0, none⟩ = some (.slice ca cn cc) ∧ x.cell? ⟨w.heap.size, 1, none⟩ = some (.slice ma mn mc) ∧ x.cell? ⟨w.heap.size + 1, 0, none⟩ = some (.int .i64 c) ∧ x.cell? ⟨w.heap.size + 1, 1, none⟩ = some (.int .i64 s) ∧ x.cell? ⟨w.heap.size + 1, 2, none⟩ = some (.slice aa al ac) ∧ x.cell? ⟨w.heap.size + 1, 3, none⟩ = some (.int .i64 o) ∧ x.cell? ⟨w.heap.size + 1, 4, none⟩ = some (.int .i64 lo) ∧ x.cell? ⟨w.heap.size + 1, 5, none⟩ = some (.slice da dl dc) ∧ x.cell? ⟨w.heap.size + 1, 6, none⟩ = some (.slice sa sl sc) ∧ x.cell? ⟨w.heap.size + 1, 7, none⟩ = some (.slice ha hl hc)) := fun x hb => ⟨later2 hb (two_first rfl), later2 hb (two_first rfl), later2 hb (two_second rfl), later2 hb (two_second rfl), later2 hb (two_second rfl), later2 hb (two_second rfl), later2 hb (two_second rfl), later2 hb (two_second rfl), later2 hb (two_second rfl), later2 hb (two_second rfl)⟩
  have B0 : Hid (Below w.heap.size w ((w.alloc (.cells #[.slice ca cn cc, .slice ma mn mc] 38)).alloc (.cells #[.int .i64 c, .int .i64 s, .slice aa al ac, .int .i64 o, .int .i64 lo, .slice da dl dc, .slice sa sl sc, .slice ha hl hc] 68))) := ((Below.refl _ _).alloc (Nat.le_refl _) _).alloc (by simp) _
  clear h ok hM hA hX hY hZ
  cases h1 : hdB cn (c, s, args, o, lo, X, Y, Z)
  · go_enter Tryz.func58, Tryz.ntmps58
    go_wp2_with fail
    refine (headSpec _ _ _ _ _ _ _ _ _ _ _ _ _ _ _ _ _ _ _ _ _ _ args X Y Z _ (HA.out.later B0.out) (by omega)).mono ?_
    rintro e w1 ⟨rfl, hb1⟩
    rw [h1]
    have B1 : Hid (Below (w.heap.size + 1 + 1) ((w.alloc (.cells #[.slice ca cn cc, .slice ma mn mc] 38)).alloc (.cells #[.int .i64 c, .int .i64 s, .slice aa al ac, .int .i64 o, .int .i64 lo, .slice da dl dc, .slice sa sl sc, .slice ha hl hc] 68)) w1) := by show Below _ _ _; simpa using hb1
    obtain ⟨p0, p1, m0, m1, m2, m3, m4, m5, m6, m7⟩ := KC.out w1 B1.out
    clear hb1
    go_wp2_with fail
    go_ret
    exact ⟨by rw [HF.out, h1]; simp, below2 B1.out⟩
  obtain ⟨lo0, lo3⟩ := hd_lo h1
  cases h2 : inI (dl : Int) 1 12
  · go_enter Tryz.func58, Tryz.ntmps58
    go_wp2_with fail
    refine (headSpec _ _ _ _ _ _ _ _ _ _ _ _ _ _ _ _ _ _ _ _ _ _ args X Y Z _ (HA.out.later B0.out) (by omega)).mono ?_
    rintro e w1 ⟨rfl, hb1⟩
    rw [h1]
    have B1 : Hid (Below (w.heap.size + 1 + 1) ((w.alloc (.cells #[.slice ca cn cc, .slice ma mn mc] 38)).alloc (.cells #[.int .i64 c, .int .i64 s, .slice aa al ac, .int .i64 o, .int .i64 lo, .slice da dl dc, .slice sa sl sc, .slice ha hl hc] 68)) w1) := by show Below _ _ _; simpa using hb1
    obtain ⟨p0, p1, m0, m1, m2, m3, m4, m5, m6, m7⟩ := KC.out w1 B1.out
    clear hb1
    go_wp2_with fail
    refine (inSpec' _ _ _ _ h2 _).mono ?_
    rintro e w' ⟨rfl, rfl⟩
    go_wp2_with fail
    go_ret
    exact ⟨by rw [HF.out, h1, h2]; simp, below2 B1.out⟩
  have d1 : 1 ≤ dl := by unfold inI at h2; simp at h2; omega
  have d12 : dl ≤ 12 := by unfold inI at h2; simp at h2; omega
  by_cases h3 : dl = sl
  case neg =>
    have e3 : ((sl : Int) != (dl : Int)) = true := by simp; omega
    go_enter Tryz.func58, Tryz.ntmps58
    go_wp2_with fail
    refine (headSpec _ _ _ _ _ _ _ _ _ _ _ _ _ _ _ _ _ _ _ _ _ _ args X Y Z _ (HA.out.later B0.out) (by omega)).mono ?_
    rintro e w1 ⟨rfl, hb1⟩
    rw [h1]
    have B1 : Hid (Below (w.heap.size + 1 + 1) ((w.alloc (.cells #[.slice ca cn cc, .slice ma mn mc] 38)).alloc (.cells #[.int .i64 c, .int .i64 s, .slice aa al ac, .int .i64 o, .int .i64 lo, .slice da dl dc, .slice sa sl sc, .slice ha hl hc] 68)) w1) := by show Below _ _ _; simpa using hb1
    obtain ⟨p0, p1, m0, m1, m2, m3, m4, m5, m6, m7⟩ := KC.out w1 B1.out
    clear hb1
    go_wp2_with fail
    refine (inSpec' _ _ _ _ h2 _).mono ?_
    rintro e w' ⟨rfl, rfl⟩
    go_wp2_with fail
    go_ret
    exact ⟨by rw [HF.out, h1, h2, decide_eq_false h3]; simp, below2 B1.out⟩
  subst h3
  have e3 : ((dl : Int) != (dl : Int)) = false := by simp
  by_cases h4 : 2 < hl
  · go_enter Tryz.func58, Tryz.ntmps58
    go_wp2_with fail
    refine (headSpec _ _ _ _ _ _ _ _ _ _ _ _ _ _ _ _ _ _ _ _ _ _ args X Y Z _ (HA.out.later B0.out) (by omega)).mono ?_
    rintro e w1 ⟨rfl, hb1⟩
    rw [h1]
    have B1 : Hid (Below (w.heap.size + 1 + 1) ((w.alloc (.cells #[.slice ca cn cc, .slice ma mn mc] 38)).alloc (.cells #[.int .i64 c, .int .i64 s, .slice aa al ac, .int .i64 o, .int .i64 lo, .slice da dl dc, .slice sa dl sc, .slice ha hl hc] 68)) w1) := by show Below _ _ _; simpa using hb1
    obtain ⟨p0, p1, m0, m1, m2, m3, m4, m5, m6, m7⟩ := KC.out w1 B1.out
    clear hb1
    go_wp2_with fail
    refine (inSpec' _ _ _ _ h2 _).mono ?_
    rintro e w' ⟨rfl, rfl⟩
    go_wp2_with fail
    go_ret
    exact ⟨by rw [HF.out, h1, h2, decide_eq_false (show ¬ hl ≤ 2 by omega)]; simp, below2 B1.out⟩
  have HG : Hid (methB L M (c, s, args, o, lo, X, Y, Z) = ((List.range dl).all (codB L M lo X Y dl) && (List.range hl).all (fun i => catB L dl (cat Z i)))) := by show _ = _; rw [HF.out, h1, h2, decide_eq_true (show hl ≤ 2 by omega)]; simp
  clear HF
  go_enter Tryz.func58, Tryz.ntmps58
  go_wp2_with fail
  refine (headSpec _ _ _ _ _ _ _ _ _ _ _ _ _ _ _ _ _ _ _ _ _ _ args X Y Z _ (HA.out.later B0.out) (by omega)).mono ?_
  rintro e w1 ⟨rfl, hb1⟩
  rw [h1]
  have B1 : Hid (Below (w.heap.size + 1 + 1) ((w.alloc (.cells #[.slice ca cn cc, .slice ma mn mc] 38)).alloc (.cells #[.int .i64 c, .int .i64 s, .slice aa al ac, .int .i64 o, .int .i64 lo, .slice da dl dc, .slice sa dl sc, .slice ha hl hc] 68)) w1) := by show Below _ _ _; simpa using hb1
  obtain ⟨p0, p1, m0, m1, m2, m3, m4, m5, m6, m7⟩ := KC.out w1 B1.out
  clear hb1
  go_wp2_with fail
  refine (inSpec' _ _ _ _ h2 _).mono ?_
  rintro e w' ⟨rfl, rfl⟩
  go_wp2_with fail
  clear p0 p1 m0 m1 m2 m3 m4 m5 m6 m7
  go_loopw [5] (fun t wr => ∃ k : Nat, k ≤ dl ∧ t = .int .i64 k ∧ (List.range k).all (codB L M lo X Y dl) = true ∧ Below (w.heap.size + 1 + 1) ((w.alloc (.cells #[.slice ca cn cc, .slice ma mn mc] 38)).alloc (.cells #[.int .i64 c, .int .i64 s, .slice aa al ac, .int .i64 o, .int .i64 lo, .slice da dl dc, .slice sa dl sc, .slice ha hl hc] 68)) wr) (fun t _ => dl - (intOf t).toNat)
  case atStart => exact ⟨0, Nat.zero_le _, rfl, rfl, B1.out⟩
  case round =>
    clear B1
    obtain ⟨k, hk, rfl, hu, hb⟩ := hrel
    have HU : Hid ((List.range k).all (codB L M lo X Y dl) = true) := hu
    have HB : Hid (Below (w.heap.size + 1 + 1) ((w.alloc (.cells #[.slice ca cn cc, .slice ma mn mc] 38)).alloc (.cells #[.int .i64 c, .int .i64 s, .slice aa al ac, .int .i64 o, .int .i64 lo, .slice da dl dc, .slice sa dl sc, .slice ha hl hc] 68)) wr) := hb
    clear hu hb
    obtain ⟨p0, p1, m0, m1, m2, m3, m4, m5, m6, m7⟩ := KC.out wr HB.out
    by_cases hlt : k < dl
    · obtain ⟨cb, co, i0, i1, i2, rfl, ei, c0, c1, c2⟩ := insOf HX.out k hlt
      obtain ⟨sb, so, y0, us, vs, la, ll, lc, ka, kl, kc, rfl, ey, s0, s1, s2, I1, I2⟩ := shpOf HY.out k hlt
      have J1 : Hid (IntsAt G w la ll us) := I1
      have J2 : Hid (IntsAt G w ka kl vs) := I2
      have HE : Hid (codB L M lo X Y dl k = (insB L M lo dl (i0, i1, i2) && shB L lo (y0, us, vs))) := by show _ = _; rw [codB, ei, ey]
      have hltI : (k : Int) < (dl : Int) := by omega
      have KS : Hid (∀ x : World, Below (w.heap.size + 1 + 1) ((w.alloc (.cells #[.slice ca cn cc, .slice ma mn mc] 38)).alloc (.cells #[.int .i64 c, .int .i64 s, .slice aa al ac, .int .i64 o, .int .i64 lo, .slice (some ⟨cb, co, none⟩) dl dc, .slice (some ⟨sb, so, none⟩) dl sc, .slice ha hl hc] 68)) x → x.cell? ⟨w.heap.size, 0, none⟩ = some (.slice ca cn cc) ∧ x.cell? ⟨w.heap.size, 1, none⟩ = some (.slice ma mn mc) ∧ x.cell? ⟨w.heap.size + 1, 0, none⟩ = some (.int .i64 c) ∧ x.cell? ⟨w.heap.size + 1, 1, none⟩ = some (.int .i64 s) ∧ x.cell? ⟨w.heap.size + 1, 2, none⟩ = some (.slice aa al ac) ∧ x.cell? ⟨w.heap.size + 1, 3, none⟩ = some (.int .i64 o) ∧ x.cell? ⟨w.heap.size + 1, 4, none⟩ = some (.int .i64 lo) ∧ x.cell? ⟨w.heap.size + 1, 5, none⟩ = some (.slice (some ⟨cb, co, none⟩) dl dc) ∧ x.cell? ⟨w.heap.size + 1, 6, none⟩ = some (.slice (some ⟨sb, so, none⟩) dl sc) ∧ x.cell? ⟨w.heap.size + 1, 7, none⟩ = some (.slice ha hl hc) ∧ x.cell? ⟨cb, co + k * 3, none⟩ = some (.int .i64 i0) ∧ x.cell? ⟨cb, co + k * 3 + 1, none⟩ = some (.int .i64 i1) ∧ x.cell? ⟨cb, co + k * 3 + 2, none⟩ = some (.int .i64 i2) ∧ x.cell? ⟨sb, so + k * 3, none⟩ = some (.bool y0) ∧ x.cell? ⟨sb, so + k * 3 + 1, none⟩ = some (.slice la ll lc) ∧ x.cell? ⟨sb, so + k * 3 + 2, none⟩ = some (.slice ka kl kc)) := fun x hb =>
        ⟨later2 hb (two_first rfl), later2 hb (two_first rfl), later2 hb (two_second rfl), later2 hb (two_second rfl), later2 hb (two_second rfl), later2 hb (two_second rfl), later2 hb (two_second rfl), later2 hb (two_second rfl), later2 hb (two_second rfl), later2 hb (two_second rfl), later2 hb (two_elder c0), later2 hb (two_elder c1), later2 hb (two_elder c2), later2 hb (two_elder s0), later2 hb (two_elder s1), later2 hb (two_elder s2)⟩
      clear ei ey I1 I2 p0 p1 m0 m1 m2 m3 m4 m5 m6 m7
      obtain ⟨p0, p1, m0, m1, m2, m3, m4, m5, m6, m7, _⟩ := KS.out wr HB.out
      clear c0 c1 c2 s0 s1 s2
      cases hI : insB L M lo dl (i0, i1, i2)
      · have HN : Hid ((List.range dl).all (codB L M lo X Y dl) = false) := range_false hlt (by rw [HE.out, hI]; rfl)
        go_wp2_with fail
        refine wp_region_held_drew (S := fun x => x.cell? ⟨w.heap.size, 0, none⟩ = some (.slice ca cn cc) ∧ x.cell? ⟨w.heap.size, 1, none⟩ = some (.slice ma mn mc) ∧ x.cell? ⟨w.heap.size + 1, 0, none⟩ = some (.int .i64 c) ∧ x.cell? ⟨w.heap.size + 1, 1, none⟩ = some (.int .i64 s) ∧ x.cell? ⟨w.heap.size + 1, 2, none⟩ = some (.slice aa al ac) ∧ x.cell? ⟨w.heap.size + 1, 3, none⟩ = some (.int .i64 o) ∧ x.cell? ⟨w.heap.size + 1, 4, none⟩ = some (.int .i64 lo) ∧ x.cell? ⟨w.heap.size + 1, 5, none⟩ = some (.slice (some ⟨cb, co, none⟩) dl dc) ∧ x.cell? ⟨w.heap.size + 1, 6, none⟩ = some (.slice (some ⟨sb, so, none⟩) dl sc) ∧ x.cell? ⟨w.heap.size + 1, 7, none⟩ = some (.slice ha hl hc) ∧ x.cell? ⟨cb, co + k * 3, none⟩ = some (.int .i64 i0) ∧ x.cell? ⟨cb, co + k * 3 + 1, none⟩ = some (.int .i64 i1) ∧ x.cell? ⟨cb, co + k * 3 + 2, none⟩ = some (.int .i64 i2) ∧ x.cell? ⟨sb, so + k * 3, none⟩ = some (.bool y0) ∧ x.cell? ⟨sb, so + k * 3 + 1, none⟩ = some (.slice la ll lc) ∧ x.cell? ⟨sb, so + k * 3 + 2, none⟩ = some (.slice ka kl kc)) (by kernel_rfl) ?_ (fun hHeld => ?_)
        · exact KS.out _ (below_drewN HB.out 1)
        refine wpAnyH_take (i := 0) (v := .agg #[.slice ca cn cc, .slice ma mn mc]) rfl (by kernel_rfl) (by kernel_rfl) (by kernel_rfl) (fun _ _ _ h => h) (Or.inl ⟨by kernel_rfl, by (intro x hSx; (try dsimp only at hSx); go_simp)⟩) (by assumption) ?_
        try simp only [Act.put, List.getElem_toArray, List.getElem_cons_zero, List.setIfInBounds_toArray, List.set_cons_zero, List.set_cons_succ]
        refine wpAnyH_take (i := 1) (v := .agg #[.int .i64 c, .int .i64 s, .slice aa al ac, .int .i64 o, .int .i64 lo, .slice (some ⟨cb, co, none⟩) dl dc, .slice (some ⟨sb, so, none⟩) dl sc, .slice ha hl hc]) rfl (by kernel_rfl) (by kernel_rfl) (by kernel_rfl) (fun _ _ _ h => h) (Or.inl ⟨by kernel_rfl, by (intro x hSx; (try dsimp only at hSx); go_simp)⟩) (by assumption) ?_
        try simp only [Act.put, List.getElem_toArray, List.getElem_cons_zero, List.getElem_cons_succ, List.setIfInBounds_toArray, List.set_cons_zero, List.set_cons_succ]
        refine wpAnyH_take (i := 2) (v := .pointer (some ⟨w.heap.size + 1, 5, none⟩)) rfl (by kernel_rfl) (by kernel_rfl) (by kernel_rfl) (fun _ _ _ h => h) (Or.inl ⟨by kernel_rfl, by (intro x hSx; (try dsimp only at hSx); go_simp)⟩) (by assumption) ?_
        try simp only [Act.put, List.getElem_toArray, List.getElem_cons_zero, List.getElem_cons_succ, List.setIfInBounds_toArray, List.set_cons_zero, List.set_cons_succ]
        refine wpAnyH_take (i := 3) (v := .slice (some ⟨cb, co, none⟩) dl dc) rfl (by kernel_rfl) (by kernel_rfl) (by kernel_rfl) (fun _ _ _ h => h) (Or.inl ⟨by kernel_rfl, by (intro x hSx; (try dsimp only at hSx); go_simp)⟩) (by assumption) ?_
        try simp only [Act.put, List.getElem_toArray, List.getElem_cons_zero, List.getElem_cons_succ, List.setIfInBounds_toArray, List.set_cons_zero, List.set_cons_succ]
        refine wpAnyH_take (i := 4) (v := .int .i64 k) rfl (by kernel_rfl) (by kernel_rfl) (by kernel_rfl) (fun _ _ _ h => h) (Or.inl ⟨by kernel_rfl, by (intro x hSx; (try dsimp only at hSx); go_simp)⟩) (by assumption) ?_
        try simp only [Act.put, List.getElem_toArray, List.getElem_cons_zero, List.getElem_cons_succ, List.setIfInBounds_toArray, List.set_cons_zero, List.set_cons_succ]
        refine wpAnyH_take (i := 5) (v := .pointer (some ⟨cb, co + k * 3, none⟩)) rfl (by kernel_rfl) (by kernel_rfl) (by kernel_rfl) (fun _ _ _ h => h) (Or.inl ⟨by kernel_rfl, by (intro x hSx; (try dsimp only at hSx); go_simp)⟩) (by assumption) ?_
        try simp only [Act.put, List.getElem_toArray, List.getElem_cons_zero, List.getElem_cons_succ, List.setIfInBounds_toArray, List.set_cons_zero, List.set_cons_succ]
        refine wpAnyH_take (i := 6) (v := .agg #[.int .i64 i0, .int .i64 i1, .int .i64 i2]) rfl (by kernel_rfl) (by kernel_rfl) (by kernel_rfl) (fun _ _ _ h => h) (Or.inl ⟨by kernel_rfl, by (intro x hSx; (try dsimp only at hSx); go_simp)⟩) (by assumption) ?_
        try simp only [Act.put, List.getElem_toArray, List.getElem_cons_zero, List.getElem_cons_succ, List.setIfInBounds_toArray, List.set_cons_zero, List.set_cons_succ]
        refine wpAnyH_ready (rs := [7]) (by kernel_rfl) (by simp) ?_
        refine AllReadyH.cons rfl (fun K hK => ?_) AllReadyH.nil
        go_simp
        go_at_call 106
        refine (insSpec _ _ _ _ _ _ _ _ _ _ _ _ _ _ _ _ _ _ _ _ _ _ _ _ _ L M _ (H.out.later (below2 (below_drewN HB.out 1))) OK.out (HM.out.later (below2 (below_drewN HB.out 1))) lo0 lo3 (by omega)).mono ?_
        rintro e w2 ⟨rfl, hb2⟩
        rw [hI]
        have D1 : Hid (Below (w.heap.size + 1 + 1) ((w.alloc (.cells #[.slice ca cn cc, .slice ma mn mc] 38)).alloc (.cells #[.int .i64 c, .int .i64 s, .slice aa al ac, .int .i64 o, .int .i64 lo, .slice (some ⟨cb, co, none⟩) dl dc, .slice (some ⟨sb, so, none⟩) dl sc, .slice ha hl hc] 68)) w2) := (below_drewN HB.out 1).trans (hb2.mono (by have := HB.out.size; simpa using this))
        clear hb2
        go_wp2_with fail
        refine hK.out _ _ (KS.out _ D1.out) (fun hHeld2 => ?_)
        clear hK K
        try simp only [Act.put, List.setIfInBounds_toArray, List.set_cons_zero, List.set_cons_succ]
        refine wpAnyH_take (i := 8) (v := .bool true) rfl (by kernel_rfl) (by kernel_rfl) (by kernel_rfl) (fun _ _ _ h => h) (Or.inl ⟨by kernel_rfl, by (intro x hSx; (try dsimp only at hSx); go_simp)⟩) (by assumption) ?_
        try simp only [Act.put, List.getElem_toArray, List.getElem_cons_zero, List.getElem_cons_succ, List.setIfInBounds_toArray, List.set_cons_zero, List.set_cons_succ]
        refine wpAnyH_take (i := 9) (v := .bool true) rfl (by kernel_rfl) (by kernel_rfl) (by kernel_rfl) (fun _ _ _ h => h) (Or.inl ⟨by kernel_rfl, by (intro x hSx; (try dsimp only at hSx); go_simp)⟩) (by assumption) ?_
        try simp only [Act.put, List.getElem_toArray, List.getElem_cons_zero, List.getElem_cons_succ, List.setIfInBounds_toArray, List.set_cons_zero, List.set_cons_succ]
        refine wpAnyH_take (i := 10) (v := undef) rfl (by kernel_rfl) (by kernel_rfl) (by kernel_rfl) (fun _ _ _ h => h) (Or.inr ⟨by kernel_rfl, rfl⟩) (by assumption) ?_
        try simp only [Act.put, List.getElem_toArray, List.getElem_cons_zero, List.getElem_cons_succ, List.setIfInBounds_toArray, List.set_cons_zero, List.set_cons_succ]
        refine wpAnyH_take (i := 11) (v := undef) rfl (by kernel_rfl) (by kernel_rfl) (by kernel_rfl) (fun _ _ _ h => h) (Or.inr ⟨by kernel_rfl, rfl⟩) (by assumption) ?_
        try simp only [Act.put, List.getElem_toArray, List.getElem_cons_zero, List.getElem_cons_succ, List.setIfInBounds_toArray, List.set_cons_zero, List.set_cons_succ]
        refine wpAnyH_take (i := 12) (v := undef) rfl (by kernel_rfl) (by kernel_rfl) (by kernel_rfl) (fun _ _ _ h => h) (Or.inr ⟨by kernel_rfl, rfl⟩) (by assumption) ?_
        try simp only [Act.put, List.getElem_toArray, List.getElem_cons_zero, List.getElem_cons_succ, List.setIfInBounds_toArray, List.set_cons_zero, List.set_cons_succ]
        refine wpAnyH_take (i := 13) (v := undef) rfl (by kernel_rfl) (by kernel_rfl) (by kernel_rfl) (fun _ _ _ h => h) (Or.inr ⟨by kernel_rfl, rfl⟩) (by assumption) ?_
        try simp only [Act.put, List.getElem_toArray, List.getElem_cons_zero, List.getElem_cons_succ, List.setIfInBounds_toArray, List.set_cons_zero, List.set_cons_succ]
        refine wpAnyH_take (i := 14) (v := undef) rfl (by kernel_rfl) (by kernel_rfl) (by kernel_rfl) (fun _ _ _ h => h) (Or.inr ⟨by kernel_rfl, rfl⟩) (by assumption) ?_
        try simp only [Act.put, List.getElem_toArray, List.getElem_cons_zero, List.getElem_cons_succ, List.setIfInBounds_toArray, List.set_cons_zero, List.set_cons_succ]
        refine wpAnyH_take (i := 15) (v := undef) rfl (by kernel_rfl) (by kernel_rfl) (by kernel_rfl) (fun _ _ _ h => h) (Or.inr ⟨by kernel_rfl, rfl⟩) (by assumption) ?_
        try simp only [Act.put, List.getElem_toArray, List.getElem_cons_zero, List.getElem_cons_succ, List.setIfInBounds_toArray, List.set_cons_zero, List.set_cons_succ]
        refine wpAnyH_take (i := 16) (v := undef) rfl (by kernel_rfl) (by kernel_rfl) (by kernel_rfl) (fun _ _ _ h => h) (Or.inr ⟨by kernel_rfl, rfl⟩) (by assumption) ?_
        try simp only [Act.put, List.getElem_toArray, List.getElem_cons_zero, List.getElem_cons_succ, List.setIfInBounds_toArray, List.set_cons_zero, List.set_cons_succ]
        refine wpAnyH_take (i := 17) (v := undef) rfl (by kernel_rfl) (by kernel_rfl) (by kernel_rfl) (fun _ _ _ h => h) (Or.inr ⟨by kernel_rfl, rfl⟩) (by assumption) ?_
        try simp only [Act.put, List.getElem_toArray, List.getElem_cons_zero, List.getElem_cons_succ, List.setIfInBounds_toArray, List.set_cons_zero, List.set_cons_succ]
        refine wpAnyH_take (i := 18) (v := undef) rfl (by kernel_rfl) (by kernel_rfl) (by kernel_rfl) (fun _ _ _ h => h) (Or.inr ⟨by kernel_rfl, rfl⟩) (by assumption) ?_
        try simp only [Act.put, List.getElem_toArray, List.getElem_cons_zero, List.getElem_cons_succ, List.setIfInBounds_toArray, List.set_cons_zero, List.set_cons_succ]
        refine wpAnyH_take (i := 19) (v := undef) rfl (by kernel_rfl) (by kernel_rfl) (by kernel_rfl) (fun _ _ _ h => h) (Or.inr ⟨by kernel_rfl, rfl⟩) (by assumption) ?_
        try simp only [Act.put, List.getElem_toArray, List.getElem_cons_zero, List.getElem_cons_succ, List.setIfInBounds_toArray, List.set_cons_zero, List.set_cons_succ]
        refine wpAnyH_take (i := 20) (v := undef) rfl (by kernel_rfl) (by kernel_rfl) (by kernel_rfl) (fun _ _ _ h => h) (Or.inr ⟨by kernel_rfl, rfl⟩) (by assumption) ?_
        try simp only [Act.put, List.getElem_toArray, List.getElem_cons_zero, List.getElem_cons_succ, List.setIfInBounds_toArray, List.set_cons_zero, List.set_cons_succ]
        refine wpAnyH_take (i := 21) (v := .bool true) rfl (by kernel_rfl) (by kernel_rfl) (by kernel_rfl) (fun _ _ _ h => h) (Or.inl ⟨by kernel_rfl, by (intro x hSx; (try dsimp only at hSx); go_simp)⟩) (by assumption) ?_
        try simp only [Act.put, List.getElem_toArray, List.getElem_cons_zero, List.getElem_cons_succ, List.setIfInBounds_toArray, List.set_cons_zero, List.set_cons_succ]
        refine wpAnyH_done (by kernel_rfl) ?_ _
        clear hHeld hHeld2
        all_goals
          go_wp2_with fail
          go_ret
          exact ⟨by rw [HG.out, HN.out]; rfl, below2 D1.out⟩
      · cases hS : shB L lo (y0, us, vs)
        · have HN : Hid ((List.range dl).all (codB L M lo X Y dl) = false) := range_false hlt (by rw [HE.out, hI, hS]; rfl)
          go_wp2_with fail
          go_region_held3 (fun x => x.cell? ⟨w.heap.size, 0, none⟩ = some (.slice ca cn cc) ∧ x.cell? ⟨w.heap.size, 1, none⟩ = some (.slice ma mn mc) ∧ x.cell? ⟨w.heap.size + 1, 0, none⟩ = some (.int .i64 c) ∧ x.cell? ⟨w.heap.size + 1, 1, none⟩ = some (.int .i64 s) ∧ x.cell? ⟨w.heap.size + 1, 2, none⟩ = some (.slice aa al ac) ∧ x.cell? ⟨w.heap.size + 1, 3, none⟩ = some (.int .i64 o) ∧ x.cell? ⟨w.heap.size + 1, 4, none⟩ = some (.int .i64 lo) ∧ x.cell? ⟨w.heap.size + 1, 5, none⟩ = some (.slice (some ⟨cb, co, none⟩) dl dc) ∧ x.cell? ⟨w.heap.size + 1, 6, none⟩ = some (.slice (some ⟨sb, so, none⟩) dl sc) ∧ x.cell? ⟨w.heap.size + 1, 7, none⟩ = some (.slice ha hl hc) ∧ x.cell? ⟨cb, co + k * 3, none⟩ = some (.int .i64 i0) ∧ x.cell? ⟨cb, co + k * 3 + 1, none⟩ = some (.int .i64 i1) ∧ x.cell? ⟨cb, co + k * 3 + 2, none⟩ = some (.int .i64 i2) ∧ x.cell? ⟨sb, so + k * 3, none⟩ = some (.bool y0) ∧ x.cell? ⟨sb, so + k * 3 + 1, none⟩ = some (.slice la ll lc) ∧ x.cell? ⟨sb, so + k * 3 + 2, none⟩ = some (.slice ka kl kc)) ((first | exact KS.out _ (below_drewN HB.out 1) | exact KS.out _ D1.out | exact KS.out _ D2.out)) (first | (go_at_call 106; refine (insSpec _ _ _ _ _ _ _ _ _ _ _ _ _ _ _ _ _ _ _ _ _ _ _ _ _ L M _ (H.out.later (below2 (below_drewN HB.out 1))) OK.out (HM.out.later (below2 (below_drewN HB.out 1))) lo0 lo3 (by omega)).mono ?_; rintro e w2 ⟨rfl, hb2⟩; rw [hI]; have D1 : Hid (Below (w.heap.size + 1 + 1) ((w.alloc (.cells #[.slice ca cn cc, .slice ma mn mc] 38)).alloc (.cells #[.int .i64 c, .int .i64 s, .slice aa al ac, .int .i64 o, .int .i64 lo, .slice (some ⟨cb, co, none⟩) dl dc, .slice (some ⟨sb, so, none⟩) dl sc, .slice ha hl hc] 68)) w2) := (below_drewN HB.out 1).trans (hb2.mono (by have := HB.out.size; simpa using this)); clear hb2) | (go_at_call 107; refine (shapeOkSpec _ _ _ _ _ _ _ _ _ _ L (y0, us, vs) _ (H.out.later (below2 D1.out)) (J1.out.later (below2 D1.out)) (J2.out.later (below2 D1.out))).mono ?_; rintro e w3 ⟨rfl, hb3⟩; rw [hS]; have D2 : Hid (Below (w.heap.size + 1 + 1) ((w.alloc (.cells #[.slice ca cn cc, .slice ma mn mc] 38)).alloc (.cells #[.int .i64 c, .int .i64 s, .slice aa al ac, .int .i64 o, .int .i64 lo, .slice (some ⟨cb, co, none⟩) dl dc, .slice (some ⟨sb, so, none⟩) dl sc, .slice ha hl hc] 68)) w3) := D1.out.trans (hb3.mono (by have := D1.out.size; simpa using this)); clear hb3))
          all_goals
            go_wp2_with fail
            go_ret
            exact ⟨by rw [HG.out, HN.out]; rfl, below2 D2.out⟩
        · go_wp2_with fail
          go_region_held3 (fun x => x.cell? ⟨w.heap.size, 0, none⟩ = some (.slice ca cn cc) ∧ x.cell? ⟨w.heap.size, 1, none⟩ = some (.slice ma mn mc) ∧ x.cell? ⟨w.heap.size + 1, 0, none⟩ = some (.int .i64 c) ∧ x.cell? ⟨w.heap.size + 1, 1, none⟩ = some (.int .i64 s) ∧ x.cell? ⟨w.heap.size + 1, 2, none⟩ = some (.slice aa al ac) ∧ x.cell? ⟨w.heap.size + 1, 3, none⟩ = some (.int .i64 o) ∧ x.cell? ⟨w.heap.size + 1, 4, none⟩ = some (.int .i64 lo) ∧ x.cell? ⟨w.heap.size + 1, 5, none⟩ = some (.slice (some ⟨cb, co, none⟩) dl dc) ∧ x.cell? ⟨w.heap.size + 1, 6, none⟩ = some (.slice (some ⟨sb, so, none⟩) dl sc) ∧ x.cell? ⟨w.heap.size + 1, 7, none⟩ = some (.slice ha hl hc) ∧ x.cell? ⟨cb, co + k * 3, none⟩ = some (.int .i64 i0) ∧ x.cell? ⟨cb, co + k * 3 + 1, none⟩ = some (.int .i64 i1) ∧ x.cell? ⟨cb, co + k * 3 + 2, none⟩ = some (.int .i64 i2) ∧ x.cell? ⟨sb, so + k * 3, none⟩ = some (.bool y0) ∧ x.cell? ⟨sb, so + k * 3 + 1, none⟩ = some (.slice la ll lc) ∧ x.cell? ⟨sb, so + k * 3 + 2, none⟩ = some (.slice ka kl kc)) ((first | exact KS.out _ (below_drewN HB.out 1) | exact KS.out _ D1.out | exact KS.out _ D2.out)) (first | (go_at_call 106; refine (insSpec _ _ _ _ _ _ _ _ _ _ _ _ _ _ _ _ _ _ _ _ _ _ _ _ _ L M _ (H.out.later (below2 (below_drewN HB.out 1))) OK.out (HM.out.later (below2 (below_drewN HB.out 1))) lo0 lo3 (by omega)).mono ?_; rintro e w2 ⟨rfl, hb2⟩; rw [hI]; have D1 : Hid (Below (w.heap.size + 1 + 1) ((w.alloc (.cells #[.slice ca cn cc, .slice ma mn mc] 38)).alloc (.cells #[.int .i64 c, .int .i64 s, .slice aa al ac, .int .i64 o, .int .i64 lo, .slice (some ⟨cb, co, none⟩) dl dc, .slice (some ⟨sb, so, none⟩) dl sc, .slice ha hl hc] 68)) w2) := (below_drewN HB.out 1).trans (hb2.mono (by have := HB.out.size; simpa using this)); clear hb2) | (go_at_call 107; refine (shapeOkSpec _ _ _ _ _ _ _ _ _ _ L (y0, us, vs) _ (H.out.later (below2 D1.out)) (J1.out.later (below2 D1.out)) (J2.out.later (below2 D1.out))).mono ?_; rintro e w3 ⟨rfl, hb3⟩; rw [hS]; have D2 : Hid (Below (w.heap.size + 1 + 1) ((w.alloc (.cells #[.slice ca cn cc, .slice ma mn mc] 38)).alloc (.cells #[.int .i64 c, .int .i64 s, .slice aa al ac, .int .i64 o, .int .i64 lo, .slice (some ⟨cb, co, none⟩) dl dc, .slice (some ⟨sb, so, none⟩) dl sc, .slice ha hl hc] 68)) w3) := D1.out.trans (hb3.mono (by have := D1.out.size; simpa using this)); clear hb3))
          all_goals
            go_wp2_with fail
            exact ⟨⟨k + 1, by omega, by go_num, by rw [range_more, HU.out, HE.out, hI, hS]; rfl, D2.out⟩, by simp [intOf]; omega⟩
    · have ek : k = dl := by omega
      subst ek
      have HJ : Hid (methB L M (c, s, args, o, lo, X, Y, Z) = (List.range hl).all (fun i => catB L k (cat Z i))) := by show _ = _; rw [HG.out, HU.out]; rfl
      clear HU HG hlt hk
      go_wp2_with fail
      clear p0 p1 m0 m1 m2 m3 m4 m5 m6 m7
      go_loopw [6] (fun t wr => ∃ j : Nat, j ≤ hl ∧ t = .int .i64 j ∧ (List.range j).all (fun i => catB L k (cat Z i)) = true ∧ Below (w.heap.size + 1 + 1) ((w.alloc (.cells #[.slice ca cn cc, .slice ma mn mc] 38)).alloc (.cells #[.int .i64 c, .int .i64 s, .slice aa al ac, .int .i64 o, .int .i64 lo, .slice da k dc, .slice sa k sc, .slice ha hl hc] 68)) wr) (fun t _ => hl - (intOf t).toNat)
      case atStart => exact ⟨0, Nat.zero_le _, rfl, rfl, HB.out⟩
      case round =>
        clear HB
        obtain ⟨j, hj, rfl, hu, hb⟩ := hrel
        have HU : Hid ((List.range j).all (fun i => catB L k (cat Z i)) = true) := hu
        have HB : Hid (Below (w.heap.size + 1 + 1) ((w.alloc (.cells #[.slice ca cn cc, .slice ma mn mc] 38)).alloc (.cells #[.int .i64 c, .int .i64 s, .slice aa al ac, .int .i64 o, .int .i64 lo, .slice da k dc, .slice sa k sc, .slice ha hl hc] 68)) wr) := hb
        clear hu hb
        obtain ⟨p0, p1, m0, m1, m2, m3, m4, m5, m6, m7⟩ := KC.out wr HB.out
        by_cases hlt : j < hl
        · obtain ⟨hb, ho, i0, i1, i2, i3, rfl, ei, c0, c1, c2, c3⟩ := catOf HZ.out j hlt
          have HE : Hid (catB L k (cat Z j) = catB L k (i0, i1, i2, i3)) := by show _ = _; rw [ei]
          have hltI : (j : Int) < (hl : Int) := by omega
          have KS : Hid (∀ x : World, Below (w.heap.size + 1 + 1) ((w.alloc (.cells #[.slice ca cn cc, .slice ma mn mc] 38)).alloc (.cells #[.int .i64 c, .int .i64 s, .slice aa al ac, .int .i64 o, .int .i64 lo, .slice da k dc, .slice sa k sc, .slice (some ⟨hb, ho, none⟩) hl hc] 68)) x → x.cell? ⟨w.heap.size, 0, none⟩ = some (.slice ca cn cc) ∧ x.cell? ⟨w.heap.size, 1, none⟩ = some (.slice ma mn mc) ∧ x.cell? ⟨w.heap.size + 1, 0, none⟩ = some (.int .i64 c) ∧ x.cell? ⟨w.heap.size + 1, 1, none⟩ = some (.int .i64 s) ∧ x.cell? ⟨w.heap.size + 1, 2, none⟩ = some (.slice aa al ac) ∧ x.cell? ⟨w.heap.size + 1, 3, none⟩ = some (.int .i64 o) ∧ x.cell? ⟨w.heap.size + 1, 4, none⟩ = some (.int .i64 lo) ∧ x.cell? ⟨w.heap.size + 1, 5, none⟩ = some (.slice da k dc) ∧ x.cell? ⟨w.heap.size + 1, 6, none⟩ = some (.slice sa k sc) ∧ x.cell? ⟨w.heap.size + 1, 7, none⟩ = some (.slice (some ⟨hb, ho, none⟩) hl hc) ∧ x.cell? ⟨hb, ho + j * 4, none⟩ = some (.int .i64 i0) ∧ x.cell? ⟨hb, ho + j * 4 + 1, none⟩ = some (.int .i64 i1) ∧ x.cell? ⟨hb, ho + j * 4 + 2, none⟩ = some (.int .i64 i2) ∧ x.cell? ⟨hb, ho + j * 4 + 3, none⟩ = some (.int .i64 i3)) := fun x hb =>
            ⟨later2 hb (two_first rfl), later2 hb (two_first rfl), later2 hb (two_second rfl), later2 hb (two_second rfl), later2 hb (two_second rfl), later2 hb (two_second rfl), later2 hb (two_second rfl), later2 hb (two_second rfl), later2 hb (two_second rfl), later2 hb (two_second rfl), later2 hb (two_elder c0), later2 hb (two_elder c1), later2 hb (two_elder c2), later2 hb (two_elder c3)⟩
          clear ei p0 p1 m0 m1 m2 m3 m4 m5 m6 m7
          obtain ⟨p0, p1, m0, m1, m2, m3, m4, m5, m6, m7, _⟩ := KS.out wr HB.out
          clear c0 c1 c2 c3
          cases hI : catB L k (i0, i1, i2, i3)
          · have HN : Hid ((List.range hl).all (fun i => catB L k (cat Z i)) = false) := range_false hlt (by rw [HE.out, hI])
            go_wp2_with fail
            go_region_held3 (fun x => x.cell? ⟨w.heap.size, 0, none⟩ = some (.slice ca cn cc) ∧ x.cell? ⟨w.heap.size, 1, none⟩ = some (.slice ma mn mc) ∧ x.cell? ⟨w.heap.size + 1, 0, none⟩ = some (.int .i64 c) ∧ x.cell? ⟨w.heap.size + 1, 1, none⟩ = some (.int .i64 s) ∧ x.cell? ⟨w.heap.size + 1, 2, none⟩ = some (.slice aa al ac) ∧ x.cell? ⟨w.heap.size + 1, 3, none⟩ = some (.int .i64 o) ∧ x.cell? ⟨w.heap.size + 1, 4, none⟩ = some (.int .i64 lo) ∧ x.cell? ⟨w.heap.size + 1, 5, none⟩ = some (.slice da k dc) ∧ x.cell? ⟨w.heap.size + 1, 6, none⟩ = some (.slice sa k sc) ∧ x.cell? ⟨w.heap.size + 1, 7, none⟩ = some (.slice (some ⟨hb, ho, none⟩) hl hc) ∧ x.cell? ⟨hb, ho + j * 4, none⟩ = some (.int .i64 i0) ∧ x.cell? ⟨hb, ho + j * 4 + 1, none⟩ = some (.int .i64 i1) ∧ x.cell? ⟨hb, ho + j * 4 + 2, none⟩ = some (.int .i64 i2) ∧ x.cell? ⟨hb, ho + j * 4 + 3, none⟩ = some (.int .i64 i3)) (first | exact KS.out _ (below_drewN HB.out 1) | exact KS.out _ D1.out) (((go_at_call 108; refine (catSpec _ _ _ _ _ _ _ _ _ _ _ _ _ _ _ _ _ _ _ _ _ _ _ _ _ _ L _ (H.out.later (below2 (below_drewN HB.out 1))) OK.out (by omega)).mono ?_; rintro e w2 ⟨rfl, hb2⟩; rw [hI]; have D1 : Hid (Below (w.heap.size + 1 + 1) ((w.alloc (.cells #[.slice ca cn cc, .slice ma mn mc] 38)).alloc (.cells #[.int .i64 c, .int .i64 s, .slice aa al ac, .int .i64 o, .int .i64 lo, .slice da k dc, .slice sa k sc, .slice (some ⟨hb, ho, none⟩) hl hc] 68)) w2) := (below_drewN HB.out 1).trans (hb2.mono (by have := HB.out.size; simpa using this)); clear hb2)))
            all_goals
              go_wp2_with fail
              go_ret
              exact ⟨by rw [HJ.out, HN.out]; rfl, below2 D1.out⟩
          · go_wp2_with fail
            go_region_held3 (fun x => x.cell? ⟨w.heap.size, 0, none⟩ = some (.slice ca cn cc) ∧ x.cell? ⟨w.heap.size, 1, none⟩ = some (.slice ma mn mc) ∧ x.cell? ⟨w.heap.size + 1, 0, none⟩ = some (.int .i64 c) ∧ x.cell? ⟨w.heap.size + 1, 1, none⟩ = some (.int .i64 s) ∧ x.cell? ⟨w.heap.size + 1, 2, none⟩ = some (.slice aa al ac) ∧ x.cell? ⟨w.heap.size + 1, 3, none⟩ = some (.int .i64 o) ∧ x.cell? ⟨w.heap.size + 1, 4, none⟩ = some (.int .i64 lo) ∧ x.cell? ⟨w.heap.size + 1, 5, none⟩ = some (.slice da k dc) ∧ x.cell? ⟨w.heap.size + 1, 6, none⟩ = some (.slice sa k sc) ∧ x.cell? ⟨w.heap.size + 1, 7, none⟩ = some (.slice (some ⟨hb, ho, none⟩) hl hc) ∧ x.cell? ⟨hb, ho + j * 4, none⟩ = some (.int .i64 i0) ∧ x.cell? ⟨hb, ho + j * 4 + 1, none⟩ = some (.int .i64 i1) ∧ x.cell? ⟨hb, ho + j * 4 + 2, none⟩ = some (.int .i64 i2) ∧ x.cell? ⟨hb, ho + j * 4 + 3, none⟩ = some (.int .i64 i3)) (first | exact KS.out _ (below_drewN HB.out 1) | exact KS.out _ D1.out) (((go_at_call 108; refine (catSpec _ _ _ _ _ _ _ _ _ _ _ _ _ _ _ _ _ _ _ _ _ _ _ _ _ _ L _ (H.out.later (below2 (below_drewN HB.out 1))) OK.out (by omega)).mono ?_; rintro e w2 ⟨rfl, hb2⟩; rw [hI]; have D1 : Hid (Below (w.heap.size + 1 + 1) ((w.alloc (.cells #[.slice ca cn cc, .slice ma mn mc] 38)).alloc (.cells #[.int .i64 c, .int .i64 s, .slice aa al ac, .int .i64 o, .int .i64 lo, .slice da k dc, .slice sa k sc, .slice (some ⟨hb, ho, none⟩) hl hc] 68)) w2) := (below_drewN HB.out 1).trans (hb2.mono (by have := HB.out.size; simpa using this)); clear hb2)))
            all_goals
              go_wp2_with fail
              exact ⟨⟨j + 1, by omega, by go_num, by rw [range_more, HU.out, HE.out, hI]; rfl, D1.out⟩, by simp [intOf]; omega⟩
        · have ej : j = hl := by omega
          subst ej
          go_wp2_with fail
          go_ret
          exact ⟨by rw [HJ.out, HU.out]; rfl, below2 HB.out⟩

end Go.Proofs.YthdlccadcadopaaGreat
