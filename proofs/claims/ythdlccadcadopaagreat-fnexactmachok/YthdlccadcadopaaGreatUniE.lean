/-
  A method's shapes, and what it catches: what is said of it, and that the program says so, in whatever memory; it writes nothing that was there.
-/
import Derived.Test.YthdlccadcadopaaGreatUniD
namespace Go.Proofs.YthdlccadcadopaaGreat
open Go.ChangeShapes Go.WideShapes Go.ChangeAt Go.RowKit

set_option maxRecDepth 100000 in
set_option maxHeartbeats 8000000 in
theorem shapesImpl (ca : Option Addr) (cn cc : Nat) (ma : Option Addr) (mn mc : Nat) (q : Nat) (c s o lo : Int) (aa : Option Addr) (al ac : Nat) (da : Option Addr) (dl dc : Nat) (sa : Option Addr) (sl sc : Nat) (ha : Option Addr) (hl hc : Nat) (Y : List Sh) (w : World) {G : Nat → Prop} (hcn : cn ≤ 9223372036854775807) (_hdl : dl ≤ 9223372036854775807) (hY : SlAt shR G w sa sl Y) :
    Calls Tryz.prog 147 #[.agg #[.slice ca cn cc, .slice ma mn mc, .map (some q)], .agg #[.int .i64 c, .int .i64 s, .slice aa al ac, .int .i64 o, .int .i64 lo, .slice da dl dc, .slice sa sl sc, .slice ha hl hc]] w fun e w' => e = .returned (.bool (decide (sl = dl) && (List.range sl).all (fun i => shK cn lo (shp Y i)))) ∧ Below w.heap.size w w' := by
  have HY : Hid (SlAt shR G w sa sl Y) := hY
  have yr := hY.room
  have KC : Hid (∀ x : World, Below (w.heap.size + 1 + 1) ((w.alloc (.cells #[.slice ca cn cc, .slice ma mn mc, .map (some q)] 116)).alloc (.cells #[.int .i64 c, .int .i64 s, .slice aa al ac, .int .i64 o, .int .i64 lo, .slice da dl dc, .slice sa sl sc, .slice ha hl hc] 68)) x → x.cell? ⟨w.heap.size, 0, none⟩ = some (.slice ca cn cc) ∧ x.cell? ⟨w.heap.size, 1, none⟩ = some (.slice ma mn mc) ∧ x.cell? ⟨w.heap.size, 2, none⟩ = some (.map (some q)) ∧ x.cell? ⟨w.heap.size + 1, 0, none⟩ = some (.int .i64 c) ∧ x.cell? ⟨w.heap.size + 1, 1, none⟩ = some (.int .i64 s) ∧ x.cell? ⟨w.heap.size + 1, 2, none⟩ = some (.slice aa al ac) ∧ x.cell? ⟨w.heap.size + 1, 3, none⟩ = some (.int .i64 o) ∧ x.cell? ⟨w.heap.size + 1, 4, none⟩ = some (.int .i64 lo) ∧ x.cell? ⟨w.heap.size + 1, 5, none⟩ = some (.slice da dl dc) ∧ x.cell? ⟨w.heap.size + 1, 6, none⟩ = some (.slice sa sl sc) ∧ x.cell? ⟨w.heap.size + 1, 7, none⟩ = some (.slice ha hl hc)) := fun x hb => ⟨later2 hb (two_first rfl), later2 hb (two_first rfl), later2 hb (two_first rfl), later2 hb (two_second rfl), later2 hb (two_second rfl), later2 hb (two_second rfl), later2 hb (two_second rfl), later2 hb (two_second rfl), later2 hb (two_second rfl), later2 hb (two_second rfl), later2 hb (two_second rfl)⟩
  clear hY
  by_cases h1 : sl = dl
  case neg =>
    have e1 : ((sl : Int) != (dl : Int)) = true := by simp; omega
    go_enter Tryz.func147, Tryz.ntmps147
    go_wp2_with fail
    go_ret
    exact ⟨by rw [decide_eq_false h1]; rfl, by go_grown⟩
  have e1 : ((sl : Int) != (dl : Int)) = false := by simp; omega
  have HF : Hid ((decide (sl = dl) && (List.range sl).all (fun i => shK cn lo (shp Y i))) = (List.range sl).all (fun i => shK cn lo (shp Y i))) := by show _ = _; rw [decide_eq_true h1]; rfl
  clear h1
  go_enter Tryz.func147, Tryz.ntmps147
  go_wp2_with fail
  go_loopw [17] (fun t wr => ∃ k : Nat, k ≤ sl ∧ t = .int .i64 k ∧ (List.range k).all (fun i => shK cn lo (shp Y i)) = true ∧ Below (w.heap.size + 1 + 1) ((w.alloc (.cells #[.slice ca cn cc, .slice ma mn mc, .map (some q)] 116)).alloc (.cells #[.int .i64 c, .int .i64 s, .slice aa al ac, .int .i64 o, .int .i64 lo, .slice da dl dc, .slice sa sl sc, .slice ha hl hc] 68)) wr) (fun t _ => sl - (intOf t).toNat)
  case atStart => exact ⟨0, Nat.zero_le _, rfl, rfl, Below.refl _ _⟩
  case round =>
    obtain ⟨k, hk, rfl, hu, hb⟩ := hrel
    have HU : Hid ((List.range k).all (fun i => shK cn lo (shp Y i)) = true) := hu
    have HB : Hid (Below (w.heap.size + 1 + 1) ((w.alloc (.cells #[.slice ca cn cc, .slice ma mn mc, .map (some q)] 116)).alloc (.cells #[.int .i64 c, .int .i64 s, .slice aa al ac, .int .i64 o, .int .i64 lo, .slice da dl dc, .slice sa sl sc, .slice ha hl hc] 68)) wr) := hb
    have hws : w.heap.size + 1 + 1 ≤ wr.heap.size := by have := hb.size; simpa using this
    clear hu hb
    by_cases hlt : k < sl
    · obtain ⟨sb, so, y0, us, vs, la, ll, lc, ka, kl, kc, rfl, ey, s0, s1, s2, I1, I2⟩ := shpOf HY.out k hlt
      have hsb := World.block_lt_of_cell? w _ s0
      simp only at hsb
      have J1 : Hid (IntsAt G w la ll us) := I1
      have J2 : Hid (IntsAt G w ka kl vs) := I2
      have HE : Hid (shK cn lo (shp Y k) = shK cn lo (y0, us, vs)) := by show _ = _; rw [ey]
      have HN : Hid (shK cn lo (shp Y k) = false → (List.range sl).all (fun i => shK cn lo (shp Y i)) = false) := fun e => range_false hlt e
      obtain ⟨p0, p1, p2, m0, m1, m2, m3, m4, m5, m6, m7⟩ := KC.out wr HB.out
      have d0 : wr.cell? ⟨sb, so + k * 3, none⟩ = some (.bool y0) := later2 HB.out (two_elder s0)
      have d1 : wr.cell? ⟨sb, so + k * 3 + 1, none⟩ = some (.slice la ll lc) := later2 HB.out (two_elder s1)
      have d2 : wr.cell? ⟨sb, so + k * 3 + 2, none⟩ = some (.slice ka kl kc) := later2 HB.out (two_elder s2)
      have hltI : (k : Int) < (sl : Int) := by omega
      have hww : w.heap.size < wr.heap.size := by omega
      have hww2 : w.heap.size + 1 < wr.heap.size := by omega
      have hcw : sb < wr.heap.size := by omega
      have B2 : Hid (Below (w.heap.size + 1 + 1) ((w.alloc (.cells #[.slice ca cn cc, .slice ma mn mc, .map (some q)] 116)).alloc (.cells #[.int .i64 c, .int .i64 s, .slice aa al ac, .int .i64 o, .int .i64 lo, .slice da dl dc, .slice (some ⟨sb, so, none⟩) sl sc, .slice ha hl hc] 68)) (wr.alloc (.cells #[.bool y0, .slice la ll lc, .slice ka kl kc] 152))) := HB.out.alloc hws _
      clear ey s0 s1 s2 I1 I2
      go_wp2_with fail
      refine (shapeKImpl _ _ _ _ _ _ _ _ _ _ (y0, us, vs) _ hcn (J1.out.later (below2 B2.out)) (J2.out.later (below2 B2.out))).mono ?_
      rintro e w2 ⟨rfl, hb2⟩
      have B3 : Hid (Below (w.heap.size + 1 + 1) ((w.alloc (.cells #[.slice ca cn cc, .slice ma mn mc, .map (some q)] 116)).alloc (.cells #[.int .i64 c, .int .i64 s, .slice aa al ac, .int .i64 o, .int .i64 lo, .slice da dl dc, .slice (some ⟨sb, so, none⟩) sl sc, .slice ha hl hc] 68)) w2) := B2.out.trans (hb2.mono (by simp; omega))
      clear hb2
      cases g2 : shK cn lo (y0, us, vs)
      · go_wp2_with fail
        go_ret
        exact ⟨by rw [HF.out, HN.out (by rw [HE.out, g2])]; rfl, below2 B3.out⟩
      · go_wp2_with fail
        exact ⟨⟨k + 1, by omega, by go_num, by rw [range_more, HU.out, HE.out, g2]; rfl, B3.out⟩, by simp [intOf]; omega⟩
    · have ek : k = sl := by omega
      subst ek
      go_wp2_with fail
      go_ret
      exact ⟨by rw [HF.out, HU.out]; rfl, below2 HB.out⟩

def catK' (L : List Cl) (dl : Nat) (x : Ca) : Bool := catK L dl x.1 x.2.1 x.2.2.1 x.2.2.2
set_option maxRecDepth 100000 in
set_option maxHeartbeats 8000000 in
theorem catchesImpl (ca : Option Addr) (cn cc : Nat) (ma : Option Addr) (mn mc : Nat) (q : Nat) (c s o lo : Int) (aa : Option Addr) (al ac : Nat) (da : Option Addr) (dl dc : Nat) (sa : Option Addr) (sl sc : Nat) (ha : Option Addr) (hl hc : Nat) (Z : List Ca) (L : List Cl) (w : World) {D E G : Nat → Prop} (h : ClsAt D E w ca cn L) (ok : clsOk L = true) (hdl : dl ≤ 9223372036854775807) (hZ : SlAt caR G w ha hl Z) :
    Calls Tryz.prog 148 #[.agg #[.slice ca cn cc, .slice ma mn mc, .map (some q)], .agg #[.int .i64 c, .int .i64 s, .slice aa al ac, .int .i64 o, .int .i64 lo, .slice da dl dc, .slice sa sl sc, .slice ha hl hc]] w fun e w' => e = .returned (.bool (decide (hl ≤ 2) && (List.range hl).all (fun i => catK' L dl (cat Z i)))) ∧ Below w.heap.size w w' := by
  have H : Hid (ClsAt D E w ca cn L) := h
  have OK : Hid (clsOk L = true) := ok
  have HZ : Hid (SlAt caR G w ha hl Z) := hZ
  have zr := hZ.room
  have KC : Hid (∀ x : World, Below (w.heap.size + 1 + 1) ((w.alloc (.cells #[.slice ca cn cc, .slice ma mn mc, .map (some q)] 116)).alloc (.cells #[.int .i64 c, .int .i64 s, .slice aa al ac, .int .i64 o, .int .i64 lo, .slice da dl dc, .slice sa sl sc, .slice ha hl hc] 68)) x → x.cell? ⟨w.heap.size, 0, none⟩ = some (.slice ca cn cc) ∧ x.cell? ⟨w.heap.size, 1, none⟩ = some (.slice ma mn mc) ∧ x.cell? ⟨w.heap.size, 2, none⟩ = some (.map (some q)) ∧ x.cell? ⟨w.heap.size + 1, 0, none⟩ = some (.int .i64 c) ∧ x.cell? ⟨w.heap.size + 1, 1, none⟩ = some (.int .i64 s) ∧ x.cell? ⟨w.heap.size + 1, 2, none⟩ = some (.slice aa al ac) ∧ x.cell? ⟨w.heap.size + 1, 3, none⟩ = some (.int .i64 o) ∧ x.cell? ⟨w.heap.size + 1, 4, none⟩ = some (.int .i64 lo) ∧ x.cell? ⟨w.heap.size + 1, 5, none⟩ = some (.slice da dl dc) ∧ x.cell? ⟨w.heap.size + 1, 6, none⟩ = some (.slice sa sl sc) ∧ x.cell? ⟨w.heap.size + 1, 7, none⟩ = some (.slice ha hl hc)) := fun x hb => ⟨later2 hb (two_first rfl), later2 hb (two_first rfl), later2 hb (two_first rfl), later2 hb (two_second rfl), later2 hb (two_second rfl), later2 hb (two_second rfl), later2 hb (two_second rfl), later2 hb (two_second rfl), later2 hb (two_second rfl), later2 hb (two_second rfl), later2 hb (two_second rfl)⟩
  clear h ok hZ
  by_cases h1 : 2 < hl
  · go_enter Tryz.func148, Tryz.ntmps148
    go_wp2_with fail
    go_ret
    exact ⟨by rw [decide_eq_false (show ¬ hl ≤ 2 by omega)]; rfl, by go_grown⟩
  have HF : Hid ((decide (hl ≤ 2) && (List.range hl).all (fun i => catK' L dl (cat Z i))) = (List.range hl).all (fun i => catK' L dl (cat Z i))) := by show _ = _; rw [decide_eq_true (show hl ≤ 2 by omega)]; rfl
  go_enter Tryz.func148, Tryz.ntmps148
  go_wp2_with fail
  go_loopw [14] (fun t wr => ∃ k : Nat, k ≤ hl ∧ t = .int .i64 k ∧ (List.range k).all (fun i => catK' L dl (cat Z i)) = true ∧ Below (w.heap.size + 1 + 1) ((w.alloc (.cells #[.slice ca cn cc, .slice ma mn mc, .map (some q)] 116)).alloc (.cells #[.int .i64 c, .int .i64 s, .slice aa al ac, .int .i64 o, .int .i64 lo, .slice da dl dc, .slice sa sl sc, .slice ha hl hc] 68)) wr) (fun t _ => hl - (intOf t).toNat)
  case atStart => exact ⟨0, Nat.zero_le _, rfl, rfl, Below.refl _ _⟩
  case round =>
    obtain ⟨k, hk, rfl, hu, hb⟩ := hrel
    have HU : Hid ((List.range k).all (fun i => catK' L dl (cat Z i)) = true) := hu
    have HB : Hid (Below (w.heap.size + 1 + 1) ((w.alloc (.cells #[.slice ca cn cc, .slice ma mn mc, .map (some q)] 116)).alloc (.cells #[.int .i64 c, .int .i64 s, .slice aa al ac, .int .i64 o, .int .i64 lo, .slice da dl dc, .slice sa sl sc, .slice ha hl hc] 68)) wr) := hb
    have hws : w.heap.size + 1 + 1 ≤ wr.heap.size := by have := hb.size; simpa using this
    clear hu hb
    by_cases hlt : k < hl
    · obtain ⟨hb, ho, i0, i1, i2, i3, rfl, ei, s0, s1, s2, s3⟩ := catOf HZ.out k hlt
      have hsb := World.block_lt_of_cell? w _ s0
      simp only at hsb
      have HE : Hid (catK' L dl (cat Z k) = catK L dl i0 i1 i2 i3) := by show _ = _; rw [ei]; rfl
      have HN : Hid (catK' L dl (cat Z k) = false → (List.range hl).all (fun i => catK' L dl (cat Z i)) = false) := fun e => range_false hlt e
      obtain ⟨p0, p1, p2, m0, m1, m2, m3, m4, m5, m6, m7⟩ := KC.out wr HB.out
      have d0 : wr.cell? ⟨hb, ho + k * 4, none⟩ = some (.int .i64 i0) := later2 HB.out (two_elder s0)
      have d1 : wr.cell? ⟨hb, ho + k * 4 + 1, none⟩ = some (.int .i64 i1) := later2 HB.out (two_elder s1)
      have d2 : wr.cell? ⟨hb, ho + k * 4 + 2, none⟩ = some (.int .i64 i2) := later2 HB.out (two_elder s2)
      have d3 : wr.cell? ⟨hb, ho + k * 4 + 3, none⟩ = some (.int .i64 i3) := later2 HB.out (two_elder s3)
      have hltI : (k : Int) < (hl : Int) := by omega
      have hww : w.heap.size < wr.heap.size := by omega
      have hww2 : w.heap.size + 1 < wr.heap.size := by omega
      have hcw : hb < wr.heap.size := by omega
      have B2 : Hid (Below (w.heap.size + 1 + 1) ((w.alloc (.cells #[.slice ca cn cc, .slice ma mn mc, .map (some q)] 116)).alloc (.cells #[.int .i64 c, .int .i64 s, .slice aa al ac, .int .i64 o, .int .i64 lo, .slice da dl dc, .slice sa sl sc, .slice (some ⟨hb, ho, none⟩) hl hc] 68)) (wr.alloc (.cells #[.int .i64 i0, .int .i64 i1, .int .i64 i2, .int .i64 i3] 155))) := HB.out.alloc hws _
      clear ei s0 s1 s2 s3
      go_wp2_with fail
      refine (catchImpl _ _ _ _ _ _ _ _ _ _ _ _ _ _ _ _ _ _ _ _ _ _ _ _ _ _ _ L _ (H.out.later (below2 B2.out)) OK.out hdl).mono ?_
      rintro e w2 ⟨rfl, hb2⟩
      have B3 : Hid (Below (w.heap.size + 1 + 1) ((w.alloc (.cells #[.slice ca cn cc, .slice ma mn mc, .map (some q)] 116)).alloc (.cells #[.int .i64 c, .int .i64 s, .slice aa al ac, .int .i64 o, .int .i64 lo, .slice da dl dc, .slice sa sl sc, .slice (some ⟨hb, ho, none⟩) hl hc] 68)) w2) := B2.out.trans (hb2.mono (by simp; omega))
      clear hb2
      cases g2 : catK L dl i0 i1 i2 i3
      · go_wp2_with fail
        go_ret
        exact ⟨by rw [HF.out, HN.out (by rw [HE.out, g2])]; rfl, below2 B3.out⟩
      · go_wp2_with fail
        exact ⟨⟨k + 1, by omega, by go_num, by rw [range_more, HU.out, HE.out, g2]; rfl, B3.out⟩, by simp [intOf]; omega⟩
    · have ek : k = hl := by omega
      subst ek
      go_wp2_with fail
      go_ret
      exact ⟨by rw [HF.out, HU.out]; rfl, below2 HB.out⟩

end Go.Proofs.YthdlccadcadopaaGreat
