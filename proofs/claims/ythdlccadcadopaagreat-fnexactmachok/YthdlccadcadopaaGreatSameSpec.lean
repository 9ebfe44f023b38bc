/-
  Whether two methods are given, and give back, the same, and whether a method is ok: what is said of it, and that the specification says so, in whatever memory; it writes nothing that was there.
-/
import Derived.Test.YthdlccadcadopaaGreatHeadSpec
namespace Go.Proofs.YthdlccadcadopaaGreat
open Go.ChangeShapes Go.WideShapes Go.ChangeAt Go.RowKit

theorem later2 {w x : World} {q r : Obj} {b j : Nat} {v : Value} (h : Below (w.heap.size + 1 + 1) ((w.alloc q).alloc r) x) (hv : ((w.alloc q).alloc r).cell? ⟨b, j, none⟩ = some v) : x.cell? ⟨b, j, none⟩ = some v := by
  have hb := World.block_lt_of_cell? _ _ hv
  simp only [World.size_alloc] at hb
  rw [h.cell (p := ⟨b, j, none⟩) hb]
  exact hv
theorem below2 {w x : World} {q r : Obj} (h : Below (w.heap.size + 1 + 1) ((w.alloc q).alloc r) x) : Below w.heap.size w x :=
  (((Below.refl w.heap.size w).alloc (Nat.le_refl _) q).alloc (by simp) r).trans (h.mono (by omega))


def samB (o p : Int) (us vs : List Int) : Bool := decide (o = p) && decide (us = vs)
set_option maxRecDepth 100000 in
set_option maxHeartbeats 8000000 in
theorem sameSpec (c s o lo : Int) (aa : Option Addr) (al ac : Nat) (da : Option Addr) (dl dc : Nat) (sa : Option Addr) (sl sc : Nat) (ha : Option Addr) (hl hc : Nat) (yc ys yo ylo : Int) (yaa : Option Addr) (yal yac : Nat) (yda : Option Addr) (ydl ydc : Nat) (ysa : Option Addr) (ysl ysc : Nat) (yha : Option Addr) (yhl yhc : Nat) (us vs : List Int) (w : World) {D E : Nat → Prop} (h : IntsAt D w aa al us) (g : IntsAt E w yaa yal vs) :
    Calls Tryz.prog 110 #[.agg #[.int .i64 c, .int .i64 s, .slice aa al ac, .int .i64 o, .int .i64 lo, .slice da dl dc, .slice sa sl sc, .slice ha hl hc], .agg #[.int .i64 yc, .int .i64 ys, .slice yaa yal yac, .int .i64 yo, .int .i64 ylo, .slice yda ydl ydc, .slice ysa ysl ysc, .slice yha yhl yhc]] w fun e w' => e = .returned (.bool (samB o yo us vs)) ∧ Below w.heap.size w w' := by
  have H : Hid (IntsAt D w aa al us) := h
  have K : Hid (IntsAt E w yaa yal vs) := g
  have HS : Hid (us.length = al) := h.size
  have KS' : Hid (vs.length = yal) := g.size
  have hal := h.room
  have hyl := g.room
  clear h g
  by_cases h1 : o = yo
  case neg =>
    have e1 : (o != yo) = true := by simp [h1]
    have HG : Hid (samB o yo us vs = false) := by show _ = _; rw [samB, decide_eq_false h1]; rfl
    go_enter Tryz.func110, Tryz.ntmps110
    go_wp2_with fail
    go_ret
    exact ⟨by rw [HG.out]; rfl, by go_grown⟩
  subst h1
  have e1 : (o != o) = false := by simp
  by_cases h2 : al = yal
  case neg =>
    have e2 : ((al : Int) != yal) = true := by simp; omega
    have HG : Hid (samB o o us vs = false) := by
      show _ = _
      rw [samB, decide_eq_false (p := us = vs) (fun e => h2 (by rw [← HS.out, ← KS'.out, e]))]; simp
    go_enter Tryz.func110, Tryz.ntmps110
    go_wp2_with fail
    go_ret
    exact ⟨by rw [HG.out]; rfl, by go_grown⟩
  subst h2
  have e2 : ((al : Int) != al) = false := by simp
  have HG : Hid (samB o o us vs = decide (us = vs)) := by show _ = _; simp [samB]
  go_enter Tryz.func110, Tryz.ntmps110
  go_wp2_with fail
  go_loopw [5] (fun t wr => ∃ k : Nat, k ≤ al ∧ t = .int .i64 k ∧ (∀ j, j < k → us.getD j 0 = vs.getD j 0) ∧ ∃ n, wr = (((w.alloc (.cells #[.int .i64 c, .int .i64 s, .slice aa al ac, .int .i64 o, .int .i64 lo, .slice da dl dc, .slice sa sl sc, .slice ha hl hc] 68)).alloc (.cells #[.int .i64 yc, .int .i64 ys, .slice yaa al yac, .int .i64 o, .int .i64 ylo, .slice yda ydl ydc, .slice ysa ysl ysc, .slice yha yhl yhc] 68))).drewN n) (fun t _ => al - (intOf t).toNat)
  case atStart => exact ⟨0, Nat.zero_le _, rfl, by omega, 0, rfl⟩
  case round =>
    obtain ⟨k, hk, rfl, hu, n, rfl⟩ := hrel
    have HU : Hid (∀ j, j < k → us.getD j 0 = vs.getD j 0) := hu
    clear hu
    by_cases hlt : k < al
    · obtain ⟨b1, o1, rfl, hc1⟩ : ∃ b off, aa = some ⟨b, off, none⟩ ∧ w.cell? ⟨b, off + k, none⟩ = some (.int .i64 (us.getD k 0)) := by
        rcases H.out.cells with h0 | ⟨b, off, ha, _, hcs⟩
        · omega
        · exact ⟨b, off, ha, hcs k hlt⟩
      obtain ⟨b2, o2, rfl, hc2⟩ : ∃ b off, yaa = some ⟨b, off, none⟩ ∧ w.cell? ⟨b, off + k, none⟩ = some (.int .i64 (vs.getD k 0)) := by
        rcases K.out.cells with h0 | ⟨b, off, ha, _, hcs⟩
        · omega
        · exact ⟨b, off, ha, hcs k hlt⟩
      obtain ⟨f, hf⟩ : ∃ f, f = us.getD k 0 := ⟨_, rfl⟩
      obtain ⟨g, hg⟩ : ∃ g, g = vs.getD k 0 := ⟨_, rfl⟩
      rw [← hf] at hc1
      rw [← hg] at hc2
      have GF : Hid (f = us.getD k 0) := hf
      have GG : Hid (g = vs.getD k 0) := hg
      have hltI : (k : Int) < (al : Int) := by omega
      have KS : Hid (∀ x : World, x.heap = (((w.alloc (.cells #[.int .i64 c, .int .i64 s, .slice (some ⟨b1, o1, none⟩) al ac, .int .i64 o, .int .i64 lo, .slice da dl dc, .slice sa sl sc, .slice ha hl hc] 68)).alloc (.cells #[.int .i64 yc, .int .i64 ys, .slice (some ⟨b2, o2, none⟩) al yac, .int .i64 o, .int .i64 ylo, .slice yda ydl ydc, .slice ysa ysl ysc, .slice yha yhl yhc] 68))).heap → x.cell? ⟨w.heap.size, 2, none⟩ = some (.slice (some ⟨b1, o1, none⟩) al ac) ∧ x.cell? ⟨w.heap.size + 1, 2, none⟩ = some (.slice (some ⟨b2, o2, none⟩) al yac) ∧ x.cell? ⟨b1, o1 + k, none⟩ = some (.int .i64 f) ∧ x.cell? ⟨b2, o2 + k, none⟩ = some (.int .i64 g)) := fun x hx =>
        ⟨(cell_heap hx _ _).trans (two_first rfl), (cell_heap hx _ _).trans (two_second rfl), (cell_heap hx _ _).trans (two_elder hc1), (cell_heap hx _ _).trans (two_elder hc2)⟩
      clear hf hg
      cases hne : (f != g)
      · go_wp2_with fail
        go_region_held3 (fun x => x.cell? ⟨w.heap.size, 2, none⟩ = some (.slice (some ⟨b1, o1, none⟩) al ac) ∧ x.cell? ⟨w.heap.size + 1, 2, none⟩ = some (.slice (some ⟨b2, o2, none⟩) al yac) ∧ x.cell? ⟨b1, o1 + k, none⟩ = some (.int .i64 f) ∧ x.cell? ⟨b2, o2 + k, none⟩ = some (.int .i64 g)) (exact KS.out _ rfl) (fail)
        go_wp2_with fail
        refine ⟨⟨k + 1, by omega, by go_num, fun j hj => ?_, n + 1, rfl⟩, by simp [intOf]; omega⟩
        by_cases e : j = k
        · subst e
          rw [← GF.out, ← GG.out]; simpa using hne
        · exact HU.out j (by omega)
      · have HN : Hid (decide (us = vs) = false) := by
          show _ = _
          rw [decide_eq_false_iff_not]
          intro e
          rw [bne_iff_ne, GF.out, GG.out, e] at hne
          exact hne rfl
        go_wp2_with fail
        go_region_held3 (fun x => x.cell? ⟨w.heap.size, 2, none⟩ = some (.slice (some ⟨b1, o1, none⟩) al ac) ∧ x.cell? ⟨w.heap.size + 1, 2, none⟩ = some (.slice (some ⟨b2, o2, none⟩) al yac) ∧ x.cell? ⟨b1, o1 + k, none⟩ = some (.int .i64 f) ∧ x.cell? ⟨b2, o2 + k, none⟩ = some (.int .i64 g)) (exact KS.out _ rfl) (fail)
        go_wp2_with fail
        go_ret
        exact ⟨by rw [HG.out, HN.out]; rfl, below_drewN (below_drewN (by go_grown) n) 1⟩
    · have ek : k = al := by omega
      subst ek
      have HA : Hid (decide (us = vs) = true) := by
        show _ = _
        rw [decide_eq_true_iff]
        exact getD_ext us vs (by rw [HS.out, KS'.out]) (by rw [HS.out]; exact HU.out)
      go_wp2_with fail
      go_ret
      exact ⟨by rw [HG.out, HA.out]; rfl, below_drewN (by go_grown) _⟩

end Go.Proofs.YthdlccadcadopaaGreat
