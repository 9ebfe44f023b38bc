/-
  Whether two methods may stand beside each other: what is said of it, and that the program says so, in whatever memory; it writes nothing that was there.
-/
import Derived.Test.YthdlccadcadopaaGreatUniF
import Derived.BigQuiet
namespace Go.Proofs.YthdlccadcadopaaGreat
open Go.ChangeShapes Go.WideShapes Go.ChangeAt Go.RowKit

set_option maxHeartbeats 4000000 in
theorem equalImpl (fa : Option Addr) (fl fc : Nat) (ga : Option Addr) (gl gc : Nat) (us vs : List Int) (w : World) {D E : Nat → Prop} (h : IntsAt D w fa fl us) (g : IntsAt E w ga gl vs) :
    Calls Tryz.prog 150 #[.slice fa fl fc, .slice ga gl gc] w fun e w' => e = .returned (.bool (decide (us = vs))) ∧ ∃ n, w' = w.drewN n := by
  have H : Hid (IntsAt D w fa fl us) := h
  have K : Hid (IntsAt E w ga gl vs) := g
  have HS : Hid (us.length = fl) := h.size
  have KS' : Hid (vs.length = gl) := g.size
  have hal := h.room
  have hyl := g.room
  clear h g
  by_cases h2 : fl = gl
  case neg =>
    have e2 : ((fl : Int) != gl) = true := by simp; omega
    have HG : Hid (decide (us = vs) = false) := by
      show _ = _
      rw [decide_eq_false (p := us = vs) (fun e => h2 (by rw [← HS.out, ← KS'.out, e]))]
    go_enter Tryz.func150, Tryz.ntmps150
    go_wp2_with fail
    go_ret
    exact ⟨by rw [HG.out]; rfl, 0, rfl⟩
  subst h2
  have e2 : ((fl : Int) != fl) = false := by simp
  go_enter Tryz.func150, Tryz.ntmps150
  go_wp2_with fail
  go_loopw [13] (fun t wr => ∃ k : Nat, k ≤ fl ∧ t = .int .i64 k ∧ (∀ j, j < k → us.getD j 0 = vs.getD j 0) ∧ ∃ n, wr = w.drewN n) (fun t _ => fl - (intOf t).toNat)
  case atStart => exact ⟨0, Nat.zero_le _, rfl, by omega, 0, rfl⟩
  case round =>
    obtain ⟨k, hk, rfl, hu, n, rfl⟩ := hrel
    have HU : Hid (∀ j, j < k → us.getD j 0 = vs.getD j 0) := hu
    clear hu
    by_cases hlt : k < fl
    · obtain ⟨b1, o1, rfl, hc1⟩ : ∃ b off, fa = some ⟨b, off, none⟩ ∧ w.cell? ⟨b, off + k, none⟩ = some (.int .i64 (us.getD k 0)) := by
        rcases H.out.cells with h0 | ⟨b, off, ha, _, hcs⟩
        · omega
        · exact ⟨b, off, ha, hcs k hlt⟩
      obtain ⟨b2, o2, rfl, hc2⟩ : ∃ b off, ga = some ⟨b, off, none⟩ ∧ w.cell? ⟨b, off + k, none⟩ = some (.int .i64 (vs.getD k 0)) := by
        rcases K.out.cells with h0 | ⟨b, off, ha, _, hcs⟩
        · omega
        · exact ⟨b, off, ha, hcs k hlt⟩
      obtain ⟨f, hf⟩ : ∃ f, f = us.getD k 0 := ⟨_, rfl⟩
      obtain ⟨g, hg⟩ : ∃ g, g = vs.getD k 0 := ⟨_, rfl⟩
      rw [← hf] at hc1
      rw [← hg] at hc2
      have GF : Hid (f = us.getD k 0) := hf
      have GG : Hid (g = vs.getD k 0) := hg
      have hltI : (k : Int) < (fl : Int) := by omega
      have KS : Hid (∀ x : World, x.heap = w.heap → x.cell? ⟨b1, o1 + k, none⟩ = some (.int .i64 f) ∧ x.cell? ⟨b2, o2 + k, none⟩ = some (.int .i64 g)) := fun x hx =>
        ⟨(cell_heap hx _ _).trans hc1, (cell_heap hx _ _).trans hc2⟩
      clear hf hg
      cases hne : (f != g)
      · go_wp2_with fail
        go_region_held3 (fun x => x.cell? ⟨b1, o1 + k, none⟩ = some (.int .i64 f) ∧ x.cell? ⟨b2, o2 + k, none⟩ = some (.int .i64 g)) (exact KS.out _ rfl) (fail)
        go_wp2_with fail
        refine ⟨⟨k + 1, by omega, by go_num, fun j hj => ?_, n + 1, rfl⟩, by simp [intOf]; omega⟩
        by_cases e : j = k
        · subst e
          rw [← GF.out, ← GG.out]; simpa using hne
        · exact HU.out j (by omega)
      · have HN : Hid (decide (us = vs) = false) := by
          show _ = _
          rw [decide_eq_false_iff_not]
          intro e
          rw [bne_iff_ne, GF.out, GG.out, e] at hne
          exact hne rfl
        go_wp2_with fail
        go_region_held3 (fun x => x.cell? ⟨b1, o1 + k, none⟩ = some (.int .i64 f) ∧ x.cell? ⟨b2, o2 + k, none⟩ = some (.int .i64 g)) (exact KS.out _ rfl) (fail)
        go_wp2_with fail
        go_ret
        exact ⟨by rw [HN.out]; rfl, n + 1, rfl⟩
    · have ek : k = fl := by omega
      subst ek
      have HA : Hid (decide (us = vs) = true) := by
        show _ = _
        rw [decide_eq_true_iff]
        exact getD_ext us vs (by rw [HS.out, KS'.out]) (by rw [HS.out]; exact HU.out)
      go_wp2_with fail
      go_ret
      exact ⟨by rw [HA.out]; rfl, n, rfl⟩

/-- Whether two methods may stand beside each other; both have an owner that is ok. -/
def agK (L : List Cl) (c s o : Int) (args : List Int) (d t p : Int) (brgs : List Int) : Bool :=
  (((c == -1) || (d == -1)) || (s != t)) || (!(c == d) && (!(up L c.toNat d.toNat || up L d.toNat c.toNat) || ((o == p) && decide (args = brgs))))

set_option maxRecDepth 100000 in
set_option maxHeartbeats 8000000 in
theorem agreeImpl (ca : Option Addr) (cn cc : Nat) (ma : Option Addr) (mn mc : Nat) (q : Nat) (xc xs xo xlo : Int) (xaa : Option Addr) (xal xac : Nat) (xda : Option Addr) (xdl xdc : Nat) (xsa : Option Addr) (xsl xsc : Nat) (xha : Option Addr) (xhl xhc : Nat) (yc ys yo ylo : Int) (yaa : Option Addr) (yal yac : Nat) (yda : Option Addr) (ydl ydc : Nat) (ysa : Option Addr) (ysl ysc : Nat) (yha : Option Addr) (yhl yhc : Nat) (xargs yargs : List Int) (L : List Cl) (w : World) {D E G : Nat → Prop} (h : ClsAt D E w ca cn L) (ok : clsOk L = true)
    (hA : IntsAt G w xaa xal xargs) (hB : IntsAt G w yaa yal yargs) (hx : xc = -1 ∨ 0 ≤ xc ∧ xc < cn) (hy : yc = -1 ∨ 0 ≤ yc ∧ yc < cn) :
    Calls Tryz.prog 117 #[.agg #[.slice ca cn cc, .slice ma mn mc, .map (some q)], .agg #[.int .i64 xc, .int .i64 xs, .slice xaa xal xac, .int .i64 xo, .int .i64 xlo, .slice xda xdl xdc, .slice xsa xsl xsc, .slice xha xhl xhc], .agg #[.int .i64 yc, .int .i64 ys, .slice yaa yal yac, .int .i64 yo, .int .i64 ylo, .slice yda ydl ydc, .slice ysa ysl ysc, .slice yha yhl yhc]] w fun e w' => e = .returned (.bool (agK L xc xs xo xargs yc ys yo yargs)) ∧ Below w.heap.size w w' := by
  have H : Hid (ClsAt D E w ca cn L) := h
  have OK : Hid (clsOk L = true) := ok
  have HF : Hid (agK L xc xs xo xargs yc ys yo yargs = ((((xc == -1) || (yc == -1)) || (xs != ys)) || (!(xc == yc) && (!(up L xc.toNat yc.toNat || up L yc.toNat xc.toNat) || ((xo == yo) && decide (xargs = yargs)))))) := rfl
  have B0 : Hid (Below w.heap.size w (((w.alloc (.cells #[.slice ca cn cc, .slice ma mn mc, .map (some q)] 116)).alloc (.cells #[.int .i64 xc, .int .i64 xs, .slice xaa xal xac, .int .i64 xo, .int .i64 xlo, .slice xda xdl xdc, .slice xsa xsl xsc, .slice xha xhl xhc] 68)).alloc (.cells #[.int .i64 yc, .int .i64 ys, .slice yaa yal yac, .int .i64 yo, .int .i64 ylo, .slice yda ydl ydc, .slice ysa ysl ysc, .slice yha yhl yhc] 68))) := (((Below.refl _ _).alloc (Nat.le_refl _) _).alloc (by simp) _).alloc (by simp; omega) _
  have HA : Hid (IntsAt G (((w.alloc (.cells #[.slice ca cn cc, .slice ma mn mc, .map (some q)] 116)).alloc (.cells #[.int .i64 xc, .int .i64 xs, .slice xaa xal xac, .int .i64 xo, .int .i64 xlo, .slice xda xdl xdc, .slice xsa xsl xsc, .slice xha xhl xhc] 68)).alloc (.cells #[.int .i64 yc, .int .i64 ys, .slice yaa yal yac, .int .i64 yo, .int .i64 ylo, .slice yda ydl ydc, .slice ysa ysl ysc, .slice yha yhl yhc] 68)) xaa xal xargs) := hA.later B0.out
  have HB : Hid (IntsAt G (((w.alloc (.cells #[.slice ca cn cc, .slice ma mn mc, .map (some q)] 116)).alloc (.cells #[.int .i64 xc, .int .i64 xs, .slice xaa xal xac, .int .i64 xo, .int .i64 xlo, .slice xda xdl xdc, .slice xsa xsl xsc, .slice xha xhl xhc] 68)).alloc (.cells #[.int .i64 yc, .int .i64 ys, .slice yaa yal yac, .int .i64 yo, .int .i64 ylo, .slice yda ydl ydc, .slice ysa ysl ysc, .slice yha yhl yhc] 68)) yaa yal yargs) := hB.later B0.out
  clear h ok hA hB
  cases g1 : (xc == -1)
  case true =>
    go_enter Tryz.func117, Tryz.ntmps117
    go_wp2_with fail
    go_ret
    exact ⟨by rw [HF.out, g1]; rfl, B0.out⟩
  cases g2 : (yc == -1)
  case true =>
    go_enter Tryz.func117, Tryz.ntmps117
    go_wp2_with fail
    go_ret
    exact ⟨by rw [HF.out, g1, g2]; rfl, B0.out⟩
  cases g3 : (xs != ys)
  case true =>
    go_enter Tryz.func117, Tryz.ntmps117
    go_wp2_with fail
    go_ret
    exact ⟨by rw [HF.out, g1, g2, g3]; rfl, B0.out⟩
  cases g4 : (xc == yc)
  case true =>
    go_enter Tryz.func117, Tryz.ntmps117
    go_wp2_with fail
    go_ret
    exact ⟨by rw [HF.out, g1, g2, g3, g4]; rfl, B0.out⟩
  obtain ⟨a, rfl, ha⟩ : ∃ a : Nat, xc = a ∧ a < cn := ⟨xc.toNat, by simp at g1; omega, by simp at g1; omega⟩
  obtain ⟨b, rfl, hb⟩ : ∃ b : Nat, yc = b ∧ b < cn := ⟨yc.toNat, by simp at g2; omega, by simp at g2; omega⟩
  rw [Int.toNat_natCast, Int.toNat_natCast] at HF
  clear hx hy
  go_enter Tryz.func117, Tryz.ntmps117
  go_wp2_with fail
  refine (upImpl _ _ _ a b L _ (H.out.later B0.out) OK.out ha).mono ?_
  rintro e w' ⟨rfl, rfl⟩
  cases g5 : up L a b
  · go_wp2_with fail
    refine (upImpl _ _ _ b a L _ (H.out.later B0.out) OK.out hb).mono ?_
    rintro e w' ⟨rfl, rfl⟩
    cases g6 : up L b a
    · go_wp2_with fail
      go_ret
      exact ⟨by rw [HF.out, g1, g2, g3, g4, g5, g6]; rfl, B0.out⟩
    cases g7 : (xo == yo)
    · go_wp2_with fail
      go_ret
      exact ⟨by rw [HF.out, g1, g2, g3, g4, g5, g6, g7]; rfl, B0.out⟩
    go_wp2_with fail
    refine (equalImpl _ _ _ _ _ _ xargs yargs _ HA.out HB.out).mono ?_
    rintro e w2 ⟨rfl, n, hn⟩
    have B2 : Hid (Below w.heap.size w w2) := by rw [hn]; exact below_drewN B0.out n
    clear hn
    go_wp2_with fail
    go_ret
    exact ⟨by rw [HF.out, g1, g2, g3, g4, g5, g6, g7]; rfl, B2.out⟩
  · cases g7 : (xo == yo)
    · go_wp2_with fail
      go_ret
      exact ⟨by rw [HF.out, g1, g2, g3, g4, g5, g7]; rfl, B0.out⟩
    go_wp2_with fail
    refine (equalImpl _ _ _ _ _ _ xargs yargs _ HA.out HB.out).mono ?_
    rintro e w2 ⟨rfl, n, hn⟩
    have B2 : Hid (Below w.heap.size w w2) := by rw [hn]; exact below_drewN B0.out n
    clear hn
    go_wp2_with fail
    go_ret
    exact ⟨by rw [HF.out, g1, g2, g3, g4, g5, g7]; rfl, B2.out⟩

end Go.Proofs.YthdlccadcadopaaGreat
