/-
  Whether methods stand apart: what is said of it, and that the specification says so, in whatever memory; it writes nothing that was there.
-/
import Derived.Test.YthdlccadcadopaaGreatMeOf
namespace Go.Proofs.YthdlccadcadopaaGreat
open Go.ChangeShapes Go.WideShapes Go.ChangeAt Go.RowKit

def apP (L : List Cl) (x y : Me) : Bool := (((decide (0 ≤ x.1) && decide (0 ≤ y.1)) && (x.2.1 == y.2.1)) && up L x.1.toNat y.1.toNat) && ((x.1 == y.1) || !(samB x.2.2.2.1 y.2.2.2.1 x.2.2.1 y.2.2.1))
def apB (L : List Cl) (M : List Me) (i k : Nat) : Bool := (i != k) && apP L (me M i) (me M k)
def apart (L : List Cl) (M : List Me) : Bool := (List.range M.length).all (fun i => (List.range M.length).all (fun k => !(apB L M i k)))

set_option maxRecDepth 100000 in
set_option maxHeartbeats 8000000 in
theorem apartSpec (ca : Option Addr) (cn cc : Nat) (ma : Option Addr) (mn mc : Nat) (L : List Cl) (M : List Me) (w : World) {D E G : Nat → Prop} (h : ClsAt D E w ca cn L) (ok : clsOk L = true) (hM : SlAt meR G w ma mn M) (hmn : mn ≤ 1000000) (hcl : ∀ i, i < mn → (me M i).1 < cn) :
    Calls Tryz.prog 59 #[.agg #[.slice ca cn cc, .slice ma mn mc]] w fun e w' => e = .returned (.bool (apart L M)) ∧ Below w.heap.size w w' := by
  obtain ⟨mb, mo, hmb⟩ := meBlock hM
  have H : Hid (ClsAt D E w ca cn L) := h
  have OK : Hid (clsOk L = true) := ok
  have HCL : Hid (∀ i, i < mn → (me M i).1 < cn) := hcl
  have HM : Hid (SlAt meR G w ma mn M) := hM
  have HF : Hid (apart L M = (List.range mn).all (fun i => (List.range mn).all (fun k => !(apB L M i k)))) := by show _ = _; rw [apart, hM.size]
  have KC : Hid (∀ x : World, Below (w.heap.size + 1) (w.alloc (.cells #[.slice ca cn cc, .slice ma mn mc] 38)) x → x.cell? ⟨w.heap.size, 0, none⟩ = some (.slice ca cn cc) ∧ x.cell? ⟨w.heap.size, 1, none⟩ = some (.slice ma mn mc)) := fun x hb => ⟨box_cell hb 0 _ rfl, box_cell hb 1 _ rfl⟩
  clear h ok hM hcl
  go_enter Tryz.func59, Tryz.ntmps59
  go_wp2_with fail
  go_loopw [3] (fun t wr => ∃ i : Nat, i ≤ mn ∧ t = .int .i64 i ∧ (List.range i).all (fun i => (List.range mn).all (fun k => !(apB L M i k))) = true ∧ Below (w.heap.size + 1) (w.alloc (.cells #[.slice ca cn cc, .slice ma mn mc] 38)) wr) (fun t _ => mn - (intOf t).toNat)
  case atStart => exact ⟨0, Nat.zero_le _, rfl, rfl, Below.refl _ _⟩
  case round =>
    obtain ⟨i, hi, rfl, hu, hb⟩ := hrel
    have HU : Hid ((List.range i).all (fun i => (List.range mn).all (fun k => !(apB L M i k))) = true) := hu
    have HB : Hid (Below (w.heap.size + 1) (w.alloc (.cells #[.slice ca cn cc, .slice ma mn mc] 38)) wr) := hb
    clear hu hb
    obtain ⟨p0, p1⟩ := KC.out wr HB.out
    by_cases hlt : i < mn
    case neg =>
      have ei : i = mn := by omega
      subst ei
      go_wp2_with fail
      go_ret
      exact ⟨by rw [HF.out, HU.out]; rfl, box_below HB.out⟩
    obtain ⟨rfl, hmb'⟩ := hmb (by omega)
    clear hmb
    go_wp2_with fail
    clear p0 p1
    go_loopw [4] (fun t wr => ∃ k : Nat, k ≤ mn ∧ t = .int .i64 k ∧ (List.range k).all (fun k => !(apB L M i k)) = true ∧ Below (w.heap.size + 1) (w.alloc (.cells #[.slice ca cn cc, .slice (some ⟨mb, mo, none⟩) mn mc] 38)) wr) (fun t _ => mn - (intOf t).toNat)
    case atStart => exact ⟨0, Nat.zero_le _, rfl, rfl, HB.out⟩
    case round =>
      clear HB
      obtain ⟨k, hk, rfl, hv, hb⟩ := hrel
      have HV : Hid ((List.range k).all (fun k => !(apB L M i k)) = true) := hv
      have HB : Hid (Below (w.heap.size + 1) (w.alloc (.cells #[.slice ca cn cc, .slice (some ⟨mb, mo, none⟩) mn mc] 38)) wr) := hb
      clear hv hb
      obtain ⟨p0, p1⟩ := KC.out wr HB.out
      have hws : w.heap.size + 1 ≤ wr.heap.size := by have := HB.out.size; simpa using this
      by_cases hlk : k < mn
      case neg =>
        have ek : k = mn := by omega
        subst ek
        go_wp2_with fail
        exact ⟨⟨i + 1, by omega, by go_num, by rw [range_more, HU.out, HV.out]; rfl, HB.out⟩, by simp [intOf]; omega⟩
      obtain ⟨xc, xs, xargs, xo, xlo, xX, xY, xZ, xaa, xal, xac, xda, xdl, xdc, xsa, xsl, xsc, xha, xhl, xhc, MX, x0, x1, x2, x3, x4, x5, x6, x7⟩ := meAt HM.out i hlt
      obtain ⟨yc, ys, yargs, yo, ylo, yX, yY, yZ, yaa, yal, yac, yda, ydl, ydc, ysa, ysl, ysc, yha, yhl, yhc, MY, y0, y1, y2, y3, y4, y5, y6, y7⟩ := meAt HM.out k hlk
      have HX : Hid (MeAt G w (me M i) xc xs xargs xo xlo xX xY xZ xaa xal xda xdl xsa xsl xha xhl) := MX
      have HY : Hid (MeAt G w (me M k) yc ys yargs yo ylo yX yY yZ yaa yal yda ydl ysa ysl yha yhl) := MY
      have hxc : xc < cn := by have := HCL.out i hlt; rw [MX.is] at this; exact this
      have HE : Hid (apB L M i k = (((i : Int) != k) && ((((decide (0 ≤ xc) && decide (0 ≤ yc)) && (xs == ys)) && up L xc.toNat yc.toNat) && ((xc == yc) || !(samB xo yo xargs yargs))))) := by
        show _ = _
        rw [apB, MX.is, MY.is, apP]
        simp only
        congr 1
        rw [Bool.eq_iff_iff]; simp; omega
      clear MX MY
      replace x0 := later1 HB.out x0
      replace x1 := later1 HB.out x1
      replace x2 := later1 HB.out x2
      replace x3 := later1 HB.out x3
      replace x4 := later1 HB.out x4
      replace x5 := later1 HB.out x5
      replace x6 := later1 HB.out x6
      replace x7 := later1 HB.out x7
      replace y0 := later1 HB.out y0
      replace y1 := later1 HB.out y1
      replace y2 := later1 HB.out y2
      replace y3 := later1 HB.out y3
      replace y4 := later1 HB.out y4
      replace y5 := later1 HB.out y5
      replace y6 := later1 HB.out y6
      replace y7 := later1 HB.out y7
      have hltI : (i : Int) < (mn : Int) := by omega
      have hlkI : (k : Int) < (mn : Int) := by omega
      have hmw : mb < wr.heap.size := by omega
      have hww : w.heap.size < wr.heap.size := by omega
      have NEXT : Hid (apB L M i k = false → (List.range (k + 1)).all (fun k => !(apB L M i k)) = true) := fun e => by rw [range_more, HV.out, e]; rfl
      have BAD : Hid (apB L M i k = true → apart L M = false) := fun e => by
        rw [HF.out]
        exact range_false hlt (range_false hlk (by rw [e]; rfl))
      have B2 : Hid (Below (w.heap.size + 1) (w.alloc (.cells #[.slice ca cn cc, .slice (some ⟨mb, mo, none⟩) mn mc] 38)) ((wr.alloc (.cells #[.int .i64 xc, .int .i64 xs, .slice xaa xal xac, .int .i64 xo, .int .i64 xlo, .slice xda xdl xdc, .slice xsa xsl xsc, .slice xha xhl xhc] 68)).alloc (.cells #[.int .i64 yc, .int .i64 ys, .slice yaa yal yac, .int .i64 yo, .int .i64 ylo, .slice yda ydl ydc, .slice ysa ysl ysc, .slice yha yhl yhc] 68))) := (HB.out.alloc hws _).alloc (by simp; omega) _
      cases g1 : ((i : Int) != (k : Int))
      · go_wp2_with fail
        exact ⟨⟨k + 1, by omega, by go_num, NEXT.out (by rw [HE.out, g1]; rfl), B2.out⟩, by simp [intOf]; omega⟩
      cases g2 : decide (0 ≤ xc)
      · go_wp2_with fail
        exact ⟨⟨k + 1, by omega, by go_num, NEXT.out (by rw [HE.out, g1, g2]; rfl), B2.out⟩, by simp [intOf]; omega⟩
      cases g3 : decide (0 ≤ yc)
      · go_wp2_with fail
        exact ⟨⟨k + 1, by omega, by go_num, NEXT.out (by rw [HE.out, g1, g2, g3]; rfl), B2.out⟩, by simp [intOf]; omega⟩
      cases g4 : (xs == ys)
      · go_wp2_with fail
        exact ⟨⟨k + 1, by omega, by go_num, NEXT.out (by rw [HE.out, g1, g2, g3, g4]; rfl), B2.out⟩, by simp [intOf]; omega⟩
      obtain ⟨a, rfl⟩ : ∃ a : Nat, xc = a := ⟨xc.toNat, by simp at g2; omega⟩
      obtain ⟨b, rfl⟩ : ∃ b : Nat, yc = b := ⟨yc.toNat, by simp at g3; omega⟩
      go_wp2_with fail
      refine (upSpec _ _ _ a b L _ (H.out.later (box_below B2.out)) OK.out (by omega)).mono ?_
      rintro e w' ⟨rfl, rfl⟩
      cases g5 : up L a b
      · go_wp2_with fail
        exact ⟨⟨k + 1, by omega, by go_num, NEXT.out (by rw [HE.out, g1, g2, g3, g4, Int.toNat_natCast, Int.toNat_natCast, g5]; rfl), B2.out⟩, by simp [intOf]; omega⟩
      cases g6 : ((a : Int) == (b : Int))
      case true =>
        go_wp2_with fail
        go_ret
        exact ⟨by rw [BAD.out (by rw [HE.out, g1, g2, g3, g4, Int.toNat_natCast, Int.toNat_natCast, g5, g6]; rfl)]; rfl, box_below B2.out⟩
      go_wp2_with fail
      refine (sameSpec _ _ _ _ _ _ _ _ _ _ _ _ _ _ _ _ _ _ _ _ _ _ _ _ _ _ _ _ _ _ _ _ xargs yargs _ (HX.out.args.ints.later (box_below B2.out)) (HY.out.args.ints.later (box_below B2.out))).mono ?_
      rintro e w2 ⟨rfl, hb2⟩
      have B3 : Hid (Below (w.heap.size + 1) (w.alloc (.cells #[.slice ca cn cc, .slice (some ⟨mb, mo, none⟩) mn mc] 38)) w2) := B2.out.trans (hb2.mono (by simp; omega))
      clear hb2
      cases g7 : samB xo yo xargs yargs
      · go_wp2_with fail
        go_ret
        exact ⟨by rw [BAD.out (by rw [HE.out, g1, g2, g3, g4, Int.toNat_natCast, Int.toNat_natCast, g5, g6, g7]; rfl)]; rfl, box_below B3.out⟩
      · go_wp2_with fail
        exact ⟨⟨k + 1, by omega, by go_num, NEXT.out (by rw [HE.out, g1, g2, g3, g4, Int.toNat_natCast, Int.toNat_natCast, g5, g6, g7]; rfl), B3.out⟩, by simp [intOf]; omega⟩

end Go.Proofs.YthdlccadcadopaaGreat
