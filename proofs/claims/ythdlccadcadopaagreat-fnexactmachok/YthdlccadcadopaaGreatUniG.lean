/-
  All methods of a unit: what is said of them, and that the program says so, in whatever memory; it writes nothing that was there.
-/
import Derived.Test.YthdlccadcadopaaGreatAgrImpl
import Derived.Test.YthdlccadcadopaaGreatUniEq
namespace Go.Proofs.YthdlccadcadopaaGreat
open Go.ChangeShapes Go.WideShapes Go.ChangeAt Go.RowKit

def agM (L : List Cl) (x y : Me) : Bool := agK L x.1 x.2.1 x.2.2.2.1 x.2.2.1 y.1 y.2.1 y.2.2.2.1 y.2.2.1
def mtK (L : List Cl) (M : List Me) (i : Nat) : Bool := methK L M (me M i) && (List.range i).all (fun k => agM L (me M k) (me M i))
theorem methK_class {L : List Cl} {M : List Me} {m : Me} (h : methK L M m = true) : m.1 = -1 ∨ 0 ≤ m.1 ∧ m.1 < L.length := by
  unfold methK owB at h
  simp only [Bool.and_eq_true] at h
  have := h.1.1.1.1.1
  by_cases e : m.1 = -1
  · exact .inl e
  · rw [if_neg e] at this
    simp at this
    exact .inr this.1.1

set_option maxRecDepth 100000 in
set_option maxHeartbeats 8000000 in
theorem methodsImpl (ca : Option Addr) (cn cc : Nat) (ma : Option Addr) (mn mc : Nat) (q : Nat) (L : List Cl) (M : List Me) (w : World) {D E G : Nat → Prop} (h : ClsAt D E w ca cn L) (ok : clsOk L = true) (hM : SlAt meR G w ma mn M) (hmc : mn ≤ mc) (hq : w.heap[q]? = some (.map (wE 24) 24)) :
    Calls Tryz.prog 66 #[.agg #[.slice ca cn cc, .slice ma mn mc, .map (some q)]] w fun e w' => e = .returned (.bool ((List.range mn).all (mtK L M))) ∧ Below w.heap.size w w' := by
  obtain ⟨mb, mo, hmb⟩ := meBlock hM
  have H : Hid (ClsAt D E w ca cn L) := h
  have HS : Hid (L.length = cn) := h.size
  have OK : Hid (clsOk L = true) := ok
  have HM : Hid (SlAt meR G w ma mn M) := hM
  have hmr := hM.room
  have hql : q < w.heap.size := (Array.getElem?_eq_some_iff.1 hq).1
  have HQ : Hid (w.heap[q]? = some (.map (wE 24) 24)) := hq
  have KC : Hid (∀ x : World, Below (w.heap.size + 1) (w.alloc (.cells #[.slice ca cn cc, .slice ma mn mc, .map (some q)] 116)) x → x.cell? ⟨w.heap.size, 0, none⟩ = some (.slice ca cn cc) ∧ x.cell? ⟨w.heap.size, 1, none⟩ = some (.slice ma mn mc) ∧ x.cell? ⟨w.heap.size, 2, none⟩ = some (.map (some q))) := fun x hb => ⟨box_cell hb 0 _ rfl, box_cell hb 1 _ rfl, box_cell hb 2 _ rfl⟩
  clear h ok hM hq
  go_enter Tryz.func66, Tryz.ntmps66
  go_wp2_with fail
  go_loopw [10] (fun t wr => ∃ i : Nat, i ≤ mn ∧ t = .int .i64 i ∧ (List.range i).all (mtK L M) = true ∧ Below (w.heap.size + 1) (w.alloc (.cells #[.slice ca cn cc, .slice ma mn mc, .map (some q)] 116)) wr) (fun t _ => mn - (intOf t).toNat)
  case atStart => exact ⟨0, Nat.zero_le _, rfl, rfl, Below.refl _ _⟩
  case round =>
    obtain ⟨wv, rfl⟩ : ∃ wv, wv = wr := ⟨wr, rfl⟩
    obtain ⟨i, hi, rfl, hu, hb⟩ := hrel
    have HU : Hid ((List.range i).all (mtK L M) = true) := hu
    have HB : Hid (Below (w.heap.size + 1) (w.alloc (.cells #[.slice ca cn cc, .slice ma mn mc, .map (some q)] 116)) wv) := hb
    have hws : w.heap.size + 1 ≤ wv.heap.size := by have := hb.size; simpa using this
    clear hu hb
    obtain ⟨p0, p1, p2⟩ := KC.out wv HB.out
    by_cases hlt : i < mn
    case neg =>
      have ei : i = mn := by omega
      subst ei
      go_wp2_with fail
      go_ret
      exact ⟨by rw [HU.out]; rfl, box_below HB.out⟩
    obtain ⟨rfl, hmb'⟩ := hmb (by omega)
    clear hmb
    obtain ⟨yc, ys, yargs, yo, ylo, yX, yY, yZ, yaa, yal, yac, yda, ydl, ydc, ysa, ysl, ysc, yha, yhl, yhc, MY, y0, y1, y2, y3, y4, y5, y6, y7⟩ := meAt HM.out i hlt
    have HY : Hid (MeAt G w (me M i) yc ys yargs yo ylo yX yY yZ yaa yal yda ydl ysa ysl yha yhl) := MY
    have HK : Hid (methK L M (me M i) = methK L M (yc, ys, yargs, yo, ylo, yX, yY, yZ)) := by show _ = _; rw [MY.is]
    clear MY
    replace y0 := later1 HB.out y0
    replace y1 := later1 HB.out y1
    replace y2 := later1 HB.out y2
    replace y3 := later1 HB.out y3
    replace y4 := later1 HB.out y4
    replace y5 := later1 HB.out y5
    replace y6 := later1 HB.out y6
    replace y7 := later1 HB.out y7
    have hltI : (i : Int) < (mn : Int) := by omega
    have hmw : mb < wv.heap.size := by omega
    have hww : w.heap.size < wv.heap.size := by omega
    have B2 : Hid (Below (w.heap.size + 1) (w.alloc (.cells #[.slice ca cn cc, .slice (some ⟨mb, mo, none⟩) mn mc, .map (some q)] 116)) (wv.alloc (.cells #[.int .i64 yc, .int .i64 ys, .slice yaa yal yac, .int .i64 yo, .int .i64 ylo, .slice yda ydl ydc, .slice ysa ysl ysc, .slice yha yhl yhc] 68))) := HB.out.alloc hws _
    go_wp2_with fail
    refine (methodImpl _ _ _ _ _ _ _ _ _ _ _ _ _ _ _ _ _ _ _ _ _ _ _ yargs yX yY yZ L M _ (H.out.later (box_below B2.out)) OK.out (HM.out.later (box_below B2.out)) (HY.out.args.later (box_below B2.out)) (HY.out.code.later (box_below B2.out)) (HY.out.shapes.later (box_below B2.out)) (HY.out.catches.later (box_below B2.out)) HY.out.fo (by rw [(box_below B2.out).block q hql]; exact HQ.out)).mono ?_
    rintro e w2 ⟨rfl, hb2⟩
    have C2 : Hid (Below (wv.heap.size + 1) (wv.alloc (.cells #[.int .i64 yc, .int .i64 ys, .slice yaa yal yac, .int .i64 yo, .int .i64 ylo, .slice yda ydl ydc, .slice ysa ysl ysc, .slice yha yhl yhc] 68)) w2) := by show Below _ _ _; simpa using hb2
    clear hb2
    have TR : Hid (∀ x, Below (wv.heap.size + 1) (wv.alloc (.cells #[.int .i64 yc, .int .i64 ys, .slice yaa yal yac, .int .i64 yo, .int .i64 ylo, .slice yda ydl ydc, .slice ysa ysl ysc, .slice yha yhl yhc] 68)) x → Below (w.heap.size + 1) (w.alloc (.cells #[.slice ca cn cc, .slice (some ⟨mb, mo, none⟩) mn mc, .map (some q)] 116)) x) := fun x hx => B2.out.trans (hx.mono (by omega))
    have KY : Hid (∀ x : World, Below (wv.heap.size + 1) (wv.alloc (.cells #[.int .i64 yc, .int .i64 ys, .slice yaa yal yac, .int .i64 yo, .int .i64 ylo, .slice yda ydl ydc, .slice ysa ysl ysc, .slice yha yhl yhc] 68)) x → x.cell? ⟨wv.heap.size, 0, none⟩ = some (.int .i64 yc) ∧ x.cell? ⟨wv.heap.size, 1, none⟩ = some (.int .i64 ys) ∧ x.cell? ⟨wv.heap.size, 2, none⟩ = some (.slice yaa yal yac) ∧ x.cell? ⟨wv.heap.size, 3, none⟩ = some (.int .i64 yo) ∧ x.cell? ⟨wv.heap.size, 4, none⟩ = some (.int .i64 ylo) ∧ x.cell? ⟨wv.heap.size, 5, none⟩ = some (.slice yda ydl ydc) ∧ x.cell? ⟨wv.heap.size, 6, none⟩ = some (.slice ysa ysl ysc) ∧ x.cell? ⟨wv.heap.size, 7, none⟩ = some (.slice yha yhl yhc)) := fun x hb => ⟨box_cell hb 0 _ rfl, box_cell hb 1 _ rfl, box_cell hb 2 _ rfl, box_cell hb 3 _ rfl, box_cell hb 4 _ rfl, box_cell hb 5 _ rfl, box_cell hb 6 _ rfl, box_cell hb 7 _ rfl⟩
    clear p0 p1 p2 y0 y1 y2 y3 y4 y5 y6 y7
    obtain ⟨p0, p1, p2⟩ := KC.out w2 (TR.out w2 C2.out)
    cases g1 : methK L M (yc, ys, yargs, yo, ylo, yX, yY, yZ)
    · go_wp2_with fail
      go_ret
      exact ⟨by rw [range_false hlt (show mtK L M i = false by rw [mtK, HK.out, g1]; rfl)]; rfl, box_below (TR.out w2 C2.out)⟩
    have hic : (i : Int) ≤ (mc : Int) := by omega
    have hic' : i ≤ mc := by omega
    go_wp2_with fail
    clear p0 p1 p2
    go_loopw [24] (fun t wx => ∃ k : Nat, k ≤ i ∧ t = .int .i64 k ∧ (List.range k).all (fun k => agM L (me M k) (me M i)) = true ∧ Below (wv.heap.size + 1) (wv.alloc (.cells #[.int .i64 yc, .int .i64 ys, .slice yaa yal yac, .int .i64 yo, .int .i64 ylo, .slice yda ydl ydc, .slice ysa ysl ysc, .slice yha yhl yhc] 68)) wx) (fun t _ => i - (intOf t).toNat)
    case atStart => exact ⟨0, Nat.zero_le _, rfl, rfl, C2.out⟩
    case round =>
      obtain ⟨wx, rfl⟩ : ∃ wx, wx = wr := ⟨wr, rfl⟩
      obtain ⟨k, hk, rfl, hv, hb⟩ := hrel
      have HV : Hid ((List.range k).all (fun k => agM L (me M k) (me M i)) = true) := hv
      have C3 : Hid (Below (wv.heap.size + 1) (wv.alloc (.cells #[.int .i64 yc, .int .i64 ys, .slice yaa yal yac, .int .i64 yo, .int .i64 ylo, .slice yda ydl ydc, .slice ysa ysl ysc, .slice yha yhl yhc] 68)) wx) := hb
      have hwx : wv.heap.size + 1 ≤ wx.heap.size := by have := hb.size; simpa using this
      clear hv hb
      obtain ⟨p0, p1, p2⟩ := KC.out wx (TR.out wx C3.out)
      by_cases hlk : k < i
      case neg =>
        have ek : k = i := by omega
        subst ek
        go_wp2_with fail
        exact ⟨⟨k + 1, by omega, by go_num, by rw [range_more, HU.out, mtK, HK.out, g1, HV.out]; rfl, TR.out wx C3.out⟩, by simp [intOf]; omega⟩
      obtain ⟨y0, y1, y2, y3, y4, y5, y6, y7⟩ := KY.out wx C3.out
      obtain ⟨xc, xs, xargs, xo, xlo, xX, xY, xZ, xaa, xal, xac, xda, xdl, xdc, xsa, xsl, xsc, xha, xhl, xhc, MX, x0, x1, x2, x3, x4, x5, x6, x7⟩ := meAt HM.out k (by omega)
      have HX : Hid (MeAt G w (me M k) xc xs xargs xo xlo xX xY xZ xaa xal xda xdl xsa xsl xha xhl) := MX
      have HE : Hid (agM L (me M k) (me M i) = agK L xc xs xo xargs yc ys yo yargs) := by show _ = _; rw [agM, MX.is, HY.out.is]
      have hxc : xc = -1 ∨ 0 ≤ xc ∧ xc < cn := by
        have h1 := HU.out
        rw [List.all_eq_true] at h1
        have h2 := h1 k (List.mem_range.2 hlk)
        rw [mtK, Bool.and_eq_true] at h2
        have h3 := methK_class h2.1
        rw [MX.is, HS.out] at h3
        exact h3
      have hyc : yc = -1 ∨ 0 ≤ yc ∧ yc < cn := by
        have h3 := methK_class g1
        rw [HS.out] at h3
        exact h3
      clear MX
      replace x0 := later1 (TR.out wx C3.out) x0
      replace x1 := later1 (TR.out wx C3.out) x1
      replace x2 := later1 (TR.out wx C3.out) x2
      replace x3 := later1 (TR.out wx C3.out) x3
      replace x4 := later1 (TR.out wx C3.out) x4
      replace x5 := later1 (TR.out wx C3.out) x5
      replace x6 := later1 (TR.out wx C3.out) x6
      replace x7 := later1 (TR.out wx C3.out) x7
      have hlkI : (k : Int) < (i : Int) := by omega
      have hmx : mb < wx.heap.size := by omega
      have hwx1 : w.heap.size < wx.heap.size := by omega
      have hwx2 : wv.heap.size < wx.heap.size := by omega
      have C4 : Hid (Below (wv.heap.size + 1) (wv.alloc (.cells #[.int .i64 yc, .int .i64 ys, .slice yaa yal yac, .int .i64 yo, .int .i64 ylo, .slice yda ydl ydc, .slice ysa ysl ysc, .slice yha yhl yhc] 68)) (wx.alloc (.cells #[.int .i64 xc, .int .i64 xs, .slice xaa xal xac, .int .i64 xo, .int .i64 xlo, .slice xda xdl xdc, .slice xsa xsl xsc, .slice xha xhl xhc] 68))) := C3.out.alloc hwx _
      go_wp2_with fail
      refine (agreeImpl _ _ _ _ _ _ _ _ _ _ _ _ _ _ _ _ _ _ _ _ _ _ _ _ _ _ _ _ _ _ _ _ _ _ _ _ _ _ _ xargs yargs L _ (H.out.later (box_below (TR.out _ C4.out))) OK.out (HX.out.args.ints.later (box_below (TR.out _ C4.out))) (HY.out.args.ints.later (box_below (TR.out _ C4.out))) hxc hyc).mono ?_
      rintro e w3 ⟨rfl, hb3⟩
      have C5 : Hid (Below (wv.heap.size + 1) (wv.alloc (.cells #[.int .i64 yc, .int .i64 ys, .slice yaa yal yac, .int .i64 yo, .int .i64 ylo, .slice yda ydl ydc, .slice ysa ysl ysc, .slice yha yhl yhc] 68)) w3) := C4.out.trans (hb3.mono (by simp; omega))
      clear hb3
      cases g2 : agK L xc xs xo xargs yc ys yo yargs
      · go_wp2_with fail
        go_ret
        exact ⟨by rw [range_false hlt (show mtK L M i = false by rw [mtK, range_false hlk (show agM L (me M k) (me M i) = false by rw [HE.out, g2]), Bool.and_false])]; rfl, box_below (TR.out _ C5.out)⟩
      · go_wp2_with fail
        exact ⟨⟨k + 1, by omega, by go_num, by rw [range_more, HV.out, HE.out, g2]; rfl, C5.out⟩, by simp [intOf]; omega⟩

end Go.Proofs.YthdlccadcadopaaGreat
