/-
  MachOk of the specification: what it says at every unit and every machine; it writes nothing that was there.
  What the program asks of the values of a machine and of its things: what it says; it writes nothing that was there.
  What the program asks of the things and the calls of a machine: what it says; it writes nothing that was there.
  What the program asks of the calls of a machine: what it says; it writes nothing that was there.
  MachOk of the program: what it says at every unit and every machine; it writes nothing that was there.
-/
import Derived.Test.YthdlccadcadopaaGreatMokP
import Derived.Test.YthdlccadcadopaaGreatUniC
import Derived.Test.YthdlccadcadopaaGreatFldI
import Derived.Test.YthdlccadcadopaaGreatUniH
namespace Go.Proofs.YthdlccadcadopaaGreat
open Go.ChangeShapes Go.WideShapes Go.ChangeAt Go.RowKit

def ob (X : List Ob) (i : Nat) : Ob := X.getD i (0, [])
def obI (L : List Cl) (X : List Ob) (i : Nat) : Bool := objM L X.length (ob X i) && (decide (7 ≤ i) || (ob X i).1 == 1)
def machM (L : List Cl) (M : List Me) (X : List Ob) (Fs : List Fr) (Sd : List Int) (st en : Int) (o0 : Bool) (o1 : Int) : Bool :=
  unitB L M && (inI st 0 200 && (inI X.length 7 207 && (decide (Fs.length ≤ 4) && (decide (Sd.length ≤ 200) && (valM X.length (o0, o1) && ((List.range X.length).all (obI L X) && (Fs.all (frM M X.length) && (Sd.all (fun d => inI d (-128) 127) && endM Fs.length en o0 o1))))))))
set_option maxRecDepth 100000 in
set_option maxHeartbeats 16000000 in
theorem machOkSpec (ca : Option Addr) (cn cc : Nat) (ma : Option Addr) (mn mc : Nat) (xa : Option Addr) (xl xc : Nat) (fa : Option Addr) (fl fc : Nat) (da : Option Addr) (dl dc : Nat) (st en : Int) (o0 : Bool) (o1 : Int) (L : List Cl) (M : List Me) (Xs : List Ob) (Fs : List Fr) (Sd : List Int) (w : World) {D E G P Q T : Nat → Prop} (h : ClsAt D E w ca cn L) (hM : SlAt meR G w ma mn M) (hX : SlAt obR P w xa xl Xs) (hF : SlAt frR Q w fa fl Fs) (hS : SlAt intR T w da dl Sd) :
    Calls Tryz.prog 15 #[.agg #[.slice ca cn cc, .slice ma mn mc], .agg #[.slice xa xl xc, .slice fa fl fc, .slice da dl dc, .int .i64 st, .int .i64 en, .bool o0, .int .i64 o1]] w fun e w' => e = .returned (.bool (machM L M Xs Fs Sd st en o0 o1)) ∧ Below w.heap.size w w' := by
  have H : Hid (ClsAt D E w ca cn L) := h
  have HM : Hid (SlAt meR G w ma mn M) := hM
  have HX : Hid (SlAt obR P w xa xl Xs) := hX
  have HFr : Hid (SlAt frR Q w fa fl Fs) := hF
  have HSd : Hid (SlAt intR T w da dl Sd) := hS
  have XS : Hid (Xs.length = xl) := hX.size
  have FrZ : Hid (Fs.length = fl) := hF.size
  have DS : Hid (Sd.length = dl) := hS.size
  have hxr := hX.room
  have hfr := hF.room
  have hdr := hS.room
  have HF : Hid (machM L M Xs Fs Sd st en o0 o1 = (unitB L M && (inI st 0 200 && (inI xl 7 207 && (decide (fl ≤ 4) && (decide (dl ≤ 200) && (valM xl (o0, o1) && ((List.range xl).all (obI L Xs) && (Fs.all (frM M xl) && (Sd.all (fun d => inI d (-128) 127) && endM fl en o0 o1)))))))))) := by show _ = _; rw [machM, hX.size, hF.size, hS.size]
  have B0 : Hid (Below w.heap.size w ((w.alloc (.cells #[.slice ca cn cc, .slice ma mn mc] 38)).alloc (.cells #[.slice xa xl xc, .slice fa fl fc, .slice da dl dc, .int .i64 st, .int .i64 en, .bool o0, .int .i64 o1] 33))) := ((Below.refl _ _).alloc (Nat.le_refl _) _).alloc (by simp) _
  have KS : Hid (∀ x : World, Below (w.heap.size + 1 + 1) ((w.alloc (.cells #[.slice ca cn cc, .slice ma mn mc] 38)).alloc (.cells #[.slice xa xl xc, .slice fa fl fc, .slice da dl dc, .int .i64 st, .int .i64 en, .bool o0, .int .i64 o1] 33)) x → x.cell? ⟨w.heap.size, 0, none⟩ = some (.slice ca cn cc) ∧ x.cell? ⟨w.heap.size, 1, none⟩ = some (.slice ma mn mc) ∧ x.cell? ⟨w.heap.size + 1, 0, none⟩ = some (.slice xa xl xc) ∧ x.cell? ⟨w.heap.size + 1, 1, none⟩ = some (.slice fa fl fc) ∧ x.cell? ⟨w.heap.size + 1, 2, none⟩ = some (.slice da dl dc) ∧ x.cell? ⟨w.heap.size + 1, 3, none⟩ = some (.int .i64 st) ∧ x.cell? ⟨w.heap.size + 1, 4, none⟩ = some (.int .i64 en) ∧ x.cell? ⟨w.heap.size + 1, 5, none⟩ = some (.bool o0) ∧ x.cell? ⟨w.heap.size + 1, 6, none⟩ = some (.int .i64 o1)) := fun x hb => by
    have a1 := (hb.block w.heap.size (by omega)).trans ((Below.heap_alloc _ _ _ (by simp)).trans (boxN _ _ _ _ rfl))
    have a2 := (hb.block (w.heap.size + 1) (by omega)).trans (boxN _ _ _ _ (by simp))
    exact ⟨(boxG a1 0).1, (boxG a1 1).1, (boxG a2 0).1, (boxG a2 1).1, (boxG a2 2).1, (boxG a2 3).1, (boxG a2 4).1, (boxG a2 5).1, (boxG a2 6).1⟩
  clear h hM hX hF hS
  go_enter Tryz.func15, Tryz.ntmps15
  go_wp2_with fail
  refine (unitSpec _ _ _ _ _ _ L M _ (H.out.later B0.out) (HM.out.later B0.out)).mono ?_
  rintro e w1 ⟨rfl, hb⟩
  have D1 : Hid (Below (w.heap.size + 1 + 1) ((w.alloc (.cells #[.slice ca cn cc, .slice ma mn mc] 38)).alloc (.cells #[.slice xa xl xc, .slice fa fl fc, .slice da dl dc, .int .i64 st, .int .i64 en, .bool o0, .int .i64 o1] 33)) w1) := by show Below _ _ _; simpa using hb
  have BB : Hid (Below w.heap.size w w1) := B0.out.trans (D1.out.mono (by omega))
  obtain ⟨k0, k1, k2, k3, k4, k5, k6, k7, k8⟩ := KS.out w1 D1.out
  clear hb
  cases hu : unitB L M
  · go_wp2_with fail
    go_ret
    exact ⟨by rw [HF.out, hu]; rfl, BB.out⟩
  have HU : Hid (unitB L M = true) := hu
  have OK : Hid (clsOk L = true) := unit_ok hu
  clear hu
  go_wp2_with fail
  refine (inSpec' _ _ _ _ rfl _).mono ?_
  rintro e wz ⟨rfl, rfl⟩
  cases h1 : inI st 0 200
  · go_wp2_with fail
    go_ret
    exact ⟨by rw [HF.out, HU.out, h1]; rfl, BB.out⟩
  go_wp2_with fail
  refine (inSpec' _ _ _ _ rfl _).mono ?_
  rintro e wz ⟨rfl, rfl⟩
  cases h2 : inI (xl : Int) 7 207
  · go_wp2_with fail
    go_ret
    exact ⟨by rw [HF.out, HU.out, h1, h2]; rfl, BB.out⟩
  by_cases h3 : fl ≤ 4
  case neg =>
    go_wp2_with fail
    go_ret
    exact ⟨by rw [HF.out, HU.out, h1, h2, decide_eq_false h3]; rfl, BB.out⟩
  by_cases h4 : dl ≤ 200
  case neg =>
    go_wp2_with fail
    go_ret
    exact ⟨by rw [HF.out, HU.out, h1, h2, decide_eq_true h3, decide_eq_false h4]; rfl, BB.out⟩
  go_wp2_with fail
  refine (l13ValSpec _ _ _ _).mono ?_
  rintro e w2 ⟨rfl, hb⟩
  replace D1 : Hid (Below (w.heap.size + 1 + 1) ((w.alloc (.cells #[.slice ca cn cc, .slice ma mn mc] 38)).alloc (.cells #[.slice xa xl xc, .slice fa fl fc, .slice da dl dc, .int .i64 st, .int .i64 en, .bool o0, .int .i64 o1] 33)) w2) := D1.out.trans (hb.mono (Nat.le_trans (Nat.le_of_eq (by simp)) D1.out.size))
  replace BB : Hid (Below w.heap.size w w2) := B0.out.trans (D1.out.mono (by omega))
  clear hb k0 k1 k2 k3 k4 k5 k6 k7 k8
  cases h5 : valM xl (o0, o1)
  · go_wp2_with fail
    go_ret
    exact ⟨by rw [HF.out, HU.out, h1, h2, decide_eq_true h3, decide_eq_true h4, h5]; rfl, BB.out⟩
  replace HF : Hid (machM L M Xs Fs Sd st en o0 o1 = ((List.range xl).all (obI L Xs) && (Fs.all (frM M xl) && (Sd.all (fun d => inI d (-128) 127) && endM fl en o0 o1)))) := by show _ = _; rw [HF.out, HU.out, h1, h2, decide_eq_true h3, decide_eq_true h4, h5]; rfl
  clear h1 h2 h5 HU
  go_wp2_with fail
  go_loopw [6] (fun t wr => ∃ k : Nat, k ≤ xl ∧ t = .int .i64 k ∧ (List.range k).all (obI L Xs) = true ∧ Below (w.heap.size + 1 + 1) ((w.alloc (.cells #[.slice ca cn cc, .slice ma mn mc] 38)).alloc (.cells #[.slice xa xl xc, .slice fa fl fc, .slice da dl dc, .int .i64 st, .int .i64 en, .bool o0, .int .i64 o1] 33)) wr) (fun t _ => xl - (intOf t).toNat)
  case atStart => exact ⟨0, Nat.zero_le _, rfl, rfl, D1.out⟩
  case round =>
  obtain ⟨k, hk, rfl, ha, hb⟩ := hrel
  have HA : Hid ((List.range k).all (obI L Xs) = true) := ha
  have HB : Hid (Below (w.heap.size + 1 + 1) ((w.alloc (.cells #[.slice ca cn cc, .slice ma mn mc] 38)).alloc (.cells #[.slice xa xl xc, .slice fa fl fc, .slice da dl dc, .int .i64 st, .int .i64 en, .bool o0, .int .i64 o1] 33)) wr) := hb
  have BW : Hid (Below w.heap.size w wr) := B0.out.trans (HB.out.mono (by omega))
  clear ha hb
  by_cases hlt : k < xl
  · obtain ⟨x, hx⟩ : ∃ x, Xs[k]? = some x := ⟨Xs[k]'(by rw [XS.out]; exact hlt), List.getElem?_eq_getElem _⟩
    have hob : ob Xs k = x := by rw [ob, List.getD_eq_getElem?_getD, hx]; rfl
    obtain ⟨b1, p1, rfl, _, us, hv, hc⟩ := (HX.out.later BW.out).at k x hx
    obtain ⟨x0, vs⟩ := x
    obtain ⟨_, _, rfl, ⟨rfl, _⟩, va, vl, vc, rfl, hvs⟩ := hv
    have c0 : wr.cell? ⟨b1, p1 + k * 2, none⟩ = some (.int .i64 x0) := hc 0 _ rfl
    have c1 : wr.cell? ⟨b1, p1 + k * 2 + 1, none⟩ = some (.slice va vl vc) := hc 1 _ rfl
    have hb1 : b1 < wr.heap.size := World.block_lt_of_cell? wr _ c0
    have HV : Hid (SlAt vaR P wr va vl vs) := hvs
    have KT : Hid (∀ x : World, Below (w.heap.size + 1 + 1) ((w.alloc (.cells #[.slice ca cn cc, .slice ma mn mc] 38)).alloc (.cells #[.slice (some ⟨b1, p1, none⟩) xl xc, .slice fa fl fc, .slice da dl dc, .int .i64 st, .int .i64 en, .bool o0, .int .i64 o1] 33)) x → Below wr.heap.size wr x → x.cell? ⟨w.heap.size, 0, none⟩ = some (.slice ca cn cc) ∧ x.cell? ⟨w.heap.size, 1, none⟩ = some (.slice ma mn mc) ∧ x.cell? ⟨w.heap.size + 1, 0, none⟩ = some (.slice (some ⟨b1, p1, none⟩) xl xc) ∧ x.cell? ⟨w.heap.size + 1, 1, none⟩ = some (.slice fa fl fc) ∧ x.cell? ⟨w.heap.size + 1, 2, none⟩ = some (.slice da dl dc) ∧ x.cell? ⟨w.heap.size + 1, 3, none⟩ = some (.int .i64 st) ∧ x.cell? ⟨w.heap.size + 1, 4, none⟩ = some (.int .i64 en) ∧ x.cell? ⟨w.heap.size + 1, 5, none⟩ = some (.bool o0) ∧ x.cell? ⟨w.heap.size + 1, 6, none⟩ = some (.int .i64 o1) ∧ x.cell? ⟨b1, p1 + k * 2, none⟩ = some (.int .i64 x0) ∧ x.cell? ⟨b1, p1 + k * 2 + 1, none⟩ = some (.slice va vl vc)) := fun x hb hw => by
      have a1 := (hb.block w.heap.size (by omega)).trans ((Below.heap_alloc _ _ _ (by simp)).trans (boxN _ _ _ _ rfl))
      have a2 := (hb.block (w.heap.size + 1) (by omega)).trans (boxN _ _ _ _ (by simp))
      exact ⟨(boxG a1 0).1, (boxG a1 1).1, (boxG a2 0).1, (boxG a2 1).1, (boxG a2 2).1, (boxG a2 3).1, (boxG a2 4).1, (boxG a2 5).1, (boxG a2 6).1, (hw.cell (p := ⟨b1, _, none⟩) hb1).trans c0, (hw.cell (p := ⟨b1, _, none⟩) hb1).trans c1⟩
    have DW : Hid (Below wr.heap.size wr (wr.drewN 1)) := bdrew (Below.refl _ _)
    have D1 : Hid (Below (w.heap.size + 1 + 1) ((w.alloc (.cells #[.slice ca cn cc, .slice ma mn mc] 38)).alloc (.cells #[.slice (some ⟨b1, p1, none⟩) xl xc, .slice fa fl fc, .slice da dl dc, .int .i64 st, .int .i64 en, .bool o0, .int .i64 o1] 33)) (wr.drewN 1)) := bdrew HB.out
    obtain ⟨q, hq⟩ : ∃ q, objM L xl (x0, vs) = q := ⟨_, rfl⟩
    have HQ : Hid (objM L xl (x0, vs) = q) := hq
    have HI : Hid (obI L Xs k = (q && (decide (7 ≤ k) || x0 == 1))) := by show _ = _; rw [obI, hob, XS.out, hq]
    obtain ⟨k0, k1, k2, k3, k4, k5, k6, k7, k8, kx, ky⟩ := KT.out wr HB.out (Below.refl _ _)
    clear hx hc hvs c0 c1 hq hob
    go_wp2_with fail
    clear k0 k1 k2 k3 k4 k5 k6 k7 k8 kx ky
    cases q
    · have HI2 : Hid (obI L Xs k = false) := HI.out
      refine wp_region_held_drew (S := fun x => x.cell? ⟨w.heap.size, 0, none⟩ = some (.slice ca cn cc) ∧ x.cell? ⟨w.heap.size, 1, none⟩ = some (.slice ma mn mc) ∧ x.cell? ⟨w.heap.size + 1, 0, none⟩ = some (.slice (some ⟨b1, p1, none⟩) xl xc) ∧ x.cell? ⟨w.heap.size + 1, 1, none⟩ = some (.slice fa fl fc) ∧ x.cell? ⟨w.heap.size + 1, 2, none⟩ = some (.slice da dl dc) ∧ x.cell? ⟨w.heap.size + 1, 3, none⟩ = some (.int .i64 st) ∧ x.cell? ⟨w.heap.size + 1, 4, none⟩ = some (.int .i64 en) ∧ x.cell? ⟨w.heap.size + 1, 5, none⟩ = some (.bool o0) ∧ x.cell? ⟨w.heap.size + 1, 6, none⟩ = some (.int .i64 o1) ∧ x.cell? ⟨b1, p1 + k * 2, none⟩ = some (.int .i64 x0) ∧ x.cell? ⟨b1, p1 + k * 2 + 1, none⟩ = some (.slice va vl vc)) (by kernel_rfl) ?_ (fun hHeld => ?_)
      · exact KT.out _ D1.out DW.out
      refine wpAnyH_take (i := 0) (v := .agg #[.slice ca cn cc, .slice ma mn mc]) rfl (by kernel_rfl) (by kernel_rfl) (by kernel_rfl) (fun _ _ _ h => h) (Or.inl ⟨by kernel_rfl, by (intro x hSx; (try dsimp only at hSx); go_simp)⟩) (by assumption) ?_
      try simp only [Act.put, List.getElem_toArray, List.getElem_cons_zero, List.setIfInBounds_toArray, List.set_cons_zero, List.set_cons_succ]
      refine wpAnyH_take (i := 1) (v := .pointer (some ⟨w.heap.size + 1, 0, none⟩)) rfl (by kernel_rfl) (by kernel_rfl) (by kernel_rfl) (fun _ _ _ h => h) (Or.inl ⟨by kernel_rfl, by (intro x hSx; (try dsimp only at hSx); go_simp)⟩) (by assumption) ?_
      try simp only [Act.put, List.getElem_toArray, List.getElem_cons_zero, List.getElem_cons_succ, List.setIfInBounds_toArray, List.set_cons_zero, List.set_cons_succ]
      refine wpAnyH_take (i := 2) (v := .slice (some ⟨b1, p1, none⟩) xl xc) rfl (by kernel_rfl) (by kernel_rfl) (by kernel_rfl) (fun _ _ _ h => h) (Or.inl ⟨by kernel_rfl, by (intro x hSx; (try dsimp only at hSx); go_simp)⟩) (by assumption) ?_
      try simp only [Act.put, List.getElem_toArray, List.getElem_cons_zero, List.getElem_cons_succ, List.setIfInBounds_toArray, List.set_cons_zero, List.set_cons_succ]
      refine wpAnyH_take (i := 3) (v := .int .i64 k) rfl (by kernel_rfl) (by kernel_rfl) (by kernel_rfl) (fun _ _ _ h => h) (Or.inl ⟨by kernel_rfl, by (intro x hSx; (try dsimp only at hSx); go_simp)⟩) (by assumption) ?_
      try simp only [Act.put, List.getElem_toArray, List.getElem_cons_zero, List.getElem_cons_succ, List.setIfInBounds_toArray, List.set_cons_zero, List.set_cons_succ]
      refine wpAnyH_take (i := 4) (v := .pointer (some ⟨b1, p1 + k * 2, none⟩)) rfl (by kernel_rfl) (by kernel_rfl) (by kernel_rfl) (fun _ _ _ h => h) (Or.inl ⟨by kernel_rfl, by (intro x hSx; (try dsimp only at hSx); go_simp)⟩) (by assumption) ?_
      try simp only [Act.put, List.getElem_toArray, List.getElem_cons_zero, List.getElem_cons_succ, List.setIfInBounds_toArray, List.set_cons_zero, List.set_cons_succ]
      refine wpAnyH_take (i := 5) (v := .agg #[.int .i64 x0, .slice va vl vc]) rfl (by kernel_rfl) (by kernel_rfl) (by kernel_rfl) (fun _ _ _ h => h) (Or.inl ⟨by kernel_rfl, by (intro x hSx; (try dsimp only at hSx); go_simp)⟩) (by assumption) ?_
      try simp only [Act.put, List.getElem_toArray, List.getElem_cons_zero, List.getElem_cons_succ, List.setIfInBounds_toArray, List.set_cons_zero, List.set_cons_succ]
      refine wpAnyH_take (i := 6) (v := .int .i64 xl) rfl (by kernel_rfl) (by kernel_rfl) (by kernel_rfl) (fun _ _ _ h => h) (Or.inl ⟨by kernel_rfl, by (intro x hSx; (try dsimp only at hSx); go_simp)⟩) (by assumption) ?_
      try simp only [Act.put, List.getElem_toArray, List.getElem_cons_zero, List.getElem_cons_succ, List.setIfInBounds_toArray, List.set_cons_zero, List.set_cons_succ]
      refine wpAnyH_ready (rs := [7]) (by kernel_rfl) (by simp) ?_
      refine AllReadyH.cons rfl (fun K hK => ?_) AllReadyH.nil
      go_simp
      go_at_call 46
      refine (l13ObjSpec _ _ _ _ _ _ _ _ _ _ vs xl L _ (H.out.later (B0.out.trans (D1.out.mono (by omega)))) OK.out (HV.out.later DW.out)).mono ?_
      rintro e w2 ⟨rfl, hb⟩
      have D2 : Hid (Below (w.heap.size + 1 + 1) ((w.alloc (.cells #[.slice ca cn cc, .slice ma mn mc] 38)).alloc (.cells #[.slice (some ⟨b1, p1, none⟩) xl xc, .slice fa fl fc, .slice da dl dc, .int .i64 st, .int .i64 en, .bool o0, .int .i64 o1] 33)) w2) := D1.out.trans (hb.mono (Nat.le_trans (Nat.le_of_eq (by simp)) D1.out.size))
      have E2 : Hid (Below wr.heap.size wr w2) := DW.out.trans (hb.mono DW.out.size)
      clear hb
      rw [HQ.out]
      go_wp2_with fail
      refine hK.out _ _ (KT.out _ D2.out E2.out) (fun hHeld2 => ?_)
      clear hK K
      try simp only [Act.put, List.getElem_toArray, List.getElem_cons_zero, List.getElem_cons_succ, List.setIfInBounds_toArray, List.set_cons_zero, List.set_cons_succ]
      refine wpAnyH_take (i := 8) (v := .bool true) rfl (by kernel_rfl) (by kernel_rfl) (by kernel_rfl) (fun _ _ _ h => h) (Or.inl ⟨by kernel_rfl, by (intro x hSx; (try dsimp only at hSx); go_simp)⟩) (by assumption) ?_
      try simp only [Act.put, List.getElem_toArray, List.getElem_cons_zero, List.getElem_cons_succ, List.setIfInBounds_toArray, List.set_cons_zero, List.set_cons_succ]
      refine wpAnyH_take (i := 9) (v := .bool true) rfl (by kernel_rfl) (by kernel_rfl) (by kernel_rfl) (fun _ _ _ h => h) (Or.inl ⟨by kernel_rfl, by (intro x hSx; (try dsimp only at hSx); go_simp)⟩) (by assumption) ?_
      try simp only [Act.put, List.getElem_toArray, List.getElem_cons_zero, List.getElem_cons_succ, List.setIfInBounds_toArray, List.set_cons_zero, List.set_cons_succ]
      refine wpAnyH_take (i := 10) (v := undef) rfl (by kernel_rfl) (by kernel_rfl) (by kernel_rfl) (fun _ _ _ h => h) (Or.inr ⟨by kernel_rfl, rfl⟩) (by assumption) ?_
      try simp only [Act.put, List.getElem_toArray, List.getElem_cons_zero, List.getElem_cons_succ, List.setIfInBounds_toArray, List.set_cons_zero, List.set_cons_succ]
      refine wpAnyH_take (i := 11) (v := undef) rfl (by kernel_rfl) (by kernel_rfl) (by kernel_rfl) (fun _ _ _ h => h) (Or.inr ⟨by kernel_rfl, rfl⟩) (by assumption) ?_
      try simp only [Act.put, List.getElem_toArray, List.getElem_cons_zero, List.getElem_cons_succ, List.setIfInBounds_toArray, List.set_cons_zero, List.set_cons_succ]
      refine wpAnyH_take (i := 12) (v := undef) rfl (by kernel_rfl) (by kernel_rfl) (by kernel_rfl) (fun _ _ _ h => h) (Or.inr ⟨by kernel_rfl, rfl⟩) (by assumption) ?_
      try simp only [Act.put, List.getElem_toArray, List.getElem_cons_zero, List.getElem_cons_succ, List.setIfInBounds_toArray, List.set_cons_zero, List.set_cons_succ]
      refine wpAnyH_take (i := 13) (v := undef) rfl (by kernel_rfl) (by kernel_rfl) (by kernel_rfl) (fun _ _ _ h => h) (Or.inr ⟨by kernel_rfl, rfl⟩) (by assumption) ?_
      try simp only [Act.put, List.getElem_toArray, List.getElem_cons_zero, List.getElem_cons_succ, List.setIfInBounds_toArray, List.set_cons_zero, List.set_cons_succ]
      refine wpAnyH_take (i := 14) (v := undef) rfl (by kernel_rfl) (by kernel_rfl) (by kernel_rfl) (fun _ _ _ h => h) (Or.inr ⟨by kernel_rfl, rfl⟩) (by assumption) ?_
      try simp only [Act.put, List.getElem_toArray, List.getElem_cons_zero, List.getElem_cons_succ, List.setIfInBounds_toArray, List.set_cons_zero, List.set_cons_succ]
      refine wpAnyH_take (i := 15) (v := undef) rfl (by kernel_rfl) (by kernel_rfl) (by kernel_rfl) (fun _ _ _ h => h) (Or.inr ⟨by kernel_rfl, rfl⟩) (by assumption) ?_
      try simp only [Act.put, List.getElem_toArray, List.getElem_cons_zero, List.getElem_cons_succ, List.setIfInBounds_toArray, List.set_cons_zero, List.set_cons_succ]
      refine wpAnyH_take (i := 16) (v := undef) rfl (by kernel_rfl) (by kernel_rfl) (by kernel_rfl) (fun _ _ _ h => h) (Or.inr ⟨by kernel_rfl, rfl⟩) (by assumption) ?_
      try simp only [Act.put, List.getElem_toArray, List.getElem_cons_zero, List.getElem_cons_succ, List.setIfInBounds_toArray, List.set_cons_zero, List.set_cons_succ]
      refine wpAnyH_take (i := 17) (v := undef) rfl (by kernel_rfl) (by kernel_rfl) (by kernel_rfl) (fun _ _ _ h => h) (Or.inr ⟨by kernel_rfl, rfl⟩) (by assumption) ?_
      try simp only [Act.put, List.getElem_toArray, List.getElem_cons_zero, List.getElem_cons_succ, List.setIfInBounds_toArray, List.set_cons_zero, List.set_cons_succ]
      refine wpAnyH_take (i := 18) (v := undef) rfl (by kernel_rfl) (by kernel_rfl) (by kernel_rfl) (fun _ _ _ h => h) (Or.inr ⟨by kernel_rfl, rfl⟩) (by assumption) ?_
      try simp only [Act.put, List.getElem_toArray, List.getElem_cons_zero, List.getElem_cons_succ, List.setIfInBounds_toArray, List.set_cons_zero, List.set_cons_succ]
      refine wpAnyH_take (i := 19) (v := undef) rfl (by kernel_rfl) (by kernel_rfl) (by kernel_rfl) (fun _ _ _ h => h) (Or.inr ⟨by kernel_rfl, rfl⟩) (by assumption) ?_
      try simp only [Act.put, List.getElem_toArray, List.getElem_cons_zero, List.getElem_cons_succ, List.setIfInBounds_toArray, List.set_cons_zero, List.set_cons_succ]
      refine wpAnyH_take (i := 20) (v := undef) rfl (by kernel_rfl) (by kernel_rfl) (by kernel_rfl) (fun _ _ _ h => h) (Or.inr ⟨by kernel_rfl, rfl⟩) (by assumption) ?_
      try simp only [Act.put, List.getElem_toArray, List.getElem_cons_zero, List.getElem_cons_succ, List.setIfInBounds_toArray, List.set_cons_zero, List.set_cons_succ]
      refine wpAnyH_take (i := 21) (v := .bool true) rfl (by kernel_rfl) (by kernel_rfl) (by kernel_rfl) (fun _ _ _ h => h) (Or.inl ⟨by kernel_rfl, by (intro x hSx; (try dsimp only at hSx); go_simp)⟩) (by assumption) ?_
      try simp only [Act.put, List.getElem_toArray, List.getElem_cons_zero, List.getElem_cons_succ, List.setIfInBounds_toArray, List.set_cons_zero, List.set_cons_succ]
      refine wpAnyH_done (by kernel_rfl) ?_ _
      clear hHeld hHeld2
      go_wp2_with fail
      go_ret
      exact ⟨by rw [HF.out, range_false hlt HI2.out]; rfl, BW.out.trans (E2.out.mono BW.out.size)⟩
    · by_cases h7 : k < 7
      · have h7' : ((k : Int) < 7) := by omega
        refine wp_region_held_drew (S := fun x => x.cell? ⟨w.heap.size, 0, none⟩ = some (.slice ca cn cc) ∧ x.cell? ⟨w.heap.size, 1, none⟩ = some (.slice ma mn mc) ∧ x.cell? ⟨w.heap.size + 1, 0, none⟩ = some (.slice (some ⟨b1, p1, none⟩) xl xc) ∧ x.cell? ⟨w.heap.size + 1, 1, none⟩ = some (.slice fa fl fc) ∧ x.cell? ⟨w.heap.size + 1, 2, none⟩ = some (.slice da dl dc) ∧ x.cell? ⟨w.heap.size + 1, 3, none⟩ = some (.int .i64 st) ∧ x.cell? ⟨w.heap.size + 1, 4, none⟩ = some (.int .i64 en) ∧ x.cell? ⟨w.heap.size + 1, 5, none⟩ = some (.bool o0) ∧ x.cell? ⟨w.heap.size + 1, 6, none⟩ = some (.int .i64 o1) ∧ x.cell? ⟨b1, p1 + k * 2, none⟩ = some (.int .i64 x0) ∧ x.cell? ⟨b1, p1 + k * 2 + 1, none⟩ = some (.slice va vl vc)) (by kernel_rfl) ?_ (fun hHeld => ?_)
        · exact KT.out _ D1.out DW.out
        refine wpAnyH_take (i := 0) (v := .agg #[.slice ca cn cc, .slice ma mn mc]) rfl (by kernel_rfl) (by kernel_rfl) (by kernel_rfl) (fun _ _ _ h => h) (Or.inl ⟨by kernel_rfl, by (intro x hSx; (try dsimp only at hSx); go_simp)⟩) (by assumption) ?_
        try simp only [Act.put, List.getElem_toArray, List.getElem_cons_zero, List.setIfInBounds_toArray, List.set_cons_zero, List.set_cons_succ]
        refine wpAnyH_take (i := 1) (v := .pointer (some ⟨w.heap.size + 1, 0, none⟩)) rfl (by kernel_rfl) (by kernel_rfl) (by kernel_rfl) (fun _ _ _ h => h) (Or.inl ⟨by kernel_rfl, by (intro x hSx; (try dsimp only at hSx); go_simp)⟩) (by assumption) ?_
        try simp only [Act.put, List.getElem_toArray, List.getElem_cons_zero, List.getElem_cons_succ, List.setIfInBounds_toArray, List.set_cons_zero, List.set_cons_succ]
        refine wpAnyH_take (i := 2) (v := .slice (some ⟨b1, p1, none⟩) xl xc) rfl (by kernel_rfl) (by kernel_rfl) (by kernel_rfl) (fun _ _ _ h => h) (Or.inl ⟨by kernel_rfl, by (intro x hSx; (try dsimp only at hSx); go_simp)⟩) (by assumption) ?_
        try simp only [Act.put, List.getElem_toArray, List.getElem_cons_zero, List.getElem_cons_succ, List.setIfInBounds_toArray, List.set_cons_zero, List.set_cons_succ]
        refine wpAnyH_take (i := 3) (v := .int .i64 k) rfl (by kernel_rfl) (by kernel_rfl) (by kernel_rfl) (fun _ _ _ h => h) (Or.inl ⟨by kernel_rfl, by (intro x hSx; (try dsimp only at hSx); go_simp)⟩) (by assumption) ?_
        try simp only [Act.put, List.getElem_toArray, List.getElem_cons_zero, List.getElem_cons_succ, List.setIfInBounds_toArray, List.set_cons_zero, List.set_cons_succ]
        refine wpAnyH_take (i := 4) (v := .pointer (some ⟨b1, p1 + k * 2, none⟩)) rfl (by kernel_rfl) (by kernel_rfl) (by kernel_rfl) (fun _ _ _ h => h) (Or.inl ⟨by kernel_rfl, by (intro x hSx; (try dsimp only at hSx); go_simp)⟩) (by assumption) ?_
        try simp only [Act.put, List.getElem_toArray, List.getElem_cons_zero, List.getElem_cons_succ, List.setIfInBounds_toArray, List.set_cons_zero, List.set_cons_succ]
        refine wpAnyH_take (i := 5) (v := .agg #[.int .i64 x0, .slice va vl vc]) rfl (by kernel_rfl) (by kernel_rfl) (by kernel_rfl) (fun _ _ _ h => h) (Or.inl ⟨by kernel_rfl, by (intro x hSx; (try dsimp only at hSx); go_simp)⟩) (by assumption) ?_
        try simp only [Act.put, List.getElem_toArray, List.getElem_cons_zero, List.getElem_cons_succ, List.setIfInBounds_toArray, List.set_cons_zero, List.set_cons_succ]
        refine wpAnyH_take (i := 6) (v := .int .i64 xl) rfl (by kernel_rfl) (by kernel_rfl) (by kernel_rfl) (fun _ _ _ h => h) (Or.inl ⟨by kernel_rfl, by (intro x hSx; (try dsimp only at hSx); go_simp)⟩) (by assumption) ?_
        try simp only [Act.put, List.getElem_toArray, List.getElem_cons_zero, List.getElem_cons_succ, List.setIfInBounds_toArray, List.set_cons_zero, List.set_cons_succ]
        refine wpAnyH_ready (rs := [7]) (by kernel_rfl) (by simp) ?_
        refine AllReadyH.cons rfl (fun K hK => ?_) AllReadyH.nil
        go_simp
        go_at_call 46
        refine (l13ObjSpec _ _ _ _ _ _ _ _ _ _ vs xl L _ (H.out.later (B0.out.trans (D1.out.mono (by omega)))) OK.out (HV.out.later DW.out)).mono ?_
        rintro e w2 ⟨rfl, hb⟩
        have D2 : Hid (Below (w.heap.size + 1 + 1) ((w.alloc (.cells #[.slice ca cn cc, .slice ma mn mc] 38)).alloc (.cells #[.slice (some ⟨b1, p1, none⟩) xl xc, .slice fa fl fc, .slice da dl dc, .int .i64 st, .int .i64 en, .bool o0, .int .i64 o1] 33)) w2) := D1.out.trans (hb.mono (Nat.le_trans (Nat.le_of_eq (by simp)) D1.out.size))
        have E2 : Hid (Below wr.heap.size wr w2) := DW.out.trans (hb.mono DW.out.size)
        clear hb
        rw [HQ.out]
        go_wp2_with fail
        refine hK.out _ _ (KT.out _ D2.out E2.out) (fun hHeld2 => ?_)
        clear hK K
        try simp only [Act.put, List.getElem_toArray, List.getElem_cons_zero, List.getElem_cons_succ, List.setIfInBounds_toArray, List.set_cons_zero, List.set_cons_succ]
        refine wpAnyH_take (i := 8) (v := .bool false) rfl (by kernel_rfl) (by kernel_rfl) (by kernel_rfl) (fun _ _ _ h => h) (Or.inl ⟨by kernel_rfl, by (intro x hSx; (try dsimp only at hSx); go_simp)⟩) (by assumption) ?_
        try simp only [Act.put, List.getElem_toArray, List.getElem_cons_zero, List.getElem_cons_succ, List.setIfInBounds_toArray, List.set_cons_zero, List.set_cons_succ]
        refine wpAnyH_take (i := 9) (v := .bool false) rfl (by kernel_rfl) (by kernel_rfl) (by kernel_rfl) (fun _ _ _ h => h) (Or.inl ⟨by kernel_rfl, by (intro x hSx; (try dsimp only at hSx); go_simp)⟩) (by assumption) ?_
        try simp only [Act.put, List.getElem_toArray, List.getElem_cons_zero, List.getElem_cons_succ, List.setIfInBounds_toArray, List.set_cons_zero, List.set_cons_succ]
        refine wpAnyH_take (i := 10) (v := .int .i64 k) rfl (by kernel_rfl) (by kernel_rfl) (by kernel_rfl) (fun _ _ _ h => h) (Or.inl ⟨by kernel_rfl, by (intro x hSx; (try dsimp only at hSx); go_simp)⟩) (by assumption) ?_
        try simp only [Act.put, List.getElem_toArray, List.getElem_cons_zero, List.getElem_cons_succ, List.setIfInBounds_toArray, List.set_cons_zero, List.set_cons_succ]
        refine wpAnyH_take (i := 11) (v := .bool true) rfl (by kernel_rfl) (by kernel_rfl) (by kernel_rfl) (fun _ _ _ h => h) (Or.inl ⟨by kernel_rfl, by (intro x hSx; (try dsimp only at hSx); go_simp)⟩) (by assumption) ?_
        try simp only [Act.put, List.getElem_toArray, List.getElem_cons_zero, List.getElem_cons_succ, List.setIfInBounds_toArray, List.set_cons_zero, List.set_cons_succ]
        refine wpAnyH_take (i := 12) (v := .bool true) rfl (by kernel_rfl) (by kernel_rfl) (by kernel_rfl) (fun _ _ _ h => h) (Or.inl ⟨by kernel_rfl, by (intro x hSx; (try dsimp only at hSx); go_simp)⟩) (by assumption) ?_
        try simp only [Act.put, List.getElem_toArray, List.getElem_cons_zero, List.getElem_cons_succ, List.setIfInBounds_toArray, List.set_cons_zero, List.set_cons_succ]
        refine wpAnyH_take (i := 13) (v := .pointer (some ⟨w.heap.size + 1, 0, none⟩)) rfl (by kernel_rfl) (by kernel_rfl) (by kernel_rfl) (fun _ _ _ h => h) (Or.inl ⟨by kernel_rfl, by (intro x hSx; (try dsimp only at hSx); go_simp)⟩) (by assumption) ?_
        try simp only [Act.put, List.getElem_toArray, List.getElem_cons_zero, List.getElem_cons_succ, List.setIfInBounds_toArray, List.set_cons_zero, List.set_cons_succ]
        refine wpAnyH_take (i := 14) (v := .slice (some ⟨b1, p1, none⟩) xl xc) rfl (by kernel_rfl) (by kernel_rfl) (by kernel_rfl) (fun _ _ _ h => h) (Or.inl ⟨by kernel_rfl, by (intro x hSx; (try dsimp only at hSx); go_simp)⟩) (by assumption) ?_
        try simp only [Act.put, List.getElem_toArray, List.getElem_cons_zero, List.getElem_cons_succ, List.setIfInBounds_toArray, List.set_cons_zero, List.set_cons_succ]
        refine wpAnyH_take (i := 15) (v := .int .i64 k) rfl (by kernel_rfl) (by kernel_rfl) (by kernel_rfl) (fun _ _ _ h => h) (Or.inl ⟨by kernel_rfl, by (intro x hSx; (try dsimp only at hSx); go_simp)⟩) (by assumption) ?_
        try simp only [Act.put, List.getElem_toArray, List.getElem_cons_zero, List.getElem_cons_succ, List.setIfInBounds_toArray, List.set_cons_zero, List.set_cons_succ]
        refine wpAnyH_take (i := 16) (v := .pointer (some ⟨b1, p1 + k * 2, none⟩)) rfl (by kernel_rfl) (by kernel_rfl) (by kernel_rfl) (fun _ _ _ h => h) (Or.inl ⟨by kernel_rfl, by (intro x hSx; (try dsimp only at hSx); go_simp)⟩) (by assumption) ?_
        try simp only [Act.put, List.getElem_toArray, List.getElem_cons_zero, List.getElem_cons_succ, List.setIfInBounds_toArray, List.set_cons_zero, List.set_cons_succ]
        refine wpAnyH_take (i := 17) (v := .pointer (some ⟨b1, p1 + k * 2, none⟩)) rfl (by kernel_rfl) (by kernel_rfl) (by kernel_rfl) (fun _ _ _ h => h) (Or.inl ⟨by kernel_rfl, by (intro x hSx; (try dsimp only at hSx); go_simp)⟩) (by assumption) ?_
        try simp only [Act.put, List.getElem_toArray, List.getElem_cons_zero, List.getElem_cons_succ, List.setIfInBounds_toArray, List.set_cons_zero, List.set_cons_succ]
        refine wpAnyH_take (i := 18) (v := .int .i64 x0) rfl (by kernel_rfl) (by kernel_rfl) (by kernel_rfl) (fun _ _ _ h => h) (Or.inl ⟨by kernel_rfl, by (intro x hSx; (try dsimp only at hSx); go_simp)⟩) (by assumption) ?_
        try simp only [Act.put, List.getElem_toArray, List.getElem_cons_zero, List.getElem_cons_succ, List.setIfInBounds_toArray, List.set_cons_zero, List.set_cons_succ]
        refine wpAnyH_take (i := 19) (v := .bool (x0 != 1)) rfl (by kernel_rfl) (by kernel_rfl) (by kernel_rfl) (fun _ _ _ h => h) (Or.inl ⟨by kernel_rfl, by (intro x hSx; (try dsimp only at hSx); go_simp)⟩) (by assumption) ?_
        try simp only [Act.put, List.getElem_toArray, List.getElem_cons_zero, List.getElem_cons_succ, List.setIfInBounds_toArray, List.set_cons_zero, List.set_cons_succ]
        refine wpAnyH_take (i := 20) (v := .bool (x0 != 1)) rfl (by kernel_rfl) (by kernel_rfl) (by kernel_rfl) (fun _ _ _ h => h) (Or.inl ⟨by kernel_rfl, by (intro x hSx; (try dsimp only at hSx); go_simp)⟩) (by assumption) ?_
        try simp only [Act.put, List.getElem_toArray, List.getElem_cons_zero, List.getElem_cons_succ, List.setIfInBounds_toArray, List.set_cons_zero, List.set_cons_succ]
        refine wpAnyH_take (i := 21) (v := .bool (x0 != 1)) rfl (by kernel_rfl) (by kernel_rfl) (by kernel_rfl) (fun _ _ _ h => h) (Or.inl ⟨by kernel_rfl, by (intro x hSx; (try dsimp only at hSx); go_simp)⟩) (by assumption) ?_
        try simp only [Act.put, List.getElem_toArray, List.getElem_cons_zero, List.getElem_cons_succ, List.setIfInBounds_toArray, List.set_cons_zero, List.set_cons_succ]
        refine wpAnyH_done (by kernel_rfl) ?_ _
        clear hHeld hHeld2
        by_cases hc1 : x0 = 1
        · have hc2 : (x0 != 1) = false := by simp [hc1]
          have HI2 : Hid (obI L Xs k = true) := by show _ = _; rw [HI.out]; simp [hc1]
          rw [hc2]
          go_wp2_with fail
          exact ⟨⟨k + 1, by omega, by go_num, by rw [range_more, HA.out, HI2.out]; rfl, D2.out⟩, by simp [intOf]; omega⟩
        · have hc2 : (x0 != 1) = true := by simp [hc1]
          have HI2 : Hid (obI L Xs k = false) := by show _ = _; rw [HI.out]; simp [hc1]; omega
          rw [hc2]
          go_wp2_with fail
          go_ret
          exact ⟨by rw [HF.out, range_false hlt HI2.out]; rfl, BW.out.trans (E2.out.mono BW.out.size)⟩
      · have h7' : ¬ ((k : Int) < 7) := by omega
        have HI2 : Hid (obI L Xs k = true) := by show _ = _; rw [HI.out]; simp; omega
        refine wp_region_held_drew (S := fun x => x.cell? ⟨w.heap.size, 0, none⟩ = some (.slice ca cn cc) ∧ x.cell? ⟨w.heap.size, 1, none⟩ = some (.slice ma mn mc) ∧ x.cell? ⟨w.heap.size + 1, 0, none⟩ = some (.slice (some ⟨b1, p1, none⟩) xl xc) ∧ x.cell? ⟨w.heap.size + 1, 1, none⟩ = some (.slice fa fl fc) ∧ x.cell? ⟨w.heap.size + 1, 2, none⟩ = some (.slice da dl dc) ∧ x.cell? ⟨w.heap.size + 1, 3, none⟩ = some (.int .i64 st) ∧ x.cell? ⟨w.heap.size + 1, 4, none⟩ = some (.int .i64 en) ∧ x.cell? ⟨w.heap.size + 1, 5, none⟩ = some (.bool o0) ∧ x.cell? ⟨w.heap.size + 1, 6, none⟩ = some (.int .i64 o1) ∧ x.cell? ⟨b1, p1 + k * 2, none⟩ = some (.int .i64 x0) ∧ x.cell? ⟨b1, p1 + k * 2 + 1, none⟩ = some (.slice va vl vc)) (by kernel_rfl) ?_ (fun hHeld => ?_)
        · exact KT.out _ D1.out DW.out
        refine wpAnyH_take (i := 0) (v := .agg #[.slice ca cn cc, .slice ma mn mc]) rfl (by kernel_rfl) (by kernel_rfl) (by kernel_rfl) (fun _ _ _ h => h) (Or.inl ⟨by kernel_rfl, by (intro x hSx; (try dsimp only at hSx); go_simp)⟩) (by assumption) ?_
        try simp only [Act.put, List.getElem_toArray, List.getElem_cons_zero, List.setIfInBounds_toArray, List.set_cons_zero, List.set_cons_succ]
        refine wpAnyH_take (i := 1) (v := .pointer (some ⟨w.heap.size + 1, 0, none⟩)) rfl (by kernel_rfl) (by kernel_rfl) (by kernel_rfl) (fun _ _ _ h => h) (Or.inl ⟨by kernel_rfl, by (intro x hSx; (try dsimp only at hSx); go_simp)⟩) (by assumption) ?_
        try simp only [Act.put, List.getElem_toArray, List.getElem_cons_zero, List.getElem_cons_succ, List.setIfInBounds_toArray, List.set_cons_zero, List.set_cons_succ]
        refine wpAnyH_take (i := 2) (v := .slice (some ⟨b1, p1, none⟩) xl xc) rfl (by kernel_rfl) (by kernel_rfl) (by kernel_rfl) (fun _ _ _ h => h) (Or.inl ⟨by kernel_rfl, by (intro x hSx; (try dsimp only at hSx); go_simp)⟩) (by assumption) ?_
        try simp only [Act.put, List.getElem_toArray, List.getElem_cons_zero, List.getElem_cons_succ, List.setIfInBounds_toArray, List.set_cons_zero, List.set_cons_succ]
        refine wpAnyH_take (i := 3) (v := .int .i64 k) rfl (by kernel_rfl) (by kernel_rfl) (by kernel_rfl) (fun _ _ _ h => h) (Or.inl ⟨by kernel_rfl, by (intro x hSx; (try dsimp only at hSx); go_simp)⟩) (by assumption) ?_
        try simp only [Act.put, List.getElem_toArray, List.getElem_cons_zero, List.getElem_cons_succ, List.setIfInBounds_toArray, List.set_cons_zero, List.set_cons_succ]
        refine wpAnyH_take (i := 4) (v := .pointer (some ⟨b1, p1 + k * 2, none⟩)) rfl (by kernel_rfl) (by kernel_rfl) (by kernel_rfl) (fun _ _ _ h => h) (Or.inl ⟨by kernel_rfl, by (intro x hSx; (try dsimp only at hSx); go_simp)⟩) (by assumption) ?_
        try simp only [Act.put, List.getElem_toArray, List.getElem_cons_zero, List.getElem_cons_succ, List.setIfInBounds_toArray, List.set_cons_zero, List.set_cons_succ]
        refine wpAnyH_take (i := 5) (v := .agg #[.int .i64 x0, .slice va vl vc]) rfl (by kernel_rfl) (by kernel_rfl) (by kernel_rfl) (fun _ _ _ h => h) (Or.inl ⟨by kernel_rfl, by (intro x hSx; (try dsimp only at hSx); go_simp)⟩) (by assumption) ?_
        try simp only [Act.put, List.getElem_toArray, List.getElem_cons_zero, List.getElem_cons_succ, List.setIfInBounds_toArray, List.set_cons_zero, List.set_cons_succ]
        refine wpAnyH_take (i := 6) (v := .int .i64 xl) rfl (by kernel_rfl) (by kernel_rfl) (by kernel_rfl) (fun _ _ _ h => h) (Or.inl ⟨by kernel_rfl, by (intro x hSx; (try dsimp only at hSx); go_simp)⟩) (by assumption) ?_
        try simp only [Act.put, List.getElem_toArray, List.getElem_cons_zero, List.getElem_cons_succ, List.setIfInBounds_toArray, List.set_cons_zero, List.set_cons_succ]
        refine wpAnyH_ready (rs := [7]) (by kernel_rfl) (by simp) ?_
        refine AllReadyH.cons rfl (fun K hK => ?_) AllReadyH.nil
        go_simp
        go_at_call 46
        refine (l13ObjSpec _ _ _ _ _ _ _ _ _ _ vs xl L _ (H.out.later (B0.out.trans (D1.out.mono (by omega)))) OK.out (HV.out.later DW.out)).mono ?_
        rintro e w2 ⟨rfl, hb⟩
        have D2 : Hid (Below (w.heap.size + 1 + 1) ((w.alloc (.cells #[.slice ca cn cc, .slice ma mn mc] 38)).alloc (.cells #[.slice (some ⟨b1, p1, none⟩) xl xc, .slice fa fl fc, .slice da dl dc, .int .i64 st, .int .i64 en, .bool o0, .int .i64 o1] 33)) w2) := D1.out.trans (hb.mono (Nat.le_trans (Nat.le_of_eq (by simp)) D1.out.size))
        have E2 : Hid (Below wr.heap.size wr w2) := DW.out.trans (hb.mono DW.out.size)
        clear hb
        rw [HQ.out]
        go_wp2_with fail
        refine hK.out _ _ (KT.out _ D2.out E2.out) (fun hHeld2 => ?_)
        clear hK K
        try simp only [Act.put, List.getElem_toArray, List.getElem_cons_zero, List.getElem_cons_succ, List.setIfInBounds_toArray, List.set_cons_zero, List.set_cons_succ]
        refine wpAnyH_take (i := 8) (v := .bool false) rfl (by kernel_rfl) (by kernel_rfl) (by kernel_rfl) (fun _ _ _ h => h) (Or.inl ⟨by kernel_rfl, by (intro x hSx; (try dsimp only at hSx); go_simp)⟩) (by assumption) ?_
        try simp only [Act.put, List.getElem_toArray, List.getElem_cons_zero, List.getElem_cons_succ, List.setIfInBounds_toArray, List.set_cons_zero, List.set_cons_succ]
        refine wpAnyH_take (i := 9) (v := .bool false) rfl (by kernel_rfl) (by kernel_rfl) (by kernel_rfl) (fun _ _ _ h => h) (Or.inl ⟨by kernel_rfl, by (intro x hSx; (try dsimp only at hSx); go_simp)⟩) (by assumption) ?_
        try simp only [Act.put, List.getElem_toArray, List.getElem_cons_zero, List.getElem_cons_succ, List.setIfInBounds_toArray, List.set_cons_zero, List.set_cons_succ]
        refine wpAnyH_take (i := 10) (v := .int .i64 k) rfl (by kernel_rfl) (by kernel_rfl) (by kernel_rfl) (fun _ _ _ h => h) (Or.inl ⟨by kernel_rfl, by (intro x hSx; (try dsimp only at hSx); go_simp)⟩) (by assumption) ?_
        try simp only [Act.put, List.getElem_toArray, List.getElem_cons_zero, List.getElem_cons_succ, List.setIfInBounds_toArray, List.set_cons_zero, List.set_cons_succ]
        refine wpAnyH_take (i := 11) (v := .bool false) rfl (by kernel_rfl) (by kernel_rfl) (by kernel_rfl) (fun _ _ _ h => h) (Or.inl ⟨by kernel_rfl, by (intro x hSx; (try dsimp only at hSx); go_simp)⟩) (by assumption) ?_
        try simp only [Act.put, List.getElem_toArray, List.getElem_cons_zero, List.getElem_cons_succ, List.setIfInBounds_toArray, List.set_cons_zero, List.set_cons_succ]
        refine wpAnyH_take (i := 12) (v := .bool false) rfl (by kernel_rfl) (by kernel_rfl) (by kernel_rfl) (fun _ _ _ h => h) (Or.inl ⟨by kernel_rfl, by (intro x hSx; (try dsimp only at hSx); go_simp)⟩) (by assumption) ?_
        try simp only [Act.put, List.getElem_toArray, List.getElem_cons_zero, List.getElem_cons_succ, List.setIfInBounds_toArray, List.set_cons_zero, List.set_cons_succ]
        refine wpAnyH_take (i := 13) (v := undef) rfl (by kernel_rfl) (by kernel_rfl) (by kernel_rfl) (fun _ _ _ h => h) (Or.inr ⟨by kernel_rfl, rfl⟩) (by assumption) ?_
        try simp only [Act.put, List.getElem_toArray, List.getElem_cons_zero, List.getElem_cons_succ, List.setIfInBounds_toArray, List.set_cons_zero, List.set_cons_succ]
        refine wpAnyH_take (i := 14) (v := undef) rfl (by kernel_rfl) (by kernel_rfl) (by kernel_rfl) (fun _ _ _ h => h) (Or.inr ⟨by kernel_rfl, rfl⟩) (by assumption) ?_
        try simp only [Act.put, List.getElem_toArray, List.getElem_cons_zero, List.getElem_cons_succ, List.setIfInBounds_toArray, List.set_cons_zero, List.set_cons_succ]
        refine wpAnyH_take (i := 15) (v := undef) rfl (by kernel_rfl) (by kernel_rfl) (by kernel_rfl) (fun _ _ _ h => h) (Or.inr ⟨by kernel_rfl, rfl⟩) (by assumption) ?_
        try simp only [Act.put, List.getElem_toArray, List.getElem_cons_zero, List.getElem_cons_succ, List.setIfInBounds_toArray, List.set_cons_zero, List.set_cons_succ]
        refine wpAnyH_take (i := 16) (v := undef) rfl (by kernel_rfl) (by kernel_rfl) (by kernel_rfl) (fun _ _ _ h => h) (Or.inr ⟨by kernel_rfl, rfl⟩) (by assumption) ?_
        try simp only [Act.put, List.getElem_toArray, List.getElem_cons_zero, List.getElem_cons_succ, List.setIfInBounds_toArray, List.set_cons_zero, List.set_cons_succ]
        refine wpAnyH_take (i := 17) (v := undef) rfl (by kernel_rfl) (by kernel_rfl) (by kernel_rfl) (fun _ _ _ h => h) (Or.inr ⟨by kernel_rfl, rfl⟩) (by assumption) ?_
        try simp only [Act.put, List.getElem_toArray, List.getElem_cons_zero, List.getElem_cons_succ, List.setIfInBounds_toArray, List.set_cons_zero, List.set_cons_succ]
        refine wpAnyH_take (i := 18) (v := undef) rfl (by kernel_rfl) (by kernel_rfl) (by kernel_rfl) (fun _ _ _ h => h) (Or.inr ⟨by kernel_rfl, rfl⟩) (by assumption) ?_
        try simp only [Act.put, List.getElem_toArray, List.getElem_cons_zero, List.getElem_cons_succ, List.setIfInBounds_toArray, List.set_cons_zero, List.set_cons_succ]
        refine wpAnyH_take (i := 19) (v := undef) rfl (by kernel_rfl) (by kernel_rfl) (by kernel_rfl) (fun _ _ _ h => h) (Or.inr ⟨by kernel_rfl, rfl⟩) (by assumption) ?_
        try simp only [Act.put, List.getElem_toArray, List.getElem_cons_zero, List.getElem_cons_succ, List.setIfInBounds_toArray, List.set_cons_zero, List.set_cons_succ]
        refine wpAnyH_take (i := 20) (v := .bool false) rfl (by kernel_rfl) (by kernel_rfl) (by kernel_rfl) (fun _ _ _ h => h) (Or.inl ⟨by kernel_rfl, by (intro x hSx; (try dsimp only at hSx); go_simp)⟩) (by assumption) ?_
        try simp only [Act.put, List.getElem_toArray, List.getElem_cons_zero, List.getElem_cons_succ, List.setIfInBounds_toArray, List.set_cons_zero, List.set_cons_succ]
        refine wpAnyH_take (i := 21) (v := .bool false) rfl (by kernel_rfl) (by kernel_rfl) (by kernel_rfl) (fun _ _ _ h => h) (Or.inl ⟨by kernel_rfl, by (intro x hSx; (try dsimp only at hSx); go_simp)⟩) (by assumption) ?_
        try simp only [Act.put, List.getElem_toArray, List.getElem_cons_zero, List.getElem_cons_succ, List.setIfInBounds_toArray, List.set_cons_zero, List.set_cons_succ]
        refine wpAnyH_done (by kernel_rfl) ?_ _
        clear hHeld hHeld2
        go_wp2_with fail
        exact ⟨⟨k + 1, by omega, by go_num, by rw [range_more, HA.out, HI2.out]; rfl, D2.out⟩, by simp [intOf]; omega⟩
  · have ek : k = xl := by omega
    subst ek
    replace HF : Hid (machM L M Xs Fs Sd st en o0 o1 = (Fs.all (frM M k) && (Sd.all (fun d => inI d (-128) 127) && endM fl en o0 o1))) := by show _ = _; rw [HF.out, HA.out]; rfl
    obtain ⟨xl, rfl⟩ : ∃ xl, xl = k := ⟨k, rfl⟩
    obtain ⟨wv, rfl⟩ : ∃ wv, wv = wr := ⟨wr, rfl⟩
    clear HA D1 BB
    go_wp2_with fail
    go_loopw [7] (fun t wr => ∃ k : Nat, k ≤ fl ∧ t = .int .i64 k ∧ (Fs.take k).all (frM M xl) = true ∧ Below (w.heap.size + 1 + 1) ((w.alloc (.cells #[.slice ca cn cc, .slice ma mn mc] 38)).alloc (.cells #[.slice xa xl xc, .slice fa fl fc, .slice da dl dc, .int .i64 st, .int .i64 en, .bool o0, .int .i64 o1] 33)) wr) (fun t _ => fl - (intOf t).toNat)
    case atStart => exact ⟨0, Nat.zero_le _, rfl, by simp, HB.out⟩
    case round =>
    obtain ⟨k, hk, rfl, ha, hb⟩ := hrel
    have HA : Hid ((Fs.take k).all (frM M xl) = true) := ha
    have HC : Hid (Below (w.heap.size + 1 + 1) ((w.alloc (.cells #[.slice ca cn cc, .slice ma mn mc] 38)).alloc (.cells #[.slice xa xl xc, .slice fa fl fc, .slice da dl dc, .int .i64 st, .int .i64 en, .bool o0, .int .i64 o1] 33)) wr) := hb
    replace BW : Hid (Below w.heap.size w wr) := B0.out.trans (HC.out.mono (by omega))
    obtain ⟨k0, k1, k2, k3, k4, k5, k6, k7, k8⟩ := KS.out wr HC.out
    clear ha hb
    by_cases hlt : k < fl
    · obtain ⟨x, hx⟩ : ∃ x, Fs[k]? = some x := ⟨Fs[k]'(by rw [FrZ.out]; exact hlt), List.getElem?_eq_getElem _⟩
      have HXk : Hid (Fs[k]? = some x) := hx
      clear k0 k1 k2 k3 k4 k5 k6 k7 k8
      obtain ⟨b1, p1, rfl, _, us, hv, hc⟩ := (HFr.out.later BW.out).at k x hx
      obtain ⟨fm, ft, ls, ss⟩ := x
      obtain ⟨_, _, rfl, ⟨rfl, _⟩, _, _, rfl, ⟨rfl, _⟩, _, _, rfl, ⟨la, ll, lc, rfl, hls⟩, sa, sl, sc, rfl, hss⟩ := hv
      have c0 : wr.cell? ⟨b1, p1 + k * 4, none⟩ = some (.int .i64 fm) := hc 0 _ rfl
      have c1 : wr.cell? ⟨b1, p1 + k * 4 + 1, none⟩ = some (.int .i64 ft) := hc 1 _ rfl
      have c2 : wr.cell? ⟨b1, p1 + k * 4 + 2, none⟩ = some (.slice la ll lc) := hc 2 _ rfl
      have c3 : wr.cell? ⟨b1, p1 + k * 4 + 3, none⟩ = some (.slice sa sl sc) := hc 3 _ rfl
      have hb1 : b1 < wr.heap.size := World.block_lt_of_cell? wr _ c0
      have HL : Hid (SlAt vaR Q wr la ll ls) := hls
      have HK : Hid (SlAt vaR Q wr sa sl ss) := hss
      have KT : Hid (∀ x : World, Below (w.heap.size + 1 + 1) ((w.alloc (.cells #[.slice ca cn cc, .slice ma mn mc] 38)).alloc (.cells #[.slice xa xl xc, .slice (some ⟨b1, p1, none⟩) fl fc, .slice da dl dc, .int .i64 st, .int .i64 en, .bool o0, .int .i64 o1] 33)) x → Below wr.heap.size wr x → x.cell? ⟨w.heap.size, 0, none⟩ = some (.slice ca cn cc) ∧ x.cell? ⟨w.heap.size, 1, none⟩ = some (.slice ma mn mc) ∧ x.cell? ⟨w.heap.size + 1, 0, none⟩ = some (.slice xa xl xc) ∧ x.cell? ⟨w.heap.size + 1, 1, none⟩ = some (.slice (some ⟨b1, p1, none⟩) fl fc) ∧ x.cell? ⟨w.heap.size + 1, 2, none⟩ = some (.slice da dl dc) ∧ x.cell? ⟨w.heap.size + 1, 3, none⟩ = some (.int .i64 st) ∧ x.cell? ⟨w.heap.size + 1, 4, none⟩ = some (.int .i64 en) ∧ x.cell? ⟨w.heap.size + 1, 5, none⟩ = some (.bool o0) ∧ x.cell? ⟨w.heap.size + 1, 6, none⟩ = some (.int .i64 o1) ∧ x.cell? ⟨b1, p1 + k * 4, none⟩ = some (.int .i64 fm) ∧ x.cell? ⟨b1, p1 + k * 4 + 1, none⟩ = some (.int .i64 ft) ∧ x.cell? ⟨b1, p1 + k * 4 + 2, none⟩ = some (.slice la ll lc) ∧ x.cell? ⟨b1, p1 + k * 4 + 3, none⟩ = some (.slice sa sl sc)) := fun x hb hw => by
        have a1 := (hb.block w.heap.size (by omega)).trans ((Below.heap_alloc _ _ _ (by simp)).trans (boxN _ _ _ _ rfl))
        have a2 := (hb.block (w.heap.size + 1) (by omega)).trans (boxN _ _ _ _ (by simp))
        exact ⟨(boxG a1 0).1, (boxG a1 1).1, (boxG a2 0).1, (boxG a2 1).1, (boxG a2 2).1, (boxG a2 3).1, (boxG a2 4).1, (boxG a2 5).1, (boxG a2 6).1, (hw.cell (p := ⟨b1, _, none⟩) hb1).trans c0, (hw.cell (p := ⟨b1, _, none⟩) hb1).trans c1, (hw.cell (p := ⟨b1, _, none⟩) hb1).trans c2, (hw.cell (p := ⟨b1, _, none⟩) hb1).trans c3⟩
      have DW : Hid (Below wr.heap.size wr (wr.drewN 1)) := bdrew (Below.refl _ _)
      have D1 : Hid (Below (w.heap.size + 1 + 1) ((w.alloc (.cells #[.slice ca cn cc, .slice ma mn mc] 38)).alloc (.cells #[.slice xa xl xc, .slice (some ⟨b1, p1, none⟩) fl fc, .slice da dl dc, .int .i64 st, .int .i64 en, .bool o0, .int .i64 o1] 33)) (wr.drewN 1)) := bdrew HC.out
      obtain ⟨q, hq⟩ : ∃ q, frM M xl (fm, ft, ls, ss) = q := ⟨_, rfl⟩
      have HQ : Hid (frM M xl (fm, ft, ls, ss) = q) := hq
      obtain ⟨k0, k1, k2, k3, k4, k5, k6, k7, k8, kx0, kx1, kx2, kx3⟩ := KT.out wr HC.out (Below.refl _ _)
      clear hx hc hls hss c0 c1 c2 c3 hq
      go_wp2_with fail
      clear k0 k1 k2 k3 k4 k5 k6 k7 k8 kx0 kx1 kx2 kx3
      cases q
      · skip
        refine wp_region_held_drew (S := fun x => x.cell? ⟨w.heap.size, 0, none⟩ = some (.slice ca cn cc) ∧ x.cell? ⟨w.heap.size, 1, none⟩ = some (.slice ma mn mc) ∧ x.cell? ⟨w.heap.size + 1, 0, none⟩ = some (.slice xa xl xc) ∧ x.cell? ⟨w.heap.size + 1, 1, none⟩ = some (.slice (some ⟨b1, p1, none⟩) fl fc) ∧ x.cell? ⟨w.heap.size + 1, 2, none⟩ = some (.slice da dl dc) ∧ x.cell? ⟨w.heap.size + 1, 3, none⟩ = some (.int .i64 st) ∧ x.cell? ⟨w.heap.size + 1, 4, none⟩ = some (.int .i64 en) ∧ x.cell? ⟨w.heap.size + 1, 5, none⟩ = some (.bool o0) ∧ x.cell? ⟨w.heap.size + 1, 6, none⟩ = some (.int .i64 o1) ∧ x.cell? ⟨b1, p1 + k * 4, none⟩ = some (.int .i64 fm) ∧ x.cell? ⟨b1, p1 + k * 4 + 1, none⟩ = some (.int .i64 ft) ∧ x.cell? ⟨b1, p1 + k * 4 + 2, none⟩ = some (.slice la ll lc) ∧ x.cell? ⟨b1, p1 + k * 4 + 3, none⟩ = some (.slice sa sl sc)) (by kernel_rfl) ?_ (fun hHeld => ?_)
        · exact KT.out _ D1.out DW.out
        refine wpAnyH_take (i := 0) (v := .agg #[.slice ca cn cc, .slice ma mn mc]) rfl (by kernel_rfl) (by kernel_rfl) (by kernel_rfl) (fun _ _ _ h => h) (Or.inl ⟨by kernel_rfl, by (intro x hSx; (try dsimp only at hSx); go_simp)⟩) (by assumption) ?_
        try simp only [Act.put, List.getElem_toArray, List.getElem_cons_zero, List.setIfInBounds_toArray, List.set_cons_zero, List.set_cons_succ]
        refine wpAnyH_take (i := 1) (v := .pointer (some ⟨w.heap.size + 1, 1, none⟩)) rfl (by kernel_rfl) (by kernel_rfl) (by kernel_rfl) (fun _ _ _ h => h) (Or.inl ⟨by kernel_rfl, by (intro x hSx; (try dsimp only at hSx); go_simp)⟩) (by assumption) ?_
        try simp only [Act.put, List.getElem_toArray, List.getElem_cons_zero, List.getElem_cons_succ, List.setIfInBounds_toArray, List.set_cons_zero, List.set_cons_succ]
        refine wpAnyH_take (i := 2) (v := .slice (some ⟨b1, p1, none⟩) fl fc) rfl (by kernel_rfl) (by kernel_rfl) (by kernel_rfl) (fun _ _ _ h => h) (Or.inl ⟨by kernel_rfl, by (intro x hSx; (try dsimp only at hSx); go_simp)⟩) (by assumption) ?_
        try simp only [Act.put, List.getElem_toArray, List.getElem_cons_zero, List.getElem_cons_succ, List.setIfInBounds_toArray, List.set_cons_zero, List.set_cons_succ]
        refine wpAnyH_take (i := 3) (v := .int .i64 k) rfl (by kernel_rfl) (by kernel_rfl) (by kernel_rfl) (fun _ _ _ h => h) (Or.inl ⟨by kernel_rfl, by (intro x hSx; (try dsimp only at hSx); go_simp)⟩) (by assumption) ?_
        try simp only [Act.put, List.getElem_toArray, List.getElem_cons_zero, List.getElem_cons_succ, List.setIfInBounds_toArray, List.set_cons_zero, List.set_cons_succ]
        refine wpAnyH_take (i := 4) (v := .pointer (some ⟨b1, p1 + k * 4, none⟩)) rfl (by kernel_rfl) (by kernel_rfl) (by kernel_rfl) (fun _ _ _ h => h) (Or.inl ⟨by kernel_rfl, by (intro x hSx; (try dsimp only at hSx); go_simp)⟩) (by assumption) ?_
        try simp only [Act.put, List.getElem_toArray, List.getElem_cons_zero, List.getElem_cons_succ, List.setIfInBounds_toArray, List.set_cons_zero, List.set_cons_succ]
        refine wpAnyH_take (i := 5) (v := .agg #[.int .i64 fm, .int .i64 ft, .slice la ll lc, .slice sa sl sc]) rfl (by kernel_rfl) (by kernel_rfl) (by kernel_rfl) (fun _ _ _ h => h) (Or.inl ⟨by kernel_rfl, by (intro x hSx; (try dsimp only at hSx); go_simp)⟩) (by assumption) ?_
        try simp only [Act.put, List.getElem_toArray, List.getElem_cons_zero, List.getElem_cons_succ, List.setIfInBounds_toArray, List.set_cons_zero, List.set_cons_succ]
        refine wpAnyH_take (i := 6) (v := .int .i64 xl) rfl (by kernel_rfl) (by kernel_rfl) (by kernel_rfl) (fun _ _ _ h => h) (Or.inl ⟨by kernel_rfl, by (intro x hSx; (try dsimp only at hSx); go_simp)⟩) (by assumption) ?_
        try simp only [Act.put, List.getElem_toArray, List.getElem_cons_zero, List.getElem_cons_succ, List.setIfInBounds_toArray, List.set_cons_zero, List.set_cons_succ]
        refine wpAnyH_ready (rs := [7]) (by kernel_rfl) (by simp) ?_
        refine AllReadyH.cons rfl (fun K hK => ?_) AllReadyH.nil
        go_simp
        go_at_call 47
        refine (l13FrameOkSpec _ _ _ _ _ _ _ _ _ _ _ _ _ _ ls ss xl M _ (HM.out.later (B0.out.trans (D1.out.mono (by omega)))) (HL.out.later DW.out) (HK.out.later DW.out)).mono ?_
        rintro e w2 ⟨rfl, hb⟩
        have D2 : Hid (Below (w.heap.size + 1 + 1) ((w.alloc (.cells #[.slice ca cn cc, .slice ma mn mc] 38)).alloc (.cells #[.slice xa xl xc, .slice (some ⟨b1, p1, none⟩) fl fc, .slice da dl dc, .int .i64 st, .int .i64 en, .bool o0, .int .i64 o1] 33)) w2) := D1.out.trans (hb.mono (Nat.le_trans (Nat.le_of_eq (by simp)) D1.out.size))
        have E2 : Hid (Below wr.heap.size wr w2) := DW.out.trans (hb.mono DW.out.size)
        clear hb
        rw [HQ.out]
        go_wp2_with fail
        refine hK.out _ _ (KT.out _ D2.out E2.out) (fun hHeld2 => ?_)
        clear hK K
        try simp only [Act.put, List.getElem_toArray, List.getElem_cons_zero, List.getElem_cons_succ, List.setIfInBounds_toArray, List.set_cons_zero, List.set_cons_succ]
        refine wpAnyH_take (i := 8) (v := .bool true) rfl (by kernel_rfl) (by kernel_rfl) (by kernel_rfl) (fun _ _ _ h => h) (Or.inl ⟨by kernel_rfl, by (intro x hSx; (try dsimp only at hSx); go_simp)⟩) (by assumption) ?_
        try simp only [Act.put, List.getElem_toArray, List.getElem_cons_zero, List.getElem_cons_succ, List.setIfInBounds_toArray, List.set_cons_zero, List.set_cons_succ]
        refine wpAnyH_done (by kernel_rfl) ?_ _
        clear hHeld hHeld2
        go_wp2_with fail
        go_ret
        exact ⟨by rw [HF.out, all_no_at HXk.out HQ.out]; rfl, BW.out.trans (E2.out.mono BW.out.size)⟩
      · skip
        refine wp_region_held_drew (S := fun x => x.cell? ⟨w.heap.size, 0, none⟩ = some (.slice ca cn cc) ∧ x.cell? ⟨w.heap.size, 1, none⟩ = some (.slice ma mn mc) ∧ x.cell? ⟨w.heap.size + 1, 0, none⟩ = some (.slice xa xl xc) ∧ x.cell? ⟨w.heap.size + 1, 1, none⟩ = some (.slice (some ⟨b1, p1, none⟩) fl fc) ∧ x.cell? ⟨w.heap.size + 1, 2, none⟩ = some (.slice da dl dc) ∧ x.cell? ⟨w.heap.size + 1, 3, none⟩ = some (.int .i64 st) ∧ x.cell? ⟨w.heap.size + 1, 4, none⟩ = some (.int .i64 en) ∧ x.cell? ⟨w.heap.size + 1, 5, none⟩ = some (.bool o0) ∧ x.cell? ⟨w.heap.size + 1, 6, none⟩ = some (.int .i64 o1) ∧ x.cell? ⟨b1, p1 + k * 4, none⟩ = some (.int .i64 fm) ∧ x.cell? ⟨b1, p1 + k * 4 + 1, none⟩ = some (.int .i64 ft) ∧ x.cell? ⟨b1, p1 + k * 4 + 2, none⟩ = some (.slice la ll lc) ∧ x.cell? ⟨b1, p1 + k * 4 + 3, none⟩ = some (.slice sa sl sc)) (by kernel_rfl) ?_ (fun hHeld => ?_)
        · exact KT.out _ D1.out DW.out
        refine wpAnyH_take (i := 0) (v := .agg #[.slice ca cn cc, .slice ma mn mc]) rfl (by kernel_rfl) (by kernel_rfl) (by kernel_rfl) (fun _ _ _ h => h) (Or.inl ⟨by kernel_rfl, by (intro x hSx; (try dsimp only at hSx); go_simp)⟩) (by assumption) ?_
        try simp only [Act.put, List.getElem_toArray, List.getElem_cons_zero, List.setIfInBounds_toArray, List.set_cons_zero, List.set_cons_succ]
        refine wpAnyH_take (i := 1) (v := .pointer (some ⟨w.heap.size + 1, 1, none⟩)) rfl (by kernel_rfl) (by kernel_rfl) (by kernel_rfl) (fun _ _ _ h => h) (Or.inl ⟨by kernel_rfl, by (intro x hSx; (try dsimp only at hSx); go_simp)⟩) (by assumption) ?_
        try simp only [Act.put, List.getElem_toArray, List.getElem_cons_zero, List.getElem_cons_succ, List.setIfInBounds_toArray, List.set_cons_zero, List.set_cons_succ]
        refine wpAnyH_take (i := 2) (v := .slice (some ⟨b1, p1, none⟩) fl fc) rfl (by kernel_rfl) (by kernel_rfl) (by kernel_rfl) (fun _ _ _ h => h) (Or.inl ⟨by kernel_rfl, by (intro x hSx; (try dsimp only at hSx); go_simp)⟩) (by assumption) ?_
        try simp only [Act.put, List.getElem_toArray, List.getElem_cons_zero, List.getElem_cons_succ, List.setIfInBounds_toArray, List.set_cons_zero, List.set_cons_succ]
        refine wpAnyH_take (i := 3) (v := .int .i64 k) rfl (by kernel_rfl) (by kernel_rfl) (by kernel_rfl) (fun _ _ _ h => h) (Or.inl ⟨by kernel_rfl, by (intro x hSx; (try dsimp only at hSx); go_simp)⟩) (by assumption) ?_
        try simp only [Act.put, List.getElem_toArray, List.getElem_cons_zero, List.getElem_cons_succ, List.setIfInBounds_toArray, List.set_cons_zero, List.set_cons_succ]
        refine wpAnyH_take (i := 4) (v := .pointer (some ⟨b1, p1 + k * 4, none⟩)) rfl (by kernel_rfl) (by kernel_rfl) (by kernel_rfl) (fun _ _ _ h => h) (Or.inl ⟨by kernel_rfl, by (intro x hSx; (try dsimp only at hSx); go_simp)⟩) (by assumption) ?_
        try simp only [Act.put, List.getElem_toArray, List.getElem_cons_zero, List.getElem_cons_succ, List.setIfInBounds_toArray, List.set_cons_zero, List.set_cons_succ]
        refine wpAnyH_take (i := 5) (v := .agg #[.int .i64 fm, .int .i64 ft, .slice la ll lc, .slice sa sl sc]) rfl (by kernel_rfl) (by kernel_rfl) (by kernel_rfl) (fun _ _ _ h => h) (Or.inl ⟨by kernel_rfl, by (intro x hSx; (try dsimp only at hSx); go_simp)⟩) (by assumption) ?_
        try simp only [Act.put, List.getElem_toArray, List.getElem_cons_zero, List.getElem_cons_succ, List.setIfInBounds_toArray, List.set_cons_zero, List.set_cons_succ]
        refine wpAnyH_take (i := 6) (v := .int .i64 xl) rfl (by kernel_rfl) (by kernel_rfl) (by kernel_rfl) (fun _ _ _ h => h) (Or.inl ⟨by kernel_rfl, by (intro x hSx; (try dsimp only at hSx); go_simp)⟩) (by assumption) ?_
        try simp only [Act.put, List.getElem_toArray, List.getElem_cons_zero, List.getElem_cons_succ, List.setIfInBounds_toArray, List.set_cons_zero, List.set_cons_succ]
        refine wpAnyH_ready (rs := [7]) (by kernel_rfl) (by simp) ?_
        refine AllReadyH.cons rfl (fun K hK => ?_) AllReadyH.nil
        go_simp
        go_at_call 47
        refine (l13FrameOkSpec _ _ _ _ _ _ _ _ _ _ _ _ _ _ ls ss xl M _ (HM.out.later (B0.out.trans (D1.out.mono (by omega)))) (HL.out.later DW.out) (HK.out.later DW.out)).mono ?_
        rintro e w2 ⟨rfl, hb⟩
        have D2 : Hid (Below (w.heap.size + 1 + 1) ((w.alloc (.cells #[.slice ca cn cc, .slice ma mn mc] 38)).alloc (.cells #[.slice xa xl xc, .slice (some ⟨b1, p1, none⟩) fl fc, .slice da dl dc, .int .i64 st, .int .i64 en, .bool o0, .int .i64 o1] 33)) w2) := D1.out.trans (hb.mono (Nat.le_trans (Nat.le_of_eq (by simp)) D1.out.size))
        have E2 : Hid (Below wr.heap.size wr w2) := DW.out.trans (hb.mono DW.out.size)
        clear hb
        rw [HQ.out]
        go_wp2_with fail
        refine hK.out _ _ (KT.out _ D2.out E2.out) (fun hHeld2 => ?_)
        clear hK K
        try simp only [Act.put, List.getElem_toArray, List.getElem_cons_zero, List.getElem_cons_succ, List.setIfInBounds_toArray, List.set_cons_zero, List.set_cons_succ]
        refine wpAnyH_take (i := 8) (v := .bool false) rfl (by kernel_rfl) (by kernel_rfl) (by kernel_rfl) (fun _ _ _ h => h) (Or.inl ⟨by kernel_rfl, by (intro x hSx; (try dsimp only at hSx); go_simp)⟩) (by assumption) ?_
        try simp only [Act.put, List.getElem_toArray, List.getElem_cons_zero, List.getElem_cons_succ, List.setIfInBounds_toArray, List.set_cons_zero, List.set_cons_succ]
        refine wpAnyH_done (by kernel_rfl) ?_ _
        clear hHeld hHeld2
        go_wp2_with fail
        exact ⟨⟨k + 1, by omega, by go_num, all_take_one HA.out HXk.out HQ.out, D2.out⟩, by simp [intOf]; omega⟩
    · have ek : k = fl := by omega
      subst ek
      replace HF : Hid (machM L M Xs Fs Sd st en o0 o1 = (Sd.all (fun d => inI d (-128) 127) && endM k en o0 o1)) := by show _ = _; rw [HF.out]; have := HA.out; rw [← FrZ.out, List.take_length] at this; rw [this]; rfl
      obtain ⟨fl, rfl⟩ : ∃ fl, fl = k := ⟨k, rfl⟩
      obtain ⟨wu, rfl⟩ : ∃ wu, wu = wr := ⟨wr, rfl⟩
      clear HA
      go_wp2_with fail
      go_loopw [8] (fun t wr => ∃ k : Nat, k ≤ dl ∧ t = .int .i64 k ∧ (Sd.take k).all (fun d => inI d (-128) 127) = true ∧ Below (w.heap.size + 1 + 1) ((w.alloc (.cells #[.slice ca cn cc, .slice ma mn mc] 38)).alloc (.cells #[.slice xa xl xc, .slice fa fl fc, .slice da dl dc, .int .i64 st, .int .i64 en, .bool o0, .int .i64 o1] 33)) wr) (fun t _ => dl - (intOf t).toNat)
      case atStart => exact ⟨0, Nat.zero_le _, rfl, by simp, HC.out⟩
      case round =>
      clear k0 k1 k2 k3 k4 k5 k6 k7 k8
      obtain ⟨k, hk, rfl, ha, hb⟩ := hrel
      have HA : Hid ((Sd.take k).all (fun d => inI d (-128) 127) = true) := ha
      have HC2 : Hid (Below (w.heap.size + 1 + 1) ((w.alloc (.cells #[.slice ca cn cc, .slice ma mn mc] 38)).alloc (.cells #[.slice xa xl xc, .slice fa fl fc, .slice da dl dc, .int .i64 st, .int .i64 en, .bool o0, .int .i64 o1] 33)) wr) := hb
      replace BW : Hid (Below w.heap.size w wr) := B0.out.trans (HC2.out.mono (by omega))
      clear ha hb
      by_cases hlt : k < dl
      · obtain ⟨x, hx⟩ : ∃ x, Sd[k]? = some x := ⟨Sd[k]'(by rw [DS.out]; exact hlt), List.getElem?_eq_getElem _⟩
        have HXk : Hid (Sd[k]? = some x) := hx
        obtain ⟨b1, p1, rfl, _, us, hv, hc⟩ := (HSd.out.later BW.out).at k x hx
        obtain ⟨rfl, _⟩ := hv
        have c0 : wr.cell? ⟨b1, p1 + k, none⟩ = some (.int .i64 x) := by have := hc 0 _ rfl; simpa [Rep.int] using this
        obtain ⟨k0, k1, k2, k3, k4, k5, k6, k7, k8⟩ := KS.out wr HC2.out
        clear hx hc
        go_wp2_with fail
        refine (wordSpec x _ rfl _).mono ?_
        rintro e wz ⟨rfl, rfl⟩
        cases hq : inI x (-128) 127
        · go_wp2_with fail
          go_ret
          exact ⟨by rw [HF.out, all_no_at HXk.out hq]; rfl, BW.out⟩
        · go_wp2_with fail
          exact ⟨⟨k + 1, by omega, by go_num, all_take_one HA.out HXk.out hq, HC2.out⟩, by simp [intOf]; omega⟩
      · have ek : k = dl := by omega
        subst ek
        replace HF : Hid (machM L M Xs Fs Sd st en o0 o1 = endM fl en o0 o1) := by show _ = _; rw [HF.out]; have := HA.out; rw [← DS.out, List.take_length] at this; rw [this]; rfl
        obtain ⟨k0, k1, k2, k3, k4, k5, k6, k7, k8⟩ := KS.out wr HC2.out
        go_wp2_with fail
        refine (l13EndSpec _ _ _ _ _ _ _ _ _ _ _ _ _ _).mono ?_
        rintro e w3 ⟨rfl, hb⟩
        have B3 : Hid (Below w.heap.size w w3) := BW.out.trans (hb.mono BW.out.size)
        clear hb
        go_wp2_with fail
        go_ret
        exact ⟨by rw [HF.out]; rfl, B3.out⟩

end Go.Proofs.YthdlccadcadopaaGreat
namespace Go.Proofs.YthdlccadcadopaaGreat
open Go.ChangeShapes Go.WideShapes Go.ChangeAt Go.RowKit
set_option linter.unusedVariables false

theorem isAmongImpl (n lo hi : Int) (w : World) : Calls Tryz.prog 84 #[.int .i64 n, .int .i64 lo, .int .i64 hi] w fun e w' => e = .returned (.bool (inI n lo hi)) ∧ w = w' := by
  have HF : Hid (inI n lo hi = (decide (lo ≤ n) && decide (n ≤ hi))) := rfl
  by_cases h : lo ≤ n
  · go_enter Tryz.func84, Tryz.ntmps84
    go_wp2_with fail
    go_ret
    exact ⟨by rw [HF.out, decide_eq_true h]; rfl, rfl⟩
  · go_enter Tryz.func84, Tryz.ntmps84
    go_wp2_with fail
    go_ret
    exact ⟨by rw [HF.out, decide_eq_false (show ¬ lo ≤ n by omega)]; rfl, rfl⟩
theorem isArrayImpl (c : Int) (w : World) : Calls Tryz.prog 125 #[.int .i64 c] w fun e w' => e = .returned (.bool (c == -1 || c == -2)) ∧ w = w' := by
  by_cases h : c = -1
  · have h' : (c == -1) = true := by simp [h]
    go_enter Tryz.func125, Tryz.ntmps125
    go_wp2_with fail
    go_ret
    exact ⟨by rw [h']; rfl, rfl⟩
  · have h' : (c == -1) = false := by simp [h]
    go_enter Tryz.func125, Tryz.ntmps125
    go_wp2_with fail
    go_ret
    exact ⟨by rw [h']; rfl, rfl⟩
theorem isFailImpl (c : Int) (va : Option Addr) (vl vc : Nat) (w : World) : Calls Tryz.prog 89 #[.agg #[.int .i64 c, .slice va vl vc]] w fun e w' => e = .returned (.bool (c == 1)) ∧ Below w.heap.size w w' := by
  go_enter Tryz.func89, Tryz.ntmps89
  go_wp2_with fail
  go_ret
  exact ⟨rfl, by go_grown⟩
theorem valOkImpl (ca : Option Addr) (cn cc : Nat) (ma : Option Addr) (mn mc : Nat) (xa : Option Addr) (xl xc : Nat) (fa : Option Addr) (fl fc : Nat) (da : Option Addr) (dl dc : Nat) (st en : Int) (o0 : Bool) (o1 : Int) (x0 : Bool) (x1 : Int) (w : World) : Calls Tryz.prog 99 #[.agg #[.slice ca cn cc, .slice ma mn mc, .slice ca cn cc, .slice xa xl xc, .slice fa fl fc, .slice da dl dc, .int .i64 st, .int .i64 en, .bool o0, .int .i64 o1], .agg #[.bool x0, .int .i64 x1]] w fun e w' => e = .returned (.bool (valM xl (x0, x1))) ∧ Below w.heap.size w w' := by
  have HF : Hid (∀ b : Bool, valM xl (b, x1) = if b = true then inI x1 0 xl else inI x1 (-128) 127) := fun _ => rfl
  cases x0
  · go_enter Tryz.func99, Tryz.ntmps99
    go_wp2_with fail
    refine (wordImpl x1 _).mono ?_
    rintro e w' ⟨rfl, rfl⟩
    go_wp2_with fail
    go_ret
    exact ⟨by rw [HF.out]; rfl, by go_grown⟩
  · go_enter Tryz.func99, Tryz.ntmps99
    go_wp2_with fail
    refine (isAmongImpl _ _ _ _).mono ?_
    rintro e w' ⟨rfl, rfl⟩
    go_wp2_with fail
    go_ret
    exact ⟨by rw [HF.out]; rfl, by go_grown⟩

set_option maxRecDepth 100000 in
set_option maxHeartbeats 4000000 in
theorem eachValImpl (ca : Option Addr) (cn cc : Nat) (ma : Option Addr) (mn mc : Nat) (xa : Option Addr) (xl xc : Nat) (fa : Option Addr) (fl fc : Nat) (da : Option Addr) (dl dc : Nat) (st en : Int) (o0 : Bool) (o1 : Int) (ea : Option Addr) (el ec : Nat) (xs : List Vl) (L : List Cl) (M : List Me) (w : World) {D E F G : Nat → Prop} (h : SlAt vaR D w ea el xs) :
    Calls Tryz.prog 129 #[.slice ea el ec, .func (.func 99) #[.agg #[.slice ca cn cc, .slice ma mn mc, .slice ca cn cc, .slice xa xl xc, .slice fa fl fc, .slice da dl dc, .int .i64 st, .int .i64 en, .bool o0, .int .i64 o1]] #[]] w fun e w' => e = .returned (.bool (xs.all (valM xl))) ∧ Below w.heap.size w w' := by
  have hro := h.room
  have HS : Hid (xs.length = el) := h.size
  have H : Hid (SlAt vaR D w ea el xs) := h
  obtain ⟨P, hP⟩ : ∃ P : Vl → Bool, P = (valM xl) := ⟨_, rfl⟩
  have HP : Hid (P = (valM xl)) := hP
  rw [← hP]
  clear h hP
  go_enter Tryz.func129, Tryz.ntmps129
  go_wp2_with fail
  go_loopw [9] (fun t wr => ∃ k : Nat, k ≤ el ∧ t = .int .i64 k ∧ (xs.take k).all P = true ∧ Below w.heap.size w wr) (fun t _ => el - (intOf t).toNat)
  case atStart => exact ⟨0, Nat.zero_le _, rfl, by simp, Below.refl _ _⟩
  case round =>
    obtain ⟨k, hk, rfl, ha, hb⟩ := hrel
    have HA : Hid ((xs.take k).all P = true) := ha
    have HB : Hid (Below w.heap.size w wr) := hb
    clear ha hb
    by_cases hlt : k < el
    · obtain ⟨x, hx⟩ : ∃ x, xs[k]? = some x := ⟨xs[k]'(by rw [HS.out]; exact hlt), List.getElem?_eq_getElem _⟩
      have HX : Hid (xs[k]? = some x) := hx
      obtain ⟨b, off, rfl, _, us, hv, hc⟩ := (H.out.later HB.out).at k x hx
      obtain ⟨x0, x1⟩ := x
      obtain ⟨_, _, rfl, rfl, rfl, _⟩ := hv
      have c0x : wr.cell? ⟨b, off + k * 2, none⟩ = some (.bool x0) := hc 0 _ rfl
      have c1x : wr.cell? ⟨b, off + k * 2 + 1, none⟩ = some (.int .i64 x1) := hc 1 _ rfl
      have BL : Hid (Below wr.heap.size wr (wr.alloc (.cells #[.bool x0, .int .i64 x1] 31))) := (Below.refl _ _).alloc (Nat.le_refl _) _
      clear hx hc
      go_wp2_with fail
      refine (valOkImpl _ _ _ _ _ _ _ _ _ _ _ _ _ _ _ _ _ _ _  x0 x1 _).mono ?_
      rintro e w2 ⟨rfl, hb2⟩
      have B2 : Hid (Below w.heap.size w w2) := (HB.out.trans (BL.out.mono HB.out.size)).trans (hb2.mono (by have := HB.out.size; simp; omega))
      clear hb2
      cases hq : valM xl (x0, x1)
      · go_wp2_with fail
        go_ret
        exact ⟨by rw [all_no_at HX.out (by rw [HP.out]; exact hq)]; rfl, B2.out⟩
      · go_wp2_with fail
        exact ⟨⟨k + 1, by omega, by go_num, all_take_one HA.out HX.out (by rw [HP.out]; exact hq), B2.out⟩, by simp [intOf]; omega⟩
    · have ek : k = el := by omega
      subst ek
      have HR : Hid (xs.all P = true) := by have := HA.out; rwa [← HS.out, List.take_length] at this
      go_wp2_with fail
      go_ret
      exact ⟨by rw [HR.out]; rfl, HB.out⟩

/-- Whether a thing is as large as it must be. -/
def sizM (L : List Cl) (x : Ob) : Bool := if x.1 = -1 ∨ x.1 = -2 then decide (x.2.length ≤ 6) else inI x.1 0 ((L.length : Int) - 1) && (x.2.length == (fld L x.1.toNat).length)
theorem objM_siz (L : List Cl) (n : Nat) (x : Ob) : objM L n x = (valsM n x.2 && sizM L x) := rfl
set_option maxRecDepth 100000 in
set_option maxHeartbeats 8000000 in
theorem thing1Impl (ca : Option Addr) (cn cc : Nat) (ma : Option Addr) (mn mc : Nat) (xa : Option Addr) (xl xc : Nat) (fa : Option Addr) (fl0 fc : Nat) (da : Option Addr) (dl dc : Nat) (st en : Int) (o0 : Bool) (o1 : Int) (MP TP : Nat) (x0 : Int) (va : Option Addr) (vl vc : Nat) (vs : List Vl) (L : List Cl) (w : World) {D E : Nat → Prop} (h : ClsAt D E w ca cn L) (ok : clsOk L = true) (hv : vs.length = vl) (hM : w.heap[MP]? = some (.cells #[.slice ca cn cc, .slice ma mn mc, .slice ca cn cc, .slice xa xl xc, .slice fa fl0 fc, .slice da dl dc, .int .i64 st, .int .i64 en, .bool o0, .int .i64 o1] 96 (0, 0))) (hT : w.heap[TP]? = some (.cells #[.int .i64 x0, .slice va vl vc] 86 (0, 0))) :
    Calls Tryz.prog 124 #[.pointer (some ⟨TP, 0, none⟩), .pointer (some ⟨MP, 0, none⟩)] w fun e w' => e = .returned (.bool (sizM L (x0, vs))) ∧ Below w.heap.size w w' := by
  have H : Hid (ClsAt D E w ca cn L) := h
  have HS : Hid (L.length = cn) := h.size
  have hcr := h.room
  have OK : Hid (clsOk L = true) := ok
  have HF : Hid (sizM L (x0, vs) = if x0 = -1 ∨ x0 = -2 then decide (vl ≤ 6) else inI x0 0 ((cn : Int) - 1) && (vl == (fld L x0.toNat).length)) := by show _ = _; rw [sizM, h.size]; simp only [hv]
  have lM : MP < w.heap.size := (Array.getElem?_eq_some_iff.1 hM).1
  have lT : TP < w.heap.size := (Array.getElem?_eq_some_iff.1 hT).1
  have KS : Hid (∀ x : World, Below w.heap.size w x → x.cell? ⟨MP, 2, none⟩ = some (.slice ca cn cc) ∧ x.cell? ⟨TP, 0, none⟩ = some (.int .i64 x0) ∧ x.cell? ⟨TP, 1, none⟩ = some (.slice va vl vc)) := fun x hb => ⟨(boxG ((hb.block _ lM).trans hM) 2).1, (boxG ((hb.block _ lT).trans hT) 0).1, (boxG ((hb.block _ lT).trans hT) 1).1⟩
  obtain ⟨k0, k1, k2⟩ := KS.out w (Below.refl _ _)
  clear h ok hM hT hv
  by_cases e1 : x0 = -1 ∨ x0 = -2
  · have e1' : (x0 == -1 || x0 == -2) = true := by rcases e1 with e | e <;> simp [e]
    go_enter Tryz.func124, Tryz.ntmps124
    go_wp2_with fail
    refine (isArrayImpl _ _).mono ?_
    rintro e w1 ⟨rfl, rfl⟩
    rw [e1']
    go_wp2_with fail
    go_ret
    exact ⟨by rw [HF.out, if_pos e1]; simp; omega, Below.refl _ _⟩
  have e1' : (x0 == -1 || x0 == -2) = false := by simp; omega
  have HG : Hid (sizM L (x0, vs) = (inI x0 0 ((cn : Int) - 1) && (vl == (fld L x0.toNat).length))) := by show _ = _; rw [HF.out, if_neg e1]
  have D1 : Hid (Below w.heap.size w (w.drewN 1)) := bdrew (Below.refl _ _)
  have hib : inI x0 0 ((cn : Int) - 1) = (decide (0 ≤ x0) && decide (x0 < (cn : Int))) := by unfold inI; congr 1; simp; omega
  go_enter Tryz.func124, Tryz.ntmps124
  go_wp2_with fail
  refine (isArrayImpl _ _).mono ?_
  rintro e w1 ⟨rfl, rfl⟩
  rw [e1']
  go_wp2_with fail
  clear k0 k1 k2 e1 e1'
  cases hi : (decide (0 ≤ x0) && decide (x0 < (cn : Int)))
  · have hin : Hid ((decide (0 ≤ x0) && decide (x0 < (cn : Int))) = false) := hi
    have HI : Hid (inI x0 0 ((cn : Int) - 1) = false) := hib.trans hi
    clear hi hib
    refine wp_region_held_drew (S := fun x => x.cell? ⟨MP, 2, none⟩ = some (.slice ca cn cc) ∧ x.cell? ⟨TP, 0, none⟩ = some (.int .i64 x0) ∧ x.cell? ⟨TP, 1, none⟩ = some (.slice va vl vc)) (by kernel_rfl) ?_ (fun hHeld => ?_)
    · exact KS.out _ D1.out
    refine wpAnyH_take (i := 0) (v := .pointer (some ⟨MP, 2, none⟩)) rfl (by kernel_rfl) (by kernel_rfl) (by kernel_rfl) (fun _ _ _ h => h) (Or.inl ⟨by kernel_rfl, by (intro x hSx; (try dsimp only at hSx); go_simp)⟩) (by assumption) ?_
    try simp only [Act.put, List.getElem_toArray, List.getElem_cons_zero, List.setIfInBounds_toArray, List.set_cons_zero, List.set_cons_succ]
    refine wpAnyH_take (i := 1) (v := .slice ca cn cc) rfl (by kernel_rfl) (by kernel_rfl) (by kernel_rfl) (fun _ _ _ h => h) (Or.inl ⟨by kernel_rfl, by (intro x hSx; (try dsimp only at hSx); go_simp)⟩) (by assumption) ?_
    try simp only [Act.put, List.getElem_toArray, List.getElem_cons_zero, List.getElem_cons_succ, List.setIfInBounds_toArray, List.set_cons_zero, List.set_cons_succ]
    refine wpAnyH_take (i := 2) (v := .pointer (some ⟨TP, 0, none⟩)) rfl (by kernel_rfl) (by kernel_rfl) (by kernel_rfl) (fun _ _ _ h => h) (Or.inl ⟨by kernel_rfl, by (intro x hSx; (try dsimp only at hSx); go_simp)⟩) (by assumption) ?_
    try simp only [Act.put, List.getElem_toArray, List.getElem_cons_zero, List.getElem_cons_succ, List.setIfInBounds_toArray, List.set_cons_zero, List.set_cons_succ]
    refine wpAnyH_take (i := 3) (v := .int .i64 x0) rfl (by kernel_rfl) (by kernel_rfl) (by kernel_rfl) (fun _ _ _ h => h) (Or.inl ⟨by kernel_rfl, by (intro x hSx; (try dsimp only at hSx); go_simp)⟩) (by assumption) ?_
    try simp only [Act.put, List.getElem_toArray, List.getElem_cons_zero, List.getElem_cons_succ, List.setIfInBounds_toArray, List.set_cons_zero, List.set_cons_succ]
    refine wpAnyH_ready (rs := [4]) (by kernel_rfl) (by simp) ?_
    refine AllReadyH.cons rfl (fun K hK => ?_) AllReadyH.nil
    go_simp
    go_at_call 126
    refine (hasImpl _ _ _ _ _ hcr).mono ?_
    rintro e wz ⟨rfl, rfl⟩
    rw [hin.out]
    go_wp2_with fail
    refine hK.out _ _ (KS.out _ D1.out) (fun hHeld2 => ?_)
    clear hK K
    try simp only [Act.put, List.getElem_toArray, List.getElem_cons_zero, List.getElem_cons_succ, List.setIfInBounds_toArray, List.set_cons_zero, List.set_cons_succ]
    refine wpAnyH_take (i := 5) (v := .bool false) rfl (by kernel_rfl) (by kernel_rfl) (by kernel_rfl) (fun _ _ _ h => h) (Or.inl ⟨by kernel_rfl, by (intro x hSx; (try dsimp only at hSx); go_simp)⟩) (by assumption) ?_
    try simp only [Act.put, List.getElem_toArray, List.getElem_cons_zero, List.getElem_cons_succ, List.setIfInBounds_toArray, List.set_cons_zero, List.set_cons_succ]
    refine wpAnyH_take (i := 6) (v := undef) rfl (by kernel_rfl) (by kernel_rfl) (by kernel_rfl) (fun _ _ _ h => h) (Or.inr ⟨by kernel_rfl, rfl⟩) (by assumption) ?_
    try simp only [Act.put, List.getElem_toArray, List.getElem_cons_zero, List.getElem_cons_succ, List.setIfInBounds_toArray, List.set_cons_zero, List.set_cons_succ]
    refine wpAnyH_take (i := 7) (v := undef) rfl (by kernel_rfl) (by kernel_rfl) (by kernel_rfl) (fun _ _ _ h => h) (Or.inr ⟨by kernel_rfl, rfl⟩) (by assumption) ?_
    try simp only [Act.put, List.getElem_toArray, List.getElem_cons_zero, List.getElem_cons_succ, List.setIfInBounds_toArray, List.set_cons_zero, List.set_cons_succ]
    refine wpAnyH_take (i := 8) (v := undef) rfl (by kernel_rfl) (by kernel_rfl) (by kernel_rfl) (fun _ _ _ h => h) (Or.inr ⟨by kernel_rfl, rfl⟩) (by assumption) ?_
    try simp only [Act.put, List.getElem_toArray, List.getElem_cons_zero, List.getElem_cons_succ, List.setIfInBounds_toArray, List.set_cons_zero, List.set_cons_succ]
    refine wpAnyH_take (i := 9) (v := undef) rfl (by kernel_rfl) (by kernel_rfl) (by kernel_rfl) (fun _ _ _ h => h) (Or.inr ⟨by kernel_rfl, rfl⟩) (by assumption) ?_
    try simp only [Act.put, List.getElem_toArray, List.getElem_cons_zero, List.getElem_cons_succ, List.setIfInBounds_toArray, List.set_cons_zero, List.set_cons_succ]
    refine wpAnyH_take (i := 10) (v := undef) rfl (by kernel_rfl) (by kernel_rfl) (by kernel_rfl) (fun _ _ _ h => h) (Or.inr ⟨by kernel_rfl, rfl⟩) (by assumption) ?_
    try simp only [Act.put, List.getElem_toArray, List.getElem_cons_zero, List.getElem_cons_succ, List.setIfInBounds_toArray, List.set_cons_zero, List.set_cons_succ]
    refine wpAnyH_take (i := 11) (v := undef) rfl (by kernel_rfl) (by kernel_rfl) (by kernel_rfl) (fun _ _ _ h => h) (Or.inr ⟨by kernel_rfl, rfl⟩) (by assumption) ?_
    try simp only [Act.put, List.getElem_toArray, List.getElem_cons_zero, List.getElem_cons_succ, List.setIfInBounds_toArray, List.set_cons_zero, List.set_cons_succ]
    refine wpAnyH_take (i := 12) (v := undef) rfl (by kernel_rfl) (by kernel_rfl) (by kernel_rfl) (fun _ _ _ h => h) (Or.inr ⟨by kernel_rfl, rfl⟩) (by assumption) ?_
    try simp only [Act.put, List.getElem_toArray, List.getElem_cons_zero, List.getElem_cons_succ, List.setIfInBounds_toArray, List.set_cons_zero, List.set_cons_succ]
    refine wpAnyH_take (i := 13) (v := undef) rfl (by kernel_rfl) (by kernel_rfl) (by kernel_rfl) (fun _ _ _ h => h) (Or.inr ⟨by kernel_rfl, rfl⟩) (by assumption) ?_
    try simp only [Act.put, List.getElem_toArray, List.getElem_cons_zero, List.getElem_cons_succ, List.setIfInBounds_toArray, List.set_cons_zero, List.set_cons_succ]
    refine wpAnyH_take (i := 14) (v := undef) rfl (by kernel_rfl) (by kernel_rfl) (by kernel_rfl) (fun _ _ _ h => h) (Or.inr ⟨by kernel_rfl, rfl⟩) (by assumption) ?_
    try simp only [Act.put, List.getElem_toArray, List.getElem_cons_zero, List.getElem_cons_succ, List.setIfInBounds_toArray, List.set_cons_zero, List.set_cons_succ]
    refine wpAnyH_take (i := 15) (v := undef) rfl (by kernel_rfl) (by kernel_rfl) (by kernel_rfl) (fun _ _ _ h => h) (Or.inr ⟨by kernel_rfl, rfl⟩) (by assumption) ?_
    try simp only [Act.put, List.getElem_toArray, List.getElem_cons_zero, List.getElem_cons_succ, List.setIfInBounds_toArray, List.set_cons_zero, List.set_cons_succ]
    refine wpAnyH_take (i := 16) (v := .bool false) rfl (by kernel_rfl) (by kernel_rfl) (by kernel_rfl) (fun _ _ _ h => h) (Or.inl ⟨by kernel_rfl, by (intro x hSx; (try dsimp only at hSx); go_simp)⟩) (by assumption) ?_
    try simp only [Act.put, List.getElem_toArray, List.getElem_cons_zero, List.getElem_cons_succ, List.setIfInBounds_toArray, List.set_cons_zero, List.set_cons_succ]
    refine wpAnyH_take (i := 17) (v := .bool false) rfl (by kernel_rfl) (by kernel_rfl) (by kernel_rfl) (fun _ _ _ h => h) (Or.inl ⟨by kernel_rfl, by (intro x hSx; (try dsimp only at hSx); go_simp)⟩) (by assumption) ?_
    try simp only [Act.put, List.getElem_toArray, List.getElem_cons_zero, List.getElem_cons_succ, List.setIfInBounds_toArray, List.set_cons_zero, List.set_cons_succ]
    refine wpAnyH_done (by kernel_rfl) ?_ _
    clear hHeld hHeld2
    go_wp2_with fail
    go_ret
    exact ⟨by rw [HG.out, HI.out]; rfl, D1.out⟩
  · have hin0 := hi
    simp only [Bool.and_eq_true, decide_eq_true_eq] at hin0
    have HI : Hid (inI x0 0 ((cn : Int) - 1) = true) := hib.trans hi
    obtain ⟨c, rfl⟩ := Int.eq_ofNat_of_zero_le hin0.1
    have hcl : c < cn := by omega
    have hin : Hid ((decide (0 ≤ (c : Int)) && decide ((c : Int) < (cn : Int))) = true) := hi
    obtain ⟨fl, hfl⟩ : ∃ m, m = (fld L c).length := ⟨_, rfl⟩
    have HFL : Hid ((fld L c).length = fl) := hfl.symm
    clear hi hib hin0 hfl
    refine wp_region_held_drew (S := fun x => x.cell? ⟨MP, 2, none⟩ = some (.slice ca cn cc) ∧ x.cell? ⟨TP, 0, none⟩ = some (.int .i64 c) ∧ x.cell? ⟨TP, 1, none⟩ = some (.slice va vl vc)) (by kernel_rfl) ?_ (fun hHeld => ?_)
    · exact KS.out _ D1.out
    refine wpAnyH_take (i := 0) (v := .pointer (some ⟨MP, 2, none⟩)) rfl (by kernel_rfl) (by kernel_rfl) (by kernel_rfl) (fun _ _ _ h => h) (Or.inl ⟨by kernel_rfl, by (intro x hSx; (try dsimp only at hSx); go_simp)⟩) (by assumption) ?_
    try simp only [Act.put, List.getElem_toArray, List.getElem_cons_zero, List.setIfInBounds_toArray, List.set_cons_zero, List.set_cons_succ]
    refine wpAnyH_take (i := 1) (v := .slice ca cn cc) rfl (by kernel_rfl) (by kernel_rfl) (by kernel_rfl) (fun _ _ _ h => h) (Or.inl ⟨by kernel_rfl, by (intro x hSx; (try dsimp only at hSx); go_simp)⟩) (by assumption) ?_
    try simp only [Act.put, List.getElem_toArray, List.getElem_cons_zero, List.getElem_cons_succ, List.setIfInBounds_toArray, List.set_cons_zero, List.set_cons_succ]
    refine wpAnyH_take (i := 2) (v := .pointer (some ⟨TP, 0, none⟩)) rfl (by kernel_rfl) (by kernel_rfl) (by kernel_rfl) (fun _ _ _ h => h) (Or.inl ⟨by kernel_rfl, by (intro x hSx; (try dsimp only at hSx); go_simp)⟩) (by assumption) ?_
    try simp only [Act.put, List.getElem_toArray, List.getElem_cons_zero, List.getElem_cons_succ, List.setIfInBounds_toArray, List.set_cons_zero, List.set_cons_succ]
    refine wpAnyH_take (i := 3) (v := .int .i64 c) rfl (by kernel_rfl) (by kernel_rfl) (by kernel_rfl) (fun _ _ _ h => h) (Or.inl ⟨by kernel_rfl, by (intro x hSx; (try dsimp only at hSx); go_simp)⟩) (by assumption) ?_
    try simp only [Act.put, List.getElem_toArray, List.getElem_cons_zero, List.getElem_cons_succ, List.setIfInBounds_toArray, List.set_cons_zero, List.set_cons_succ]
    refine wpAnyH_ready (rs := [4]) (by kernel_rfl) (by simp) ?_
    refine AllReadyH.cons rfl (fun K hK => ?_) AllReadyH.nil
    go_simp
    go_at_call 126
    refine (hasImpl _ _ _ _ _ hcr).mono ?_
    rintro e wz ⟨rfl, rfl⟩
    rw [hin.out]
    go_wp2_with fail
    refine hK.out _ _ (KS.out _ D1.out) (fun hHeld2 => ?_)
    clear hK K
    try simp only [Act.put, List.getElem_toArray, List.getElem_cons_zero, List.getElem_cons_succ, List.setIfInBounds_toArray, List.set_cons_zero, List.set_cons_succ]
    refine wpAnyH_take (i := 5) (v := .bool true) rfl (by kernel_rfl) (by kernel_rfl) (by kernel_rfl) (fun _ _ _ h => h) (Or.inl ⟨by kernel_rfl, by (intro x hSx; (try dsimp only at hSx); go_simp)⟩) (by assumption) ?_
    try simp only [Act.put, List.getElem_toArray, List.getElem_cons_zero, List.getElem_cons_succ, List.setIfInBounds_toArray, List.set_cons_zero, List.set_cons_succ]
    refine wpAnyH_take (i := 6) (v := .pointer (some ⟨TP, 1, none⟩)) rfl (by kernel_rfl) (by kernel_rfl) (by kernel_rfl) (fun _ _ _ h => h) (Or.inl ⟨by kernel_rfl, by (intro x hSx; (try dsimp only at hSx); go_simp)⟩) (by assumption) ?_
    try simp only [Act.put, List.getElem_toArray, List.getElem_cons_zero, List.getElem_cons_succ, List.setIfInBounds_toArray, List.set_cons_zero, List.set_cons_succ]
    refine wpAnyH_take (i := 7) (v := .slice va vl vc) rfl (by kernel_rfl) (by kernel_rfl) (by kernel_rfl) (fun _ _ _ h => h) (Or.inl ⟨by kernel_rfl, by (intro x hSx; (try dsimp only at hSx); go_simp)⟩) (by assumption) ?_
    try simp only [Act.put, List.getElem_toArray, List.getElem_cons_zero, List.getElem_cons_succ, List.setIfInBounds_toArray, List.set_cons_zero, List.set_cons_succ]
    refine wpAnyH_take (i := 8) (v := .int .i64 vl) rfl (by kernel_rfl) (by kernel_rfl) (by kernel_rfl) (fun _ _ _ h => h) (Or.inl ⟨by kernel_rfl, by (intro x hSx; (try dsimp only at hSx); go_simp)⟩) (by assumption) ?_
    try simp only [Act.put, List.getElem_toArray, List.getElem_cons_zero, List.getElem_cons_succ, List.setIfInBounds_toArray, List.set_cons_zero, List.set_cons_succ]
    refine wpAnyH_take (i := 9) (v := .pointer (some ⟨MP, 2, none⟩)) rfl (by kernel_rfl) (by kernel_rfl) (by kernel_rfl) (fun _ _ _ h => h) (Or.inl ⟨by kernel_rfl, by (intro x hSx; (try dsimp only at hSx); go_simp)⟩) (by assumption) ?_
    try simp only [Act.put, List.getElem_toArray, List.getElem_cons_zero, List.getElem_cons_succ, List.setIfInBounds_toArray, List.set_cons_zero, List.set_cons_succ]
    refine wpAnyH_take (i := 10) (v := .slice ca cn cc) rfl (by kernel_rfl) (by kernel_rfl) (by kernel_rfl) (fun _ _ _ h => h) (Or.inl ⟨by kernel_rfl, by (intro x hSx; (try dsimp only at hSx); go_simp)⟩) (by assumption) ?_
    try simp only [Act.put, List.getElem_toArray, List.getElem_cons_zero, List.getElem_cons_succ, List.setIfInBounds_toArray, List.set_cons_zero, List.set_cons_succ]
    refine wpAnyH_take (i := 11) (v := .pointer (some ⟨TP, 0, none⟩)) rfl (by kernel_rfl) (by kernel_rfl) (by kernel_rfl) (fun _ _ _ h => h) (Or.inl ⟨by kernel_rfl, by (intro x hSx; (try dsimp only at hSx); go_simp)⟩) (by assumption) ?_
    try simp only [Act.put, List.getElem_toArray, List.getElem_cons_zero, List.getElem_cons_succ, List.setIfInBounds_toArray, List.set_cons_zero, List.set_cons_succ]
    refine wpAnyH_take (i := 12) (v := .int .i64 c) rfl (by kernel_rfl) (by kernel_rfl) (by kernel_rfl) (fun _ _ _ h => h) (Or.inl ⟨by kernel_rfl, by (intro x hSx; (try dsimp only at hSx); go_simp)⟩) (by assumption) ?_
    try simp only [Act.put, List.getElem_toArray, List.getElem_cons_zero, List.getElem_cons_succ, List.setIfInBounds_toArray, List.set_cons_zero, List.set_cons_succ]
    refine wpAnyH_ready (rs := [13]) (by kernel_rfl) (by simp) ?_
    refine AllReadyH.cons rfl (fun K hK => ?_) AllReadyH.nil
    go_simp
    go_at_call 127
    refine (fieldsImpl _ _ _ L OK.out HS.out c _ hcl (H.out.later D1.out)).mono ?_
    rintro e w2 ⟨v, rfl, hv⟩
    have hv1 := hv.1
    rw [HFL.out] at hv1
    obtain ⟨fa, fc, rfl⟩ := own_sl hv1
    clear hv1
    have D2 : Hid (Below w.heap.size w w2) := D1.out.trans (hv.2.mono D1.out.size)
    clear hv
    go_wp2_with fail
    refine hK.out _ _ (KS.out _ D2.out) (fun hHeld3 => ?_)
    clear hK K
    try simp only [Act.put, List.getElem_toArray, List.getElem_cons_zero, List.getElem_cons_succ, List.setIfInBounds_toArray, List.set_cons_zero, List.set_cons_succ]
    refine wpAnyH_take (i := 14) (v := .int .i64 fl) rfl (by kernel_rfl) (by kernel_rfl) (by kernel_rfl) (fun _ _ _ h => h) (Or.inl ⟨by kernel_rfl, by (intro x hSx; (try dsimp only at hSx); go_simp)⟩) (by assumption) ?_
    try simp only [Act.put, List.getElem_toArray, List.getElem_cons_zero, List.getElem_cons_succ, List.setIfInBounds_toArray, List.set_cons_zero, List.set_cons_succ]
    refine wpAnyH_take (i := 15) (v := .bool ((vl : Int) == fl)) rfl (by kernel_rfl) (by kernel_rfl) (by kernel_rfl) (fun _ _ _ h => h) (Or.inl ⟨by kernel_rfl, by (intro x hSx; (try dsimp only at hSx); go_simp)⟩) (by assumption) ?_
    try simp only [Act.put, List.getElem_toArray, List.getElem_cons_zero, List.getElem_cons_succ, List.setIfInBounds_toArray, List.set_cons_zero, List.set_cons_succ]
    refine wpAnyH_take (i := 16) (v := .bool ((vl : Int) == fl)) rfl (by kernel_rfl) (by kernel_rfl) (by kernel_rfl) (fun _ _ _ h => h) (Or.inl ⟨by kernel_rfl, by (intro x hSx; (try dsimp only at hSx); go_simp)⟩) (by assumption) ?_
    try simp only [Act.put, List.getElem_toArray, List.getElem_cons_zero, List.getElem_cons_succ, List.setIfInBounds_toArray, List.set_cons_zero, List.set_cons_succ]
    refine wpAnyH_take (i := 17) (v := .bool ((vl : Int) == fl)) rfl (by kernel_rfl) (by kernel_rfl) (by kernel_rfl) (fun _ _ _ h => h) (Or.inl ⟨by kernel_rfl, by (intro x hSx; (try dsimp only at hSx); go_simp)⟩) (by assumption) ?_
    try simp only [Act.put, List.getElem_toArray, List.getElem_cons_zero, List.getElem_cons_succ, List.setIfInBounds_toArray, List.set_cons_zero, List.set_cons_succ]
    refine wpAnyH_done (by kernel_rfl) ?_ _
    clear hHeld hHeld2 hHeld3
    go_wp2_with fail
    go_ret
    refine ⟨?_, D2.out⟩
    rw [HG.out, HI.out, Int.toNat_natCast, HFL.out, Bool.true_and, ← nat_beq]
    rfl
theorem thing2Impl (ca : Option Addr) (cn cc : Nat) (ma : Option Addr) (mn mc : Nat) (xa : Option Addr) (xl xc : Nat) (fa : Option Addr) (fl0 fc : Nat) (da : Option Addr) (dl dc : Nat) (st en : Int) (o0 : Bool) (o1 : Int) (MP TP : Nat) (x0 : Int) (va : Option Addr) (vl vc : Nat) (vs : List Vl) (w : World) {F : Nat → Prop} (hv : SlAt vaR F w va vl vs) (hM : w.heap[MP]? = some (.cells #[.slice ca cn cc, .slice ma mn mc, .slice ca cn cc, .slice xa xl xc, .slice fa fl0 fc, .slice da dl dc, .int .i64 st, .int .i64 en, .bool o0, .int .i64 o1] 96 (0, 0))) (hT : w.heap[TP]? = some (.cells #[.int .i64 x0, .slice va vl vc] 86 (0, 0))) :
    Calls Tryz.prog 128 #[.pointer (some ⟨TP, 0, none⟩), .pointer (some ⟨MP, 0, none⟩)] w fun e w' => e = .returned (.bool (valsM xl vs)) ∧ Below w.heap.size w w' := by
  have HV : Hid (SlAt vaR F w va vl vs) := hv
  have m0 : w.cell? ⟨MP, 0, none⟩ = some (.slice ca cn cc) := (boxG hM 0).1
  have m1 : w.cell? ⟨MP, 1, none⟩ = some (.slice ma mn mc) := (boxG hM 1).1
  have m2 : w.cell? ⟨MP, 2, none⟩ = some (.slice ca cn cc) := (boxG hM 2).1
  have m3 : w.cell? ⟨MP, 3, none⟩ = some (.slice xa xl xc) := (boxG hM 3).1
  have m4 : w.cell? ⟨MP, 4, none⟩ = some (.slice fa fl0 fc) := (boxG hM 4).1
  have m5 : w.cell? ⟨MP, 5, none⟩ = some (.slice da dl dc) := (boxG hM 5).1
  have m6 : w.cell? ⟨MP, 6, none⟩ = some (.int .i64 st) := (boxG hM 6).1
  have m7 : w.cell? ⟨MP, 7, none⟩ = some (.int .i64 en) := (boxG hM 7).1
  have m8 : w.cell? ⟨MP, 8, none⟩ = some (.bool o0) := (boxG hM 8).1
  have m9 : w.cell? ⟨MP, 9, none⟩ = some (.int .i64 o1) := (boxG hM 9).1
  have t1 : w.cell? ⟨TP, 1, none⟩ = some (.slice va vl vc) := (boxG hT 1).1
  have hmf : ∀ (fn : Fn) (first cap : Array Value) (w : World), (Instr.makeFunc fn first cap).run Tryz.prog w = .ok (.func fn first cap) w := fun _ _ _ _ => rfl
  clear hM hT hv
  go_enter Tryz.func128, Tryz.ntmps128
  go_wp2_with fail
  refine (eachValImpl _ _ _ _ _ _ _ _ _ _ _ _ _ _ _ _ _ _ _  _ _ _ vs [] [] _ (E := fun _ => True) (F := fun _ => True) (G := fun _ => True) HV.out).mono ?_
  rintro e w1 ⟨rfl, hb⟩
  have B1 : Hid (Below w.heap.size w w1) := hb
  clear hb
  go_wp2_with fail
  go_ret
  exact ⟨rfl, B1.out⟩

end Go.Proofs.YthdlccadcadopaaGreat
namespace Go.Proofs.YthdlccadcadopaaGreat
open Go.ChangeShapes Go.WideShapes Go.ChangeAt Go.RowKit
set_option linter.unusedVariables false

set_option maxRecDepth 100000 in
set_option maxHeartbeats 4000000 in
theorem allThing (ca : Option Addr) (cn cc : Nat) (ma : Option Addr) (mn mc : Nat) (xa : Option Addr) (xl xc : Nat) (fa : Option Addr) (fl fc : Nat) (da : Option Addr) (dl dc : Nat) (st en : Int) (o0 : Bool) (o1 : Int) (AB MP TP : Nat) (t : TypeId) (x0 : Int) (va : Option Addr) (vl vc : Nat) (vs : List Vl) (L : List Cl) (w : World) {D E F : Nat → Prop} (h : ClsAt D E w ca cn L) (ok : clsOk L = true) (hv : SlAt vaR F w va vl vs) (hM : w.heap[MP]? = some (.cells #[.slice ca cn cc, .slice ma mn mc, .slice ca cn cc, .slice xa xl xc, .slice fa fl fc, .slice da dl dc, .int .i64 st, .int .i64 en, .bool o0, .int .i64 o1] 96 (0, 0))) (hT : w.heap[TP]? = some (.cells #[.int .i64 x0, .slice va vl vc] 86 (0, 0))) (hA : w.heap[AB]? = some (.cells #[.func (.func 124) #[] #[.pointer (some ⟨TP, 0, none⟩), .pointer (some ⟨MP, 0, none⟩)], .func (.func 128) #[] #[.pointer (some ⟨TP, 0, none⟩), .pointer (some ⟨MP, 0, none⟩)]] t (0, 0))) :
    Calls Tryz.prog 82 #[.slice (some ⟨AB, 0, none⟩) 2 2] w fun e w' => e = .returned (.bool (sizM L (x0, vs) && valsM xl vs)) ∧ Below w.heap.size w w' := by
  have HV : Hid (SlAt vaR F w va vl vs) := hv
  have H : Hid (ClsAt D E w ca cn L) := h
  have HVS : Hid (vs.length = vl) := hv.size
  clear hv h
  have B : Hid (∀ y, Below w.heap.size w y → Below w.heap.size w y) := fun _ h => h
  have lA : AB < w.heap.size := (Array.getElem?_eq_some_iff.1 hA).1
  have XA : Hid (∀ y, Below w.heap.size w y → y.heap[AB]? = some (.cells #[.func (.func 124) #[] #[.pointer (some ⟨TP, 0, none⟩), .pointer (some ⟨MP, 0, none⟩)], .func (.func 128) #[] #[.pointer (some ⟨TP, 0, none⟩), .pointer (some ⟨MP, 0, none⟩)]] t (0, 0))) := fun y hy => (hy.block _ lA).trans hA
  have lM : MP < w.heap.size := (Array.getElem?_eq_some_iff.1 hM).1
  have XM : Hid (∀ y, Below w.heap.size w y → y.heap[MP]? = some (.cells #[.slice ca cn cc, .slice ma mn mc, .slice ca cn cc, .slice xa xl xc, .slice fa fl fc, .slice da dl dc, .int .i64 st, .int .i64 en, .bool o0, .int .i64 o1] 96 (0, 0))) := fun y hy => (hy.block _ lM).trans hM
  have lT : TP < w.heap.size := (Array.getElem?_eq_some_iff.1 hT).1
  have XT : Hid (∀ y, Below w.heap.size w y → y.heap[TP]? = some (.cells #[.int .i64 x0, .slice va vl vc] 86 (0, 0))) := fun y hy => (hy.block _ lT).trans hT
  clear hA hM hT
  go_enter Tryz.func82, Tryz.ntmps82
  go_wp2_with fail
  refine wp_loop_rounds 3 ?_
  rw [rounds_succ]
  have kA0 : w.cell? ⟨AB, 0, none⟩ = some (.func (.func 124) #[] #[.pointer (some ⟨TP, 0, none⟩), .pointer (some ⟨MP, 0, none⟩)]) := (boxG (XA.out w (Below.refl _ _)) 0).1
  have kA1 : w.cell? ⟨AB, 1, none⟩ = some (.func (.func 128) #[] #[.pointer (some ⟨TP, 0, none⟩), .pointer (some ⟨MP, 0, none⟩)]) := (boxG (XA.out w (Below.refl _ _)) 1).1
  have BP : Hid (Below w.heap.size w w) := Below.refl _ _
  go_wp2_with fail
  refine (thing1Impl _ _ _ _ _ _ _ _ _ _ _ _ _ _ _ _ _ _ _  MP TP x0 va vl vc vs L _ (H.out.later (B.out _ (Below.refl _ _))) ok HVS.out (XM.out _ (Below.refl _ _)) (XT.out _ (Below.refl _ _))).mono ?_
  rintro e w1 ⟨rfl, hb⟩
  have hq : Below w.heap.size w w1 := BP.out.trans (Below.mono hb BP.out.size)
  replace B : Hid (∀ y, Below w1.heap.size w1 y → Below w.heap.size w y) := fun y hy => B.out y (hq.trans (hy.mono hq.size))
  replace XA : Hid (∀ y, Below w1.heap.size w1 y → y.heap[AB]? = some (.cells #[.func (.func 124) #[] #[.pointer (some ⟨TP, 0, none⟩), .pointer (some ⟨MP, 0, none⟩)], .func (.func 128) #[] #[.pointer (some ⟨TP, 0, none⟩), .pointer (some ⟨MP, 0, none⟩)]] t (0, 0))) := fun y hy => XA.out y (hq.trans (hy.mono hq.size))
  replace lA : AB < w1.heap.size := Nat.lt_of_lt_of_le lA hq.size
  replace XM : Hid (∀ y, Below w1.heap.size w1 y → y.heap[MP]? = some (.cells #[.slice ca cn cc, .slice ma mn mc, .slice ca cn cc, .slice xa xl xc, .slice fa fl fc, .slice da dl dc, .int .i64 st, .int .i64 en, .bool o0, .int .i64 o1] 96 (0, 0))) := fun y hy => XM.out y (hq.trans (hy.mono hq.size))
  replace lM : MP < w1.heap.size := Nat.lt_of_lt_of_le lM hq.size
  replace XT : Hid (∀ y, Below w1.heap.size w1 y → y.heap[TP]? = some (.cells #[.int .i64 x0, .slice va vl vc] 86 (0, 0))) := fun y hy => XT.out y (hq.trans (hy.mono hq.size))
  replace lT : TP < w1.heap.size := Nat.lt_of_lt_of_le lT hq.size
  have zw1 : w.heap.size ≤ w1.heap.size := hq.size
  clear hq BP
  clear kA0 kA1
  clear hb
  cases h0 : sizM L (x0, vs)
  · have H0 : Hid ((sizM L (x0, vs)) = false) := h0
    go_wp2_with fail
    go_ret
    exact ⟨by rw [H0.out]; rfl, B.out _ (Below.refl _ _)⟩
  have H0 : Hid ((sizM L (x0, vs)) = true) := h0
  clear h0
  go_wp2_with fail
  rw [rounds_succ]
  have kA0 : w1.cell? ⟨AB, 0, none⟩ = some (.func (.func 124) #[] #[.pointer (some ⟨TP, 0, none⟩), .pointer (some ⟨MP, 0, none⟩)]) := (boxG (XA.out w1 (Below.refl _ _)) 0).1
  have kA1 : w1.cell? ⟨AB, 1, none⟩ = some (.func (.func 128) #[] #[.pointer (some ⟨TP, 0, none⟩), .pointer (some ⟨MP, 0, none⟩)]) := (boxG (XA.out w1 (Below.refl _ _)) 1).1
  have BP : Hid (Below w1.heap.size w1 w1) := Below.refl _ _
  go_wp2_with fail
  refine (thing2Impl _ _ _ _ _ _ _ _ _ _ _ _ _ _ _ _ _ _ _  MP TP x0 va vl vc vs _ (HV.out.later (B.out _ (Below.refl _ _))) (XM.out _ (Below.refl _ _)) (XT.out _ (Below.refl _ _))).mono ?_
  rintro e w2 ⟨rfl, hb⟩
  have hq : Below w1.heap.size w1 w2 := BP.out.trans (Below.mono hb BP.out.size)
  replace B : Hid (∀ y, Below w2.heap.size w2 y → Below w.heap.size w y) := fun y hy => B.out y (hq.trans (hy.mono hq.size))
  replace XA : Hid (∀ y, Below w2.heap.size w2 y → y.heap[AB]? = some (.cells #[.func (.func 124) #[] #[.pointer (some ⟨TP, 0, none⟩), .pointer (some ⟨MP, 0, none⟩)], .func (.func 128) #[] #[.pointer (some ⟨TP, 0, none⟩), .pointer (some ⟨MP, 0, none⟩)]] t (0, 0))) := fun y hy => XA.out y (hq.trans (hy.mono hq.size))
  replace lA : AB < w2.heap.size := Nat.lt_of_lt_of_le lA hq.size
  replace XM : Hid (∀ y, Below w2.heap.size w2 y → y.heap[MP]? = some (.cells #[.slice ca cn cc, .slice ma mn mc, .slice ca cn cc, .slice xa xl xc, .slice fa fl fc, .slice da dl dc, .int .i64 st, .int .i64 en, .bool o0, .int .i64 o1] 96 (0, 0))) := fun y hy => XM.out y (hq.trans (hy.mono hq.size))
  replace lM : MP < w2.heap.size := Nat.lt_of_lt_of_le lM hq.size
  replace XT : Hid (∀ y, Below w2.heap.size w2 y → y.heap[TP]? = some (.cells #[.int .i64 x0, .slice va vl vc] 86 (0, 0))) := fun y hy => XT.out y (hq.trans (hy.mono hq.size))
  replace lT : TP < w2.heap.size := Nat.lt_of_lt_of_le lT hq.size
  have zw2 : w1.heap.size ≤ w2.heap.size := hq.size
  clear hq BP
  clear kA0 kA1
  clear hb
  cases h1 : valsM xl vs
  · have H1 : Hid ((valsM xl vs) = false) := h1
    go_wp2_with fail
    go_ret
    exact ⟨by rw [H0.out, H1.out]; rfl, B.out _ (Below.refl _ _)⟩
  have H1 : Hid ((valsM xl vs) = true) := h1
  clear h1
  go_wp2_with fail
  rw [rounds_succ]
  have kA0 : w2.cell? ⟨AB, 0, none⟩ = some (.func (.func 124) #[] #[.pointer (some ⟨TP, 0, none⟩), .pointer (some ⟨MP, 0, none⟩)]) := (boxG (XA.out w2 (Below.refl _ _)) 0).1
  have kA1 : w2.cell? ⟨AB, 1, none⟩ = some (.func (.func 128) #[] #[.pointer (some ⟨TP, 0, none⟩), .pointer (some ⟨MP, 0, none⟩)]) := (boxG (XA.out w2 (Below.refl _ _)) 1).1
  go_wp2_with fail
  go_ret
  exact ⟨by rw [H0.out, H1.out]; rfl, B.out _ (Below.refl _ _)⟩
theorem thingOkImpl (ca : Option Addr) (cn cc : Nat) (ma : Option Addr) (mn mc : Nat) (xa : Option Addr) (xl xc : Nat) (fa : Option Addr) (fl fc : Nat) (da : Option Addr) (dl dc : Nat) (st en : Int) (o0 : Bool) (o1 : Int) (x0 : Int) (va : Option Addr) (vl vc : Nat) (vs : List Vl) (L : List Cl) (w : World) {D E F : Nat → Prop} (h : ClsAt D E w ca cn L) (ok : clsOk L = true) (hv : SlAt vaR F w va vl vs) :
    Calls Tryz.prog 94 #[.agg #[.slice ca cn cc, .slice ma mn mc, .slice ca cn cc, .slice xa xl xc, .slice fa fl fc, .slice da dl dc, .int .i64 st, .int .i64 en, .bool o0, .int .i64 o1], .agg #[.int .i64 x0, .slice va vl vc]] w fun e w' => e = .returned (.bool (objM L xl (x0, vs))) ∧ Below w.heap.size w w' := by
  have HV : Hid (SlAt vaR F w va vl vs) := hv
  have H : Hid (ClsAt D E w ca cn L) := h
  have HO : Hid (objM L xl (x0, vs) = (sizM L (x0, vs) && valsM xl vs)) := by show _ = _; rw [objM_siz, Bool.and_comm]
  have BX : Hid (∀ o : Obj, Below w.heap.size w (((w.alloc (.cells #[.slice ca cn cc, .slice ma mn mc, .slice ca cn cc, .slice xa xl xc, .slice fa fl fc, .slice da dl dc, .int .i64 st, .int .i64 en, .bool o0, .int .i64 o1] 96)).alloc (.cells #[.int .i64 x0, .slice va vl vc] 86)).alloc o)) := fun o => (((Below.refl _ _).alloc (Nat.le_refl _) _).alloc (by simp) _).alloc (by simp; omega) _
  have hmf : ∀ (fn : Fn) (first cap : Array Value) (w : World), (Instr.makeFunc fn first cap).run Tryz.prog w = .ok (.func fn first cap) w := fun _ _ _ _ => rfl
  clear h hv
  go_enter Tryz.func94, Tryz.ntmps94
  go_wp2_with fail
  refine (allThing _ _ _ _ _ _ _ _ _ _ _ _ _ _ _ _ _ _ _  (w.heap.size + 1 + 1) w.heap.size (w.heap.size + 1) _ x0 va vl vc vs L _ (H.out.later (BX.out _)) ok (HV.out.later (BX.out _)) ((Below.heap_alloc _ _ _ (by simp; omega)).trans ((Below.heap_alloc _ _ _ (by simp)).trans (boxN _ _ _ _ rfl))) ((Below.heap_alloc _ _ _ (by simp)).trans (boxN _ _ _ _ (by simp))) (boxN _ _ _ _ (by simp))).mono ?_
  rintro e w1 ⟨rfl, hb⟩
  have B1 : Hid (Below w.heap.size w w1) := (BX.out _).trans (hb.mono (by simp; omega))
  clear hb
  go_wp2_with fail
  go_ret
  exact ⟨by rw [HO.out]; rfl, B1.out⟩

set_option maxRecDepth 100000 in
set_option maxHeartbeats 4000000 in
theorem eachFailImpl (ca : Option Addr) (cn cc : Nat) (ma : Option Addr) (mn mc : Nat) (xa : Option Addr) (xl xc : Nat) (fa : Option Addr) (fl fc : Nat) (da : Option Addr) (dl dc : Nat) (st en : Int) (o0 : Bool) (o1 : Int) (ea : Option Addr) (el ec : Nat) (xs : List Ob) (L : List Cl) (M : List Me) (w : World) {D E F G : Nat → Prop} (h : SlAt obR D w ea el xs) :
    Calls Tryz.prog 88 #[.slice ea el ec, .func (.func 89) #[] #[]] w fun e w' => e = .returned (.bool (xs.all (fun o : Ob => o.1 == 1))) ∧ Below w.heap.size w w' := by
  have hro := h.room
  have HS : Hid (xs.length = el) := h.size
  have H : Hid (SlAt obR D w ea el xs) := h
  obtain ⟨P, hP⟩ : ∃ P : Ob → Bool, P = (fun o : Ob => o.1 == 1) := ⟨_, rfl⟩
  have HP : Hid (P = (fun o : Ob => o.1 == 1)) := hP
  rw [← hP]
  clear h hP
  go_enter Tryz.func88, Tryz.ntmps88
  go_wp2_with fail
  go_loopw [9] (fun t wr => ∃ k : Nat, k ≤ el ∧ t = .int .i64 k ∧ (xs.take k).all P = true ∧ Below w.heap.size w wr) (fun t _ => el - (intOf t).toNat)
  case atStart => exact ⟨0, Nat.zero_le _, rfl, by simp, Below.refl _ _⟩
  case round =>
    obtain ⟨k, hk, rfl, ha, hb⟩ := hrel
    have HA : Hid ((xs.take k).all P = true) := ha
    have HB : Hid (Below w.heap.size w wr) := hb
    clear ha hb
    by_cases hlt : k < el
    · obtain ⟨x, hx⟩ : ∃ x, xs[k]? = some x := ⟨xs[k]'(by rw [HS.out]; exact hlt), List.getElem?_eq_getElem _⟩
      have HX : Hid (xs[k]? = some x) := hx
      obtain ⟨b, off, rfl, _, us, hv, hc⟩ := (H.out.later HB.out).at k x hx
      obtain ⟨x0, ys⟩ := x
      obtain ⟨_, _, rfl, ⟨rfl, _⟩, va, vl, vc, rfl, hys⟩ := hv
      have c0x : wr.cell? ⟨b, off + k * 2, none⟩ = some (.int .i64 x0) := hc 0 _ rfl
      have c1x : wr.cell? ⟨b, off + k * 2 + 1, none⟩ = some (.slice va vl vc) := hc 1 _ rfl
      have HY : Hid (SlAt vaR D wr va vl ys) := hys
      clear hys
      have BL : Hid (Below wr.heap.size wr (wr.alloc (.cells #[.int .i64 x0, .slice va vl vc] 86))) := (Below.refl _ _).alloc (Nat.le_refl _) _
      clear hx hc
      go_wp2_with fail
      refine (isFailImpl _ _ _ _ _).mono ?_
      rintro e w2 ⟨rfl, hb2⟩
      have B2 : Hid (Below w.heap.size w w2) := (HB.out.trans (BL.out.mono HB.out.size)).trans (hb2.mono (by have := HB.out.size; simp; omega))
      clear hb2
      cases hq : (x0 == 1)
      · go_wp2_with fail
        go_ret
        exact ⟨by rw [all_no_at HX.out (by rw [HP.out]; exact hq)]; rfl, B2.out⟩
      · go_wp2_with fail
        exact ⟨⟨k + 1, by omega, by go_num, all_take_one HA.out HX.out (by rw [HP.out]; exact hq), B2.out⟩, by simp [intOf]; omega⟩
    · have ek : k = el := by omega
      subst ek
      have HR : Hid (xs.all P = true) := by have := HA.out; rwa [← HS.out, List.take_length] at this
      go_wp2_with fail
      go_ret
      exact ⟨by rw [HR.out]; rfl, HB.out⟩

set_option maxRecDepth 100000 in
set_option maxHeartbeats 4000000 in
theorem eachThingImpl (ca : Option Addr) (cn cc : Nat) (ma : Option Addr) (mn mc : Nat) (xa : Option Addr) (xl xc : Nat) (fa : Option Addr) (fl fc : Nat) (da : Option Addr) (dl dc : Nat) (st en : Int) (o0 : Bool) (o1 : Int) (ea : Option Addr) (el ec : Nat) (xs : List Ob) (L : List Cl) (M : List Me) (w : World) {D E F G : Nat → Prop} (h : SlAt obR D w ea el xs) (hc : ClsAt E F w ca cn L) (ok : clsOk L = true) :
    Calls Tryz.prog 88 #[.slice ea el ec, .func (.func 94) #[.agg #[.slice ca cn cc, .slice ma mn mc, .slice ca cn cc, .slice xa xl xc, .slice fa fl fc, .slice da dl dc, .int .i64 st, .int .i64 en, .bool o0, .int .i64 o1]] #[]] w fun e w' => e = .returned (.bool (xs.all (objM L xl))) ∧ Below w.heap.size w w' := by
  have hro := h.room
  have HS : Hid (xs.length = el) := h.size
  have H : Hid (SlAt obR D w ea el xs) := h
  obtain ⟨P, hP⟩ : ∃ P : Ob → Bool, P = (objM L xl) := ⟨_, rfl⟩
  have HP : Hid (P = (objM L xl)) := hP
  have HC : Hid (ClsAt E F w ca cn L) := hc
  clear hc
  rw [← hP]
  clear h hP
  go_enter Tryz.func88, Tryz.ntmps88
  go_wp2_with fail
  go_loopw [9] (fun t wr => ∃ k : Nat, k ≤ el ∧ t = .int .i64 k ∧ (xs.take k).all P = true ∧ Below w.heap.size w wr) (fun t _ => el - (intOf t).toNat)
  case atStart => exact ⟨0, Nat.zero_le _, rfl, by simp, Below.refl _ _⟩
  case round =>
    obtain ⟨k, hk, rfl, ha, hb⟩ := hrel
    have HA : Hid ((xs.take k).all P = true) := ha
    have HB : Hid (Below w.heap.size w wr) := hb
    clear ha hb
    by_cases hlt : k < el
    · obtain ⟨x, hx⟩ : ∃ x, xs[k]? = some x := ⟨xs[k]'(by rw [HS.out]; exact hlt), List.getElem?_eq_getElem _⟩
      have HX : Hid (xs[k]? = some x) := hx
      obtain ⟨b, off, rfl, _, us, hv, hc⟩ := (H.out.later HB.out).at k x hx
      obtain ⟨x0, ys⟩ := x
      obtain ⟨_, _, rfl, ⟨rfl, _⟩, va, vl, vc, rfl, hys⟩ := hv
      have c0x : wr.cell? ⟨b, off + k * 2, none⟩ = some (.int .i64 x0) := hc 0 _ rfl
      have c1x : wr.cell? ⟨b, off + k * 2 + 1, none⟩ = some (.slice va vl vc) := hc 1 _ rfl
      have HY : Hid (SlAt vaR D wr va vl ys) := hys
      clear hys
      have BL : Hid (Below wr.heap.size wr (wr.alloc (.cells #[.int .i64 x0, .slice va vl vc] 86))) := (Below.refl _ _).alloc (Nat.le_refl _) _
      clear hx hc
      go_wp2_with fail
      refine (thingOkImpl _ _ _ _ _ _ _ _ _ _ _ _ _ _ _ _ _ _ _  x0 va vl vc ys L _ (HC.out.later (HB.out.trans (BL.out.mono HB.out.size))) ok (HY.out.later BL.out)).mono ?_
      rintro e w2 ⟨rfl, hb2⟩
      have B2 : Hid (Below w.heap.size w w2) := (HB.out.trans (BL.out.mono HB.out.size)).trans (hb2.mono (by have := HB.out.size; simp; omega))
      clear hb2
      cases hq : objM L xl (x0, ys)
      · go_wp2_with fail
        go_ret
        exact ⟨by rw [all_no_at HX.out (by rw [HP.out]; exact hq)]; rfl, B2.out⟩
      · go_wp2_with fail
        exact ⟨⟨k + 1, by omega, by go_num, all_take_one HA.out HX.out (by rw [HP.out]; exact hq), B2.out⟩, by simp [intOf]; omega⟩
    · have ek : k = el := by omega
      subst ek
      have HR : Hid (xs.all P = true) := by have := HA.out; rwa [← HS.out, List.take_length] at this
      go_wp2_with fail
      go_ret
      exact ⟨by rw [HR.out]; rfl, HB.out⟩

end Go.Proofs.YthdlccadcadopaaGreat
namespace Go.Proofs.YthdlccadcadopaaGreat
open Go.ChangeShapes Go.WideShapes Go.ChangeAt Go.RowKit
set_option linter.unusedVariables false

theorem place_in (n s : Int) : (decide (0 ≤ n) && decide (n < s)) = inI n 0 (s - 1) := by unfold inI; congr 1; simp; omega
theorem frame1Impl (ca : Option Addr) (cn cc : Nat) (ma : Option Addr) (mn mc : Nat) (xa : Option Addr) (xl xc : Nat) (fa : Option Addr) (fl fc : Nat) (da : Option Addr) (dl dc : Nat) (st en : Int) (o0 : Bool) (o1 : Int) (MP FP : Nat) (fm ft : Int) (la : Option Addr) (ll lc : Nat) (sa : Option Addr) (sl sc : Nat) (w : World) (hM : w.heap[MP]? = some (.cells #[.slice ca cn cc, .slice ma mn mc, .slice ca cn cc, .slice xa xl xc, .slice fa fl fc, .slice da dl dc, .int .i64 st, .int .i64 en, .bool o0, .int .i64 o1] 96 (0, 0))) (hT : w.heap[FP]? = some (.cells #[.int .i64 fm, .int .i64 ft, .slice la ll lc, .slice sa sl sc] 60 (0, 0))) :
    Calls Tryz.prog 130 #[.pointer (some ⟨FP, 0, none⟩), .pointer (some ⟨MP, 0, none⟩)] w fun e w' => e = .returned (.bool (inI fm 0 ((mn : Int) - 1))) ∧ Below w.heap.size w w' := by
  have m0 : w.cell? ⟨MP, 0, none⟩ = some (.slice ca cn cc) := (boxG hM 0).1
  have m1 : w.cell? ⟨MP, 1, none⟩ = some (.slice ma mn mc) := (boxG hM 1).1
  have m2 : w.cell? ⟨MP, 2, none⟩ = some (.slice ca cn cc) := (boxG hM 2).1
  have m3 : w.cell? ⟨MP, 3, none⟩ = some (.slice xa xl xc) := (boxG hM 3).1
  have m4 : w.cell? ⟨MP, 4, none⟩ = some (.slice fa fl fc) := (boxG hM 4).1
  have m5 : w.cell? ⟨MP, 5, none⟩ = some (.slice da dl dc) := (boxG hM 5).1
  have m6 : w.cell? ⟨MP, 6, none⟩ = some (.int .i64 st) := (boxG hM 6).1
  have m7 : w.cell? ⟨MP, 7, none⟩ = some (.int .i64 en) := (boxG hM 7).1
  have m8 : w.cell? ⟨MP, 8, none⟩ = some (.bool o0) := (boxG hM 8).1
  have m9 : w.cell? ⟨MP, 9, none⟩ = some (.int .i64 o1) := (boxG hM 9).1
  have t0 : w.cell? ⟨FP, 0, none⟩ = some (.int .i64 fm) := (boxG hT 0).1
  have t1 : w.cell? ⟨FP, 1, none⟩ = some (.int .i64 ft) := (boxG hT 1).1
  have t2 : w.cell? ⟨FP, 2, none⟩ = some (.slice la ll lc) := (boxG hT 2).1
  have t3 : w.cell? ⟨FP, 3, none⟩ = some (.slice sa sl sc) := (boxG hT 3).1
  have HP : Hid ((decide (0 ≤ fm) && decide (fm < (mn : Int))) = inI fm 0 ((mn : Int) - 1)) := place_in fm mn
  clear hM hT
  go_enter Tryz.func130, Tryz.ntmps130
  go_wp2_with fail
  refine (placeImpl _ _ _).mono ?_
  rintro e w1 ⟨rfl, rfl⟩
  rw [HP.out]
  go_wp2_with fail
  go_ret
  exact ⟨rfl, Below.refl _ _⟩
theorem frame4Impl (FP : Nat) (fm ft : Int) (la : Option Addr) (ll lc : Nat) (sa : Option Addr) (sl sc : Nat) (w : World) (hT : w.heap[FP]? = some (.cells #[.int .i64 fm, .int .i64 ft, .slice la ll lc, .slice sa sl sc] 60 (0, 0))) :
    Calls Tryz.prog 134 #[.pointer (some ⟨FP, 0, none⟩)] w fun e w' => e = .returned (.bool (decide (sl ≤ 4))) ∧ Below w.heap.size w w' := by
  have t3 : w.cell? ⟨FP, 3, none⟩ = some (.slice sa sl sc) := (boxG hT 3).1
  clear hT
  by_cases h4 : sl ≤ 4
  · go_enter Tryz.func134, Tryz.ntmps134
    go_wp2_with fail
    go_ret
    exact ⟨by rw [decide_eq_true h4]; simp; omega, Below.refl _ _⟩
  · go_enter Tryz.func134, Tryz.ntmps134
    go_wp2_with fail
    go_ret
    exact ⟨by rw [decide_eq_false h4]; simp; omega, Below.refl _ _⟩
theorem frame5Impl (ca : Option Addr) (cn cc : Nat) (ma : Option Addr) (mn mc : Nat) (xa : Option Addr) (xl xc : Nat) (fa : Option Addr) (fl fc : Nat) (da : Option Addr) (dl dc : Nat) (st en : Int) (o0 : Bool) (o1 : Int) (MP FP : Nat) (fm ft : Int) (la : Option Addr) (ll lc : Nat) (sa : Option Addr) (sl sc : Nat) (ls ss : List Vl) (w : World) {D E : Nat → Prop} (hl : SlAt vaR D w la ll ls) (hk : SlAt vaR E w sa sl ss) (hM : w.heap[MP]? = some (.cells #[.slice ca cn cc, .slice ma mn mc, .slice ca cn cc, .slice xa xl xc, .slice fa fl fc, .slice da dl dc, .int .i64 st, .int .i64 en, .bool o0, .int .i64 o1] 96 (0, 0))) (hT : w.heap[FP]? = some (.cells #[.int .i64 fm, .int .i64 ft, .slice la ll lc, .slice sa sl sc] 60 (0, 0))) :
    Calls Tryz.prog 135 #[.pointer (some ⟨FP, 0, none⟩), .pointer (some ⟨MP, 0, none⟩)] w fun e w' => e = .returned (.bool (valsM xl ls && valsM xl ss)) ∧ Below w.heap.size w w' := by
  have HL : Hid (SlAt vaR D w la ll ls) := hl
  have HK : Hid (SlAt vaR E w sa sl ss) := hk
  have m0 : w.cell? ⟨MP, 0, none⟩ = some (.slice ca cn cc) := (boxG hM 0).1
  have m1 : w.cell? ⟨MP, 1, none⟩ = some (.slice ma mn mc) := (boxG hM 1).1
  have m2 : w.cell? ⟨MP, 2, none⟩ = some (.slice ca cn cc) := (boxG hM 2).1
  have m3 : w.cell? ⟨MP, 3, none⟩ = some (.slice xa xl xc) := (boxG hM 3).1
  have m4 : w.cell? ⟨MP, 4, none⟩ = some (.slice fa fl fc) := (boxG hM 4).1
  have m5 : w.cell? ⟨MP, 5, none⟩ = some (.slice da dl dc) := (boxG hM 5).1
  have m6 : w.cell? ⟨MP, 6, none⟩ = some (.int .i64 st) := (boxG hM 6).1
  have m7 : w.cell? ⟨MP, 7, none⟩ = some (.int .i64 en) := (boxG hM 7).1
  have m8 : w.cell? ⟨MP, 8, none⟩ = some (.bool o0) := (boxG hM 8).1
  have m9 : w.cell? ⟨MP, 9, none⟩ = some (.int .i64 o1) := (boxG hM 9).1
  have t0 : w.cell? ⟨FP, 0, none⟩ = some (.int .i64 fm) := (boxG hT 0).1
  have t1 : w.cell? ⟨FP, 1, none⟩ = some (.int .i64 ft) := (boxG hT 1).1
  have t2 : w.cell? ⟨FP, 2, none⟩ = some (.slice la ll lc) := (boxG hT 2).1
  have t3 : w.cell? ⟨FP, 3, none⟩ = some (.slice sa sl sc) := (boxG hT 3).1
  have hmf : ∀ (fn : Fn) (first cap : Array Value) (w : World), (Instr.makeFunc fn first cap).run Tryz.prog w = .ok (.func fn first cap) w := fun _ _ _ _ => rfl
  have lM : MP < w.heap.size := (Array.getElem?_eq_some_iff.1 hM).1
  have lT : FP < w.heap.size := (Array.getElem?_eq_some_iff.1 hT).1
  have XM : Hid (∀ y, Below w.heap.size w y → y.heap[MP]? = some (.cells #[.slice ca cn cc, .slice ma mn mc, .slice ca cn cc, .slice xa xl xc, .slice fa fl fc, .slice da dl dc, .int .i64 st, .int .i64 en, .bool o0, .int .i64 o1] 96 (0, 0))) := fun y hy => (hy.block _ lM).trans hM
  have XT : Hid (∀ y, Below w.heap.size w y → y.heap[FP]? = some (.cells #[.int .i64 fm, .int .i64 ft, .slice la ll lc, .slice sa sl sc] 60 (0, 0))) := fun y hy => (hy.block _ lT).trans hT
  clear hM hT hl hk
  go_enter Tryz.func135, Tryz.ntmps135
  go_wp2_with fail
  refine (eachValImpl _ _ _ _ _ _ _ _ _ _ _ _ _ _ _ _ _ _ _  _ _ _ ls [] [] _ (E := fun _ => True) (F := fun _ => True) (G := fun _ => True) HL.out).mono ?_
  rintro e w1 ⟨rfl, hb⟩
  have B1 : Hid (Below w.heap.size w w1) := hb
  clear hb m0 m1 m2 m3 m4 m5 m6 m7 m8 m9 t0 t1 t2 t3
  have m0 : w1.cell? ⟨MP, 0, none⟩ = some (.slice ca cn cc) := (boxG (XM.out _ B1.out) 0).1
  have m1 : w1.cell? ⟨MP, 1, none⟩ = some (.slice ma mn mc) := (boxG (XM.out _ B1.out) 1).1
  have m2 : w1.cell? ⟨MP, 2, none⟩ = some (.slice ca cn cc) := (boxG (XM.out _ B1.out) 2).1
  have m3 : w1.cell? ⟨MP, 3, none⟩ = some (.slice xa xl xc) := (boxG (XM.out _ B1.out) 3).1
  have m4 : w1.cell? ⟨MP, 4, none⟩ = some (.slice fa fl fc) := (boxG (XM.out _ B1.out) 4).1
  have m5 : w1.cell? ⟨MP, 5, none⟩ = some (.slice da dl dc) := (boxG (XM.out _ B1.out) 5).1
  have m6 : w1.cell? ⟨MP, 6, none⟩ = some (.int .i64 st) := (boxG (XM.out _ B1.out) 6).1
  have m7 : w1.cell? ⟨MP, 7, none⟩ = some (.int .i64 en) := (boxG (XM.out _ B1.out) 7).1
  have m8 : w1.cell? ⟨MP, 8, none⟩ = some (.bool o0) := (boxG (XM.out _ B1.out) 8).1
  have m9 : w1.cell? ⟨MP, 9, none⟩ = some (.int .i64 o1) := (boxG (XM.out _ B1.out) 9).1
  have t0 : w1.cell? ⟨FP, 0, none⟩ = some (.int .i64 fm) := (boxG (XT.out _ B1.out) 0).1
  have t1 : w1.cell? ⟨FP, 1, none⟩ = some (.int .i64 ft) := (boxG (XT.out _ B1.out) 1).1
  have t2 : w1.cell? ⟨FP, 2, none⟩ = some (.slice la ll lc) := (boxG (XT.out _ B1.out) 2).1
  have t3 : w1.cell? ⟨FP, 3, none⟩ = some (.slice sa sl sc) := (boxG (XT.out _ B1.out) 3).1
  cases h1 : valsM xl ls
  · have h1' : ls.all (valM xl) = false := h1
    rw [h1']
    go_wp2_with fail
    go_ret
    exact ⟨by rw [h1]; rfl, B1.out⟩
  have h1' : ls.all (valM xl) = true := h1
  rw [h1']
  go_wp2_with fail
  refine (eachValImpl _ _ _ _ _ _ _ _ _ _ _ _ _ _ _ _ _ _ _  _ _ _ ss [] [] _ (E := fun _ => True) (F := fun _ => True) (G := fun _ => True) (HK.out.later B1.out)).mono ?_
  rintro e w2 ⟨rfl, hb⟩
  have B2 : Hid (Below w.heap.size w w2) := B1.out.trans (hb.mono B1.out.size)
  clear hb
  go_wp2_with fail
  go_ret
  exact ⟨by rw [h1]; rfl, B2.out⟩
set_option maxRecDepth 100000 in
set_option maxHeartbeats 4000000 in
theorem frame2Impl (ca : Option Addr) (cn cc : Nat) (b1 p1 mn mc : Nat) (xa : Option Addr) (xl xc : Nat) (fa : Option Addr) (fl fc : Nat) (da : Option Addr) (dl dc : Nat) (st en : Int) (o0 : Bool) (o1 : Int) (MP FP : Nat) (k : Nat) (ft : Int) (la : Option Addr) (ll lc : Nat) (sa : Option Addr) (sl sc : Nat) (ka : Option Addr) (kl kc : Nat) (w : World) (hk : k < mn) (hc : w.cell? ⟨b1, p1 + k * 8 + 5, none⟩ = some (.slice ka kl kc)) (hM : w.heap[MP]? = some (.cells #[.slice ca cn cc, .slice (some ⟨b1, p1, none⟩) mn mc, .slice ca cn cc, .slice xa xl xc, .slice fa fl fc, .slice da dl dc, .int .i64 st, .int .i64 en, .bool o0, .int .i64 o1] 96 (0, 0))) (hT : w.heap[FP]? = some (.cells #[.int .i64 k, .int .i64 ft, .slice la ll lc, .slice sa sl sc] 60 (0, 0))) :
    Calls Tryz.prog 132 #[.pointer (some ⟨FP, 0, none⟩), .pointer (some ⟨MP, 0, none⟩)] w fun e w' => e = .returned (.bool (inI ft 0 (kl : Int))) ∧ Below w.heap.size w w' := by
  have lM : MP < w.heap.size := (Array.getElem?_eq_some_iff.1 hM).1
  have lT : FP < w.heap.size := (Array.getElem?_eq_some_iff.1 hT).1
  have lb : b1 < w.heap.size := World.block_lt_of_cell? w _ hc
  have hk' : (k : Int) < mn := by omega
  have KS : Hid (∀ x : World, Below w.heap.size w x → x.cell? ⟨MP, 1, none⟩ = some (.slice (some ⟨b1, p1, none⟩) mn mc) ∧ x.cell? ⟨FP, 0, none⟩ = some (.int .i64 k) ∧ x.cell? ⟨FP, 1, none⟩ = some (.int .i64 ft) ∧ x.cell? ⟨b1, p1 + k * 8 + 5, none⟩ = some (.slice ka kl kc)) := fun x hb => ⟨(boxG ((hb.block _ lM).trans hM) 1).1, (boxG ((hb.block _ lT).trans hT) 0).1, (boxG ((hb.block _ lT).trans hT) 1).1, (hb.cell (p := ⟨b1, _, none⟩) lb).trans hc⟩
  have D1 : Hid (Below w.heap.size w (w.drewN 1)) := bdrew (Below.refl _ _)
  obtain ⟨q, hq⟩ : ∃ q, inI ft 0 (kl : Int) = q := ⟨_, rfl⟩
  have HQ : Hid (inI ft 0 (kl : Int) = q) := hq
  clear hM hT hc hq
  go_enter Tryz.func132, Tryz.ntmps132
  go_wp2_with fail
  refine wp_region_held_drew (S := fun x => x.cell? ⟨MP, 1, none⟩ = some (.slice (some ⟨b1, p1, none⟩) mn mc) ∧ x.cell? ⟨FP, 0, none⟩ = some (.int .i64 k) ∧ x.cell? ⟨FP, 1, none⟩ = some (.int .i64 ft) ∧ x.cell? ⟨b1, p1 + k * 8 + 5, none⟩ = some (.slice ka kl kc)) (by kernel_rfl) ?_ (fun hHeld => ?_)
  · exact KS.out _ D1.out
  refine wpAnyH_take (i := 0) (v := .pointer (some ⟨FP, 1, none⟩)) rfl (by kernel_rfl) (by kernel_rfl) (by kernel_rfl) (fun _ _ _ h => h) (Or.inl ⟨by kernel_rfl, by (intro x hSx; (try dsimp only at hSx); go_simp)⟩) (by assumption) ?_
  try simp only [Act.put, List.getElem_toArray, List.getElem_cons_zero, List.setIfInBounds_toArray, List.set_cons_zero, List.set_cons_succ]
  refine wpAnyH_take (i := 1) (v := .int .i64 ft) rfl (by kernel_rfl) (by kernel_rfl) (by kernel_rfl) (fun _ _ _ h => h) (Or.inl ⟨by kernel_rfl, by (intro x hSx; (try dsimp only at hSx); go_simp)⟩) (by assumption) ?_
  try simp only [Act.put, List.getElem_toArray, List.getElem_cons_zero, List.getElem_cons_succ, List.setIfInBounds_toArray, List.set_cons_zero, List.set_cons_succ]
  refine wpAnyH_take (i := 2) (v := .pointer (some ⟨MP, 0, none⟩)) rfl (by kernel_rfl) (by kernel_rfl) (by kernel_rfl) (fun _ _ _ h => h) (Or.inl ⟨by kernel_rfl, by (intro x hSx; (try dsimp only at hSx); go_simp)⟩) (by assumption) ?_
  try simp only [Act.put, List.getElem_toArray, List.getElem_cons_zero, List.getElem_cons_succ, List.setIfInBounds_toArray, List.set_cons_zero, List.set_cons_succ]
  refine wpAnyH_take (i := 3) (v := .pointer (some ⟨MP, 1, none⟩)) rfl (by kernel_rfl) (by kernel_rfl) (by kernel_rfl) (fun _ _ _ h => h) (Or.inl ⟨by kernel_rfl, by (intro x hSx; (try dsimp only at hSx); go_simp)⟩) (by assumption) ?_
  try simp only [Act.put, List.getElem_toArray, List.getElem_cons_zero, List.getElem_cons_succ, List.setIfInBounds_toArray, List.set_cons_zero, List.set_cons_succ]
  refine wpAnyH_take (i := 4) (v := .slice (some ⟨b1, p1, none⟩) mn mc) rfl (by kernel_rfl) (by kernel_rfl) (by kernel_rfl) (fun _ _ _ h => h) (Or.inl ⟨by kernel_rfl, by (intro x hSx; (try dsimp only at hSx); go_simp)⟩) (by assumption) ?_
  try simp only [Act.put, List.getElem_toArray, List.getElem_cons_zero, List.getElem_cons_succ, List.setIfInBounds_toArray, List.set_cons_zero, List.set_cons_succ]
  refine wpAnyH_take (i := 5) (v := .pointer (some ⟨FP, 0, none⟩)) rfl (by kernel_rfl) (by kernel_rfl) (by kernel_rfl) (fun _ _ _ h => h) (Or.inl ⟨by kernel_rfl, by (intro x hSx; (try dsimp only at hSx); go_simp)⟩) (by assumption) ?_
  try simp only [Act.put, List.getElem_toArray, List.getElem_cons_zero, List.getElem_cons_succ, List.setIfInBounds_toArray, List.set_cons_zero, List.set_cons_succ]
  refine wpAnyH_take (i := 6) (v := .int .i64 k) rfl (by kernel_rfl) (by kernel_rfl) (by kernel_rfl) (fun _ _ _ h => h) (Or.inl ⟨by kernel_rfl, by (intro x hSx; (try dsimp only at hSx); go_simp)⟩) (by assumption) ?_
  try simp only [Act.put, List.getElem_toArray, List.getElem_cons_zero, List.getElem_cons_succ, List.setIfInBounds_toArray, List.set_cons_zero, List.set_cons_succ]
  refine wpAnyH_take (i := 7) (v := .pointer (some ⟨b1, p1 + k * 8, none⟩)) rfl (by kernel_rfl) (by kernel_rfl) (by kernel_rfl) (fun _ _ _ h => h) (Or.inl ⟨by kernel_rfl, by (intro x hSx; (try dsimp only at hSx); go_simp)⟩) (by assumption) ?_
  try simp only [Act.put, List.getElem_toArray, List.getElem_cons_zero, List.getElem_cons_succ, List.setIfInBounds_toArray, List.set_cons_zero, List.set_cons_succ]
  refine wpAnyH_take (i := 8) (v := .pointer (some ⟨b1, p1 + k * 8 + 5, none⟩)) rfl (by kernel_rfl) (by kernel_rfl) (by kernel_rfl) (fun _ _ _ h => h) (Or.inl ⟨by kernel_rfl, by (intro x hSx; (try dsimp only at hSx); go_simp)⟩) (by assumption) ?_
  try simp only [Act.put, List.getElem_toArray, List.getElem_cons_zero, List.getElem_cons_succ, List.setIfInBounds_toArray, List.set_cons_zero, List.set_cons_succ]
  refine wpAnyH_take (i := 9) (v := .slice ka kl kc) rfl (by kernel_rfl) (by kernel_rfl) (by kernel_rfl) (fun _ _ _ h => h) (Or.inl ⟨by kernel_rfl, by (intro x hSx; (try dsimp only at hSx); go_simp)⟩) (by assumption) ?_
  try simp only [Act.put, List.getElem_toArray, List.getElem_cons_zero, List.getElem_cons_succ, List.setIfInBounds_toArray, List.set_cons_zero, List.set_cons_succ]
  refine wpAnyH_take (i := 10) (v := .int .i64 kl) rfl (by kernel_rfl) (by kernel_rfl) (by kernel_rfl) (fun _ _ _ h => h) (Or.inl ⟨by kernel_rfl, by (intro x hSx; (try dsimp only at hSx); go_simp)⟩) (by assumption) ?_
  try simp only [Act.put, List.getElem_toArray, List.getElem_cons_zero, List.getElem_cons_succ, List.setIfInBounds_toArray, List.set_cons_zero, List.set_cons_succ]
  refine wpAnyH_ready (rs := [11]) (by kernel_rfl) (by simp) ?_
  refine AllReadyH.cons rfl (fun K hK => ?_) AllReadyH.nil
  go_simp
  go_at_call 84
  refine (isAmongImpl _ _ _ _).mono ?_
  rintro e wz ⟨rfl, rfl⟩
  rw [HQ.out]
  go_wp2_with fail
  refine hK.out _ _ (KS.out _ D1.out) (fun hHeld2 => ?_)
  clear hK K
  try simp only [Act.put, List.getElem_toArray, List.getElem_cons_zero, List.getElem_cons_succ, List.setIfInBounds_toArray, List.set_cons_zero, List.set_cons_succ]
  refine wpAnyH_take (i := 12) (v := .bool q) rfl (by kernel_rfl) (by kernel_rfl) (by kernel_rfl) (fun _ _ _ h => h) (Or.inl ⟨by kernel_rfl, by (intro x hSx; (try dsimp only at hSx); go_simp)⟩) (by assumption) ?_
  try simp only [Act.put, List.getElem_toArray, List.getElem_cons_zero, List.getElem_cons_succ, List.setIfInBounds_toArray, List.set_cons_zero, List.set_cons_succ]
  refine wpAnyH_done (by kernel_rfl) ?_ _
  clear hHeld hHeld2
  go_wp2_with fail
  go_ret
  exact ⟨by rw [HQ.out]; rfl, D1.out⟩
set_option maxRecDepth 100000 in
set_option maxHeartbeats 4000000 in
theorem frame3Impl (ca : Option Addr) (cn cc : Nat) (b1 p1 mn mc : Nat) (xa : Option Addr) (xl xc : Nat) (fa : Option Addr) (fl fc : Nat) (da : Option Addr) (dl dc : Nat) (st en : Int) (o0 : Bool) (o1 : Int) (MP FP : Nat) (k : Nat) (ft : Int) (la : Option Addr) (ll lc : Nat) (sa : Option Addr) (sl sc : Nat) (lo : Int) (w : World) (hk : k < mn) (hc : w.cell? ⟨b1, p1 + k * 8 + 4, none⟩ = some (.int .i64 lo)) (hM : w.heap[MP]? = some (.cells #[.slice ca cn cc, .slice (some ⟨b1, p1, none⟩) mn mc, .slice ca cn cc, .slice xa xl xc, .slice fa fl fc, .slice da dl dc, .int .i64 st, .int .i64 en, .bool o0, .int .i64 o1] 96 (0, 0))) (hT : w.heap[FP]? = some (.cells #[.int .i64 k, .int .i64 ft, .slice la ll lc, .slice sa sl sc] 60 (0, 0))) :
    Calls Tryz.prog 133 #[.pointer (some ⟨FP, 0, none⟩), .pointer (some ⟨MP, 0, none⟩)] w fun e w' => e = .returned (.bool ((ll : Int) == lo)) ∧ Below w.heap.size w w' := by
  have t0 : w.cell? ⟨FP, 0, none⟩ = some (.int .i64 k) := (boxG hT 0).1
  have t2 : w.cell? ⟨FP, 2, none⟩ = some (.slice la ll lc) := (boxG hT 2).1
  have m1 : w.cell? ⟨MP, 1, none⟩ = some (.slice (some ⟨b1, p1, none⟩) mn mc) := (boxG hM 1).1
  have hk' : (k : Int) < mn := by omega
  clear hM hT
  go_enter Tryz.func133, Tryz.ntmps133
  go_wp2_with fail
  go_region
  all_goals
    go_wp2_with fail
    go_ret
    exact ⟨rfl, bdrew (Below.refl _ _)⟩
set_option maxRecDepth 100000 in
set_option maxHeartbeats 8000000 in
theorem allFrame (ca : Option Addr) (cn cc : Nat) (b1 p1 mn mc : Nat) (xa : Option Addr) (xl xc : Nat) (fa : Option Addr) (fl fc : Nat) (da : Option Addr) (dl dc : Nat) (st en : Int) (o0 : Bool) (o1 : Int) (AB : Nat) (MP FP : Nat) (k : Nat) (ft : Int) (la : Option Addr) (ll lc : Nat) (sa : Option Addr) (sl sc : Nat) (t : TypeId) (lo : Int) (ka : Option Addr) (kl kc : Nat) (ls ss : List Vl) (w : World) {D E : Nat → Prop} (hl : SlAt vaR D w la ll ls) (hk : SlAt vaR E w sa sl ss) (hkl : k < mn) (c4 : w.cell? ⟨b1, p1 + k * 8 + 4, none⟩ = some (.int .i64 lo)) (c5 : w.cell? ⟨b1, p1 + k * 8 + 5, none⟩ = some (.slice ka kl kc)) (hM : w.heap[MP]? = some (.cells #[.slice ca cn cc, .slice (some ⟨b1, p1, none⟩) mn mc, .slice ca cn cc, .slice xa xl xc, .slice fa fl fc, .slice da dl dc, .int .i64 st, .int .i64 en, .bool o0, .int .i64 o1] 96 (0, 0))) (hT : w.heap[FP]? = some (.cells #[.int .i64 k, .int .i64 ft, .slice la ll lc, .slice sa sl sc] 60 (0, 0))) (hA : w.heap[AB]? = some (.cells #[.func (.func 130) #[] #[.pointer (some ⟨FP, 0, none⟩), .pointer (some ⟨MP, 0, none⟩)], .func (.func 132) #[] #[.pointer (some ⟨FP, 0, none⟩), .pointer (some ⟨MP, 0, none⟩)], .func (.func 133) #[] #[.pointer (some ⟨FP, 0, none⟩), .pointer (some ⟨MP, 0, none⟩)], .func (.func 134) #[] #[.pointer (some ⟨FP, 0, none⟩)], .func (.func 135) #[] #[.pointer (some ⟨FP, 0, none⟩), .pointer (some ⟨MP, 0, none⟩)]] t (0, 0))) :
    Calls Tryz.prog 82 #[.slice (some ⟨AB, 0, none⟩) 5 5] w fun e w' => e = .returned (.bool (inI (k : Int) 0 ((mn : Int) - 1) && (inI ft 0 (kl : Int) && (((ll : Int) == lo) && (decide (sl ≤ 4) && (valsM xl ls && valsM xl ss)))))) ∧ Below w.heap.size w w' := by
  have HL : Hid (SlAt vaR D w la ll ls) := hl
  have HK : Hid (SlAt vaR E w sa sl ss) := hk
  have lb : b1 < w.heap.size := World.block_lt_of_cell? w _ c4
  have C4 : Hid (∀ y, Below w.heap.size w y → y.cell? ⟨b1, p1 + k * 8 + 4, none⟩ = some (.int .i64 lo)) := fun y hy => (hy.cell (p := ⟨b1, _, none⟩) lb).trans c4
  have C5 : Hid (∀ y, Below w.heap.size w y → y.cell? ⟨b1, p1 + k * 8 + 5, none⟩ = some (.slice ka kl kc)) := fun y hy => (hy.cell (p := ⟨b1, _, none⟩) lb).trans c5
  clear hl hk c4 c5
  have B : Hid (∀ y, Below w.heap.size w y → Below w.heap.size w y) := fun _ h => h
  have lA : AB < w.heap.size := (Array.getElem?_eq_some_iff.1 hA).1
  have XA : Hid (∀ y, Below w.heap.size w y → y.heap[AB]? = some (.cells #[.func (.func 130) #[] #[.pointer (some ⟨FP, 0, none⟩), .pointer (some ⟨MP, 0, none⟩)], .func (.func 132) #[] #[.pointer (some ⟨FP, 0, none⟩), .pointer (some ⟨MP, 0, none⟩)], .func (.func 133) #[] #[.pointer (some ⟨FP, 0, none⟩), .pointer (some ⟨MP, 0, none⟩)], .func (.func 134) #[] #[.pointer (some ⟨FP, 0, none⟩)], .func (.func 135) #[] #[.pointer (some ⟨FP, 0, none⟩), .pointer (some ⟨MP, 0, none⟩)]] t (0, 0))) := fun y hy => (hy.block _ lA).trans hA
  have lM : MP < w.heap.size := (Array.getElem?_eq_some_iff.1 hM).1
  have XM : Hid (∀ y, Below w.heap.size w y → y.heap[MP]? = some (.cells #[.slice ca cn cc, .slice (some ⟨b1, p1, none⟩) mn mc, .slice ca cn cc, .slice xa xl xc, .slice fa fl fc, .slice da dl dc, .int .i64 st, .int .i64 en, .bool o0, .int .i64 o1] 96 (0, 0))) := fun y hy => (hy.block _ lM).trans hM
  have lT : FP < w.heap.size := (Array.getElem?_eq_some_iff.1 hT).1
  have XT : Hid (∀ y, Below w.heap.size w y → y.heap[FP]? = some (.cells #[.int .i64 k, .int .i64 ft, .slice la ll lc, .slice sa sl sc] 60 (0, 0))) := fun y hy => (hy.block _ lT).trans hT
  clear hA hM hT
  go_enter Tryz.func82, Tryz.ntmps82
  go_wp2_with fail
  refine wp_loop_rounds 6 ?_
  rw [rounds_succ]
  have kA0 : w.cell? ⟨AB, 0, none⟩ = some (.func (.func 130) #[] #[.pointer (some ⟨FP, 0, none⟩), .pointer (some ⟨MP, 0, none⟩)]) := (boxG (XA.out w (Below.refl _ _)) 0).1
  have kA1 : w.cell? ⟨AB, 1, none⟩ = some (.func (.func 132) #[] #[.pointer (some ⟨FP, 0, none⟩), .pointer (some ⟨MP, 0, none⟩)]) := (boxG (XA.out w (Below.refl _ _)) 1).1
  have kA2 : w.cell? ⟨AB, 2, none⟩ = some (.func (.func 133) #[] #[.pointer (some ⟨FP, 0, none⟩), .pointer (some ⟨MP, 0, none⟩)]) := (boxG (XA.out w (Below.refl _ _)) 2).1
  have kA3 : w.cell? ⟨AB, 3, none⟩ = some (.func (.func 134) #[] #[.pointer (some ⟨FP, 0, none⟩)]) := (boxG (XA.out w (Below.refl _ _)) 3).1
  have kA4 : w.cell? ⟨AB, 4, none⟩ = some (.func (.func 135) #[] #[.pointer (some ⟨FP, 0, none⟩), .pointer (some ⟨MP, 0, none⟩)]) := (boxG (XA.out w (Below.refl _ _)) 4).1
  have BP : Hid (Below w.heap.size w w) := Below.refl _ _
  go_wp2_with fail
  refine (frame1Impl _ _ _ _ _ _ _ _ _ _ _ _ _ _ _ _ _ _ _  MP FP k ft la ll lc sa sl sc _ (XM.out _ (Below.refl _ _)) (XT.out _ (Below.refl _ _))).mono ?_
  rintro e w1 ⟨rfl, hb⟩
  have hq : Below w.heap.size w w1 := BP.out.trans (Below.mono hb BP.out.size)
  replace B : Hid (∀ y, Below w1.heap.size w1 y → Below w.heap.size w y) := fun y hy => B.out y (hq.trans (hy.mono hq.size))
  replace XA : Hid (∀ y, Below w1.heap.size w1 y → y.heap[AB]? = some (.cells #[.func (.func 130) #[] #[.pointer (some ⟨FP, 0, none⟩), .pointer (some ⟨MP, 0, none⟩)], .func (.func 132) #[] #[.pointer (some ⟨FP, 0, none⟩), .pointer (some ⟨MP, 0, none⟩)], .func (.func 133) #[] #[.pointer (some ⟨FP, 0, none⟩), .pointer (some ⟨MP, 0, none⟩)], .func (.func 134) #[] #[.pointer (some ⟨FP, 0, none⟩)], .func (.func 135) #[] #[.pointer (some ⟨FP, 0, none⟩), .pointer (some ⟨MP, 0, none⟩)]] t (0, 0))) := fun y hy => XA.out y (hq.trans (hy.mono hq.size))
  replace lA : AB < w1.heap.size := Nat.lt_of_lt_of_le lA hq.size
  replace XM : Hid (∀ y, Below w1.heap.size w1 y → y.heap[MP]? = some (.cells #[.slice ca cn cc, .slice (some ⟨b1, p1, none⟩) mn mc, .slice ca cn cc, .slice xa xl xc, .slice fa fl fc, .slice da dl dc, .int .i64 st, .int .i64 en, .bool o0, .int .i64 o1] 96 (0, 0))) := fun y hy => XM.out y (hq.trans (hy.mono hq.size))
  replace lM : MP < w1.heap.size := Nat.lt_of_lt_of_le lM hq.size
  replace XT : Hid (∀ y, Below w1.heap.size w1 y → y.heap[FP]? = some (.cells #[.int .i64 k, .int .i64 ft, .slice la ll lc, .slice sa sl sc] 60 (0, 0))) := fun y hy => XT.out y (hq.trans (hy.mono hq.size))
  replace lT : FP < w1.heap.size := Nat.lt_of_lt_of_le lT hq.size
  have zw1 : w.heap.size ≤ w1.heap.size := hq.size
  clear hq BP
  clear kA0 kA1 kA2 kA3 kA4
  clear hb
  cases h0 : inI (k : Int) 0 ((mn : Int) - 1)
  · have H0 : Hid ((inI (k : Int) 0 ((mn : Int) - 1)) = false) := h0
    go_wp2_with fail
    go_ret
    exact ⟨by rw [H0.out]; rfl, B.out _ (Below.refl _ _)⟩
  have H0 : Hid ((inI (k : Int) 0 ((mn : Int) - 1)) = true) := h0
  clear h0
  go_wp2_with fail
  rw [rounds_succ]
  have kA0 : w1.cell? ⟨AB, 0, none⟩ = some (.func (.func 130) #[] #[.pointer (some ⟨FP, 0, none⟩), .pointer (some ⟨MP, 0, none⟩)]) := (boxG (XA.out w1 (Below.refl _ _)) 0).1
  have kA1 : w1.cell? ⟨AB, 1, none⟩ = some (.func (.func 132) #[] #[.pointer (some ⟨FP, 0, none⟩), .pointer (some ⟨MP, 0, none⟩)]) := (boxG (XA.out w1 (Below.refl _ _)) 1).1
  have kA2 : w1.cell? ⟨AB, 2, none⟩ = some (.func (.func 133) #[] #[.pointer (some ⟨FP, 0, none⟩), .pointer (some ⟨MP, 0, none⟩)]) := (boxG (XA.out w1 (Below.refl _ _)) 2).1
  have kA3 : w1.cell? ⟨AB, 3, none⟩ = some (.func (.func 134) #[] #[.pointer (some ⟨FP, 0, none⟩)]) := (boxG (XA.out w1 (Below.refl _ _)) 3).1
  have kA4 : w1.cell? ⟨AB, 4, none⟩ = some (.func (.func 135) #[] #[.pointer (some ⟨FP, 0, none⟩), .pointer (some ⟨MP, 0, none⟩)]) := (boxG (XA.out w1 (Below.refl _ _)) 4).1
  have BP : Hid (Below w1.heap.size w1 w1) := Below.refl _ _
  go_wp2_with fail
  refine (frame2Impl _ _ _ _ _ _ _ _ _ _ _ _ _ _ _ _ _ _ _ _  MP FP k ft la ll lc sa sl sc ka kl kc _ hkl (C5.out _ (B.out _ (Below.refl _ _))) (XM.out _ (Below.refl _ _)) (XT.out _ (Below.refl _ _))).mono ?_
  rintro e w2 ⟨rfl, hb⟩
  have hq : Below w1.heap.size w1 w2 := BP.out.trans (Below.mono hb BP.out.size)
  replace B : Hid (∀ y, Below w2.heap.size w2 y → Below w.heap.size w y) := fun y hy => B.out y (hq.trans (hy.mono hq.size))
  replace XA : Hid (∀ y, Below w2.heap.size w2 y → y.heap[AB]? = some (.cells #[.func (.func 130) #[] #[.pointer (some ⟨FP, 0, none⟩), .pointer (some ⟨MP, 0, none⟩)], .func (.func 132) #[] #[.pointer (some ⟨FP, 0, none⟩), .pointer (some ⟨MP, 0, none⟩)], .func (.func 133) #[] #[.pointer (some ⟨FP, 0, none⟩), .pointer (some ⟨MP, 0, none⟩)], .func (.func 134) #[] #[.pointer (some ⟨FP, 0, none⟩)], .func (.func 135) #[] #[.pointer (some ⟨FP, 0, none⟩), .pointer (some ⟨MP, 0, none⟩)]] t (0, 0))) := fun y hy => XA.out y (hq.trans (hy.mono hq.size))
  replace lA : AB < w2.heap.size := Nat.lt_of_lt_of_le lA hq.size
  replace XM : Hid (∀ y, Below w2.heap.size w2 y → y.heap[MP]? = some (.cells #[.slice ca cn cc, .slice (some ⟨b1, p1, none⟩) mn mc, .slice ca cn cc, .slice xa xl xc, .slice fa fl fc, .slice da dl dc, .int .i64 st, .int .i64 en, .bool o0, .int .i64 o1] 96 (0, 0))) := fun y hy => XM.out y (hq.trans (hy.mono hq.size))
  replace lM : MP < w2.heap.size := Nat.lt_of_lt_of_le lM hq.size
  replace XT : Hid (∀ y, Below w2.heap.size w2 y → y.heap[FP]? = some (.cells #[.int .i64 k, .int .i64 ft, .slice la ll lc, .slice sa sl sc] 60 (0, 0))) := fun y hy => XT.out y (hq.trans (hy.mono hq.size))
  replace lT : FP < w2.heap.size := Nat.lt_of_lt_of_le lT hq.size
  have zw2 : w1.heap.size ≤ w2.heap.size := hq.size
  clear hq BP
  clear kA0 kA1 kA2 kA3 kA4
  clear hb
  cases h1 : inI ft 0 (kl : Int)
  · have H1 : Hid ((inI ft 0 (kl : Int)) = false) := h1
    go_wp2_with fail
    go_ret
    exact ⟨by rw [H0.out, H1.out]; rfl, B.out _ (Below.refl _ _)⟩
  have H1 : Hid ((inI ft 0 (kl : Int)) = true) := h1
  clear h1
  go_wp2_with fail
  rw [rounds_succ]
  have kA0 : w2.cell? ⟨AB, 0, none⟩ = some (.func (.func 130) #[] #[.pointer (some ⟨FP, 0, none⟩), .pointer (some ⟨MP, 0, none⟩)]) := (boxG (XA.out w2 (Below.refl _ _)) 0).1
  have kA1 : w2.cell? ⟨AB, 1, none⟩ = some (.func (.func 132) #[] #[.pointer (some ⟨FP, 0, none⟩), .pointer (some ⟨MP, 0, none⟩)]) := (boxG (XA.out w2 (Below.refl _ _)) 1).1
  have kA2 : w2.cell? ⟨AB, 2, none⟩ = some (.func (.func 133) #[] #[.pointer (some ⟨FP, 0, none⟩), .pointer (some ⟨MP, 0, none⟩)]) := (boxG (XA.out w2 (Below.refl _ _)) 2).1
  have kA3 : w2.cell? ⟨AB, 3, none⟩ = some (.func (.func 134) #[] #[.pointer (some ⟨FP, 0, none⟩)]) := (boxG (XA.out w2 (Below.refl _ _)) 3).1
  have kA4 : w2.cell? ⟨AB, 4, none⟩ = some (.func (.func 135) #[] #[.pointer (some ⟨FP, 0, none⟩), .pointer (some ⟨MP, 0, none⟩)]) := (boxG (XA.out w2 (Below.refl _ _)) 4).1
  have BP : Hid (Below w2.heap.size w2 w2) := Below.refl _ _
  go_wp2_with fail
  refine (frame3Impl _ _ _ _ _ _ _ _ _ _ _ _ _ _ _ _ _ _ _ _  MP FP k ft la ll lc sa sl sc lo _ hkl (C4.out _ (B.out _ (Below.refl _ _))) (XM.out _ (Below.refl _ _)) (XT.out _ (Below.refl _ _))).mono ?_
  rintro e w3 ⟨rfl, hb⟩
  have hq : Below w2.heap.size w2 w3 := BP.out.trans (Below.mono hb BP.out.size)
  replace B : Hid (∀ y, Below w3.heap.size w3 y → Below w.heap.size w y) := fun y hy => B.out y (hq.trans (hy.mono hq.size))
  replace XA : Hid (∀ y, Below w3.heap.size w3 y → y.heap[AB]? = some (.cells #[.func (.func 130) #[] #[.pointer (some ⟨FP, 0, none⟩), .pointer (some ⟨MP, 0, none⟩)], .func (.func 132) #[] #[.pointer (some ⟨FP, 0, none⟩), .pointer (some ⟨MP, 0, none⟩)], .func (.func 133) #[] #[.pointer (some ⟨FP, 0, none⟩), .pointer (some ⟨MP, 0, none⟩)], .func (.func 134) #[] #[.pointer (some ⟨FP, 0, none⟩)], .func (.func 135) #[] #[.pointer (some ⟨FP, 0, none⟩), .pointer (some ⟨MP, 0, none⟩)]] t (0, 0))) := fun y hy => XA.out y (hq.trans (hy.mono hq.size))
  replace lA : AB < w3.heap.size := Nat.lt_of_lt_of_le lA hq.size
  replace XM : Hid (∀ y, Below w3.heap.size w3 y → y.heap[MP]? = some (.cells #[.slice ca cn cc, .slice (some ⟨b1, p1, none⟩) mn mc, .slice ca cn cc, .slice xa xl xc, .slice fa fl fc, .slice da dl dc, .int .i64 st, .int .i64 en, .bool o0, .int .i64 o1] 96 (0, 0))) := fun y hy => XM.out y (hq.trans (hy.mono hq.size))
  replace lM : MP < w3.heap.size := Nat.lt_of_lt_of_le lM hq.size
  replace XT : Hid (∀ y, Below w3.heap.size w3 y → y.heap[FP]? = some (.cells #[.int .i64 k, .int .i64 ft, .slice la ll lc, .slice sa sl sc] 60 (0, 0))) := fun y hy => XT.out y (hq.trans (hy.mono hq.size))
  replace lT : FP < w3.heap.size := Nat.lt_of_lt_of_le lT hq.size
  have zw3 : w2.heap.size ≤ w3.heap.size := hq.size
  clear hq BP
  clear kA0 kA1 kA2 kA3 kA4
  clear hb
  cases h2 : ((ll : Int) == lo)
  · have H2 : Hid ((((ll : Int) == lo)) = false) := h2
    go_wp2_with fail
    go_ret
    exact ⟨by rw [H0.out, H1.out, H2.out]; rfl, B.out _ (Below.refl _ _)⟩
  have H2 : Hid ((((ll : Int) == lo)) = true) := h2
  clear h2
  go_wp2_with fail
  rw [rounds_succ]
  have kA0 : w3.cell? ⟨AB, 0, none⟩ = some (.func (.func 130) #[] #[.pointer (some ⟨FP, 0, none⟩), .pointer (some ⟨MP, 0, none⟩)]) := (boxG (XA.out w3 (Below.refl _ _)) 0).1
  have kA1 : w3.cell? ⟨AB, 1, none⟩ = some (.func (.func 132) #[] #[.pointer (some ⟨FP, 0, none⟩), .pointer (some ⟨MP, 0, none⟩)]) := (boxG (XA.out w3 (Below.refl _ _)) 1).1
  have kA2 : w3.cell? ⟨AB, 2, none⟩ = some (.func (.func 133) #[] #[.pointer (some ⟨FP, 0, none⟩), .pointer (some ⟨MP, 0, none⟩)]) := (boxG (XA.out w3 (Below.refl _ _)) 2).1
  have kA3 : w3.cell? ⟨AB, 3, none⟩ = some (.func (.func 134) #[] #[.pointer (some ⟨FP, 0, none⟩)]) := (boxG (XA.out w3 (Below.refl _ _)) 3).1
  have kA4 : w3.cell? ⟨AB, 4, none⟩ = some (.func (.func 135) #[] #[.pointer (some ⟨FP, 0, none⟩), .pointer (some ⟨MP, 0, none⟩)]) := (boxG (XA.out w3 (Below.refl _ _)) 4).1
  have BP : Hid (Below w3.heap.size w3 w3) := Below.refl _ _
  go_wp2_with fail
  refine (frame4Impl FP k ft la ll lc sa sl sc _ (XT.out _ (Below.refl _ _))).mono ?_
  rintro e w4 ⟨rfl, hb⟩
  have hq : Below w3.heap.size w3 w4 := BP.out.trans (Below.mono hb BP.out.size)
  replace B : Hid (∀ y, Below w4.heap.size w4 y → Below w.heap.size w y) := fun y hy => B.out y (hq.trans (hy.mono hq.size))
  replace XA : Hid (∀ y, Below w4.heap.size w4 y → y.heap[AB]? = some (.cells #[.func (.func 130) #[] #[.pointer (some ⟨FP, 0, none⟩), .pointer (some ⟨MP, 0, none⟩)], .func (.func 132) #[] #[.pointer (some ⟨FP, 0, none⟩), .pointer (some ⟨MP, 0, none⟩)], .func (.func 133) #[] #[.pointer (some ⟨FP, 0, none⟩), .pointer (some ⟨MP, 0, none⟩)], .func (.func 134) #[] #[.pointer (some ⟨FP, 0, none⟩)], .func (.func 135) #[] #[.pointer (some ⟨FP, 0, none⟩), .pointer (some ⟨MP, 0, none⟩)]] t (0, 0))) := fun y hy => XA.out y (hq.trans (hy.mono hq.size))
  replace lA : AB < w4.heap.size := Nat.lt_of_lt_of_le lA hq.size
  replace XM : Hid (∀ y, Below w4.heap.size w4 y → y.heap[MP]? = some (.cells #[.slice ca cn cc, .slice (some ⟨b1, p1, none⟩) mn mc, .slice ca cn cc, .slice xa xl xc, .slice fa fl fc, .slice da dl dc, .int .i64 st, .int .i64 en, .bool o0, .int .i64 o1] 96 (0, 0))) := fun y hy => XM.out y (hq.trans (hy.mono hq.size))
  replace lM : MP < w4.heap.size := Nat.lt_of_lt_of_le lM hq.size
  replace XT : Hid (∀ y, Below w4.heap.size w4 y → y.heap[FP]? = some (.cells #[.int .i64 k, .int .i64 ft, .slice la ll lc, .slice sa sl sc] 60 (0, 0))) := fun y hy => XT.out y (hq.trans (hy.mono hq.size))
  replace lT : FP < w4.heap.size := Nat.lt_of_lt_of_le lT hq.size
  have zw4 : w3.heap.size ≤ w4.heap.size := hq.size
  clear hq BP
  clear kA0 kA1 kA2 kA3 kA4
  clear hb
  cases h3 : decide (sl ≤ 4)
  · have H3 : Hid ((decide (sl ≤ 4)) = false) := h3
    go_wp2_with fail
    go_ret
    exact ⟨by rw [H0.out, H1.out, H2.out, H3.out]; rfl, B.out _ (Below.refl _ _)⟩
  have H3 : Hid ((decide (sl ≤ 4)) = true) := h3
  clear h3
  go_wp2_with fail
  rw [rounds_succ]
  have kA0 : w4.cell? ⟨AB, 0, none⟩ = some (.func (.func 130) #[] #[.pointer (some ⟨FP, 0, none⟩), .pointer (some ⟨MP, 0, none⟩)]) := (boxG (XA.out w4 (Below.refl _ _)) 0).1
  have kA1 : w4.cell? ⟨AB, 1, none⟩ = some (.func (.func 132) #[] #[.pointer (some ⟨FP, 0, none⟩), .pointer (some ⟨MP, 0, none⟩)]) := (boxG (XA.out w4 (Below.refl _ _)) 1).1
  have kA2 : w4.cell? ⟨AB, 2, none⟩ = some (.func (.func 133) #[] #[.pointer (some ⟨FP, 0, none⟩), .pointer (some ⟨MP, 0, none⟩)]) := (boxG (XA.out w4 (Below.refl _ _)) 2).1
  have kA3 : w4.cell? ⟨AB, 3, none⟩ = some (.func (.func 134) #[] #[.pointer (some ⟨FP, 0, none⟩)]) := (boxG (XA.out w4 (Below.refl _ _)) 3).1
  have kA4 : w4.cell? ⟨AB, 4, none⟩ = some (.func (.func 135) #[] #[.pointer (some ⟨FP, 0, none⟩), .pointer (some ⟨MP, 0, none⟩)]) := (boxG (XA.out w4 (Below.refl _ _)) 4).1
  have BP : Hid (Below w4.heap.size w4 w4) := Below.refl _ _
  go_wp2_with fail
  refine (frame5Impl _ _ _ _ _ _ _ _ _ _ _ _ _ _ _ _ _ _ _  MP FP k ft la ll lc sa sl sc ls ss _ (HL.out.later (B.out _ (Below.refl _ _))) (HK.out.later (B.out _ (Below.refl _ _))) (XM.out _ (Below.refl _ _)) (XT.out _ (Below.refl _ _))).mono ?_
  rintro e w5 ⟨rfl, hb⟩
  have hq : Below w4.heap.size w4 w5 := BP.out.trans (Below.mono hb BP.out.size)
  replace B : Hid (∀ y, Below w5.heap.size w5 y → Below w.heap.size w y) := fun y hy => B.out y (hq.trans (hy.mono hq.size))
  replace XA : Hid (∀ y, Below w5.heap.size w5 y → y.heap[AB]? = some (.cells #[.func (.func 130) #[] #[.pointer (some ⟨FP, 0, none⟩), .pointer (some ⟨MP, 0, none⟩)], .func (.func 132) #[] #[.pointer (some ⟨FP, 0, none⟩), .pointer (some ⟨MP, 0, none⟩)], .func (.func 133) #[] #[.pointer (some ⟨FP, 0, none⟩), .pointer (some ⟨MP, 0, none⟩)], .func (.func 134) #[] #[.pointer (some ⟨FP, 0, none⟩)], .func (.func 135) #[] #[.pointer (some ⟨FP, 0, none⟩), .pointer (some ⟨MP, 0, none⟩)]] t (0, 0))) := fun y hy => XA.out y (hq.trans (hy.mono hq.size))
  replace lA : AB < w5.heap.size := Nat.lt_of_lt_of_le lA hq.size
  replace XM : Hid (∀ y, Below w5.heap.size w5 y → y.heap[MP]? = some (.cells #[.slice ca cn cc, .slice (some ⟨b1, p1, none⟩) mn mc, .slice ca cn cc, .slice xa xl xc, .slice fa fl fc, .slice da dl dc, .int .i64 st, .int .i64 en, .bool o0, .int .i64 o1] 96 (0, 0))) := fun y hy => XM.out y (hq.trans (hy.mono hq.size))
  replace lM : MP < w5.heap.size := Nat.lt_of_lt_of_le lM hq.size
  replace XT : Hid (∀ y, Below w5.heap.size w5 y → y.heap[FP]? = some (.cells #[.int .i64 k, .int .i64 ft, .slice la ll lc, .slice sa sl sc] 60 (0, 0))) := fun y hy => XT.out y (hq.trans (hy.mono hq.size))
  replace lT : FP < w5.heap.size := Nat.lt_of_lt_of_le lT hq.size
  have zw5 : w4.heap.size ≤ w5.heap.size := hq.size
  clear hq BP
  clear kA0 kA1 kA2 kA3 kA4
  clear hb
  cases h4 : (valsM xl ls && valsM xl ss)
  · have H4 : Hid (((valsM xl ls && valsM xl ss)) = false) := h4
    go_wp2_with fail
    go_ret
    exact ⟨by rw [H0.out, H1.out, H2.out, H3.out, H4.out]; rfl, B.out _ (Below.refl _ _)⟩
  have H4 : Hid (((valsM xl ls && valsM xl ss)) = true) := h4
  clear h4
  go_wp2_with fail
  rw [rounds_succ]
  have kA0 : w5.cell? ⟨AB, 0, none⟩ = some (.func (.func 130) #[] #[.pointer (some ⟨FP, 0, none⟩), .pointer (some ⟨MP, 0, none⟩)]) := (boxG (XA.out w5 (Below.refl _ _)) 0).1
  have kA1 : w5.cell? ⟨AB, 1, none⟩ = some (.func (.func 132) #[] #[.pointer (some ⟨FP, 0, none⟩), .pointer (some ⟨MP, 0, none⟩)]) := (boxG (XA.out w5 (Below.refl _ _)) 1).1
  have kA2 : w5.cell? ⟨AB, 2, none⟩ = some (.func (.func 133) #[] #[.pointer (some ⟨FP, 0, none⟩), .pointer (some ⟨MP, 0, none⟩)]) := (boxG (XA.out w5 (Below.refl _ _)) 2).1
  have kA3 : w5.cell? ⟨AB, 3, none⟩ = some (.func (.func 134) #[] #[.pointer (some ⟨FP, 0, none⟩)]) := (boxG (XA.out w5 (Below.refl _ _)) 3).1
  have kA4 : w5.cell? ⟨AB, 4, none⟩ = some (.func (.func 135) #[] #[.pointer (some ⟨FP, 0, none⟩), .pointer (some ⟨MP, 0, none⟩)]) := (boxG (XA.out w5 (Below.refl _ _)) 4).1
  go_wp2_with fail
  go_ret
  exact ⟨by rw [H0.out, H1.out, H2.out, H3.out, H4.out]; rfl, B.out _ (Below.refl _ _)⟩
theorem allFrame0 (ca : Option Addr) (cn cc : Nat) (ma : Option Addr) (mn mc : Nat) (xa : Option Addr) (xl xc : Nat) (fa : Option Addr) (fl fc : Nat) (da : Option Addr) (dl dc : Nat) (st en : Int) (o0 : Bool) (o1 : Int) (AB : Nat) (MP FP : Nat) (fm ft : Int) (la : Option Addr) (ll lc : Nat) (sa : Option Addr) (sl sc : Nat) (t : TypeId) (w : World) (hi : inI fm 0 ((mn : Int) - 1) = false) (hM : w.heap[MP]? = some (.cells #[.slice ca cn cc, .slice ma mn mc, .slice ca cn cc, .slice xa xl xc, .slice fa fl fc, .slice da dl dc, .int .i64 st, .int .i64 en, .bool o0, .int .i64 o1] 96 (0, 0))) (hT : w.heap[FP]? = some (.cells #[.int .i64 fm, .int .i64 ft, .slice la ll lc, .slice sa sl sc] 60 (0, 0))) (hA : w.heap[AB]? = some (.cells #[.func (.func 130) #[] #[.pointer (some ⟨FP, 0, none⟩), .pointer (some ⟨MP, 0, none⟩)], .func (.func 132) #[] #[.pointer (some ⟨FP, 0, none⟩), .pointer (some ⟨MP, 0, none⟩)], .func (.func 133) #[] #[.pointer (some ⟨FP, 0, none⟩), .pointer (some ⟨MP, 0, none⟩)], .func (.func 134) #[] #[.pointer (some ⟨FP, 0, none⟩)], .func (.func 135) #[] #[.pointer (some ⟨FP, 0, none⟩), .pointer (some ⟨MP, 0, none⟩)]] t (0, 0))) :
    Calls Tryz.prog 82 #[.slice (some ⟨AB, 0, none⟩) 5 5] w fun e w' => e = .returned (.bool false) ∧ Below w.heap.size w w' := by
  have HI : Hid (inI fm 0 ((mn : Int) - 1) = false) := hi
  clear hi
  have lA : AB < w.heap.size := (Array.getElem?_eq_some_iff.1 hA).1
  have kA0 : w.cell? ⟨AB, 0, none⟩ = some (.func (.func 130) #[] #[.pointer (some ⟨FP, 0, none⟩), .pointer (some ⟨MP, 0, none⟩)]) := (boxG hA 0).1
  go_enter Tryz.func82, Tryz.ntmps82
  go_wp2_with fail
  refine wp_loop_rounds 1 ?_
  rw [rounds_succ]
  go_wp2_with fail
  refine (frame1Impl _ _ _ _ _ _ _ _ _ _ _ _ _ _ _ _ _ _ _  MP FP fm ft la ll lc sa sl sc _ hM hT).mono ?_
  rintro e w1 ⟨rfl, hb⟩
  rw [HI.out]
  go_wp2_with fail
  go_ret
  exact ⟨rfl, hb⟩
set_option maxRecDepth 100000 in
set_option maxHeartbeats 4000000 in
theorem frameOkImpl (ca : Option Addr) (cn cc : Nat) (ma : Option Addr) (mn mc : Nat) (xa : Option Addr) (xl xc : Nat) (fa : Option Addr) (fl fc : Nat) (da : Option Addr) (dl dc : Nat) (st en : Int) (o0 : Bool) (o1 : Int) (fm ft : Int) (la : Option Addr) (ll lc : Nat) (sa : Option Addr) (sl sc : Nat) (ls ss : List Vl) (M : List Me) (w : World) {D E G : Nat → Prop} (hMe : SlAt meR G w ma mn M) (hl : SlAt vaR D w la ll ls) (hk : SlAt vaR E w sa sl ss) :
    Calls Tryz.prog 97 #[.agg #[.slice ca cn cc, .slice ma mn mc, .slice ca cn cc, .slice xa xl xc, .slice fa fl fc, .slice da dl dc, .int .i64 st, .int .i64 en, .bool o0, .int .i64 o1], .agg #[.int .i64 fm, .int .i64 ft, .slice la ll lc, .slice sa sl sc]] w fun e w' => e = .returned (.bool (frM M xl (fm, ft, ls, ss))) ∧ Below w.heap.size w w' := by
  cases hi : inI fm 0 ((mn : Int) - 1)
  · have HF : Hid (frM M xl (fm, ft, ls, ss) = false) := by show _ = _; rw [frM, hMe.size]; simp only [hi]; rfl
    have BX : Hid (∀ o : Obj, Below w.heap.size w (((w.alloc (.cells #[.slice ca cn cc, .slice ma mn mc, .slice ca cn cc, .slice xa xl xc, .slice fa fl fc, .slice da dl dc, .int .i64 st, .int .i64 en, .bool o0, .int .i64 o1] 96)).alloc (.cells #[.int .i64 fm, .int .i64 ft, .slice la ll lc, .slice sa sl sc] 60)).alloc o)) := fun o => (((Below.refl _ _).alloc (Nat.le_refl _) _).alloc (by simp) _).alloc (by simp; omega) _
    have hmf : ∀ (fn : Fn) (first cap : Array Value) (w : World), (Instr.makeFunc fn first cap).run Tryz.prog w = .ok (.func fn first cap) w := fun _ _ _ _ => rfl
    go_enter Tryz.func97, Tryz.ntmps97
    go_wp2_with fail
    refine (allFrame0 _ _ _ _ _ _ _ _ _ _ _ _ _ _ _ _ _ _ _  (w.heap.size + 1 + 1) w.heap.size (w.heap.size + 1) fm ft la ll lc sa sl sc _ _ hi ((Below.heap_alloc _ _ _ (by simp; omega)).trans ((Below.heap_alloc _ _ _ (by simp)).trans (boxN _ _ _ _ rfl))) ((Below.heap_alloc _ _ _ (by simp)).trans (boxN _ _ _ _ (by simp))) (boxN _ _ _ _ (by simp))).mono ?_
    rintro e w1 ⟨rfl, hb⟩
    have B1 : Hid (Below w.heap.size w w1) := (BX.out _).trans (hb.mono (by simp; omega))
    clear hb
    go_wp2_with fail
    go_ret
    exact ⟨by rw [HF.out]; rfl, B1.out⟩
  have hin0 := hi
  unfold inI at hin0
  simp only [Bool.and_eq_true, decide_eq_true_eq] at hin0
  obtain ⟨k, rfl⟩ := Int.eq_ofNat_of_zero_le hin0.1
  have hkl : k < mn := by omega
  have hx : M[k]? = some (me M k) := by rw [me, List.getD_eq_getElem?_getD, List.getElem?_eq_getElem (by rw [hMe.size]; exact hkl)]; rfl
  obtain ⟨b1, p1, rfl, _, us, hu, hc⟩ := hMe.at k _ hx
  rcases hme : me M k with ⟨x0, x1, x2, x3, lo, xs, x6, x7⟩
  rw [hme] at hu
  obtain ⟨_, _, rfl, ⟨rfl, _⟩, _, _, rfl, ⟨rfl, _⟩, _, _, rfl, ⟨_, _, _, rfl, _⟩, _, _, rfl, ⟨rfl, _⟩, _, _, rfl, ⟨rfl, _⟩, _, _, rfl, ⟨ka, kl, kc, rfl, hxs⟩, _, _, rfl, ⟨_, _, _, rfl, _⟩, _, _, _, rfl, _⟩ := hu
  have c4 : w.cell? ⟨b1, p1 + k * 8 + 4, none⟩ = some (.int .i64 lo) := hc 4 _ rfl
  have c5 : w.cell? ⟨b1, p1 + k * 8 + 5, none⟩ = some (.slice ka kl kc) := hc 5 _ rfl
  have lb : b1 < w.heap.size := World.block_lt_of_cell? w _ c4
  have HF : Hid (frM M xl ((k : Int), ft, ls, ss) = (inI (k : Int) 0 ((mn : Int) - 1) && (inI ft 0 (kl : Int) && (((ll : Int) == lo) && (decide (sl ≤ 4) && (valsM xl ls && valsM xl ss)))))) := by
    show _ = _
    rw [frM, hMe.size]
    simp only [Int.toNat_natCast, hme, hxs.size, hl.size, hk.size]
  have BX : Hid (∀ o : Obj, Below w.heap.size w (((w.alloc (.cells #[.slice ca cn cc, .slice (some ⟨b1, p1, none⟩) mn mc, .slice ca cn cc, .slice xa xl xc, .slice fa fl fc, .slice da dl dc, .int .i64 st, .int .i64 en, .bool o0, .int .i64 o1] 96)).alloc (.cells #[.int .i64 (k : Int), .int .i64 ft, .slice la ll lc, .slice sa sl sc] 60)).alloc o)) := fun o => (((Below.refl _ _).alloc (Nat.le_refl _) _).alloc (by simp) _).alloc (by simp; omega) _
  have C4 : Hid (∀ y, Below w.heap.size w y → y.cell? ⟨b1, p1 + k * 8 + 4, none⟩ = some (.int .i64 lo)) := fun y hy => (hy.cell (p := ⟨b1, _, none⟩) lb).trans c4
  have C5 : Hid (∀ y, Below w.heap.size w y → y.cell? ⟨b1, p1 + k * 8 + 5, none⟩ = some (.slice ka kl kc)) := fun y hy => (hy.cell (p := ⟨b1, _, none⟩) lb).trans c5
  have HL : Hid (SlAt vaR D w la ll ls) := hl
  have HK : Hid (SlAt vaR E w sa sl ss) := hk
  clear hi hin0 hx hc hme hxs c4 c5 hl hk hMe
  have hmf : ∀ (fn : Fn) (first cap : Array Value) (w : World), (Instr.makeFunc fn first cap).run Tryz.prog w = .ok (.func fn first cap) w := fun _ _ _ _ => rfl
  go_enter Tryz.func97, Tryz.ntmps97
  go_wp2_with fail
  refine (allFrame _ _ _ _ _ _ _ _ _ _ _ _ _ _ _ _ _ _ _  _ (w.heap.size + 1 + 1) w.heap.size (w.heap.size + 1) k ft la ll lc sa sl sc _ lo ka kl kc ls ss _ (HL.out.later (BX.out _)) (HK.out.later (BX.out _)) hkl (C4.out _ (BX.out _)) (C5.out _ (BX.out _)) ((Below.heap_alloc _ _ _ (by simp; omega)).trans ((Below.heap_alloc _ _ _ (by simp)).trans (boxN _ _ _ _ rfl))) ((Below.heap_alloc _ _ _ (by simp)).trans (boxN _ _ _ _ (by simp))) (boxN _ _ _ _ (by simp))).mono ?_
  rintro e w1 ⟨rfl, hb⟩
  have B1 : Hid (Below w.heap.size w w1) := (BX.out _).trans (hb.mono (by simp; omega))
  clear hb
  go_wp2_with fail
  go_ret
  exact ⟨by rw [HF.out]; rfl, B1.out⟩

set_option maxRecDepth 100000 in
set_option maxHeartbeats 4000000 in
theorem eachFrameImpl (ca : Option Addr) (cn cc : Nat) (ma : Option Addr) (mn mc : Nat) (xa : Option Addr) (xl xc : Nat) (fa : Option Addr) (fl fc : Nat) (da : Option Addr) (dl dc : Nat) (st en : Int) (o0 : Bool) (o1 : Int) (ea : Option Addr) (el ec : Nat) (xs : List Fr) (L : List Cl) (M : List Me) (w : World) {D E F G : Nat → Prop} (h : SlAt frR D w ea el xs) (hMe : SlAt meR G w ma mn M) :
    Calls Tryz.prog 96 #[.slice ea el ec, .func (.func 97) #[.agg #[.slice ca cn cc, .slice ma mn mc, .slice ca cn cc, .slice xa xl xc, .slice fa fl fc, .slice da dl dc, .int .i64 st, .int .i64 en, .bool o0, .int .i64 o1]] #[]] w fun e w' => e = .returned (.bool (xs.all (frM M xl))) ∧ Below w.heap.size w w' := by
  have hro := h.room
  have HS : Hid (xs.length = el) := h.size
  have H : Hid (SlAt frR D w ea el xs) := h
  obtain ⟨P, hP⟩ : ∃ P : Fr → Bool, P = (frM M xl) := ⟨_, rfl⟩
  have HP : Hid (P = (frM M xl)) := hP
  have HMe : Hid (SlAt meR G w ma mn M) := hMe
  clear hMe
  rw [← hP]
  clear h hP
  go_enter Tryz.func96, Tryz.ntmps96
  go_wp2_with fail
  go_loopw [9] (fun t wr => ∃ k : Nat, k ≤ el ∧ t = .int .i64 k ∧ (xs.take k).all P = true ∧ Below w.heap.size w wr) (fun t _ => el - (intOf t).toNat)
  case atStart => exact ⟨0, Nat.zero_le _, rfl, by simp, Below.refl _ _⟩
  case round =>
    obtain ⟨k, hk, rfl, ha, hb⟩ := hrel
    have HA : Hid ((xs.take k).all P = true) := ha
    have HB : Hid (Below w.heap.size w wr) := hb
    clear ha hb
    by_cases hlt : k < el
    · obtain ⟨x, hx⟩ : ∃ x, xs[k]? = some x := ⟨xs[k]'(by rw [HS.out]; exact hlt), List.getElem?_eq_getElem _⟩
      have HX : Hid (xs[k]? = some x) := hx
      obtain ⟨b, off, rfl, _, us, hv, hc⟩ := (H.out.later HB.out).at k x hx
      obtain ⟨fm, ft, ls, ss⟩ := x
      obtain ⟨_, _, rfl, ⟨rfl, _⟩, _, _, rfl, ⟨rfl, _⟩, _, _, rfl, ⟨la, ll, lc, rfl, hls⟩, sa, sl, sc, rfl, hss⟩ := hv
      have c0x : wr.cell? ⟨b, off + k * 4, none⟩ = some (.int .i64 fm) := hc 0 _ rfl
      have c1x : wr.cell? ⟨b, off + k * 4 + 1, none⟩ = some (.int .i64 ft) := hc 1 _ rfl
      have c2x : wr.cell? ⟨b, off + k * 4 + 2, none⟩ = some (.slice la ll lc) := hc 2 _ rfl
      have c3x : wr.cell? ⟨b, off + k * 4 + 3, none⟩ = some (.slice sa sl sc) := hc 3 _ rfl
      have HL : Hid (SlAt vaR D wr la ll ls) := hls
      have HK : Hid (SlAt vaR D wr sa sl ss) := hss
      clear hls hss
      have BL : Hid (Below wr.heap.size wr (wr.alloc (.cells #[.int .i64 fm, .int .i64 ft, .slice la ll lc, .slice sa sl sc] 60))) := (Below.refl _ _).alloc (Nat.le_refl _) _
      clear hx hc
      go_wp2_with fail
      refine (frameOkImpl _ _ _ _ _ _ _ _ _ _ _ _ _ _ _ _ _ _ _  fm ft la ll lc sa sl sc ls ss M _ (HMe.out.later (HB.out.trans (BL.out.mono HB.out.size))) (HL.out.later BL.out) (HK.out.later BL.out)).mono ?_
      rintro e w2 ⟨rfl, hb2⟩
      have B2 : Hid (Below w.heap.size w w2) := (HB.out.trans (BL.out.mono HB.out.size)).trans (hb2.mono (by have := HB.out.size; simp; omega))
      clear hb2
      cases hq : frM M xl (fm, ft, ls, ss)
      · go_wp2_with fail
        go_ret
        exact ⟨by rw [all_no_at HX.out (by rw [HP.out]; exact hq)]; rfl, B2.out⟩
      · go_wp2_with fail
        exact ⟨⟨k + 1, by omega, by go_num, all_take_one HA.out HX.out (by rw [HP.out]; exact hq), B2.out⟩, by simp [intOf]; omega⟩
    · have ek : k = el := by omega
      subst ek
      have HR : Hid (xs.all P = true) := by have := HA.out; rwa [← HS.out, List.take_length] at this
      go_wp2_with fail
      go_ret
      exact ⟨by rw [HR.out]; rfl, HB.out⟩

end Go.Proofs.YthdlccadcadopaaGreat
namespace Go.Proofs.YthdlccadcadopaaGreat
open Go.ChangeShapes Go.WideShapes Go.ChangeAt Go.RowKit
set_option linter.unusedVariables false

theorem SlAt.head {α : Type} {R : Rep α} {D : Nat → Prop} {w : World} {a : Option Addr} {l : Nat} {xs : List α} (h : SlAt R D w a l xs) (k : Nat) (hk : k ≤ l) : SlAt R D w a k (xs.take k) := by
  have hs := h.size
  refine ⟨by rw [List.length_take, hs]; omega, by have := h.room; omega, ?_⟩
  rcases h.cells with h0 | ⟨b, off, ha, hd, hc⟩
  · exact .inl (by omega)
  · refine .inr ⟨b, off, ha, hd, fun i x hx => hc i x ?_⟩
    rw [List.getElem?_take] at hx
    by_cases c : i < k
    · rwa [if_pos c] at hx
    · rw [if_neg c] at hx; cases hx
set_option maxHeartbeats 4000000 in
theorem eachWordImpl (ea : Option Addr) (el ec : Nat) (xs : List Int) (w : World) {D : Nat → Prop} (h : SlAt intR D w ea el xs) :
    Calls Tryz.prog 91 #[.slice ea el ec, .func (.func 92) #[] #[]] w fun e w' => e = .returned (.bool (xs.all (fun d => inI d (-128) 127))) ∧ w = w' := by
  have hro := h.room
  have HS : Hid (xs.length = el) := h.size
  have H : Hid (SlAt intR D w ea el xs) := h
  obtain ⟨P, hP⟩ : ∃ P : Int → Bool, P = (fun d => inI d (-128) 127) := ⟨_, rfl⟩
  have HP : Hid (P = (fun d => inI d (-128) 127)) := hP
  rw [← hP]
  clear h hP
  go_enter Tryz.func91, Tryz.ntmps91
  go_wp2_with fail
  go_loop [9] (fun t => ∃ k : Nat, k ≤ el ∧ t = .int .i64 k ∧ (xs.take k).all P = true) (fun t => el - (intOf t).toNat)
  case atStart => exact ⟨0, Nat.zero_le _, rfl, by simp⟩
  case round =>
    obtain ⟨k, hk, rfl, ha⟩ := hrel
    have HA : Hid ((xs.take k).all P = true) := ha
    clear ha
    by_cases hlt : k < el
    · obtain ⟨x, hx⟩ : ∃ x, xs[k]? = some x := ⟨xs[k]'(by rw [HS.out]; exact hlt), List.getElem?_eq_getElem _⟩
      have HX : Hid (xs[k]? = some x) := hx
      obtain ⟨b, off, rfl, _, us, hv, hc⟩ := H.out.at k x hx
      obtain ⟨rfl, _⟩ := hv
      have c0x : w.cell? ⟨b, off + k, none⟩ = some (.int .i64 x) := by have := hc 0 _ rfl; simpa [Rep.int] using this
      clear hx hc
      go_wp2_with fail
      refine (wordImpl _ _).mono ?_
      rintro e w2 ⟨rfl, rfl⟩
      cases hq : (decide (-128 ≤ x) && decide (x ≤ 127))
      · go_wp2_with fail
        go_ret
        exact ⟨by rw [all_no_at HX.out (by rw [HP.out]; exact hq)]; rfl, rfl⟩
      · go_wp2_with fail
        exact ⟨⟨k + 1, by omega, by go_num, all_take_one HA.out HX.out (by rw [HP.out]; exact hq)⟩, by simp [intOf]; omega⟩
    · have ek : k = el := by omega
      subst ek
      have HR : Hid (xs.all P = true) := by have := HA.out; rwa [← HS.out, List.take_length] at this
      go_wp2_with fail
      go_ret
      exact ⟨by rw [HR.out]; rfl, rfl⟩
def endI (nf : Nat) (en : Int) (o0 : Bool) (o1 : Int) : Bool :=
  if en = 0 ∨ en = 3 then decide (0 < nf) && (!o0 && o1 == 0) else if en = 1 then nf == 0 else if en = 2 then (nf == 0 && o0) && (o1 != 0) else false
theorem endI_M {n nf : Nat} {en : Int} {o0 : Bool} {o1 : Int} (h : valM n (o0, o1) = true) : endI nf en o0 o1 = endM nf en o0 o1 := by
  unfold endI endM
  have : o0 = true → (o1 != 0) = decide (0 < o1) := fun e => by
    subst e
    simp [valM, inI] at h
    rw [Bool.eq_iff_iff]; simp; omega
  cases o0
  · simp
  · rw [this rfl]
set_option maxRecDepth 100000 in
set_option maxHeartbeats 4000000 in
theorem endOkImpl (xa : Option Addr) (xl xc : Nat) (fa : Option Addr) (fl fc : Nat) (da : Option Addr) (dl dc : Nat) (st en : Int) (o0 : Bool) (o1 : Int) (w : World) :
    Calls Tryz.prog 100 #[.agg #[.slice xa xl xc, .slice fa fl fc, .slice da dl dc, .int .i64 st, .int .i64 en, .bool o0, .int .i64 o1]] w fun e w' => e = .returned (.bool (endI fl en o0 o1)) ∧ Below w.heap.size w w' := by
  by_cases e0 : en = 0
  · subst e0
    go_enter Tryz.func100, Tryz.ntmps100
    go_wp2_with fail
    all_goals
      go_ret
      refine ⟨?_, by go_grown⟩
      show Ending.returned (Value.bool _) = Ending.returned (Value.bool _)
      congr 2
      first | (simp_all [endI]; done) | (simp_all [endI]; omega) | (simp [endI]; omega) | (rw [Bool.eq_iff_iff]; simp [endI])
  have f0 : (en == 0) = false := by simp [e0]
  by_cases e3 : en = 3
  · subst e3
    go_enter Tryz.func100, Tryz.ntmps100
    go_wp2_with fail
    all_goals
      go_ret
      refine ⟨?_, by go_grown⟩
      show Ending.returned (Value.bool _) = Ending.returned (Value.bool _)
      congr 2
      first | (simp_all [endI]; done) | (simp_all [endI]; omega) | (simp [endI]; omega) | (rw [Bool.eq_iff_iff]; simp [endI])
  have f3 : (en == 3) = false := by simp [e3]
  by_cases e1 : en = 1
  · subst e1
    go_enter Tryz.func100, Tryz.ntmps100
    go_wp2_with fail
    all_goals
      go_ret
      refine ⟨?_, by go_grown⟩
      show Ending.returned (Value.bool _) = Ending.returned (Value.bool _)
      congr 2
      first | (simp_all [endI]; done) | (simp_all [endI]; omega) | (simp [endI]; omega) | (rw [Bool.eq_iff_iff]; simp [endI])
  have f1 : (en == 1) = false := by simp [e1]
  by_cases e2 : en = 2
  · subst e2
    go_enter Tryz.func100, Tryz.ntmps100
    go_wp2_with fail
    all_goals
      go_ret
      refine ⟨?_, by go_grown⟩
      show Ending.returned (Value.bool _) = Ending.returned (Value.bool _)
      congr 2
      first | (simp_all [endI]; done) | (simp_all [endI]; omega) | (simp [endI]; omega) | (rw [Bool.eq_iff_iff]; simp [endI])
  have f2 : (en == 2) = false := by simp [e2]
  go_enter Tryz.func100, Tryz.ntmps100
  go_wp2_with fail
  all_goals
    go_ret
    refine ⟨?_, by go_grown⟩
    show Ending.returned (Value.bool _) = Ending.returned (Value.bool _)
    congr 2
    first | (simp_all [endI]; done) | (simp_all [endI]; omega) | (simp [endI]; omega) | (rw [Bool.eq_iff_iff]; simp [endI])
theorem ok1Impl (QP : Nat) (xa : Option Addr) (xl xc : Nat) (fa : Option Addr) (fl fc : Nat) (da : Option Addr) (dl dc : Nat) (st en : Int) (o0 : Bool) (o1 : Int) (w : World) (hQ : w.heap[QP]? = some (.cells #[.slice xa xl xc, .slice fa fl fc, .slice da dl dc, .int .i64 st, .int .i64 en, .bool o0, .int .i64 o1] 33 (0, 0))) :
    Calls Tryz.prog 83 #[.pointer (some ⟨QP, 0, none⟩)] w fun e w' => e = .returned (.bool (inI st 0 200)) ∧ Below w.heap.size w w' := by
  have q3 : w.cell? ⟨QP, 3, none⟩ = some (.int .i64 st) := (boxG hQ 3).1
  clear hQ
  go_enter Tryz.func83, Tryz.ntmps83
  go_wp2_with fail
  refine (isAmongImpl _ _ _ _).mono ?_
  rintro e w1 ⟨rfl, rfl⟩
  go_wp2_with fail
  go_ret
  exact ⟨rfl, Below.refl _ _⟩
theorem ok2Impl (QP : Nat) (xa : Option Addr) (xl xc : Nat) (fa : Option Addr) (fl fc : Nat) (da : Option Addr) (dl dc : Nat) (st en : Int) (o0 : Bool) (o1 : Int) (w : World) (hQ : w.heap[QP]? = some (.cells #[.slice xa xl xc, .slice fa fl fc, .slice da dl dc, .int .i64 st, .int .i64 en, .bool o0, .int .i64 o1] 33 (0, 0))) :
    Calls Tryz.prog 85 #[.pointer (some ⟨QP, 0, none⟩)] w fun e w' => e = .returned (.bool (inI (xl : Int) 7 207)) ∧ Below w.heap.size w w' := by
  have q0 : w.cell? ⟨QP, 0, none⟩ = some (.slice xa xl xc) := (boxG hQ 0).1
  clear hQ
  go_enter Tryz.func85, Tryz.ntmps85
  go_wp2_with fail
  refine (isAmongImpl _ _ _ _).mono ?_
  rintro e w1 ⟨rfl, rfl⟩
  go_wp2_with fail
  go_ret
  exact ⟨rfl, Below.refl _ _⟩
theorem ok3Impl (QP : Nat) (xa : Option Addr) (xl xc : Nat) (fa : Option Addr) (fl fc : Nat) (da : Option Addr) (dl dc : Nat) (st en : Int) (o0 : Bool) (o1 : Int) (w : World) (hQ : w.heap[QP]? = some (.cells #[.slice xa xl xc, .slice fa fl fc, .slice da dl dc, .int .i64 st, .int .i64 en, .bool o0, .int .i64 o1] 33 (0, 0))) :
    Calls Tryz.prog 86 #[.pointer (some ⟨QP, 0, none⟩)] w fun e w' => e = .returned (.bool (decide (fl ≤ 4) && decide (dl ≤ 200))) ∧ Below w.heap.size w w' := by
  have q1 : w.cell? ⟨QP, 1, none⟩ = some (.slice fa fl fc) := (boxG hQ 1).1
  have q2 : w.cell? ⟨QP, 2, none⟩ = some (.slice da dl dc) := (boxG hQ 2).1
  clear hQ
  by_cases h3 : fl ≤ 4
  · by_cases h4 : dl ≤ 200
    · go_enter Tryz.func86, Tryz.ntmps86
      go_wp2_with fail
      go_ret
      exact ⟨by rw [decide_eq_true h3, decide_eq_true h4]; simp; omega, Below.refl _ _⟩
    · go_enter Tryz.func86, Tryz.ntmps86
      go_wp2_with fail
      go_ret
      exact ⟨by rw [decide_eq_true h3, decide_eq_false h4]; simp; omega, Below.refl _ _⟩
  · go_enter Tryz.func86, Tryz.ntmps86
    go_wp2_with fail
    go_ret
    exact ⟨by first | rfl | (rw [decide_eq_false h3]; simp), Below.refl _ _⟩
theorem ok4Impl (QP : Nat) (b1 p1 xl xc : Nat) (fa : Option Addr) (fl fc : Nat) (da : Option Addr) (dl dc : Nat) (st en : Int) (o0 : Bool) (o1 : Int) (Xs : List Ob) (w : World) {P : Nat → Prop} (hX : SlAt obR P w (some ⟨b1, p1, none⟩) xl Xs) (h7 : 7 ≤ xl) (hxc : xl ≤ xc) (hQ : w.heap[QP]? = some (.cells #[.slice (some ⟨b1, p1, none⟩) xl xc, .slice fa fl fc, .slice da dl dc, .int .i64 st, .int .i64 en, .bool o0, .int .i64 o1] 33 (0, 0))) :
    Calls Tryz.prog 87 #[.pointer (some ⟨QP, 0, none⟩)] w fun e w' => e = .returned (.bool ((Xs.take 7).all (fun o : Ob => o.1 == 1))) ∧ Below w.heap.size w w' := by
  have HX : Hid (SlAt obR P w (some ⟨b1, p1, none⟩) 7 (Xs.take 7)) := hX.head 7 h7
  have q0 : w.cell? ⟨QP, 0, none⟩ = some (.slice (some ⟨b1, p1, none⟩) xl xc) := (boxG hQ 0).1
  have h7' : (7 : Int) ≤ xc := by omega
  have h7'' : 7 ≤ xc := by omega
  have hro := hX.room
  clear hQ hX
  go_enter Tryz.func87, Tryz.ntmps87
  go_wp2_with fail
  refine (eachFailImpl none 0 0 none 0 0 none 0 0 none 0 0 none 0 0 0 0 false 0 _ _ _ (Xs.take 7) [] [] _ (E := fun _ => True) (F := fun _ => True) (G := fun _ => True) HX.out).mono ?_
  rintro e w1 ⟨rfl, hb⟩
  have B1 : Hid (Below w.heap.size w w1) := hb
  clear hb
  go_wp2_with fail
  go_ret
  exact ⟨rfl, B1.out⟩
theorem ok5Impl (QP : Nat) (xa : Option Addr) (xl xc : Nat) (fa : Option Addr) (fl fc : Nat) (da : Option Addr) (dl dc : Nat) (st en : Int) (o0 : Bool) (o1 : Int) (Sd : List Int) (w : World) {P : Nat → Prop} (hS : SlAt intR P w da dl Sd) (hQ : w.heap[QP]? = some (.cells #[.slice xa xl xc, .slice fa fl fc, .slice da dl dc, .int .i64 st, .int .i64 en, .bool o0, .int .i64 o1] 33 (0, 0))) :
    Calls Tryz.prog 90 #[.pointer (some ⟨QP, 0, none⟩)] w fun e w' => e = .returned (.bool (Sd.all (fun d => inI d (-128) 127))) ∧ Below w.heap.size w w' := by
  have HX : Hid (SlAt intR P w da dl Sd) := hS
  have q2 : w.cell? ⟨QP, 2, none⟩ = some (.slice da dl dc) := (boxG hQ 2).1
  clear hQ hS
  go_enter Tryz.func90, Tryz.ntmps90
  go_wp2_with fail
  refine (eachWordImpl _ _ _ Sd _ HX.out).mono ?_
  rintro e w1 ⟨rfl, rfl⟩
  go_wp2_with fail
  go_ret
  exact ⟨rfl, Below.refl _ _⟩
theorem ok6Impl (ca : Option Addr) (cn cc : Nat) (ma : Option Addr) (mn mc : Nat) (xa : Option Addr) (xl xc : Nat) (fa : Option Addr) (fl fc : Nat) (da : Option Addr) (dl dc : Nat) (st en : Int) (o0 : Bool) (o1 : Int) (MP QP : Nat) (Xs : List Ob) (L : List Cl) (w : World) {D E P : Nat → Prop} (h : ClsAt D E w ca cn L) (ok : clsOk L = true) (hX : SlAt obR P w xa xl Xs) (hM : w.heap[MP]? = some (.cells #[.slice ca cn cc, .slice ma mn mc, .slice ca cn cc, .slice xa xl xc, .slice fa fl fc, .slice da dl dc, .int .i64 st, .int .i64 en, .bool o0, .int .i64 o1] 96 (0, 0))) (hQ : w.heap[QP]? = some (.cells #[.slice xa xl xc, .slice fa fl fc, .slice da dl dc, .int .i64 st, .int .i64 en, .bool o0, .int .i64 o1] 33 (0, 0))) :
    Calls Tryz.prog 93 #[.pointer (some ⟨QP, 0, none⟩), .pointer (some ⟨MP, 0, none⟩)] w fun e w' => e = .returned (.bool (Xs.all (objM L xl))) ∧ Below w.heap.size w w' := by
  have HX : Hid (SlAt obR P w xa xl Xs) := hX
  have H : Hid (ClsAt D E w ca cn L) := h
  have q0 : w.cell? ⟨QP, 0, none⟩ = some (.slice xa xl xc) := (boxG hQ 0).1
  have m0 : w.cell? ⟨MP, 0, none⟩ = some (.slice ca cn cc) := (boxG hM 0).1
  have m1 : w.cell? ⟨MP, 1, none⟩ = some (.slice ma mn mc) := (boxG hM 1).1
  have m2 : w.cell? ⟨MP, 2, none⟩ = some (.slice ca cn cc) := (boxG hM 2).1
  have m3 : w.cell? ⟨MP, 3, none⟩ = some (.slice xa xl xc) := (boxG hM 3).1
  have m4 : w.cell? ⟨MP, 4, none⟩ = some (.slice fa fl fc) := (boxG hM 4).1
  have m5 : w.cell? ⟨MP, 5, none⟩ = some (.slice da dl dc) := (boxG hM 5).1
  have m6 : w.cell? ⟨MP, 6, none⟩ = some (.int .i64 st) := (boxG hM 6).1
  have m7 : w.cell? ⟨MP, 7, none⟩ = some (.int .i64 en) := (boxG hM 7).1
  have m8 : w.cell? ⟨MP, 8, none⟩ = some (.bool o0) := (boxG hM 8).1
  have m9 : w.cell? ⟨MP, 9, none⟩ = some (.int .i64 o1) := (boxG hM 9).1
  have hmf : ∀ (fn : Fn) (first cap : Array Value) (w : World), (Instr.makeFunc fn first cap).run Tryz.prog w = .ok (.func fn first cap) w := fun _ _ _ _ => rfl
  clear hQ hM hX h
  go_enter Tryz.func93, Tryz.ntmps93
  go_wp2_with fail
  refine (eachThingImpl _ _ _ _ _ _ _ _ _ _ _ _ _ _ _ _ _ _ _  _ _ _ Xs L [] _ (G := fun _ => True) HX.out H.out ok).mono ?_
  rintro e w1 ⟨rfl, hb⟩
  have B1 : Hid (Below w.heap.size w w1) := hb
  clear hb
  go_wp2_with fail
  go_ret
  exact ⟨rfl, B1.out⟩
theorem ok7Impl (ca : Option Addr) (cn cc : Nat) (ma : Option Addr) (mn mc : Nat) (xa : Option Addr) (xl xc : Nat) (fa : Option Addr) (fl fc : Nat) (da : Option Addr) (dl dc : Nat) (st en : Int) (o0 : Bool) (o1 : Int) (MP QP : Nat) (Fs : List Fr) (M : List Me) (w : World) {G P : Nat → Prop} (hMe : SlAt meR G w ma mn M) (hF : SlAt frR P w fa fl Fs) (hM : w.heap[MP]? = some (.cells #[.slice ca cn cc, .slice ma mn mc, .slice ca cn cc, .slice xa xl xc, .slice fa fl fc, .slice da dl dc, .int .i64 st, .int .i64 en, .bool o0, .int .i64 o1] 96 (0, 0))) (hQ : w.heap[QP]? = some (.cells #[.slice xa xl xc, .slice fa fl fc, .slice da dl dc, .int .i64 st, .int .i64 en, .bool o0, .int .i64 o1] 33 (0, 0))) :
    Calls Tryz.prog 95 #[.pointer (some ⟨QP, 0, none⟩), .pointer (some ⟨MP, 0, none⟩)] w fun e w' => e = .returned (.bool (Fs.all (frM M xl))) ∧ Below w.heap.size w w' := by
  have HX : Hid (SlAt frR P w fa fl Fs) := hF
  have H : Hid (SlAt meR G w ma mn M) := hMe
  have q1 : w.cell? ⟨QP, 1, none⟩ = some (.slice fa fl fc) := (boxG hQ 1).1
  have m0 : w.cell? ⟨MP, 0, none⟩ = some (.slice ca cn cc) := (boxG hM 0).1
  have m1 : w.cell? ⟨MP, 1, none⟩ = some (.slice ma mn mc) := (boxG hM 1).1
  have m2 : w.cell? ⟨MP, 2, none⟩ = some (.slice ca cn cc) := (boxG hM 2).1
  have m3 : w.cell? ⟨MP, 3, none⟩ = some (.slice xa xl xc) := (boxG hM 3).1
  have m4 : w.cell? ⟨MP, 4, none⟩ = some (.slice fa fl fc) := (boxG hM 4).1
  have m5 : w.cell? ⟨MP, 5, none⟩ = some (.slice da dl dc) := (boxG hM 5).1
  have m6 : w.cell? ⟨MP, 6, none⟩ = some (.int .i64 st) := (boxG hM 6).1
  have m7 : w.cell? ⟨MP, 7, none⟩ = some (.int .i64 en) := (boxG hM 7).1
  have m8 : w.cell? ⟨MP, 8, none⟩ = some (.bool o0) := (boxG hM 8).1
  have m9 : w.cell? ⟨MP, 9, none⟩ = some (.int .i64 o1) := (boxG hM 9).1
  have hmf : ∀ (fn : Fn) (first cap : Array Value) (w : World), (Instr.makeFunc fn first cap).run Tryz.prog w = .ok (.func fn first cap) w := fun _ _ _ _ => rfl
  clear hQ hM hF hMe
  go_enter Tryz.func95, Tryz.ntmps95
  go_wp2_with fail
  refine (eachFrameImpl _ _ _ _ _ _ _ _ _ _ _ _ _ _ _ _ _ _ _  _ _ _ Fs [] M _ (E := fun _ => True) (F := fun _ => True) HX.out H.out).mono ?_
  rintro e w1 ⟨rfl, hb⟩
  have B1 : Hid (Below w.heap.size w w1) := hb
  clear hb
  go_wp2_with fail
  go_ret
  exact ⟨rfl, B1.out⟩
theorem ok8Impl (ca : Option Addr) (cn cc : Nat) (ma : Option Addr) (mn mc : Nat) (xa : Option Addr) (xl xc : Nat) (fa : Option Addr) (fl fc : Nat) (da : Option Addr) (dl dc : Nat) (st en : Int) (o0 : Bool) (o1 : Int) (MP QP : Nat) (w : World) (hM : w.heap[MP]? = some (.cells #[.slice ca cn cc, .slice ma mn mc, .slice ca cn cc, .slice xa xl xc, .slice fa fl fc, .slice da dl dc, .int .i64 st, .int .i64 en, .bool o0, .int .i64 o1] 96 (0, 0))) (hQ : w.heap[QP]? = some (.cells #[.slice xa xl xc, .slice fa fl fc, .slice da dl dc, .int .i64 st, .int .i64 en, .bool o0, .int .i64 o1] 33 (0, 0))) :
    Calls Tryz.prog 98 #[.pointer (some ⟨MP, 0, none⟩), .pointer (some ⟨QP, 0, none⟩)] w fun e w' => e = .returned (.bool (valM xl (o0, o1) && endI fl en o0 o1)) ∧ Below w.heap.size w w' := by
  have q0 : w.cell? ⟨QP, 0, none⟩ = some (.slice xa xl xc) := (boxG hQ 0).1
  have q1 : w.cell? ⟨QP, 1, none⟩ = some (.slice fa fl fc) := (boxG hQ 1).1
  have q2 : w.cell? ⟨QP, 2, none⟩ = some (.slice da dl dc) := (boxG hQ 2).1
  have q3 : w.cell? ⟨QP, 3, none⟩ = some (.int .i64 st) := (boxG hQ 3).1
  have q4 : w.cell? ⟨QP, 4, none⟩ = some (.int .i64 en) := (boxG hQ 4).1
  have q5 : w.cell? ⟨QP, 5, none⟩ = some (.bool o0) := (boxG hQ 5).1
  have q6 : w.cell? ⟨QP, 6, none⟩ = some (.int .i64 o1) := (boxG hQ 6).1
  have m0 : w.cell? ⟨MP, 0, none⟩ = some (.slice ca cn cc) := (boxG hM 0).1
  have m1 : w.cell? ⟨MP, 1, none⟩ = some (.slice ma mn mc) := (boxG hM 1).1
  have m2 : w.cell? ⟨MP, 2, none⟩ = some (.slice ca cn cc) := (boxG hM 2).1
  have m3 : w.cell? ⟨MP, 3, none⟩ = some (.slice xa xl xc) := (boxG hM 3).1
  have m4 : w.cell? ⟨MP, 4, none⟩ = some (.slice fa fl fc) := (boxG hM 4).1
  have m5 : w.cell? ⟨MP, 5, none⟩ = some (.slice da dl dc) := (boxG hM 5).1
  have m6 : w.cell? ⟨MP, 6, none⟩ = some (.int .i64 st) := (boxG hM 6).1
  have m7 : w.cell? ⟨MP, 7, none⟩ = some (.int .i64 en) := (boxG hM 7).1
  have m8 : w.cell? ⟨MP, 8, none⟩ = some (.bool o0) := (boxG hM 8).1
  have m9 : w.cell? ⟨MP, 9, none⟩ = some (.int .i64 o1) := (boxG hM 9).1
  have lQ : QP < w.heap.size := (Array.getElem?_eq_some_iff.1 hQ).1
  have XQ : Hid (∀ y, Below w.heap.size w y → y.heap[QP]? = some (.cells #[.slice xa xl xc, .slice fa fl fc, .slice da dl dc, .int .i64 st, .int .i64 en, .bool o0, .int .i64 o1] 33 (0, 0))) := fun y hy => (hy.block _ lQ).trans hQ
  clear hQ hM
  go_enter Tryz.func98, Tryz.ntmps98
  go_wp2_with fail
  refine (valOkImpl _ _ _ _ _ _ _ _ _ _ _ _ _ _ _ _ _ _ _  _ _ _).mono ?_
  rintro e w1 ⟨rfl, hb⟩
  have B1 : Hid (Below w.heap.size w w1) := hb
  clear hb q0 q1 q2 q3 q4 q5 q6 m0 m1 m2 m3 m4 m5 m6 m7 m8 m9
  have q0 : w1.cell? ⟨QP, 0, none⟩ = some (.slice xa xl xc) := (boxG (XQ.out _ B1.out) 0).1
  have q1 : w1.cell? ⟨QP, 1, none⟩ = some (.slice fa fl fc) := (boxG (XQ.out _ B1.out) 1).1
  have q2 : w1.cell? ⟨QP, 2, none⟩ = some (.slice da dl dc) := (boxG (XQ.out _ B1.out) 2).1
  have q3 : w1.cell? ⟨QP, 3, none⟩ = some (.int .i64 st) := (boxG (XQ.out _ B1.out) 3).1
  have q4 : w1.cell? ⟨QP, 4, none⟩ = some (.int .i64 en) := (boxG (XQ.out _ B1.out) 4).1
  have q5 : w1.cell? ⟨QP, 5, none⟩ = some (.bool o0) := (boxG (XQ.out _ B1.out) 5).1
  have q6 : w1.cell? ⟨QP, 6, none⟩ = some (.int .i64 o1) := (boxG (XQ.out _ B1.out) 6).1
  cases h1 : valM xl (o0, o1)
  · go_wp2_with fail
    go_ret
    exact ⟨by rw [h1]; rfl, B1.out⟩
  go_wp2_with fail
  refine (endOkImpl _ _ _ _ _ _ _ _ _ _ _ _ _  _).mono ?_
  rintro e w2 ⟨rfl, hb⟩
  have B2 : Hid (Below w.heap.size w w2) := B1.out.trans (hb.mono B1.out.size)
  clear hb
  go_wp2_with fail
  go_ret
  exact ⟨by rw [h1]; rfl, B2.out⟩
set_option maxRecDepth 100000 in
set_option maxHeartbeats 16000000 in
theorem allOk (ca : Option Addr) (cn cc : Nat) (ma : Option Addr) (mn mc : Nat) (b1 p1 xl xc : Nat) (fa : Option Addr) (fl fc : Nat) (da : Option Addr) (dl dc : Nat) (st en : Int) (o0 : Bool) (o1 : Int) (AB MP QP : Nat) (t : TypeId) (L : List Cl) (M : List Me) (Xs : List Ob) (Fs : List Fr) (Sd : List Int) (w : World) {D E G P R S : Nat → Prop} (h : ClsAt D E w ca cn L) (ok : clsOk L = true) (hMe : SlAt meR G w ma mn M) (hX : SlAt obR P w (some ⟨b1, p1, none⟩) xl Xs) (hF : SlAt frR R w fa fl Fs) (hS : SlAt intR S w da dl Sd) (h7 : 7 ≤ xl) (hxc : xl ≤ xc) (hM : w.heap[MP]? = some (.cells #[.slice ca cn cc, .slice ma mn mc, .slice ca cn cc, .slice (some ⟨b1, p1, none⟩) xl xc, .slice fa fl fc, .slice da dl dc, .int .i64 st, .int .i64 en, .bool o0, .int .i64 o1] 96 (0, 0))) (hQ : w.heap[QP]? = some (.cells #[.slice (some ⟨b1, p1, none⟩) xl xc, .slice fa fl fc, .slice da dl dc, .int .i64 st, .int .i64 en, .bool o0, .int .i64 o1] 33 (0, 0))) (hA : w.heap[AB]? = some (.cells #[.func (.func 83) #[] #[.pointer (some ⟨QP, 0, none⟩)], .func (.func 85) #[] #[.pointer (some ⟨QP, 0, none⟩)], .func (.func 86) #[] #[.pointer (some ⟨QP, 0, none⟩)], .func (.func 87) #[] #[.pointer (some ⟨QP, 0, none⟩)], .func (.func 90) #[] #[.pointer (some ⟨QP, 0, none⟩)], .func (.func 93) #[] #[.pointer (some ⟨QP, 0, none⟩), .pointer (some ⟨MP, 0, none⟩)], .func (.func 95) #[] #[.pointer (some ⟨QP, 0, none⟩), .pointer (some ⟨MP, 0, none⟩)], .func (.func 98) #[] #[.pointer (some ⟨MP, 0, none⟩), .pointer (some ⟨QP, 0, none⟩)]] t (0, 0))) :
    Calls Tryz.prog 82 #[.slice (some ⟨AB, 0, none⟩) 8 8] w fun e w' => e = .returned (.bool (inI st 0 200 && (inI (xl : Int) 7 207 && ((decide (fl ≤ 4) && decide (dl ≤ 200)) && ((Xs.take 7).all (fun o : Ob => o.1 == 1) && (Sd.all (fun d => inI d (-128) 127) && (Xs.all (objM L xl) && (Fs.all (frM M xl) && (valM xl (o0, o1) && endI fl en o0 o1))))))))) ∧ Below w.heap.size w w' := by
  have H : Hid (ClsAt D E w ca cn L) := h
  have HMe : Hid (SlAt meR G w ma mn M) := hMe
  have HX : Hid (SlAt obR P w (some ⟨b1, p1, none⟩) xl Xs) := hX
  have HFr : Hid (SlAt frR R w fa fl Fs) := hF
  have HSd : Hid (SlAt intR S w da dl Sd) := hS
  clear h hMe hX hF hS
  have B : Hid (∀ y, Below w.heap.size w y → Below w.heap.size w y) := fun _ h => h
  have lA : AB < w.heap.size := (Array.getElem?_eq_some_iff.1 hA).1
  have XA : Hid (∀ y, Below w.heap.size w y → y.heap[AB]? = some (.cells #[.func (.func 83) #[] #[.pointer (some ⟨QP, 0, none⟩)], .func (.func 85) #[] #[.pointer (some ⟨QP, 0, none⟩)], .func (.func 86) #[] #[.pointer (some ⟨QP, 0, none⟩)], .func (.func 87) #[] #[.pointer (some ⟨QP, 0, none⟩)], .func (.func 90) #[] #[.pointer (some ⟨QP, 0, none⟩)], .func (.func 93) #[] #[.pointer (some ⟨QP, 0, none⟩), .pointer (some ⟨MP, 0, none⟩)], .func (.func 95) #[] #[.pointer (some ⟨QP, 0, none⟩), .pointer (some ⟨MP, 0, none⟩)], .func (.func 98) #[] #[.pointer (some ⟨MP, 0, none⟩), .pointer (some ⟨QP, 0, none⟩)]] t (0, 0))) := fun y hy => (hy.block _ lA).trans hA
  have lM : MP < w.heap.size := (Array.getElem?_eq_some_iff.1 hM).1
  have XM : Hid (∀ y, Below w.heap.size w y → y.heap[MP]? = some (.cells #[.slice ca cn cc, .slice ma mn mc, .slice ca cn cc, .slice (some ⟨b1, p1, none⟩) xl xc, .slice fa fl fc, .slice da dl dc, .int .i64 st, .int .i64 en, .bool o0, .int .i64 o1] 96 (0, 0))) := fun y hy => (hy.block _ lM).trans hM
  have lQ : QP < w.heap.size := (Array.getElem?_eq_some_iff.1 hQ).1
  have XQ : Hid (∀ y, Below w.heap.size w y → y.heap[QP]? = some (.cells #[.slice (some ⟨b1, p1, none⟩) xl xc, .slice fa fl fc, .slice da dl dc, .int .i64 st, .int .i64 en, .bool o0, .int .i64 o1] 33 (0, 0))) := fun y hy => (hy.block _ lQ).trans hQ
  clear hA hM hQ
  go_enter Tryz.func82, Tryz.ntmps82
  go_wp2_with fail
  refine wp_loop_rounds 9 ?_
  rw [rounds_succ]
  have kA0 : w.cell? ⟨AB, 0, none⟩ = some (.func (.func 83) #[] #[.pointer (some ⟨QP, 0, none⟩)]) := (boxG (XA.out w (Below.refl _ _)) 0).1
  have kA1 : w.cell? ⟨AB, 1, none⟩ = some (.func (.func 85) #[] #[.pointer (some ⟨QP, 0, none⟩)]) := (boxG (XA.out w (Below.refl _ _)) 1).1
  have kA2 : w.cell? ⟨AB, 2, none⟩ = some (.func (.func 86) #[] #[.pointer (some ⟨QP, 0, none⟩)]) := (boxG (XA.out w (Below.refl _ _)) 2).1
  have kA3 : w.cell? ⟨AB, 3, none⟩ = some (.func (.func 87) #[] #[.pointer (some ⟨QP, 0, none⟩)]) := (boxG (XA.out w (Below.refl _ _)) 3).1
  have kA4 : w.cell? ⟨AB, 4, none⟩ = some (.func (.func 90) #[] #[.pointer (some ⟨QP, 0, none⟩)]) := (boxG (XA.out w (Below.refl _ _)) 4).1
  have kA5 : w.cell? ⟨AB, 5, none⟩ = some (.func (.func 93) #[] #[.pointer (some ⟨QP, 0, none⟩), .pointer (some ⟨MP, 0, none⟩)]) := (boxG (XA.out w (Below.refl _ _)) 5).1
  have kA6 : w.cell? ⟨AB, 6, none⟩ = some (.func (.func 95) #[] #[.pointer (some ⟨QP, 0, none⟩), .pointer (some ⟨MP, 0, none⟩)]) := (boxG (XA.out w (Below.refl _ _)) 6).1
  have kA7 : w.cell? ⟨AB, 7, none⟩ = some (.func (.func 98) #[] #[.pointer (some ⟨MP, 0, none⟩), .pointer (some ⟨QP, 0, none⟩)]) := (boxG (XA.out w (Below.refl _ _)) 7).1
  have BP : Hid (Below w.heap.size w w) := Below.refl _ _
  go_wp2_with fail
  refine (ok1Impl QP _ _ _ _ _ _ _ _ _ _ _ _ _  _ (XQ.out _ (Below.refl _ _))).mono ?_
  rintro e w1 ⟨rfl, hb⟩
  have hq : Below w.heap.size w w1 := BP.out.trans (Below.mono hb BP.out.size)
  replace B : Hid (∀ y, Below w1.heap.size w1 y → Below w.heap.size w y) := fun y hy => B.out y (hq.trans (hy.mono hq.size))
  replace XA : Hid (∀ y, Below w1.heap.size w1 y → y.heap[AB]? = some (.cells #[.func (.func 83) #[] #[.pointer (some ⟨QP, 0, none⟩)], .func (.func 85) #[] #[.pointer (some ⟨QP, 0, none⟩)], .func (.func 86) #[] #[.pointer (some ⟨QP, 0, none⟩)], .func (.func 87) #[] #[.pointer (some ⟨QP, 0, none⟩)], .func (.func 90) #[] #[.pointer (some ⟨QP, 0, none⟩)], .func (.func 93) #[] #[.pointer (some ⟨QP, 0, none⟩), .pointer (some ⟨MP, 0, none⟩)], .func (.func 95) #[] #[.pointer (some ⟨QP, 0, none⟩), .pointer (some ⟨MP, 0, none⟩)], .func (.func 98) #[] #[.pointer (some ⟨MP, 0, none⟩), .pointer (some ⟨QP, 0, none⟩)]] t (0, 0))) := fun y hy => XA.out y (hq.trans (hy.mono hq.size))
  replace lA : AB < w1.heap.size := Nat.lt_of_lt_of_le lA hq.size
  replace XM : Hid (∀ y, Below w1.heap.size w1 y → y.heap[MP]? = some (.cells #[.slice ca cn cc, .slice ma mn mc, .slice ca cn cc, .slice (some ⟨b1, p1, none⟩) xl xc, .slice fa fl fc, .slice da dl dc, .int .i64 st, .int .i64 en, .bool o0, .int .i64 o1] 96 (0, 0))) := fun y hy => XM.out y (hq.trans (hy.mono hq.size))
  replace lM : MP < w1.heap.size := Nat.lt_of_lt_of_le lM hq.size
  replace XQ : Hid (∀ y, Below w1.heap.size w1 y → y.heap[QP]? = some (.cells #[.slice (some ⟨b1, p1, none⟩) xl xc, .slice fa fl fc, .slice da dl dc, .int .i64 st, .int .i64 en, .bool o0, .int .i64 o1] 33 (0, 0))) := fun y hy => XQ.out y (hq.trans (hy.mono hq.size))
  replace lQ : QP < w1.heap.size := Nat.lt_of_lt_of_le lQ hq.size
  have zw1 : w.heap.size ≤ w1.heap.size := hq.size
  clear hq BP
  clear kA0 kA1 kA2 kA3 kA4 kA5 kA6 kA7
  clear hb
  cases h0 : inI st 0 200
  · have H0 : Hid ((inI st 0 200) = false) := h0
    go_wp2_with fail
    go_ret
    exact ⟨by rw [H0.out]; rfl, B.out _ (Below.refl _ _)⟩
  have H0 : Hid ((inI st 0 200) = true) := h0
  clear h0
  go_wp2_with fail
  rw [rounds_succ]
  have kA0 : w1.cell? ⟨AB, 0, none⟩ = some (.func (.func 83) #[] #[.pointer (some ⟨QP, 0, none⟩)]) := (boxG (XA.out w1 (Below.refl _ _)) 0).1
  have kA1 : w1.cell? ⟨AB, 1, none⟩ = some (.func (.func 85) #[] #[.pointer (some ⟨QP, 0, none⟩)]) := (boxG (XA.out w1 (Below.refl _ _)) 1).1
  have kA2 : w1.cell? ⟨AB, 2, none⟩ = some (.func (.func 86) #[] #[.pointer (some ⟨QP, 0, none⟩)]) := (boxG (XA.out w1 (Below.refl _ _)) 2).1
  have kA3 : w1.cell? ⟨AB, 3, none⟩ = some (.func (.func 87) #[] #[.pointer (some ⟨QP, 0, none⟩)]) := (boxG (XA.out w1 (Below.refl _ _)) 3).1
  have kA4 : w1.cell? ⟨AB, 4, none⟩ = some (.func (.func 90) #[] #[.pointer (some ⟨QP, 0, none⟩)]) := (boxG (XA.out w1 (Below.refl _ _)) 4).1
  have kA5 : w1.cell? ⟨AB, 5, none⟩ = some (.func (.func 93) #[] #[.pointer (some ⟨QP, 0, none⟩), .pointer (some ⟨MP, 0, none⟩)]) := (boxG (XA.out w1 (Below.refl _ _)) 5).1
  have kA6 : w1.cell? ⟨AB, 6, none⟩ = some (.func (.func 95) #[] #[.pointer (some ⟨QP, 0, none⟩), .pointer (some ⟨MP, 0, none⟩)]) := (boxG (XA.out w1 (Below.refl _ _)) 6).1
  have kA7 : w1.cell? ⟨AB, 7, none⟩ = some (.func (.func 98) #[] #[.pointer (some ⟨MP, 0, none⟩), .pointer (some ⟨QP, 0, none⟩)]) := (boxG (XA.out w1 (Below.refl _ _)) 7).1
  have BP : Hid (Below w1.heap.size w1 w1) := Below.refl _ _
  go_wp2_with fail
  refine (ok2Impl QP _ _ _ _ _ _ _ _ _ _ _ _ _  _ (XQ.out _ (Below.refl _ _))).mono ?_
  rintro e w2 ⟨rfl, hb⟩
  have hq : Below w1.heap.size w1 w2 := BP.out.trans (Below.mono hb BP.out.size)
  replace B : Hid (∀ y, Below w2.heap.size w2 y → Below w.heap.size w y) := fun y hy => B.out y (hq.trans (hy.mono hq.size))
  replace XA : Hid (∀ y, Below w2.heap.size w2 y → y.heap[AB]? = some (.cells #[.func (.func 83) #[] #[.pointer (some ⟨QP, 0, none⟩)], .func (.func 85) #[] #[.pointer (some ⟨QP, 0, none⟩)], .func (.func 86) #[] #[.pointer (some ⟨QP, 0, none⟩)], .func (.func 87) #[] #[.pointer (some ⟨QP, 0, none⟩)], .func (.func 90) #[] #[.pointer (some ⟨QP, 0, none⟩)], .func (.func 93) #[] #[.pointer (some ⟨QP, 0, none⟩), .pointer (some ⟨MP, 0, none⟩)], .func (.func 95) #[] #[.pointer (some ⟨QP, 0, none⟩), .pointer (some ⟨MP, 0, none⟩)], .func (.func 98) #[] #[.pointer (some ⟨MP, 0, none⟩), .pointer (some ⟨QP, 0, none⟩)]] t (0, 0))) := fun y hy => XA.out y (hq.trans (hy.mono hq.size))
  replace lA : AB < w2.heap.size := Nat.lt_of_lt_of_le lA hq.size
  replace XM : Hid (∀ y, Below w2.heap.size w2 y → y.heap[MP]? = some (.cells #[.slice ca cn cc, .slice ma mn mc, .slice ca cn cc, .slice (some ⟨b1, p1, none⟩) xl xc, .slice fa fl fc, .slice da dl dc, .int .i64 st, .int .i64 en, .bool o0, .int .i64 o1] 96 (0, 0))) := fun y hy => XM.out y (hq.trans (hy.mono hq.size))
  replace lM : MP < w2.heap.size := Nat.lt_of_lt_of_le lM hq.size
  replace XQ : Hid (∀ y, Below w2.heap.size w2 y → y.heap[QP]? = some (.cells #[.slice (some ⟨b1, p1, none⟩) xl xc, .slice fa fl fc, .slice da dl dc, .int .i64 st, .int .i64 en, .bool o0, .int .i64 o1] 33 (0, 0))) := fun y hy => XQ.out y (hq.trans (hy.mono hq.size))
  replace lQ : QP < w2.heap.size := Nat.lt_of_lt_of_le lQ hq.size
  have zw2 : w1.heap.size ≤ w2.heap.size := hq.size
  clear hq BP
  clear kA0 kA1 kA2 kA3 kA4 kA5 kA6 kA7
  clear hb
  cases h1 : inI (xl : Int) 7 207
  · have H1 : Hid ((inI (xl : Int) 7 207) = false) := h1
    go_wp2_with fail
    go_ret
    exact ⟨by rw [H0.out, H1.out]; rfl, B.out _ (Below.refl _ _)⟩
  have H1 : Hid ((inI (xl : Int) 7 207) = true) := h1
  clear h1
  go_wp2_with fail
  rw [rounds_succ]
  have kA0 : w2.cell? ⟨AB, 0, none⟩ = some (.func (.func 83) #[] #[.pointer (some ⟨QP, 0, none⟩)]) := (boxG (XA.out w2 (Below.refl _ _)) 0).1
  have kA1 : w2.cell? ⟨AB, 1, none⟩ = some (.func (.func 85) #[] #[.pointer (some ⟨QP, 0, none⟩)]) := (boxG (XA.out w2 (Below.refl _ _)) 1).1
  have kA2 : w2.cell? ⟨AB, 2, none⟩ = some (.func (.func 86) #[] #[.pointer (some ⟨QP, 0, none⟩)]) := (boxG (XA.out w2 (Below.refl _ _)) 2).1
  have kA3 : w2.cell? ⟨AB, 3, none⟩ = some (.func (.func 87) #[] #[.pointer (some ⟨QP, 0, none⟩)]) := (boxG (XA.out w2 (Below.refl _ _)) 3).1
  have kA4 : w2.cell? ⟨AB, 4, none⟩ = some (.func (.func 90) #[] #[.pointer (some ⟨QP, 0, none⟩)]) := (boxG (XA.out w2 (Below.refl _ _)) 4).1
  have kA5 : w2.cell? ⟨AB, 5, none⟩ = some (.func (.func 93) #[] #[.pointer (some ⟨QP, 0, none⟩), .pointer (some ⟨MP, 0, none⟩)]) := (boxG (XA.out w2 (Below.refl _ _)) 5).1
  have kA6 : w2.cell? ⟨AB, 6, none⟩ = some (.func (.func 95) #[] #[.pointer (some ⟨QP, 0, none⟩), .pointer (some ⟨MP, 0, none⟩)]) := (boxG (XA.out w2 (Below.refl _ _)) 6).1
  have kA7 : w2.cell? ⟨AB, 7, none⟩ = some (.func (.func 98) #[] #[.pointer (some ⟨MP, 0, none⟩), .pointer (some ⟨QP, 0, none⟩)]) := (boxG (XA.out w2 (Below.refl _ _)) 7).1
  have BP : Hid (Below w2.heap.size w2 w2) := Below.refl _ _
  go_wp2_with fail
  refine (ok3Impl QP _ _ _ _ _ _ _ _ _ _ _ _ _  _ (XQ.out _ (Below.refl _ _))).mono ?_
  rintro e w3 ⟨rfl, hb⟩
  have hq : Below w2.heap.size w2 w3 := BP.out.trans (Below.mono hb BP.out.size)
  replace B : Hid (∀ y, Below w3.heap.size w3 y → Below w.heap.size w y) := fun y hy => B.out y (hq.trans (hy.mono hq.size))
  replace XA : Hid (∀ y, Below w3.heap.size w3 y → y.heap[AB]? = some (.cells #[.func (.func 83) #[] #[.pointer (some ⟨QP, 0, none⟩)], .func (.func 85) #[] #[.pointer (some ⟨QP, 0, none⟩)], .func (.func 86) #[] #[.pointer (some ⟨QP, 0, none⟩)], .func (.func 87) #[] #[.pointer (some ⟨QP, 0, none⟩)], .func (.func 90) #[] #[.pointer (some ⟨QP, 0, none⟩)], .func (.func 93) #[] #[.pointer (some ⟨QP, 0, none⟩), .pointer (some ⟨MP, 0, none⟩)], .func (.func 95) #[] #[.pointer (some ⟨QP, 0, none⟩), .pointer (some ⟨MP, 0, none⟩)], .func (.func 98) #[] #[.pointer (some ⟨MP, 0, none⟩), .pointer (some ⟨QP, 0, none⟩)]] t (0, 0))) := fun y hy => XA.out y (hq.trans (hy.mono hq.size))
  replace lA : AB < w3.heap.size := Nat.lt_of_lt_of_le lA hq.size
  replace XM : Hid (∀ y, Below w3.heap.size w3 y → y.heap[MP]? = some (.cells #[.slice ca cn cc, .slice ma mn mc, .slice ca cn cc, .slice (some ⟨b1, p1, none⟩) xl xc, .slice fa fl fc, .slice da dl dc, .int .i64 st, .int .i64 en, .bool o0, .int .i64 o1] 96 (0, 0))) := fun y hy => XM.out y (hq.trans (hy.mono hq.size))
  replace lM : MP < w3.heap.size := Nat.lt_of_lt_of_le lM hq.size
  replace XQ : Hid (∀ y, Below w3.heap.size w3 y → y.heap[QP]? = some (.cells #[.slice (some ⟨b1, p1, none⟩) xl xc, .slice fa fl fc, .slice da dl dc, .int .i64 st, .int .i64 en, .bool o0, .int .i64 o1] 33 (0, 0))) := fun y hy => XQ.out y (hq.trans (hy.mono hq.size))
  replace lQ : QP < w3.heap.size := Nat.lt_of_lt_of_le lQ hq.size
  have zw3 : w2.heap.size ≤ w3.heap.size := hq.size
  clear hq BP
  clear kA0 kA1 kA2 kA3 kA4 kA5 kA6 kA7
  clear hb
  cases h2 : (decide (fl ≤ 4) && decide (dl ≤ 200))
  · have H2 : Hid (((decide (fl ≤ 4) && decide (dl ≤ 200))) = false) := h2
    go_wp2_with fail
    go_ret
    exact ⟨by rw [H0.out, H1.out, H2.out]; rfl, B.out _ (Below.refl _ _)⟩
  have H2 : Hid (((decide (fl ≤ 4) && decide (dl ≤ 200))) = true) := h2
  clear h2
  go_wp2_with fail
  rw [rounds_succ]
  have kA0 : w3.cell? ⟨AB, 0, none⟩ = some (.func (.func 83) #[] #[.pointer (some ⟨QP, 0, none⟩)]) := (boxG (XA.out w3 (Below.refl _ _)) 0).1
  have kA1 : w3.cell? ⟨AB, 1, none⟩ = some (.func (.func 85) #[] #[.pointer (some ⟨QP, 0, none⟩)]) := (boxG (XA.out w3 (Below.refl _ _)) 1).1
  have kA2 : w3.cell? ⟨AB, 2, none⟩ = some (.func (.func 86) #[] #[.pointer (some ⟨QP, 0, none⟩)]) := (boxG (XA.out w3 (Below.refl _ _)) 2).1
  have kA3 : w3.cell? ⟨AB, 3, none⟩ = some (.func (.func 87) #[] #[.pointer (some ⟨QP, 0, none⟩)]) := (boxG (XA.out w3 (Below.refl _ _)) 3).1
  have kA4 : w3.cell? ⟨AB, 4, none⟩ = some (.func (.func 90) #[] #[.pointer (some ⟨QP, 0, none⟩)]) := (boxG (XA.out w3 (Below.refl _ _)) 4).1
  have kA5 : w3.cell? ⟨AB, 5, none⟩ = some (.func (.func 93) #[] #[.pointer (some ⟨QP, 0, none⟩), .pointer (some ⟨MP, 0, none⟩)]) := (boxG (XA.out w3 (Below.refl _ _)) 5).1
  have kA6 : w3.cell? ⟨AB, 6, none⟩ = some (.func (.func 95) #[] #[.pointer (some ⟨QP, 0, none⟩), .pointer (some ⟨MP, 0, none⟩)]) := (boxG (XA.out w3 (Below.refl _ _)) 6).1
  have kA7 : w3.cell? ⟨AB, 7, none⟩ = some (.func (.func 98) #[] #[.pointer (some ⟨MP, 0, none⟩), .pointer (some ⟨QP, 0, none⟩)]) := (boxG (XA.out w3 (Below.refl _ _)) 7).1
  have BP : Hid (Below w3.heap.size w3 w3) := Below.refl _ _
  go_wp2_with fail
  refine (ok4Impl QP _ _ _ _ _ _ _ _ _ _ _ _ _ _ Xs _ (HX.out.later (B.out _ (Below.refl _ _))) h7 hxc (XQ.out _ (Below.refl _ _))).mono ?_
  rintro e w4 ⟨rfl, hb⟩
  have hq : Below w3.heap.size w3 w4 := BP.out.trans (Below.mono hb BP.out.size)
  replace B : Hid (∀ y, Below w4.heap.size w4 y → Below w.heap.size w y) := fun y hy => B.out y (hq.trans (hy.mono hq.size))
  replace XA : Hid (∀ y, Below w4.heap.size w4 y → y.heap[AB]? = some (.cells #[.func (.func 83) #[] #[.pointer (some ⟨QP, 0, none⟩)], .func (.func 85) #[] #[.pointer (some ⟨QP, 0, none⟩)], .func (.func 86) #[] #[.pointer (some ⟨QP, 0, none⟩)], .func (.func 87) #[] #[.pointer (some ⟨QP, 0, none⟩)], .func (.func 90) #[] #[.pointer (some ⟨QP, 0, none⟩)], .func (.func 93) #[] #[.pointer (some ⟨QP, 0, none⟩), .pointer (some ⟨MP, 0, none⟩)], .func (.func 95) #[] #[.pointer (some ⟨QP, 0, none⟩), .pointer (some ⟨MP, 0, none⟩)], .func (.func 98) #[] #[.pointer (some ⟨MP, 0, none⟩), .pointer (some ⟨QP, 0, none⟩)]] t (0, 0))) := fun y hy => XA.out y (hq.trans (hy.mono hq.size))
  replace lA : AB < w4.heap.size := Nat.lt_of_lt_of_le lA hq.size
  replace XM : Hid (∀ y, Below w4.heap.size w4 y → y.heap[MP]? = some (.cells #[.slice ca cn cc, .slice ma mn mc, .slice ca cn cc, .slice (some ⟨b1, p1, none⟩) xl xc, .slice fa fl fc, .slice da dl dc, .int .i64 st, .int .i64 en, .bool o0, .int .i64 o1] 96 (0, 0))) := fun y hy => XM.out y (hq.trans (hy.mono hq.size))
  replace lM : MP < w4.heap.size := Nat.lt_of_lt_of_le lM hq.size
  replace XQ : Hid (∀ y, Below w4.heap.size w4 y → y.heap[QP]? = some (.cells #[.slice (some ⟨b1, p1, none⟩) xl xc, .slice fa fl fc, .slice da dl dc, .int .i64 st, .int .i64 en, .bool o0, .int .i64 o1] 33 (0, 0))) := fun y hy => XQ.out y (hq.trans (hy.mono hq.size))
  replace lQ : QP < w4.heap.size := Nat.lt_of_lt_of_le lQ hq.size
  have zw4 : w3.heap.size ≤ w4.heap.size := hq.size
  clear hq BP
  clear kA0 kA1 kA2 kA3 kA4 kA5 kA6 kA7
  clear hb
  cases h3 : ((Xs.take 7).all (fun o : Ob => o.1 == 1))
  · have H3 : Hid ((((Xs.take 7).all (fun o : Ob => o.1 == 1))) = false) := h3
    go_wp2_with fail
    go_ret
    exact ⟨by rw [H0.out, H1.out, H2.out, H3.out]; rfl, B.out _ (Below.refl _ _)⟩
  have H3 : Hid ((((Xs.take 7).all (fun o : Ob => o.1 == 1))) = true) := h3
  clear h3
  go_wp2_with fail
  rw [rounds_succ]
  have kA0 : w4.cell? ⟨AB, 0, none⟩ = some (.func (.func 83) #[] #[.pointer (some ⟨QP, 0, none⟩)]) := (boxG (XA.out w4 (Below.refl _ _)) 0).1
  have kA1 : w4.cell? ⟨AB, 1, none⟩ = some (.func (.func 85) #[] #[.pointer (some ⟨QP, 0, none⟩)]) := (boxG (XA.out w4 (Below.refl _ _)) 1).1
  have kA2 : w4.cell? ⟨AB, 2, none⟩ = some (.func (.func 86) #[] #[.pointer (some ⟨QP, 0, none⟩)]) := (boxG (XA.out w4 (Below.refl _ _)) 2).1
  have kA3 : w4.cell? ⟨AB, 3, none⟩ = some (.func (.func 87) #[] #[.pointer (some ⟨QP, 0, none⟩)]) := (boxG (XA.out w4 (Below.refl _ _)) 3).1
  have kA4 : w4.cell? ⟨AB, 4, none⟩ = some (.func (.func 90) #[] #[.pointer (some ⟨QP, 0, none⟩)]) := (boxG (XA.out w4 (Below.refl _ _)) 4).1
  have kA5 : w4.cell? ⟨AB, 5, none⟩ = some (.func (.func 93) #[] #[.pointer (some ⟨QP, 0, none⟩), .pointer (some ⟨MP, 0, none⟩)]) := (boxG (XA.out w4 (Below.refl _ _)) 5).1
  have kA6 : w4.cell? ⟨AB, 6, none⟩ = some (.func (.func 95) #[] #[.pointer (some ⟨QP, 0, none⟩), .pointer (some ⟨MP, 0, none⟩)]) := (boxG (XA.out w4 (Below.refl _ _)) 6).1
  have kA7 : w4.cell? ⟨AB, 7, none⟩ = some (.func (.func 98) #[] #[.pointer (some ⟨MP, 0, none⟩), .pointer (some ⟨QP, 0, none⟩)]) := (boxG (XA.out w4 (Below.refl _ _)) 7).1
  have BP : Hid (Below w4.heap.size w4 w4) := Below.refl _ _
  go_wp2_with fail
  refine (ok5Impl QP _ _ _ _ _ _ _ _ _ _ _ _ _  Sd _ (HSd.out.later (B.out _ (Below.refl _ _))) (XQ.out _ (Below.refl _ _))).mono ?_
  rintro e w5 ⟨rfl, hb⟩
  have hq : Below w4.heap.size w4 w5 := BP.out.trans (Below.mono hb BP.out.size)
  replace B : Hid (∀ y, Below w5.heap.size w5 y → Below w.heap.size w y) := fun y hy => B.out y (hq.trans (hy.mono hq.size))
  replace XA : Hid (∀ y, Below w5.heap.size w5 y → y.heap[AB]? = some (.cells #[.func (.func 83) #[] #[.pointer (some ⟨QP, 0, none⟩)], .func (.func 85) #[] #[.pointer (some ⟨QP, 0, none⟩)], .func (.func 86) #[] #[.pointer (some ⟨QP, 0, none⟩)], .func (.func 87) #[] #[.pointer (some ⟨QP, 0, none⟩)], .func (.func 90) #[] #[.pointer (some ⟨QP, 0, none⟩)], .func (.func 93) #[] #[.pointer (some ⟨QP, 0, none⟩), .pointer (some ⟨MP, 0, none⟩)], .func (.func 95) #[] #[.pointer (some ⟨QP, 0, none⟩), .pointer (some ⟨MP, 0, none⟩)], .func (.func 98) #[] #[.pointer (some ⟨MP, 0, none⟩), .pointer (some ⟨QP, 0, none⟩)]] t (0, 0))) := fun y hy => XA.out y (hq.trans (hy.mono hq.size))
  replace lA : AB < w5.heap.size := Nat.lt_of_lt_of_le lA hq.size
  replace XM : Hid (∀ y, Below w5.heap.size w5 y → y.heap[MP]? = some (.cells #[.slice ca cn cc, .slice ma mn mc, .slice ca cn cc, .slice (some ⟨b1, p1, none⟩) xl xc, .slice fa fl fc, .slice da dl dc, .int .i64 st, .int .i64 en, .bool o0, .int .i64 o1] 96 (0, 0))) := fun y hy => XM.out y (hq.trans (hy.mono hq.size))
  replace lM : MP < w5.heap.size := Nat.lt_of_lt_of_le lM hq.size
  replace XQ : Hid (∀ y, Below w5.heap.size w5 y → y.heap[QP]? = some (.cells #[.slice (some ⟨b1, p1, none⟩) xl xc, .slice fa fl fc, .slice da dl dc, .int .i64 st, .int .i64 en, .bool o0, .int .i64 o1] 33 (0, 0))) := fun y hy => XQ.out y (hq.trans (hy.mono hq.size))
  replace lQ : QP < w5.heap.size := Nat.lt_of_lt_of_le lQ hq.size
  have zw5 : w4.heap.size ≤ w5.heap.size := hq.size
  clear hq BP
  clear kA0 kA1 kA2 kA3 kA4 kA5 kA6 kA7
  clear hb
  cases h4 : Sd.all (fun d => inI d (-128) 127)
  · have H4 : Hid ((Sd.all (fun d => inI d (-128) 127)) = false) := h4
    go_wp2_with fail
    go_ret
    exact ⟨by rw [H0.out, H1.out, H2.out, H3.out, H4.out]; rfl, B.out _ (Below.refl _ _)⟩
  have H4 : Hid ((Sd.all (fun d => inI d (-128) 127)) = true) := h4
  clear h4
  go_wp2_with fail
  rw [rounds_succ]
  have kA0 : w5.cell? ⟨AB, 0, none⟩ = some (.func (.func 83) #[] #[.pointer (some ⟨QP, 0, none⟩)]) := (boxG (XA.out w5 (Below.refl _ _)) 0).1
  have kA1 : w5.cell? ⟨AB, 1, none⟩ = some (.func (.func 85) #[] #[.pointer (some ⟨QP, 0, none⟩)]) := (boxG (XA.out w5 (Below.refl _ _)) 1).1
  have kA2 : w5.cell? ⟨AB, 2, none⟩ = some (.func (.func 86) #[] #[.pointer (some ⟨QP, 0, none⟩)]) := (boxG (XA.out w5 (Below.refl _ _)) 2).1
  have kA3 : w5.cell? ⟨AB, 3, none⟩ = some (.func (.func 87) #[] #[.pointer (some ⟨QP, 0, none⟩)]) := (boxG (XA.out w5 (Below.refl _ _)) 3).1
  have kA4 : w5.cell? ⟨AB, 4, none⟩ = some (.func (.func 90) #[] #[.pointer (some ⟨QP, 0, none⟩)]) := (boxG (XA.out w5 (Below.refl _ _)) 4).1
  have kA5 : w5.cell? ⟨AB, 5, none⟩ = some (.func (.func 93) #[] #[.pointer (some ⟨QP, 0, none⟩), .pointer (some ⟨MP, 0, none⟩)]) := (boxG (XA.out w5 (Below.refl _ _)) 5).1
  have kA6 : w5.cell? ⟨AB, 6, none⟩ = some (.func (.func 95) #[] #[.pointer (some ⟨QP, 0, none⟩), .pointer (some ⟨MP, 0, none⟩)]) := (boxG (XA.out w5 (Below.refl _ _)) 6).1
  have kA7 : w5.cell? ⟨AB, 7, none⟩ = some (.func (.func 98) #[] #[.pointer (some ⟨MP, 0, none⟩), .pointer (some ⟨QP, 0, none⟩)]) := (boxG (XA.out w5 (Below.refl _ _)) 7).1
  have BP : Hid (Below w5.heap.size w5 w5) := Below.refl _ _
  go_wp2_with fail
  refine (ok6Impl _ _ _ _ _ _ _ _ _ _ _ _ _ _ _ _ _ _ _  MP QP Xs L _ (H.out.later (B.out _ (Below.refl _ _))) ok (HX.out.later (B.out _ (Below.refl _ _))) (XM.out _ (Below.refl _ _)) (XQ.out _ (Below.refl _ _))).mono ?_
  rintro e w6 ⟨rfl, hb⟩
  have hq : Below w5.heap.size w5 w6 := BP.out.trans (Below.mono hb BP.out.size)
  replace B : Hid (∀ y, Below w6.heap.size w6 y → Below w.heap.size w y) := fun y hy => B.out y (hq.trans (hy.mono hq.size))
  replace XA : Hid (∀ y, Below w6.heap.size w6 y → y.heap[AB]? = some (.cells #[.func (.func 83) #[] #[.pointer (some ⟨QP, 0, none⟩)], .func (.func 85) #[] #[.pointer (some ⟨QP, 0, none⟩)], .func (.func 86) #[] #[.pointer (some ⟨QP, 0, none⟩)], .func (.func 87) #[] #[.pointer (some ⟨QP, 0, none⟩)], .func (.func 90) #[] #[.pointer (some ⟨QP, 0, none⟩)], .func (.func 93) #[] #[.pointer (some ⟨QP, 0, none⟩), .pointer (some ⟨MP, 0, none⟩)], .func (.func 95) #[] #[.pointer (some ⟨QP, 0, none⟩), .pointer (some ⟨MP, 0, none⟩)], .func (.func 98) #[] #[.pointer (some ⟨MP, 0, none⟩), .pointer (some ⟨QP, 0, none⟩)]] t (0, 0))) := fun y hy => XA.out y (hq.trans (hy.mono hq.size))
  replace lA : AB < w6.heap.size := Nat.lt_of_lt_of_le lA hq.size
  replace XM : Hid (∀ y, Below w6.heap.size w6 y → y.heap[MP]? = some (.cells #[.slice ca cn cc, .slice ma mn mc, .slice ca cn cc, .slice (some ⟨b1, p1, none⟩) xl xc, .slice fa fl fc, .slice da dl dc, .int .i64 st, .int .i64 en, .bool o0, .int .i64 o1] 96 (0, 0))) := fun y hy => XM.out y (hq.trans (hy.mono hq.size))
  replace lM : MP < w6.heap.size := Nat.lt_of_lt_of_le lM hq.size
  replace XQ : Hid (∀ y, Below w6.heap.size w6 y → y.heap[QP]? = some (.cells #[.slice (some ⟨b1, p1, none⟩) xl xc, .slice fa fl fc, .slice da dl dc, .int .i64 st, .int .i64 en, .bool o0, .int .i64 o1] 33 (0, 0))) := fun y hy => XQ.out y (hq.trans (hy.mono hq.size))
  replace lQ : QP < w6.heap.size := Nat.lt_of_lt_of_le lQ hq.size
  have zw6 : w5.heap.size ≤ w6.heap.size := hq.size
  clear hq BP
  clear kA0 kA1 kA2 kA3 kA4 kA5 kA6 kA7
  clear hb
  cases h5 : Xs.all (objM L xl)
  · have H5 : Hid ((Xs.all (objM L xl)) = false) := h5
    go_wp2_with fail
    go_ret
    exact ⟨by rw [H0.out, H1.out, H2.out, H3.out, H4.out, H5.out]; rfl, B.out _ (Below.refl _ _)⟩
  have H5 : Hid ((Xs.all (objM L xl)) = true) := h5
  clear h5
  go_wp2_with fail
  rw [rounds_succ]
  have kA0 : w6.cell? ⟨AB, 0, none⟩ = some (.func (.func 83) #[] #[.pointer (some ⟨QP, 0, none⟩)]) := (boxG (XA.out w6 (Below.refl _ _)) 0).1
  have kA1 : w6.cell? ⟨AB, 1, none⟩ = some (.func (.func 85) #[] #[.pointer (some ⟨QP, 0, none⟩)]) := (boxG (XA.out w6 (Below.refl _ _)) 1).1
  have kA2 : w6.cell? ⟨AB, 2, none⟩ = some (.func (.func 86) #[] #[.pointer (some ⟨QP, 0, none⟩)]) := (boxG (XA.out w6 (Below.refl _ _)) 2).1
  have kA3 : w6.cell? ⟨AB, 3, none⟩ = some (.func (.func 87) #[] #[.pointer (some ⟨QP, 0, none⟩)]) := (boxG (XA.out w6 (Below.refl _ _)) 3).1
  have kA4 : w6.cell? ⟨AB, 4, none⟩ = some (.func (.func 90) #[] #[.pointer (some ⟨QP, 0, none⟩)]) := (boxG (XA.out w6 (Below.refl _ _)) 4).1
  have kA5 : w6.cell? ⟨AB, 5, none⟩ = some (.func (.func 93) #[] #[.pointer (some ⟨QP, 0, none⟩), .pointer (some ⟨MP, 0, none⟩)]) := (boxG (XA.out w6 (Below.refl _ _)) 5).1
  have kA6 : w6.cell? ⟨AB, 6, none⟩ = some (.func (.func 95) #[] #[.pointer (some ⟨QP, 0, none⟩), .pointer (some ⟨MP, 0, none⟩)]) := (boxG (XA.out w6 (Below.refl _ _)) 6).1
  have kA7 : w6.cell? ⟨AB, 7, none⟩ = some (.func (.func 98) #[] #[.pointer (some ⟨MP, 0, none⟩), .pointer (some ⟨QP, 0, none⟩)]) := (boxG (XA.out w6 (Below.refl _ _)) 7).1
  have BP : Hid (Below w6.heap.size w6 w6) := Below.refl _ _
  go_wp2_with fail
  refine (ok7Impl _ _ _ _ _ _ _ _ _ _ _ _ _ _ _ _ _ _ _  MP QP Fs M _ (HMe.out.later (B.out _ (Below.refl _ _))) (HFr.out.later (B.out _ (Below.refl _ _))) (XM.out _ (Below.refl _ _)) (XQ.out _ (Below.refl _ _))).mono ?_
  rintro e w7 ⟨rfl, hb⟩
  have hq : Below w6.heap.size w6 w7 := BP.out.trans (Below.mono hb BP.out.size)
  replace B : Hid (∀ y, Below w7.heap.size w7 y → Below w.heap.size w y) := fun y hy => B.out y (hq.trans (hy.mono hq.size))
  replace XA : Hid (∀ y, Below w7.heap.size w7 y → y.heap[AB]? = some (.cells #[.func (.func 83) #[] #[.pointer (some ⟨QP, 0, none⟩)], .func (.func 85) #[] #[.pointer (some ⟨QP, 0, none⟩)], .func (.func 86) #[] #[.pointer (some ⟨QP, 0, none⟩)], .func (.func 87) #[] #[.pointer (some ⟨QP, 0, none⟩)], .func (.func 90) #[] #[.pointer (some ⟨QP, 0, none⟩)], .func (.func 93) #[] #[.pointer (some ⟨QP, 0, none⟩), .pointer (some ⟨MP, 0, none⟩)], .func (.func 95) #[] #[.pointer (some ⟨QP, 0, none⟩), .pointer (some ⟨MP, 0, none⟩)], .func (.func 98) #[] #[.pointer (some ⟨MP, 0, none⟩), .pointer (some ⟨QP, 0, none⟩)]] t (0, 0))) := fun y hy => XA.out y (hq.trans (hy.mono hq.size))
  replace lA : AB < w7.heap.size := Nat.lt_of_lt_of_le lA hq.size
  replace XM : Hid (∀ y, Below w7.heap.size w7 y → y.heap[MP]? = some (.cells #[.slice ca cn cc, .slice ma mn mc, .slice ca cn cc, .slice (some ⟨b1, p1, none⟩) xl xc, .slice fa fl fc, .slice da dl dc, .int .i64 st, .int .i64 en, .bool o0, .int .i64 o1] 96 (0, 0))) := fun y hy => XM.out y (hq.trans (hy.mono hq.size))
  replace lM : MP < w7.heap.size := Nat.lt_of_lt_of_le lM hq.size
  replace XQ : Hid (∀ y, Below w7.heap.size w7 y → y.heap[QP]? = some (.cells #[.slice (some ⟨b1, p1, none⟩) xl xc, .slice fa fl fc, .slice da dl dc, .int .i64 st, .int .i64 en, .bool o0, .int .i64 o1] 33 (0, 0))) := fun y hy => XQ.out y (hq.trans (hy.mono hq.size))
  replace lQ : QP < w7.heap.size := Nat.lt_of_lt_of_le lQ hq.size
  have zw7 : w6.heap.size ≤ w7.heap.size := hq.size
  clear hq BP
  clear kA0 kA1 kA2 kA3 kA4 kA5 kA6 kA7
  clear hb
  cases h6 : Fs.all (frM M xl)
  · have H6 : Hid ((Fs.all (frM M xl)) = false) := h6
    go_wp2_with fail
    go_ret
    exact ⟨by rw [H0.out, H1.out, H2.out, H3.out, H4.out, H5.out, H6.out]; rfl, B.out _ (Below.refl _ _)⟩
  have H6 : Hid ((Fs.all (frM M xl)) = true) := h6
  clear h6
  go_wp2_with fail
  rw [rounds_succ]
  have kA0 : w7.cell? ⟨AB, 0, none⟩ = some (.func (.func 83) #[] #[.pointer (some ⟨QP, 0, none⟩)]) := (boxG (XA.out w7 (Below.refl _ _)) 0).1
  have kA1 : w7.cell? ⟨AB, 1, none⟩ = some (.func (.func 85) #[] #[.pointer (some ⟨QP, 0, none⟩)]) := (boxG (XA.out w7 (Below.refl _ _)) 1).1
  have kA2 : w7.cell? ⟨AB, 2, none⟩ = some (.func (.func 86) #[] #[.pointer (some ⟨QP, 0, none⟩)]) := (boxG (XA.out w7 (Below.refl _ _)) 2).1
  have kA3 : w7.cell? ⟨AB, 3, none⟩ = some (.func (.func 87) #[] #[.pointer (some ⟨QP, 0, none⟩)]) := (boxG (XA.out w7 (Below.refl _ _)) 3).1
  have kA4 : w7.cell? ⟨AB, 4, none⟩ = some (.func (.func 90) #[] #[.pointer (some ⟨QP, 0, none⟩)]) := (boxG (XA.out w7 (Below.refl _ _)) 4).1
  have kA5 : w7.cell? ⟨AB, 5, none⟩ = some (.func (.func 93) #[] #[.pointer (some ⟨QP, 0, none⟩), .pointer (some ⟨MP, 0, none⟩)]) := (boxG (XA.out w7 (Below.refl _ _)) 5).1
  have kA6 : w7.cell? ⟨AB, 6, none⟩ = some (.func (.func 95) #[] #[.pointer (some ⟨QP, 0, none⟩), .pointer (some ⟨MP, 0, none⟩)]) := (boxG (XA.out w7 (Below.refl _ _)) 6).1
  have kA7 : w7.cell? ⟨AB, 7, none⟩ = some (.func (.func 98) #[] #[.pointer (some ⟨MP, 0, none⟩), .pointer (some ⟨QP, 0, none⟩)]) := (boxG (XA.out w7 (Below.refl _ _)) 7).1
  have BP : Hid (Below w7.heap.size w7 w7) := Below.refl _ _
  go_wp2_with fail
  refine (ok8Impl _ _ _ _ _ _ _ _ _ _ _ _ _ _ _ _ _ _ _  MP QP _ (XM.out _ (Below.refl _ _)) (XQ.out _ (Below.refl _ _))).mono ?_
  rintro e w8 ⟨rfl, hb⟩
  have hq : Below w7.heap.size w7 w8 := BP.out.trans (Below.mono hb BP.out.size)
  replace B : Hid (∀ y, Below w8.heap.size w8 y → Below w.heap.size w y) := fun y hy => B.out y (hq.trans (hy.mono hq.size))
  replace XA : Hid (∀ y, Below w8.heap.size w8 y → y.heap[AB]? = some (.cells #[.func (.func 83) #[] #[.pointer (some ⟨QP, 0, none⟩)], .func (.func 85) #[] #[.pointer (some ⟨QP, 0, none⟩)], .func (.func 86) #[] #[.pointer (some ⟨QP, 0, none⟩)], .func (.func 87) #[] #[.pointer (some ⟨QP, 0, none⟩)], .func (.func 90) #[] #[.pointer (some ⟨QP, 0, none⟩)], .func (.func 93) #[] #[.pointer (some ⟨QP, 0, none⟩), .pointer (some ⟨MP, 0, none⟩)], .func (.func 95) #[] #[.pointer (some ⟨QP, 0, none⟩), .pointer (some ⟨MP, 0, none⟩)], .func (.func 98) #[] #[.pointer (some ⟨MP, 0, none⟩), .pointer (some ⟨QP, 0, none⟩)]] t (0, 0))) := fun y hy => XA.out y (hq.trans (hy.mono hq.size))
  replace lA : AB < w8.heap.size := Nat.lt_of_lt_of_le lA hq.size
  replace XM : Hid (∀ y, Below w8.heap.size w8 y → y.heap[MP]? = some (.cells #[.slice ca cn cc, .slice ma mn mc, .slice ca cn cc, .slice (some ⟨b1, p1, none⟩) xl xc, .slice fa fl fc, .slice da dl dc, .int .i64 st, .int .i64 en, .bool o0, .int .i64 o1] 96 (0, 0))) := fun y hy => XM.out y (hq.trans (hy.mono hq.size))
  replace lM : MP < w8.heap.size := Nat.lt_of_lt_of_le lM hq.size
  replace XQ : Hid (∀ y, Below w8.heap.size w8 y → y.heap[QP]? = some (.cells #[.slice (some ⟨b1, p1, none⟩) xl xc, .slice fa fl fc, .slice da dl dc, .int .i64 st, .int .i64 en, .bool o0, .int .i64 o1] 33 (0, 0))) := fun y hy => XQ.out y (hq.trans (hy.mono hq.size))
  replace lQ : QP < w8.heap.size := Nat.lt_of_lt_of_le lQ hq.size
  have zw8 : w7.heap.size ≤ w8.heap.size := hq.size
  clear hq BP
  clear kA0 kA1 kA2 kA3 kA4 kA5 kA6 kA7
  clear hb
  cases h7 : (valM xl (o0, o1) && endI fl en o0 o1)
  · have H7 : Hid (((valM xl (o0, o1) && endI fl en o0 o1)) = false) := h7
    go_wp2_with fail
    go_ret
    exact ⟨by rw [H0.out, H1.out, H2.out, H3.out, H4.out, H5.out, H6.out, H7.out]; rfl, B.out _ (Below.refl _ _)⟩
  have H7 : Hid (((valM xl (o0, o1) && endI fl en o0 o1)) = true) := h7
  clear h7
  go_wp2_with fail
  rw [rounds_succ]
  have kA0 : w8.cell? ⟨AB, 0, none⟩ = some (.func (.func 83) #[] #[.pointer (some ⟨QP, 0, none⟩)]) := (boxG (XA.out w8 (Below.refl _ _)) 0).1
  have kA1 : w8.cell? ⟨AB, 1, none⟩ = some (.func (.func 85) #[] #[.pointer (some ⟨QP, 0, none⟩)]) := (boxG (XA.out w8 (Below.refl _ _)) 1).1
  have kA2 : w8.cell? ⟨AB, 2, none⟩ = some (.func (.func 86) #[] #[.pointer (some ⟨QP, 0, none⟩)]) := (boxG (XA.out w8 (Below.refl _ _)) 2).1
  have kA3 : w8.cell? ⟨AB, 3, none⟩ = some (.func (.func 87) #[] #[.pointer (some ⟨QP, 0, none⟩)]) := (boxG (XA.out w8 (Below.refl _ _)) 3).1
  have kA4 : w8.cell? ⟨AB, 4, none⟩ = some (.func (.func 90) #[] #[.pointer (some ⟨QP, 0, none⟩)]) := (boxG (XA.out w8 (Below.refl _ _)) 4).1
  have kA5 : w8.cell? ⟨AB, 5, none⟩ = some (.func (.func 93) #[] #[.pointer (some ⟨QP, 0, none⟩), .pointer (some ⟨MP, 0, none⟩)]) := (boxG (XA.out w8 (Below.refl _ _)) 5).1
  have kA6 : w8.cell? ⟨AB, 6, none⟩ = some (.func (.func 95) #[] #[.pointer (some ⟨QP, 0, none⟩), .pointer (some ⟨MP, 0, none⟩)]) := (boxG (XA.out w8 (Below.refl _ _)) 6).1
  have kA7 : w8.cell? ⟨AB, 7, none⟩ = some (.func (.func 98) #[] #[.pointer (some ⟨MP, 0, none⟩), .pointer (some ⟨QP, 0, none⟩)]) := (boxG (XA.out w8 (Below.refl _ _)) 7).1
  go_wp2_with fail
  go_ret
  exact ⟨by rw [H0.out, H1.out, H2.out, H3.out, H4.out, H5.out, H6.out, H7.out]; rfl, B.out _ (Below.refl _ _)⟩
set_option maxRecDepth 100000 in
set_option maxHeartbeats 4000000 in
theorem allOk0 (AB MP QP : Nat) (t : TypeId) (xa : Option Addr) (xl xc : Nat) (fa : Option Addr) (fl fc : Nat) (da : Option Addr) (dl dc : Nat) (st en : Int) (o0 : Bool) (o1 : Int) (w : World) (hi : inI (xl : Int) 7 207 = false) (hQ : w.heap[QP]? = some (.cells #[.slice xa xl xc, .slice fa fl fc, .slice da dl dc, .int .i64 st, .int .i64 en, .bool o0, .int .i64 o1] 33 (0, 0))) (hA : w.heap[AB]? = some (.cells #[.func (.func 83) #[] #[.pointer (some ⟨QP, 0, none⟩)], .func (.func 85) #[] #[.pointer (some ⟨QP, 0, none⟩)], .func (.func 86) #[] #[.pointer (some ⟨QP, 0, none⟩)], .func (.func 87) #[] #[.pointer (some ⟨QP, 0, none⟩)], .func (.func 90) #[] #[.pointer (some ⟨QP, 0, none⟩)], .func (.func 93) #[] #[.pointer (some ⟨QP, 0, none⟩), .pointer (some ⟨MP, 0, none⟩)], .func (.func 95) #[] #[.pointer (some ⟨QP, 0, none⟩), .pointer (some ⟨MP, 0, none⟩)], .func (.func 98) #[] #[.pointer (some ⟨MP, 0, none⟩), .pointer (some ⟨QP, 0, none⟩)]] t (0, 0))) :
    Calls Tryz.prog 82 #[.slice (some ⟨AB, 0, none⟩) 8 8] w fun e w' => e = .returned (.bool false) ∧ Below w.heap.size w w' := by
  have HI : Hid (inI (xl : Int) 7 207 = false) := hi
  clear hi
  have B : Hid (∀ y, Below w.heap.size w y → Below w.heap.size w y) := fun _ h => h
  have lA : AB < w.heap.size := (Array.getElem?_eq_some_iff.1 hA).1
  have XA : Hid (∀ y, Below w.heap.size w y → y.heap[AB]? = some (.cells #[.func (.func 83) #[] #[.pointer (some ⟨QP, 0, none⟩)], .func (.func 85) #[] #[.pointer (some ⟨QP, 0, none⟩)], .func (.func 86) #[] #[.pointer (some ⟨QP, 0, none⟩)], .func (.func 87) #[] #[.pointer (some ⟨QP, 0, none⟩)], .func (.func 90) #[] #[.pointer (some ⟨QP, 0, none⟩)], .func (.func 93) #[] #[.pointer (some ⟨QP, 0, none⟩), .pointer (some ⟨MP, 0, none⟩)], .func (.func 95) #[] #[.pointer (some ⟨QP, 0, none⟩), .pointer (some ⟨MP, 0, none⟩)], .func (.func 98) #[] #[.pointer (some ⟨MP, 0, none⟩), .pointer (some ⟨QP, 0, none⟩)]] t (0, 0))) := fun y hy => (hy.block _ lA).trans hA
  have lQ : QP < w.heap.size := (Array.getElem?_eq_some_iff.1 hQ).1
  have XQ : Hid (∀ y, Below w.heap.size w y → y.heap[QP]? = some (.cells #[.slice xa xl xc, .slice fa fl fc, .slice da dl dc, .int .i64 st, .int .i64 en, .bool o0, .int .i64 o1] 33 (0, 0))) := fun y hy => (hy.block _ lQ).trans hQ
  clear hA hQ
  go_enter Tryz.func82, Tryz.ntmps82
  go_wp2_with fail
  refine wp_loop_rounds 2 ?_
  rw [rounds_succ]
  have kA0 : w.cell? ⟨AB, 0, none⟩ = some (.func (.func 83) #[] #[.pointer (some ⟨QP, 0, none⟩)]) := (boxG (XA.out w (Below.refl _ _)) 0).1
  have kA1 : w.cell? ⟨AB, 1, none⟩ = some (.func (.func 85) #[] #[.pointer (some ⟨QP, 0, none⟩)]) := (boxG (XA.out w (Below.refl _ _)) 1).1
  have kA2 : w.cell? ⟨AB, 2, none⟩ = some (.func (.func 86) #[] #[.pointer (some ⟨QP, 0, none⟩)]) := (boxG (XA.out w (Below.refl _ _)) 2).1
  have kA3 : w.cell? ⟨AB, 3, none⟩ = some (.func (.func 87) #[] #[.pointer (some ⟨QP, 0, none⟩)]) := (boxG (XA.out w (Below.refl _ _)) 3).1
  have kA4 : w.cell? ⟨AB, 4, none⟩ = some (.func (.func 90) #[] #[.pointer (some ⟨QP, 0, none⟩)]) := (boxG (XA.out w (Below.refl _ _)) 4).1
  have kA5 : w.cell? ⟨AB, 5, none⟩ = some (.func (.func 93) #[] #[.pointer (some ⟨QP, 0, none⟩), .pointer (some ⟨MP, 0, none⟩)]) := (boxG (XA.out w (Below.refl _ _)) 5).1
  have kA6 : w.cell? ⟨AB, 6, none⟩ = some (.func (.func 95) #[] #[.pointer (some ⟨QP, 0, none⟩), .pointer (some ⟨MP, 0, none⟩)]) := (boxG (XA.out w (Below.refl _ _)) 6).1
  have kA7 : w.cell? ⟨AB, 7, none⟩ = some (.func (.func 98) #[] #[.pointer (some ⟨MP, 0, none⟩), .pointer (some ⟨QP, 0, none⟩)]) := (boxG (XA.out w (Below.refl _ _)) 7).1
  have BP : Hid (Below w.heap.size w w) := Below.refl _ _
  go_wp2_with fail
  refine (ok1Impl QP _ _ _ _ _ _ _ _ _ _ _ _ _  _ (XQ.out _ (Below.refl _ _))).mono ?_
  rintro e w1 ⟨rfl, hb⟩
  have hq : Below w.heap.size w w1 := BP.out.trans (Below.mono hb BP.out.size)
  replace B : Hid (∀ y, Below w1.heap.size w1 y → Below w.heap.size w y) := fun y hy => B.out y (hq.trans (hy.mono hq.size))
  replace XA : Hid (∀ y, Below w1.heap.size w1 y → y.heap[AB]? = some (.cells #[.func (.func 83) #[] #[.pointer (some ⟨QP, 0, none⟩)], .func (.func 85) #[] #[.pointer (some ⟨QP, 0, none⟩)], .func (.func 86) #[] #[.pointer (some ⟨QP, 0, none⟩)], .func (.func 87) #[] #[.pointer (some ⟨QP, 0, none⟩)], .func (.func 90) #[] #[.pointer (some ⟨QP, 0, none⟩)], .func (.func 93) #[] #[.pointer (some ⟨QP, 0, none⟩), .pointer (some ⟨MP, 0, none⟩)], .func (.func 95) #[] #[.pointer (some ⟨QP, 0, none⟩), .pointer (some ⟨MP, 0, none⟩)], .func (.func 98) #[] #[.pointer (some ⟨MP, 0, none⟩), .pointer (some ⟨QP, 0, none⟩)]] t (0, 0))) := fun y hy => XA.out y (hq.trans (hy.mono hq.size))
  replace lA : AB < w1.heap.size := Nat.lt_of_lt_of_le lA hq.size
  replace XQ : Hid (∀ y, Below w1.heap.size w1 y → y.heap[QP]? = some (.cells #[.slice xa xl xc, .slice fa fl fc, .slice da dl dc, .int .i64 st, .int .i64 en, .bool o0, .int .i64 o1] 33 (0, 0))) := fun y hy => XQ.out y (hq.trans (hy.mono hq.size))
  replace lQ : QP < w1.heap.size := Nat.lt_of_lt_of_le lQ hq.size
  have zw1 : w.heap.size ≤ w1.heap.size := hq.size
  clear hq BP
  clear kA0 kA1 kA2 kA3 kA4 kA5 kA6 kA7
  clear hb
  cases h0 : inI st 0 200
  · go_wp2_with fail
    go_ret
    exact ⟨rfl, B.out _ (Below.refl _ _)⟩
  clear h0
  go_wp2_with fail
  rw [rounds_succ]
  have kA0 : w1.cell? ⟨AB, 0, none⟩ = some (.func (.func 83) #[] #[.pointer (some ⟨QP, 0, none⟩)]) := (boxG (XA.out w1 (Below.refl _ _)) 0).1
  have kA1 : w1.cell? ⟨AB, 1, none⟩ = some (.func (.func 85) #[] #[.pointer (some ⟨QP, 0, none⟩)]) := (boxG (XA.out w1 (Below.refl _ _)) 1).1
  have kA2 : w1.cell? ⟨AB, 2, none⟩ = some (.func (.func 86) #[] #[.pointer (some ⟨QP, 0, none⟩)]) := (boxG (XA.out w1 (Below.refl _ _)) 2).1
  have kA3 : w1.cell? ⟨AB, 3, none⟩ = some (.func (.func 87) #[] #[.pointer (some ⟨QP, 0, none⟩)]) := (boxG (XA.out w1 (Below.refl _ _)) 3).1
  have kA4 : w1.cell? ⟨AB, 4, none⟩ = some (.func (.func 90) #[] #[.pointer (some ⟨QP, 0, none⟩)]) := (boxG (XA.out w1 (Below.refl _ _)) 4).1
  have kA5 : w1.cell? ⟨AB, 5, none⟩ = some (.func (.func 93) #[] #[.pointer (some ⟨QP, 0, none⟩), .pointer (some ⟨MP, 0, none⟩)]) := (boxG (XA.out w1 (Below.refl _ _)) 5).1
  have kA6 : w1.cell? ⟨AB, 6, none⟩ = some (.func (.func 95) #[] #[.pointer (some ⟨QP, 0, none⟩), .pointer (some ⟨MP, 0, none⟩)]) := (boxG (XA.out w1 (Below.refl _ _)) 6).1
  have kA7 : w1.cell? ⟨AB, 7, none⟩ = some (.func (.func 98) #[] #[.pointer (some ⟨MP, 0, none⟩), .pointer (some ⟨QP, 0, none⟩)]) := (boxG (XA.out w1 (Below.refl _ _)) 7).1
  have BP : Hid (Below w1.heap.size w1 w1) := Below.refl _ _
  go_wp2_with fail
  refine (ok2Impl QP _ _ _ _ _ _ _ _ _ _ _ _ _  _ (XQ.out _ (Below.refl _ _))).mono ?_
  rintro e w2 ⟨rfl, hb⟩
  have hq : Below w1.heap.size w1 w2 := BP.out.trans (Below.mono hb BP.out.size)
  replace B : Hid (∀ y, Below w2.heap.size w2 y → Below w.heap.size w y) := fun y hy => B.out y (hq.trans (hy.mono hq.size))
  replace XA : Hid (∀ y, Below w2.heap.size w2 y → y.heap[AB]? = some (.cells #[.func (.func 83) #[] #[.pointer (some ⟨QP, 0, none⟩)], .func (.func 85) #[] #[.pointer (some ⟨QP, 0, none⟩)], .func (.func 86) #[] #[.pointer (some ⟨QP, 0, none⟩)], .func (.func 87) #[] #[.pointer (some ⟨QP, 0, none⟩)], .func (.func 90) #[] #[.pointer (some ⟨QP, 0, none⟩)], .func (.func 93) #[] #[.pointer (some ⟨QP, 0, none⟩), .pointer (some ⟨MP, 0, none⟩)], .func (.func 95) #[] #[.pointer (some ⟨QP, 0, none⟩), .pointer (some ⟨MP, 0, none⟩)], .func (.func 98) #[] #[.pointer (some ⟨MP, 0, none⟩), .pointer (some ⟨QP, 0, none⟩)]] t (0, 0))) := fun y hy => XA.out y (hq.trans (hy.mono hq.size))
  replace lA : AB < w2.heap.size := Nat.lt_of_lt_of_le lA hq.size
  replace XQ : Hid (∀ y, Below w2.heap.size w2 y → y.heap[QP]? = some (.cells #[.slice xa xl xc, .slice fa fl fc, .slice da dl dc, .int .i64 st, .int .i64 en, .bool o0, .int .i64 o1] 33 (0, 0))) := fun y hy => XQ.out y (hq.trans (hy.mono hq.size))
  replace lQ : QP < w2.heap.size := Nat.lt_of_lt_of_le lQ hq.size
  have zw2 : w1.heap.size ≤ w2.heap.size := hq.size
  clear hq BP
  clear kA0 kA1 kA2 kA3 kA4 kA5 kA6 kA7
  clear hb
  rw [HI.out]
  go_wp2_with fail
  go_ret
  exact ⟨rfl, B.out _ (Below.refl _ _)⟩
/-- All that is asked behind the unit. -/
theorem obI_all {L : List Cl} {X : List Ob} : (List.range X.length).all (obI L X) = (X.all (objM L X.length) && (X.take 7).all (fun o : Ob => o.1 == 1)) := by
  rw [Bool.eq_iff_iff]
  simp only [Bool.and_eq_true, List.all_eq_true, List.mem_range]
  constructor
  · intro h
    refine ⟨fun x hx => ?_, fun x hx => ?_⟩
    · obtain ⟨i, hi⟩ := List.getElem?_of_mem hx
      have hl := (List.getElem?_eq_some_iff.1 hi).1
      have := h i hl
      rw [obI, ob, List.getD_eq_getElem?_getD, hi, Bool.and_eq_true] at this
      exact this.1
    · obtain ⟨i, hi⟩ := List.getElem?_of_mem hx
      rw [List.getElem?_take] at hi
      by_cases c : i < 7
      · rw [if_pos c] at hi
        have hl := (List.getElem?_eq_some_iff.1 hi).1
        have := h i hl
        rw [obI, ob, List.getD_eq_getElem?_getD, hi, Bool.and_eq_true, Bool.or_eq_true] at this
        rcases this.2 with k | k
        · simp at k; omega
        · exact k
      · rw [if_neg c] at hi; cases hi
  · rintro ⟨h1, h2⟩ i hi
    have e : X[i]? = some X[i] := List.getElem?_eq_getElem hi
    rw [obI, ob, List.getD_eq_getElem?_getD, e, Bool.and_eq_true, Bool.or_eq_true]
    refine ⟨h1 _ (List.getElem_mem hi), ?_⟩
    by_cases c : 7 ≤ i
    · exact .inl (by simpa using c)
    · exact .inr (h2 _ (List.mem_of_getElem? (i := i) (by rw [List.getElem?_take, if_pos (by omega)]; exact e)))
set_option maxRecDepth 100000 in
set_option maxHeartbeats 8000000 in
theorem machineOkImpl (ca : Option Addr) (cn cc : Nat) (ma : Option Addr) (mn mc : Nat) (xa : Option Addr) (xl xc : Nat) (fa : Option Addr) (fl fc : Nat) (da : Option Addr) (dl dc : Nat) (st en : Int) (o0 : Bool) (o1 : Int) (L : List Cl) (M : List Me) (Xs : List Ob) (Fs : List Fr) (Sd : List Int) (w : World) {D E G P R S : Nat → Prop} (h : ClsAt D E w ca cn L) (ok : clsOk L = true) (hMe : SlAt meR G w ma mn M) (hX : SlAt obR P w xa xl Xs) (hF : SlAt frR R w fa fl Fs) (hS : SlAt intR S w da dl Sd) (hxc : xl ≤ xc) (hu : unitB L M = true) :
    Calls Tryz.prog 54 #[.agg #[.slice ca cn cc, .slice ma mn mc, .slice ca cn cc, .slice xa xl xc, .slice fa fl fc, .slice da dl dc, .int .i64 st, .int .i64 en, .bool o0, .int .i64 o1]] w fun e w' => e = .returned (.bool (machM L M Xs Fs Sd st en o0 o1)) ∧ Below w.heap.size w w' := by
  cases hi : inI (xl : Int) 7 207
  · have HF : Hid (machM L M Xs Fs Sd st en o0 o1 = false) := by show _ = _; rw [machM, hX.size, hi]; simp
    have BX : Hid (∀ o : Obj, Below w.heap.size w (((w.alloc (.cells #[.slice ca cn cc, .slice ma mn mc, .slice ca cn cc, .slice xa xl xc, .slice fa fl fc, .slice da dl dc, .int .i64 st, .int .i64 en, .bool o0, .int .i64 o1] 96)).alloc (.cells #[.slice xa xl xc, .slice fa fl fc, .slice da dl dc, .int .i64 st, .int .i64 en, .bool o0, .int .i64 o1] 33)).alloc o)) := fun o => (((Below.refl _ _).alloc (Nat.le_refl _) _).alloc (by simp) _).alloc (by simp; omega) _
    have hmf : ∀ (fn : Fn) (first cap : Array Value) (w : World), (Instr.makeFunc fn first cap).run Tryz.prog w = .ok (.func fn first cap) w := fun _ _ _ _ => rfl
    clear h hMe hX hF hS
    go_enter Tryz.func54, Tryz.ntmps54
    go_wp2_with fail
    refine (allOk0 (w.heap.size + 1 + 1) w.heap.size (w.heap.size + 1) _ _ _ _ _ _ _ _ _ _ _ _ _ _  _ hi ((Below.heap_alloc _ _ _ (by simp)).trans (boxN _ _ _ _ (by simp))) (boxN _ _ _ _ (by simp))).mono ?_
    rintro e w1 ⟨rfl, hb⟩
    have B1 : Hid (Below w.heap.size w w1) := (BX.out _).trans (hb.mono (by simp; omega))
    clear hb
    go_wp2_with fail
    go_ret
    exact ⟨by rw [HF.out]; rfl, B1.out⟩
  have h7 : 7 ≤ xl := by unfold inI at hi; simp only [Bool.and_eq_true, decide_eq_true_eq] at hi; omega
  obtain ⟨b1, p1, rfl⟩ : ∃ b1 p1, xa = some ⟨b1, p1, none⟩ := by
    rcases hX.cells with h0 | ⟨b, off, e, _⟩
    · omega
    · exact ⟨b, off, e⟩
  have HF : Hid (machM L M Xs Fs Sd st en o0 o1 = (inI st 0 200 && (inI (xl : Int) 7 207 && ((decide (fl ≤ 4) && decide (dl ≤ 200)) && ((Xs.take 7).all (fun o : Ob => o.1 == 1) && (Sd.all (fun d => inI d (-128) 127) && (Xs.all (objM L xl) && (Fs.all (frM M xl) && (valM xl (o0, o1) && endI fl en o0 o1))))))))) := by
    show _ = _
    rw [machM, obI_all, hX.size, hF.size, hS.size, hu]
    cases hv : valM xl (o0, o1)
    · simp
    · rw [endI_M hv]
      cases inI st 0 200 <;> cases inI (xl : Int) 7 207 <;> cases decide (fl ≤ 4) <;> cases decide (dl ≤ 200) <;> cases (Xs.take 7).all (fun o : Ob => o.1 == 1) <;> cases Sd.all (fun d => inI d (-128) 127) <;> cases Xs.all (objM L xl) <;> cases Fs.all (frM M xl) <;> rfl
  have BX : Hid (∀ o : Obj, Below w.heap.size w (((w.alloc (.cells #[.slice ca cn cc, .slice ma mn mc, .slice ca cn cc, .slice (some ⟨b1, p1, none⟩) xl xc, .slice fa fl fc, .slice da dl dc, .int .i64 st, .int .i64 en, .bool o0, .int .i64 o1] 96)).alloc (.cells #[.slice (some ⟨b1, p1, none⟩) xl xc, .slice fa fl fc, .slice da dl dc, .int .i64 st, .int .i64 en, .bool o0, .int .i64 o1] 33)).alloc o)) := fun o => (((Below.refl _ _).alloc (Nat.le_refl _) _).alloc (by simp) _).alloc (by simp; omega) _
  have hmf : ∀ (fn : Fn) (first cap : Array Value) (w : World), (Instr.makeFunc fn first cap).run Tryz.prog w = .ok (.func fn first cap) w := fun _ _ _ _ => rfl
  have H : Hid (ClsAt D E w ca cn L) := h
  have HMe : Hid (SlAt meR G w ma mn M) := hMe
  have HX : Hid (SlAt obR P w (some ⟨b1, p1, none⟩) xl Xs) := hX
  have HFr : Hid (SlAt frR R w fa fl Fs) := hF
  have HSd : Hid (SlAt intR S w da dl Sd) := hS
  clear h hMe hX hF hS hi
  go_enter Tryz.func54, Tryz.ntmps54
  go_wp2_with fail
  refine (allOk _ _ _ _ _ _ _ _ _ _ _ _ _ _ _ _ _ _ _  _ (w.heap.size + 1 + 1) w.heap.size (w.heap.size + 1) _ L M Xs Fs Sd _ (H.out.later (BX.out _)) ok (HMe.out.later (BX.out _)) (HX.out.later (BX.out _)) (HFr.out.later (BX.out _)) (HSd.out.later (BX.out _)) h7 hxc ((Below.heap_alloc _ _ _ (by simp; omega)).trans ((Below.heap_alloc _ _ _ (by simp)).trans (boxN _ _ _ _ rfl))) ((Below.heap_alloc _ _ _ (by simp)).trans (boxN _ _ _ _ (by simp))) (boxN _ _ _ _ (by simp))).mono ?_
  rintro e w1 ⟨rfl, hb⟩
  have B1 : Hid (Below w.heap.size w w1) := (BX.out _).trans (hb.mono (by simp; omega))
  clear hb
  go_wp2_with fail
  go_ret
  exact ⟨by rw [HF.out]; rfl, B1.out⟩
set_option maxRecDepth 100000 in
set_option maxHeartbeats 4000000 in
theorem machOkImpl (ca : Option Addr) (cn cc : Nat) (ma : Option Addr) (mn mc : Nat) (xa : Option Addr) (xl xc : Nat) (fa : Option Addr) (fl fc : Nat) (da : Option Addr) (dl dc : Nat) (st en : Int) (o0 : Bool) (o1 : Int) (L : List Cl) (M : List Me) (Xs : List Ob) (Fs : List Fr) (Sd : List Int) (w : World) {D E G P R S : Nat → Prop} (h : ClsAt D E w ca cn L) (hMe : SlAt meR G w ma mn M) (hX : SlAt obR P w xa xl Xs) (hF : SlAt frR R w fa fl Fs) (hS : SlAt intR S w da dl Sd) (hmc : mn ≤ mc) (hxc : xl ≤ xc) :
    Calls Tryz.prog 17 #[.agg #[.slice ca cn cc, .slice ma mn mc], .agg #[.slice xa xl xc, .slice fa fl fc, .slice da dl dc, .int .i64 st, .int .i64 en, .bool o0, .int .i64 o1]] w fun e w' => e = .returned (.bool (machM L M Xs Fs Sd st en o0 o1)) ∧ Below w.heap.size w w' := by
  have H : Hid (ClsAt D E w ca cn L) := h
  have HMe : Hid (SlAt meR G w ma mn M) := hMe
  have HX : Hid (SlAt obR P w xa xl Xs) := hX
  have HFr : Hid (SlAt frR R w fa fl Fs) := hF
  have HSd : Hid (SlAt intR S w da dl Sd) := hS
  have B0 : Hid (Below w.heap.size w ((w.alloc (.cells #[.slice ca cn cc, .slice ma mn mc] 38)).alloc (.cells #[.slice xa xl xc, .slice fa fl fc, .slice da dl dc, .int .i64 st, .int .i64 en, .bool o0, .int .i64 o1] 33))) := ((Below.refl _ _).alloc (Nat.le_refl _) _).alloc (by simp) _
  clear h hMe hX hF hS
  go_enter Tryz.func17, Tryz.ntmps17
  go_wp2_with fail
  refine (unitImpl _ _ _ _ _ _ L M _ (H.out.later B0.out) (HMe.out.later B0.out) hmc).mono ?_
  rintro e w1 ⟨rfl, hb⟩
  have D1 : Below (w.heap.size + 1 + 1) ((w.alloc (.cells #[.slice ca cn cc, .slice ma mn mc] 38)).alloc (.cells #[.slice xa xl xc, .slice fa fl fc, .slice da dl dc, .int .i64 st, .int .i64 en, .bool o0, .int .i64 o1] 33)) w1 := by simpa using hb
  have B1 : Hid (Below w.heap.size w w1) := B0.out.trans (D1.mono (by omega))
  have a1 := (D1.block w.heap.size (by omega)).trans ((Below.heap_alloc _ _ _ (by simp)).trans (boxN _ _ _ _ rfl))
  have a2 := (D1.block (w.heap.size + 1) (by omega)).trans (boxN _ _ _ _ (by simp))
  have u0 : w1.cell? ⟨w.heap.size, 0, none⟩ = some (.slice ca cn cc) := (boxG a1 0).1
  have u1 : w1.cell? ⟨w.heap.size, 1, none⟩ = some (.slice ma mn mc) := (boxG a1 1).1
  have q0 : w1.cell? ⟨w.heap.size + 1, 0, none⟩ = some (.slice xa xl xc) := (boxG a2 0).1
  have q1 : w1.cell? ⟨w.heap.size + 1, 1, none⟩ = some (.slice fa fl fc) := (boxG a2 1).1
  have q2 : w1.cell? ⟨w.heap.size + 1, 2, none⟩ = some (.slice da dl dc) := (boxG a2 2).1
  have q3 : w1.cell? ⟨w.heap.size + 1, 3, none⟩ = some (.int .i64 st) := (boxG a2 3).1
  have q4 : w1.cell? ⟨w.heap.size + 1, 4, none⟩ = some (.int .i64 en) := (boxG a2 4).1
  have q5 : w1.cell? ⟨w.heap.size + 1, 5, none⟩ = some (.bool o0) := (boxG a2 5).1
  have q6 : w1.cell? ⟨w.heap.size + 1, 6, none⟩ = some (.int .i64 o1) := (boxG a2 6).1
  clear hb D1 a1 a2
  cases hu : unitB L M
  · go_wp2_with fail
    go_ret
    exact ⟨by rw [machM, hu]; rfl, B1.out⟩
  go_wp2_with fail
  refine (machineOkImpl _ _ _ _ _ _ _ _ _ _ _ _ _ _ _ _ _ _ _  L M Xs Fs Sd _ (H.out.later B1.out) (unit_ok hu) (HMe.out.later B1.out) (HX.out.later B1.out) (HFr.out.later B1.out) (HSd.out.later B1.out) hxc hu).mono ?_
  rintro e w2 ⟨rfl, hb⟩
  have B2 : Hid (Below w.heap.size w w2) := B1.out.trans (hb.mono B1.out.size)
  clear hb
  go_wp2_with fail
  go_ret
  exact ⟨rfl, B2.out⟩

end Go.Proofs.YthdlccadcadopaaGreat
