/-
  At every argument MemObjs of the program answers as MemObjs of the specification, in memory of its own, and writes into no argument; no condition.
-/
import Derived.Test.YtjbmcdekhhbiaaaGreatObjQ
import Derived.Test.YtjbmcdekhhbiaaaGreatMrkM
import Derived.Test.YtjbmcdekhhbiaaaGreatDtMem
import Derived.Test.YtjbmcdekhhbiaaaGreatDtClass
import Derived.Test.YtjbmcdekhhbiaaaGreatRdCls
import Derived.Deep.RegionHeld3
namespace Go.Proofs.YtjbmcdekhhbiaaaGreat.fnExactMemObjs
open Go.ChangeShapes Go.WideShapes Go.ChangeAt Go.RowKit
set_option linter.unusedVariables false

theorem objsV_all {L : List Cl} {m : Mm} : (objsV L m).length ≤ 1000 ∧ ∀ x ∈ objsV L m, x.2.length ≤ 1048576 := by
  cases hq : memB L m
  · rw [objsV_no hq]; exact ⟨by simp, by simp⟩
  · have hB := (memB_ok hq).1
    have h1 := hB.od
    have h2 := hB.yg
    have h3 := thT_len hB
    rw [objsV_yes hq]
    refine ⟨by unfold objsT; rw [List.length_map]; omega, fun x hx => ?_⟩
    obtain ⟨t, ht, rfl⟩ := List.mem_map.1 hx
    have h4 := ((thT_ok hB).1 t ht).hi
    unfold tSz at h4
    unfold objT
    rw [List.length_map, List.length_range]
    omega
theorem objsV_few {L : List Cl} {m : Mm} : (objsV L m).length ≤ 1000 := objsV_all.1
theorem objsV_in {L : List Cl} {m : Mm} : ∀ x ∈ objsV L m, x.2.length ≤ 1048576 := objsV_all.2
theorem obS (ca : Option Addr) (cn cc : Nat) (wa : Option Addr) (wl wc : Nat) (yg tp od : Int) (da : Option Addr) (dl dc : Nat) (ws : List Int) (cd : List Bool) (L : List Cl) (w : World) {V : List Ob} {n : Nat} (hV : objsV L (ws, yg, tp, od, cd) = V) (hn : V.length = n) {D E G G2 : Nat → Prop} (h : ClsAt D E w ca cn L) (hw : IntsAt G w wa wl ws) (hc : SlAt boolR G2 w da dl cd) (hyg : i64B yg) (htp : i64B tp) (hod : i64B od) (hl : wl ≤ 1048576) (hd : dl ≤ 1048576) : Calls Tryz.prog 19 #[.slice ca cn cc, .agg #[.slice wa wl wc, .int .i64 yg, .int .i64 tp, .int .i64 od, .slice da dl dc]] w fun e w' => (∃ a c, e = .returned (.slice a n c) ∧ SlAt obR (fun b => w.heap.size ≤ b) w' a n V) ∧ Below w.heap.size w w' := by
  subst hn
  subst hV
  exact (mobjsSpec ca cn cc wa wl wc yg tp od da dl dc ws cd L w h hw hc hyg htp hod hl hd).mono fun e w' ⟨a, c, he, hI, hb⟩ => ⟨⟨a, c, he, hI⟩, hb⟩
theorem obI (ca : Option Addr) (cn cc : Nat) (wa : Option Addr) (wl wc : Nat) (yg tp od : Int) (da : Option Addr) (dl dc : Nat) (ws : List Int) (cd : List Bool) (L : List Cl) (w : World) {V : List Ob} {n : Nat} (hV : objsV L (ws, yg, tp, od, cd) = V) (hn : V.length = n) {D E G G2 : Nat → Prop} (h : ClsAt D E w ca cn L) (hw : IntsAt G w wa wl ws) (hc : SlAt boolR G2 w da dl cd) (hyg : i64B yg) (hl : wl ≤ 1048576) (hd : dl ≤ 1048576) (hcap : wl ≤ wc) : Calls Tryz.prog 20 #[.slice ca cn cc, .agg #[.slice wa wl wc, .int .i64 yg, .int .i64 tp, .int .i64 od, .slice da dl dc]] w fun e w' => ∃ a, e = .returned (.slice a n n) ∧ OwO w' w.heap.size a V ∧ Below w.heap.size w w' := by
  subst hn
  subst hV
  exact (mobjsImpl ca cn cc wa wl wc yg tp od da dl dc ws cd L w h hw hc hyg hl hd hcap).mono fun e w' hp => hp.own
set_option maxRecDepth 100000 in
set_option maxHeartbeats 16000000 in
theorem walk (a0 : Option Addr) (l0 c0 : Nat) (b0 : Option Addr) (m0 d0 : Nat) (yg tp od : Int) (b4 : Option Addr) (m4 d4 : Nat)  (L : List Cl) (ws : List Int) (cd : List Bool) (w : World) {D : Nat → Prop} (h : SlAt clR D w a0 l0 L) (hw : SlAt intR D w b0 m0 ws) (hc : SlAt boolR D w b4 m4 cd) (hyg : i64B yg) (htp : i64B tp) (hod : i64B od)  :
    Calls Tryz.prog 5 #[.slice a0 l0 c0, .agg #[.slice b0 m0 d0, .int .i64 yg, .int .i64 tp, .int .i64 od, .slice b4 m4 d4]] w fun e w' => e = .returned (.bool true) ∧ Below w.heap.size w w' := by
  obtain ⟨V, hV⟩ : ∃ V, objsV L (ws, yg, tp, od, cd) = V := ⟨_, rfl⟩
  obtain ⟨n, hn⟩ : ∃ n, V.length = n := ⟨_, rfl⟩
  have VV : Hid (objsV L (ws, yg, tp, od, cd) = V) := hV
  have VN : Hid (V.length = n) := hn
  have VB : Hid (∀ x ∈ V, x.2.length ≤ 1048576) := by rw [← hV]; exact objsV_in
  have hn2 : n ≤ 1000 := by rw [← hn, ← hV]; exact objsV_few
  clear hV hn
  have H : Hid (SlAt clR D w a0 l0 L) := h
  have HW : Hid (SlAt intR D w b0 m0 ws) := hw
  have HC : Hid (SlAt boolR D w b4 m4 cd) := hc
  have B0 : Hid (Below w.heap.size w (w.alloc (.cells #[.slice b0 m0 d0, .int .i64 yg, .int .i64 tp, .int .i64 od, .slice b4 m4 d4] 26))) := (Below.refl _ _).alloc (Nat.le_refl _) _
  clear h hw hc
  go_enter Tryz.func5, Tryz.ntmps5
  go_wp2_with fail
  refine (szLClass _ _ _ L _ _ (H.out.later B0.out) (by omega) (by omega)).mono ?_
  rintro e w1 ⟨r, rfl, r0, r1, hsz, hb⟩
  have M0 : Hid (0 ≤ r → (Rep.list clR).small L) := hsz
  have hb0 : Below (w.heap.size + 1) (w.alloc (.cells #[.slice b0 m0 d0, .int .i64 yg, .int .i64 tp, .int .i64 od, .slice b4 m4 d4] 26)) w1 := by simpa using hb
  have lC : w.heap.size < w1.heap.size := by have := hb0.size; simp at this; omega
  have XC : Hid (∀ y, Below w1.heap.size w1 y → y.heap[w.heap.size]? = some (.cells #[.slice b0 m0 d0, .int .i64 yg, .int .i64 tp, .int .i64 od, .slice b4 m4 d4] 26 (0, 0))) := fun y hy => (hy.block _ lC).trans ((hb0.block _ (by omega)).trans (boxN _ _ _ _ rfl))
  have B : Hid (∀ y, Below w1.heap.size w1 y → Below w.heap.size w y) := fun y hy => (B0.out.trans (hb0.mono (by omega))).trans (hy.mono (by omega))
  clear hsz hb hb0 B0
  obtain ⟨kC0, kC1, kC2, kC3, kC4⟩ := bk5 (XC.out w1 bR)
  by_cases hr : r < 0
  · go_wp2_with fail
    go_ret
    exact ⟨rfl, B.out _ (Below.refl _ _)⟩
  have SL : Hid ((Rep.list clR).small L) := M0.out (by omega)
  clear M0
  have BP : Hid (Below w1.heap.size w1 w1) := Below.refl _ _
  go_wp2_with fail
  refine (szRMem yg tp od _ _ _ _ _ _ ws cd _ _ (HW.out.later (B.out _ BP.out)) (HC.out.later (B.out _ BP.out)) (by omega) (by omega)).mono ?_
  rintro e w2 ⟨r2, rfl, r3, r4, hsz, hb⟩
  have M0 : Hid (0 ≤ r2 → Rep.small memR (ws, yg, tp, od, cd)) := hsz
  clear hsz
  have hq : Below w1.heap.size w1 w2 := BP.out.trans (Below.mono hb BP.out.size)
  replace B := lF B hq hq.size
  replace XC := lF XC hq hq.size
  replace lC := Nat.lt_of_lt_of_le lC hq.size
  have zw2 : w1.heap.size ≤ w2.heap.size := hq.size
  clear hq BP
  clear kC0 kC1 kC2 kC3 kC4
  clear hb
  obtain ⟨kC0, kC1, kC2, kC3, kC4⟩ := bk5 (XC.out w2 bR)
  by_cases hr2 : r2 < 0
  · go_wp2_with fail
    go_ret
    exact ⟨rfl, B.out _ (Below.refl _ _)⟩
  have SW : Hid ((Rep.list intR).small ws) := (M0.out (by omega)).1
  have SB : Hid ((Rep.list boolR).small cd) := (M0.out (by omega)).2.2.2.2
  clear M0
  have hwl : m0 ≤ 1048576 := by rw [← HW.out.size]; exact SW.out.1
  have hdl : m4 ≤ 1048576 := by rw [← HC.out.size]; exact SB.out.1
  go_wp2_with fail
  have KS : Hid (∀ x, Below w2.heap.size w2 x → x.cell? ⟨w.heap.size, 0, none⟩ = some (.slice b0 m0 d0) ∧ x.cell? ⟨w.heap.size, 1, none⟩ = some (.int .i64 yg) ∧ x.cell? ⟨w.heap.size, 2, none⟩ = some (.int .i64 tp) ∧ x.cell? ⟨w.heap.size, 3, none⟩ = some (.int .i64 od) ∧ x.cell? ⟨w.heap.size, 4, none⟩ = some (.slice b4 m4 d4)) := fun x hx => ⟨(boxG (XC.out x hx) 0).1, (boxG (XC.out x hx) 1).1, (boxG (XC.out x hx) 2).1, (boxG (XC.out x hx) 3).1, (boxG (XC.out x hx) 4).1⟩
  refine wp_region_held_drew (S := fun x => x.cell? ⟨w.heap.size, 0, none⟩ = some (.slice b0 m0 d0) ∧ x.cell? ⟨w.heap.size, 1, none⟩ = some (.int .i64 yg) ∧ x.cell? ⟨w.heap.size, 2, none⟩ = some (.int .i64 tp) ∧ x.cell? ⟨w.heap.size, 3, none⟩ = some (.int .i64 od) ∧ x.cell? ⟨w.heap.size, 4, none⟩ = some (.slice b4 m4 d4)) (by kernel_rfl) ?_ (fun hHeld => ?_)
  · exact KS.out _ (below_drewN (Below.refl _ _) 1)
  refine wpAnyH_take (i := 0) (v := .slice a0 l0 c0) rfl (by kernel_rfl) (by kernel_rfl) (by kernel_rfl) (fun _ _ _ h => h) (Or.inl ⟨by kernel_rfl, by (intro x hSx; (try dsimp only at hSx); go_simp)⟩) (by assumption) ?_
  try simp only [Act.put, List.getElem_toArray, List.getElem_cons_zero, List.setIfInBounds_toArray, List.set_cons_zero, List.set_cons_succ]
  refine wpAnyH_take (i := 2) (v := .agg #[.slice b0 m0 d0, .int .i64 yg, .int .i64 tp, .int .i64 od, .slice b4 m4 d4]) rfl (by kernel_rfl) (by kernel_rfl) (by kernel_rfl) (fun _ _ _ h => h) (Or.inl ⟨by kernel_rfl, by (intro x hSx; (try dsimp only at hSx); go_simp)⟩) (by assumption) ?_
  try simp only [Act.put, List.getElem_toArray, List.getElem_cons_zero, List.getElem_cons_succ, List.setIfInBounds_toArray, List.set_cons_zero, List.set_cons_succ]
  refine wpAnyH_ready (rs := [1]) (by kernel_rfl) (by simp) ?_
  refine AllReadyH.cons rfl (fun K hK => ?_) AllReadyH.nil
  go_simp
  go_at_call 9
  refine (toLClass _ _ _ L _ (H.out.later (B.out _ (below_drewN (Below.refl _ _) 1))) SL.out).mono ?_
  rintro e w3 ⟨na0, nc0, rfl, hU, hbx⟩
  have hb : Below w2.heap.size w2 w3 := (below_drewN (Below.refl _ _) 1).trans (hbx.mono (Nat.le_refl _))
  clear hbx
  have BP : Hid (Below w2.heap.size w2 w2) := Below.refl _ _
  have hq : Below w2.heap.size w2 w3 := BP.out.trans (Below.mono hb BP.out.size)
  replace B := lF B hq hq.size
  replace XC := lF XC hq hq.size
  replace lC := Nat.lt_of_lt_of_le lC hq.size
  have zw3 : w2.heap.size ≤ w3.heap.size := hq.size
  clear hq BP
  replace KS : Hid (∀ x, Below w3.heap.size w3 x → x.cell? ⟨w.heap.size, 0, none⟩ = some (.slice b0 m0 d0) ∧ x.cell? ⟨w.heap.size, 1, none⟩ = some (.int .i64 yg) ∧ x.cell? ⟨w.heap.size, 2, none⟩ = some (.int .i64 tp) ∧ x.cell? ⟨w.heap.size, 3, none⟩ = some (.int .i64 od) ∧ x.cell? ⟨w.heap.size, 4, none⟩ = some (.slice b4 m4 d4)) := fun x hx => ⟨(boxG (XC.out x hx) 0).1, (boxG (XC.out x hx) 1).1, (boxG (XC.out x hx) 2).1, (boxG (XC.out x hx) 3).1, (boxG (XC.out x hx) 4).1⟩
  have U : Hid (SlAt clR _ w3 na0 l0 L) := hU
  clear hU
  clear hb
  go_wp2_with fail
  refine hK.out _ _ (KS.out _ (Below.refl _ _)) (fun hHeld2 => ?_)
  clear hK K
  try simp only [Act.put, List.getElem_toArray, List.getElem_cons_zero, List.getElem_cons_succ, List.setIfInBounds_toArray, List.set_cons_zero, List.set_cons_succ]
  refine wpAnyH_ready (rs := [3]) (by kernel_rfl) (by simp) ?_
  refine AllReadyH.cons rfl (fun K hK => ?_) AllReadyH.nil
  go_simp
  go_at_call 10
  refine (toRMem yg tp od _ _ _ _ _ _ ws cd _ (HW.out.later (B.out _ (Below.refl _ _))) SW.out (HC.out.later (B.out _ (Below.refl _ _))) SB.out).mono ?_
  rintro e w4 ⟨nb0, nd0, nb4, nd4, rfl, hX, hF, hbx⟩
  have hb : Below w3.heap.size w3 w4 := hbx
  clear hbx
  have BP : Hid (Below w3.heap.size w3 w3) := Below.refl _ _
  have hq : Below w3.heap.size w3 w4 := BP.out.trans (Below.mono hb BP.out.size)
  replace B := lF B hq hq.size
  replace XC := lF XC hq hq.size
  replace lC := Nat.lt_of_lt_of_le lC hq.size
  have zw4 : w3.heap.size ≤ w4.heap.size := hq.size
  clear hq BP
  replace KS : Hid (∀ x, Below w4.heap.size w4 x → x.cell? ⟨w.heap.size, 0, none⟩ = some (.slice b0 m0 d0) ∧ x.cell? ⟨w.heap.size, 1, none⟩ = some (.int .i64 yg) ∧ x.cell? ⟨w.heap.size, 2, none⟩ = some (.int .i64 tp) ∧ x.cell? ⟨w.heap.size, 3, none⟩ = some (.int .i64 od) ∧ x.cell? ⟨w.heap.size, 4, none⟩ = some (.slice b4 m4 d4)) := fun x hx => ⟨(boxG (XC.out x hx) 0).1, (boxG (XC.out x hx) 1).1, (boxG (XC.out x hx) 2).1, (boxG (XC.out x hx) 3).1, (boxG (XC.out x hx) 4).1⟩
  replace U : Hid (SlAt clR _ w4 na0 l0 L) := U.out.later hb
  have X0 : Hid (SlAt intR _ w4 nb0 m0 ws) := hX
  have F0 : Hid (SlAt boolR _ w4 nb4 m4 cd) := hF
  clear hX hF
  clear hb
  go_wp2_with fail
  refine hK.out _ _ (KS.out _ (Below.refl _ _)) (fun hHeld3 => ?_)
  clear hK K
  try simp only [Act.put, List.getElem_toArray, List.getElem_cons_zero, List.getElem_cons_succ, List.setIfInBounds_toArray, List.set_cons_zero, List.set_cons_succ]
  refine wpAnyH_ready (rs := [4]) (by kernel_rfl) (by simp) ?_
  refine AllReadyH.cons rfl (fun K hK => ?_) AllReadyH.nil
  go_simp
  go_at_call 19
  refine (obS _ _ _ _ _ _ yg tp od _ _ _ ws cd L _ VV.out VN.out U.out.cls X0.out.ints F0.out hyg htp hod hwl hdl).mono ?_
  rintro e w5 ⟨⟨va, vc, rfl, hI⟩, hbx⟩
  have hb : Below w4.heap.size w4 w5 := hbx
  clear hbx
  have BP : Hid (Below w4.heap.size w4 w4) := Below.refl _ _
  have hq : Below w4.heap.size w4 w5 := BP.out.trans (Below.mono hb BP.out.size)
  replace B := lF B hq hq.size
  replace XC := lF XC hq hq.size
  replace lC := Nat.lt_of_lt_of_le lC hq.size
  have zw5 : w4.heap.size ≤ w5.heap.size := hq.size
  clear hq BP
  replace KS : Hid (∀ x, Below w5.heap.size w5 x → x.cell? ⟨w.heap.size, 0, none⟩ = some (.slice b0 m0 d0) ∧ x.cell? ⟨w.heap.size, 1, none⟩ = some (.int .i64 yg) ∧ x.cell? ⟨w.heap.size, 2, none⟩ = some (.int .i64 tp) ∧ x.cell? ⟨w.heap.size, 3, none⟩ = some (.int .i64 od) ∧ x.cell? ⟨w.heap.size, 4, none⟩ = some (.slice b4 m4 d4)) := fun x hx => ⟨(boxG (XC.out x hx) 0).1, (boxG (XC.out x hx) 1).1, (boxG (XC.out x hx) 2).1, (boxG (XC.out x hx) 3).1, (boxG (XC.out x hx) 4).1⟩
  clear U X0 F0
  have W0 : Hid (∀ y, Below w5.heap.size w5 y → SlAt obR (fun b => b < w5.heap.size) y va n V) := fun y hy => (hI.mono (fun b _ hl => hl)).later hy
  clear hI
  clear hb
  go_wp2_with fail
  refine hK.out _ _ (KS.out _ (Below.refl _ _)) (fun hHeld4 => ?_)
  clear hK K
  try simp only [Act.put, List.getElem_toArray, List.getElem_cons_zero, List.getElem_cons_succ, List.setIfInBounds_toArray, List.set_cons_zero, List.set_cons_succ]
  refine wpAnyH_take (i := 5) (v := .slice va n vc) rfl (by kernel_rfl) (by kernel_rfl) (by kernel_rfl) (fun _ _ _ h => h) (Or.inl ⟨by kernel_rfl, by (intro x hSx; (try dsimp only at hSx); go_simp)⟩) (by assumption) ?_
  try simp only [Act.put, List.getElem_toArray, List.getElem_cons_zero, List.getElem_cons_succ, List.setIfInBounds_toArray, List.set_cons_zero, List.set_cons_succ]
  refine wpAnyH_done (by kernel_rfl) ?_ _
  clear hHeld hHeld2 hHeld3 hHeld4
  clear kC0 kC1 kC2 kC3 kC4
  clear KS
  have yC : w.heap.size < w5.heap.size := lC
  obtain ⟨kC0, kC1, kC2, kC3, kC4⟩ := bk5 (XC.out w5 bR)
  have BP : Hid (Below w5.heap.size w5 w5) := Below.refl _ _
  go_wp2_with fail
  refine (toLClassF _ _ _ L _ (H.out.later (B.out _ BP.out)) SL.out).mono ?_
  rintro e w6 ⟨⟨ka0, kc0, rfl, hU, hb⟩, hfz⟩
  have hq : Below w5.heap.size w5 w6 := BP.out.trans (Below.mono hb BP.out.size)
  replace B := lF B hq hq.size
  replace W0 := lF W0 hq hq.size
  replace XC := lF XC hq hq.size
  replace lC := Nat.lt_of_lt_of_le lC hq.size
  have zw6 : w5.heap.size ≤ w6.heap.size := hq.size
  clear hq BP
  clear kC0 kC1 kC2 kC3 kC4
  have T : Hid (∀ y, Below w6.heap.size w6 y → SlAt clR (fun b => w5.heap.size ≤ b ∧ b < w6.heap.size) y ka0 l0 L) := fun y hy => (hU.mono (fun b h1 h2 => ⟨h1, h2⟩)).later hy
  have FT : Hid (∀ y, Below w6.heap.size w6 y → Thw (fun b => w5.heap.size ≤ b ∧ b < w6.heap.size) y) := fun y hy b o hd => (hy.frozen (p := ⟨b, o, none⟩) hd.2).trans ((hfz _).trans (frozen_past _ _ _ hd.1))
  clear hU hb hfz
  obtain ⟨kC0, kC1, kC2, kC3, kC4⟩ := bk5 (XC.out w6 bR)
  have BP : Hid (Below w6.heap.size w6 w6) := Below.refl _ _
  go_wp2_with fail
  refine (toRMemF yg tp od _ _ _ _ _ _ ws cd _ (HW.out.later (B.out _ BP.out)) SW.out (HC.out.later (B.out _ BP.out)) SB.out).mono ?_
  rintro e w7 ⟨⟨kb0, kd0, kb4, kd4, rfl, hX, hF, hb⟩, hfz⟩
  have hq : Below w6.heap.size w6 w7 := BP.out.trans (Below.mono hb BP.out.size)
  replace B := lF B hq hq.size
  replace W0 := lF W0 hq hq.size
  replace T := lF T hq hq.size
  replace FT := lF FT hq hq.size
  replace XC := lF XC hq hq.size
  replace lC := Nat.lt_of_lt_of_le lC hq.size
  have zw7 : w6.heap.size ≤ w7.heap.size := hq.size
  clear hq BP
  clear kC0 kC1 kC2 kC3 kC4
  have X1 : Hid (∀ y, Below w7.heap.size w7 y → SlAt intR (fun b => w6.heap.size ≤ b ∧ b < w7.heap.size) y kb0 m0 ws) := fun y hy => (hX.mono (fun b h1 h2 => ⟨h1, h2⟩)).later hy
  have F1 : Hid (∀ y, Below w7.heap.size w7 y → SlAt boolR (fun b => w6.heap.size ≤ b ∧ b < w7.heap.size) y kb4 m4 cd) := fun y hy => (hF.mono (fun b h1 h2 => ⟨h1, h2⟩)).later hy
  have FT1 : Hid (∀ y, Below w7.heap.size w7 y → Thw (fun b => w6.heap.size ≤ b ∧ b < w7.heap.size) y) := fun y hy b o hd => (hy.frozen (p := ⟨b, o, none⟩) hd.2).trans ((hfz _).trans (frozen_past _ _ _ hd.1))
  clear hX hF hb hfz
  obtain ⟨kC0, kC1, kC2, kC3, kC4⟩ := bk5 (XC.out w7 bR)
  have BP : Hid (Below w7.heap.size w7 (w7.alloc (.cells #[.slice kb0 m0 (m0 + kd0), .int .i64 yg, .int .i64 tp, .int .i64 od, .slice kb4 m4 (m4 + kd4)] 29))) := (Below.refl _ _).alloc (Nat.le_refl _) _
  go_wp2_with fail
  refine (obI _ _ _ _ _ _ yg tp od _ _ _ ws cd L _ VV.out VN.out (T.out _ BP.out).cls (X1.out _ BP.out).ints (F1.out _ BP.out) hyg hwl hdl (by omega)).mono ?_
  rintro e w8 ⟨ga, rfl, hG, hb⟩
  have hlo8 : w7.heap.size ≤ ((w7.alloc (.cells #[.slice kb0 m0 (m0 + kd0), .int .i64 yg, .int .i64 tp, .int .i64 od, .slice kb4 m4 (m4 + kd4)] 29))).heap.size := BP.out.size
  have e8 : ((w7.alloc (.cells #[.slice kb0 m0 (m0 + kd0), .int .i64 yg, .int .i64 tp, .int .i64 od, .slice kb4 m4 (m4 + kd4)] 29))).heap.size = w7.heap.size + 1 := by simp
  rw [e8] at hG
  clear e8 hlo8
  have hq : Below w7.heap.size w7 w8 := BP.out.trans (Below.mono hb BP.out.size)
  replace B := lF B hq hq.size
  replace W0 := lF W0 hq hq.size
  replace T := lF T hq hq.size
  replace FT := lF FT hq hq.size
  replace X1 := lF X1 hq hq.size
  replace F1 := lF F1 hq hq.size
  replace FT1 := lF FT1 hq hq.size
  replace XC := lF XC hq hq.size
  replace lC := Nat.lt_of_lt_of_le lC hq.size
  have lQ : w7.heap.size < w8.heap.size := Nat.lt_of_lt_of_le (by simp) (Below.size hb)
  have XQ : Hid (∀ y, Below w8.heap.size w8 y → y.heap[w7.heap.size]? = some (.cells #[.slice kb0 m0 (m0 + kd0), .int .i64 yg, .int .i64 tp, .int .i64 od, .slice kb4 m4 (m4 + kd4)] 29 (0, 0))) := fun y hy => (hy.block _ lQ).trans ((Below.block hb _ (by simp)).trans (boxN _ _ _ _ rfl))
  have zw8 : w7.heap.size + 1 ≤ w8.heap.size := Nat.le_trans (Nat.le_of_eq (by simp)) (Below.size hb)
  clear hq BP
  clear kC0 kC1 kC2 kC3 kC4
  have G : Hid (∀ y, Below w8.heap.size w8 y → OwO y (w7.heap.size + 1) ga V) := fun y hy => hG.later hy
  clear hb hG
  obtain ⟨kC0, kC1, kC2, kC3, kC4⟩ := bk5 (XC.out w8 bR)
  obtain ⟨kQ0, kQ1, kQ2, kQ3, kQ4⟩ := bk5 (XQ.out w8 bR)
  have BP : Hid (Below w8.heap.size w8 w8) := Below.refl _ _
  go_wp2_with fail
  have hsl := (G.out _ BP.out).sl (by rw [VN.out]; omega) VB.out
  rw [VN.out] at hsl
  refine (eqLObj ga n n va n vc V _ hsl (W0.out _ BP.out)).mono ?_
  rintro e w9 ⟨rfl, hb⟩
  have hq : Below w8.heap.size w8 w9 := BP.out.trans (Below.mono hb BP.out.size)
  replace B := lF B hq hq.size
  replace W0 := lF W0 hq hq.size
  replace T := lF T hq hq.size
  replace FT := lF FT hq hq.size
  replace X1 := lF X1 hq hq.size
  replace F1 := lF F1 hq hq.size
  replace FT1 := lF FT1 hq hq.size
  replace G := lF G hq hq.size
  replace XC := lF XC hq hq.size
  replace lC := Nat.lt_of_lt_of_le lC hq.size
  replace XQ := lF XQ hq hq.size
  replace lQ := Nat.lt_of_lt_of_le lQ hq.size
  have zw9 : w8.heap.size ≤ w9.heap.size := hq.size
  clear hq BP
  clear kC0 kC1 kC2 kC3 kC4 kQ0 kQ1 kQ2 kQ3 kQ4
  clear hb hsl
  obtain ⟨kC0, kC1, kC2, kC3, kC4⟩ := bk5 (XC.out w9 bR)
  obtain ⟨kQ0, kQ1, kQ2, kQ3, kQ4⟩ := bk5 (XQ.out w9 bR)
  have BP : Hid (Below w9.heap.size w9 w9) := Below.refl _ _
  go_wp2_with fail
  refine (toLClass _ _ _ L _ (H.out.later (B.out _ BP.out)) SL.out).mono ?_
  rintro e w10 ⟨ja0, jc0, rfl, hU, hb⟩
  have hq : Below w9.heap.size w9 w10 := BP.out.trans (Below.mono hb BP.out.size)
  replace B := lF B hq hq.size
  replace W0 := lF W0 hq hq.size
  replace T := lF T hq hq.size
  replace FT := lF FT hq hq.size
  replace X1 := lF X1 hq hq.size
  replace F1 := lF F1 hq hq.size
  replace FT1 := lF FT1 hq hq.size
  replace G := lF G hq hq.size
  replace XC := lF XC hq hq.size
  replace lC := Nat.lt_of_lt_of_le lC hq.size
  replace XQ := lF XQ hq hq.size
  replace lQ := Nat.lt_of_lt_of_le lQ hq.size
  have zw10 : w9.heap.size ≤ w10.heap.size := hq.size
  clear hq BP
  clear kC0 kC1 kC2 kC3 kC4 kQ0 kQ1 kQ2 kQ3 kQ4
  have U : Hid (SlAt clR _ w10 ja0 l0 L) := hU
  clear hU hb
  obtain ⟨kC0, kC1, kC2, kC3, kC4⟩ := bk5 (XC.out w10 bR)
  obtain ⟨kQ0, kQ1, kQ2, kQ3, kQ4⟩ := bk5 (XQ.out w10 bR)
  have BP : Hid (Below w10.heap.size w10 w10) := Below.refl _ _
  go_wp2_with fail
  refine (eqLClass _ _ _ _ _ _ L _ (T.out _ BP.out) U.out).mono ?_
  rintro e w11 ⟨rfl, hb⟩
  have hq : Below w10.heap.size w10 w11 := BP.out.trans (Below.mono hb BP.out.size)
  replace B := lF B hq hq.size
  replace W0 := lF W0 hq hq.size
  replace T := lF T hq hq.size
  replace FT := lF FT hq hq.size
  replace X1 := lF X1 hq hq.size
  replace F1 := lF F1 hq hq.size
  replace FT1 := lF FT1 hq hq.size
  replace G := lF G hq hq.size
  replace XC := lF XC hq hq.size
  replace lC := Nat.lt_of_lt_of_le lC hq.size
  replace XQ := lF XQ hq hq.size
  replace lQ := Nat.lt_of_lt_of_le lQ hq.size
  have zw11 : w10.heap.size ≤ w11.heap.size := hq.size
  clear hq BP
  clear kC0 kC1 kC2 kC3 kC4 kQ0 kQ1 kQ2 kQ3 kQ4
  clear hb U
  obtain ⟨kC0, kC1, kC2, kC3, kC4⟩ := bk5 (XC.out w11 bR)
  obtain ⟨kQ0, kQ1, kQ2, kQ3, kQ4⟩ := bk5 (XQ.out w11 bR)
  go_wp2_with fail
  have KS : Hid (∀ x, Below w11.heap.size w11 x → x.cell? ⟨w.heap.size, 0, none⟩ = some (.slice b0 m0 d0) ∧ x.cell? ⟨w.heap.size, 1, none⟩ = some (.int .i64 yg) ∧ x.cell? ⟨w.heap.size, 2, none⟩ = some (.int .i64 tp) ∧ x.cell? ⟨w.heap.size, 3, none⟩ = some (.int .i64 od) ∧ x.cell? ⟨w.heap.size, 4, none⟩ = some (.slice b4 m4 d4) ∧ x.cell? ⟨w7.heap.size, 0, none⟩ = some (.slice kb0 m0 (m0 + kd0)) ∧ x.cell? ⟨w7.heap.size, 1, none⟩ = some (.int .i64 yg) ∧ x.cell? ⟨w7.heap.size, 2, none⟩ = some (.int .i64 tp) ∧ x.cell? ⟨w7.heap.size, 3, none⟩ = some (.int .i64 od) ∧ x.cell? ⟨w7.heap.size, 4, none⟩ = some (.slice kb4 m4 (m4 + kd4))) := fun x hx => ⟨(boxG (XC.out x hx) 0).1, (boxG (XC.out x hx) 1).1, (boxG (XC.out x hx) 2).1, (boxG (XC.out x hx) 3).1, (boxG (XC.out x hx) 4).1, (boxG (XQ.out x hx) 0).1, (boxG (XQ.out x hx) 1).1, (boxG (XQ.out x hx) 2).1, (boxG (XQ.out x hx) 3).1, (boxG (XQ.out x hx) 4).1⟩
  refine wp_region_held_drew (S := fun x => x.cell? ⟨w.heap.size, 0, none⟩ = some (.slice b0 m0 d0) ∧ x.cell? ⟨w.heap.size, 1, none⟩ = some (.int .i64 yg) ∧ x.cell? ⟨w.heap.size, 2, none⟩ = some (.int .i64 tp) ∧ x.cell? ⟨w.heap.size, 3, none⟩ = some (.int .i64 od) ∧ x.cell? ⟨w.heap.size, 4, none⟩ = some (.slice b4 m4 d4) ∧ x.cell? ⟨w7.heap.size, 0, none⟩ = some (.slice kb0 m0 (m0 + kd0)) ∧ x.cell? ⟨w7.heap.size, 1, none⟩ = some (.int .i64 yg) ∧ x.cell? ⟨w7.heap.size, 2, none⟩ = some (.int .i64 tp) ∧ x.cell? ⟨w7.heap.size, 3, none⟩ = some (.int .i64 od) ∧ x.cell? ⟨w7.heap.size, 4, none⟩ = some (.slice kb4 m4 (m4 + kd4))) (by kernel_rfl) ?_ (fun hHeld => ?_)
  · exact KS.out _ (below_drewN (Below.refl _ _) 1)
  refine wpAnyH_take (i := 0) (v := .agg #[.slice kb0 m0 (m0 + kd0), .int .i64 yg, .int .i64 tp, .int .i64 od, .slice kb4 m4 (m4 + kd4)]) rfl (by kernel_rfl) (by kernel_rfl) (by kernel_rfl) (fun _ _ _ h => h) (Or.inl ⟨by kernel_rfl, by (intro x hSx; (try dsimp only at hSx); go_simp)⟩) (by assumption) ?_
  try simp only [Act.put, List.getElem_toArray, List.getElem_cons_zero, List.setIfInBounds_toArray, List.set_cons_zero, List.set_cons_succ]
  refine wpAnyH_take (i := 1) (v := .agg #[.slice b0 m0 d0, .int .i64 yg, .int .i64 tp, .int .i64 od, .slice b4 m4 d4]) rfl (by kernel_rfl) (by kernel_rfl) (by kernel_rfl) (fun _ _ _ h => h) (Or.inl ⟨by kernel_rfl, by (intro x hSx; (try dsimp only at hSx); go_simp)⟩) (by assumption) ?_
  try simp only [Act.put, List.getElem_toArray, List.getElem_cons_zero, List.getElem_cons_succ, List.setIfInBounds_toArray, List.set_cons_zero, List.set_cons_succ]
  refine wpAnyH_ready (rs := [2]) (by kernel_rfl) (by simp) ?_
  refine AllReadyH.cons rfl (fun K hK => ?_) AllReadyH.nil
  go_simp
  go_at_call 10
  refine (toRMem yg tp od _ _ _ _ _ _ ws cd _ (HW.out.later (B.out _ (below_drewN (Below.refl _ _) 1))) SW.out (HC.out.later (B.out _ (below_drewN (Below.refl _ _) 1))) SB.out).mono ?_
  rintro e w12 ⟨jb0, jd0, jb4, jd4, rfl, hX, hF, hbx⟩
  have hb : Below w11.heap.size w11 w12 := (below_drewN (Below.refl _ _) 1).trans (hbx.mono (Nat.le_refl _))
  clear hbx
  have BP : Hid (Below w11.heap.size w11 w11) := Below.refl _ _
  have hq : Below w11.heap.size w11 w12 := BP.out.trans (Below.mono hb BP.out.size)
  replace B := lF B hq hq.size
  replace W0 := lF W0 hq hq.size
  replace T := lF T hq hq.size
  replace FT := lF FT hq hq.size
  replace X1 := lF X1 hq hq.size
  replace F1 := lF F1 hq hq.size
  replace FT1 := lF FT1 hq hq.size
  replace G := lF G hq hq.size
  replace XC := lF XC hq hq.size
  replace lC := Nat.lt_of_lt_of_le lC hq.size
  replace XQ := lF XQ hq hq.size
  replace lQ := Nat.lt_of_lt_of_le lQ hq.size
  have zw12 : w11.heap.size ≤ w12.heap.size := hq.size
  clear hq BP
  replace KS : Hid (∀ x, Below w12.heap.size w12 x → x.cell? ⟨w.heap.size, 0, none⟩ = some (.slice b0 m0 d0) ∧ x.cell? ⟨w.heap.size, 1, none⟩ = some (.int .i64 yg) ∧ x.cell? ⟨w.heap.size, 2, none⟩ = some (.int .i64 tp) ∧ x.cell? ⟨w.heap.size, 3, none⟩ = some (.int .i64 od) ∧ x.cell? ⟨w.heap.size, 4, none⟩ = some (.slice b4 m4 d4) ∧ x.cell? ⟨w7.heap.size, 0, none⟩ = some (.slice kb0 m0 (m0 + kd0)) ∧ x.cell? ⟨w7.heap.size, 1, none⟩ = some (.int .i64 yg) ∧ x.cell? ⟨w7.heap.size, 2, none⟩ = some (.int .i64 tp) ∧ x.cell? ⟨w7.heap.size, 3, none⟩ = some (.int .i64 od) ∧ x.cell? ⟨w7.heap.size, 4, none⟩ = some (.slice kb4 m4 (m4 + kd4))) := fun x hx => ⟨(boxG (XC.out x hx) 0).1, (boxG (XC.out x hx) 1).1, (boxG (XC.out x hx) 2).1, (boxG (XC.out x hx) 3).1, (boxG (XC.out x hx) 4).1, (boxG (XQ.out x hx) 0).1, (boxG (XQ.out x hx) 1).1, (boxG (XQ.out x hx) 2).1, (boxG (XQ.out x hx) 3).1, (boxG (XQ.out x hx) 4).1⟩
  have X0 : Hid (SlAt intR _ w12 jb0 m0 ws) := hX
  have F0 : Hid (SlAt boolR _ w12 jb4 m4 cd) := hF
  clear hX hF
  clear hb
  go_wp2_with fail
  refine hK.out _ _ (KS.out _ (Below.refl _ _)) (fun hHeld2 => ?_)
  clear hK K
  try simp only [Act.put, List.getElem_toArray, List.getElem_cons_zero, List.getElem_cons_succ, List.setIfInBounds_toArray, List.set_cons_zero, List.set_cons_succ]
  refine wpAnyH_ready (rs := [3]) (by kernel_rfl) (by simp) ?_
  refine AllReadyH.cons rfl (fun K hK => ?_) AllReadyH.nil
  go_simp
  go_at_call 12
  refine (eqRMem yg tp od _ _ _ _ _ _ _ _ _ _ _ _ ws cd _ (X1.out _ (Below.refl _ _)) X0.out (F1.out _ (Below.refl _ _)) F0.out).mono ?_
  rintro e w13 ⟨rfl, hbx⟩
  have hb : Below w12.heap.size w12 w13 := hbx
  clear hbx
  have BP : Hid (Below w12.heap.size w12 w12) := Below.refl _ _
  have hq : Below w12.heap.size w12 w13 := BP.out.trans (Below.mono hb BP.out.size)
  replace B := lF B hq hq.size
  replace W0 := lF W0 hq hq.size
  replace T := lF T hq hq.size
  replace FT := lF FT hq hq.size
  replace X1 := lF X1 hq hq.size
  replace F1 := lF F1 hq hq.size
  replace FT1 := lF FT1 hq hq.size
  replace G := lF G hq hq.size
  replace XC := lF XC hq hq.size
  replace lC := Nat.lt_of_lt_of_le lC hq.size
  replace XQ := lF XQ hq hq.size
  replace lQ := Nat.lt_of_lt_of_le lQ hq.size
  have zw13 : w12.heap.size ≤ w13.heap.size := hq.size
  clear hq BP
  replace KS : Hid (∀ x, Below w13.heap.size w13 x → x.cell? ⟨w.heap.size, 0, none⟩ = some (.slice b0 m0 d0) ∧ x.cell? ⟨w.heap.size, 1, none⟩ = some (.int .i64 yg) ∧ x.cell? ⟨w.heap.size, 2, none⟩ = some (.int .i64 tp) ∧ x.cell? ⟨w.heap.size, 3, none⟩ = some (.int .i64 od) ∧ x.cell? ⟨w.heap.size, 4, none⟩ = some (.slice b4 m4 d4) ∧ x.cell? ⟨w7.heap.size, 0, none⟩ = some (.slice kb0 m0 (m0 + kd0)) ∧ x.cell? ⟨w7.heap.size, 1, none⟩ = some (.int .i64 yg) ∧ x.cell? ⟨w7.heap.size, 2, none⟩ = some (.int .i64 tp) ∧ x.cell? ⟨w7.heap.size, 3, none⟩ = some (.int .i64 od) ∧ x.cell? ⟨w7.heap.size, 4, none⟩ = some (.slice kb4 m4 (m4 + kd4))) := fun x hx => ⟨(boxG (XC.out x hx) 0).1, (boxG (XC.out x hx) 1).1, (boxG (XC.out x hx) 2).1, (boxG (XC.out x hx) 3).1, (boxG (XC.out x hx) 4).1, (boxG (XQ.out x hx) 0).1, (boxG (XQ.out x hx) 1).1, (boxG (XQ.out x hx) 2).1, (boxG (XQ.out x hx) 3).1, (boxG (XQ.out x hx) 4).1⟩
  clear X0 F0
  clear hb
  go_wp2_with fail
  refine hK.out _ _ (KS.out _ (Below.refl _ _)) (fun hHeld3 => ?_)
  clear hK K
  try simp only [Act.put, List.getElem_toArray, List.getElem_cons_zero, List.getElem_cons_succ, List.setIfInBounds_toArray, List.set_cons_zero, List.set_cons_succ]
  refine wpAnyH_take (i := 4) (v := .bool false) rfl (by kernel_rfl) (by kernel_rfl) (by kernel_rfl) (fun _ _ _ h => h) (Or.inl ⟨by kernel_rfl, by (intro x hSx; (try dsimp only at hSx); go_simp)⟩) (by assumption) ?_
  try simp only [Act.put, List.getElem_toArray, List.getElem_cons_zero, List.getElem_cons_succ, List.setIfInBounds_toArray, List.set_cons_zero, List.set_cons_succ]
  refine wpAnyH_done (by kernel_rfl) ?_ _
  clear hHeld hHeld2 hHeld3
  clear kC0 kC1 kC2 kC3 kC4 kQ0 kQ1 kQ2 kQ3 kQ4
  clear KS
  obtain ⟨kC0, kC1, kC2, kC3, kC4⟩ := bk5 (XC.out w13 bR)
  obtain ⟨kQ0, kQ1, kQ2, kQ3, kQ4⟩ := bk5 (XQ.out w13 bR)
  have BP : Hid (Below w13.heap.size w13 w13) := Below.refl _ _
  go_wp2_with fail
  clear BP
  refine (markLClass _ _ _ 1 _ (D := (fun b => w5.heap.size ≤ b ∧ b < w6.heap.size)) (SlP.of (T.out _ (Below.refl _ _)) SL.out) (FT.out _ (Below.refl _ _)) (by omega) (by omega)).mono ?_
  rintro e w14 ⟨k1, rfl, hk0, hk1, hmk⟩
  have hc := hmk.chg
  clear hmk
  clear kC0 kC1 kC2 kC3 kC4 kQ0 kQ1 kQ2 kQ3 kQ4
  replace XC : Hid (∀ y, Below w14.heap.size w14 y → y.heap[w.heap.size]? = some (.cells #[.slice b0 m0 d0, .int .i64 yg, .int .i64 tp, .int .i64 od, .slice b4 m4 d4] 26 (0, 0))) := fun y hy => (hy.block _ (Nat.lt_of_lt_of_le lC (Chg.size hc))).trans ((Chg.block hc _ lC (fun hd => by have h1 := hd.1; have h2 := hd.2; omega)).trans (XC.out w13 (Below.refl _ _)))
  replace lC : w.heap.size < w14.heap.size := Nat.lt_of_lt_of_le lC (Chg.size hc)
  replace XQ : Hid (∀ y, Below w14.heap.size w14 y → y.heap[w7.heap.size]? = some (.cells #[.slice kb0 m0 (m0 + kd0), .int .i64 yg, .int .i64 tp, .int .i64 od, .slice kb4 m4 (m4 + kd4)] 29 (0, 0))) := fun y hy => (hy.block _ (Nat.lt_of_lt_of_le lQ (Chg.size hc))).trans ((Chg.block hc _ lQ (fun hd => by have h1 := hd.1; have h2 := hd.2; omega)).trans (XQ.out w13 (Below.refl _ _)))
  replace lQ : w7.heap.size < w14.heap.size := Nat.lt_of_lt_of_le lQ (Chg.size hc)
  have zw14 : w13.heap.size ≤ w14.heap.size := Chg.size hc
  replace B : Hid (∀ y, Below w14.heap.size w14 y → Below w.heap.size w y) := fun y hy => ((B.out _ (Below.refl _ _)).trans (hc.below (Below.size (B.out _ (Below.refl _ _))) (fun i hi hd => by have := hd.1; omega))).trans (hy.mono (by omega))
  replace W0 : Hid (∀ y, Below w14.heap.size w14 y → SlAt obR (fun b => b < w5.heap.size) y va n V) := fun y hy => ((W0.out _ (Below.refl _ _)).keep (fun b o hd hl => hc.cell b o hl (fun hh => by have h7 : b < w5.heap.size := hd; have := hh.1; omega))).later hy
  clear T
  clear FT
  replace X1 : Hid (∀ y, Below w14.heap.size w14 y → SlAt intR (fun b => w6.heap.size ≤ b ∧ b < w7.heap.size) y kb0 m0 ws) := fun y hy => ((X1.out _ (Below.refl _ _)).keep (fun b o hd hl => hc.cell b o hl (fun hh => by have := hh.2; have := hd.1; omega))).later hy
  replace F1 : Hid (∀ y, Below w14.heap.size w14 y → SlAt boolR (fun b => w6.heap.size ≤ b ∧ b < w7.heap.size) y kb4 m4 cd) := fun y hy => ((F1.out _ (Below.refl _ _)).keep (fun b o hd hl => hc.cell b o hl (fun hh => by have := hh.2; have := hd.1; omega))).later hy
  replace FT1 : Hid (∀ y, Below w14.heap.size w14 y → Thw (fun b => w6.heap.size ≤ b ∧ b < w7.heap.size) y) := fun y hy b o hd => (hy.frozen (p := ⟨b, o, none⟩) (by have h7 := hd.2; show b < _; omega)).trans ((hc.frozen b o (by have := hd.2; omega) (fun hh => by have := hh.2; have := hd.1; omega)).trans (FT1.out _ (Below.refl _ _) b o hd))
  replace G : Hid (∀ y, Below w14.heap.size w14 y → OwO y (w7.heap.size + 1) ga V) := fun y hy => ((G.out _ (Below.refl _ _)).chg hc (fun i hi hd => by have := hd.2; omega)).later hy
  clear hc
  obtain ⟨kC0, kC1, kC2, kC3, kC4⟩ := bk5 (XC.out w14 bR)
  obtain ⟨kQ0, kQ1, kQ2, kQ3, kQ4⟩ := bk5 (XQ.out w14 bR)
  have BP : Hid (Below w14.heap.size w14 w14) := Below.refl _ _
  go_wp2_with fail
  refine (markXMem yg tp od _ _ _ _ _ _ k1 _ (D := (fun b => w6.heap.size ≤ b ∧ b < w7.heap.size)) (SlP.of (X1.out _ BP.out) SW.out) (SlP.of (F1.out _ BP.out) SB.out) (FT1.out _ BP.out) (by omega) (by omega)).mono ?_
  rintro e w15 ⟨k2, rfl, hk2, hc⟩
  clear BP
  clear kC0 kC1 kC2 kC3 kC4 kQ0 kQ1 kQ2 kQ3 kQ4
  replace XC : Hid (∀ y, Below w15.heap.size w15 y → y.heap[w.heap.size]? = some (.cells #[.slice b0 m0 d0, .int .i64 yg, .int .i64 tp, .int .i64 od, .slice b4 m4 d4] 26 (0, 0))) := fun y hy => (hy.block _ (Nat.lt_of_lt_of_le lC (Chg.size hc))).trans ((Chg.block hc _ lC (fun hd => by have h1 := hd.1; have h2 := hd.2; omega)).trans (XC.out w14 (Below.refl _ _)))
  replace lC : w.heap.size < w15.heap.size := Nat.lt_of_lt_of_le lC (Chg.size hc)
  replace XQ : Hid (∀ y, Below w15.heap.size w15 y → y.heap[w7.heap.size]? = some (.cells #[.slice kb0 m0 (m0 + kd0), .int .i64 yg, .int .i64 tp, .int .i64 od, .slice kb4 m4 (m4 + kd4)] 29 (0, 0))) := fun y hy => (hy.block _ (Nat.lt_of_lt_of_le lQ (Chg.size hc))).trans ((Chg.block hc _ lQ (fun hd => by have h1 := hd.1; have h2 := hd.2; omega)).trans (XQ.out w14 (Below.refl _ _)))
  replace lQ : w7.heap.size < w15.heap.size := Nat.lt_of_lt_of_le lQ (Chg.size hc)
  have zw15 : w14.heap.size ≤ w15.heap.size := Chg.size hc
  replace B : Hid (∀ y, Below w15.heap.size w15 y → Below w.heap.size w y) := fun y hy => ((B.out _ (Below.refl _ _)).trans (hc.below (Below.size (B.out _ (Below.refl _ _))) (fun i hi hd => by have := hd.1; omega))).trans (hy.mono (by omega))
  replace W0 : Hid (∀ y, Below w15.heap.size w15 y → SlAt obR (fun b => b < w5.heap.size) y va n V) := fun y hy => ((W0.out _ (Below.refl _ _)).keep (fun b o hd hl => hc.cell b o hl (fun hh => by have h7 : b < w5.heap.size := hd; have := hh.1; omega))).later hy
  clear X1
  clear F1
  clear FT1
  replace G : Hid (∀ y, Below w15.heap.size w15 y → OwO y (w7.heap.size + 1) ga V) := fun y hy => ((G.out _ (Below.refl _ _)).chg hc (fun i hi hd => by have := hd.2; omega)).later hy
  have hk' : ¬ k2 < 0 := by omega
  clear hc
  obtain ⟨kC0, kC1, kC2, kC3, kC4⟩ := bk5 (XC.out w15 bR)
  obtain ⟨kQ0, kQ1, kQ2, kQ3, kQ4⟩ := bk5 (XQ.out w15 bR)
  clear kC0 kC1 kC2 kC3 kC4 kQ0 kQ1 kQ2 kQ3 kQ4
  obtain ⟨kC0, kC1, kC2, kC3, kC4⟩ := bk5 (XC.out w15 bR)
  obtain ⟨kQ0, kQ1, kQ2, kQ3, kQ4⟩ := bk5 (XQ.out w15 bR)
  have BP : Hid (Below w15.heap.size w15 w15) := Below.refl _ _
  go_wp2_with fail
  have hsl := (G.out _ BP.out).sl (by rw [VN.out]; omega) VB.out
  rw [VN.out] at hsl
  refine (eqLObj ga n n va n vc V _ hsl (W0.out _ BP.out)).mono ?_
  rintro e w16 ⟨rfl, hb⟩
  have hq : Below w15.heap.size w15 w16 := BP.out.trans (Below.mono hb BP.out.size)
  replace B := lF B hq hq.size
  replace W0 := lF W0 hq hq.size
  replace G := lF G hq hq.size
  replace XC := lF XC hq hq.size
  replace lC := Nat.lt_of_lt_of_le lC hq.size
  replace XQ := lF XQ hq hq.size
  replace lQ := Nat.lt_of_lt_of_le lQ hq.size
  have zw16 : w15.heap.size ≤ w16.heap.size := hq.size
  clear hq BP
  clear kC0 kC1 kC2 kC3 kC4 kQ0 kQ1 kQ2 kQ3 kQ4
  clear hb hsl
  obtain ⟨kC0, kC1, kC2, kC3, kC4⟩ := bk5 (XC.out w16 bR)
  obtain ⟨kQ0, kQ1, kQ2, kQ3, kQ4⟩ := bk5 (XQ.out w16 bR)
  have BP : Hid (Below w16.heap.size w16 w16) := Below.refl _ _
  go_wp2_with fail
  refine (markO VN.out (G.out _ BP.out) hn2 VB.out).mono ?_
  rintro e w17 ⟨kn, rfl, hk0, hk1, hM, hc⟩
  clear BP
  clear kC0 kC1 kC2 kC3 kC4 kQ0 kQ1 kQ2 kQ3 kQ4
  replace XC : Hid (∀ y, Below w17.heap.size w17 y → y.heap[w.heap.size]? = some (.cells #[.slice b0 m0 d0, .int .i64 yg, .int .i64 tp, .int .i64 od, .slice b4 m4 d4] 26 (0, 0))) := fun y hy => (hy.block _ (Nat.lt_of_lt_of_le lC (Chg.size hc))).trans ((Chg.block hc _ lC (fun hd => by have h1 : w7.heap.size + 1 ≤ _ := hd; omega)).trans (XC.out w16 (Below.refl _ _)))
  replace lC : w.heap.size < w17.heap.size := Nat.lt_of_lt_of_le lC (Chg.size hc)
  replace XQ : Hid (∀ y, Below w17.heap.size w17 y → y.heap[w7.heap.size]? = some (.cells #[.slice kb0 m0 (m0 + kd0), .int .i64 yg, .int .i64 tp, .int .i64 od, .slice kb4 m4 (m4 + kd4)] 29 (0, 0))) := fun y hy => (hy.block _ (Nat.lt_of_lt_of_le lQ (Chg.size hc))).trans ((Chg.block hc _ lQ (fun hd => by have h1 : w7.heap.size + 1 ≤ _ := hd; omega)).trans (XQ.out w16 (Below.refl _ _)))
  replace lQ : w7.heap.size < w17.heap.size := Nat.lt_of_lt_of_le lQ (Chg.size hc)
  have zw17 : w16.heap.size ≤ w17.heap.size := Chg.size hc
  replace B : Hid (∀ y, Below w17.heap.size w17 y → Below w.heap.size w y) := fun y hy => ((B.out _ (Below.refl _ _)).trans (hc.below (Below.size (B.out _ (Below.refl _ _))) (fun i hi hd => by have h1 : w7.heap.size + 1 ≤ i := hd; omega))).trans (hy.mono (by omega))
  replace W0 : Hid (∀ y, Below w17.heap.size w17 y → SlAt obR (fun b => b < w5.heap.size) y va n V) := fun y hy => ((W0.out _ (Below.refl _ _)).keep (fun b o hd hl => hc.cell b o hl (fun hh => by have h7 : b < w5.heap.size := hd; have h1 : w7.heap.size + 1 ≤ b := hh; omega))).later hy
  clear G
  have M : Hid (∀ y, Below w17.heap.size w17 y → MkO y (w7.heap.size + 1) ga n kn) := fun y hy => hM.later hy
  have e9 : (kn != kn) = false := by simp
  have e8 : ¬ (kn < 0) := by omega
  clear hM hc
  obtain ⟨kC0, kC1, kC2, kC3, kC4⟩ := bk5 (XC.out w17 bR)
  obtain ⟨kQ0, kQ1, kQ2, kQ3, kQ4⟩ := bk5 (XQ.out w17 bR)
  have BP : Hid (Below w17.heap.size w17 w17) := Below.refl _ _
  go_wp2_with fail
  refine (heldO (M.out _ BP.out) hn2).mono ?_
  rintro e w99 ⟨rfl, rfl⟩
  clear BP
  go_wp2_with fail
  clear kC0 kC1 kC2 kC3 kC4 kQ0 kQ1 kQ2 kQ3 kQ4
  have KS : Hid (∀ x, Below w17.heap.size w17 x → x.cell? ⟨w.heap.size, 0, none⟩ = some (.slice b0 m0 d0) ∧ x.cell? ⟨w.heap.size, 1, none⟩ = some (.int .i64 yg) ∧ x.cell? ⟨w.heap.size, 2, none⟩ = some (.int .i64 tp) ∧ x.cell? ⟨w.heap.size, 3, none⟩ = some (.int .i64 od) ∧ x.cell? ⟨w.heap.size, 4, none⟩ = some (.slice b4 m4 d4)) := fun x hx => ⟨(boxG (XC.out x hx) 0).1, (boxG (XC.out x hx) 1).1, (boxG (XC.out x hx) 2).1, (boxG (XC.out x hx) 3).1, (boxG (XC.out x hx) 4).1⟩
  refine wp_region_held_drew (S := fun x => x.cell? ⟨w.heap.size, 0, none⟩ = some (.slice b0 m0 d0) ∧ x.cell? ⟨w.heap.size, 1, none⟩ = some (.int .i64 yg) ∧ x.cell? ⟨w.heap.size, 2, none⟩ = some (.int .i64 tp) ∧ x.cell? ⟨w.heap.size, 3, none⟩ = some (.int .i64 od) ∧ x.cell? ⟨w.heap.size, 4, none⟩ = some (.slice b4 m4 d4)) (by kernel_rfl) ?_ (fun hHeld => ?_)
  · exact KS.out _ (below_drewN (Below.refl _ _) 1)
  refine wpAnyH_take (i := 0) (v := .slice a0 l0 c0) rfl (by kernel_rfl) (by kernel_rfl) (by kernel_rfl) (fun _ _ _ h => h) (Or.inl ⟨by kernel_rfl, by (intro x hSx; (try dsimp only at hSx); go_simp)⟩) (by assumption) ?_
  try simp only [Act.put, List.getElem_toArray, List.getElem_cons_zero, List.setIfInBounds_toArray, List.set_cons_zero, List.set_cons_succ]
  refine wpAnyH_take (i := 2) (v := .agg #[.slice b0 m0 d0, .int .i64 yg, .int .i64 tp, .int .i64 od, .slice b4 m4 d4]) rfl (by kernel_rfl) (by kernel_rfl) (by kernel_rfl) (fun _ _ _ h => h) (Or.inl ⟨by kernel_rfl, by (intro x hSx; (try dsimp only at hSx); go_simp)⟩) (by assumption) ?_
  try simp only [Act.put, List.getElem_toArray, List.getElem_cons_zero, List.getElem_cons_succ, List.setIfInBounds_toArray, List.set_cons_zero, List.set_cons_succ]
  refine wpAnyH_ready (rs := [1]) (by kernel_rfl) (by simp) ?_
  refine AllReadyH.cons rfl (fun K hK => ?_) AllReadyH.nil
  go_simp
  go_at_call 9
  refine (toLClass _ _ _ L _ (H.out.later (B.out _ (below_drewN (Below.refl _ _) 1))) SL.out).mono ?_
  rintro e w18 ⟨na0, nc0, rfl, hU, hbx⟩
  have hb : Below w17.heap.size w17 w18 := (below_drewN (Below.refl _ _) 1).trans (hbx.mono (Nat.le_refl _))
  clear hbx
  have BP : Hid (Below w17.heap.size w17 w17) := Below.refl _ _
  have hq : Below w17.heap.size w17 w18 := BP.out.trans (Below.mono hb BP.out.size)
  replace B := lF B hq hq.size
  replace W0 := lF W0 hq hq.size
  replace M := lF M hq hq.size
  replace XC := lF XC hq hq.size
  replace lC := Nat.lt_of_lt_of_le lC hq.size
  replace XQ := lF XQ hq hq.size
  replace lQ := Nat.lt_of_lt_of_le lQ hq.size
  have zw18 : w17.heap.size ≤ w18.heap.size := hq.size
  clear hq BP
  replace KS : Hid (∀ x, Below w18.heap.size w18 x → x.cell? ⟨w.heap.size, 0, none⟩ = some (.slice b0 m0 d0) ∧ x.cell? ⟨w.heap.size, 1, none⟩ = some (.int .i64 yg) ∧ x.cell? ⟨w.heap.size, 2, none⟩ = some (.int .i64 tp) ∧ x.cell? ⟨w.heap.size, 3, none⟩ = some (.int .i64 od) ∧ x.cell? ⟨w.heap.size, 4, none⟩ = some (.slice b4 m4 d4)) := fun x hx => ⟨(boxG (XC.out x hx) 0).1, (boxG (XC.out x hx) 1).1, (boxG (XC.out x hx) 2).1, (boxG (XC.out x hx) 3).1, (boxG (XC.out x hx) 4).1⟩
  have U : Hid (SlAt clR _ w18 na0 l0 L) := hU
  clear hU
  clear hb
  go_wp2_with fail
  refine hK.out _ _ (KS.out _ (Below.refl _ _)) (fun hHeld2 => ?_)
  clear hK K
  try simp only [Act.put, List.getElem_toArray, List.getElem_cons_zero, List.getElem_cons_succ, List.setIfInBounds_toArray, List.set_cons_zero, List.set_cons_succ]
  refine wpAnyH_ready (rs := [3]) (by kernel_rfl) (by simp) ?_
  refine AllReadyH.cons rfl (fun K hK => ?_) AllReadyH.nil
  go_simp
  go_at_call 10
  refine (toRMem yg tp od _ _ _ _ _ _ ws cd _ (HW.out.later (B.out _ (Below.refl _ _))) SW.out (HC.out.later (B.out _ (Below.refl _ _))) SB.out).mono ?_
  rintro e w19 ⟨nb0, nd0, nb4, nd4, rfl, hX, hF, hbx⟩
  have hb : Below w18.heap.size w18 w19 := hbx
  clear hbx
  have BP : Hid (Below w18.heap.size w18 w18) := Below.refl _ _
  have hq : Below w18.heap.size w18 w19 := BP.out.trans (Below.mono hb BP.out.size)
  replace B := lF B hq hq.size
  replace W0 := lF W0 hq hq.size
  replace M := lF M hq hq.size
  replace XC := lF XC hq hq.size
  replace lC := Nat.lt_of_lt_of_le lC hq.size
  replace XQ := lF XQ hq hq.size
  replace lQ := Nat.lt_of_lt_of_le lQ hq.size
  have zw19 : w18.heap.size ≤ w19.heap.size := hq.size
  clear hq BP
  replace KS : Hid (∀ x, Below w19.heap.size w19 x → x.cell? ⟨w.heap.size, 0, none⟩ = some (.slice b0 m0 d0) ∧ x.cell? ⟨w.heap.size, 1, none⟩ = some (.int .i64 yg) ∧ x.cell? ⟨w.heap.size, 2, none⟩ = some (.int .i64 tp) ∧ x.cell? ⟨w.heap.size, 3, none⟩ = some (.int .i64 od) ∧ x.cell? ⟨w.heap.size, 4, none⟩ = some (.slice b4 m4 d4)) := fun x hx => ⟨(boxG (XC.out x hx) 0).1, (boxG (XC.out x hx) 1).1, (boxG (XC.out x hx) 2).1, (boxG (XC.out x hx) 3).1, (boxG (XC.out x hx) 4).1⟩
  replace U : Hid (SlAt clR _ w19 na0 l0 L) := U.out.later hb
  have X0 : Hid (SlAt intR _ w19 nb0 m0 ws) := hX
  have F0 : Hid (SlAt boolR _ w19 nb4 m4 cd) := hF
  clear hX hF
  clear hb
  go_wp2_with fail
  refine hK.out _ _ (KS.out _ (Below.refl _ _)) (fun hHeld3 => ?_)
  clear hK K
  try simp only [Act.put, List.getElem_toArray, List.getElem_cons_zero, List.getElem_cons_succ, List.setIfInBounds_toArray, List.set_cons_zero, List.set_cons_succ]
  refine wpAnyH_ready (rs := [4]) (by kernel_rfl) (by simp) ?_
  refine AllReadyH.cons rfl (fun K hK => ?_) AllReadyH.nil
  go_simp
  go_at_call 20
  refine (obI _ _ _ _ _ _ yg tp od _ _ _ ws cd L _ VV.out VN.out U.out.cls X0.out.ints F0.out hyg hwl hdl (by omega)).mono ?_
  rintro e w20 ⟨ha, rfl, hG, hbx⟩
  have hb : Below w19.heap.size w19 w20 := hbx
  clear hbx
  have BP : Hid (Below w19.heap.size w19 w19) := Below.refl _ _
  have hq : Below w19.heap.size w19 w20 := BP.out.trans (Below.mono hb BP.out.size)
  replace B := lF B hq hq.size
  replace W0 := lF W0 hq hq.size
  replace M := lF M hq hq.size
  replace XC := lF XC hq hq.size
  replace lC := Nat.lt_of_lt_of_le lC hq.size
  replace XQ := lF XQ hq hq.size
  replace lQ := Nat.lt_of_lt_of_le lQ hq.size
  have zw20 : w19.heap.size ≤ w20.heap.size := hq.size
  clear hq BP
  replace KS : Hid (∀ x, Below w20.heap.size w20 x → x.cell? ⟨w.heap.size, 0, none⟩ = some (.slice b0 m0 d0) ∧ x.cell? ⟨w.heap.size, 1, none⟩ = some (.int .i64 yg) ∧ x.cell? ⟨w.heap.size, 2, none⟩ = some (.int .i64 tp) ∧ x.cell? ⟨w.heap.size, 3, none⟩ = some (.int .i64 od) ∧ x.cell? ⟨w.heap.size, 4, none⟩ = some (.slice b4 m4 d4)) := fun x hx => ⟨(boxG (XC.out x hx) 0).1, (boxG (XC.out x hx) 1).1, (boxG (XC.out x hx) 2).1, (boxG (XC.out x hx) 3).1, (boxG (XC.out x hx) 4).1⟩
  clear U X0 F0
  have H0 : Hid (∀ y, Below w20.heap.size w20 y → OwO y w19.heap.size ha V) := fun y hy => hG.later hy
  clear hG
  clear hb
  go_wp2_with fail
  refine hK.out _ _ (KS.out _ (Below.refl _ _)) (fun hHeld4 => ?_)
  clear hK K
  try simp only [Act.put, List.getElem_toArray, List.getElem_cons_zero, List.getElem_cons_succ, List.setIfInBounds_toArray, List.set_cons_zero, List.set_cons_succ]
  refine wpAnyH_take (i := 5) (v := .slice ha n n) rfl (by kernel_rfl) (by kernel_rfl) (by kernel_rfl) (fun _ _ _ h => h) (Or.inl ⟨by kernel_rfl, by (intro x hSx; (try dsimp only at hSx); go_simp)⟩) (by assumption) ?_
  try simp only [Act.put, List.getElem_toArray, List.getElem_cons_zero, List.getElem_cons_succ, List.setIfInBounds_toArray, List.set_cons_zero, List.set_cons_succ]
  refine wpAnyH_done (by kernel_rfl) ?_ _
  clear hHeld hHeld2 hHeld3 hHeld4
  clear KS
  obtain ⟨kC0, kC1, kC2, kC3, kC4⟩ := bk5 (XC.out w20 bR)
  obtain ⟨kQ0, kQ1, kQ2, kQ3, kQ4⟩ := bk5 (XQ.out w20 bR)
  have BP : Hid (Below w20.heap.size w20 w20) := Below.refl _ _
  go_wp2_with fail
  have hsl := (H0.out _ BP.out).sl (by rw [VN.out]; omega) VB.out
  rw [VN.out] at hsl
  refine (eqLObj ha n n va n vc V _ hsl (W0.out _ BP.out)).mono ?_
  rintro e w21 ⟨rfl, hb⟩
  have hq : Below w20.heap.size w20 w21 := BP.out.trans (Below.mono hb BP.out.size)
  replace B := lF B hq hq.size
  replace W0 := lF W0 hq hq.size
  replace M := lF M hq hq.size
  replace H0 := lF H0 hq hq.size
  replace XC := lF XC hq hq.size
  replace lC := Nat.lt_of_lt_of_le lC hq.size
  replace XQ := lF XQ hq hq.size
  replace lQ := Nat.lt_of_lt_of_le lQ hq.size
  have zw21 : w20.heap.size ≤ w21.heap.size := hq.size
  clear hq BP
  clear kC0 kC1 kC2 kC3 kC4 kQ0 kQ1 kQ2 kQ3 kQ4
  clear hb hsl
  obtain ⟨kC0, kC1, kC2, kC3, kC4⟩ := bk5 (XC.out w21 bR)
  obtain ⟨kQ0, kQ1, kQ2, kQ3, kQ4⟩ := bk5 (XQ.out w21 bR)
  have BP : Hid (Below w21.heap.size w21 w21) := Below.refl _ _
  go_wp2_with fail
  refine (heldO (M.out _ BP.out) hn2).mono ?_
  rintro e w99 ⟨rfl, rfl⟩
  clear BP
  go_wp2_with fail
  go_ret
  exact ⟨rfl, B.out _ (Below.refl _ _)⟩

/-- What came in, read. -/
theorem slOf {α : Type} {R : Rep α} {t : TypeId} (hr : Reads t (.list R)) {H : Type} {enc : TypeId × Value → H} {W : World} {a : Option Addr} {len cap : Nat} {d : DataW H} {p : List MemPlace} (h : DataW.Trod enc Tryz.prog W 0 (fun _ => true) true t (.slice a len cap) d p) : ∃ xs, SlAt R (fun _ => True) W a len xs := by
  obtain ⟨fuel, hf⟩ := h
  obtain ⟨xs, a', l', c', e, hS⟩ := hr _ _ _ _ _ _ hf
  simp [Value.cells] at e
  obtain ⟨rfl, rfl, rfl⟩ := e
  exact ⟨xs, hS⟩
theorem memOf {H : Type} {enc : TypeId × Value → H} {W : World} {cs : Array Value} {d : DataW H} {p : List MemPlace} (h : DataW.Trod enc Tryz.prog W 0 (fun _ => true) true 26 (.agg cs) d p) :
    ∃ a0 l0 c0 yg tp od a4 l4 c4 ws cd, cs = #[.slice a0 l0 c0, .int .i64 yg, .int .i64 tp, .int .i64 od, .slice a4 l4 c4] ∧ SlAt intR (fun _ => True) W a0 l0 ws ∧ SlAt boolR (fun _ => True) W a4 l4 cd ∧ i64B yg ∧ i64B tp ∧ i64B od := by
  obtain ⟨fuel, hf⟩ := h
  obtain ⟨⟨ws, yg, tp, od, cd⟩, _, _, e, ⟨a0, l0, c0, rfl, h1⟩, _, _, rfl, ⟨rfl, f1⟩, _, _, rfl, ⟨rfl, f2⟩, _, _, rfl, ⟨rfl, f3⟩, a4, l4, c4, rfl, h2⟩ := rd_Mem _ _ _ _ _ _ hf
  refine ⟨a0, l0, c0, yg, tp, od, a4, l4, c4, ws, cd, ?_, h1, h2, f1, f2, f3⟩
  obtain ⟨l⟩ := cs
  simpa [Value.cells] using e

set_option maxRecDepth 100000 in
theorem lifted (os : Os) (started : os.Started) (H : Type) (enc : TypeId × Value → H) :
    ReturnsInHanded {} Tryz.checked os 5 .any (Rows.fnExactMemObjsSpec.pre6 enc Tryz.prog Tryz.f5 Rows.fnExactMemObjsRow.domain false) (Rows.fnExactMemObjsSpec.post enc Tryz.prog Tryz.f5 false true false false) := by
  refine returnsInHanded_of_change (C := Tryz.checked) own started (by kernel_rfl) Tryz.func5
    (ChangeSpec.witness6 (enc := enc) (C := Tryz.checked) false ⟨#[], #[.slice none 0 0, .agg #[.slice none 0 0, .int .i64 0, .int .i64 0, .int .i64 0, .slice none 0 0]], []⟩ 8 (by kernel_rfl) (by kernel_rfl) (by kernel_rfl) (by kernel_rfl)) ?_
  intro W base args ds gs before hval0 hW hcnd _
  have hval : ∀ (j : Nat) t v, Tryz.f5.params[j]? = some t → args[j]? = some v → Value.okWide Tryz.prog W .any base t v := hval0
  have hW' := hW
  obtain ⟨p, q, hA0, hV, rfl, hfz, hnd⟩ := hW
  have hA : DataW.TrodAll enc Tryz.prog W 0 (fun _ => true) true Tryz.f5.params.toList args.toList ds p := hA0
  rw [Tryz.params5] at hA hval
  obtain ⟨v0, vs0, d0, ds0, p0, q0, hargs, rfl, rfl, h0, r0⟩ := trodAll_cons hA
  obtain ⟨v1, vs1, d1, ds1, p1, q1, rfl, rfl, rfl, h1, r1⟩ := trodAll_cons r0
  obtain ⟨rfl, rfl, rfl⟩ := trodAll_nil r1
  obtain rfl : args = #[v0, v1] := by cases args; simp_all
  obtain ⟨rfl, rfl⟩ := trodVars_none hV
  have k0 := h0
  have lt0 : ∀ x ∈ p0, x.block < W.heap.size := by obtain ⟨m, hm⟩ := k0; exact DataW.trod_lt m _ _ _ hm
  have k1 := h1
  have lt1 : ∀ x ∈ p1, x.block < W.heap.size := by obtain ⟨m, hm⟩ := k1; exact DataW.trod_lt m _ _ _ hm
  obtain ⟨a0, len0, cap0, rfl⟩ := okWide_slice Tryz.underlying22 (hval 0 22 v0 rfl rfl)
  obtain ⟨L, w0⟩ := slOf rdL_Class h0
  obtain ⟨cs1, rfl, _⟩ := okWide_struct Tryz.underlying26 (hval 1 26 v1 rfl rfl)
  obtain ⟨b0, m0, e0, yg, tp, od, b4, m4, e4, ws, cd, rfl, g0, g4, f1, f2, f3⟩ := memOf h1
  clear hA0 hval0
  refine (walk a0 len0 cap0 b0 m0 e0 yg tp od b4 m4 e4  L ws cd W w0 g0 g4 f1 f2 f3 ).mono fun e W' ⟨he, bel⟩ => ?_
  subst he
  exact ⟨_, rfl, _, _, _, [], _, [], hW', trodAll_mk1 (shut_bool Tryz.underlying4 _), (trodAll_cons_mk (Below.trod laidOut (by kernel_rfl) (of_decide_eq_true (by kernel_rfl)) k0 bel lt0) (trodAll_cons_mk (Below.trod laidOut (by kernel_rfl) (of_decide_eq_true (by kernel_rfl)) k1 bel lt1) trodAll_mk0)), rfl, bel.frame _, fun h => by cases h⟩

theorem over : Rows.fnExactMemObjsRow.holds Tryz.pinned (OpenSpec.ofChange Rows.fnExactMemObjsSpec) :=
  OpenClaim.holds_of_wide 5 Tryz.f5 rfl rfl rfl rfl rfl rfl rfl ⟨rfl, rfl, rfl, rfl, rfl⟩ rfl rfl rfl rfl rfl (by kernel_rfl) Tryz.func5 (by kernel_rfl)
    (of_decide_eq_true (by kernel_rfl)) (by unfold Func.isWrapper; first | (rw [if_pos (by decide +kernel)]; kernel_rfl) | (rw [if_neg (by decide +kernel)]; exact ⟨rfl, rfl⟩))
    (fun os started H enc _ => lifted os started H enc)
theorem proved : Rows.FnExactMemObjsSaid := over
end Go.Proofs.YtjbmcdekhhbiaaaGreat.fnExactMemObjs

namespace Go.Proofs.YtjbmcdekhhbiaaaGreat
theorem fnExactMemObjs_holds : Rows.FnExactMemObjsSaid := fnExactMemObjs.proved
#print axioms fnExactMemObjs_holds
end Go.Proofs.YtjbmcdekhhbiaaaGreat
