/-
  What is made in a memory, by the program: what it says; it writes nothing that was there.
-/
import Derived.Test.YtjbmcdekhhbiaaaGreatMemMM
import Derived.Test.YtjbmcdekhhbiaaaGreatMemIj
import Derived.Deep.Cut
namespace Go.Proofs.YtjbmcdekhhbiaaaGreat
open Go.ChangeShapes Go.WideShapes Go.ChangeAt Go.RowKit
set_option linter.unusedVariables false

theorem tryM_n {m : Mm} {c n n2 : Int} {s : Nat} {old : Bool} (h : c < 0 → n = n2) : tryM m c n s old = tryM m c n2 s old := by
  by_cases hc : c < 0
  · rw [h hc]
  · have e : ∀ (xs : List Int) (i : Nat), mkW xs i c n = mkW xs i c n2 := fun xs i => by unfold mkW; rw [if_neg hc, if_neg hc]
    unfold tryM
    simp only [e]
set_option maxRecDepth 100000 in
set_option maxHeartbeats 8000000 in
theorem withImpl (ca : Option Addr) (cn cc wb wo wl wc yg tp od : Nat) (da : Option Addr) (dl dc pc ol oc ou : Nat) (ta : Option Addr) (tl tc : Nat) (c0 : Int) (ya : Option Addr) (yl yc : Nat) (isold : Bool) (ws : List Int) (cd : List Bool) (w : World) {G G2 : Nat → Prop} (hw : IntsAt G w (some ⟨wb, wo, none⟩) wl ws) (hc : SlAt boolR G2 w da dl cd) (h3 : wl ≤ 500) (h4 : 14 ≤ wl) (hd : dl ≤ 1048576) (hyl : yl ≤ 100) (hca : c0 = -1 ∨ c0 = -2 ∨ 0 ≤ c0) (m1 : tp ≤ yg) (m2 : yg ≤ od) (m3 : od ≤ wl) (hpc : yg ≤ pc) (hol : ol = wl - yg) (hoc : ol ≤ oc) (hou : ou = od - yg) :
    Calls Tryz.prog 36 #[.agg #[.slice ca cn cc, .slice (some ⟨wb, wo, none⟩) wl wc, .int .i64 (yg : Nat), .int .i64 (tp : Nat), .int .i64 (od : Nat), .slice da dl dc, .slice (some ⟨wb, wo, none⟩) yg pc, .int .i64 0, .int .i64 (tp : Nat), .slice (some ⟨wb, wo + yg, none⟩) ol oc, .int .i64 (yg : Nat), .int .i64 (ou : Nat), .slice ta tl tc], .agg #[.int .i64 0, .int .i64 c0, .slice ya yl yc], .bool isold] w (AnsM w (tryM (ws, (yg : Int), (tp : Int), (od : Int), cd) c0 (yl : Int) (hdN c0 + yl) isold).1 (.int .i64 (tryM (ws, (yg : Int), (tp : Int), (od : Int), cd) c0 (yl : Int) (hdN c0 + yl) isold).2)) := by
  have HW : Hid (IntsAt G w (some ⟨wb, wo, none⟩) wl ws) := hw
  have HC : Hid (SlAt boolR G2 w da dl cd) := hc
  have WS : Hid (ws.length = wl) := hw.size
  have CS : Hid (cd.length = dl) := hc.size
  have hd0 := hdN_pos c0
  obtain ⟨s, hs⟩ : ∃ s, hdN c0 + yl = s := ⟨_, rfl⟩
  have SS : Hid (hdN c0 + yl = s) := hs
  have hs2 : s ≤ 1000 ∧ 1 ≤ s := by omega
  have hsA : c0 = -1 ∨ c0 = -2 → 2 ≤ s := fun h => by rw [← hs, hdN_arr h]; omega
  rw [hs]
  have hol2 : ol + yg = wl := by omega
  have hou2 : ou + yg = od := by omega
  clear hw hc hs hd0 hol hou
  have hz : w.heap.size + 1 + 1 + 1 ≤ (((w.alloc (.cells #[.slice ca cn cc, .slice (some ⟨wb, wo, none⟩) wl wc, .int .i64 (yg : Nat), .int .i64 (tp : Nat), .int .i64 (od : Nat), .slice da dl dc, .slice (some ⟨wb, wo, none⟩) yg pc, .int .i64 0, .int .i64 (tp : Nat), .slice (some ⟨wb, wo + yg, none⟩) ol oc, .int .i64 (yg : Nat), .int .i64 (ou : Nat), .slice ta tl tc] 65)).alloc (.cells #[.int .i64 0, .int .i64 c0, .slice ya yl yc] 69)).alloc (.cells #[.slice none 0 0, .int .i64 0, .int .i64 0, .int .i64 0, .slice none 0 0] 29)).heap.size := by simp
  have B : Hid (∀ y, Below (w.heap.size + 1 + 1 + 1) (((w.alloc (.cells #[.slice ca cn cc, .slice (some ⟨wb, wo, none⟩) wl wc, .int .i64 (yg : Nat), .int .i64 (tp : Nat), .int .i64 (od : Nat), .slice da dl dc, .slice (some ⟨wb, wo, none⟩) yg pc, .int .i64 0, .int .i64 (tp : Nat), .slice (some ⟨wb, wo + yg, none⟩) ol oc, .int .i64 (yg : Nat), .int .i64 (ou : Nat), .slice ta tl tc] 65)).alloc (.cells #[.int .i64 0, .int .i64 c0, .slice ya yl yc] 69)).alloc (.cells #[.slice none 0 0, .int .i64 0, .int .i64 0, .int .i64 0, .slice none 0 0] 29)) y → Below w.heap.size w y) := fun y hy => (((bR.alloc (by first | exact Nat.le_refl _ | (simp; done) | (simp; omega)) _).alloc (by first | exact Nat.le_refl _ | (simp; done) | (simp; omega)) _).alloc (by first | exact Nat.le_refl _ | (simp; done) | (simp; omega)) _).trans (hy.mono (by omega))
  have XM : Hid (∀ y, Below (w.heap.size + 1 + 1 + 1) (((w.alloc (.cells #[.slice ca cn cc, .slice (some ⟨wb, wo, none⟩) wl wc, .int .i64 (yg : Nat), .int .i64 (tp : Nat), .int .i64 (od : Nat), .slice da dl dc, .slice (some ⟨wb, wo, none⟩) yg pc, .int .i64 0, .int .i64 (tp : Nat), .slice (some ⟨wb, wo + yg, none⟩) ol oc, .int .i64 (yg : Nat), .int .i64 (ou : Nat), .slice ta tl tc] 65)).alloc (.cells #[.int .i64 0, .int .i64 c0, .slice ya yl yc] 69)).alloc (.cells #[.slice none 0 0, .int .i64 0, .int .i64 0, .int .i64 0, .slice none 0 0] 29)) y → y.heap[w.heap.size]? = some (.cells #[.slice ca cn cc, .slice (some ⟨wb, wo, none⟩) wl wc, .int .i64 (yg : Nat), .int .i64 (tp : Nat), .int .i64 (od : Nat), .slice da dl dc, .slice (some ⟨wb, wo, none⟩) yg pc, .int .i64 0, .int .i64 (tp : Nat), .slice (some ⟨wb, wo + yg, none⟩) ol oc, .int .i64 (yg : Nat), .int .i64 (ou : Nat), .slice ta tl tc] 65 (0, 0))) := fun y hy => (hy.block _ (by omega)).trans ((Below.heap_alloc _ _ _ (by first | (simp; done) | (simp; omega))).trans ((Below.heap_alloc _ _ _ (by first | (simp; done) | (simp; omega))).trans (boxN _ _ _ _ (by simp))))
  have lM : w.heap.size < w.heap.size + 1 + 1 + 1 := by omega
  have XT : Hid (∀ y, Below (w.heap.size + 1 + 1 + 1) (((w.alloc (.cells #[.slice ca cn cc, .slice (some ⟨wb, wo, none⟩) wl wc, .int .i64 (yg : Nat), .int .i64 (tp : Nat), .int .i64 (od : Nat), .slice da dl dc, .slice (some ⟨wb, wo, none⟩) yg pc, .int .i64 0, .int .i64 (tp : Nat), .slice (some ⟨wb, wo + yg, none⟩) ol oc, .int .i64 (yg : Nat), .int .i64 (ou : Nat), .slice ta tl tc] 65)).alloc (.cells #[.int .i64 0, .int .i64 c0, .slice ya yl yc] 69)).alloc (.cells #[.slice none 0 0, .int .i64 0, .int .i64 0, .int .i64 0, .slice none 0 0] 29)) y → y.heap[w.heap.size + 1]? = some (.cells #[.int .i64 0, .int .i64 c0, .slice ya yl yc] 69 (0, 0))) := fun y hy => (hy.block _ (by omega)).trans ((Below.heap_alloc _ _ _ (by first | (simp; done) | (simp; omega))).trans (boxN _ _ _ _ (by simp)))
  have lT : w.heap.size + 1 < w.heap.size + 1 + 1 + 1 := by omega
  have XR : Hid (∀ y, Below (w.heap.size + 1 + 1 + 1) (((w.alloc (.cells #[.slice ca cn cc, .slice (some ⟨wb, wo, none⟩) wl wc, .int .i64 (yg : Nat), .int .i64 (tp : Nat), .int .i64 (od : Nat), .slice da dl dc, .slice (some ⟨wb, wo, none⟩) yg pc, .int .i64 0, .int .i64 (tp : Nat), .slice (some ⟨wb, wo + yg, none⟩) ol oc, .int .i64 (yg : Nat), .int .i64 (ou : Nat), .slice ta tl tc] 65)).alloc (.cells #[.int .i64 0, .int .i64 c0, .slice ya yl yc] 69)).alloc (.cells #[.slice none 0 0, .int .i64 0, .int .i64 0, .int .i64 0, .slice none 0 0] 29)) y → y.heap[w.heap.size + 1 + 1]? = some (.cells #[.slice none 0 0, .int .i64 0, .int .i64 0, .int .i64 0, .slice none 0 0] 29 (0, 0))) := fun y hy => (hy.block _ (by omega)).trans (boxN _ _ _ _ (by simp))
  have lR : w.heap.size + 1 + 1 < w.heap.size + 1 + 1 + 1 := by omega
  go_enter Tryz.func36, Tryz.ntmps36
  go_wp2_with fail
  have BP : Hid (Below (w.heap.size + 1 + 1 + 1) (((w.alloc (.cells #[.slice ca cn cc, .slice (some ⟨wb, wo, none⟩) wl wc, .int .i64 (yg : Nat), .int .i64 (tp : Nat), .int .i64 (od : Nat), .slice da dl dc, .slice (some ⟨wb, wo, none⟩) yg pc, .int .i64 0, .int .i64 (tp : Nat), .slice (some ⟨wb, wo + yg, none⟩) ol oc, .int .i64 (yg : Nat), .int .i64 (ou : Nat), .slice ta tl tc] 65)).alloc (.cells #[.int .i64 0, .int .i64 c0, .slice ya yl yc] 69)).alloc (.cells #[.slice none 0 0, .int .i64 0, .int .i64 0, .int .i64 0, .slice none 0 0] 29)) (((w.alloc (.cells #[.slice ca cn cc, .slice (some ⟨wb, wo, none⟩) wl wc, .int .i64 (yg : Nat), .int .i64 (tp : Nat), .int .i64 (od : Nat), .slice da dl dc, .slice (some ⟨wb, wo, none⟩) yg pc, .int .i64 0, .int .i64 (tp : Nat), .slice (some ⟨wb, wo + yg, none⟩) ol oc, .int .i64 (yg : Nat), .int .i64 (ou : Nat), .slice ta tl tc] 65)).alloc (.cells #[.int .i64 0, .int .i64 c0, .slice ya yl yc] 69)).alloc (.cells #[.slice none 0 0, .int .i64 0, .int .i64 0, .int .i64 0, .slice none 0 0] 29))) := bR
  refine (copyImpl (yg : Nat) (tp : Nat) (od : Nat) _ _ _ _ _ _ ws cd _ (HW.out.later (B.out _ BP.out)) (HC.out.later (B.out _ BP.out)) (by omega) hd).mono ?_
  rintro e w1 ⟨a, ac, b, bc, rfl, hA, hC, ha, hb0, hab, hb⟩
  obtain ⟨ga, oa, rfl⟩ := hA.pt (by omega)
  have hga : w.heap.size + 1 + 1 + 1 ≤ ga := by have := ha _ rfl (by omega); simpa using this
  have hga2 : ga < w1.heap.size := hA.lt _ rfl (by omega)
  have LB : Hid (∀ x, b = some x → 0 < dl → w.heap.size + 1 + 1 + 1 ≤ x.block ∧ x.block < w1.heap.size ∧ x.block ≠ ga) := fun x e h0 => ⟨by have := hb0 x e h0; simpa using this, hC.lt x e h0, fun h => hab _ _ rfl e (by omega) h0 h.symm⟩
  have HA1 : Hid (Wri w1 (some ⟨ga, oa, none⟩) wl (fun j => ws.getD j 0)) := hA
  have HC1 : Hid (WriB w1 b dl (fun j => cd.getD j false)) := hC
  have hgl : w.heap.size ≤ ga := by omega
  clear hA hC ha hb0 hab
  have hq : Below (w.heap.size + 1 + 1 + 1) (((w.alloc (.cells #[.slice ca cn cc, .slice (some ⟨wb, wo, none⟩) wl wc, .int .i64 (yg : Nat), .int .i64 (tp : Nat), .int .i64 (od : Nat), .slice da dl dc, .slice (some ⟨wb, wo, none⟩) yg pc, .int .i64 0, .int .i64 (tp : Nat), .slice (some ⟨wb, wo + yg, none⟩) ol oc, .int .i64 (yg : Nat), .int .i64 (ou : Nat), .slice ta tl tc] 65)).alloc (.cells #[.int .i64 0, .int .i64 c0, .slice ya yl yc] 69)).alloc (.cells #[.slice none 0 0, .int .i64 0, .int .i64 0, .int .i64 0, .slice none 0 0] 29)) w1 := BP.out.trans (Below.mono hb (Nat.le_trans hz BP.out.size))
  have hzn : w.heap.size + 1 + 1 + 1 ≤ w1.heap.size := Nat.le_trans hz hq.size
  replace B := lF B hq hzn
  replace XM := lF XM hq hzn
  replace lM := Nat.lt_of_lt_of_le lM hzn
  replace XT := lF XT hq hzn
  replace lT := Nat.lt_of_lt_of_le lT hzn
  replace XR := lF XR hq hzn
  replace lR := Nat.lt_of_lt_of_le lR hzn
  clear hq BP hz
  have hz : w1.heap.size ≤ w1.heap.size := Nat.le_refl _
  clear hb
  have hlow1 : w.heap.size ≤ w1.heap.size := (B.out w1 bR).size
  have FA : Hid (∀ y, Below (w1.heap.size) w1 y → Wri y (some ⟨ga, oa, none⟩) wl (fun j => (ws).getD j 0)) := fun y hy => HA1.out.later hy
  have FC : Hid (∀ y, Below (w1.heap.size) w1 y → WriB y b dl (fun j => cd.getD j false)) := fun y hy => HC1.out.later hy
  clear HA1 HC1
  cases isold
  · obtain ⟨kM0, kM1, kM2, kM3, kM4, kM5, kM6, kM7, kM8, kM9, kM10, kM11, kM12⟩ := bk13 (XM.out w1 bR)
    obtain ⟨kT0, kT1, kT2⟩ := bk3 (XT.out w1 bR)
    obtain ⟨kR0, kR1, kR2, kR3, kR4⟩ := bk5 (XR.out w1 bR)
    go_upto_region 5 with fail
    clear kM0 kM1 kM2 kM3 kM4 kM5 kM6 kM7 kM8 kM9 kM10 kM11 kM12 kT0 kT1 kT2 kR0 kR1 kR2 kR3 kR4
    clear XM lM
    have BP : Hid (Below (w1.heap.size) w1 (w1.alloc (.cells #[.slice (some ⟨ga, oa, none⟩) wl ac, .int .i64 (yg : Nat), .int .i64 (tp : Nat), .int .i64 (od : Nat), .slice b dl bc] 29))) := (bR.alloc (by first | exact hz | (simp; done) | (simp; omega) | (have := hz; simp at this ⊢; omega)) _)
    replace B := lA B BP
    replace FA := lA FA BP
    replace FC := lA FC BP
    replace XT := lA XT BP
    replace lT := lL lT
    replace XR := lA XR BP
    replace lR := lL lR
    have XN : Hid (∀ y, Below (w1.heap.size + 1) (w1.alloc (.cells #[.slice (some ⟨ga, oa, none⟩) wl ac, .int .i64 (yg : Nat), .int .i64 (tp : Nat), .int .i64 (od : Nat), .slice b dl bc] 29)) y → y.heap[w1.heap.size]? = some (.cells #[.slice (some ⟨ga, oa, none⟩) wl ac, .int .i64 (yg : Nat), .int .i64 (tp : Nat), .int .i64 (od : Nat), .slice b dl bc] 29 (0, 0))) := fun y hy => (hy.block _ (by omega)).trans (boxN _ _ _ _ (by simp))
    have lN : w1.heap.size < w1.heap.size + 1 := by omega
    replace hz : w1.heap.size + 1 ≤ ((w1.alloc (.cells #[.slice (some ⟨ga, oa, none⟩) wl ac, .int .i64 (yg : Nat), .int .i64 (tp : Nat), .int .i64 (od : Nat), .slice b dl bc] 29))).heap.size := by simp
    clear BP
    have BP : Hid (Below (w1.heap.size + 1) (w1.alloc (.cells #[.slice (some ⟨ga, oa, none⟩) wl ac, .int .i64 (yg : Nat), .int .i64 (tp : Nat), .int .i64 (od : Nat), .slice b dl bc] 29)) ((w1.alloc (.cells #[.slice (some ⟨ga, oa, none⟩) wl ac, .int .i64 (yg : Nat), .int .i64 (tp : Nat), .int .i64 (od : Nat), .slice b dl bc] 29)).alloc (.cells #[.slice (some ⟨wb, wo, none⟩) yg pc, .int .i64 0, .int .i64 (tp : Nat)] 62))) := (bR.alloc (by first | exact hz | (simp; done) | (simp; omega) | (have := hz; simp at this ⊢; omega)) _)
    replace B := lA B BP
    replace FA := lA FA BP
    replace FC := lA FC BP
    replace XT := lA XT BP
    replace lT := lL lT
    replace XR := lA XR BP
    replace lR := lL lR
    replace XN := lA XN BP
    replace lN := lL lN
    have XP : Hid (∀ y, Below (w1.heap.size + 1 + 1) ((w1.alloc (.cells #[.slice (some ⟨ga, oa, none⟩) wl ac, .int .i64 (yg : Nat), .int .i64 (tp : Nat), .int .i64 (od : Nat), .slice b dl bc] 29)).alloc (.cells #[.slice (some ⟨wb, wo, none⟩) yg pc, .int .i64 0, .int .i64 (tp : Nat)] 62)) y → y.heap[w1.heap.size + 1]? = some (.cells #[.slice (some ⟨wb, wo, none⟩) yg pc, .int .i64 0, .int .i64 (tp : Nat)] 62 (0, 0))) := fun y hy => (hy.block _ (by omega)).trans (boxN _ _ _ _ (by simp))
    have lP : w1.heap.size + 1 < w1.heap.size + 1 + 1 := by omega
    replace hz : w1.heap.size + 1 + 1 ≤ (((w1.alloc (.cells #[.slice (some ⟨ga, oa, none⟩) wl ac, .int .i64 (yg : Nat), .int .i64 (tp : Nat), .int .i64 (od : Nat), .slice b dl bc] 29)).alloc (.cells #[.slice (some ⟨wb, wo, none⟩) yg pc, .int .i64 0, .int .i64 (tp : Nat)] 62))).heap.size := by simp
    clear BP
    generalize ((w1.alloc (.cells #[.slice (some ⟨ga, oa, none⟩) wl ac, .int .i64 (yg : Nat), .int .i64 (tp : Nat), .int .i64 (od : Nat), .slice b dl bc] 29)).alloc (.cells #[.slice (some ⟨wb, wo, none⟩) yg pc, .int .i64 0, .int .i64 (tp : Nat)] 62)) = w2 at B FA FC XT XR XN XP hz ⊢
    have hzn : w1.heap.size + 1 + 1 ≤ w2.heap.size := Nat.le_trans hz (Below.size (Below.refl (w1.heap.size + 1 + 1) w2))
    replace B := lF B (Below.refl (w1.heap.size + 1 + 1) w2) hzn
    replace FA := lF FA (Below.refl (w1.heap.size + 1 + 1) w2) hzn
    replace FC := lF FC (Below.refl (w1.heap.size + 1 + 1) w2) hzn
    replace XT := lF XT (Below.refl (w1.heap.size + 1 + 1) w2) hzn
    replace lT := Nat.lt_of_lt_of_le lT hzn
    replace XR := lF XR (Below.refl (w1.heap.size + 1 + 1) w2) hzn
    replace lR := Nat.lt_of_lt_of_le lR hzn
    replace XN := lF XN (Below.refl (w1.heap.size + 1 + 1) w2) hzn
    replace lN := Nat.lt_of_lt_of_le lN hzn
    replace XP := lF XP (Below.refl (w1.heap.size + 1 + 1) w2) hzn
    replace lP := Nat.lt_of_lt_of_le lP hzn
    clear hz
    have hz : w2.heap.size ≤ w2.heap.size := Nat.le_refl _
    obtain ⟨fr, hfr⟩ : ∃ fr, (yg - tp) = fr := ⟨_, rfl⟩
    obtain ⟨pl, hpl⟩ : ∃ pl, tp + 1 = pl := ⟨_, rfl⟩
    obtain ⟨es, hes⟩ : ∃ es, tp + s = es := ⟨_, rfl⟩
    have hN1 : w1.heap.size ≠ ga := by omega
    have HES : Hid (tp + s = es) := hes
    have hadd : IntKind.i64.wrap ((tp : Int) + (s : Int)) = (es : Int) := by rw [IntKind.wrap_i64] <;> omega
    have hbd : tp + fr ≤ wl := by omega
    have KS : Hid (∀ x, Below (w2.heap.size) w2 x → x.cell? ⟨w.heap.size + 1, 0, none⟩ = some (.int .i64 0) ∧ x.cell? ⟨w.heap.size + 1, 1, none⟩ = some (.int .i64 c0) ∧ x.cell? ⟨w.heap.size + 1, 2, none⟩ = some (.slice ya yl yc) ∧ x.cell? ⟨w1.heap.size + 1, 0, none⟩ = some (.slice (some ⟨wb, wo, none⟩) yg pc) ∧ x.cell? ⟨w1.heap.size + 1, 1, none⟩ = some (.int .i64 0) ∧ x.cell? ⟨w1.heap.size + 1, 2, none⟩ = some (.int .i64 (tp : Nat))) := fun x hx => ⟨(boxG (XT.out x hx) 0).1, (boxG (XT.out x hx) 1).1, (boxG (XT.out x hx) 2).1, (boxG (XP.out x hx) 0).1, (boxG (XP.out x hx) 1).1, (boxG (XP.out x hx) 2).1⟩
    refine wp_region_held_drew (S := fun x => x.cell? ⟨w.heap.size + 1, 0, none⟩ = some (.int .i64 0) ∧ x.cell? ⟨w.heap.size + 1, 1, none⟩ = some (.int .i64 c0) ∧ x.cell? ⟨w.heap.size + 1, 2, none⟩ = some (.slice ya yl yc) ∧ x.cell? ⟨w1.heap.size + 1, 0, none⟩ = some (.slice (some ⟨wb, wo, none⟩) yg pc) ∧ x.cell? ⟨w1.heap.size + 1, 1, none⟩ = some (.int .i64 0) ∧ x.cell? ⟨w1.heap.size + 1, 2, none⟩ = some (.int .i64 (tp : Nat))) (by kernel_rfl) ?_ (fun hHeld => ?_)
    · exact KS.out _ (bdrew bR)
    refine tV 0 (v := ?_) rfl (by kernel_rfl) (fun _ _ _ h => h) ?_ (by assumption) ?_
    rotate_left 1
    · (intro x hSx; (try dsimp only at hSx); go_simp; try with_reducible rfl)
    try simp only [Act.put, zgT, zg0, zsT, zs0, zsS]
    refine tV 2 (v := ?_) rfl (by kernel_rfl) (fun _ _ _ h => h) ?_ (by assumption) ?_
    rotate_left 1
    · (intro x hSx; (try dsimp only at hSx); go_simp; try with_reducible rfl)
    try simp only [Act.put, zgT, zg0, zgS, zsT, zs0, zsS]
    refine wpAnyH_ready (rs := [1]) (by kernel_rfl) (by simp) ?_
    refine AllReadyH.cons rfl (fun K hK => ?_) AllReadyH.nil
    go_simp
    go_at_call 75
    have BP : Hid (Below (w2.heap.size) w2 w2.drew) := (bdrew bR)
    refine (sizeImpl 0 c0 ya yl yc _ (by omega)).mono ?_
    rintro e w3 ⟨rfl, hb⟩
    rw [SS.out]
    have hq : Below (w2.heap.size) w2 w3 := BP.out.trans (Below.mono hb (Nat.le_trans hz BP.out.size))
    have hzn : w2.heap.size ≤ w3.heap.size := Nat.le_trans hz hq.size
    replace B := lF B hq hzn
    replace FA := lF FA hq hzn
    replace FC := lF FC hq hzn
    replace KS := lF KS hq hzn
    replace XT := lF XT hq hzn
    replace lT := Nat.lt_of_lt_of_le lT hzn
    replace XR := lF XR hq hzn
    replace lR := Nat.lt_of_lt_of_le lR hzn
    replace XN := lF XN hq hzn
    replace lN := Nat.lt_of_lt_of_le lN hzn
    replace XP := lF XP hq hzn
    replace lP := Nat.lt_of_lt_of_le lP hzn
    clear hq BP hz
    have hz : w3.heap.size ≤ w3.heap.size := Nat.le_refl _
    clear hb
    go_wp2_with fail
    refine hK.out _ _ (KS.out _ bR) (fun hHeld2 => ?_)
    clear hK K
    try simp only [Act.put, zgT, zg0, zgS, zsT, zs0, zsS]
    refine wpAnyH_ready (rs := [3]) (by kernel_rfl) (by simp) ?_
    refine AllReadyH.cons rfl (fun K hK => ?_) AllReadyH.nil
    go_simp
    go_at_call 76
    have BP : Hid (Below (w3.heap.size) w3 w3) := bR
    refine (freeImpl wb wo yg pc 0 tp _ (by omega) (by omega)).mono ?_
    rintro e w4 ⟨ra, rc, rfl, hra, hb⟩
    rw [hfr]
    clear hra
    have hq : Below (w3.heap.size) w3 w4 := BP.out.trans (Below.mono hb (Nat.le_trans hz BP.out.size))
    have hzn : w3.heap.size ≤ w4.heap.size := Nat.le_trans hz hq.size
    replace B := lF B hq hzn
    replace FA := lF FA hq hzn
    replace FC := lF FC hq hzn
    replace KS := lF KS hq hzn
    replace XT := lF XT hq hzn
    replace lT := Nat.lt_of_lt_of_le lT hzn
    replace XR := lF XR hq hzn
    replace lR := Nat.lt_of_lt_of_le lR hzn
    replace XN := lF XN hq hzn
    replace lN := Nat.lt_of_lt_of_le lN hzn
    replace XP := lF XP hq hzn
    replace lP := Nat.lt_of_lt_of_le lP hzn
    clear hq BP hz
    have hz : w4.heap.size ≤ w4.heap.size := Nat.le_refl _
    clear hb
    go_wp2_with fail
    refine hK.out _ _ (KS.out _ bR) (fun hHeld3 => ?_)
    clear hK K
    try simp only [Act.put, zgT, zg0, zgS, zsT, zs0, zsS]
    refine tV 4 (v := ?_) rfl (by kernel_rfl) (fun _ _ _ h => h) ?_ (by assumption) ?_
    rotate_left 1
    · (intro x hSx; (try dsimp only at hSx); go_simp; try with_reducible rfl)
    try simp only [Act.put, zgT, zg0, zgS, zsT, zs0, zsS]
    refine tV 5 (v := ?_) rfl (by kernel_rfl) (fun _ _ _ h => h) ?_ (by assumption) ?_
    rotate_left 1
    · (intro x hSx; (try dsimp only at hSx); go_simp; try with_reducible rfl)
    try simp only [Act.put, zgT, zg0, zgS, zsT, zs0, zsS]
    refine wpAnyH_done (by kernel_rfl) ?_ _
    clear hHeld hHeld2 hHeld3
    clear KS
    by_cases hr : s ≤ fr
    rotate_left 1
    · have hgt : (fr : Int) < (s : Int) := by omega
      have TM : Hid (tryM (ws, (yg : Int), (tp : Int), (od : Int), cd) c0 (yl : Int) s false = ((ws, (yg : Int), (tp : Int), (od : Int), cd), 0)) := by
        show _ = _
        unfold tryM
        rw [if_neg (by simp), if_neg (by simp only; omega)]
      obtain ⟨kT0, kT1, kT2⟩ := bk3 (XT.out w4 bR)
      obtain ⟨kR0, kR1, kR2, kR3, kR4⟩ := bk5 (XR.out w4 bR)
      obtain ⟨qkR0, qkR1, qkR2, qkR3, qkR4⟩ := bq5 (XR.out w4 bR)
      obtain ⟨kN0, kN1, kN2, kN3, kN4⟩ := bk5 (XN.out w4 bR)
      obtain ⟨kP0, kP1, kP2⟩ := bk3 (XP.out w4 bR)
      go_wp2_with fail
      refine bodyPost_ret (v := .tuple #[.agg #[.slice (some ⟨ga, oa, none⟩) wl ac, .int .i64 (yg : Nat), .int .i64 (tp : Nat), .int .i64 (od : Nat), .slice b dl bc], .int .i64 0]) ?_ rfl ?_
      · simp [results, Tryz.results36, go_sem, *]
      · clear kT0 kT1 kT2 kR0 kR1 kR2 kR3 kR4 qkR0 qkR1 qkR2 qkR3 qkR4 kN0 kN1 kN2 kN3 kN4 kP0 kP1 kP2
        rw [TM.out]
        exact ⟨some ⟨ga, oa, none⟩, wl, ac, b, dl, bc, rfl, WS.out, CS.out, (FA.out w4 bR).keep (chg5 w4 (w.heap.size + 1 + 1) (.slice (some ⟨ga, oa, none⟩) wl ac) (.int .i64 (yg : Nat)) (.int .i64 (tp : Nat)) (.int .i64 (od : Nat)) (.slice b dl bc)) (fun x e h0 hd => by have h8 : x.block = w.heap.size + 1 + 1 := hd; obtain rfl := Option.some.inj e; simp only at h8; omega), (FC.out w4 bR).keep (chg5 w4 (w.heap.size + 1 + 1) (.slice (some ⟨ga, oa, none⟩) wl ac) (.int .i64 (yg : Nat)) (.int .i64 (tp : Nat)) (.int .i64 (od : Nat)) (.slice b dl bc)) (fun x e h0 hd => by have h8 : x.block = w.heap.size + 1 + 1 := hd; have := (LB.out x e h0).1; omega), (fun x e h0 => by obtain rfl := Option.some.inj e; simp only; omega), (fun x e h0 => by have := (LB.out x e h0).1; omega), (fun x y e e2 h0 h2 => by obtain rfl := Option.some.inj e; have := (LB.out y e2 h2).2.2; exact fun h => this h.symm), by (repeat (refine Below.setCell ?_ (by first | omega | (simp <;> omega)) _)); exact B.out _ bR⟩
    have hgt : ¬ ((fr : Int) < (s : Int)) := by omega
    have hil : tp < wl := by omega
    obtain ⟨kT0, kT1, kT2⟩ := bk3 (XT.out w4 bR)
    obtain ⟨kR0, kR1, kR2, kR3, kR4⟩ := bk5 (XR.out w4 bR)
    obtain ⟨kN0, kN1, kN2, kN3, kN4⟩ := bk5 (XN.out w4 bR)
    obtain ⟨kP0, kP1, kP2⟩ := bk3 (XP.out w4 bR)
    go_wp2_with fail
    clear kT0 kT1 kT2 kR0 kR1 kR2 kR3 kR4 kN0 kN1 kN2 kN3 kN4 kP0 kP1 kP2
    have BP : Hid (Below (w4.heap.size) w4 w4) := bR
    refine (nextImpl wb wo yg pc 0 tp _ (by omega) (by omega)).mono ?_
    rintro e w5 ⟨rfl, hb⟩
    rw [show (0 + tp + 1) = pl by omega]
    have hq : Below (w4.heap.size) w4 w5 := BP.out.trans (Below.mono hb (Nat.le_trans hz BP.out.size))
    have hzn : w4.heap.size ≤ w5.heap.size := Nat.le_trans hz hq.size
    replace B := lF B hq hzn
    replace FA := lF FA hq hzn
    replace FC := lF FC hq hzn
    replace XT := lF XT hq hzn
    replace lT := Nat.lt_of_lt_of_le lT hzn
    replace XR := lF XR hq hzn
    replace lR := Nat.lt_of_lt_of_le lR hzn
    replace XN := lF XN hq hzn
    replace lN := Nat.lt_of_lt_of_le lN hzn
    replace XP := lF XP hq hzn
    replace lP := Nat.lt_of_lt_of_le lP hzn
    clear hq BP hz
    have hz : w5.heap.size ≤ w5.heap.size := Nat.le_refl _
    clear hb
    obtain ⟨kT0, kT1, kT2⟩ := bk3 (XT.out w5 bR)
    obtain ⟨qkT0, qkT1, qkT2⟩ := bq3 (XT.out w5 bR)
    obtain ⟨kR0, kR1, kR2, kR3, kR4⟩ := bk5 (XR.out w5 bR)
    obtain ⟨kN0, kN1, kN2, kN3, kN4⟩ := bk5 (XN.out w5 bR)
    obtain ⟨kP0, kP1, kP2⟩ := bk3 (XP.out w5 bR)
    go_upto_region 8 with fail
    clear kT0 kT1 kT2 qkT0 qkT1 qkT2 kR0 kR1 kR2 kR3 kR4 kN0 kN1 kN2 kN3 kN4 kP0 kP1 kP2
    clear XP lP
    have hw0 : w.heap.size ≤ w.heap.size + 1 := (by first | omega | (simp; done) | (simp; omega) | (simp at *; omega))
    replace XR := lS XR lR ((w5.setCell ⟨w.heap.size + 1, 0, none⟩ (.int .i64 (pl : Nat)))) ((Below.heap_setCell _ _ _ _ (by first | omega | (simp; done) | (simp; omega))))
    replace XN := lS XN lN ((w5.setCell ⟨w.heap.size + 1, 0, none⟩ (.int .i64 (pl : Nat)))) ((Below.heap_setCell _ _ _ _ (by first | omega | (simp; done) | (simp; omega))))
    replace XT : Hid (∀ y, Below (w5.heap.size) (w5.setCell ⟨w.heap.size + 1, 0, none⟩ (.int .i64 (pl : Nat))) y → y.heap[w.heap.size + 1]? = some (.cells #[.int .i64 (pl : Nat), .int .i64 c0, .slice ya yl yc] 69 (0, 0))) := fun y hy => (hy.block _ (by omega)).trans (boxS (XT.out w5 bR) 0 _)
    replace FA : Hid (∀ y, Below (w5.heap.size) (w5.setCell ⟨w.heap.size + 1, 0, none⟩ (.int .i64 (pl : Nat))) y → Wri y (some ⟨ga, oa, none⟩) wl (fun j => (ws).getD j 0)) := fun y hy => ((FA.out w5 bR).keep (D := fun k9 => k9 = w.heap.size + 1) (Chg.set _ _ _ rfl) (fun x e h0 hd => by have h8 : x.block = w.heap.size + 1 := hd; obtain rfl := Option.some.inj e; simp only at h8; omega)).later (hy.mono (by first | (simp; done) | (simp; omega)))
    replace FC : Hid (∀ y, Below (w5.heap.size) (w5.setCell ⟨w.heap.size + 1, 0, none⟩ (.int .i64 (pl : Nat))) y → WriB y b dl (fun j => cd.getD j false)) := fun y hy => ((FC.out w5 bR).keep (D := fun k9 => k9 = w.heap.size + 1) (Chg.set _ _ _ rfl) (fun x e h0 hd => by have h8 : x.block = w.heap.size + 1 := hd; have := LB.out x e h0; omega)).later (hy.mono (by first | (simp; done) | (simp; omega)))
    replace B : Hid (∀ y, Below (w5.heap.size) (w5.setCell ⟨w.heap.size + 1, 0, none⟩ (.int .i64 (pl : Nat))) y → Below w.heap.size w y) := fun y hy => ((B.out w5 bR).setCell hw0 _).trans (hy.mono (by first | omega | exact Nat.le_trans (B.out w5 bR).size hz | (have := (B.out w5 bR).size; omega)))
    replace hz : w5.heap.size ≤ (w5.setCell ⟨w.heap.size + 1, 0, none⟩ (.int .i64 (pl : Nat))).heap.size := by first | (simp; done) | simpa using hz
    clear hw0
    generalize (w5.setCell ⟨w.heap.size + 1, 0, none⟩ (.int .i64 (pl : Nat))) = w6 at B FA FC XT XR XN hz ⊢
    have hzn : w5.heap.size ≤ w6.heap.size := Nat.le_trans hz (Below.size (Below.refl (w5.heap.size) w6))
    replace B := lF B (Below.refl (w5.heap.size) w6) hzn
    replace FA := lF FA (Below.refl (w5.heap.size) w6) hzn
    replace FC := lF FC (Below.refl (w5.heap.size) w6) hzn
    replace XT := lF XT (Below.refl (w5.heap.size) w6) hzn
    replace lT := Nat.lt_of_lt_of_le lT hzn
    replace XR := lF XR (Below.refl (w5.heap.size) w6) hzn
    replace lR := Nat.lt_of_lt_of_le lR hzn
    replace XN := lF XN (Below.refl (w5.heap.size) w6) hzn
    replace lN := Nat.lt_of_lt_of_le lN hzn
    clear hz
    have hz : w6.heap.size ≤ w6.heap.size := Nat.le_refl _
    have hsub : IntKind.i64.wrap ((pl : Int) - 1) = (tp : Int) := by rw [IntKind.wrap_i64] <;> omega
    obtain ⟨kA1, kA2⟩ := (FA.out w6 bR).cell hil
    obtain ⟨kT0, kT1, kT2⟩ := bk3 (XT.out w6 bR)
    obtain ⟨kR0, kR1, kR2, kR3, kR4⟩ := bk5 (XR.out w6 bR)
    obtain ⟨kN0, kN1, kN2, kN3, kN4⟩ := bk5 (XN.out w6 bR)
    go_upto_region 9 with fail
    clear kT0 kT1 kT2 kR0 kR1 kR2 kR3 kR4 kN0 kN1 kN2 kN3 kN4
    clear kA1 kA2
    replace XT := lS XT lT (w6.setCell ⟨ga, oa + tp, none⟩ (.int .i64 c0)) (Below.heap_setCell _ _ _ _ (by simp only; omega))
    replace XR := lS XR lR (w6.setCell ⟨ga, oa + tp, none⟩ (.int .i64 c0)) (Below.heap_setCell _ _ _ _ (by simp only; omega))
    replace XN := lS XN lN (w6.setCell ⟨ga, oa + tp, none⟩ (.int .i64 c0)) (Below.heap_setCell _ _ _ _ (by simp only; omega))
    have hs9 : (w6.setCell ⟨ga, oa + tp, none⟩ (.int .i64 c0)).heap.size = w6.heap.size := World.size_setCell _ _ _
    have FA9 : Hid (∀ y, Below (w6.heap.size) (w6.setCell ⟨ga, oa + tp, none⟩ (.int .i64 c0)) y → Wri y (some ⟨ga, oa, none⟩) wl (fun j => (ws.set tp c0).getD j 0)) := fun y hy => (((FA.out w6 bR).put hil c0).congr (fun j _ => (set_getD ws _ c0 0 (by first | (rw [List.length_set, WS.out]; exact hil) | (rw [WS.out]; exact hil)) j).symm)).later (hy.mono (by rw [hs9]; first | exact Nat.le_refl _ | (simp; done) | omega))
    have FC9 : Hid (∀ y, Below (w6.heap.size) (w6.setCell ⟨ga, oa + tp, none⟩ (.int .i64 c0)) y → WriB y b dl (fun j => cd.getD j false)) := fun y hy => ((FC.out w6 bR).keep (D := fun k9 => k9 = ga) (Chg.set _ _ _ rfl) (fun x e h0 hd => (LB.out x e h0).2.2 hd)).later (hy.mono (by rw [hs9]; first | exact Nat.le_refl _ | (simp; done) | omega))
    replace B : Hid (∀ y, Below (w6.heap.size) (w6.setCell ⟨ga, oa + tp, none⟩ (.int .i64 c0)) y → Below w.heap.size w y) := fun y hy => ((B.out w6 bR).setCell hgl _).trans (hy.mono (by first | omega | exact Nat.le_trans (B.out w6 bR).size hz))
    clear FA FC
    replace hz : w6.heap.size ≤ (w6.setCell ⟨ga, oa + tp, none⟩ (.int .i64 c0)).heap.size := by rw [hs9]; exact hz
    clear hs9
    have FA := FA9
    have FC := FC9
    clear FA9 FC9
    generalize (w6.setCell ⟨ga, oa + tp, none⟩ (.int .i64 c0)) = w7 at B FA FC XT XR XN hz ⊢
    have hzn : w6.heap.size ≤ w7.heap.size := Nat.le_trans hz (Below.size (Below.refl (w6.heap.size) w7))
    replace B := lF B (Below.refl (w6.heap.size) w7) hzn
    replace FA := lF FA (Below.refl (w6.heap.size) w7) hzn
    replace FC := lF FC (Below.refl (w6.heap.size) w7) hzn
    replace XT := lF XT (Below.refl (w6.heap.size) w7) hzn
    replace lT := Nat.lt_of_lt_of_le lT hzn
    replace XR := lF XR (Below.refl (w6.heap.size) w7) hzn
    replace lR := Nat.lt_of_lt_of_le lR hzn
    replace XN := lF XN (Below.refl (w6.heap.size) w7) hzn
    replace lN := Nat.lt_of_lt_of_le lN hzn
    clear hz
    have hz : w7.heap.size ≤ w7.heap.size := Nat.le_refl _
    obtain ⟨kT0, kT1, kT2⟩ := bk3 (XT.out w7 bR)
    obtain ⟨kR0, kR1, kR2, kR3, kR4⟩ := bk5 (XR.out w7 bR)
    obtain ⟨kN0, kN1, kN2, kN3, kN4⟩ := bk5 (XN.out w7 bR)
    go_wp2_with fail
    refine (isArrayImpl c0 _).mono ?_
    rintro e wz ⟨rfl, rfl⟩
    by_cases har : c0 = -1 ∨ c0 = -2
    · have hpw : pl < wl := by have := hsA har; omega
      rw [show (c0 == -1 || c0 == -2) = true by rcases har with h | h <;> simp [h]]
      obtain ⟨kA1, kA2⟩ := (FA.out w7 bR).cell hpw
      go_upto_region 11 with fail
      clear kT0 kT1 kT2 kR0 kR1 kR2 kR3 kR4 kN0 kN1 kN2 kN3 kN4
      clear kA1 kA2
      replace XT := lS XT lT (w7.setCell ⟨ga, oa + pl, none⟩ (.int .i64 (yl : Nat))) (Below.heap_setCell _ _ _ _ (by simp only; omega))
      replace XR := lS XR lR (w7.setCell ⟨ga, oa + pl, none⟩ (.int .i64 (yl : Nat))) (Below.heap_setCell _ _ _ _ (by simp only; omega))
      replace XN := lS XN lN (w7.setCell ⟨ga, oa + pl, none⟩ (.int .i64 (yl : Nat))) (Below.heap_setCell _ _ _ _ (by simp only; omega))
      have hs9 : (w7.setCell ⟨ga, oa + pl, none⟩ (.int .i64 (yl : Nat))).heap.size = w7.heap.size := World.size_setCell _ _ _
      have FA9 : Hid (∀ y, Below (w7.heap.size) (w7.setCell ⟨ga, oa + pl, none⟩ (.int .i64 (yl : Nat))) y → Wri y (some ⟨ga, oa, none⟩) wl (fun j => ((ws.set tp c0).set pl (yl : Int)).getD j 0)) := fun y hy => (((FA.out w7 bR).put hpw (yl : Int)).congr (fun j _ => (set_getD (ws.set tp c0) _ (yl : Int) 0 (by first | (rw [List.length_set, WS.out]; exact hpw) | (rw [WS.out]; exact hpw)) j).symm)).later (hy.mono (by rw [hs9]; first | exact Nat.le_refl _ | (simp; done) | omega))
      have FC9 : Hid (∀ y, Below (w7.heap.size) (w7.setCell ⟨ga, oa + pl, none⟩ (.int .i64 (yl : Nat))) y → WriB y b dl (fun j => cd.getD j false)) := fun y hy => ((FC.out w7 bR).keep (D := fun k9 => k9 = ga) (Chg.set _ _ _ rfl) (fun x e h0 hd => (LB.out x e h0).2.2 hd)).later (hy.mono (by rw [hs9]; first | exact Nat.le_refl _ | (simp; done) | omega))
      replace B : Hid (∀ y, Below (w7.heap.size) (w7.setCell ⟨ga, oa + pl, none⟩ (.int .i64 (yl : Nat))) y → Below w.heap.size w y) := fun y hy => ((B.out w7 bR).setCell hgl _).trans (hy.mono (by first | omega | exact Nat.le_trans (B.out w7 bR).size hz))
      clear FA FC
      replace hz : w7.heap.size ≤ (w7.setCell ⟨ga, oa + pl, none⟩ (.int .i64 (yl : Nat))).heap.size := by rw [hs9]; exact hz
      clear hs9
      have FA := FA9
      have FC := FC9
      clear FA9 FC9
      generalize (w7.setCell ⟨ga, oa + pl, none⟩ (.int .i64 (yl : Nat))) = w8 at B FA FC XT XR XN hz ⊢
      have hzn : w7.heap.size ≤ w8.heap.size := Nat.le_trans hz (Below.size (Below.refl (w7.heap.size) w8))
      replace B := lF B (Below.refl (w7.heap.size) w8) hzn
      replace FA := lF FA (Below.refl (w7.heap.size) w8) hzn
      replace FC := lF FC (Below.refl (w7.heap.size) w8) hzn
      replace XT := lF XT (Below.refl (w7.heap.size) w8) hzn
      replace lT := Nat.lt_of_lt_of_le lT hzn
      replace XR := lF XR (Below.refl (w7.heap.size) w8) hzn
      replace lR := Nat.lt_of_lt_of_le lR hzn
      replace XN := lF XN (Below.refl (w7.heap.size) w8) hzn
      replace lN := Nat.lt_of_lt_of_le lN hzn
      clear hz
      have hz : w8.heap.size ≤ w8.heap.size := Nat.le_refl _
      have TM : Hid (tryM (ws, (yg : Int), (tp : Int), (od : Int), cd) c0 (yl : Int) s false = (((ws.set tp c0).set pl (yl : Int), (yg : Int), (es : Int), (od : Int), cd), (pl : Int))) := by
        show _ = _
        have e1 : mkW ws tp c0 (yl : Int) = (ws.set tp c0).set pl (yl : Int) := by unfold mkW; rw [if_pos (by omega), hpl]
        unfold tryM
        rw [if_neg (by simp), if_pos (by simp only; omega)]
        simp only [Int.toNat_natCast, e1]
        rw [← HES.out, ← hpl]; rfl
      have LN : Hid (((ws.set tp c0).set pl (yl : Int)).length = wl) := by show _ = _; simp [WS.out]
      have KS : Hid (∀ x, Below (w8.heap.size) w8 x → x.cell? ⟨w.heap.size + 1, 0, none⟩ = some (.int .i64 (pl : Nat)) ∧ x.cell? ⟨w.heap.size + 1, 1, none⟩ = some (.int .i64 c0) ∧ x.cell? ⟨w.heap.size + 1, 2, none⟩ = some (.slice ya yl yc)) := fun x hx => bk3 (XT.out x hx)
      refine wp_region_held_drew (S := fun x => x.cell? ⟨w.heap.size + 1, 0, none⟩ = some (.int .i64 (pl : Nat)) ∧ x.cell? ⟨w.heap.size + 1, 1, none⟩ = some (.int .i64 c0) ∧ x.cell? ⟨w.heap.size + 1, 2, none⟩ = some (.slice ya yl yc)) (by kernel_rfl) ?_ (fun hHeld => ?_)
      · exact KS.out _ (bdrew bR)
      refine tV 0 (v := ?_) rfl (by kernel_rfl) (fun _ _ _ h => h) ?_ (by assumption) ?_
      rotate_left 1
      · (intro x hSx; (try dsimp only at hSx); go_simp; try with_reducible rfl)
      try simp only [Act.put, zgT, zg0, zsT, zs0, zsS]
      refine tV 1 (v := ?_) rfl (by kernel_rfl) (fun _ _ _ h => h) ?_ (by assumption) ?_
      rotate_left 1
      · (intro x hSx; (try dsimp only at hSx); go_simp; try with_reducible rfl)
      try simp only [Act.put, zgT, zg0, zgS, zsT, zs0, zsS]
      refine tV 3 (v := ?_) rfl (by kernel_rfl) (fun _ _ _ h => h) ?_ (by assumption) ?_
      rotate_left 1
      · (intro x hSx; (try dsimp only at hSx); go_simp; try with_reducible rfl)
      try simp only [Act.put, zgT, zg0, zgS, zsT, zs0, zsS]
      refine wpAnyH_ready (rs := [2, 4]) (by kernel_rfl) (by simp) ?_
      refine AllReadyH.cons rfl (fun K hK => ?_) (AllReadyH.cons rfl (fun K hK => ?_) AllReadyH.nil)
      · obtain ⟨kN0, kN1, kN2, kN3, kN4⟩ := bk5 (XN.out w8 bR)
        go_simp
        clear kN0 kN1 kN2 kN3 kN4
        refine hK.out _ _ (KS.out _ (bdrew bR)) (fun hHeld2 => ?_)
        clear hK K
        try simp only [Act.put, zgT, zg0, zgS, zsT, zs0, zsS]
        refine wpAnyH_ready (rs := [4]) (by kernel_rfl) (by simp) ?_
        refine AllReadyH.cons rfl (fun K hK => ?_) AllReadyH.nil
        go_simp
        go_at_call 75
        have BP : Hid (Below (w8.heap.size) w8 w8.drew) := (bdrew bR)
        refine (sizeImpl (pl : Nat) c0 ya yl yc _ (by omega)).mono ?_
        rintro e w9 ⟨rfl, hb⟩
        rw [SS.out]
        have hq : Below (w8.heap.size) w8 w9 := BP.out.trans (Below.mono hb (Nat.le_trans hz BP.out.size))
        have hzn : w8.heap.size ≤ w9.heap.size := Nat.le_trans hz hq.size
        replace B := lF B hq hzn
        replace FA := lF FA hq hzn
        replace FC := lF FC hq hzn
        replace KS := lF KS hq hzn
        replace XT := lF XT hq hzn
        replace lT := Nat.lt_of_lt_of_le lT hzn
        replace XR := lF XR hq hzn
        replace lR := Nat.lt_of_lt_of_le lR hzn
        replace XN := lF XN hq hzn
        replace lN := Nat.lt_of_lt_of_le lN hzn
        clear hq BP hz
        have hz : w9.heap.size ≤ w9.heap.size := Nat.le_refl _
        clear hb
        go_wp2_with fail
        refine hK.out _ _ (KS.out _ bR) (fun hHeld3 => ?_)
        clear hK K
        try simp only [Act.put, zgT, zg0, zgS, zsT, zs0, zsS]
        refine tV 5 (v := ?_) rfl (by kernel_rfl) (fun _ _ _ h => h) ?_ (by assumption) ?_
        rotate_left 1
        · (intro x hSx; (try dsimp only at hSx); go_simp; try with_reducible rfl)
        try simp only [Act.put, zgT, zg0, zgS, zsT, zs0, zsS]
        refine tV 6 (v := ?_) rfl (by kernel_rfl) (fun _ _ _ h => h) ?_ (by assumption) ?_
        rotate_left 1
        · (intro x hSx; (try dsimp only at hSx); go_simp; try with_reducible rfl)
        try simp only [Act.put, zgT, zg0, zgS, zsT, zs0, zsS]
        refine wpAnyH_ready (rs := [7]) (by kernel_rfl) (by simp) ?_
        refine AllReadyH.cons rfl (fun K hK => ?_) AllReadyH.nil
        obtain ⟨kN0, kN1, kN2, kN3, kN4⟩ := bk5 (XN.out w9 bR)
        obtain ⟨qkN0, qkN1, qkN2, qkN3, qkN4⟩ := bq5 (XN.out w9 bR)
        go_simp
        clear kN0 kN1 kN2 kN3 kN4 qkN0 qkN1 qkN2 qkN3 qkN4
        have hw0 : w.heap.size ≤ w1.heap.size := hlow1
        replace XT := lS XT lT ((w9.setCell ⟨w1.heap.size, 2, none⟩ (.int .i64 (es : Nat)))) ((Below.heap_setCell _ _ _ _ (by first | omega | (simp; done) | (simp; omega))))
        replace XR := lS XR lR ((w9.setCell ⟨w1.heap.size, 2, none⟩ (.int .i64 (es : Nat)))) ((Below.heap_setCell _ _ _ _ (by first | omega | (simp; done) | (simp; omega))))
        replace XN : Hid (∀ y, Below (w9.heap.size) (w9.setCell ⟨w1.heap.size, 2, none⟩ (.int .i64 (es : Nat))) y → y.heap[w1.heap.size]? = some (.cells #[.slice (some ⟨ga, oa, none⟩) wl ac, .int .i64 (yg : Nat), .int .i64 (es : Nat), .int .i64 (od : Nat), .slice b dl bc] 29 (0, 0))) := fun y hy => (hy.block _ (by omega)).trans (boxS (XN.out w9 bR) 2 _)
        replace FA : Hid (∀ y, Below (w9.heap.size) (w9.setCell ⟨w1.heap.size, 2, none⟩ (.int .i64 (es : Nat))) y → Wri y (some ⟨ga, oa, none⟩) wl (fun j => ((ws.set tp c0).set pl (yl : Int)).getD j 0)) := fun y hy => ((FA.out w9 bR).keep (D := fun k9 => k9 = w1.heap.size) (Chg.set _ _ _ rfl) (fun x e h0 hd => by have h8 : x.block = w1.heap.size := hd; obtain rfl := Option.some.inj e; simp only at h8; omega)).later (hy.mono (by first | (simp; done) | (simp; omega)))
        replace FC : Hid (∀ y, Below (w9.heap.size) (w9.setCell ⟨w1.heap.size, 2, none⟩ (.int .i64 (es : Nat))) y → WriB y b dl (fun j => cd.getD j false)) := fun y hy => ((FC.out w9 bR).keep (D := fun k9 => k9 = w1.heap.size) (Chg.set _ _ _ rfl) (fun x e h0 hd => by have h8 : x.block = w1.heap.size := hd; have := LB.out x e h0; omega)).later (hy.mono (by first | (simp; done) | (simp; omega)))
        clear KS
        replace B : Hid (∀ y, Below (w9.heap.size) (w9.setCell ⟨w1.heap.size, 2, none⟩ (.int .i64 (es : Nat))) y → Below w.heap.size w y) := fun y hy => ((B.out w9 bR).setCell hw0 _).trans (hy.mono (by first | omega | exact Nat.le_trans (B.out w9 bR).size hz | (have := (B.out w9 bR).size; omega)))
        replace hz : w9.heap.size ≤ (w9.setCell ⟨w1.heap.size, 2, none⟩ (.int .i64 (es : Nat))).heap.size := by first | (simp; done) | simpa using hz
        clear hw0
        have KS : Hid (∀ x, Below (w9.heap.size) (w9.setCell ⟨w1.heap.size, 2, none⟩ (.int .i64 (es : Nat))) x → x.cell? ⟨w.heap.size + 1, 0, none⟩ = some (.int .i64 (pl : Nat)) ∧ x.cell? ⟨w.heap.size + 1, 1, none⟩ = some (.int .i64 c0) ∧ x.cell? ⟨w.heap.size + 1, 2, none⟩ = some (.slice ya yl yc)) := fun x hx => bk3 (XT.out x hx)
        refine hK.out _ _ (KS.out _ bR) (fun hHeld4 => ?_)
        clear hK K
        try simp only [Act.put, zgT, zg0, zgS, zsT, zs0, zsS]
        refine wpAnyH_done (by kernel_rfl) ?_ _
        clear hHeld hHeld2 hHeld3 hHeld4
        clear KS
        generalize (w9.setCell ⟨w1.heap.size, 2, none⟩ (.int .i64 (es : Nat))) = w10 at B FA FC XT XR XN hz ⊢
        have hzn : w9.heap.size ≤ w10.heap.size := Nat.le_trans hz (Below.size (Below.refl (w9.heap.size) w10))
        replace B := lF B (Below.refl (w9.heap.size) w10) hzn
        replace FA := lF FA (Below.refl (w9.heap.size) w10) hzn
        replace FC := lF FC (Below.refl (w9.heap.size) w10) hzn
        replace XT := lF XT (Below.refl (w9.heap.size) w10) hzn
        replace lT := Nat.lt_of_lt_of_le lT hzn
        replace XR := lF XR (Below.refl (w9.heap.size) w10) hzn
        replace lR := Nat.lt_of_lt_of_le lR hzn
        replace XN := lF XN (Below.refl (w9.heap.size) w10) hzn
        replace lN := Nat.lt_of_lt_of_le lN hzn
        clear hz
        have hz : w10.heap.size ≤ w10.heap.size := Nat.le_refl _
        obtain ⟨kT0, kT1, kT2⟩ := bk3 (XT.out w10 bR)
        obtain ⟨kR0, kR1, kR2, kR3, kR4⟩ := bk5 (XR.out w10 bR)
        obtain ⟨kN0, kN1, kN2, kN3, kN4⟩ := bk5 (XN.out w10 bR)
        go_wp2_with fail
        clear kT0 kT1 kT2 kR0 kR1 kR2 kR3 kR4 kN0 kN1 kN2 kN3 kN4
        have KS : Hid (∀ x, Below (w10.heap.size) w10 x → x.cell? ⟨w.heap.size + 1, 0, none⟩ = some (.int .i64 (pl : Nat)) ∧ x.cell? ⟨w.heap.size + 1, 1, none⟩ = some (.int .i64 c0) ∧ x.cell? ⟨w.heap.size + 1, 2, none⟩ = some (.slice ya yl yc) ∧ x.cell? ⟨w1.heap.size, 0, none⟩ = some (.slice (some ⟨ga, oa, none⟩) wl ac) ∧ x.cell? ⟨w1.heap.size, 1, none⟩ = some (.int .i64 (yg : Nat)) ∧ x.cell? ⟨w1.heap.size, 2, none⟩ = some (.int .i64 (es : Nat)) ∧ x.cell? ⟨w1.heap.size, 3, none⟩ = some (.int .i64 (od : Nat)) ∧ x.cell? ⟨w1.heap.size, 4, none⟩ = some (.slice b dl bc)) := fun x hx => ⟨(boxG (XT.out x hx) 0).1, (boxG (XT.out x hx) 1).1, (boxG (XT.out x hx) 2).1, (boxG (XN.out x hx) 0).1, (boxG (XN.out x hx) 1).1, (boxG (XN.out x hx) 2).1, (boxG (XN.out x hx) 3).1, (boxG (XN.out x hx) 4).1⟩
        refine wp_region_held_drew (S := fun x => x.cell? ⟨w.heap.size + 1, 0, none⟩ = some (.int .i64 (pl : Nat)) ∧ x.cell? ⟨w.heap.size + 1, 1, none⟩ = some (.int .i64 c0) ∧ x.cell? ⟨w.heap.size + 1, 2, none⟩ = some (.slice ya yl yc) ∧ x.cell? ⟨w1.heap.size, 0, none⟩ = some (.slice (some ⟨ga, oa, none⟩) wl ac) ∧ x.cell? ⟨w1.heap.size, 1, none⟩ = some (.int .i64 (yg : Nat)) ∧ x.cell? ⟨w1.heap.size, 2, none⟩ = some (.int .i64 (es : Nat)) ∧ x.cell? ⟨w1.heap.size, 3, none⟩ = some (.int .i64 (od : Nat)) ∧ x.cell? ⟨w1.heap.size, 4, none⟩ = some (.slice b dl bc)) (by kernel_rfl) ?_ (fun hHeld => ?_)
        · exact KS.out _ (bdrew bR)
        refine tV 0 (v := ?_) rfl (by kernel_rfl) (fun _ _ _ h => h) ?_ (by assumption) ?_
        rotate_left 1
        · (intro x hSx; (try dsimp only at hSx); go_simp; try with_reducible rfl)
        try simp only [Act.put, zgT, zg0, zsT, zs0, zsS]
        refine tV 1 (v := ?_) rfl (by kernel_rfl) (fun _ _ _ h => h) ?_ (by assumption) ?_
        rotate_left 1
        · (intro x hSx; (try dsimp only at hSx); go_simp; try with_reducible rfl)
        try simp only [Act.put, zgT, zg0, zgS, zsT, zs0, zsS]
        refine tV 2 (v := ?_) rfl (by kernel_rfl) (fun _ _ _ h => h) ?_ (by assumption) ?_
        rotate_left 1
        · (intro x hSx; (try dsimp only at hSx); go_simp; try with_reducible rfl)
        try simp only [Act.put, zgT, zg0, zgS, zsT, zs0, zsS]
        refine wpAnyH_ready (rs := [3]) (by kernel_rfl) (by simp) ?_
        refine AllReadyH.cons rfl (fun K hK => ?_) AllReadyH.nil
        obtain ⟨kR0, kR1, kR2, kR3, kR4⟩ := bk5 (XR.out w10 bR)
        obtain ⟨qkR0, qkR1, qkR2, qkR3, qkR4⟩ := bq5 (XR.out w10 bR)
        go_simp
        clear kR0 kR1 kR2 kR3 kR4 qkR0 qkR1 qkR2 qkR3 qkR4
        generalize hW : (((((w10.setCell ⟨w.heap.size + 1 + 1, 0, none⟩ (.slice (some ⟨ga, oa, none⟩) wl ac)).setCell ⟨w.heap.size + 1 + 1, 1, none⟩ (.int .i64 (yg : Nat))).setCell ⟨w.heap.size + 1 + 1, 2, none⟩ (.int .i64 (es : Nat))).setCell ⟨w.heap.size + 1 + 1, 3, none⟩ (.int .i64 (od : Nat))).setCell ⟨w.heap.size + 1 + 1, 4, none⟩ (.slice b dl bc)) = wB1
        have hkB : ∀ a, a ≠ w.heap.size + 1 + 1 → wB1.heap[a]? = w10.heap[a]? := by subst hW; exact fun a h => (Below.heap_setCell _ _ _ _ h).trans ((Below.heap_setCell _ _ _ _ h).trans ((Below.heap_setCell _ _ _ _ h).trans ((Below.heap_setCell _ _ _ _ h).trans ((Below.heap_setCell _ _ _ _ h)))))
        have hw0 : w.heap.size ≤ w.heap.size + 1 + 1 := (by first | omega | (simp; done) | (simp; omega) | (simp at *; omega))
        replace XT := lS XT lT wB1 (hkB _ (by first | omega | (simp; done) | (simp; omega)))
        replace XN := lS XN lN wB1 (hkB _ (by first | omega | (simp; done) | (simp; omega)))
        replace XR : Hid (∀ y, Below (w10.heap.size) wB1 y → y.heap[w.heap.size + 1 + 1]? = some (.cells #[.slice (some ⟨ga, oa, none⟩) wl ac, .int .i64 (yg : Nat), .int .i64 (es : Nat), .int .i64 (od : Nat), .slice b dl bc] 29 (0, 0))) := fun y hy => by subst hW; exact (hy.block _ (by omega)).trans (boxS (boxS (boxS (boxS (boxS (XR.out w10 bR) 0 _) 1 _) 2 _) 3 _) 4 _)
        replace FA : Hid (∀ y, Below (w10.heap.size) wB1 y → Wri y (some ⟨ga, oa, none⟩) wl (fun j => ((ws.set tp c0).set pl (yl : Int)).getD j 0)) := fun y hy => by subst hW; exact ((FA.out w10 bR).keep (D := fun k9 => k9 = w.heap.size + 1 + 1) (chg5 w10 (w.heap.size + 1 + 1) (.slice (some ⟨ga, oa, none⟩) wl ac) (.int .i64 (yg : Nat)) (.int .i64 (es : Nat)) (.int .i64 (od : Nat)) (.slice b dl bc)) (fun x e h0 hd => by have h8 : x.block = w.heap.size + 1 + 1 := hd; obtain rfl := Option.some.inj e; simp only at h8; omega)).later (hy.mono (by first | (simp; done) | (simp; omega)))
        replace FC : Hid (∀ y, Below (w10.heap.size) wB1 y → WriB y b dl (fun j => cd.getD j false)) := fun y hy => by subst hW; exact ((FC.out w10 bR).keep (D := fun k9 => k9 = w.heap.size + 1 + 1) (chg5 w10 (w.heap.size + 1 + 1) (.slice (some ⟨ga, oa, none⟩) wl ac) (.int .i64 (yg : Nat)) (.int .i64 (es : Nat)) (.int .i64 (od : Nat)) (.slice b dl bc)) (fun x e h0 hd => by have h8 : x.block = w.heap.size + 1 + 1 := hd; have := LB.out x e h0; omega)).later (hy.mono (by first | (simp; done) | (simp; omega)))
        clear KS
        replace B : Hid (∀ y, Below (w10.heap.size) wB1 y → Below w.heap.size w y) := fun y hy => by subst hW; exact ((((((B.out w10 bR).setCell hw0 _).setCell hw0 _).setCell hw0 _).setCell hw0 _).setCell hw0 _).trans (hy.mono (by first | omega | exact Nat.le_trans (B.out w10 bR).size hz | (have := (B.out w10 bR).size; omega)))
        replace hz : w10.heap.size ≤ wB1.heap.size := by subst hW; first | (simp; done) | simpa using hz
        clear hw0 hW hkB
        replace B := lD B
        replace FA := lD FA
        replace FC := lD FC
        replace XT := lD XT
        replace XR := lD XR
        replace XN := lD XN
        replace hz : w10.heap.size ≤ (wB1.drew).heap.size := Nat.le_trans hz (Below.size (bdrew (Below.refl (w10.heap.size) wB1)))
        have KS : Hid (∀ x, Below (w10.heap.size) (wB1.drew) x → x.cell? ⟨w.heap.size + 1, 0, none⟩ = some (.int .i64 (pl : Nat)) ∧ x.cell? ⟨w.heap.size + 1, 1, none⟩ = some (.int .i64 c0) ∧ x.cell? ⟨w.heap.size + 1, 2, none⟩ = some (.slice ya yl yc) ∧ x.cell? ⟨w1.heap.size, 0, none⟩ = some (.slice (some ⟨ga, oa, none⟩) wl ac) ∧ x.cell? ⟨w1.heap.size, 1, none⟩ = some (.int .i64 (yg : Nat)) ∧ x.cell? ⟨w1.heap.size, 2, none⟩ = some (.int .i64 (es : Nat)) ∧ x.cell? ⟨w1.heap.size, 3, none⟩ = some (.int .i64 (od : Nat)) ∧ x.cell? ⟨w1.heap.size, 4, none⟩ = some (.slice b dl bc)) := fun x hx => ⟨(boxG (XT.out x hx) 0).1, (boxG (XT.out x hx) 1).1, (boxG (XT.out x hx) 2).1, (boxG (XN.out x hx) 0).1, (boxG (XN.out x hx) 1).1, (boxG (XN.out x hx) 2).1, (boxG (XN.out x hx) 3).1, (boxG (XN.out x hx) 4).1⟩
        refine hK.out _ _ (KS.out _ bR) (fun hHeld2 => ?_)
        clear hK K
        try simp only [Act.put, zgT, zg0, zgS, zsT, zs0, zsS]
        refine tV 4 (v := ?_) rfl (by kernel_rfl) (fun _ _ _ h => h) ?_ (by assumption) ?_
        rotate_left 1
        · (intro x hSx; (try dsimp only at hSx); go_simp; try with_reducible rfl)
        try simp only [Act.put, zgT, zg0, zgS, zsT, zs0, zsS]
        refine wpAnyH_done (by kernel_rfl) ?_ _
        clear hHeld hHeld2
        clear KS
        generalize (wB1.drew) = w11 at B FA FC XT XR XN hz ⊢
        have hzn : w10.heap.size ≤ w11.heap.size := Nat.le_trans hz (Below.size (Below.refl (w10.heap.size) w11))
        replace B := lF B (Below.refl (w10.heap.size) w11) hzn
        replace FA := lF FA (Below.refl (w10.heap.size) w11) hzn
        replace FC := lF FC (Below.refl (w10.heap.size) w11) hzn
        replace XT := lF XT (Below.refl (w10.heap.size) w11) hzn
        replace lT := Nat.lt_of_lt_of_le lT hzn
        replace XR := lF XR (Below.refl (w10.heap.size) w11) hzn
        replace lR := Nat.lt_of_lt_of_le lR hzn
        replace XN := lF XN (Below.refl (w10.heap.size) w11) hzn
        replace lN := Nat.lt_of_lt_of_le lN hzn
        clear hz
        have hz : w11.heap.size ≤ w11.heap.size := Nat.le_refl _
        obtain ⟨kT0, kT1, kT2⟩ := bk3 (XT.out w11 bR)
        obtain ⟨kR0, kR1, kR2, kR3, kR4⟩ := bk5 (XR.out w11 bR)
        obtain ⟨kN0, kN1, kN2, kN3, kN4⟩ := bk5 (XN.out w11 bR)
        rename_i K0 hK0
        refine hK0 _ _ (wp_ret ?_)
        refine bodyPost_ret (v := .tuple #[.agg #[.slice (some ⟨ga, oa, none⟩) wl ac, .int .i64 (yg : Nat), .int .i64 (es : Nat), .int .i64 (od : Nat), .slice b dl bc], .int .i64 (pl : Nat)]) ?_ rfl ?_
        · simp [results, Tryz.results36, go_sem, *]
        · clear kT0 kT1 kT2 kR0 kR1 kR2 kR3 kR4 kN0 kN1 kN2 kN3 kN4
          rw [TM.out]
          exact ⟨some ⟨ga, oa, none⟩, wl, ac, b, dl, bc, rfl, LN.out, CS.out, FA.out _ bR, FC.out _ bR, (fun x e h0 => by obtain rfl := Option.some.inj e; simp only; omega), (fun x e h0 => by have := (LB.out x e h0).1; omega), (fun x y e e2 h0 h2 => by obtain rfl := Option.some.inj e; have := (LB.out y e2 h2).2.2; exact fun h => this h.symm), B.out _ bR⟩
      · go_simp
        go_at_call 75
        have BP : Hid (Below (w8.heap.size) w8 w8.drew) := (bdrew bR)
        refine (sizeImpl (pl : Nat) c0 ya yl yc _ (by omega)).mono ?_
        rintro e w9 ⟨rfl, hb⟩
        rw [SS.out]
        have hq : Below (w8.heap.size) w8 w9 := BP.out.trans (Below.mono hb (Nat.le_trans hz BP.out.size))
        have hzn : w8.heap.size ≤ w9.heap.size := Nat.le_trans hz hq.size
        replace B := lF B hq hzn
        replace FA := lF FA hq hzn
        replace FC := lF FC hq hzn
        replace KS := lF KS hq hzn
        replace XT := lF XT hq hzn
        replace lT := Nat.lt_of_lt_of_le lT hzn
        replace XR := lF XR hq hzn
        replace lR := Nat.lt_of_lt_of_le lR hzn
        replace XN := lF XN hq hzn
        replace lN := Nat.lt_of_lt_of_le lN hzn
        clear hq BP hz
        have hz : w9.heap.size ≤ w9.heap.size := Nat.le_refl _
        clear hb
        go_wp2_with fail
        refine hK.out _ _ (KS.out _ bR) (fun hHeld2 => ?_)
        clear hK K
        try simp only [Act.put, zgT, zg0, zgS, zsT, zs0, zsS]
        refine wpAnyH_ready (rs := [2]) (by kernel_rfl) (by simp) ?_
        refine AllReadyH.cons rfl (fun K hK => ?_) AllReadyH.nil
        obtain ⟨kN0, kN1, kN2, kN3, kN4⟩ := bk5 (XN.out w9 bR)
        go_simp
        clear kN0 kN1 kN2 kN3 kN4
        refine hK.out _ _ (KS.out _ bR) (fun hHeld3 => ?_)
        clear hK K
        try simp only [Act.put, zgT, zg0, zgS, zsT, zs0, zsS]
        refine tV 5 (v := ?_) rfl (by kernel_rfl) (fun _ _ _ h => h) ?_ (by assumption) ?_
        rotate_left 1
        · (intro x hSx; (try dsimp only at hSx); go_simp; try with_reducible rfl)
        try simp only [Act.put, zgT, zg0, zgS, zsT, zs0, zsS]
        refine tV 6 (v := ?_) rfl (by kernel_rfl) (fun _ _ _ h => h) ?_ (by assumption) ?_
        rotate_left 1
        · (intro x hSx; (try dsimp only at hSx); go_simp; try with_reducible rfl)
        try simp only [Act.put, zgT, zg0, zgS, zsT, zs0, zsS]
        refine wpAnyH_ready (rs := [7]) (by kernel_rfl) (by simp) ?_
        refine AllReadyH.cons rfl (fun K hK => ?_) AllReadyH.nil
        obtain ⟨kN0, kN1, kN2, kN3, kN4⟩ := bk5 (XN.out w9 bR)
        obtain ⟨qkN0, qkN1, qkN2, qkN3, qkN4⟩ := bq5 (XN.out w9 bR)
        go_simp
        clear kN0 kN1 kN2 kN3 kN4 qkN0 qkN1 qkN2 qkN3 qkN4
        have hw0 : w.heap.size ≤ w1.heap.size := hlow1
        replace XT := lS XT lT ((w9.setCell ⟨w1.heap.size, 2, none⟩ (.int .i64 (es : Nat)))) ((Below.heap_setCell _ _ _ _ (by first | omega | (simp; done) | (simp; omega))))
        replace XR := lS XR lR ((w9.setCell ⟨w1.heap.size, 2, none⟩ (.int .i64 (es : Nat)))) ((Below.heap_setCell _ _ _ _ (by first | omega | (simp; done) | (simp; omega))))
        replace XN : Hid (∀ y, Below (w9.heap.size) (w9.setCell ⟨w1.heap.size, 2, none⟩ (.int .i64 (es : Nat))) y → y.heap[w1.heap.size]? = some (.cells #[.slice (some ⟨ga, oa, none⟩) wl ac, .int .i64 (yg : Nat), .int .i64 (es : Nat), .int .i64 (od : Nat), .slice b dl bc] 29 (0, 0))) := fun y hy => (hy.block _ (by omega)).trans (boxS (XN.out w9 bR) 2 _)
        replace FA : Hid (∀ y, Below (w9.heap.size) (w9.setCell ⟨w1.heap.size, 2, none⟩ (.int .i64 (es : Nat))) y → Wri y (some ⟨ga, oa, none⟩) wl (fun j => ((ws.set tp c0).set pl (yl : Int)).getD j 0)) := fun y hy => ((FA.out w9 bR).keep (D := fun k9 => k9 = w1.heap.size) (Chg.set _ _ _ rfl) (fun x e h0 hd => by have h8 : x.block = w1.heap.size := hd; obtain rfl := Option.some.inj e; simp only at h8; omega)).later (hy.mono (by first | (simp; done) | (simp; omega)))
        replace FC : Hid (∀ y, Below (w9.heap.size) (w9.setCell ⟨w1.heap.size, 2, none⟩ (.int .i64 (es : Nat))) y → WriB y b dl (fun j => cd.getD j false)) := fun y hy => ((FC.out w9 bR).keep (D := fun k9 => k9 = w1.heap.size) (Chg.set _ _ _ rfl) (fun x e h0 hd => by have h8 : x.block = w1.heap.size := hd; have := LB.out x e h0; omega)).later (hy.mono (by first | (simp; done) | (simp; omega)))
        clear KS
        replace B : Hid (∀ y, Below (w9.heap.size) (w9.setCell ⟨w1.heap.size, 2, none⟩ (.int .i64 (es : Nat))) y → Below w.heap.size w y) := fun y hy => ((B.out w9 bR).setCell hw0 _).trans (hy.mono (by first | omega | exact Nat.le_trans (B.out w9 bR).size hz | (have := (B.out w9 bR).size; omega)))
        replace hz : w9.heap.size ≤ (w9.setCell ⟨w1.heap.size, 2, none⟩ (.int .i64 (es : Nat))).heap.size := by first | (simp; done) | simpa using hz
        clear hw0
        have KS : Hid (∀ x, Below (w9.heap.size) (w9.setCell ⟨w1.heap.size, 2, none⟩ (.int .i64 (es : Nat))) x → x.cell? ⟨w.heap.size + 1, 0, none⟩ = some (.int .i64 (pl : Nat)) ∧ x.cell? ⟨w.heap.size + 1, 1, none⟩ = some (.int .i64 c0) ∧ x.cell? ⟨w.heap.size + 1, 2, none⟩ = some (.slice ya yl yc)) := fun x hx => bk3 (XT.out x hx)
        refine hK.out _ _ (KS.out _ bR) (fun hHeld4 => ?_)
        clear hK K
        try simp only [Act.put, zgT, zg0, zgS, zsT, zs0, zsS]
        refine wpAnyH_done (by kernel_rfl) ?_ _
        clear hHeld hHeld2 hHeld3 hHeld4
        clear KS
        generalize (w9.setCell ⟨w1.heap.size, 2, none⟩ (.int .i64 (es : Nat))) = w10 at B FA FC XT XR XN hz ⊢
        have hzn : w9.heap.size ≤ w10.heap.size := Nat.le_trans hz (Below.size (Below.refl (w9.heap.size) w10))
        replace B := lF B (Below.refl (w9.heap.size) w10) hzn
        replace FA := lF FA (Below.refl (w9.heap.size) w10) hzn
        replace FC := lF FC (Below.refl (w9.heap.size) w10) hzn
        replace XT := lF XT (Below.refl (w9.heap.size) w10) hzn
        replace lT := Nat.lt_of_lt_of_le lT hzn
        replace XR := lF XR (Below.refl (w9.heap.size) w10) hzn
        replace lR := Nat.lt_of_lt_of_le lR hzn
        replace XN := lF XN (Below.refl (w9.heap.size) w10) hzn
        replace lN := Nat.lt_of_lt_of_le lN hzn
        clear hz
        have hz : w10.heap.size ≤ w10.heap.size := Nat.le_refl _
        obtain ⟨kT0, kT1, kT2⟩ := bk3 (XT.out w10 bR)
        obtain ⟨kR0, kR1, kR2, kR3, kR4⟩ := bk5 (XR.out w10 bR)
        obtain ⟨kN0, kN1, kN2, kN3, kN4⟩ := bk5 (XN.out w10 bR)
        go_wp2_with fail
        clear kT0 kT1 kT2 kR0 kR1 kR2 kR3 kR4 kN0 kN1 kN2 kN3 kN4
        have KS : Hid (∀ x, Below (w10.heap.size) w10 x → x.cell? ⟨w.heap.size + 1, 0, none⟩ = some (.int .i64 (pl : Nat)) ∧ x.cell? ⟨w.heap.size + 1, 1, none⟩ = some (.int .i64 c0) ∧ x.cell? ⟨w.heap.size + 1, 2, none⟩ = some (.slice ya yl yc) ∧ x.cell? ⟨w1.heap.size, 0, none⟩ = some (.slice (some ⟨ga, oa, none⟩) wl ac) ∧ x.cell? ⟨w1.heap.size, 1, none⟩ = some (.int .i64 (yg : Nat)) ∧ x.cell? ⟨w1.heap.size, 2, none⟩ = some (.int .i64 (es : Nat)) ∧ x.cell? ⟨w1.heap.size, 3, none⟩ = some (.int .i64 (od : Nat)) ∧ x.cell? ⟨w1.heap.size, 4, none⟩ = some (.slice b dl bc)) := fun x hx => ⟨(boxG (XT.out x hx) 0).1, (boxG (XT.out x hx) 1).1, (boxG (XT.out x hx) 2).1, (boxG (XN.out x hx) 0).1, (boxG (XN.out x hx) 1).1, (boxG (XN.out x hx) 2).1, (boxG (XN.out x hx) 3).1, (boxG (XN.out x hx) 4).1⟩
        refine wp_region_held_drew (S := fun x => x.cell? ⟨w.heap.size + 1, 0, none⟩ = some (.int .i64 (pl : Nat)) ∧ x.cell? ⟨w.heap.size + 1, 1, none⟩ = some (.int .i64 c0) ∧ x.cell? ⟨w.heap.size + 1, 2, none⟩ = some (.slice ya yl yc) ∧ x.cell? ⟨w1.heap.size, 0, none⟩ = some (.slice (some ⟨ga, oa, none⟩) wl ac) ∧ x.cell? ⟨w1.heap.size, 1, none⟩ = some (.int .i64 (yg : Nat)) ∧ x.cell? ⟨w1.heap.size, 2, none⟩ = some (.int .i64 (es : Nat)) ∧ x.cell? ⟨w1.heap.size, 3, none⟩ = some (.int .i64 (od : Nat)) ∧ x.cell? ⟨w1.heap.size, 4, none⟩ = some (.slice b dl bc)) (by kernel_rfl) ?_ (fun hHeld => ?_)
        · exact KS.out _ (bdrew bR)
        refine tV 0 (v := ?_) rfl (by kernel_rfl) (fun _ _ _ h => h) ?_ (by assumption) ?_
        rotate_left 1
        · (intro x hSx; (try dsimp only at hSx); go_simp; try with_reducible rfl)
        try simp only [Act.put, zgT, zg0, zsT, zs0, zsS]
        refine tV 1 (v := ?_) rfl (by kernel_rfl) (fun _ _ _ h => h) ?_ (by assumption) ?_
        rotate_left 1
        · (intro x hSx; (try dsimp only at hSx); go_simp; try with_reducible rfl)
        try simp only [Act.put, zgT, zg0, zgS, zsT, zs0, zsS]
        refine tV 2 (v := ?_) rfl (by kernel_rfl) (fun _ _ _ h => h) ?_ (by assumption) ?_
        rotate_left 1
        · (intro x hSx; (try dsimp only at hSx); go_simp; try with_reducible rfl)
        try simp only [Act.put, zgT, zg0, zgS, zsT, zs0, zsS]
        refine wpAnyH_ready (rs := [3]) (by kernel_rfl) (by simp) ?_
        refine AllReadyH.cons rfl (fun K hK => ?_) AllReadyH.nil
        obtain ⟨kR0, kR1, kR2, kR3, kR4⟩ := bk5 (XR.out w10 bR)
        obtain ⟨qkR0, qkR1, qkR2, qkR3, qkR4⟩ := bq5 (XR.out w10 bR)
        go_simp
        clear kR0 kR1 kR2 kR3 kR4 qkR0 qkR1 qkR2 qkR3 qkR4
        generalize hW : (((((w10.setCell ⟨w.heap.size + 1 + 1, 0, none⟩ (.slice (some ⟨ga, oa, none⟩) wl ac)).setCell ⟨w.heap.size + 1 + 1, 1, none⟩ (.int .i64 (yg : Nat))).setCell ⟨w.heap.size + 1 + 1, 2, none⟩ (.int .i64 (es : Nat))).setCell ⟨w.heap.size + 1 + 1, 3, none⟩ (.int .i64 (od : Nat))).setCell ⟨w.heap.size + 1 + 1, 4, none⟩ (.slice b dl bc)) = wB1
        have hkB : ∀ a, a ≠ w.heap.size + 1 + 1 → wB1.heap[a]? = w10.heap[a]? := by subst hW; exact fun a h => (Below.heap_setCell _ _ _ _ h).trans ((Below.heap_setCell _ _ _ _ h).trans ((Below.heap_setCell _ _ _ _ h).trans ((Below.heap_setCell _ _ _ _ h).trans ((Below.heap_setCell _ _ _ _ h)))))
        have hw0 : w.heap.size ≤ w.heap.size + 1 + 1 := (by first | omega | (simp; done) | (simp; omega) | (simp at *; omega))
        replace XT := lS XT lT wB1 (hkB _ (by first | omega | (simp; done) | (simp; omega)))
        replace XN := lS XN lN wB1 (hkB _ (by first | omega | (simp; done) | (simp; omega)))
        replace XR : Hid (∀ y, Below (w10.heap.size) wB1 y → y.heap[w.heap.size + 1 + 1]? = some (.cells #[.slice (some ⟨ga, oa, none⟩) wl ac, .int .i64 (yg : Nat), .int .i64 (es : Nat), .int .i64 (od : Nat), .slice b dl bc] 29 (0, 0))) := fun y hy => by subst hW; exact (hy.block _ (by omega)).trans (boxS (boxS (boxS (boxS (boxS (XR.out w10 bR) 0 _) 1 _) 2 _) 3 _) 4 _)
        replace FA : Hid (∀ y, Below (w10.heap.size) wB1 y → Wri y (some ⟨ga, oa, none⟩) wl (fun j => ((ws.set tp c0).set pl (yl : Int)).getD j 0)) := fun y hy => by subst hW; exact ((FA.out w10 bR).keep (D := fun k9 => k9 = w.heap.size + 1 + 1) (chg5 w10 (w.heap.size + 1 + 1) (.slice (some ⟨ga, oa, none⟩) wl ac) (.int .i64 (yg : Nat)) (.int .i64 (es : Nat)) (.int .i64 (od : Nat)) (.slice b dl bc)) (fun x e h0 hd => by have h8 : x.block = w.heap.size + 1 + 1 := hd; obtain rfl := Option.some.inj e; simp only at h8; omega)).later (hy.mono (by first | (simp; done) | (simp; omega)))
        replace FC : Hid (∀ y, Below (w10.heap.size) wB1 y → WriB y b dl (fun j => cd.getD j false)) := fun y hy => by subst hW; exact ((FC.out w10 bR).keep (D := fun k9 => k9 = w.heap.size + 1 + 1) (chg5 w10 (w.heap.size + 1 + 1) (.slice (some ⟨ga, oa, none⟩) wl ac) (.int .i64 (yg : Nat)) (.int .i64 (es : Nat)) (.int .i64 (od : Nat)) (.slice b dl bc)) (fun x e h0 hd => by have h8 : x.block = w.heap.size + 1 + 1 := hd; have := LB.out x e h0; omega)).later (hy.mono (by first | (simp; done) | (simp; omega)))
        clear KS
        replace B : Hid (∀ y, Below (w10.heap.size) wB1 y → Below w.heap.size w y) := fun y hy => by subst hW; exact ((((((B.out w10 bR).setCell hw0 _).setCell hw0 _).setCell hw0 _).setCell hw0 _).setCell hw0 _).trans (hy.mono (by first | omega | exact Nat.le_trans (B.out w10 bR).size hz | (have := (B.out w10 bR).size; omega)))
        replace hz : w10.heap.size ≤ wB1.heap.size := by subst hW; first | (simp; done) | simpa using hz
        clear hw0 hW hkB
        replace B := lD B
        replace FA := lD FA
        replace FC := lD FC
        replace XT := lD XT
        replace XR := lD XR
        replace XN := lD XN
        replace hz : w10.heap.size ≤ (wB1.drew).heap.size := Nat.le_trans hz (Below.size (bdrew (Below.refl (w10.heap.size) wB1)))
        have KS : Hid (∀ x, Below (w10.heap.size) (wB1.drew) x → x.cell? ⟨w.heap.size + 1, 0, none⟩ = some (.int .i64 (pl : Nat)) ∧ x.cell? ⟨w.heap.size + 1, 1, none⟩ = some (.int .i64 c0) ∧ x.cell? ⟨w.heap.size + 1, 2, none⟩ = some (.slice ya yl yc) ∧ x.cell? ⟨w1.heap.size, 0, none⟩ = some (.slice (some ⟨ga, oa, none⟩) wl ac) ∧ x.cell? ⟨w1.heap.size, 1, none⟩ = some (.int .i64 (yg : Nat)) ∧ x.cell? ⟨w1.heap.size, 2, none⟩ = some (.int .i64 (es : Nat)) ∧ x.cell? ⟨w1.heap.size, 3, none⟩ = some (.int .i64 (od : Nat)) ∧ x.cell? ⟨w1.heap.size, 4, none⟩ = some (.slice b dl bc)) := fun x hx => ⟨(boxG (XT.out x hx) 0).1, (boxG (XT.out x hx) 1).1, (boxG (XT.out x hx) 2).1, (boxG (XN.out x hx) 0).1, (boxG (XN.out x hx) 1).1, (boxG (XN.out x hx) 2).1, (boxG (XN.out x hx) 3).1, (boxG (XN.out x hx) 4).1⟩
        refine hK.out _ _ (KS.out _ bR) (fun hHeld2 => ?_)
        clear hK K
        try simp only [Act.put, zgT, zg0, zgS, zsT, zs0, zsS]
        refine tV 4 (v := ?_) rfl (by kernel_rfl) (fun _ _ _ h => h) ?_ (by assumption) ?_
        rotate_left 1
        · (intro x hSx; (try dsimp only at hSx); go_simp; try with_reducible rfl)
        try simp only [Act.put, zgT, zg0, zgS, zsT, zs0, zsS]
        refine wpAnyH_done (by kernel_rfl) ?_ _
        clear hHeld hHeld2
        clear KS
        generalize (wB1.drew) = w11 at B FA FC XT XR XN hz ⊢
        have hzn : w10.heap.size ≤ w11.heap.size := Nat.le_trans hz (Below.size (Below.refl (w10.heap.size) w11))
        replace B := lF B (Below.refl (w10.heap.size) w11) hzn
        replace FA := lF FA (Below.refl (w10.heap.size) w11) hzn
        replace FC := lF FC (Below.refl (w10.heap.size) w11) hzn
        replace XT := lF XT (Below.refl (w10.heap.size) w11) hzn
        replace lT := Nat.lt_of_lt_of_le lT hzn
        replace XR := lF XR (Below.refl (w10.heap.size) w11) hzn
        replace lR := Nat.lt_of_lt_of_le lR hzn
        replace XN := lF XN (Below.refl (w10.heap.size) w11) hzn
        replace lN := Nat.lt_of_lt_of_le lN hzn
        clear hz
        have hz : w11.heap.size ≤ w11.heap.size := Nat.le_refl _
        obtain ⟨kT0, kT1, kT2⟩ := bk3 (XT.out w11 bR)
        obtain ⟨kR0, kR1, kR2, kR3, kR4⟩ := bk5 (XR.out w11 bR)
        obtain ⟨kN0, kN1, kN2, kN3, kN4⟩ := bk5 (XN.out w11 bR)
        rename_i K0 hK0
        refine hK0 _ _ (wp_ret ?_)
        refine bodyPost_ret (v := .tuple #[.agg #[.slice (some ⟨ga, oa, none⟩) wl ac, .int .i64 (yg : Nat), .int .i64 (es : Nat), .int .i64 (od : Nat), .slice b dl bc], .int .i64 (pl : Nat)]) ?_ rfl ?_
        · simp [results, Tryz.results36, go_sem, *]
        · clear kT0 kT1 kT2 kR0 kR1 kR2 kR3 kR4 kN0 kN1 kN2 kN3 kN4
          rw [TM.out]
          exact ⟨some ⟨ga, oa, none⟩, wl, ac, b, dl, bc, rfl, LN.out, CS.out, FA.out _ bR, FC.out _ bR, (fun x e h0 => by obtain rfl := Option.some.inj e; simp only; omega), (fun x e h0 => by have := (LB.out x e h0).1; omega), (fun x y e e2 h0 h2 => by obtain rfl := Option.some.inj e; have := (LB.out y e2 h2).2.2; exact fun h => this h.symm), B.out _ bR⟩
    rw [show (c0 == -1 || c0 == -2) = false by simp; omega]
    go_upto_region 11 with fail
    clear kT0 kT1 kT2 kR0 kR1 kR2 kR3 kR4 kN0 kN1 kN2 kN3 kN4
    have TM : Hid (tryM (ws, (yg : Int), (tp : Int), (od : Int), cd) c0 (yl : Int) s false = ((ws.set tp c0, (yg : Int), (es : Int), (od : Int), cd), (pl : Int))) := by
      show _ = _
      have e1 : mkW ws tp c0 (yl : Int) = ws.set tp c0 := by unfold mkW; rw [if_neg (by omega)]
      unfold tryM
      rw [if_neg (by simp), if_pos (by simp only; omega)]
      simp only [Int.toNat_natCast, e1]
      rw [← HES.out, ← hpl]; rfl
    have LN : Hid ((ws.set tp c0).length = wl) := by show _ = _; simp [WS.out]
    have KS : Hid (∀ x, Below (w7.heap.size) w7 x → x.cell? ⟨w.heap.size + 1, 0, none⟩ = some (.int .i64 (pl : Nat)) ∧ x.cell? ⟨w.heap.size + 1, 1, none⟩ = some (.int .i64 c0) ∧ x.cell? ⟨w.heap.size + 1, 2, none⟩ = some (.slice ya yl yc)) := fun x hx => bk3 (XT.out x hx)
    refine wp_region_held_drew (S := fun x => x.cell? ⟨w.heap.size + 1, 0, none⟩ = some (.int .i64 (pl : Nat)) ∧ x.cell? ⟨w.heap.size + 1, 1, none⟩ = some (.int .i64 c0) ∧ x.cell? ⟨w.heap.size + 1, 2, none⟩ = some (.slice ya yl yc)) (by kernel_rfl) ?_ (fun hHeld => ?_)
    · exact KS.out _ (bdrew bR)
    refine tV 0 (v := ?_) rfl (by kernel_rfl) (fun _ _ _ h => h) ?_ (by assumption) ?_
    rotate_left 1
    · (intro x hSx; (try dsimp only at hSx); go_simp; try with_reducible rfl)
    try simp only [Act.put, zgT, zg0, zsT, zs0, zsS]
    refine tV 1 (v := ?_) rfl (by kernel_rfl) (fun _ _ _ h => h) ?_ (by assumption) ?_
    rotate_left 1
    · (intro x hSx; (try dsimp only at hSx); go_simp; try with_reducible rfl)
    try simp only [Act.put, zgT, zg0, zgS, zsT, zs0, zsS]
    refine tV 3 (v := ?_) rfl (by kernel_rfl) (fun _ _ _ h => h) ?_ (by assumption) ?_
    rotate_left 1
    · (intro x hSx; (try dsimp only at hSx); go_simp; try with_reducible rfl)
    try simp only [Act.put, zgT, zg0, zgS, zsT, zs0, zsS]
    refine wpAnyH_ready (rs := [2, 4]) (by kernel_rfl) (by simp) ?_
    refine AllReadyH.cons rfl (fun K hK => ?_) (AllReadyH.cons rfl (fun K hK => ?_) AllReadyH.nil)
    · obtain ⟨kN0, kN1, kN2, kN3, kN4⟩ := bk5 (XN.out w7 bR)
      go_simp
      clear kN0 kN1 kN2 kN3 kN4
      refine hK.out _ _ (KS.out _ (bdrew bR)) (fun hHeld2 => ?_)
      clear hK K
      try simp only [Act.put, zgT, zg0, zgS, zsT, zs0, zsS]
      refine wpAnyH_ready (rs := [4]) (by kernel_rfl) (by simp) ?_
      refine AllReadyH.cons rfl (fun K hK => ?_) AllReadyH.nil
      go_simp
      go_at_call 75
      have BP : Hid (Below (w7.heap.size) w7 w7.drew) := (bdrew bR)
      refine (sizeImpl (pl : Nat) c0 ya yl yc _ (by omega)).mono ?_
      rintro e w9 ⟨rfl, hb⟩
      rw [SS.out]
      have hq : Below (w7.heap.size) w7 w9 := BP.out.trans (Below.mono hb (Nat.le_trans hz BP.out.size))
      have hzn : w7.heap.size ≤ w9.heap.size := Nat.le_trans hz hq.size
      replace B := lF B hq hzn
      replace FA := lF FA hq hzn
      replace FC := lF FC hq hzn
      replace KS := lF KS hq hzn
      replace XT := lF XT hq hzn
      replace lT := Nat.lt_of_lt_of_le lT hzn
      replace XR := lF XR hq hzn
      replace lR := Nat.lt_of_lt_of_le lR hzn
      replace XN := lF XN hq hzn
      replace lN := Nat.lt_of_lt_of_le lN hzn
      clear hq BP hz
      have hz : w9.heap.size ≤ w9.heap.size := Nat.le_refl _
      clear hb
      go_wp2_with fail
      refine hK.out _ _ (KS.out _ bR) (fun hHeld3 => ?_)
      clear hK K
      try simp only [Act.put, zgT, zg0, zgS, zsT, zs0, zsS]
      refine tV 5 (v := ?_) rfl (by kernel_rfl) (fun _ _ _ h => h) ?_ (by assumption) ?_
      rotate_left 1
      · (intro x hSx; (try dsimp only at hSx); go_simp; try with_reducible rfl)
      try simp only [Act.put, zgT, zg0, zgS, zsT, zs0, zsS]
      refine tV 6 (v := ?_) rfl (by kernel_rfl) (fun _ _ _ h => h) ?_ (by assumption) ?_
      rotate_left 1
      · (intro x hSx; (try dsimp only at hSx); go_simp; try with_reducible rfl)
      try simp only [Act.put, zgT, zg0, zgS, zsT, zs0, zsS]
      refine wpAnyH_ready (rs := [7]) (by kernel_rfl) (by simp) ?_
      refine AllReadyH.cons rfl (fun K hK => ?_) AllReadyH.nil
      obtain ⟨kN0, kN1, kN2, kN3, kN4⟩ := bk5 (XN.out w9 bR)
      obtain ⟨qkN0, qkN1, qkN2, qkN3, qkN4⟩ := bq5 (XN.out w9 bR)
      go_simp
      clear kN0 kN1 kN2 kN3 kN4 qkN0 qkN1 qkN2 qkN3 qkN4
      have hw0 : w.heap.size ≤ w1.heap.size := hlow1
      replace XT := lS XT lT ((w9.setCell ⟨w1.heap.size, 2, none⟩ (.int .i64 (es : Nat)))) ((Below.heap_setCell _ _ _ _ (by first | omega | (simp; done) | (simp; omega))))
      replace XR := lS XR lR ((w9.setCell ⟨w1.heap.size, 2, none⟩ (.int .i64 (es : Nat)))) ((Below.heap_setCell _ _ _ _ (by first | omega | (simp; done) | (simp; omega))))
      replace XN : Hid (∀ y, Below (w9.heap.size) (w9.setCell ⟨w1.heap.size, 2, none⟩ (.int .i64 (es : Nat))) y → y.heap[w1.heap.size]? = some (.cells #[.slice (some ⟨ga, oa, none⟩) wl ac, .int .i64 (yg : Nat), .int .i64 (es : Nat), .int .i64 (od : Nat), .slice b dl bc] 29 (0, 0))) := fun y hy => (hy.block _ (by omega)).trans (boxS (XN.out w9 bR) 2 _)
      replace FA : Hid (∀ y, Below (w9.heap.size) (w9.setCell ⟨w1.heap.size, 2, none⟩ (.int .i64 (es : Nat))) y → Wri y (some ⟨ga, oa, none⟩) wl (fun j => (ws.set tp c0).getD j 0)) := fun y hy => ((FA.out w9 bR).keep (D := fun k9 => k9 = w1.heap.size) (Chg.set _ _ _ rfl) (fun x e h0 hd => by have h8 : x.block = w1.heap.size := hd; obtain rfl := Option.some.inj e; simp only at h8; omega)).later (hy.mono (by first | (simp; done) | (simp; omega)))
      replace FC : Hid (∀ y, Below (w9.heap.size) (w9.setCell ⟨w1.heap.size, 2, none⟩ (.int .i64 (es : Nat))) y → WriB y b dl (fun j => cd.getD j false)) := fun y hy => ((FC.out w9 bR).keep (D := fun k9 => k9 = w1.heap.size) (Chg.set _ _ _ rfl) (fun x e h0 hd => by have h8 : x.block = w1.heap.size := hd; have := LB.out x e h0; omega)).later (hy.mono (by first | (simp; done) | (simp; omega)))
      clear KS
      replace B : Hid (∀ y, Below (w9.heap.size) (w9.setCell ⟨w1.heap.size, 2, none⟩ (.int .i64 (es : Nat))) y → Below w.heap.size w y) := fun y hy => ((B.out w9 bR).setCell hw0 _).trans (hy.mono (by first | omega | exact Nat.le_trans (B.out w9 bR).size hz | (have := (B.out w9 bR).size; omega)))
      replace hz : w9.heap.size ≤ (w9.setCell ⟨w1.heap.size, 2, none⟩ (.int .i64 (es : Nat))).heap.size := by first | (simp; done) | simpa using hz
      clear hw0
      have KS : Hid (∀ x, Below (w9.heap.size) (w9.setCell ⟨w1.heap.size, 2, none⟩ (.int .i64 (es : Nat))) x → x.cell? ⟨w.heap.size + 1, 0, none⟩ = some (.int .i64 (pl : Nat)) ∧ x.cell? ⟨w.heap.size + 1, 1, none⟩ = some (.int .i64 c0) ∧ x.cell? ⟨w.heap.size + 1, 2, none⟩ = some (.slice ya yl yc)) := fun x hx => bk3 (XT.out x hx)
      refine hK.out _ _ (KS.out _ bR) (fun hHeld4 => ?_)
      clear hK K
      try simp only [Act.put, zgT, zg0, zgS, zsT, zs0, zsS]
      refine wpAnyH_done (by kernel_rfl) ?_ _
      clear hHeld hHeld2 hHeld3 hHeld4
      clear KS
      generalize (w9.setCell ⟨w1.heap.size, 2, none⟩ (.int .i64 (es : Nat))) = w10 at B FA FC XT XR XN hz ⊢
      have hzn : w9.heap.size ≤ w10.heap.size := Nat.le_trans hz (Below.size (Below.refl (w9.heap.size) w10))
      replace B := lF B (Below.refl (w9.heap.size) w10) hzn
      replace FA := lF FA (Below.refl (w9.heap.size) w10) hzn
      replace FC := lF FC (Below.refl (w9.heap.size) w10) hzn
      replace XT := lF XT (Below.refl (w9.heap.size) w10) hzn
      replace lT := Nat.lt_of_lt_of_le lT hzn
      replace XR := lF XR (Below.refl (w9.heap.size) w10) hzn
      replace lR := Nat.lt_of_lt_of_le lR hzn
      replace XN := lF XN (Below.refl (w9.heap.size) w10) hzn
      replace lN := Nat.lt_of_lt_of_le lN hzn
      clear hz
      have hz : w10.heap.size ≤ w10.heap.size := Nat.le_refl _
      obtain ⟨kT0, kT1, kT2⟩ := bk3 (XT.out w10 bR)
      obtain ⟨kR0, kR1, kR2, kR3, kR4⟩ := bk5 (XR.out w10 bR)
      obtain ⟨kN0, kN1, kN2, kN3, kN4⟩ := bk5 (XN.out w10 bR)
      go_wp2_with fail
      clear kT0 kT1 kT2 kR0 kR1 kR2 kR3 kR4 kN0 kN1 kN2 kN3 kN4
      have KS : Hid (∀ x, Below (w10.heap.size) w10 x → x.cell? ⟨w.heap.size + 1, 0, none⟩ = some (.int .i64 (pl : Nat)) ∧ x.cell? ⟨w.heap.size + 1, 1, none⟩ = some (.int .i64 c0) ∧ x.cell? ⟨w.heap.size + 1, 2, none⟩ = some (.slice ya yl yc) ∧ x.cell? ⟨w1.heap.size, 0, none⟩ = some (.slice (some ⟨ga, oa, none⟩) wl ac) ∧ x.cell? ⟨w1.heap.size, 1, none⟩ = some (.int .i64 (yg : Nat)) ∧ x.cell? ⟨w1.heap.size, 2, none⟩ = some (.int .i64 (es : Nat)) ∧ x.cell? ⟨w1.heap.size, 3, none⟩ = some (.int .i64 (od : Nat)) ∧ x.cell? ⟨w1.heap.size, 4, none⟩ = some (.slice b dl bc)) := fun x hx => ⟨(boxG (XT.out x hx) 0).1, (boxG (XT.out x hx) 1).1, (boxG (XT.out x hx) 2).1, (boxG (XN.out x hx) 0).1, (boxG (XN.out x hx) 1).1, (boxG (XN.out x hx) 2).1, (boxG (XN.out x hx) 3).1, (boxG (XN.out x hx) 4).1⟩
      refine wp_region_held_drew (S := fun x => x.cell? ⟨w.heap.size + 1, 0, none⟩ = some (.int .i64 (pl : Nat)) ∧ x.cell? ⟨w.heap.size + 1, 1, none⟩ = some (.int .i64 c0) ∧ x.cell? ⟨w.heap.size + 1, 2, none⟩ = some (.slice ya yl yc) ∧ x.cell? ⟨w1.heap.size, 0, none⟩ = some (.slice (some ⟨ga, oa, none⟩) wl ac) ∧ x.cell? ⟨w1.heap.size, 1, none⟩ = some (.int .i64 (yg : Nat)) ∧ x.cell? ⟨w1.heap.size, 2, none⟩ = some (.int .i64 (es : Nat)) ∧ x.cell? ⟨w1.heap.size, 3, none⟩ = some (.int .i64 (od : Nat)) ∧ x.cell? ⟨w1.heap.size, 4, none⟩ = some (.slice b dl bc)) (by kernel_rfl) ?_ (fun hHeld => ?_)
      · exact KS.out _ (bdrew bR)
      refine tV 0 (v := ?_) rfl (by kernel_rfl) (fun _ _ _ h => h) ?_ (by assumption) ?_
      rotate_left 1
      · (intro x hSx; (try dsimp only at hSx); go_simp; try with_reducible rfl)
      try simp only [Act.put, zgT, zg0, zsT, zs0, zsS]
      refine tV 1 (v := ?_) rfl (by kernel_rfl) (fun _ _ _ h => h) ?_ (by assumption) ?_
      rotate_left 1
      · (intro x hSx; (try dsimp only at hSx); go_simp; try with_reducible rfl)
      try simp only [Act.put, zgT, zg0, zgS, zsT, zs0, zsS]
      refine tV 2 (v := ?_) rfl (by kernel_rfl) (fun _ _ _ h => h) ?_ (by assumption) ?_
      rotate_left 1
      · (intro x hSx; (try dsimp only at hSx); go_simp; try with_reducible rfl)
      try simp only [Act.put, zgT, zg0, zgS, zsT, zs0, zsS]
      refine wpAnyH_ready (rs := [3]) (by kernel_rfl) (by simp) ?_
      refine AllReadyH.cons rfl (fun K hK => ?_) AllReadyH.nil
      obtain ⟨kR0, kR1, kR2, kR3, kR4⟩ := bk5 (XR.out w10 bR)
      obtain ⟨qkR0, qkR1, qkR2, qkR3, qkR4⟩ := bq5 (XR.out w10 bR)
      go_simp
      clear kR0 kR1 kR2 kR3 kR4 qkR0 qkR1 qkR2 qkR3 qkR4
      generalize hW : (((((w10.setCell ⟨w.heap.size + 1 + 1, 0, none⟩ (.slice (some ⟨ga, oa, none⟩) wl ac)).setCell ⟨w.heap.size + 1 + 1, 1, none⟩ (.int .i64 (yg : Nat))).setCell ⟨w.heap.size + 1 + 1, 2, none⟩ (.int .i64 (es : Nat))).setCell ⟨w.heap.size + 1 + 1, 3, none⟩ (.int .i64 (od : Nat))).setCell ⟨w.heap.size + 1 + 1, 4, none⟩ (.slice b dl bc)) = wB1
      have hkB : ∀ a, a ≠ w.heap.size + 1 + 1 → wB1.heap[a]? = w10.heap[a]? := by subst hW; exact fun a h => (Below.heap_setCell _ _ _ _ h).trans ((Below.heap_setCell _ _ _ _ h).trans ((Below.heap_setCell _ _ _ _ h).trans ((Below.heap_setCell _ _ _ _ h).trans ((Below.heap_setCell _ _ _ _ h)))))
      have hw0 : w.heap.size ≤ w.heap.size + 1 + 1 := (by first | omega | (simp; done) | (simp; omega) | (simp at *; omega))
      replace XT := lS XT lT wB1 (hkB _ (by first | omega | (simp; done) | (simp; omega)))
      replace XN := lS XN lN wB1 (hkB _ (by first | omega | (simp; done) | (simp; omega)))
      replace XR : Hid (∀ y, Below (w10.heap.size) wB1 y → y.heap[w.heap.size + 1 + 1]? = some (.cells #[.slice (some ⟨ga, oa, none⟩) wl ac, .int .i64 (yg : Nat), .int .i64 (es : Nat), .int .i64 (od : Nat), .slice b dl bc] 29 (0, 0))) := fun y hy => by subst hW; exact (hy.block _ (by omega)).trans (boxS (boxS (boxS (boxS (boxS (XR.out w10 bR) 0 _) 1 _) 2 _) 3 _) 4 _)
      replace FA : Hid (∀ y, Below (w10.heap.size) wB1 y → Wri y (some ⟨ga, oa, none⟩) wl (fun j => (ws.set tp c0).getD j 0)) := fun y hy => by subst hW; exact ((FA.out w10 bR).keep (D := fun k9 => k9 = w.heap.size + 1 + 1) (chg5 w10 (w.heap.size + 1 + 1) (.slice (some ⟨ga, oa, none⟩) wl ac) (.int .i64 (yg : Nat)) (.int .i64 (es : Nat)) (.int .i64 (od : Nat)) (.slice b dl bc)) (fun x e h0 hd => by have h8 : x.block = w.heap.size + 1 + 1 := hd; obtain rfl := Option.some.inj e; simp only at h8; omega)).later (hy.mono (by first | (simp; done) | (simp; omega)))
      replace FC : Hid (∀ y, Below (w10.heap.size) wB1 y → WriB y b dl (fun j => cd.getD j false)) := fun y hy => by subst hW; exact ((FC.out w10 bR).keep (D := fun k9 => k9 = w.heap.size + 1 + 1) (chg5 w10 (w.heap.size + 1 + 1) (.slice (some ⟨ga, oa, none⟩) wl ac) (.int .i64 (yg : Nat)) (.int .i64 (es : Nat)) (.int .i64 (od : Nat)) (.slice b dl bc)) (fun x e h0 hd => by have h8 : x.block = w.heap.size + 1 + 1 := hd; have := LB.out x e h0; omega)).later (hy.mono (by first | (simp; done) | (simp; omega)))
      clear KS
      replace B : Hid (∀ y, Below (w10.heap.size) wB1 y → Below w.heap.size w y) := fun y hy => by subst hW; exact ((((((B.out w10 bR).setCell hw0 _).setCell hw0 _).setCell hw0 _).setCell hw0 _).setCell hw0 _).trans (hy.mono (by first | omega | exact Nat.le_trans (B.out w10 bR).size hz | (have := (B.out w10 bR).size; omega)))
      replace hz : w10.heap.size ≤ wB1.heap.size := by subst hW; first | (simp; done) | simpa using hz
      clear hw0 hW hkB
      replace B := lD B
      replace FA := lD FA
      replace FC := lD FC
      replace XT := lD XT
      replace XR := lD XR
      replace XN := lD XN
      replace hz : w10.heap.size ≤ (wB1.drew).heap.size := Nat.le_trans hz (Below.size (bdrew (Below.refl (w10.heap.size) wB1)))
      have KS : Hid (∀ x, Below (w10.heap.size) (wB1.drew) x → x.cell? ⟨w.heap.size + 1, 0, none⟩ = some (.int .i64 (pl : Nat)) ∧ x.cell? ⟨w.heap.size + 1, 1, none⟩ = some (.int .i64 c0) ∧ x.cell? ⟨w.heap.size + 1, 2, none⟩ = some (.slice ya yl yc) ∧ x.cell? ⟨w1.heap.size, 0, none⟩ = some (.slice (some ⟨ga, oa, none⟩) wl ac) ∧ x.cell? ⟨w1.heap.size, 1, none⟩ = some (.int .i64 (yg : Nat)) ∧ x.cell? ⟨w1.heap.size, 2, none⟩ = some (.int .i64 (es : Nat)) ∧ x.cell? ⟨w1.heap.size, 3, none⟩ = some (.int .i64 (od : Nat)) ∧ x.cell? ⟨w1.heap.size, 4, none⟩ = some (.slice b dl bc)) := fun x hx => ⟨(boxG (XT.out x hx) 0).1, (boxG (XT.out x hx) 1).1, (boxG (XT.out x hx) 2).1, (boxG (XN.out x hx) 0).1, (boxG (XN.out x hx) 1).1, (boxG (XN.out x hx) 2).1, (boxG (XN.out x hx) 3).1, (boxG (XN.out x hx) 4).1⟩
      refine hK.out _ _ (KS.out _ bR) (fun hHeld2 => ?_)
      clear hK K
      try simp only [Act.put, zgT, zg0, zgS, zsT, zs0, zsS]
      refine tV 4 (v := ?_) rfl (by kernel_rfl) (fun _ _ _ h => h) ?_ (by assumption) ?_
      rotate_left 1
      · (intro x hSx; (try dsimp only at hSx); go_simp; try with_reducible rfl)
      try simp only [Act.put, zgT, zg0, zgS, zsT, zs0, zsS]
      refine wpAnyH_done (by kernel_rfl) ?_ _
      clear hHeld hHeld2
      clear KS
      generalize (wB1.drew) = w11 at B FA FC XT XR XN hz ⊢
      have hzn : w10.heap.size ≤ w11.heap.size := Nat.le_trans hz (Below.size (Below.refl (w10.heap.size) w11))
      replace B := lF B (Below.refl (w10.heap.size) w11) hzn
      replace FA := lF FA (Below.refl (w10.heap.size) w11) hzn
      replace FC := lF FC (Below.refl (w10.heap.size) w11) hzn
      replace XT := lF XT (Below.refl (w10.heap.size) w11) hzn
      replace lT := Nat.lt_of_lt_of_le lT hzn
      replace XR := lF XR (Below.refl (w10.heap.size) w11) hzn
      replace lR := Nat.lt_of_lt_of_le lR hzn
      replace XN := lF XN (Below.refl (w10.heap.size) w11) hzn
      replace lN := Nat.lt_of_lt_of_le lN hzn
      clear hz
      have hz : w11.heap.size ≤ w11.heap.size := Nat.le_refl _
      obtain ⟨kT0, kT1, kT2⟩ := bk3 (XT.out w11 bR)
      obtain ⟨kR0, kR1, kR2, kR3, kR4⟩ := bk5 (XR.out w11 bR)
      obtain ⟨kN0, kN1, kN2, kN3, kN4⟩ := bk5 (XN.out w11 bR)
      rename_i K0 hK0
      refine hK0 _ _ (wp_ret ?_)
      refine bodyPost_ret (v := .tuple #[.agg #[.slice (some ⟨ga, oa, none⟩) wl ac, .int .i64 (yg : Nat), .int .i64 (es : Nat), .int .i64 (od : Nat), .slice b dl bc], .int .i64 (pl : Nat)]) ?_ rfl ?_
      · simp [results, Tryz.results36, go_sem, *]
      · clear kT0 kT1 kT2 kR0 kR1 kR2 kR3 kR4 kN0 kN1 kN2 kN3 kN4
        rw [TM.out]
        exact ⟨some ⟨ga, oa, none⟩, wl, ac, b, dl, bc, rfl, LN.out, CS.out, FA.out _ bR, FC.out _ bR, (fun x e h0 => by obtain rfl := Option.some.inj e; simp only; omega), (fun x e h0 => by have := (LB.out x e h0).1; omega), (fun x y e e2 h0 h2 => by obtain rfl := Option.some.inj e; have := (LB.out y e2 h2).2.2; exact fun h => this h.symm), B.out _ bR⟩
    · go_simp
      go_at_call 75
      have BP : Hid (Below (w7.heap.size) w7 w7.drew) := (bdrew bR)
      refine (sizeImpl (pl : Nat) c0 ya yl yc _ (by omega)).mono ?_
      rintro e w9 ⟨rfl, hb⟩
      rw [SS.out]
      have hq : Below (w7.heap.size) w7 w9 := BP.out.trans (Below.mono hb (Nat.le_trans hz BP.out.size))
      have hzn : w7.heap.size ≤ w9.heap.size := Nat.le_trans hz hq.size
      replace B := lF B hq hzn
      replace FA := lF FA hq hzn
      replace FC := lF FC hq hzn
      replace KS := lF KS hq hzn
      replace XT := lF XT hq hzn
      replace lT := Nat.lt_of_lt_of_le lT hzn
      replace XR := lF XR hq hzn
      replace lR := Nat.lt_of_lt_of_le lR hzn
      replace XN := lF XN hq hzn
      replace lN := Nat.lt_of_lt_of_le lN hzn
      clear hq BP hz
      have hz : w9.heap.size ≤ w9.heap.size := Nat.le_refl _
      clear hb
      go_wp2_with fail
      refine hK.out _ _ (KS.out _ bR) (fun hHeld2 => ?_)
      clear hK K
      try simp only [Act.put, zgT, zg0, zgS, zsT, zs0, zsS]
      refine wpAnyH_ready (rs := [2]) (by kernel_rfl) (by simp) ?_
      refine AllReadyH.cons rfl (fun K hK => ?_) AllReadyH.nil
      obtain ⟨kN0, kN1, kN2, kN3, kN4⟩ := bk5 (XN.out w9 bR)
      go_simp
      clear kN0 kN1 kN2 kN3 kN4
      refine hK.out _ _ (KS.out _ bR) (fun hHeld3 => ?_)
      clear hK K
      try simp only [Act.put, zgT, zg0, zgS, zsT, zs0, zsS]
      refine tV 5 (v := ?_) rfl (by kernel_rfl) (fun _ _ _ h => h) ?_ (by assumption) ?_
      rotate_left 1
      · (intro x hSx; (try dsimp only at hSx); go_simp; try with_reducible rfl)
      try simp only [Act.put, zgT, zg0, zgS, zsT, zs0, zsS]
      refine tV 6 (v := ?_) rfl (by kernel_rfl) (fun _ _ _ h => h) ?_ (by assumption) ?_
      rotate_left 1
      · (intro x hSx; (try dsimp only at hSx); go_simp; try with_reducible rfl)
      try simp only [Act.put, zgT, zg0, zgS, zsT, zs0, zsS]
      refine wpAnyH_ready (rs := [7]) (by kernel_rfl) (by simp) ?_
      refine AllReadyH.cons rfl (fun K hK => ?_) AllReadyH.nil
      obtain ⟨kN0, kN1, kN2, kN3, kN4⟩ := bk5 (XN.out w9 bR)
      obtain ⟨qkN0, qkN1, qkN2, qkN3, qkN4⟩ := bq5 (XN.out w9 bR)
      go_simp
      clear kN0 kN1 kN2 kN3 kN4 qkN0 qkN1 qkN2 qkN3 qkN4
      have hw0 : w.heap.size ≤ w1.heap.size := hlow1
      replace XT := lS XT lT ((w9.setCell ⟨w1.heap.size, 2, none⟩ (.int .i64 (es : Nat)))) ((Below.heap_setCell _ _ _ _ (by first | omega | (simp; done) | (simp; omega))))
      replace XR := lS XR lR ((w9.setCell ⟨w1.heap.size, 2, none⟩ (.int .i64 (es : Nat)))) ((Below.heap_setCell _ _ _ _ (by first | omega | (simp; done) | (simp; omega))))
      replace XN : Hid (∀ y, Below (w9.heap.size) (w9.setCell ⟨w1.heap.size, 2, none⟩ (.int .i64 (es : Nat))) y → y.heap[w1.heap.size]? = some (.cells #[.slice (some ⟨ga, oa, none⟩) wl ac, .int .i64 (yg : Nat), .int .i64 (es : Nat), .int .i64 (od : Nat), .slice b dl bc] 29 (0, 0))) := fun y hy => (hy.block _ (by omega)).trans (boxS (XN.out w9 bR) 2 _)
      replace FA : Hid (∀ y, Below (w9.heap.size) (w9.setCell ⟨w1.heap.size, 2, none⟩ (.int .i64 (es : Nat))) y → Wri y (some ⟨ga, oa, none⟩) wl (fun j => (ws.set tp c0).getD j 0)) := fun y hy => ((FA.out w9 bR).keep (D := fun k9 => k9 = w1.heap.size) (Chg.set _ _ _ rfl) (fun x e h0 hd => by have h8 : x.block = w1.heap.size := hd; obtain rfl := Option.some.inj e; simp only at h8; omega)).later (hy.mono (by first | (simp; done) | (simp; omega)))
      replace FC : Hid (∀ y, Below (w9.heap.size) (w9.setCell ⟨w1.heap.size, 2, none⟩ (.int .i64 (es : Nat))) y → WriB y b dl (fun j => cd.getD j false)) := fun y hy => ((FC.out w9 bR).keep (D := fun k9 => k9 = w1.heap.size) (Chg.set _ _ _ rfl) (fun x e h0 hd => by have h8 : x.block = w1.heap.size := hd; have := LB.out x e h0; omega)).later (hy.mono (by first | (simp; done) | (simp; omega)))
      clear KS
      replace B : Hid (∀ y, Below (w9.heap.size) (w9.setCell ⟨w1.heap.size, 2, none⟩ (.int .i64 (es : Nat))) y → Below w.heap.size w y) := fun y hy => ((B.out w9 bR).setCell hw0 _).trans (hy.mono (by first | omega | exact Nat.le_trans (B.out w9 bR).size hz | (have := (B.out w9 bR).size; omega)))
      replace hz : w9.heap.size ≤ (w9.setCell ⟨w1.heap.size, 2, none⟩ (.int .i64 (es : Nat))).heap.size := by first | (simp; done) | simpa using hz
      clear hw0
      have KS : Hid (∀ x, Below (w9.heap.size) (w9.setCell ⟨w1.heap.size, 2, none⟩ (.int .i64 (es : Nat))) x → x.cell? ⟨w.heap.size + 1, 0, none⟩ = some (.int .i64 (pl : Nat)) ∧ x.cell? ⟨w.heap.size + 1, 1, none⟩ = some (.int .i64 c0) ∧ x.cell? ⟨w.heap.size + 1, 2, none⟩ = some (.slice ya yl yc)) := fun x hx => bk3 (XT.out x hx)
      refine hK.out _ _ (KS.out _ bR) (fun hHeld4 => ?_)
      clear hK K
      try simp only [Act.put, zgT, zg0, zgS, zsT, zs0, zsS]
      refine wpAnyH_done (by kernel_rfl) ?_ _
      clear hHeld hHeld2 hHeld3 hHeld4
      clear KS
      generalize (w9.setCell ⟨w1.heap.size, 2, none⟩ (.int .i64 (es : Nat))) = w10 at B FA FC XT XR XN hz ⊢
      have hzn : w9.heap.size ≤ w10.heap.size := Nat.le_trans hz (Below.size (Below.refl (w9.heap.size) w10))
      replace B := lF B (Below.refl (w9.heap.size) w10) hzn
      replace FA := lF FA (Below.refl (w9.heap.size) w10) hzn
      replace FC := lF FC (Below.refl (w9.heap.size) w10) hzn
      replace XT := lF XT (Below.refl (w9.heap.size) w10) hzn
      replace lT := Nat.lt_of_lt_of_le lT hzn
      replace XR := lF XR (Below.refl (w9.heap.size) w10) hzn
      replace lR := Nat.lt_of_lt_of_le lR hzn
      replace XN := lF XN (Below.refl (w9.heap.size) w10) hzn
      replace lN := Nat.lt_of_lt_of_le lN hzn
      clear hz
      have hz : w10.heap.size ≤ w10.heap.size := Nat.le_refl _
      obtain ⟨kT0, kT1, kT2⟩ := bk3 (XT.out w10 bR)
      obtain ⟨kR0, kR1, kR2, kR3, kR4⟩ := bk5 (XR.out w10 bR)
      obtain ⟨kN0, kN1, kN2, kN3, kN4⟩ := bk5 (XN.out w10 bR)
      go_wp2_with fail
      clear kT0 kT1 kT2 kR0 kR1 kR2 kR3 kR4 kN0 kN1 kN2 kN3 kN4
      have KS : Hid (∀ x, Below (w10.heap.size) w10 x → x.cell? ⟨w.heap.size + 1, 0, none⟩ = some (.int .i64 (pl : Nat)) ∧ x.cell? ⟨w.heap.size + 1, 1, none⟩ = some (.int .i64 c0) ∧ x.cell? ⟨w.heap.size + 1, 2, none⟩ = some (.slice ya yl yc) ∧ x.cell? ⟨w1.heap.size, 0, none⟩ = some (.slice (some ⟨ga, oa, none⟩) wl ac) ∧ x.cell? ⟨w1.heap.size, 1, none⟩ = some (.int .i64 (yg : Nat)) ∧ x.cell? ⟨w1.heap.size, 2, none⟩ = some (.int .i64 (es : Nat)) ∧ x.cell? ⟨w1.heap.size, 3, none⟩ = some (.int .i64 (od : Nat)) ∧ x.cell? ⟨w1.heap.size, 4, none⟩ = some (.slice b dl bc)) := fun x hx => ⟨(boxG (XT.out x hx) 0).1, (boxG (XT.out x hx) 1).1, (boxG (XT.out x hx) 2).1, (boxG (XN.out x hx) 0).1, (boxG (XN.out x hx) 1).1, (boxG (XN.out x hx) 2).1, (boxG (XN.out x hx) 3).1, (boxG (XN.out x hx) 4).1⟩
      refine wp_region_held_drew (S := fun x => x.cell? ⟨w.heap.size + 1, 0, none⟩ = some (.int .i64 (pl : Nat)) ∧ x.cell? ⟨w.heap.size + 1, 1, none⟩ = some (.int .i64 c0) ∧ x.cell? ⟨w.heap.size + 1, 2, none⟩ = some (.slice ya yl yc) ∧ x.cell? ⟨w1.heap.size, 0, none⟩ = some (.slice (some ⟨ga, oa, none⟩) wl ac) ∧ x.cell? ⟨w1.heap.size, 1, none⟩ = some (.int .i64 (yg : Nat)) ∧ x.cell? ⟨w1.heap.size, 2, none⟩ = some (.int .i64 (es : Nat)) ∧ x.cell? ⟨w1.heap.size, 3, none⟩ = some (.int .i64 (od : Nat)) ∧ x.cell? ⟨w1.heap.size, 4, none⟩ = some (.slice b dl bc)) (by kernel_rfl) ?_ (fun hHeld => ?_)
      · exact KS.out _ (bdrew bR)
      refine tV 0 (v := ?_) rfl (by kernel_rfl) (fun _ _ _ h => h) ?_ (by assumption) ?_
      rotate_left 1
      · (intro x hSx; (try dsimp only at hSx); go_simp; try with_reducible rfl)
      try simp only [Act.put, zgT, zg0, zsT, zs0, zsS]
      refine tV 1 (v := ?_) rfl (by kernel_rfl) (fun _ _ _ h => h) ?_ (by assumption) ?_
      rotate_left 1
      · (intro x hSx; (try dsimp only at hSx); go_simp; try with_reducible rfl)
      try simp only [Act.put, zgT, zg0, zgS, zsT, zs0, zsS]
      refine tV 2 (v := ?_) rfl (by kernel_rfl) (fun _ _ _ h => h) ?_ (by assumption) ?_
      rotate_left 1
      · (intro x hSx; (try dsimp only at hSx); go_simp; try with_reducible rfl)
      try simp only [Act.put, zgT, zg0, zgS, zsT, zs0, zsS]
      refine wpAnyH_ready (rs := [3]) (by kernel_rfl) (by simp) ?_
      refine AllReadyH.cons rfl (fun K hK => ?_) AllReadyH.nil
      obtain ⟨kR0, kR1, kR2, kR3, kR4⟩ := bk5 (XR.out w10 bR)
      obtain ⟨qkR0, qkR1, qkR2, qkR3, qkR4⟩ := bq5 (XR.out w10 bR)
      go_simp
      clear kR0 kR1 kR2 kR3 kR4 qkR0 qkR1 qkR2 qkR3 qkR4
      generalize hW : (((((w10.setCell ⟨w.heap.size + 1 + 1, 0, none⟩ (.slice (some ⟨ga, oa, none⟩) wl ac)).setCell ⟨w.heap.size + 1 + 1, 1, none⟩ (.int .i64 (yg : Nat))).setCell ⟨w.heap.size + 1 + 1, 2, none⟩ (.int .i64 (es : Nat))).setCell ⟨w.heap.size + 1 + 1, 3, none⟩ (.int .i64 (od : Nat))).setCell ⟨w.heap.size + 1 + 1, 4, none⟩ (.slice b dl bc)) = wB1
      have hkB : ∀ a, a ≠ w.heap.size + 1 + 1 → wB1.heap[a]? = w10.heap[a]? := by subst hW; exact fun a h => (Below.heap_setCell _ _ _ _ h).trans ((Below.heap_setCell _ _ _ _ h).trans ((Below.heap_setCell _ _ _ _ h).trans ((Below.heap_setCell _ _ _ _ h).trans ((Below.heap_setCell _ _ _ _ h)))))
      have hw0 : w.heap.size ≤ w.heap.size + 1 + 1 := (by first | omega | (simp; done) | (simp; omega) | (simp at *; omega))
      replace XT := lS XT lT wB1 (hkB _ (by first | omega | (simp; done) | (simp; omega)))
      replace XN := lS XN lN wB1 (hkB _ (by first | omega | (simp; done) | (simp; omega)))
      replace XR : Hid (∀ y, Below (w10.heap.size) wB1 y → y.heap[w.heap.size + 1 + 1]? = some (.cells #[.slice (some ⟨ga, oa, none⟩) wl ac, .int .i64 (yg : Nat), .int .i64 (es : Nat), .int .i64 (od : Nat), .slice b dl bc] 29 (0, 0))) := fun y hy => by subst hW; exact (hy.block _ (by omega)).trans (boxS (boxS (boxS (boxS (boxS (XR.out w10 bR) 0 _) 1 _) 2 _) 3 _) 4 _)
      replace FA : Hid (∀ y, Below (w10.heap.size) wB1 y → Wri y (some ⟨ga, oa, none⟩) wl (fun j => (ws.set tp c0).getD j 0)) := fun y hy => by subst hW; exact ((FA.out w10 bR).keep (D := fun k9 => k9 = w.heap.size + 1 + 1) (chg5 w10 (w.heap.size + 1 + 1) (.slice (some ⟨ga, oa, none⟩) wl ac) (.int .i64 (yg : Nat)) (.int .i64 (es : Nat)) (.int .i64 (od : Nat)) (.slice b dl bc)) (fun x e h0 hd => by have h8 : x.block = w.heap.size + 1 + 1 := hd; obtain rfl := Option.some.inj e; simp only at h8; omega)).later (hy.mono (by first | (simp; done) | (simp; omega)))
      replace FC : Hid (∀ y, Below (w10.heap.size) wB1 y → WriB y b dl (fun j => cd.getD j false)) := fun y hy => by subst hW; exact ((FC.out w10 bR).keep (D := fun k9 => k9 = w.heap.size + 1 + 1) (chg5 w10 (w.heap.size + 1 + 1) (.slice (some ⟨ga, oa, none⟩) wl ac) (.int .i64 (yg : Nat)) (.int .i64 (es : Nat)) (.int .i64 (od : Nat)) (.slice b dl bc)) (fun x e h0 hd => by have h8 : x.block = w.heap.size + 1 + 1 := hd; have := LB.out x e h0; omega)).later (hy.mono (by first | (simp; done) | (simp; omega)))
      clear KS
      replace B : Hid (∀ y, Below (w10.heap.size) wB1 y → Below w.heap.size w y) := fun y hy => by subst hW; exact ((((((B.out w10 bR).setCell hw0 _).setCell hw0 _).setCell hw0 _).setCell hw0 _).setCell hw0 _).trans (hy.mono (by first | omega | exact Nat.le_trans (B.out w10 bR).size hz | (have := (B.out w10 bR).size; omega)))
      replace hz : w10.heap.size ≤ wB1.heap.size := by subst hW; first | (simp; done) | simpa using hz
      clear hw0 hW hkB
      replace B := lD B
      replace FA := lD FA
      replace FC := lD FC
      replace XT := lD XT
      replace XR := lD XR
      replace XN := lD XN
      replace hz : w10.heap.size ≤ (wB1.drew).heap.size := Nat.le_trans hz (Below.size (bdrew (Below.refl (w10.heap.size) wB1)))
      have KS : Hid (∀ x, Below (w10.heap.size) (wB1.drew) x → x.cell? ⟨w.heap.size + 1, 0, none⟩ = some (.int .i64 (pl : Nat)) ∧ x.cell? ⟨w.heap.size + 1, 1, none⟩ = some (.int .i64 c0) ∧ x.cell? ⟨w.heap.size + 1, 2, none⟩ = some (.slice ya yl yc) ∧ x.cell? ⟨w1.heap.size, 0, none⟩ = some (.slice (some ⟨ga, oa, none⟩) wl ac) ∧ x.cell? ⟨w1.heap.size, 1, none⟩ = some (.int .i64 (yg : Nat)) ∧ x.cell? ⟨w1.heap.size, 2, none⟩ = some (.int .i64 (es : Nat)) ∧ x.cell? ⟨w1.heap.size, 3, none⟩ = some (.int .i64 (od : Nat)) ∧ x.cell? ⟨w1.heap.size, 4, none⟩ = some (.slice b dl bc)) := fun x hx => ⟨(boxG (XT.out x hx) 0).1, (boxG (XT.out x hx) 1).1, (boxG (XT.out x hx) 2).1, (boxG (XN.out x hx) 0).1, (boxG (XN.out x hx) 1).1, (boxG (XN.out x hx) 2).1, (boxG (XN.out x hx) 3).1, (boxG (XN.out x hx) 4).1⟩
      refine hK.out _ _ (KS.out _ bR) (fun hHeld2 => ?_)
      clear hK K
      try simp only [Act.put, zgT, zg0, zgS, zsT, zs0, zsS]
      refine tV 4 (v := ?_) rfl (by kernel_rfl) (fun _ _ _ h => h) ?_ (by assumption) ?_
      rotate_left 1
      · (intro x hSx; (try dsimp only at hSx); go_simp; try with_reducible rfl)
      try simp only [Act.put, zgT, zg0, zgS, zsT, zs0, zsS]
      refine wpAnyH_done (by kernel_rfl) ?_ _
      clear hHeld hHeld2
      clear KS
      generalize (wB1.drew) = w11 at B FA FC XT XR XN hz ⊢
      have hzn : w10.heap.size ≤ w11.heap.size := Nat.le_trans hz (Below.size (Below.refl (w10.heap.size) w11))
      replace B := lF B (Below.refl (w10.heap.size) w11) hzn
      replace FA := lF FA (Below.refl (w10.heap.size) w11) hzn
      replace FC := lF FC (Below.refl (w10.heap.size) w11) hzn
      replace XT := lF XT (Below.refl (w10.heap.size) w11) hzn
      replace lT := Nat.lt_of_lt_of_le lT hzn
      replace XR := lF XR (Below.refl (w10.heap.size) w11) hzn
      replace lR := Nat.lt_of_lt_of_le lR hzn
      replace XN := lF XN (Below.refl (w10.heap.size) w11) hzn
      replace lN := Nat.lt_of_lt_of_le lN hzn
      clear hz
      have hz : w11.heap.size ≤ w11.heap.size := Nat.le_refl _
      obtain ⟨kT0, kT1, kT2⟩ := bk3 (XT.out w11 bR)
      obtain ⟨kR0, kR1, kR2, kR3, kR4⟩ := bk5 (XR.out w11 bR)
      obtain ⟨kN0, kN1, kN2, kN3, kN4⟩ := bk5 (XN.out w11 bR)
      rename_i K0 hK0
      refine hK0 _ _ (wp_ret ?_)
      refine bodyPost_ret (v := .tuple #[.agg #[.slice (some ⟨ga, oa, none⟩) wl ac, .int .i64 (yg : Nat), .int .i64 (es : Nat), .int .i64 (od : Nat), .slice b dl bc], .int .i64 (pl : Nat)]) ?_ rfl ?_
      · simp [results, Tryz.results36, go_sem, *]
      · clear kT0 kT1 kT2 kR0 kR1 kR2 kR3 kR4 kN0 kN1 kN2 kN3 kN4
        rw [TM.out]
        exact ⟨some ⟨ga, oa, none⟩, wl, ac, b, dl, bc, rfl, LN.out, CS.out, FA.out _ bR, FC.out _ bR, (fun x e h0 => by obtain rfl := Option.some.inj e; simp only; omega), (fun x e h0 => by have := (LB.out x e h0).1; omega), (fun x y e e2 h0 h2 => by obtain rfl := Option.some.inj e; have := (LB.out y e2 h2).2.2; exact fun h => this h.symm), B.out _ bR⟩
  obtain ⟨kM0, kM1, kM2, kM3, kM4, kM5, kM6, kM7, kM8, kM9, kM10, kM11, kM12⟩ := bk13 (XM.out w1 bR)
  obtain ⟨kT0, kT1, kT2⟩ := bk3 (XT.out w1 bR)
  obtain ⟨kR0, kR1, kR2, kR3, kR4⟩ := bk5 (XR.out w1 bR)
  go_upto_region 5 with fail
  clear kM0 kM1 kM2 kM3 kM4 kM5 kM6 kM7 kM8 kM9 kM10 kM11 kM12 kT0 kT1 kT2 kR0 kR1 kR2 kR3 kR4
  clear XM lM
  have BP : Hid (Below (w1.heap.size) w1 (w1.alloc (.cells #[.slice (some ⟨ga, oa, none⟩) wl ac, .int .i64 (yg : Nat), .int .i64 (tp : Nat), .int .i64 (od : Nat), .slice b dl bc] 29))) := (bR.alloc (by first | exact hz | (simp; done) | (simp; omega) | (have := hz; simp at this ⊢; omega)) _)
  replace B := lA B BP
  replace FA := lA FA BP
  replace FC := lA FC BP
  replace XT := lA XT BP
  replace lT := lL lT
  replace XR := lA XR BP
  replace lR := lL lR
  have XN : Hid (∀ y, Below (w1.heap.size + 1) (w1.alloc (.cells #[.slice (some ⟨ga, oa, none⟩) wl ac, .int .i64 (yg : Nat), .int .i64 (tp : Nat), .int .i64 (od : Nat), .slice b dl bc] 29)) y → y.heap[w1.heap.size]? = some (.cells #[.slice (some ⟨ga, oa, none⟩) wl ac, .int .i64 (yg : Nat), .int .i64 (tp : Nat), .int .i64 (od : Nat), .slice b dl bc] 29 (0, 0))) := fun y hy => (hy.block _ (by omega)).trans (boxN _ _ _ _ (by simp))
  have lN : w1.heap.size < w1.heap.size + 1 := by omega
  replace hz : w1.heap.size + 1 ≤ ((w1.alloc (.cells #[.slice (some ⟨ga, oa, none⟩) wl ac, .int .i64 (yg : Nat), .int .i64 (tp : Nat), .int .i64 (od : Nat), .slice b dl bc] 29))).heap.size := by simp
  clear BP
  have BP : Hid (Below (w1.heap.size + 1) (w1.alloc (.cells #[.slice (some ⟨ga, oa, none⟩) wl ac, .int .i64 (yg : Nat), .int .i64 (tp : Nat), .int .i64 (od : Nat), .slice b dl bc] 29)) ((w1.alloc (.cells #[.slice (some ⟨ga, oa, none⟩) wl ac, .int .i64 (yg : Nat), .int .i64 (tp : Nat), .int .i64 (od : Nat), .slice b dl bc] 29)).alloc (.cells #[.slice (some ⟨wb, wo + yg, none⟩) ol oc, .int .i64 (yg : Nat), .int .i64 (ou : Nat)] 62))) := (bR.alloc (by first | exact hz | (simp; done) | (simp; omega) | (have := hz; simp at this ⊢; omega)) _)
  replace B := lA B BP
  replace FA := lA FA BP
  replace FC := lA FC BP
  replace XT := lA XT BP
  replace lT := lL lT
  replace XR := lA XR BP
  replace lR := lL lR
  replace XN := lA XN BP
  replace lN := lL lN
  have XP : Hid (∀ y, Below (w1.heap.size + 1 + 1) ((w1.alloc (.cells #[.slice (some ⟨ga, oa, none⟩) wl ac, .int .i64 (yg : Nat), .int .i64 (tp : Nat), .int .i64 (od : Nat), .slice b dl bc] 29)).alloc (.cells #[.slice (some ⟨wb, wo + yg, none⟩) ol oc, .int .i64 (yg : Nat), .int .i64 (ou : Nat)] 62)) y → y.heap[w1.heap.size + 1]? = some (.cells #[.slice (some ⟨wb, wo + yg, none⟩) ol oc, .int .i64 (yg : Nat), .int .i64 (ou : Nat)] 62 (0, 0))) := fun y hy => (hy.block _ (by omega)).trans (boxN _ _ _ _ (by simp))
  have lP : w1.heap.size + 1 < w1.heap.size + 1 + 1 := by omega
  replace hz : w1.heap.size + 1 + 1 ≤ (((w1.alloc (.cells #[.slice (some ⟨ga, oa, none⟩) wl ac, .int .i64 (yg : Nat), .int .i64 (tp : Nat), .int .i64 (od : Nat), .slice b dl bc] 29)).alloc (.cells #[.slice (some ⟨wb, wo + yg, none⟩) ol oc, .int .i64 (yg : Nat), .int .i64 (ou : Nat)] 62))).heap.size := by simp
  clear BP
  generalize ((w1.alloc (.cells #[.slice (some ⟨ga, oa, none⟩) wl ac, .int .i64 (yg : Nat), .int .i64 (tp : Nat), .int .i64 (od : Nat), .slice b dl bc] 29)).alloc (.cells #[.slice (some ⟨wb, wo + yg, none⟩) ol oc, .int .i64 (yg : Nat), .int .i64 (ou : Nat)] 62)) = w2 at B FA FC XT XR XN XP hz ⊢
  have hzn : w1.heap.size + 1 + 1 ≤ w2.heap.size := Nat.le_trans hz (Below.size (Below.refl (w1.heap.size + 1 + 1) w2))
  replace B := lF B (Below.refl (w1.heap.size + 1 + 1) w2) hzn
  replace FA := lF FA (Below.refl (w1.heap.size + 1 + 1) w2) hzn
  replace FC := lF FC (Below.refl (w1.heap.size + 1 + 1) w2) hzn
  replace XT := lF XT (Below.refl (w1.heap.size + 1 + 1) w2) hzn
  replace lT := Nat.lt_of_lt_of_le lT hzn
  replace XR := lF XR (Below.refl (w1.heap.size + 1 + 1) w2) hzn
  replace lR := Nat.lt_of_lt_of_le lR hzn
  replace XN := lF XN (Below.refl (w1.heap.size + 1 + 1) w2) hzn
  replace lN := Nat.lt_of_lt_of_le lN hzn
  replace XP := lF XP (Below.refl (w1.heap.size + 1 + 1) w2) hzn
  replace lP := Nat.lt_of_lt_of_le lP hzn
  clear hz
  have hz : w2.heap.size ≤ w2.heap.size := Nat.le_refl _
  obtain ⟨fr, hfr⟩ : ∃ fr, (ol - ou) = fr := ⟨_, rfl⟩
  obtain ⟨pl, hpl⟩ : ∃ pl, od + 1 = pl := ⟨_, rfl⟩
  obtain ⟨es, hes⟩ : ∃ es, od + s = es := ⟨_, rfl⟩
  have hN1 : w1.heap.size ≠ ga := by omega
  have HES : Hid (od + s = es) := hes
  have hadd : IntKind.i64.wrap ((od : Int) + (s : Int)) = (es : Int) := by rw [IntKind.wrap_i64] <;> omega
  have hbd : od + fr ≤ wl := by omega
  have KS : Hid (∀ x, Below (w2.heap.size) w2 x → x.cell? ⟨w.heap.size + 1, 0, none⟩ = some (.int .i64 0) ∧ x.cell? ⟨w.heap.size + 1, 1, none⟩ = some (.int .i64 c0) ∧ x.cell? ⟨w.heap.size + 1, 2, none⟩ = some (.slice ya yl yc) ∧ x.cell? ⟨w1.heap.size + 1, 0, none⟩ = some (.slice (some ⟨wb, wo + yg, none⟩) ol oc) ∧ x.cell? ⟨w1.heap.size + 1, 1, none⟩ = some (.int .i64 (yg : Nat)) ∧ x.cell? ⟨w1.heap.size + 1, 2, none⟩ = some (.int .i64 (ou : Nat))) := fun x hx => ⟨(boxG (XT.out x hx) 0).1, (boxG (XT.out x hx) 1).1, (boxG (XT.out x hx) 2).1, (boxG (XP.out x hx) 0).1, (boxG (XP.out x hx) 1).1, (boxG (XP.out x hx) 2).1⟩
  refine wp_region_held_drew (S := fun x => x.cell? ⟨w.heap.size + 1, 0, none⟩ = some (.int .i64 0) ∧ x.cell? ⟨w.heap.size + 1, 1, none⟩ = some (.int .i64 c0) ∧ x.cell? ⟨w.heap.size + 1, 2, none⟩ = some (.slice ya yl yc) ∧ x.cell? ⟨w1.heap.size + 1, 0, none⟩ = some (.slice (some ⟨wb, wo + yg, none⟩) ol oc) ∧ x.cell? ⟨w1.heap.size + 1, 1, none⟩ = some (.int .i64 (yg : Nat)) ∧ x.cell? ⟨w1.heap.size + 1, 2, none⟩ = some (.int .i64 (ou : Nat))) (by kernel_rfl) ?_ (fun hHeld => ?_)
  · exact KS.out _ (bdrew bR)
  refine tV 0 (v := ?_) rfl (by kernel_rfl) (fun _ _ _ h => h) ?_ (by assumption) ?_
  rotate_left 1
  · (intro x hSx; (try dsimp only at hSx); go_simp; try with_reducible rfl)
  try simp only [Act.put, zgT, zg0, zsT, zs0, zsS]
  refine tV 2 (v := ?_) rfl (by kernel_rfl) (fun _ _ _ h => h) ?_ (by assumption) ?_
  rotate_left 1
  · (intro x hSx; (try dsimp only at hSx); go_simp; try with_reducible rfl)
  try simp only [Act.put, zgT, zg0, zgS, zsT, zs0, zsS]
  refine wpAnyH_ready (rs := [1]) (by kernel_rfl) (by simp) ?_
  refine AllReadyH.cons rfl (fun K hK => ?_) AllReadyH.nil
  go_simp
  go_at_call 75
  have BP : Hid (Below (w2.heap.size) w2 w2.drew) := (bdrew bR)
  refine (sizeImpl 0 c0 ya yl yc _ (by omega)).mono ?_
  rintro e w3 ⟨rfl, hb⟩
  rw [SS.out]
  have hq : Below (w2.heap.size) w2 w3 := BP.out.trans (Below.mono hb (Nat.le_trans hz BP.out.size))
  have hzn : w2.heap.size ≤ w3.heap.size := Nat.le_trans hz hq.size
  replace B := lF B hq hzn
  replace FA := lF FA hq hzn
  replace FC := lF FC hq hzn
  replace KS := lF KS hq hzn
  replace XT := lF XT hq hzn
  replace lT := Nat.lt_of_lt_of_le lT hzn
  replace XR := lF XR hq hzn
  replace lR := Nat.lt_of_lt_of_le lR hzn
  replace XN := lF XN hq hzn
  replace lN := Nat.lt_of_lt_of_le lN hzn
  replace XP := lF XP hq hzn
  replace lP := Nat.lt_of_lt_of_le lP hzn
  clear hq BP hz
  have hz : w3.heap.size ≤ w3.heap.size := Nat.le_refl _
  clear hb
  go_wp2_with fail
  refine hK.out _ _ (KS.out _ bR) (fun hHeld2 => ?_)
  clear hK K
  try simp only [Act.put, zgT, zg0, zgS, zsT, zs0, zsS]
  refine wpAnyH_ready (rs := [3]) (by kernel_rfl) (by simp) ?_
  refine AllReadyH.cons rfl (fun K hK => ?_) AllReadyH.nil
  go_simp
  go_at_call 76
  have BP : Hid (Below (w3.heap.size) w3 w3) := bR
  refine (freeImpl wb (wo + yg) ol oc yg ou _ (by omega) (by omega)).mono ?_
  rintro e w4 ⟨ra, rc, rfl, hra, hb⟩
  rw [hfr]
  clear hra
  have hq : Below (w3.heap.size) w3 w4 := BP.out.trans (Below.mono hb (Nat.le_trans hz BP.out.size))
  have hzn : w3.heap.size ≤ w4.heap.size := Nat.le_trans hz hq.size
  replace B := lF B hq hzn
  replace FA := lF FA hq hzn
  replace FC := lF FC hq hzn
  replace KS := lF KS hq hzn
  replace XT := lF XT hq hzn
  replace lT := Nat.lt_of_lt_of_le lT hzn
  replace XR := lF XR hq hzn
  replace lR := Nat.lt_of_lt_of_le lR hzn
  replace XN := lF XN hq hzn
  replace lN := Nat.lt_of_lt_of_le lN hzn
  replace XP := lF XP hq hzn
  replace lP := Nat.lt_of_lt_of_le lP hzn
  clear hq BP hz
  have hz : w4.heap.size ≤ w4.heap.size := Nat.le_refl _
  clear hb
  go_wp2_with fail
  refine hK.out _ _ (KS.out _ bR) (fun hHeld3 => ?_)
  clear hK K
  try simp only [Act.put, zgT, zg0, zgS, zsT, zs0, zsS]
  refine tV 4 (v := ?_) rfl (by kernel_rfl) (fun _ _ _ h => h) ?_ (by assumption) ?_
  rotate_left 1
  · (intro x hSx; (try dsimp only at hSx); go_simp; try with_reducible rfl)
  try simp only [Act.put, zgT, zg0, zgS, zsT, zs0, zsS]
  refine tV 5 (v := ?_) rfl (by kernel_rfl) (fun _ _ _ h => h) ?_ (by assumption) ?_
  rotate_left 1
  · (intro x hSx; (try dsimp only at hSx); go_simp; try with_reducible rfl)
  try simp only [Act.put, zgT, zg0, zgS, zsT, zs0, zsS]
  refine wpAnyH_done (by kernel_rfl) ?_ _
  clear hHeld hHeld2 hHeld3
  clear KS
  by_cases hr : s ≤ fr
  rotate_left 1
  · have hgt : (fr : Int) < (s : Int) := by omega
    have TM : Hid (tryM (ws, (yg : Int), (tp : Int), (od : Int), cd) c0 (yl : Int) s true = ((ws, (yg : Int), (tp : Int), (od : Int), cd), 0)) := by
      show _ = _
      unfold tryM
      rw [if_pos rfl, if_neg (by simp only [WS.out]; omega)]
    obtain ⟨kT0, kT1, kT2⟩ := bk3 (XT.out w4 bR)
    obtain ⟨kR0, kR1, kR2, kR3, kR4⟩ := bk5 (XR.out w4 bR)
    obtain ⟨qkR0, qkR1, qkR2, qkR3, qkR4⟩ := bq5 (XR.out w4 bR)
    obtain ⟨kN0, kN1, kN2, kN3, kN4⟩ := bk5 (XN.out w4 bR)
    obtain ⟨kP0, kP1, kP2⟩ := bk3 (XP.out w4 bR)
    go_wp2_with fail
    refine bodyPost_ret (v := .tuple #[.agg #[.slice (some ⟨ga, oa, none⟩) wl ac, .int .i64 (yg : Nat), .int .i64 (tp : Nat), .int .i64 (od : Nat), .slice b dl bc], .int .i64 0]) ?_ rfl ?_
    · simp [results, Tryz.results36, go_sem, *]
    · clear kT0 kT1 kT2 kR0 kR1 kR2 kR3 kR4 qkR0 qkR1 qkR2 qkR3 qkR4 kN0 kN1 kN2 kN3 kN4 kP0 kP1 kP2
      rw [TM.out]
      exact ⟨some ⟨ga, oa, none⟩, wl, ac, b, dl, bc, rfl, WS.out, CS.out, (FA.out w4 bR).keep (chg5 w4 (w.heap.size + 1 + 1) (.slice (some ⟨ga, oa, none⟩) wl ac) (.int .i64 (yg : Nat)) (.int .i64 (tp : Nat)) (.int .i64 (od : Nat)) (.slice b dl bc)) (fun x e h0 hd => by have h8 : x.block = w.heap.size + 1 + 1 := hd; obtain rfl := Option.some.inj e; simp only at h8; omega), (FC.out w4 bR).keep (chg5 w4 (w.heap.size + 1 + 1) (.slice (some ⟨ga, oa, none⟩) wl ac) (.int .i64 (yg : Nat)) (.int .i64 (tp : Nat)) (.int .i64 (od : Nat)) (.slice b dl bc)) (fun x e h0 hd => by have h8 : x.block = w.heap.size + 1 + 1 := hd; have := (LB.out x e h0).1; omega), (fun x e h0 => by obtain rfl := Option.some.inj e; simp only; omega), (fun x e h0 => by have := (LB.out x e h0).1; omega), (fun x y e e2 h0 h2 => by obtain rfl := Option.some.inj e; have := (LB.out y e2 h2).2.2; exact fun h => this h.symm), by (repeat (refine Below.setCell ?_ (by first | omega | (simp <;> omega)) _)); exact B.out _ bR⟩
  have hgt : ¬ ((fr : Int) < (s : Int)) := by omega
  have hil : od < wl := by omega
  obtain ⟨kT0, kT1, kT2⟩ := bk3 (XT.out w4 bR)
  obtain ⟨kR0, kR1, kR2, kR3, kR4⟩ := bk5 (XR.out w4 bR)
  obtain ⟨kN0, kN1, kN2, kN3, kN4⟩ := bk5 (XN.out w4 bR)
  obtain ⟨kP0, kP1, kP2⟩ := bk3 (XP.out w4 bR)
  go_wp2_with fail
  clear kT0 kT1 kT2 kR0 kR1 kR2 kR3 kR4 kN0 kN1 kN2 kN3 kN4 kP0 kP1 kP2
  have BP : Hid (Below (w4.heap.size) w4 w4) := bR
  refine (nextImpl wb (wo + yg) ol oc yg ou _ (by omega) (by omega)).mono ?_
  rintro e w5 ⟨rfl, hb⟩
  rw [show (yg + ou + 1) = pl by omega]
  have hq : Below (w4.heap.size) w4 w5 := BP.out.trans (Below.mono hb (Nat.le_trans hz BP.out.size))
  have hzn : w4.heap.size ≤ w5.heap.size := Nat.le_trans hz hq.size
  replace B := lF B hq hzn
  replace FA := lF FA hq hzn
  replace FC := lF FC hq hzn
  replace XT := lF XT hq hzn
  replace lT := Nat.lt_of_lt_of_le lT hzn
  replace XR := lF XR hq hzn
  replace lR := Nat.lt_of_lt_of_le lR hzn
  replace XN := lF XN hq hzn
  replace lN := Nat.lt_of_lt_of_le lN hzn
  replace XP := lF XP hq hzn
  replace lP := Nat.lt_of_lt_of_le lP hzn
  clear hq BP hz
  have hz : w5.heap.size ≤ w5.heap.size := Nat.le_refl _
  clear hb
  obtain ⟨kT0, kT1, kT2⟩ := bk3 (XT.out w5 bR)
  obtain ⟨qkT0, qkT1, qkT2⟩ := bq3 (XT.out w5 bR)
  obtain ⟨kR0, kR1, kR2, kR3, kR4⟩ := bk5 (XR.out w5 bR)
  obtain ⟨kN0, kN1, kN2, kN3, kN4⟩ := bk5 (XN.out w5 bR)
  obtain ⟨kP0, kP1, kP2⟩ := bk3 (XP.out w5 bR)
  go_upto_region 8 with fail
  clear kT0 kT1 kT2 qkT0 qkT1 qkT2 kR0 kR1 kR2 kR3 kR4 kN0 kN1 kN2 kN3 kN4 kP0 kP1 kP2
  clear XP lP
  have hw0 : w.heap.size ≤ w.heap.size + 1 := (by first | omega | (simp; done) | (simp; omega) | (simp at *; omega))
  replace XR := lS XR lR ((w5.setCell ⟨w.heap.size + 1, 0, none⟩ (.int .i64 (pl : Nat)))) ((Below.heap_setCell _ _ _ _ (by first | omega | (simp; done) | (simp; omega))))
  replace XN := lS XN lN ((w5.setCell ⟨w.heap.size + 1, 0, none⟩ (.int .i64 (pl : Nat)))) ((Below.heap_setCell _ _ _ _ (by first | omega | (simp; done) | (simp; omega))))
  replace XT : Hid (∀ y, Below (w5.heap.size) (w5.setCell ⟨w.heap.size + 1, 0, none⟩ (.int .i64 (pl : Nat))) y → y.heap[w.heap.size + 1]? = some (.cells #[.int .i64 (pl : Nat), .int .i64 c0, .slice ya yl yc] 69 (0, 0))) := fun y hy => (hy.block _ (by omega)).trans (boxS (XT.out w5 bR) 0 _)
  replace FA : Hid (∀ y, Below (w5.heap.size) (w5.setCell ⟨w.heap.size + 1, 0, none⟩ (.int .i64 (pl : Nat))) y → Wri y (some ⟨ga, oa, none⟩) wl (fun j => (ws).getD j 0)) := fun y hy => ((FA.out w5 bR).keep (D := fun k9 => k9 = w.heap.size + 1) (Chg.set _ _ _ rfl) (fun x e h0 hd => by have h8 : x.block = w.heap.size + 1 := hd; obtain rfl := Option.some.inj e; simp only at h8; omega)).later (hy.mono (by first | (simp; done) | (simp; omega)))
  replace FC : Hid (∀ y, Below (w5.heap.size) (w5.setCell ⟨w.heap.size + 1, 0, none⟩ (.int .i64 (pl : Nat))) y → WriB y b dl (fun j => cd.getD j false)) := fun y hy => ((FC.out w5 bR).keep (D := fun k9 => k9 = w.heap.size + 1) (Chg.set _ _ _ rfl) (fun x e h0 hd => by have h8 : x.block = w.heap.size + 1 := hd; have := LB.out x e h0; omega)).later (hy.mono (by first | (simp; done) | (simp; omega)))
  replace B : Hid (∀ y, Below (w5.heap.size) (w5.setCell ⟨w.heap.size + 1, 0, none⟩ (.int .i64 (pl : Nat))) y → Below w.heap.size w y) := fun y hy => ((B.out w5 bR).setCell hw0 _).trans (hy.mono (by first | omega | exact Nat.le_trans (B.out w5 bR).size hz | (have := (B.out w5 bR).size; omega)))
  replace hz : w5.heap.size ≤ (w5.setCell ⟨w.heap.size + 1, 0, none⟩ (.int .i64 (pl : Nat))).heap.size := by first | (simp; done) | simpa using hz
  clear hw0
  generalize (w5.setCell ⟨w.heap.size + 1, 0, none⟩ (.int .i64 (pl : Nat))) = w6 at B FA FC XT XR XN hz ⊢
  have hzn : w5.heap.size ≤ w6.heap.size := Nat.le_trans hz (Below.size (Below.refl (w5.heap.size) w6))
  replace B := lF B (Below.refl (w5.heap.size) w6) hzn
  replace FA := lF FA (Below.refl (w5.heap.size) w6) hzn
  replace FC := lF FC (Below.refl (w5.heap.size) w6) hzn
  replace XT := lF XT (Below.refl (w5.heap.size) w6) hzn
  replace lT := Nat.lt_of_lt_of_le lT hzn
  replace XR := lF XR (Below.refl (w5.heap.size) w6) hzn
  replace lR := Nat.lt_of_lt_of_le lR hzn
  replace XN := lF XN (Below.refl (w5.heap.size) w6) hzn
  replace lN := Nat.lt_of_lt_of_le lN hzn
  clear hz
  have hz : w6.heap.size ≤ w6.heap.size := Nat.le_refl _
  have hsub : IntKind.i64.wrap ((pl : Int) - 1) = (od : Int) := by rw [IntKind.wrap_i64] <;> omega
  obtain ⟨kA1, kA2⟩ := (FA.out w6 bR).cell hil
  obtain ⟨kT0, kT1, kT2⟩ := bk3 (XT.out w6 bR)
  obtain ⟨kR0, kR1, kR2, kR3, kR4⟩ := bk5 (XR.out w6 bR)
  obtain ⟨kN0, kN1, kN2, kN3, kN4⟩ := bk5 (XN.out w6 bR)
  go_upto_region 9 with fail
  clear kT0 kT1 kT2 kR0 kR1 kR2 kR3 kR4 kN0 kN1 kN2 kN3 kN4
  clear kA1 kA2
  replace XT := lS XT lT (w6.setCell ⟨ga, oa + od, none⟩ (.int .i64 c0)) (Below.heap_setCell _ _ _ _ (by simp only; omega))
  replace XR := lS XR lR (w6.setCell ⟨ga, oa + od, none⟩ (.int .i64 c0)) (Below.heap_setCell _ _ _ _ (by simp only; omega))
  replace XN := lS XN lN (w6.setCell ⟨ga, oa + od, none⟩ (.int .i64 c0)) (Below.heap_setCell _ _ _ _ (by simp only; omega))
  have hs9 : (w6.setCell ⟨ga, oa + od, none⟩ (.int .i64 c0)).heap.size = w6.heap.size := World.size_setCell _ _ _
  have FA9 : Hid (∀ y, Below (w6.heap.size) (w6.setCell ⟨ga, oa + od, none⟩ (.int .i64 c0)) y → Wri y (some ⟨ga, oa, none⟩) wl (fun j => (ws.set od c0).getD j 0)) := fun y hy => (((FA.out w6 bR).put hil c0).congr (fun j _ => (set_getD ws _ c0 0 (by first | (rw [List.length_set, WS.out]; exact hil) | (rw [WS.out]; exact hil)) j).symm)).later (hy.mono (by rw [hs9]; first | exact Nat.le_refl _ | (simp; done) | omega))
  have FC9 : Hid (∀ y, Below (w6.heap.size) (w6.setCell ⟨ga, oa + od, none⟩ (.int .i64 c0)) y → WriB y b dl (fun j => cd.getD j false)) := fun y hy => ((FC.out w6 bR).keep (D := fun k9 => k9 = ga) (Chg.set _ _ _ rfl) (fun x e h0 hd => (LB.out x e h0).2.2 hd)).later (hy.mono (by rw [hs9]; first | exact Nat.le_refl _ | (simp; done) | omega))
  replace B : Hid (∀ y, Below (w6.heap.size) (w6.setCell ⟨ga, oa + od, none⟩ (.int .i64 c0)) y → Below w.heap.size w y) := fun y hy => ((B.out w6 bR).setCell hgl _).trans (hy.mono (by first | omega | exact Nat.le_trans (B.out w6 bR).size hz))
  clear FA FC
  replace hz : w6.heap.size ≤ (w6.setCell ⟨ga, oa + od, none⟩ (.int .i64 c0)).heap.size := by rw [hs9]; exact hz
  clear hs9
  have FA := FA9
  have FC := FC9
  clear FA9 FC9
  generalize (w6.setCell ⟨ga, oa + od, none⟩ (.int .i64 c0)) = w7 at B FA FC XT XR XN hz ⊢
  have hzn : w6.heap.size ≤ w7.heap.size := Nat.le_trans hz (Below.size (Below.refl (w6.heap.size) w7))
  replace B := lF B (Below.refl (w6.heap.size) w7) hzn
  replace FA := lF FA (Below.refl (w6.heap.size) w7) hzn
  replace FC := lF FC (Below.refl (w6.heap.size) w7) hzn
  replace XT := lF XT (Below.refl (w6.heap.size) w7) hzn
  replace lT := Nat.lt_of_lt_of_le lT hzn
  replace XR := lF XR (Below.refl (w6.heap.size) w7) hzn
  replace lR := Nat.lt_of_lt_of_le lR hzn
  replace XN := lF XN (Below.refl (w6.heap.size) w7) hzn
  replace lN := Nat.lt_of_lt_of_le lN hzn
  clear hz
  have hz : w7.heap.size ≤ w7.heap.size := Nat.le_refl _
  obtain ⟨kT0, kT1, kT2⟩ := bk3 (XT.out w7 bR)
  obtain ⟨kR0, kR1, kR2, kR3, kR4⟩ := bk5 (XR.out w7 bR)
  obtain ⟨kN0, kN1, kN2, kN3, kN4⟩ := bk5 (XN.out w7 bR)
  go_wp2_with fail
  refine (isArrayImpl c0 _).mono ?_
  rintro e wz ⟨rfl, rfl⟩
  by_cases har : c0 = -1 ∨ c0 = -2
  · have hpw : pl < wl := by have := hsA har; omega
    rw [show (c0 == -1 || c0 == -2) = true by rcases har with h | h <;> simp [h]]
    obtain ⟨kA1, kA2⟩ := (FA.out w7 bR).cell hpw
    go_upto_region 11 with fail
    clear kT0 kT1 kT2 kR0 kR1 kR2 kR3 kR4 kN0 kN1 kN2 kN3 kN4
    clear kA1 kA2
    replace XT := lS XT lT (w7.setCell ⟨ga, oa + pl, none⟩ (.int .i64 (yl : Nat))) (Below.heap_setCell _ _ _ _ (by simp only; omega))
    replace XR := lS XR lR (w7.setCell ⟨ga, oa + pl, none⟩ (.int .i64 (yl : Nat))) (Below.heap_setCell _ _ _ _ (by simp only; omega))
    replace XN := lS XN lN (w7.setCell ⟨ga, oa + pl, none⟩ (.int .i64 (yl : Nat))) (Below.heap_setCell _ _ _ _ (by simp only; omega))
    have hs9 : (w7.setCell ⟨ga, oa + pl, none⟩ (.int .i64 (yl : Nat))).heap.size = w7.heap.size := World.size_setCell _ _ _
    have FA9 : Hid (∀ y, Below (w7.heap.size) (w7.setCell ⟨ga, oa + pl, none⟩ (.int .i64 (yl : Nat))) y → Wri y (some ⟨ga, oa, none⟩) wl (fun j => ((ws.set od c0).set pl (yl : Int)).getD j 0)) := fun y hy => (((FA.out w7 bR).put hpw (yl : Int)).congr (fun j _ => (set_getD (ws.set od c0) _ (yl : Int) 0 (by first | (rw [List.length_set, WS.out]; exact hpw) | (rw [WS.out]; exact hpw)) j).symm)).later (hy.mono (by rw [hs9]; first | exact Nat.le_refl _ | (simp; done) | omega))
    have FC9 : Hid (∀ y, Below (w7.heap.size) (w7.setCell ⟨ga, oa + pl, none⟩ (.int .i64 (yl : Nat))) y → WriB y b dl (fun j => cd.getD j false)) := fun y hy => ((FC.out w7 bR).keep (D := fun k9 => k9 = ga) (Chg.set _ _ _ rfl) (fun x e h0 hd => (LB.out x e h0).2.2 hd)).later (hy.mono (by rw [hs9]; first | exact Nat.le_refl _ | (simp; done) | omega))
    replace B : Hid (∀ y, Below (w7.heap.size) (w7.setCell ⟨ga, oa + pl, none⟩ (.int .i64 (yl : Nat))) y → Below w.heap.size w y) := fun y hy => ((B.out w7 bR).setCell hgl _).trans (hy.mono (by first | omega | exact Nat.le_trans (B.out w7 bR).size hz))
    clear FA FC
    replace hz : w7.heap.size ≤ (w7.setCell ⟨ga, oa + pl, none⟩ (.int .i64 (yl : Nat))).heap.size := by rw [hs9]; exact hz
    clear hs9
    have FA := FA9
    have FC := FC9
    clear FA9 FC9
    generalize (w7.setCell ⟨ga, oa + pl, none⟩ (.int .i64 (yl : Nat))) = w8 at B FA FC XT XR XN hz ⊢
    have hzn : w7.heap.size ≤ w8.heap.size := Nat.le_trans hz (Below.size (Below.refl (w7.heap.size) w8))
    replace B := lF B (Below.refl (w7.heap.size) w8) hzn
    replace FA := lF FA (Below.refl (w7.heap.size) w8) hzn
    replace FC := lF FC (Below.refl (w7.heap.size) w8) hzn
    replace XT := lF XT (Below.refl (w7.heap.size) w8) hzn
    replace lT := Nat.lt_of_lt_of_le lT hzn
    replace XR := lF XR (Below.refl (w7.heap.size) w8) hzn
    replace lR := Nat.lt_of_lt_of_le lR hzn
    replace XN := lF XN (Below.refl (w7.heap.size) w8) hzn
    replace lN := Nat.lt_of_lt_of_le lN hzn
    clear hz
    have hz : w8.heap.size ≤ w8.heap.size := Nat.le_refl _
    have TM : Hid (tryM (ws, (yg : Int), (tp : Int), (od : Int), cd) c0 (yl : Int) s true = (((ws.set od c0).set pl (yl : Int), (yg : Int), (tp : Int), (es : Int), cd), (pl : Int))) := by
      show _ = _
      have e1 : mkW ws od c0 (yl : Int) = (ws.set od c0).set pl (yl : Int) := by unfold mkW; rw [if_pos (by omega), hpl]
      unfold tryM
      rw [if_pos rfl, if_pos (by simp only [WS.out]; omega)]
      simp only [Int.toNat_natCast, e1]
      rw [← HES.out, ← hpl]; rfl
    have LN : Hid (((ws.set od c0).set pl (yl : Int)).length = wl) := by show _ = _; simp [WS.out]
    have KS : Hid (∀ x, Below (w8.heap.size) w8 x → x.cell? ⟨w.heap.size + 1, 0, none⟩ = some (.int .i64 (pl : Nat)) ∧ x.cell? ⟨w.heap.size + 1, 1, none⟩ = some (.int .i64 c0) ∧ x.cell? ⟨w.heap.size + 1, 2, none⟩ = some (.slice ya yl yc)) := fun x hx => bk3 (XT.out x hx)
    refine wp_region_held_drew (S := fun x => x.cell? ⟨w.heap.size + 1, 0, none⟩ = some (.int .i64 (pl : Nat)) ∧ x.cell? ⟨w.heap.size + 1, 1, none⟩ = some (.int .i64 c0) ∧ x.cell? ⟨w.heap.size + 1, 2, none⟩ = some (.slice ya yl yc)) (by kernel_rfl) ?_ (fun hHeld => ?_)
    · exact KS.out _ (bdrew bR)
    refine tV 0 (v := ?_) rfl (by kernel_rfl) (fun _ _ _ h => h) ?_ (by assumption) ?_
    rotate_left 1
    · (intro x hSx; (try dsimp only at hSx); go_simp; try with_reducible rfl)
    try simp only [Act.put, zgT, zg0, zsT, zs0, zsS]
    refine tV 1 (v := ?_) rfl (by kernel_rfl) (fun _ _ _ h => h) ?_ (by assumption) ?_
    rotate_left 1
    · (intro x hSx; (try dsimp only at hSx); go_simp; try with_reducible rfl)
    try simp only [Act.put, zgT, zg0, zgS, zsT, zs0, zsS]
    refine tV 3 (v := ?_) rfl (by kernel_rfl) (fun _ _ _ h => h) ?_ (by assumption) ?_
    rotate_left 1
    · (intro x hSx; (try dsimp only at hSx); go_simp; try with_reducible rfl)
    try simp only [Act.put, zgT, zg0, zgS, zsT, zs0, zsS]
    refine wpAnyH_ready (rs := [2, 4]) (by kernel_rfl) (by simp) ?_
    refine AllReadyH.cons rfl (fun K hK => ?_) (AllReadyH.cons rfl (fun K hK => ?_) AllReadyH.nil)
    · obtain ⟨kN0, kN1, kN2, kN3, kN4⟩ := bk5 (XN.out w8 bR)
      go_simp
      clear kN0 kN1 kN2 kN3 kN4
      refine hK.out _ _ (KS.out _ (bdrew bR)) (fun hHeld2 => ?_)
      clear hK K
      try simp only [Act.put, zgT, zg0, zgS, zsT, zs0, zsS]
      refine wpAnyH_ready (rs := [4]) (by kernel_rfl) (by simp) ?_
      refine AllReadyH.cons rfl (fun K hK => ?_) AllReadyH.nil
      go_simp
      go_at_call 75
      have BP : Hid (Below (w8.heap.size) w8 w8.drew) := (bdrew bR)
      refine (sizeImpl (pl : Nat) c0 ya yl yc _ (by omega)).mono ?_
      rintro e w9 ⟨rfl, hb⟩
      rw [SS.out]
      have hq : Below (w8.heap.size) w8 w9 := BP.out.trans (Below.mono hb (Nat.le_trans hz BP.out.size))
      have hzn : w8.heap.size ≤ w9.heap.size := Nat.le_trans hz hq.size
      replace B := lF B hq hzn
      replace FA := lF FA hq hzn
      replace FC := lF FC hq hzn
      replace KS := lF KS hq hzn
      replace XT := lF XT hq hzn
      replace lT := Nat.lt_of_lt_of_le lT hzn
      replace XR := lF XR hq hzn
      replace lR := Nat.lt_of_lt_of_le lR hzn
      replace XN := lF XN hq hzn
      replace lN := Nat.lt_of_lt_of_le lN hzn
      clear hq BP hz
      have hz : w9.heap.size ≤ w9.heap.size := Nat.le_refl _
      clear hb
      go_wp2_with fail
      refine hK.out _ _ (KS.out _ bR) (fun hHeld3 => ?_)
      clear hK K
      try simp only [Act.put, zgT, zg0, zgS, zsT, zs0, zsS]
      refine tV 5 (v := ?_) rfl (by kernel_rfl) (fun _ _ _ h => h) ?_ (by assumption) ?_
      rotate_left 1
      · (intro x hSx; (try dsimp only at hSx); go_simp; try with_reducible rfl)
      try simp only [Act.put, zgT, zg0, zgS, zsT, zs0, zsS]
      refine tV 6 (v := ?_) rfl (by kernel_rfl) (fun _ _ _ h => h) ?_ (by assumption) ?_
      rotate_left 1
      · (intro x hSx; (try dsimp only at hSx); go_simp; try with_reducible rfl)
      try simp only [Act.put, zgT, zg0, zgS, zsT, zs0, zsS]
      refine wpAnyH_ready (rs := [7]) (by kernel_rfl) (by simp) ?_
      refine AllReadyH.cons rfl (fun K hK => ?_) AllReadyH.nil
      obtain ⟨kN0, kN1, kN2, kN3, kN4⟩ := bk5 (XN.out w9 bR)
      obtain ⟨qkN0, qkN1, qkN2, qkN3, qkN4⟩ := bq5 (XN.out w9 bR)
      go_simp
      clear kN0 kN1 kN2 kN3 kN4 qkN0 qkN1 qkN2 qkN3 qkN4
      have hw0 : w.heap.size ≤ w1.heap.size := hlow1
      replace XT := lS XT lT ((w9.setCell ⟨w1.heap.size, 3, none⟩ (.int .i64 (es : Nat)))) ((Below.heap_setCell _ _ _ _ (by first | omega | (simp; done) | (simp; omega))))
      replace XR := lS XR lR ((w9.setCell ⟨w1.heap.size, 3, none⟩ (.int .i64 (es : Nat)))) ((Below.heap_setCell _ _ _ _ (by first | omega | (simp; done) | (simp; omega))))
      replace XN : Hid (∀ y, Below (w9.heap.size) (w9.setCell ⟨w1.heap.size, 3, none⟩ (.int .i64 (es : Nat))) y → y.heap[w1.heap.size]? = some (.cells #[.slice (some ⟨ga, oa, none⟩) wl ac, .int .i64 (yg : Nat), .int .i64 (tp : Nat), .int .i64 (es : Nat), .slice b dl bc] 29 (0, 0))) := fun y hy => (hy.block _ (by omega)).trans (boxS (XN.out w9 bR) 3 _)
      replace FA : Hid (∀ y, Below (w9.heap.size) (w9.setCell ⟨w1.heap.size, 3, none⟩ (.int .i64 (es : Nat))) y → Wri y (some ⟨ga, oa, none⟩) wl (fun j => ((ws.set od c0).set pl (yl : Int)).getD j 0)) := fun y hy => ((FA.out w9 bR).keep (D := fun k9 => k9 = w1.heap.size) (Chg.set _ _ _ rfl) (fun x e h0 hd => by have h8 : x.block = w1.heap.size := hd; obtain rfl := Option.some.inj e; simp only at h8; omega)).later (hy.mono (by first | (simp; done) | (simp; omega)))
      replace FC : Hid (∀ y, Below (w9.heap.size) (w9.setCell ⟨w1.heap.size, 3, none⟩ (.int .i64 (es : Nat))) y → WriB y b dl (fun j => cd.getD j false)) := fun y hy => ((FC.out w9 bR).keep (D := fun k9 => k9 = w1.heap.size) (Chg.set _ _ _ rfl) (fun x e h0 hd => by have h8 : x.block = w1.heap.size := hd; have := LB.out x e h0; omega)).later (hy.mono (by first | (simp; done) | (simp; omega)))
      clear KS
      replace B : Hid (∀ y, Below (w9.heap.size) (w9.setCell ⟨w1.heap.size, 3, none⟩ (.int .i64 (es : Nat))) y → Below w.heap.size w y) := fun y hy => ((B.out w9 bR).setCell hw0 _).trans (hy.mono (by first | omega | exact Nat.le_trans (B.out w9 bR).size hz | (have := (B.out w9 bR).size; omega)))
      replace hz : w9.heap.size ≤ (w9.setCell ⟨w1.heap.size, 3, none⟩ (.int .i64 (es : Nat))).heap.size := by first | (simp; done) | simpa using hz
      clear hw0
      have KS : Hid (∀ x, Below (w9.heap.size) (w9.setCell ⟨w1.heap.size, 3, none⟩ (.int .i64 (es : Nat))) x → x.cell? ⟨w.heap.size + 1, 0, none⟩ = some (.int .i64 (pl : Nat)) ∧ x.cell? ⟨w.heap.size + 1, 1, none⟩ = some (.int .i64 c0) ∧ x.cell? ⟨w.heap.size + 1, 2, none⟩ = some (.slice ya yl yc)) := fun x hx => bk3 (XT.out x hx)
      refine hK.out _ _ (KS.out _ bR) (fun hHeld4 => ?_)
      clear hK K
      try simp only [Act.put, zgT, zg0, zgS, zsT, zs0, zsS]
      refine wpAnyH_done (by kernel_rfl) ?_ _
      clear hHeld hHeld2 hHeld3 hHeld4
      clear KS
      generalize (w9.setCell ⟨w1.heap.size, 3, none⟩ (.int .i64 (es : Nat))) = w10 at B FA FC XT XR XN hz ⊢
      have hzn : w9.heap.size ≤ w10.heap.size := Nat.le_trans hz (Below.size (Below.refl (w9.heap.size) w10))
      replace B := lF B (Below.refl (w9.heap.size) w10) hzn
      replace FA := lF FA (Below.refl (w9.heap.size) w10) hzn
      replace FC := lF FC (Below.refl (w9.heap.size) w10) hzn
      replace XT := lF XT (Below.refl (w9.heap.size) w10) hzn
      replace lT := Nat.lt_of_lt_of_le lT hzn
      replace XR := lF XR (Below.refl (w9.heap.size) w10) hzn
      replace lR := Nat.lt_of_lt_of_le lR hzn
      replace XN := lF XN (Below.refl (w9.heap.size) w10) hzn
      replace lN := Nat.lt_of_lt_of_le lN hzn
      clear hz
      have hz : w10.heap.size ≤ w10.heap.size := Nat.le_refl _
      obtain ⟨kT0, kT1, kT2⟩ := bk3 (XT.out w10 bR)
      obtain ⟨kR0, kR1, kR2, kR3, kR4⟩ := bk5 (XR.out w10 bR)
      obtain ⟨kN0, kN1, kN2, kN3, kN4⟩ := bk5 (XN.out w10 bR)
      go_wp2_with fail
      clear kT0 kT1 kT2 kR0 kR1 kR2 kR3 kR4 kN0 kN1 kN2 kN3 kN4
      have KS : Hid (∀ x, Below (w10.heap.size) w10 x → x.cell? ⟨w.heap.size + 1, 0, none⟩ = some (.int .i64 (pl : Nat)) ∧ x.cell? ⟨w.heap.size + 1, 1, none⟩ = some (.int .i64 c0) ∧ x.cell? ⟨w.heap.size + 1, 2, none⟩ = some (.slice ya yl yc) ∧ x.cell? ⟨w1.heap.size, 0, none⟩ = some (.slice (some ⟨ga, oa, none⟩) wl ac) ∧ x.cell? ⟨w1.heap.size, 1, none⟩ = some (.int .i64 (yg : Nat)) ∧ x.cell? ⟨w1.heap.size, 2, none⟩ = some (.int .i64 (tp : Nat)) ∧ x.cell? ⟨w1.heap.size, 3, none⟩ = some (.int .i64 (es : Nat)) ∧ x.cell? ⟨w1.heap.size, 4, none⟩ = some (.slice b dl bc)) := fun x hx => ⟨(boxG (XT.out x hx) 0).1, (boxG (XT.out x hx) 1).1, (boxG (XT.out x hx) 2).1, (boxG (XN.out x hx) 0).1, (boxG (XN.out x hx) 1).1, (boxG (XN.out x hx) 2).1, (boxG (XN.out x hx) 3).1, (boxG (XN.out x hx) 4).1⟩
      refine wp_region_held_drew (S := fun x => x.cell? ⟨w.heap.size + 1, 0, none⟩ = some (.int .i64 (pl : Nat)) ∧ x.cell? ⟨w.heap.size + 1, 1, none⟩ = some (.int .i64 c0) ∧ x.cell? ⟨w.heap.size + 1, 2, none⟩ = some (.slice ya yl yc) ∧ x.cell? ⟨w1.heap.size, 0, none⟩ = some (.slice (some ⟨ga, oa, none⟩) wl ac) ∧ x.cell? ⟨w1.heap.size, 1, none⟩ = some (.int .i64 (yg : Nat)) ∧ x.cell? ⟨w1.heap.size, 2, none⟩ = some (.int .i64 (tp : Nat)) ∧ x.cell? ⟨w1.heap.size, 3, none⟩ = some (.int .i64 (es : Nat)) ∧ x.cell? ⟨w1.heap.size, 4, none⟩ = some (.slice b dl bc)) (by kernel_rfl) ?_ (fun hHeld => ?_)
      · exact KS.out _ (bdrew bR)
      refine tV 0 (v := ?_) rfl (by kernel_rfl) (fun _ _ _ h => h) ?_ (by assumption) ?_
      rotate_left 1
      · (intro x hSx; (try dsimp only at hSx); go_simp; try with_reducible rfl)
      try simp only [Act.put, zgT, zg0, zsT, zs0, zsS]
      refine tV 1 (v := ?_) rfl (by kernel_rfl) (fun _ _ _ h => h) ?_ (by assumption) ?_
      rotate_left 1
      · (intro x hSx; (try dsimp only at hSx); go_simp; try with_reducible rfl)
      try simp only [Act.put, zgT, zg0, zgS, zsT, zs0, zsS]
      refine tV 2 (v := ?_) rfl (by kernel_rfl) (fun _ _ _ h => h) ?_ (by assumption) ?_
      rotate_left 1
      · (intro x hSx; (try dsimp only at hSx); go_simp; try with_reducible rfl)
      try simp only [Act.put, zgT, zg0, zgS, zsT, zs0, zsS]
      refine wpAnyH_ready (rs := [3]) (by kernel_rfl) (by simp) ?_
      refine AllReadyH.cons rfl (fun K hK => ?_) AllReadyH.nil
      obtain ⟨kR0, kR1, kR2, kR3, kR4⟩ := bk5 (XR.out w10 bR)
      obtain ⟨qkR0, qkR1, qkR2, qkR3, qkR4⟩ := bq5 (XR.out w10 bR)
      go_simp
      clear kR0 kR1 kR2 kR3 kR4 qkR0 qkR1 qkR2 qkR3 qkR4
      generalize hW : (((((w10.setCell ⟨w.heap.size + 1 + 1, 0, none⟩ (.slice (some ⟨ga, oa, none⟩) wl ac)).setCell ⟨w.heap.size + 1 + 1, 1, none⟩ (.int .i64 (yg : Nat))).setCell ⟨w.heap.size + 1 + 1, 2, none⟩ (.int .i64 (tp : Nat))).setCell ⟨w.heap.size + 1 + 1, 3, none⟩ (.int .i64 (es : Nat))).setCell ⟨w.heap.size + 1 + 1, 4, none⟩ (.slice b dl bc)) = wB1
      have hkB : ∀ a, a ≠ w.heap.size + 1 + 1 → wB1.heap[a]? = w10.heap[a]? := by subst hW; exact fun a h => (Below.heap_setCell _ _ _ _ h).trans ((Below.heap_setCell _ _ _ _ h).trans ((Below.heap_setCell _ _ _ _ h).trans ((Below.heap_setCell _ _ _ _ h).trans ((Below.heap_setCell _ _ _ _ h)))))
      have hw0 : w.heap.size ≤ w.heap.size + 1 + 1 := (by first | omega | (simp; done) | (simp; omega) | (simp at *; omega))
      replace XT := lS XT lT wB1 (hkB _ (by first | omega | (simp; done) | (simp; omega)))
      replace XN := lS XN lN wB1 (hkB _ (by first | omega | (simp; done) | (simp; omega)))
      replace XR : Hid (∀ y, Below (w10.heap.size) wB1 y → y.heap[w.heap.size + 1 + 1]? = some (.cells #[.slice (some ⟨ga, oa, none⟩) wl ac, .int .i64 (yg : Nat), .int .i64 (tp : Nat), .int .i64 (es : Nat), .slice b dl bc] 29 (0, 0))) := fun y hy => by subst hW; exact (hy.block _ (by omega)).trans (boxS (boxS (boxS (boxS (boxS (XR.out w10 bR) 0 _) 1 _) 2 _) 3 _) 4 _)
      replace FA : Hid (∀ y, Below (w10.heap.size) wB1 y → Wri y (some ⟨ga, oa, none⟩) wl (fun j => ((ws.set od c0).set pl (yl : Int)).getD j 0)) := fun y hy => by subst hW; exact ((FA.out w10 bR).keep (D := fun k9 => k9 = w.heap.size + 1 + 1) (chg5 w10 (w.heap.size + 1 + 1) (.slice (some ⟨ga, oa, none⟩) wl ac) (.int .i64 (yg : Nat)) (.int .i64 (tp : Nat)) (.int .i64 (es : Nat)) (.slice b dl bc)) (fun x e h0 hd => by have h8 : x.block = w.heap.size + 1 + 1 := hd; obtain rfl := Option.some.inj e; simp only at h8; omega)).later (hy.mono (by first | (simp; done) | (simp; omega)))
      replace FC : Hid (∀ y, Below (w10.heap.size) wB1 y → WriB y b dl (fun j => cd.getD j false)) := fun y hy => by subst hW; exact ((FC.out w10 bR).keep (D := fun k9 => k9 = w.heap.size + 1 + 1) (chg5 w10 (w.heap.size + 1 + 1) (.slice (some ⟨ga, oa, none⟩) wl ac) (.int .i64 (yg : Nat)) (.int .i64 (tp : Nat)) (.int .i64 (es : Nat)) (.slice b dl bc)) (fun x e h0 hd => by have h8 : x.block = w.heap.size + 1 + 1 := hd; have := LB.out x e h0; omega)).later (hy.mono (by first | (simp; done) | (simp; omega)))
      clear KS
      replace B : Hid (∀ y, Below (w10.heap.size) wB1 y → Below w.heap.size w y) := fun y hy => by subst hW; exact ((((((B.out w10 bR).setCell hw0 _).setCell hw0 _).setCell hw0 _).setCell hw0 _).setCell hw0 _).trans (hy.mono (by first | omega | exact Nat.le_trans (B.out w10 bR).size hz | (have := (B.out w10 bR).size; omega)))
      replace hz : w10.heap.size ≤ wB1.heap.size := by subst hW; first | (simp; done) | simpa using hz
      clear hw0 hW hkB
      replace B := lD B
      replace FA := lD FA
      replace FC := lD FC
      replace XT := lD XT
      replace XR := lD XR
      replace XN := lD XN
      replace hz : w10.heap.size ≤ (wB1.drew).heap.size := Nat.le_trans hz (Below.size (bdrew (Below.refl (w10.heap.size) wB1)))
      have KS : Hid (∀ x, Below (w10.heap.size) (wB1.drew) x → x.cell? ⟨w.heap.size + 1, 0, none⟩ = some (.int .i64 (pl : Nat)) ∧ x.cell? ⟨w.heap.size + 1, 1, none⟩ = some (.int .i64 c0) ∧ x.cell? ⟨w.heap.size + 1, 2, none⟩ = some (.slice ya yl yc) ∧ x.cell? ⟨w1.heap.size, 0, none⟩ = some (.slice (some ⟨ga, oa, none⟩) wl ac) ∧ x.cell? ⟨w1.heap.size, 1, none⟩ = some (.int .i64 (yg : Nat)) ∧ x.cell? ⟨w1.heap.size, 2, none⟩ = some (.int .i64 (tp : Nat)) ∧ x.cell? ⟨w1.heap.size, 3, none⟩ = some (.int .i64 (es : Nat)) ∧ x.cell? ⟨w1.heap.size, 4, none⟩ = some (.slice b dl bc)) := fun x hx => ⟨(boxG (XT.out x hx) 0).1, (boxG (XT.out x hx) 1).1, (boxG (XT.out x hx) 2).1, (boxG (XN.out x hx) 0).1, (boxG (XN.out x hx) 1).1, (boxG (XN.out x hx) 2).1, (boxG (XN.out x hx) 3).1, (boxG (XN.out x hx) 4).1⟩
      refine hK.out _ _ (KS.out _ bR) (fun hHeld2 => ?_)
      clear hK K
      try simp only [Act.put, zgT, zg0, zgS, zsT, zs0, zsS]
      refine tV 4 (v := ?_) rfl (by kernel_rfl) (fun _ _ _ h => h) ?_ (by assumption) ?_
      rotate_left 1
      · (intro x hSx; (try dsimp only at hSx); go_simp; try with_reducible rfl)
      try simp only [Act.put, zgT, zg0, zgS, zsT, zs0, zsS]
      refine wpAnyH_done (by kernel_rfl) ?_ _
      clear hHeld hHeld2
      clear KS
      generalize (wB1.drew) = w11 at B FA FC XT XR XN hz ⊢
      have hzn : w10.heap.size ≤ w11.heap.size := Nat.le_trans hz (Below.size (Below.refl (w10.heap.size) w11))
      replace B := lF B (Below.refl (w10.heap.size) w11) hzn
      replace FA := lF FA (Below.refl (w10.heap.size) w11) hzn
      replace FC := lF FC (Below.refl (w10.heap.size) w11) hzn
      replace XT := lF XT (Below.refl (w10.heap.size) w11) hzn
      replace lT := Nat.lt_of_lt_of_le lT hzn
      replace XR := lF XR (Below.refl (w10.heap.size) w11) hzn
      replace lR := Nat.lt_of_lt_of_le lR hzn
      replace XN := lF XN (Below.refl (w10.heap.size) w11) hzn
      replace lN := Nat.lt_of_lt_of_le lN hzn
      clear hz
      have hz : w11.heap.size ≤ w11.heap.size := Nat.le_refl _
      obtain ⟨kT0, kT1, kT2⟩ := bk3 (XT.out w11 bR)
      obtain ⟨kR0, kR1, kR2, kR3, kR4⟩ := bk5 (XR.out w11 bR)
      obtain ⟨kN0, kN1, kN2, kN3, kN4⟩ := bk5 (XN.out w11 bR)
      rename_i K0 hK0
      refine hK0 _ _ (wp_ret ?_)
      refine bodyPost_ret (v := .tuple #[.agg #[.slice (some ⟨ga, oa, none⟩) wl ac, .int .i64 (yg : Nat), .int .i64 (tp : Nat), .int .i64 (es : Nat), .slice b dl bc], .int .i64 (pl : Nat)]) ?_ rfl ?_
      · simp [results, Tryz.results36, go_sem, *]
      · clear kT0 kT1 kT2 kR0 kR1 kR2 kR3 kR4 kN0 kN1 kN2 kN3 kN4
        rw [TM.out]
        exact ⟨some ⟨ga, oa, none⟩, wl, ac, b, dl, bc, rfl, LN.out, CS.out, FA.out _ bR, FC.out _ bR, (fun x e h0 => by obtain rfl := Option.some.inj e; simp only; omega), (fun x e h0 => by have := (LB.out x e h0).1; omega), (fun x y e e2 h0 h2 => by obtain rfl := Option.some.inj e; have := (LB.out y e2 h2).2.2; exact fun h => this h.symm), B.out _ bR⟩
    · go_simp
      go_at_call 75
      have BP : Hid (Below (w8.heap.size) w8 w8.drew) := (bdrew bR)
      refine (sizeImpl (pl : Nat) c0 ya yl yc _ (by omega)).mono ?_
      rintro e w9 ⟨rfl, hb⟩
      rw [SS.out]
      have hq : Below (w8.heap.size) w8 w9 := BP.out.trans (Below.mono hb (Nat.le_trans hz BP.out.size))
      have hzn : w8.heap.size ≤ w9.heap.size := Nat.le_trans hz hq.size
      replace B := lF B hq hzn
      replace FA := lF FA hq hzn
      replace FC := lF FC hq hzn
      replace KS := lF KS hq hzn
      replace XT := lF XT hq hzn
      replace lT := Nat.lt_of_lt_of_le lT hzn
      replace XR := lF XR hq hzn
      replace lR := Nat.lt_of_lt_of_le lR hzn
      replace XN := lF XN hq hzn
      replace lN := Nat.lt_of_lt_of_le lN hzn
      clear hq BP hz
      have hz : w9.heap.size ≤ w9.heap.size := Nat.le_refl _
      clear hb
      go_wp2_with fail
      refine hK.out _ _ (KS.out _ bR) (fun hHeld2 => ?_)
      clear hK K
      try simp only [Act.put, zgT, zg0, zgS, zsT, zs0, zsS]
      refine wpAnyH_ready (rs := [2]) (by kernel_rfl) (by simp) ?_
      refine AllReadyH.cons rfl (fun K hK => ?_) AllReadyH.nil
      obtain ⟨kN0, kN1, kN2, kN3, kN4⟩ := bk5 (XN.out w9 bR)
      go_simp
      clear kN0 kN1 kN2 kN3 kN4
      refine hK.out _ _ (KS.out _ bR) (fun hHeld3 => ?_)
      clear hK K
      try simp only [Act.put, zgT, zg0, zgS, zsT, zs0, zsS]
      refine tV 5 (v := ?_) rfl (by kernel_rfl) (fun _ _ _ h => h) ?_ (by assumption) ?_
      rotate_left 1
      · (intro x hSx; (try dsimp only at hSx); go_simp; try with_reducible rfl)
      try simp only [Act.put, zgT, zg0, zgS, zsT, zs0, zsS]
      refine tV 6 (v := ?_) rfl (by kernel_rfl) (fun _ _ _ h => h) ?_ (by assumption) ?_
      rotate_left 1
      · (intro x hSx; (try dsimp only at hSx); go_simp; try with_reducible rfl)
      try simp only [Act.put, zgT, zg0, zgS, zsT, zs0, zsS]
      refine wpAnyH_ready (rs := [7]) (by kernel_rfl) (by simp) ?_
      refine AllReadyH.cons rfl (fun K hK => ?_) AllReadyH.nil
      obtain ⟨kN0, kN1, kN2, kN3, kN4⟩ := bk5 (XN.out w9 bR)
      obtain ⟨qkN0, qkN1, qkN2, qkN3, qkN4⟩ := bq5 (XN.out w9 bR)
      go_simp
      clear kN0 kN1 kN2 kN3 kN4 qkN0 qkN1 qkN2 qkN3 qkN4
      have hw0 : w.heap.size ≤ w1.heap.size := hlow1
      replace XT := lS XT lT ((w9.setCell ⟨w1.heap.size, 3, none⟩ (.int .i64 (es : Nat)))) ((Below.heap_setCell _ _ _ _ (by first | omega | (simp; done) | (simp; omega))))
      replace XR := lS XR lR ((w9.setCell ⟨w1.heap.size, 3, none⟩ (.int .i64 (es : Nat)))) ((Below.heap_setCell _ _ _ _ (by first | omega | (simp; done) | (simp; omega))))
      replace XN : Hid (∀ y, Below (w9.heap.size) (w9.setCell ⟨w1.heap.size, 3, none⟩ (.int .i64 (es : Nat))) y → y.heap[w1.heap.size]? = some (.cells #[.slice (some ⟨ga, oa, none⟩) wl ac, .int .i64 (yg : Nat), .int .i64 (tp : Nat), .int .i64 (es : Nat), .slice b dl bc] 29 (0, 0))) := fun y hy => (hy.block _ (by omega)).trans (boxS (XN.out w9 bR) 3 _)
      replace FA : Hid (∀ y, Below (w9.heap.size) (w9.setCell ⟨w1.heap.size, 3, none⟩ (.int .i64 (es : Nat))) y → Wri y (some ⟨ga, oa, none⟩) wl (fun j => ((ws.set od c0).set pl (yl : Int)).getD j 0)) := fun y hy => ((FA.out w9 bR).keep (D := fun k9 => k9 = w1.heap.size) (Chg.set _ _ _ rfl) (fun x e h0 hd => by have h8 : x.block = w1.heap.size := hd; obtain rfl := Option.some.inj e; simp only at h8; omega)).later (hy.mono (by first | (simp; done) | (simp; omega)))
      replace FC : Hid (∀ y, Below (w9.heap.size) (w9.setCell ⟨w1.heap.size, 3, none⟩ (.int .i64 (es : Nat))) y → WriB y b dl (fun j => cd.getD j false)) := fun y hy => ((FC.out w9 bR).keep (D := fun k9 => k9 = w1.heap.size) (Chg.set _ _ _ rfl) (fun x e h0 hd => by have h8 : x.block = w1.heap.size := hd; have := LB.out x e h0; omega)).later (hy.mono (by first | (simp; done) | (simp; omega)))
      clear KS
      replace B : Hid (∀ y, Below (w9.heap.size) (w9.setCell ⟨w1.heap.size, 3, none⟩ (.int .i64 (es : Nat))) y → Below w.heap.size w y) := fun y hy => ((B.out w9 bR).setCell hw0 _).trans (hy.mono (by first | omega | exact Nat.le_trans (B.out w9 bR).size hz | (have := (B.out w9 bR).size; omega)))
      replace hz : w9.heap.size ≤ (w9.setCell ⟨w1.heap.size, 3, none⟩ (.int .i64 (es : Nat))).heap.size := by first | (simp; done) | simpa using hz
      clear hw0
      have KS : Hid (∀ x, Below (w9.heap.size) (w9.setCell ⟨w1.heap.size, 3, none⟩ (.int .i64 (es : Nat))) x → x.cell? ⟨w.heap.size + 1, 0, none⟩ = some (.int .i64 (pl : Nat)) ∧ x.cell? ⟨w.heap.size + 1, 1, none⟩ = some (.int .i64 c0) ∧ x.cell? ⟨w.heap.size + 1, 2, none⟩ = some (.slice ya yl yc)) := fun x hx => bk3 (XT.out x hx)
      refine hK.out _ _ (KS.out _ bR) (fun hHeld4 => ?_)
      clear hK K
      try simp only [Act.put, zgT, zg0, zgS, zsT, zs0, zsS]
      refine wpAnyH_done (by kernel_rfl) ?_ _
      clear hHeld hHeld2 hHeld3 hHeld4
      clear KS
      generalize (w9.setCell ⟨w1.heap.size, 3, none⟩ (.int .i64 (es : Nat))) = w10 at B FA FC XT XR XN hz ⊢
      have hzn : w9.heap.size ≤ w10.heap.size := Nat.le_trans hz (Below.size (Below.refl (w9.heap.size) w10))
      replace B := lF B (Below.refl (w9.heap.size) w10) hzn
      replace FA := lF FA (Below.refl (w9.heap.size) w10) hzn
      replace FC := lF FC (Below.refl (w9.heap.size) w10) hzn
      replace XT := lF XT (Below.refl (w9.heap.size) w10) hzn
      replace lT := Nat.lt_of_lt_of_le lT hzn
      replace XR := lF XR (Below.refl (w9.heap.size) w10) hzn
      replace lR := Nat.lt_of_lt_of_le lR hzn
      replace XN := lF XN (Below.refl (w9.heap.size) w10) hzn
      replace lN := Nat.lt_of_lt_of_le lN hzn
      clear hz
      have hz : w10.heap.size ≤ w10.heap.size := Nat.le_refl _
      obtain ⟨kT0, kT1, kT2⟩ := bk3 (XT.out w10 bR)
      obtain ⟨kR0, kR1, kR2, kR3, kR4⟩ := bk5 (XR.out w10 bR)
      obtain ⟨kN0, kN1, kN2, kN3, kN4⟩ := bk5 (XN.out w10 bR)
      go_wp2_with fail
      clear kT0 kT1 kT2 kR0 kR1 kR2 kR3 kR4 kN0 kN1 kN2 kN3 kN4
      have KS : Hid (∀ x, Below (w10.heap.size) w10 x → x.cell? ⟨w.heap.size + 1, 0, none⟩ = some (.int .i64 (pl : Nat)) ∧ x.cell? ⟨w.heap.size + 1, 1, none⟩ = some (.int .i64 c0) ∧ x.cell? ⟨w.heap.size + 1, 2, none⟩ = some (.slice ya yl yc) ∧ x.cell? ⟨w1.heap.size, 0, none⟩ = some (.slice (some ⟨ga, oa, none⟩) wl ac) ∧ x.cell? ⟨w1.heap.size, 1, none⟩ = some (.int .i64 (yg : Nat)) ∧ x.cell? ⟨w1.heap.size, 2, none⟩ = some (.int .i64 (tp : Nat)) ∧ x.cell? ⟨w1.heap.size, 3, none⟩ = some (.int .i64 (es : Nat)) ∧ x.cell? ⟨w1.heap.size, 4, none⟩ = some (.slice b dl bc)) := fun x hx => ⟨(boxG (XT.out x hx) 0).1, (boxG (XT.out x hx) 1).1, (boxG (XT.out x hx) 2).1, (boxG (XN.out x hx) 0).1, (boxG (XN.out x hx) 1).1, (boxG (XN.out x hx) 2).1, (boxG (XN.out x hx) 3).1, (boxG (XN.out x hx) 4).1⟩
      refine wp_region_held_drew (S := fun x => x.cell? ⟨w.heap.size + 1, 0, none⟩ = some (.int .i64 (pl : Nat)) ∧ x.cell? ⟨w.heap.size + 1, 1, none⟩ = some (.int .i64 c0) ∧ x.cell? ⟨w.heap.size + 1, 2, none⟩ = some (.slice ya yl yc) ∧ x.cell? ⟨w1.heap.size, 0, none⟩ = some (.slice (some ⟨ga, oa, none⟩) wl ac) ∧ x.cell? ⟨w1.heap.size, 1, none⟩ = some (.int .i64 (yg : Nat)) ∧ x.cell? ⟨w1.heap.size, 2, none⟩ = some (.int .i64 (tp : Nat)) ∧ x.cell? ⟨w1.heap.size, 3, none⟩ = some (.int .i64 (es : Nat)) ∧ x.cell? ⟨w1.heap.size, 4, none⟩ = some (.slice b dl bc)) (by kernel_rfl) ?_ (fun hHeld => ?_)
      · exact KS.out _ (bdrew bR)
      refine tV 0 (v := ?_) rfl (by kernel_rfl) (fun _ _ _ h => h) ?_ (by assumption) ?_
      rotate_left 1
      · (intro x hSx; (try dsimp only at hSx); go_simp; try with_reducible rfl)
      try simp only [Act.put, zgT, zg0, zsT, zs0, zsS]
      refine tV 1 (v := ?_) rfl (by kernel_rfl) (fun _ _ _ h => h) ?_ (by assumption) ?_
      rotate_left 1
      · (intro x hSx; (try dsimp only at hSx); go_simp; try with_reducible rfl)
      try simp only [Act.put, zgT, zg0, zgS, zsT, zs0, zsS]
      refine tV 2 (v := ?_) rfl (by kernel_rfl) (fun _ _ _ h => h) ?_ (by assumption) ?_
      rotate_left 1
      · (intro x hSx; (try dsimp only at hSx); go_simp; try with_reducible rfl)
      try simp only [Act.put, zgT, zg0, zgS, zsT, zs0, zsS]
      refine wpAnyH_ready (rs := [3]) (by kernel_rfl) (by simp) ?_
      refine AllReadyH.cons rfl (fun K hK => ?_) AllReadyH.nil
      obtain ⟨kR0, kR1, kR2, kR3, kR4⟩ := bk5 (XR.out w10 bR)
      obtain ⟨qkR0, qkR1, qkR2, qkR3, qkR4⟩ := bq5 (XR.out w10 bR)
      go_simp
      clear kR0 kR1 kR2 kR3 kR4 qkR0 qkR1 qkR2 qkR3 qkR4
      generalize hW : (((((w10.setCell ⟨w.heap.size + 1 + 1, 0, none⟩ (.slice (some ⟨ga, oa, none⟩) wl ac)).setCell ⟨w.heap.size + 1 + 1, 1, none⟩ (.int .i64 (yg : Nat))).setCell ⟨w.heap.size + 1 + 1, 2, none⟩ (.int .i64 (tp : Nat))).setCell ⟨w.heap.size + 1 + 1, 3, none⟩ (.int .i64 (es : Nat))).setCell ⟨w.heap.size + 1 + 1, 4, none⟩ (.slice b dl bc)) = wB1
      have hkB : ∀ a, a ≠ w.heap.size + 1 + 1 → wB1.heap[a]? = w10.heap[a]? := by subst hW; exact fun a h => (Below.heap_setCell _ _ _ _ h).trans ((Below.heap_setCell _ _ _ _ h).trans ((Below.heap_setCell _ _ _ _ h).trans ((Below.heap_setCell _ _ _ _ h).trans ((Below.heap_setCell _ _ _ _ h)))))
      have hw0 : w.heap.size ≤ w.heap.size + 1 + 1 := (by first | omega | (simp; done) | (simp; omega) | (simp at *; omega))
      replace XT := lS XT lT wB1 (hkB _ (by first | omega | (simp; done) | (simp; omega)))
      replace XN := lS XN lN wB1 (hkB _ (by first | omega | (simp; done) | (simp; omega)))
      replace XR : Hid (∀ y, Below (w10.heap.size) wB1 y → y.heap[w.heap.size + 1 + 1]? = some (.cells #[.slice (some ⟨ga, oa, none⟩) wl ac, .int .i64 (yg : Nat), .int .i64 (tp : Nat), .int .i64 (es : Nat), .slice b dl bc] 29 (0, 0))) := fun y hy => by subst hW; exact (hy.block _ (by omega)).trans (boxS (boxS (boxS (boxS (boxS (XR.out w10 bR) 0 _) 1 _) 2 _) 3 _) 4 _)
      replace FA : Hid (∀ y, Below (w10.heap.size) wB1 y → Wri y (some ⟨ga, oa, none⟩) wl (fun j => ((ws.set od c0).set pl (yl : Int)).getD j 0)) := fun y hy => by subst hW; exact ((FA.out w10 bR).keep (D := fun k9 => k9 = w.heap.size + 1 + 1) (chg5 w10 (w.heap.size + 1 + 1) (.slice (some ⟨ga, oa, none⟩) wl ac) (.int .i64 (yg : Nat)) (.int .i64 (tp : Nat)) (.int .i64 (es : Nat)) (.slice b dl bc)) (fun x e h0 hd => by have h8 : x.block = w.heap.size + 1 + 1 := hd; obtain rfl := Option.some.inj e; simp only at h8; omega)).later (hy.mono (by first | (simp; done) | (simp; omega)))
      replace FC : Hid (∀ y, Below (w10.heap.size) wB1 y → WriB y b dl (fun j => cd.getD j false)) := fun y hy => by subst hW; exact ((FC.out w10 bR).keep (D := fun k9 => k9 = w.heap.size + 1 + 1) (chg5 w10 (w.heap.size + 1 + 1) (.slice (some ⟨ga, oa, none⟩) wl ac) (.int .i64 (yg : Nat)) (.int .i64 (tp : Nat)) (.int .i64 (es : Nat)) (.slice b dl bc)) (fun x e h0 hd => by have h8 : x.block = w.heap.size + 1 + 1 := hd; have := LB.out x e h0; omega)).later (hy.mono (by first | (simp; done) | (simp; omega)))
      clear KS
      replace B : Hid (∀ y, Below (w10.heap.size) wB1 y → Below w.heap.size w y) := fun y hy => by subst hW; exact ((((((B.out w10 bR).setCell hw0 _).setCell hw0 _).setCell hw0 _).setCell hw0 _).setCell hw0 _).trans (hy.mono (by first | omega | exact Nat.le_trans (B.out w10 bR).size hz | (have := (B.out w10 bR).size; omega)))
      replace hz : w10.heap.size ≤ wB1.heap.size := by subst hW; first | (simp; done) | simpa using hz
      clear hw0 hW hkB
      replace B := lD B
      replace FA := lD FA
      replace FC := lD FC
      replace XT := lD XT
      replace XR := lD XR
      replace XN := lD XN
      replace hz : w10.heap.size ≤ (wB1.drew).heap.size := Nat.le_trans hz (Below.size (bdrew (Below.refl (w10.heap.size) wB1)))
      have KS : Hid (∀ x, Below (w10.heap.size) (wB1.drew) x → x.cell? ⟨w.heap.size + 1, 0, none⟩ = some (.int .i64 (pl : Nat)) ∧ x.cell? ⟨w.heap.size + 1, 1, none⟩ = some (.int .i64 c0) ∧ x.cell? ⟨w.heap.size + 1, 2, none⟩ = some (.slice ya yl yc) ∧ x.cell? ⟨w1.heap.size, 0, none⟩ = some (.slice (some ⟨ga, oa, none⟩) wl ac) ∧ x.cell? ⟨w1.heap.size, 1, none⟩ = some (.int .i64 (yg : Nat)) ∧ x.cell? ⟨w1.heap.size, 2, none⟩ = some (.int .i64 (tp : Nat)) ∧ x.cell? ⟨w1.heap.size, 3, none⟩ = some (.int .i64 (es : Nat)) ∧ x.cell? ⟨w1.heap.size, 4, none⟩ = some (.slice b dl bc)) := fun x hx => ⟨(boxG (XT.out x hx) 0).1, (boxG (XT.out x hx) 1).1, (boxG (XT.out x hx) 2).1, (boxG (XN.out x hx) 0).1, (boxG (XN.out x hx) 1).1, (boxG (XN.out x hx) 2).1, (boxG (XN.out x hx) 3).1, (boxG (XN.out x hx) 4).1⟩
      refine hK.out _ _ (KS.out _ bR) (fun hHeld2 => ?_)
      clear hK K
      try simp only [Act.put, zgT, zg0, zgS, zsT, zs0, zsS]
      refine tV 4 (v := ?_) rfl (by kernel_rfl) (fun _ _ _ h => h) ?_ (by assumption) ?_
      rotate_left 1
      · (intro x hSx; (try dsimp only at hSx); go_simp; try with_reducible rfl)
      try simp only [Act.put, zgT, zg0, zgS, zsT, zs0, zsS]
      refine wpAnyH_done (by kernel_rfl) ?_ _
      clear hHeld hHeld2
      clear KS
      generalize (wB1.drew) = w11 at B FA FC XT XR XN hz ⊢
      have hzn : w10.heap.size ≤ w11.heap.size := Nat.le_trans hz (Below.size (Below.refl (w10.heap.size) w11))
      replace B := lF B (Below.refl (w10.heap.size) w11) hzn
      replace FA := lF FA (Below.refl (w10.heap.size) w11) hzn
      replace FC := lF FC (Below.refl (w10.heap.size) w11) hzn
      replace XT := lF XT (Below.refl (w10.heap.size) w11) hzn
      replace lT := Nat.lt_of_lt_of_le lT hzn
      replace XR := lF XR (Below.refl (w10.heap.size) w11) hzn
      replace lR := Nat.lt_of_lt_of_le lR hzn
      replace XN := lF XN (Below.refl (w10.heap.size) w11) hzn
      replace lN := Nat.lt_of_lt_of_le lN hzn
      clear hz
      have hz : w11.heap.size ≤ w11.heap.size := Nat.le_refl _
      obtain ⟨kT0, kT1, kT2⟩ := bk3 (XT.out w11 bR)
      obtain ⟨kR0, kR1, kR2, kR3, kR4⟩ := bk5 (XR.out w11 bR)
      obtain ⟨kN0, kN1, kN2, kN3, kN4⟩ := bk5 (XN.out w11 bR)
      rename_i K0 hK0
      refine hK0 _ _ (wp_ret ?_)
      refine bodyPost_ret (v := .tuple #[.agg #[.slice (some ⟨ga, oa, none⟩) wl ac, .int .i64 (yg : Nat), .int .i64 (tp : Nat), .int .i64 (es : Nat), .slice b dl bc], .int .i64 (pl : Nat)]) ?_ rfl ?_
      · simp [results, Tryz.results36, go_sem, *]
      · clear kT0 kT1 kT2 kR0 kR1 kR2 kR3 kR4 kN0 kN1 kN2 kN3 kN4
        rw [TM.out]
        exact ⟨some ⟨ga, oa, none⟩, wl, ac, b, dl, bc, rfl, LN.out, CS.out, FA.out _ bR, FC.out _ bR, (fun x e h0 => by obtain rfl := Option.some.inj e; simp only; omega), (fun x e h0 => by have := (LB.out x e h0).1; omega), (fun x y e e2 h0 h2 => by obtain rfl := Option.some.inj e; have := (LB.out y e2 h2).2.2; exact fun h => this h.symm), B.out _ bR⟩
  rw [show (c0 == -1 || c0 == -2) = false by simp; omega]
  go_upto_region 11 with fail
  clear kT0 kT1 kT2 kR0 kR1 kR2 kR3 kR4 kN0 kN1 kN2 kN3 kN4
  have TM : Hid (tryM (ws, (yg : Int), (tp : Int), (od : Int), cd) c0 (yl : Int) s true = ((ws.set od c0, (yg : Int), (tp : Int), (es : Int), cd), (pl : Int))) := by
    show _ = _
    have e1 : mkW ws od c0 (yl : Int) = ws.set od c0 := by unfold mkW; rw [if_neg (by omega)]
    unfold tryM
    rw [if_pos rfl, if_pos (by simp only [WS.out]; omega)]
    simp only [Int.toNat_natCast, e1]
    rw [← HES.out, ← hpl]; rfl
  have LN : Hid ((ws.set od c0).length = wl) := by show _ = _; simp [WS.out]
  have KS : Hid (∀ x, Below (w7.heap.size) w7 x → x.cell? ⟨w.heap.size + 1, 0, none⟩ = some (.int .i64 (pl : Nat)) ∧ x.cell? ⟨w.heap.size + 1, 1, none⟩ = some (.int .i64 c0) ∧ x.cell? ⟨w.heap.size + 1, 2, none⟩ = some (.slice ya yl yc)) := fun x hx => bk3 (XT.out x hx)
  refine wp_region_held_drew (S := fun x => x.cell? ⟨w.heap.size + 1, 0, none⟩ = some (.int .i64 (pl : Nat)) ∧ x.cell? ⟨w.heap.size + 1, 1, none⟩ = some (.int .i64 c0) ∧ x.cell? ⟨w.heap.size + 1, 2, none⟩ = some (.slice ya yl yc)) (by kernel_rfl) ?_ (fun hHeld => ?_)
  · exact KS.out _ (bdrew bR)
  refine tV 0 (v := ?_) rfl (by kernel_rfl) (fun _ _ _ h => h) ?_ (by assumption) ?_
  rotate_left 1
  · (intro x hSx; (try dsimp only at hSx); go_simp; try with_reducible rfl)
  try simp only [Act.put, zgT, zg0, zsT, zs0, zsS]
  refine tV 1 (v := ?_) rfl (by kernel_rfl) (fun _ _ _ h => h) ?_ (by assumption) ?_
  rotate_left 1
  · (intro x hSx; (try dsimp only at hSx); go_simp; try with_reducible rfl)
  try simp only [Act.put, zgT, zg0, zgS, zsT, zs0, zsS]
  refine tV 3 (v := ?_) rfl (by kernel_rfl) (fun _ _ _ h => h) ?_ (by assumption) ?_
  rotate_left 1
  · (intro x hSx; (try dsimp only at hSx); go_simp; try with_reducible rfl)
  try simp only [Act.put, zgT, zg0, zgS, zsT, zs0, zsS]
  refine wpAnyH_ready (rs := [2, 4]) (by kernel_rfl) (by simp) ?_
  refine AllReadyH.cons rfl (fun K hK => ?_) (AllReadyH.cons rfl (fun K hK => ?_) AllReadyH.nil)
  · obtain ⟨kN0, kN1, kN2, kN3, kN4⟩ := bk5 (XN.out w7 bR)
    go_simp
    clear kN0 kN1 kN2 kN3 kN4
    refine hK.out _ _ (KS.out _ (bdrew bR)) (fun hHeld2 => ?_)
    clear hK K
    try simp only [Act.put, zgT, zg0, zgS, zsT, zs0, zsS]
    refine wpAnyH_ready (rs := [4]) (by kernel_rfl) (by simp) ?_
    refine AllReadyH.cons rfl (fun K hK => ?_) AllReadyH.nil
    go_simp
    go_at_call 75
    have BP : Hid (Below (w7.heap.size) w7 w7.drew) := (bdrew bR)
    refine (sizeImpl (pl : Nat) c0 ya yl yc _ (by omega)).mono ?_
    rintro e w9 ⟨rfl, hb⟩
    rw [SS.out]
    have hq : Below (w7.heap.size) w7 w9 := BP.out.trans (Below.mono hb (Nat.le_trans hz BP.out.size))
    have hzn : w7.heap.size ≤ w9.heap.size := Nat.le_trans hz hq.size
    replace B := lF B hq hzn
    replace FA := lF FA hq hzn
    replace FC := lF FC hq hzn
    replace KS := lF KS hq hzn
    replace XT := lF XT hq hzn
    replace lT := Nat.lt_of_lt_of_le lT hzn
    replace XR := lF XR hq hzn
    replace lR := Nat.lt_of_lt_of_le lR hzn
    replace XN := lF XN hq hzn
    replace lN := Nat.lt_of_lt_of_le lN hzn
    clear hq BP hz
    have hz : w9.heap.size ≤ w9.heap.size := Nat.le_refl _
    clear hb
    go_wp2_with fail
    refine hK.out _ _ (KS.out _ bR) (fun hHeld3 => ?_)
    clear hK K
    try simp only [Act.put, zgT, zg0, zgS, zsT, zs0, zsS]
    refine tV 5 (v := ?_) rfl (by kernel_rfl) (fun _ _ _ h => h) ?_ (by assumption) ?_
    rotate_left 1
    · (intro x hSx; (try dsimp only at hSx); go_simp; try with_reducible rfl)
    try simp only [Act.put, zgT, zg0, zgS, zsT, zs0, zsS]
    refine tV 6 (v := ?_) rfl (by kernel_rfl) (fun _ _ _ h => h) ?_ (by assumption) ?_
    rotate_left 1
    · (intro x hSx; (try dsimp only at hSx); go_simp; try with_reducible rfl)
    try simp only [Act.put, zgT, zg0, zgS, zsT, zs0, zsS]
    refine wpAnyH_ready (rs := [7]) (by kernel_rfl) (by simp) ?_
    refine AllReadyH.cons rfl (fun K hK => ?_) AllReadyH.nil
    obtain ⟨kN0, kN1, kN2, kN3, kN4⟩ := bk5 (XN.out w9 bR)
    obtain ⟨qkN0, qkN1, qkN2, qkN3, qkN4⟩ := bq5 (XN.out w9 bR)
    go_simp
    clear kN0 kN1 kN2 kN3 kN4 qkN0 qkN1 qkN2 qkN3 qkN4
    have hw0 : w.heap.size ≤ w1.heap.size := hlow1
    replace XT := lS XT lT ((w9.setCell ⟨w1.heap.size, 3, none⟩ (.int .i64 (es : Nat)))) ((Below.heap_setCell _ _ _ _ (by first | omega | (simp; done) | (simp; omega))))
    replace XR := lS XR lR ((w9.setCell ⟨w1.heap.size, 3, none⟩ (.int .i64 (es : Nat)))) ((Below.heap_setCell _ _ _ _ (by first | omega | (simp; done) | (simp; omega))))
    replace XN : Hid (∀ y, Below (w9.heap.size) (w9.setCell ⟨w1.heap.size, 3, none⟩ (.int .i64 (es : Nat))) y → y.heap[w1.heap.size]? = some (.cells #[.slice (some ⟨ga, oa, none⟩) wl ac, .int .i64 (yg : Nat), .int .i64 (tp : Nat), .int .i64 (es : Nat), .slice b dl bc] 29 (0, 0))) := fun y hy => (hy.block _ (by omega)).trans (boxS (XN.out w9 bR) 3 _)
    replace FA : Hid (∀ y, Below (w9.heap.size) (w9.setCell ⟨w1.heap.size, 3, none⟩ (.int .i64 (es : Nat))) y → Wri y (some ⟨ga, oa, none⟩) wl (fun j => (ws.set od c0).getD j 0)) := fun y hy => ((FA.out w9 bR).keep (D := fun k9 => k9 = w1.heap.size) (Chg.set _ _ _ rfl) (fun x e h0 hd => by have h8 : x.block = w1.heap.size := hd; obtain rfl := Option.some.inj e; simp only at h8; omega)).later (hy.mono (by first | (simp; done) | (simp; omega)))
    replace FC : Hid (∀ y, Below (w9.heap.size) (w9.setCell ⟨w1.heap.size, 3, none⟩ (.int .i64 (es : Nat))) y → WriB y b dl (fun j => cd.getD j false)) := fun y hy => ((FC.out w9 bR).keep (D := fun k9 => k9 = w1.heap.size) (Chg.set _ _ _ rfl) (fun x e h0 hd => by have h8 : x.block = w1.heap.size := hd; have := LB.out x e h0; omega)).later (hy.mono (by first | (simp; done) | (simp; omega)))
    clear KS
    replace B : Hid (∀ y, Below (w9.heap.size) (w9.setCell ⟨w1.heap.size, 3, none⟩ (.int .i64 (es : Nat))) y → Below w.heap.size w y) := fun y hy => ((B.out w9 bR).setCell hw0 _).trans (hy.mono (by first | omega | exact Nat.le_trans (B.out w9 bR).size hz | (have := (B.out w9 bR).size; omega)))
    replace hz : w9.heap.size ≤ (w9.setCell ⟨w1.heap.size, 3, none⟩ (.int .i64 (es : Nat))).heap.size := by first | (simp; done) | simpa using hz
    clear hw0
    have KS : Hid (∀ x, Below (w9.heap.size) (w9.setCell ⟨w1.heap.size, 3, none⟩ (.int .i64 (es : Nat))) x → x.cell? ⟨w.heap.size + 1, 0, none⟩ = some (.int .i64 (pl : Nat)) ∧ x.cell? ⟨w.heap.size + 1, 1, none⟩ = some (.int .i64 c0) ∧ x.cell? ⟨w.heap.size + 1, 2, none⟩ = some (.slice ya yl yc)) := fun x hx => bk3 (XT.out x hx)
    refine hK.out _ _ (KS.out _ bR) (fun hHeld4 => ?_)
    clear hK K
    try simp only [Act.put, zgT, zg0, zgS, zsT, zs0, zsS]
    refine wpAnyH_done (by kernel_rfl) ?_ _
    clear hHeld hHeld2 hHeld3 hHeld4
    clear KS
    generalize (w9.setCell ⟨w1.heap.size, 3, none⟩ (.int .i64 (es : Nat))) = w10 at B FA FC XT XR XN hz ⊢
    have hzn : w9.heap.size ≤ w10.heap.size := Nat.le_trans hz (Below.size (Below.refl (w9.heap.size) w10))
    replace B := lF B (Below.refl (w9.heap.size) w10) hzn
    replace FA := lF FA (Below.refl (w9.heap.size) w10) hzn
    replace FC := lF FC (Below.refl (w9.heap.size) w10) hzn
    replace XT := lF XT (Below.refl (w9.heap.size) w10) hzn
    replace lT := Nat.lt_of_lt_of_le lT hzn
    replace XR := lF XR (Below.refl (w9.heap.size) w10) hzn
    replace lR := Nat.lt_of_lt_of_le lR hzn
    replace XN := lF XN (Below.refl (w9.heap.size) w10) hzn
    replace lN := Nat.lt_of_lt_of_le lN hzn
    clear hz
    have hz : w10.heap.size ≤ w10.heap.size := Nat.le_refl _
    obtain ⟨kT0, kT1, kT2⟩ := bk3 (XT.out w10 bR)
    obtain ⟨kR0, kR1, kR2, kR3, kR4⟩ := bk5 (XR.out w10 bR)
    obtain ⟨kN0, kN1, kN2, kN3, kN4⟩ := bk5 (XN.out w10 bR)
    go_wp2_with fail
    clear kT0 kT1 kT2 kR0 kR1 kR2 kR3 kR4 kN0 kN1 kN2 kN3 kN4
    have KS : Hid (∀ x, Below (w10.heap.size) w10 x → x.cell? ⟨w.heap.size + 1, 0, none⟩ = some (.int .i64 (pl : Nat)) ∧ x.cell? ⟨w.heap.size + 1, 1, none⟩ = some (.int .i64 c0) ∧ x.cell? ⟨w.heap.size + 1, 2, none⟩ = some (.slice ya yl yc) ∧ x.cell? ⟨w1.heap.size, 0, none⟩ = some (.slice (some ⟨ga, oa, none⟩) wl ac) ∧ x.cell? ⟨w1.heap.size, 1, none⟩ = some (.int .i64 (yg : Nat)) ∧ x.cell? ⟨w1.heap.size, 2, none⟩ = some (.int .i64 (tp : Nat)) ∧ x.cell? ⟨w1.heap.size, 3, none⟩ = some (.int .i64 (es : Nat)) ∧ x.cell? ⟨w1.heap.size, 4, none⟩ = some (.slice b dl bc)) := fun x hx => ⟨(boxG (XT.out x hx) 0).1, (boxG (XT.out x hx) 1).1, (boxG (XT.out x hx) 2).1, (boxG (XN.out x hx) 0).1, (boxG (XN.out x hx) 1).1, (boxG (XN.out x hx) 2).1, (boxG (XN.out x hx) 3).1, (boxG (XN.out x hx) 4).1⟩
    refine wp_region_held_drew (S := fun x => x.cell? ⟨w.heap.size + 1, 0, none⟩ = some (.int .i64 (pl : Nat)) ∧ x.cell? ⟨w.heap.size + 1, 1, none⟩ = some (.int .i64 c0) ∧ x.cell? ⟨w.heap.size + 1, 2, none⟩ = some (.slice ya yl yc) ∧ x.cell? ⟨w1.heap.size, 0, none⟩ = some (.slice (some ⟨ga, oa, none⟩) wl ac) ∧ x.cell? ⟨w1.heap.size, 1, none⟩ = some (.int .i64 (yg : Nat)) ∧ x.cell? ⟨w1.heap.size, 2, none⟩ = some (.int .i64 (tp : Nat)) ∧ x.cell? ⟨w1.heap.size, 3, none⟩ = some (.int .i64 (es : Nat)) ∧ x.cell? ⟨w1.heap.size, 4, none⟩ = some (.slice b dl bc)) (by kernel_rfl) ?_ (fun hHeld => ?_)
    · exact KS.out _ (bdrew bR)
    refine tV 0 (v := ?_) rfl (by kernel_rfl) (fun _ _ _ h => h) ?_ (by assumption) ?_
    rotate_left 1
    · (intro x hSx; (try dsimp only at hSx); go_simp; try with_reducible rfl)
    try simp only [Act.put, zgT, zg0, zsT, zs0, zsS]
    refine tV 1 (v := ?_) rfl (by kernel_rfl) (fun _ _ _ h => h) ?_ (by assumption) ?_
    rotate_left 1
    · (intro x hSx; (try dsimp only at hSx); go_simp; try with_reducible rfl)
    try simp only [Act.put, zgT, zg0, zgS, zsT, zs0, zsS]
    refine tV 2 (v := ?_) rfl (by kernel_rfl) (fun _ _ _ h => h) ?_ (by assumption) ?_
    rotate_left 1
    · (intro x hSx; (try dsimp only at hSx); go_simp; try with_reducible rfl)
    try simp only [Act.put, zgT, zg0, zgS, zsT, zs0, zsS]
    refine wpAnyH_ready (rs := [3]) (by kernel_rfl) (by simp) ?_
    refine AllReadyH.cons rfl (fun K hK => ?_) AllReadyH.nil
    obtain ⟨kR0, kR1, kR2, kR3, kR4⟩ := bk5 (XR.out w10 bR)
    obtain ⟨qkR0, qkR1, qkR2, qkR3, qkR4⟩ := bq5 (XR.out w10 bR)
    go_simp
    clear kR0 kR1 kR2 kR3 kR4 qkR0 qkR1 qkR2 qkR3 qkR4
    generalize hW : (((((w10.setCell ⟨w.heap.size + 1 + 1, 0, none⟩ (.slice (some ⟨ga, oa, none⟩) wl ac)).setCell ⟨w.heap.size + 1 + 1, 1, none⟩ (.int .i64 (yg : Nat))).setCell ⟨w.heap.size + 1 + 1, 2, none⟩ (.int .i64 (tp : Nat))).setCell ⟨w.heap.size + 1 + 1, 3, none⟩ (.int .i64 (es : Nat))).setCell ⟨w.heap.size + 1 + 1, 4, none⟩ (.slice b dl bc)) = wB1
    have hkB : ∀ a, a ≠ w.heap.size + 1 + 1 → wB1.heap[a]? = w10.heap[a]? := by subst hW; exact fun a h => (Below.heap_setCell _ _ _ _ h).trans ((Below.heap_setCell _ _ _ _ h).trans ((Below.heap_setCell _ _ _ _ h).trans ((Below.heap_setCell _ _ _ _ h).trans ((Below.heap_setCell _ _ _ _ h)))))
    have hw0 : w.heap.size ≤ w.heap.size + 1 + 1 := (by first | omega | (simp; done) | (simp; omega) | (simp at *; omega))
    replace XT := lS XT lT wB1 (hkB _ (by first | omega | (simp; done) | (simp; omega)))
    replace XN := lS XN lN wB1 (hkB _ (by first | omega | (simp; done) | (simp; omega)))
    replace XR : Hid (∀ y, Below (w10.heap.size) wB1 y → y.heap[w.heap.size + 1 + 1]? = some (.cells #[.slice (some ⟨ga, oa, none⟩) wl ac, .int .i64 (yg : Nat), .int .i64 (tp : Nat), .int .i64 (es : Nat), .slice b dl bc] 29 (0, 0))) := fun y hy => by subst hW; exact (hy.block _ (by omega)).trans (boxS (boxS (boxS (boxS (boxS (XR.out w10 bR) 0 _) 1 _) 2 _) 3 _) 4 _)
    replace FA : Hid (∀ y, Below (w10.heap.size) wB1 y → Wri y (some ⟨ga, oa, none⟩) wl (fun j => (ws.set od c0).getD j 0)) := fun y hy => by subst hW; exact ((FA.out w10 bR).keep (D := fun k9 => k9 = w.heap.size + 1 + 1) (chg5 w10 (w.heap.size + 1 + 1) (.slice (some ⟨ga, oa, none⟩) wl ac) (.int .i64 (yg : Nat)) (.int .i64 (tp : Nat)) (.int .i64 (es : Nat)) (.slice b dl bc)) (fun x e h0 hd => by have h8 : x.block = w.heap.size + 1 + 1 := hd; obtain rfl := Option.some.inj e; simp only at h8; omega)).later (hy.mono (by first | (simp; done) | (simp; omega)))
    replace FC : Hid (∀ y, Below (w10.heap.size) wB1 y → WriB y b dl (fun j => cd.getD j false)) := fun y hy => by subst hW; exact ((FC.out w10 bR).keep (D := fun k9 => k9 = w.heap.size + 1 + 1) (chg5 w10 (w.heap.size + 1 + 1) (.slice (some ⟨ga, oa, none⟩) wl ac) (.int .i64 (yg : Nat)) (.int .i64 (tp : Nat)) (.int .i64 (es : Nat)) (.slice b dl bc)) (fun x e h0 hd => by have h8 : x.block = w.heap.size + 1 + 1 := hd; have := LB.out x e h0; omega)).later (hy.mono (by first | (simp; done) | (simp; omega)))
    clear KS
    replace B : Hid (∀ y, Below (w10.heap.size) wB1 y → Below w.heap.size w y) := fun y hy => by subst hW; exact ((((((B.out w10 bR).setCell hw0 _).setCell hw0 _).setCell hw0 _).setCell hw0 _).setCell hw0 _).trans (hy.mono (by first | omega | exact Nat.le_trans (B.out w10 bR).size hz | (have := (B.out w10 bR).size; omega)))
    replace hz : w10.heap.size ≤ wB1.heap.size := by subst hW; first | (simp; done) | simpa using hz
    clear hw0 hW hkB
    replace B := lD B
    replace FA := lD FA
    replace FC := lD FC
    replace XT := lD XT
    replace XR := lD XR
    replace XN := lD XN
    replace hz : w10.heap.size ≤ (wB1.drew).heap.size := Nat.le_trans hz (Below.size (bdrew (Below.refl (w10.heap.size) wB1)))
    have KS : Hid (∀ x, Below (w10.heap.size) (wB1.drew) x → x.cell? ⟨w.heap.size + 1, 0, none⟩ = some (.int .i64 (pl : Nat)) ∧ x.cell? ⟨w.heap.size + 1, 1, none⟩ = some (.int .i64 c0) ∧ x.cell? ⟨w.heap.size + 1, 2, none⟩ = some (.slice ya yl yc) ∧ x.cell? ⟨w1.heap.size, 0, none⟩ = some (.slice (some ⟨ga, oa, none⟩) wl ac) ∧ x.cell? ⟨w1.heap.size, 1, none⟩ = some (.int .i64 (yg : Nat)) ∧ x.cell? ⟨w1.heap.size, 2, none⟩ = some (.int .i64 (tp : Nat)) ∧ x.cell? ⟨w1.heap.size, 3, none⟩ = some (.int .i64 (es : Nat)) ∧ x.cell? ⟨w1.heap.size, 4, none⟩ = some (.slice b dl bc)) := fun x hx => ⟨(boxG (XT.out x hx) 0).1, (boxG (XT.out x hx) 1).1, (boxG (XT.out x hx) 2).1, (boxG (XN.out x hx) 0).1, (boxG (XN.out x hx) 1).1, (boxG (XN.out x hx) 2).1, (boxG (XN.out x hx) 3).1, (boxG (XN.out x hx) 4).1⟩
    refine hK.out _ _ (KS.out _ bR) (fun hHeld2 => ?_)
    clear hK K
    try simp only [Act.put, zgT, zg0, zgS, zsT, zs0, zsS]
    refine tV 4 (v := ?_) rfl (by kernel_rfl) (fun _ _ _ h => h) ?_ (by assumption) ?_
    rotate_left 1
    · (intro x hSx; (try dsimp only at hSx); go_simp; try with_reducible rfl)
    try simp only [Act.put, zgT, zg0, zgS, zsT, zs0, zsS]
    refine wpAnyH_done (by kernel_rfl) ?_ _
    clear hHeld hHeld2
    clear KS
    generalize (wB1.drew) = w11 at B FA FC XT XR XN hz ⊢
    have hzn : w10.heap.size ≤ w11.heap.size := Nat.le_trans hz (Below.size (Below.refl (w10.heap.size) w11))
    replace B := lF B (Below.refl (w10.heap.size) w11) hzn
    replace FA := lF FA (Below.refl (w10.heap.size) w11) hzn
    replace FC := lF FC (Below.refl (w10.heap.size) w11) hzn
    replace XT := lF XT (Below.refl (w10.heap.size) w11) hzn
    replace lT := Nat.lt_of_lt_of_le lT hzn
    replace XR := lF XR (Below.refl (w10.heap.size) w11) hzn
    replace lR := Nat.lt_of_lt_of_le lR hzn
    replace XN := lF XN (Below.refl (w10.heap.size) w11) hzn
    replace lN := Nat.lt_of_lt_of_le lN hzn
    clear hz
    have hz : w11.heap.size ≤ w11.heap.size := Nat.le_refl _
    obtain ⟨kT0, kT1, kT2⟩ := bk3 (XT.out w11 bR)
    obtain ⟨kR0, kR1, kR2, kR3, kR4⟩ := bk5 (XR.out w11 bR)
    obtain ⟨kN0, kN1, kN2, kN3, kN4⟩ := bk5 (XN.out w11 bR)
    rename_i K0 hK0
    refine hK0 _ _ (wp_ret ?_)
    refine bodyPost_ret (v := .tuple #[.agg #[.slice (some ⟨ga, oa, none⟩) wl ac, .int .i64 (yg : Nat), .int .i64 (tp : Nat), .int .i64 (es : Nat), .slice b dl bc], .int .i64 (pl : Nat)]) ?_ rfl ?_
    · simp [results, Tryz.results36, go_sem, *]
    · clear kT0 kT1 kT2 kR0 kR1 kR2 kR3 kR4 kN0 kN1 kN2 kN3 kN4
      rw [TM.out]
      exact ⟨some ⟨ga, oa, none⟩, wl, ac, b, dl, bc, rfl, LN.out, CS.out, FA.out _ bR, FC.out _ bR, (fun x e h0 => by obtain rfl := Option.some.inj e; simp only; omega), (fun x e h0 => by have := (LB.out x e h0).1; omega), (fun x y e e2 h0 h2 => by obtain rfl := Option.some.inj e; have := (LB.out y e2 h2).2.2; exact fun h => this h.symm), B.out _ bR⟩
  · go_simp
    go_at_call 75
    have BP : Hid (Below (w7.heap.size) w7 w7.drew) := (bdrew bR)
    refine (sizeImpl (pl : Nat) c0 ya yl yc _ (by omega)).mono ?_
    rintro e w9 ⟨rfl, hb⟩
    rw [SS.out]
    have hq : Below (w7.heap.size) w7 w9 := BP.out.trans (Below.mono hb (Nat.le_trans hz BP.out.size))
    have hzn : w7.heap.size ≤ w9.heap.size := Nat.le_trans hz hq.size
    replace B := lF B hq hzn
    replace FA := lF FA hq hzn
    replace FC := lF FC hq hzn
    replace KS := lF KS hq hzn
    replace XT := lF XT hq hzn
    replace lT := Nat.lt_of_lt_of_le lT hzn
    replace XR := lF XR hq hzn
    replace lR := Nat.lt_of_lt_of_le lR hzn
    replace XN := lF XN hq hzn
    replace lN := Nat.lt_of_lt_of_le lN hzn
    clear hq BP hz
    have hz : w9.heap.size ≤ w9.heap.size := Nat.le_refl _
    clear hb
    go_wp2_with fail
    refine hK.out _ _ (KS.out _ bR) (fun hHeld2 => ?_)
    clear hK K
    try simp only [Act.put, zgT, zg0, zgS, zsT, zs0, zsS]
    refine wpAnyH_ready (rs := [2]) (by kernel_rfl) (by simp) ?_
    refine AllReadyH.cons rfl (fun K hK => ?_) AllReadyH.nil
    obtain ⟨kN0, kN1, kN2, kN3, kN4⟩ := bk5 (XN.out w9 bR)
    go_simp
    clear kN0 kN1 kN2 kN3 kN4
    refine hK.out _ _ (KS.out _ bR) (fun hHeld3 => ?_)
    clear hK K
    try simp only [Act.put, zgT, zg0, zgS, zsT, zs0, zsS]
    refine tV 5 (v := ?_) rfl (by kernel_rfl) (fun _ _ _ h => h) ?_ (by assumption) ?_
    rotate_left 1
    · (intro x hSx; (try dsimp only at hSx); go_simp; try with_reducible rfl)
    try simp only [Act.put, zgT, zg0, zgS, zsT, zs0, zsS]
    refine tV 6 (v := ?_) rfl (by kernel_rfl) (fun _ _ _ h => h) ?_ (by assumption) ?_
    rotate_left 1
    · (intro x hSx; (try dsimp only at hSx); go_simp; try with_reducible rfl)
    try simp only [Act.put, zgT, zg0, zgS, zsT, zs0, zsS]
    refine wpAnyH_ready (rs := [7]) (by kernel_rfl) (by simp) ?_
    refine AllReadyH.cons rfl (fun K hK => ?_) AllReadyH.nil
    obtain ⟨kN0, kN1, kN2, kN3, kN4⟩ := bk5 (XN.out w9 bR)
    obtain ⟨qkN0, qkN1, qkN2, qkN3, qkN4⟩ := bq5 (XN.out w9 bR)
    go_simp
    clear kN0 kN1 kN2 kN3 kN4 qkN0 qkN1 qkN2 qkN3 qkN4
    have hw0 : w.heap.size ≤ w1.heap.size := hlow1
    replace XT := lS XT lT ((w9.setCell ⟨w1.heap.size, 3, none⟩ (.int .i64 (es : Nat)))) ((Below.heap_setCell _ _ _ _ (by first | omega | (simp; done) | (simp; omega))))
    replace XR := lS XR lR ((w9.setCell ⟨w1.heap.size, 3, none⟩ (.int .i64 (es : Nat)))) ((Below.heap_setCell _ _ _ _ (by first | omega | (simp; done) | (simp; omega))))
    replace XN : Hid (∀ y, Below (w9.heap.size) (w9.setCell ⟨w1.heap.size, 3, none⟩ (.int .i64 (es : Nat))) y → y.heap[w1.heap.size]? = some (.cells #[.slice (some ⟨ga, oa, none⟩) wl ac, .int .i64 (yg : Nat), .int .i64 (tp : Nat), .int .i64 (es : Nat), .slice b dl bc] 29 (0, 0))) := fun y hy => (hy.block _ (by omega)).trans (boxS (XN.out w9 bR) 3 _)
    replace FA : Hid (∀ y, Below (w9.heap.size) (w9.setCell ⟨w1.heap.size, 3, none⟩ (.int .i64 (es : Nat))) y → Wri y (some ⟨ga, oa, none⟩) wl (fun j => (ws.set od c0).getD j 0)) := fun y hy => ((FA.out w9 bR).keep (D := fun k9 => k9 = w1.heap.size) (Chg.set _ _ _ rfl) (fun x e h0 hd => by have h8 : x.block = w1.heap.size := hd; obtain rfl := Option.some.inj e; simp only at h8; omega)).later (hy.mono (by first | (simp; done) | (simp; omega)))
    replace FC : Hid (∀ y, Below (w9.heap.size) (w9.setCell ⟨w1.heap.size, 3, none⟩ (.int .i64 (es : Nat))) y → WriB y b dl (fun j => cd.getD j false)) := fun y hy => ((FC.out w9 bR).keep (D := fun k9 => k9 = w1.heap.size) (Chg.set _ _ _ rfl) (fun x e h0 hd => by have h8 : x.block = w1.heap.size := hd; have := LB.out x e h0; omega)).later (hy.mono (by first | (simp; done) | (simp; omega)))
    clear KS
    replace B : Hid (∀ y, Below (w9.heap.size) (w9.setCell ⟨w1.heap.size, 3, none⟩ (.int .i64 (es : Nat))) y → Below w.heap.size w y) := fun y hy => ((B.out w9 bR).setCell hw0 _).trans (hy.mono (by first | omega | exact Nat.le_trans (B.out w9 bR).size hz | (have := (B.out w9 bR).size; omega)))
    replace hz : w9.heap.size ≤ (w9.setCell ⟨w1.heap.size, 3, none⟩ (.int .i64 (es : Nat))).heap.size := by first | (simp; done) | simpa using hz
    clear hw0
    have KS : Hid (∀ x, Below (w9.heap.size) (w9.setCell ⟨w1.heap.size, 3, none⟩ (.int .i64 (es : Nat))) x → x.cell? ⟨w.heap.size + 1, 0, none⟩ = some (.int .i64 (pl : Nat)) ∧ x.cell? ⟨w.heap.size + 1, 1, none⟩ = some (.int .i64 c0) ∧ x.cell? ⟨w.heap.size + 1, 2, none⟩ = some (.slice ya yl yc)) := fun x hx => bk3 (XT.out x hx)
    refine hK.out _ _ (KS.out _ bR) (fun hHeld4 => ?_)
    clear hK K
    try simp only [Act.put, zgT, zg0, zgS, zsT, zs0, zsS]
    refine wpAnyH_done (by kernel_rfl) ?_ _
    clear hHeld hHeld2 hHeld3 hHeld4
    clear KS
    generalize (w9.setCell ⟨w1.heap.size, 3, none⟩ (.int .i64 (es : Nat))) = w10 at B FA FC XT XR XN hz ⊢
    have hzn : w9.heap.size ≤ w10.heap.size := Nat.le_trans hz (Below.size (Below.refl (w9.heap.size) w10))
    replace B := lF B (Below.refl (w9.heap.size) w10) hzn
    replace FA := lF FA (Below.refl (w9.heap.size) w10) hzn
    replace FC := lF FC (Below.refl (w9.heap.size) w10) hzn
    replace XT := lF XT (Below.refl (w9.heap.size) w10) hzn
    replace lT := Nat.lt_of_lt_of_le lT hzn
    replace XR := lF XR (Below.refl (w9.heap.size) w10) hzn
    replace lR := Nat.lt_of_lt_of_le lR hzn
    replace XN := lF XN (Below.refl (w9.heap.size) w10) hzn
    replace lN := Nat.lt_of_lt_of_le lN hzn
    clear hz
    have hz : w10.heap.size ≤ w10.heap.size := Nat.le_refl _
    obtain ⟨kT0, kT1, kT2⟩ := bk3 (XT.out w10 bR)
    obtain ⟨kR0, kR1, kR2, kR3, kR4⟩ := bk5 (XR.out w10 bR)
    obtain ⟨kN0, kN1, kN2, kN3, kN4⟩ := bk5 (XN.out w10 bR)
    go_wp2_with fail
    clear kT0 kT1 kT2 kR0 kR1 kR2 kR3 kR4 kN0 kN1 kN2 kN3 kN4
    have KS : Hid (∀ x, Below (w10.heap.size) w10 x → x.cell? ⟨w.heap.size + 1, 0, none⟩ = some (.int .i64 (pl : Nat)) ∧ x.cell? ⟨w.heap.size + 1, 1, none⟩ = some (.int .i64 c0) ∧ x.cell? ⟨w.heap.size + 1, 2, none⟩ = some (.slice ya yl yc) ∧ x.cell? ⟨w1.heap.size, 0, none⟩ = some (.slice (some ⟨ga, oa, none⟩) wl ac) ∧ x.cell? ⟨w1.heap.size, 1, none⟩ = some (.int .i64 (yg : Nat)) ∧ x.cell? ⟨w1.heap.size, 2, none⟩ = some (.int .i64 (tp : Nat)) ∧ x.cell? ⟨w1.heap.size, 3, none⟩ = some (.int .i64 (es : Nat)) ∧ x.cell? ⟨w1.heap.size, 4, none⟩ = some (.slice b dl bc)) := fun x hx => ⟨(boxG (XT.out x hx) 0).1, (boxG (XT.out x hx) 1).1, (boxG (XT.out x hx) 2).1, (boxG (XN.out x hx) 0).1, (boxG (XN.out x hx) 1).1, (boxG (XN.out x hx) 2).1, (boxG (XN.out x hx) 3).1, (boxG (XN.out x hx) 4).1⟩
    refine wp_region_held_drew (S := fun x => x.cell? ⟨w.heap.size + 1, 0, none⟩ = some (.int .i64 (pl : Nat)) ∧ x.cell? ⟨w.heap.size + 1, 1, none⟩ = some (.int .i64 c0) ∧ x.cell? ⟨w.heap.size + 1, 2, none⟩ = some (.slice ya yl yc) ∧ x.cell? ⟨w1.heap.size, 0, none⟩ = some (.slice (some ⟨ga, oa, none⟩) wl ac) ∧ x.cell? ⟨w1.heap.size, 1, none⟩ = some (.int .i64 (yg : Nat)) ∧ x.cell? ⟨w1.heap.size, 2, none⟩ = some (.int .i64 (tp : Nat)) ∧ x.cell? ⟨w1.heap.size, 3, none⟩ = some (.int .i64 (es : Nat)) ∧ x.cell? ⟨w1.heap.size, 4, none⟩ = some (.slice b dl bc)) (by kernel_rfl) ?_ (fun hHeld => ?_)
    · exact KS.out _ (bdrew bR)
    refine tV 0 (v := ?_) rfl (by kernel_rfl) (fun _ _ _ h => h) ?_ (by assumption) ?_
    rotate_left 1
    · (intro x hSx; (try dsimp only at hSx); go_simp; try with_reducible rfl)
    try simp only [Act.put, zgT, zg0, zsT, zs0, zsS]
    refine tV 1 (v := ?_) rfl (by kernel_rfl) (fun _ _ _ h => h) ?_ (by assumption) ?_
    rotate_left 1
    · (intro x hSx; (try dsimp only at hSx); go_simp; try with_reducible rfl)
    try simp only [Act.put, zgT, zg0, zgS, zsT, zs0, zsS]
    refine tV 2 (v := ?_) rfl (by kernel_rfl) (fun _ _ _ h => h) ?_ (by assumption) ?_
    rotate_left 1
    · (intro x hSx; (try dsimp only at hSx); go_simp; try with_reducible rfl)
    try simp only [Act.put, zgT, zg0, zgS, zsT, zs0, zsS]
    refine wpAnyH_ready (rs := [3]) (by kernel_rfl) (by simp) ?_
    refine AllReadyH.cons rfl (fun K hK => ?_) AllReadyH.nil
    obtain ⟨kR0, kR1, kR2, kR3, kR4⟩ := bk5 (XR.out w10 bR)
    obtain ⟨qkR0, qkR1, qkR2, qkR3, qkR4⟩ := bq5 (XR.out w10 bR)
    go_simp
    clear kR0 kR1 kR2 kR3 kR4 qkR0 qkR1 qkR2 qkR3 qkR4
    generalize hW : (((((w10.setCell ⟨w.heap.size + 1 + 1, 0, none⟩ (.slice (some ⟨ga, oa, none⟩) wl ac)).setCell ⟨w.heap.size + 1 + 1, 1, none⟩ (.int .i64 (yg : Nat))).setCell ⟨w.heap.size + 1 + 1, 2, none⟩ (.int .i64 (tp : Nat))).setCell ⟨w.heap.size + 1 + 1, 3, none⟩ (.int .i64 (es : Nat))).setCell ⟨w.heap.size + 1 + 1, 4, none⟩ (.slice b dl bc)) = wB1
    have hkB : ∀ a, a ≠ w.heap.size + 1 + 1 → wB1.heap[a]? = w10.heap[a]? := by subst hW; exact fun a h => (Below.heap_setCell _ _ _ _ h).trans ((Below.heap_setCell _ _ _ _ h).trans ((Below.heap_setCell _ _ _ _ h).trans ((Below.heap_setCell _ _ _ _ h).trans ((Below.heap_setCell _ _ _ _ h)))))
    have hw0 : w.heap.size ≤ w.heap.size + 1 + 1 := (by first | omega | (simp; done) | (simp; omega) | (simp at *; omega))
    replace XT := lS XT lT wB1 (hkB _ (by first | omega | (simp; done) | (simp; omega)))
    replace XN := lS XN lN wB1 (hkB _ (by first | omega | (simp; done) | (simp; omega)))
    replace XR : Hid (∀ y, Below (w10.heap.size) wB1 y → y.heap[w.heap.size + 1 + 1]? = some (.cells #[.slice (some ⟨ga, oa, none⟩) wl ac, .int .i64 (yg : Nat), .int .i64 (tp : Nat), .int .i64 (es : Nat), .slice b dl bc] 29 (0, 0))) := fun y hy => by subst hW; exact (hy.block _ (by omega)).trans (boxS (boxS (boxS (boxS (boxS (XR.out w10 bR) 0 _) 1 _) 2 _) 3 _) 4 _)
    replace FA : Hid (∀ y, Below (w10.heap.size) wB1 y → Wri y (some ⟨ga, oa, none⟩) wl (fun j => (ws.set od c0).getD j 0)) := fun y hy => by subst hW; exact ((FA.out w10 bR).keep (D := fun k9 => k9 = w.heap.size + 1 + 1) (chg5 w10 (w.heap.size + 1 + 1) (.slice (some ⟨ga, oa, none⟩) wl ac) (.int .i64 (yg : Nat)) (.int .i64 (tp : Nat)) (.int .i64 (es : Nat)) (.slice b dl bc)) (fun x e h0 hd => by have h8 : x.block = w.heap.size + 1 + 1 := hd; obtain rfl := Option.some.inj e; simp only at h8; omega)).later (hy.mono (by first | (simp; done) | (simp; omega)))
    replace FC : Hid (∀ y, Below (w10.heap.size) wB1 y → WriB y b dl (fun j => cd.getD j false)) := fun y hy => by subst hW; exact ((FC.out w10 bR).keep (D := fun k9 => k9 = w.heap.size + 1 + 1) (chg5 w10 (w.heap.size + 1 + 1) (.slice (some ⟨ga, oa, none⟩) wl ac) (.int .i64 (yg : Nat)) (.int .i64 (tp : Nat)) (.int .i64 (es : Nat)) (.slice b dl bc)) (fun x e h0 hd => by have h8 : x.block = w.heap.size + 1 + 1 := hd; have := LB.out x e h0; omega)).later (hy.mono (by first | (simp; done) | (simp; omega)))
    clear KS
    replace B : Hid (∀ y, Below (w10.heap.size) wB1 y → Below w.heap.size w y) := fun y hy => by subst hW; exact ((((((B.out w10 bR).setCell hw0 _).setCell hw0 _).setCell hw0 _).setCell hw0 _).setCell hw0 _).trans (hy.mono (by first | omega | exact Nat.le_trans (B.out w10 bR).size hz | (have := (B.out w10 bR).size; omega)))
    replace hz : w10.heap.size ≤ wB1.heap.size := by subst hW; first | (simp; done) | simpa using hz
    clear hw0 hW hkB
    replace B := lD B
    replace FA := lD FA
    replace FC := lD FC
    replace XT := lD XT
    replace XR := lD XR
    replace XN := lD XN
    replace hz : w10.heap.size ≤ (wB1.drew).heap.size := Nat.le_trans hz (Below.size (bdrew (Below.refl (w10.heap.size) wB1)))
    have KS : Hid (∀ x, Below (w10.heap.size) (wB1.drew) x → x.cell? ⟨w.heap.size + 1, 0, none⟩ = some (.int .i64 (pl : Nat)) ∧ x.cell? ⟨w.heap.size + 1, 1, none⟩ = some (.int .i64 c0) ∧ x.cell? ⟨w.heap.size + 1, 2, none⟩ = some (.slice ya yl yc) ∧ x.cell? ⟨w1.heap.size, 0, none⟩ = some (.slice (some ⟨ga, oa, none⟩) wl ac) ∧ x.cell? ⟨w1.heap.size, 1, none⟩ = some (.int .i64 (yg : Nat)) ∧ x.cell? ⟨w1.heap.size, 2, none⟩ = some (.int .i64 (tp : Nat)) ∧ x.cell? ⟨w1.heap.size, 3, none⟩ = some (.int .i64 (es : Nat)) ∧ x.cell? ⟨w1.heap.size, 4, none⟩ = some (.slice b dl bc)) := fun x hx => ⟨(boxG (XT.out x hx) 0).1, (boxG (XT.out x hx) 1).1, (boxG (XT.out x hx) 2).1, (boxG (XN.out x hx) 0).1, (boxG (XN.out x hx) 1).1, (boxG (XN.out x hx) 2).1, (boxG (XN.out x hx) 3).1, (boxG (XN.out x hx) 4).1⟩
    refine hK.out _ _ (KS.out _ bR) (fun hHeld2 => ?_)
    clear hK K
    try simp only [Act.put, zgT, zg0, zgS, zsT, zs0, zsS]
    refine tV 4 (v := ?_) rfl (by kernel_rfl) (fun _ _ _ h => h) ?_ (by assumption) ?_
    rotate_left 1
    · (intro x hSx; (try dsimp only at hSx); go_simp; try with_reducible rfl)
    try simp only [Act.put, zgT, zg0, zgS, zsT, zs0, zsS]
    refine wpAnyH_done (by kernel_rfl) ?_ _
    clear hHeld hHeld2
    clear KS
    generalize (wB1.drew) = w11 at B FA FC XT XR XN hz ⊢
    have hzn : w10.heap.size ≤ w11.heap.size := Nat.le_trans hz (Below.size (Below.refl (w10.heap.size) w11))
    replace B := lF B (Below.refl (w10.heap.size) w11) hzn
    replace FA := lF FA (Below.refl (w10.heap.size) w11) hzn
    replace FC := lF FC (Below.refl (w10.heap.size) w11) hzn
    replace XT := lF XT (Below.refl (w10.heap.size) w11) hzn
    replace lT := Nat.lt_of_lt_of_le lT hzn
    replace XR := lF XR (Below.refl (w10.heap.size) w11) hzn
    replace lR := Nat.lt_of_lt_of_le lR hzn
    replace XN := lF XN (Below.refl (w10.heap.size) w11) hzn
    replace lN := Nat.lt_of_lt_of_le lN hzn
    clear hz
    have hz : w11.heap.size ≤ w11.heap.size := Nat.le_refl _
    obtain ⟨kT0, kT1, kT2⟩ := bk3 (XT.out w11 bR)
    obtain ⟨kR0, kR1, kR2, kR3, kR4⟩ := bk5 (XR.out w11 bR)
    obtain ⟨kN0, kN1, kN2, kN3, kN4⟩ := bk5 (XN.out w11 bR)
    rename_i K0 hK0
    refine hK0 _ _ (wp_ret ?_)
    refine bodyPost_ret (v := .tuple #[.agg #[.slice (some ⟨ga, oa, none⟩) wl ac, .int .i64 (yg : Nat), .int .i64 (tp : Nat), .int .i64 (es : Nat), .slice b dl bc], .int .i64 (pl : Nat)]) ?_ rfl ?_
    · simp [results, Tryz.results36, go_sem, *]
    · clear kT0 kT1 kT2 kR0 kR1 kR2 kR3 kR4 kN0 kN1 kN2 kN3 kN4
      rw [TM.out]
      exact ⟨some ⟨ga, oa, none⟩, wl, ac, b, dl, bc, rfl, LN.out, CS.out, FA.out _ bR, FC.out _ bR, (fun x e h0 => by obtain rfl := Option.some.inj e; simp only; omega), (fun x e h0 => by have := (LB.out x e h0).1; omega), (fun x y e e2 h0 h2 => by obtain rfl := Option.some.inj e; have := (LB.out y e2 h2).2.2; exact fun h => this h.symm), B.out _ bR⟩

set_option maxRecDepth 100000 in
set_option maxHeartbeats 8000000 in
theorem mmakeImpl (ca : Option Addr) (cn cc : Nat) (wa : Option Addr) (wl wc : Nat) (yg tp od : Int) (da : Option Addr) (dl dc : Nat) (v k : Int) (ol : Bool) (ws : List Int) (cd : List Bool) (L : List Cl) (w : World) {D E G G2 : Nat → Prop} (h : ClsAt D E w ca cn L) (hw : IntsAt G w wa wl ws) (hc : SlAt boolR G2 w da dl cd) (hyg : i64B yg) (hl : wl ≤ 1048576) (hd : dl ≤ 1048576) (hcap : wl ≤ wc) (hv : i64B v) (hk : i64B k) : Calls Tryz.prog 11 #[.slice ca cn cc, .agg #[.slice wa wl wc, .int .i64 yg, .int .i64 tp, .int .i64 od, .slice da dl dc], .int .i64 v, .int .i64 k, .bool ol] w (AnsM w (makR L (ws, yg, tp, od, cd) v k ol).1 (.int .i64 (makR L (ws, yg, tp, od, cd) v k ol).2)) := by
  have H : Hid (ClsAt D E w ca cn L) := h
  have HW : Hid (IntsAt G w wa wl ws) := hw
  have HC : Hid (SlAt boolR G2 w da dl cd) := hc
  have WS : Hid (ws.length = wl) := hw.size
  have CS : Hid (cd.length = dl) := hc.size
  clear h hw hc
  have hz : w.heap.size + 1 + 1 ≤ ((w.alloc (.cells #[.slice wa wl wc, .int .i64 yg, .int .i64 tp, .int .i64 od, .slice da dl dc] 29)).alloc (.cells #[.slice none 0 0, .int .i64 0, .int .i64 0, .int .i64 0, .slice none 0 0] 29)).heap.size := by simp
  have B : Hid (∀ y, Below (w.heap.size + 1 + 1) ((w.alloc (.cells #[.slice wa wl wc, .int .i64 yg, .int .i64 tp, .int .i64 od, .slice da dl dc] 29)).alloc (.cells #[.slice none 0 0, .int .i64 0, .int .i64 0, .int .i64 0, .slice none 0 0] 29)) y → Below w.heap.size w y) := fun y hy => ((bR.alloc (by first | exact Nat.le_refl _ | (simp; done) | (simp; omega)) _).alloc (by first | exact Nat.le_refl _ | (simp; done) | (simp; omega)) _).trans (hy.mono (by omega))
  have XM : Hid (∀ y, Below (w.heap.size + 1 + 1) ((w.alloc (.cells #[.slice wa wl wc, .int .i64 yg, .int .i64 tp, .int .i64 od, .slice da dl dc] 29)).alloc (.cells #[.slice none 0 0, .int .i64 0, .int .i64 0, .int .i64 0, .slice none 0 0] 29)) y → y.heap[w.heap.size]? = some (.cells #[.slice wa wl wc, .int .i64 yg, .int .i64 tp, .int .i64 od, .slice da dl dc] 29 (0, 0))) := fun y hy => (hy.block _ (by omega)).trans ((Below.heap_alloc _ _ _ (by first | (simp; done) | (simp; omega))).trans (boxN _ _ _ _ (by simp)))
  have lM : w.heap.size < w.heap.size + 1 + 1 := by omega
  have XR : Hid (∀ y, Below (w.heap.size + 1 + 1) ((w.alloc (.cells #[.slice wa wl wc, .int .i64 yg, .int .i64 tp, .int .i64 od, .slice da dl dc] 29)).alloc (.cells #[.slice none 0 0, .int .i64 0, .int .i64 0, .int .i64 0, .slice none 0 0] 29)) y → y.heap[w.heap.size + 1]? = some (.cells #[.slice none 0 0, .int .i64 0, .int .i64 0, .int .i64 0, .slice none 0 0] 29 (0, 0))) := fun y hy => (hy.block _ (by omega)).trans (boxN _ _ _ _ (by simp))
  have lR : w.heap.size + 1 < w.heap.size + 1 + 1 := by omega
  go_enter Tryz.func11, Tryz.ntmps11
  go_wp2_with fail
  have BP : Hid (Below (w.heap.size + 1 + 1) ((w.alloc (.cells #[.slice wa wl wc, .int .i64 yg, .int .i64 tp, .int .i64 od, .slice da dl dc] 29)).alloc (.cells #[.slice none 0 0, .int .i64 0, .int .i64 0, .int .i64 0, .slice none 0 0] 29)) ((w.alloc (.cells #[.slice wa wl wc, .int .i64 yg, .int .i64 tp, .int .i64 od, .slice da dl dc] 29)).alloc (.cells #[.slice none 0 0, .int .i64 0, .int .i64 0, .int .i64 0, .slice none 0 0] 29))) := bR
  refine (memoryImpl _ _ _ _ _ _ yg tp od _ _ _ ws cd L _ (H.out.later (B.out _ BP.out)) (HW.out.later (B.out _ BP.out)) (HC.out.later (B.out _ BP.out)) hyg hl hd hcap).mono ?_
  rintro e w1 ⟨hno, hyes, hb⟩
  have hq : Below (w.heap.size + 1 + 1) ((w.alloc (.cells #[.slice wa wl wc, .int .i64 yg, .int .i64 tp, .int .i64 od, .slice da dl dc] 29)).alloc (.cells #[.slice none 0 0, .int .i64 0, .int .i64 0, .int .i64 0, .slice none 0 0] 29)) w1 := BP.out.trans (Below.mono hb (Nat.le_trans hz BP.out.size))
  have hzn : w.heap.size + 1 + 1 ≤ w1.heap.size := Nat.le_trans hz hq.size
  replace B := lF B hq hzn
  replace XM := lF XM hq hzn
  replace lM := Nat.lt_of_lt_of_le lM hzn
  replace XR := lF XR hq hzn
  replace lR := Nat.lt_of_lt_of_le lR hzn
  clear hq BP hz
  have hz : w1.heap.size ≤ w1.heap.size := Nat.le_refl _
  clear hb
  cases hq : memB L (ws, yg, tp, od, cd)
  · obtain ⟨x0, y0, z0, x1, y1, z1, x2, x3, x4, x5, y5, z5, x6, y6, z6, x7, x8, x9, y9, z9, x10, x11, x12, y12, z12, rfl⟩ := hno hq
    clear hno hyes
    obtain ⟨kM0, kM1, kM2, kM3, kM4⟩ := bk5 (XM.out w1 bR)
    obtain ⟨kR0, kR1, kR2, kR3, kR4⟩ := bk5 (XR.out w1 bR)
    go_upto_region 2 with fail
    clear kM0 kM1 kM2 kM3 kM4 kR0 kR1 kR2 kR3 kR4
    have BP : Hid (Below (w1.heap.size) w1 (w1.alloc (.cells #[.slice x0 y0 z0, .slice x1 y1 z1, .int .i64 x2, .int .i64 x3, .int .i64 x4, .slice x5 y5 z5, .slice x6 y6 z6, .int .i64 x7, .int .i64 x8, .slice x9 y9 z9, .int .i64 x10, .int .i64 x11, .slice x12 y12 z12] 65))) := (bR.alloc (by first | exact hz | (simp; done) | (simp; omega) | (have := hz; simp at this ⊢; omega)) _)
    replace B := lA B BP
    replace XM := lA XM BP
    replace lM := lL lM
    replace XR := lA XR BP
    replace lR := lL lR
    have XA : Hid (∀ y, Below (w1.heap.size + 1) (w1.alloc (.cells #[.slice x0 y0 z0, .slice x1 y1 z1, .int .i64 x2, .int .i64 x3, .int .i64 x4, .slice x5 y5 z5, .slice x6 y6 z6, .int .i64 x7, .int .i64 x8, .slice x9 y9 z9, .int .i64 x10, .int .i64 x11, .slice x12 y12 z12] 65)) y → y.heap[w1.heap.size]? = some (.cells #[.slice x0 y0 z0, .slice x1 y1 z1, .int .i64 x2, .int .i64 x3, .int .i64 x4, .slice x5 y5 z5, .slice x6 y6 z6, .int .i64 x7, .int .i64 x8, .slice x9 y9 z9, .int .i64 x10, .int .i64 x11, .slice x12 y12 z12] 65 (0, 0))) := fun y hy => (hy.block _ (by omega)).trans (boxN _ _ _ _ (by simp))
    have lA : w1.heap.size < w1.heap.size + 1 := by omega
    replace hz : w1.heap.size + 1 ≤ ((w1.alloc (.cells #[.slice x0 y0 z0, .slice x1 y1 z1, .int .i64 x2, .int .i64 x3, .int .i64 x4, .slice x5 y5 z5, .slice x6 y6 z6, .int .i64 x7, .int .i64 x8, .slice x9 y9 z9, .int .i64 x10, .int .i64 x11, .slice x12 y12 z12] 65))).heap.size := by simp
    clear BP
    generalize (w1.alloc (.cells #[.slice x0 y0 z0, .slice x1 y1 z1, .int .i64 x2, .int .i64 x3, .int .i64 x4, .slice x5 y5 z5, .slice x6 y6 z6, .int .i64 x7, .int .i64 x8, .slice x9 y9 z9, .int .i64 x10, .int .i64 x11, .slice x12 y12 z12] 65)) = w2 at B XM XR XA hz ⊢
    have hzn : w1.heap.size + 1 ≤ w2.heap.size := Nat.le_trans hz (Below.size (Below.refl (w1.heap.size + 1) w2))
    replace B := lF B (Below.refl (w1.heap.size + 1) w2) hzn
    replace XM := lF XM (Below.refl (w1.heap.size + 1) w2) hzn
    replace lM := Nat.lt_of_lt_of_le lM hzn
    replace XR := lF XR (Below.refl (w1.heap.size + 1) w2) hzn
    replace lR := Nat.lt_of_lt_of_le lR hzn
    replace XA := lF XA (Below.refl (w1.heap.size + 1) w2) hzn
    replace lA := Nat.lt_of_lt_of_le lA hzn
    clear hz
    have hz : w2.heap.size ≤ w2.heap.size := Nat.le_refl _
    obtain ⟨kM0, kM1, kM2, kM3, kM4⟩ := bk5 (XM.out w2 bR)
    obtain ⟨kR0, kR1, kR2, kR3, kR4⟩ := bk5 (XR.out w2 bR)
    obtain ⟨qkR0, qkR1, qkR2, qkR3, qkR4⟩ := bq5 (XR.out w2 bR)
    obtain ⟨kA0, kA1, kA2, kA3, kA4, kA5, kA6, kA7, kA8, kA9, kA10, kA11, kA12⟩ := bk13 (XA.out w2 bR)
    go_wp2_with fail
    refine bodyPost_ret (v := .tuple #[.agg #[.slice none 0 0, .int .i64 0, .int .i64 0, .int .i64 0, .slice none 0 0], .int .i64 0]) ?_ rfl ?_
    · simp [results, Tryz.results11, go_sem, *]
    · rw [makR_no hq]
      exact ansM_zero _ (by (repeat (refine Below.setCell ?_ (by first | omega | (simp <;> omega)) _)); exact B.out _ bR)
  have hm := hq
  have hB0 := (memB_ok hq).1
  have HB0 : Hid (Bnd L (ws, yg, tp, od, cd)) := hB0
  obtain ⟨wb, wo, yn, tn, on, ta, tc, rfl, rfl, rfl, rfl, rfl, hrow⟩ := hyes hq
  obtain ⟨k0, k1, k2, k3, k4, _⟩ := hB0
  have OK : Hid (clsOk L = true) := k0
  simp only [WS.out] at k1 k2 k3 k4
  have m1 : tn ≤ yn := by omega
  have m2 : yn ≤ on := by omega
  have m3 : on ≤ wl := by omega
  have m4 : wl ≤ 200 := by omega
  have HM : Hid (memB L (ws, (yn : Int), (tn : Int), (on : Int), cd) = true) := hq
  have TL0 : (thT L (ws, (yn : Int), (tn : Int), (on : Int), cd)).length ≤ wl := by have := thT_len HB0.out; simp only [WS.out] at this; exact this
  have TOK0 : Hid (∀ t ∈ thT L (ws, (yn : Int), (tn : Int), (on : Int), cd), TOk L (ws, (yn : Int), (tn : Int), (on : Int), cd) t) := (thT_ok HB0.out).1
  have INC0 : Hid (Inc (thT L (ws, (yn : Int), (tn : Int), (on : Int), cd))) := (thT_ok HB0.out).2.inc
  obtain ⟨T, hT⟩ : ∃ T, thT L (ws, (yn : Int), (tn : Int), (on : Int), cd) = T := ⟨_, rfl⟩
  have HT : Hid (thT L (ws, (yn : Int), (tn : Int), (on : Int), cd) = T) := hT
  rw [hT] at hrow TL0 TOK0 INC0
  rw [hT]
  obtain ⟨tl, htl⟩ : ∃ tl, T.length = tl := ⟨_, rfl⟩
  have TLE : Hid (T.length = tl) := htl
  rw [htl] at hrow TL0
  rw [htl]
  obtain ⟨ou, hou⟩ : ∃ ou, on - yn = ou := ⟨_, rfl⟩
  have OUE : Hid (on - yn = ou) := hou
  rw [hou]
  have ROW0 : Hid (ThRow (fun b => w.heap.size + 1 + 1 ≤ b ∧ b < w1.heap.size) w1 (.slice ta tl tc) T) := ThRow.mono hrow (fun b hb hl => ⟨by simpa using hb, hl⟩)
  clear hno hyes hrow k0 k1 k2 k3 k4 hyg hq hT htl hou
  have RW : Hid (∀ y, Below (w1.heap.size) w1 y → ThRow (fun b => w.heap.size + 1 + 1 ≤ b ∧ b < w1.heap.size) y (.slice ta tl tc) T) := fun y hy => ROW0.out.later hy
  have m7 : 14 ≤ wl ∧ wl ≤ 500 := by have q1 := HB0.out.od; have q2 := HB0.out.yg; simp only [WS.out] at q1 q2; omega
  obtain ⟨kM0, kM1, kM2, kM3, kM4⟩ := bk5 (XM.out w1 bR)
  obtain ⟨kR0, kR1, kR2, kR3, kR4⟩ := bk5 (XR.out w1 bR)
  go_upto_region 2 with fail
  clear kM0 kM1 kM2 kM3 kM4 kR0 kR1 kR2 kR3 kR4
  have BP : Hid (Below (w1.heap.size) w1 (w1.alloc (.cells #[.slice ca cn cc, .slice (some ⟨wb, wo, none⟩) wl wc, .int .i64 (yn : Nat), .int .i64 (tn : Nat), .int .i64 (on : Nat), .slice da dl dc, .slice (some ⟨wb, wo, none⟩) yn wc, .int .i64 0, .int .i64 (tn : Nat), .slice (some ⟨wb, wo + yn, none⟩) (wl - yn) (wc - yn), .int .i64 (yn : Nat), .int .i64 (ou : Nat), .slice ta tl tc] 65))) := (bR.alloc (by first | exact hz | (simp; done) | (simp; omega) | (have := hz; simp at this ⊢; omega)) _)
  replace B := lA B BP
  replace RW := lA RW BP
  replace XM := lA XM BP
  replace lM := lL lM
  replace XR := lA XR BP
  replace lR := lL lR
  have XA : Hid (∀ y, Below (w1.heap.size + 1) (w1.alloc (.cells #[.slice ca cn cc, .slice (some ⟨wb, wo, none⟩) wl wc, .int .i64 (yn : Nat), .int .i64 (tn : Nat), .int .i64 (on : Nat), .slice da dl dc, .slice (some ⟨wb, wo, none⟩) yn wc, .int .i64 0, .int .i64 (tn : Nat), .slice (some ⟨wb, wo + yn, none⟩) (wl - yn) (wc - yn), .int .i64 (yn : Nat), .int .i64 (ou : Nat), .slice ta tl tc] 65)) y → y.heap[w1.heap.size]? = some (.cells #[.slice ca cn cc, .slice (some ⟨wb, wo, none⟩) wl wc, .int .i64 (yn : Nat), .int .i64 (tn : Nat), .int .i64 (on : Nat), .slice da dl dc, .slice (some ⟨wb, wo, none⟩) yn wc, .int .i64 0, .int .i64 (tn : Nat), .slice (some ⟨wb, wo + yn, none⟩) (wl - yn) (wc - yn), .int .i64 (yn : Nat), .int .i64 (ou : Nat), .slice ta tl tc] 65 (0, 0))) := fun y hy => (hy.block _ (by omega)).trans (boxN _ _ _ _ (by simp))
  have lA : w1.heap.size < w1.heap.size + 1 := by omega
  replace hz : w1.heap.size + 1 ≤ ((w1.alloc (.cells #[.slice ca cn cc, .slice (some ⟨wb, wo, none⟩) wl wc, .int .i64 (yn : Nat), .int .i64 (tn : Nat), .int .i64 (on : Nat), .slice da dl dc, .slice (some ⟨wb, wo, none⟩) yn wc, .int .i64 0, .int .i64 (tn : Nat), .slice (some ⟨wb, wo + yn, none⟩) (wl - yn) (wc - yn), .int .i64 (yn : Nat), .int .i64 (ou : Nat), .slice ta tl tc] 65))).heap.size := by simp
  clear BP
  generalize (w1.alloc (.cells #[.slice ca cn cc, .slice (some ⟨wb, wo, none⟩) wl wc, .int .i64 (yn : Nat), .int .i64 (tn : Nat), .int .i64 (on : Nat), .slice da dl dc, .slice (some ⟨wb, wo, none⟩) yn wc, .int .i64 0, .int .i64 (tn : Nat), .slice (some ⟨wb, wo + yn, none⟩) (wl - yn) (wc - yn), .int .i64 (yn : Nat), .int .i64 (ou : Nat), .slice ta tl tc] 65)) = w2 at B RW XM XR XA hz ⊢
  have hzn : w1.heap.size + 1 ≤ w2.heap.size := Nat.le_trans hz (Below.size (Below.refl (w1.heap.size + 1) w2))
  replace B := lF B (Below.refl (w1.heap.size + 1) w2) hzn
  replace RW := lF RW (Below.refl (w1.heap.size + 1) w2) hzn
  replace XM := lF XM (Below.refl (w1.heap.size + 1) w2) hzn
  replace lM := Nat.lt_of_lt_of_le lM hzn
  replace XR := lF XR (Below.refl (w1.heap.size + 1) w2) hzn
  replace lR := Nat.lt_of_lt_of_le lR hzn
  replace XA := lF XA (Below.refl (w1.heap.size + 1) w2) hzn
  replace lA := Nat.lt_of_lt_of_le lA hzn
  clear hz
  have hz : w2.heap.size ≤ w2.heap.size := Nat.le_refl _
  obtain ⟨kM0, kM1, kM2, kM3, kM4⟩ := bk5 (XM.out w2 bR)
  obtain ⟨kR0, kR1, kR2, kR3, kR4⟩ := bk5 (XR.out w2 bR)
  obtain ⟨kA0, kA1, kA2, kA3, kA4, kA5, kA6, kA7, kA8, kA9, kA10, kA11, kA12⟩ := bk13 (XA.out w2 bR)
  go_wp2_with fail
  clear kM0 kM1 kM2 kM3 kM4 kR0 kR1 kR2 kR3 kR4 kA0 kA1 kA2 kA3 kA4 kA5 kA6 kA7 kA8 kA9 kA10 kA11 kA12
  have BP : Hid (Below (w2.heap.size) w2 w2) := bR
  refine (thingOfImpl _ _ _ v k L _ (H.out.later (B.out _ BP.out)) OK.out).mono ?_
  rintro e w3 ⟨hn9, hy9, hb⟩
  have hq : Below (w2.heap.size) w2 w3 := BP.out.trans (Below.mono hb (Nat.le_trans hz BP.out.size))
  have hzn : w2.heap.size ≤ w3.heap.size := Nat.le_trans hz hq.size
  replace B := lF B hq hzn
  replace RW := lF RW hq hzn
  replace XM := lF XM hq hzn
  replace lM := Nat.lt_of_lt_of_le lM hzn
  replace XR := lF XR hq hzn
  replace lR := Nat.lt_of_lt_of_le lR hzn
  replace XA := lF XA hq hzn
  replace lA := Nat.lt_of_lt_of_le lA hzn
  clear hq BP hz
  have hz : w3.heap.size ≤ w3.heap.size := Nat.le_refl _
  clear hb
  cases hT : isT L v k
  · obtain ⟨t0, t1, t2, t3, t4, rfl⟩ := hn9 (by rw [hT]; rfl)
    clear hn9 hy9
    obtain ⟨kM0, kM1, kM2, kM3, kM4⟩ := bk5 (XM.out w3 bR)
    obtain ⟨kR0, kR1, kR2, kR3, kR4⟩ := bk5 (XR.out w3 bR)
    obtain ⟨kA0, kA1, kA2, kA3, kA4, kA5, kA6, kA7, kA8, kA9, kA10, kA11, kA12⟩ := bk13 (XA.out w3 bR)
    go_upto_region 5 with fail
    clear kM0 kM1 kM2 kM3 kM4 kR0 kR1 kR2 kR3 kR4 kA0 kA1 kA2 kA3 kA4 kA5 kA6 kA7 kA8 kA9 kA10 kA11 kA12
    have BP : Hid (Below (w3.heap.size) w3 (w3.alloc (.cells #[.int .i64 t0, .int .i64 t1, .slice t2 t3 t4] 69))) := (bR.alloc (by first | exact hz | (simp; done) | (simp; omega) | (have := hz; simp at this ⊢; omega)) _)
    replace B := Proofs.YtjbmcdekhhbiaaaGreat.lA B BP
    replace RW := Proofs.YtjbmcdekhhbiaaaGreat.lA RW BP
    replace XM := Proofs.YtjbmcdekhhbiaaaGreat.lA XM BP
    replace lM := lL lM
    replace XR := Proofs.YtjbmcdekhhbiaaaGreat.lA XR BP
    replace lR := lL lR
    replace XA := Proofs.YtjbmcdekhhbiaaaGreat.lA XA BP
    replace lA := lL lA
    have XT : Hid (∀ y, Below (w3.heap.size + 1) (w3.alloc (.cells #[.int .i64 t0, .int .i64 t1, .slice t2 t3 t4] 69)) y → y.heap[w3.heap.size]? = some (.cells #[.int .i64 t0, .int .i64 t1, .slice t2 t3 t4] 69 (0, 0))) := fun y hy => (hy.block _ (by omega)).trans (boxN _ _ _ _ (by simp))
    have lT : w3.heap.size < w3.heap.size + 1 := by omega
    replace hz : w3.heap.size + 1 ≤ ((w3.alloc (.cells #[.int .i64 t0, .int .i64 t1, .slice t2 t3 t4] 69))).heap.size := by simp
    clear BP
    generalize (w3.alloc (.cells #[.int .i64 t0, .int .i64 t1, .slice t2 t3 t4] 69)) = w4 at B RW XM XR XA XT hz ⊢
    have hzn : w3.heap.size + 1 ≤ w4.heap.size := Nat.le_trans hz (Below.size (Below.refl (w3.heap.size + 1) w4))
    replace B := lF B (Below.refl (w3.heap.size + 1) w4) hzn
    replace RW := lF RW (Below.refl (w3.heap.size + 1) w4) hzn
    replace XM := lF XM (Below.refl (w3.heap.size + 1) w4) hzn
    replace lM := Nat.lt_of_lt_of_le lM hzn
    replace XR := lF XR (Below.refl (w3.heap.size + 1) w4) hzn
    replace lR := Nat.lt_of_lt_of_le lR hzn
    replace XA := lF XA (Below.refl (w3.heap.size + 1) w4) hzn
    replace lA := Nat.lt_of_lt_of_le lA hzn
    replace XT := lF XT (Below.refl (w3.heap.size + 1) w4) hzn
    replace lT := Nat.lt_of_lt_of_le lT hzn
    clear hz
    have hz : w4.heap.size ≤ w4.heap.size := Nat.le_refl _
    obtain ⟨kM0, kM1, kM2, kM3, kM4⟩ := bk5 (XM.out w4 bR)
    obtain ⟨kR0, kR1, kR2, kR3, kR4⟩ := bk5 (XR.out w4 bR)
    obtain ⟨qkR0, qkR1, qkR2, qkR3, qkR4⟩ := bq5 (XR.out w4 bR)
    obtain ⟨kA0, kA1, kA2, kA3, kA4, kA5, kA6, kA7, kA8, kA9, kA10, kA11, kA12⟩ := bk13 (XA.out w4 bR)
    obtain ⟨kT0, kT1, kT2⟩ := bk3 (XT.out w4 bR)
    go_wp2_with fail
    refine bodyPost_ret (v := .tuple #[.agg #[.slice none 0 0, .int .i64 0, .int .i64 0, .int .i64 0, .slice none 0 0], .int .i64 0]) ?_ rfl ?_
    · simp [results, Tryz.results11, go_sem, *]
    · rw [makR_not hT]
      exact ansM_zero _ (by (repeat (refine Below.setCell ?_ (by first | omega | (simp <;> omega)) _)); exact B.out _ bR)
  obtain ⟨ya, yc, rfl, hrw⟩ := hy9 v (typ L v k) (by rw [hT]; rfl)
  clear hn9 hy9 hrw
  obtain ⟨yl, hyl⟩ : ∃ yl, (typ L v k).length = yl := ⟨_, rfl⟩
  have hyl2 : yl ≤ 100 := by rw [← hyl]; have := typ_len OK.out hT; omega
  have hva : v = -1 ∨ v = -2 ∨ 0 ≤ v := by
    by_cases ha : v = -1 ∨ v = -2
    · rcases ha with h | h <;> simp [h]
    · rw [isT_cls' ha] at hT; have := inI_iff.1 hT; omega
  have WN : Hid (wnt L v k = hdN v + yl) := by show _ = _; rw [wnt_yes hT, hyl]
  have YK : v < 0 → (yl : Int) = k := fun h => by
    have ha : v = -1 ∨ v = -2 := by omega
    rw [← hyl, typ_arr' ha]
    rw [isT_arr' ha] at hT
    have := inI_iff.1 hT
    omega
  rw [hyl]
  have MK : Hid (makR L (ws, (yn : Int), (tn : Int), (on : Int), cd) v k ol = tryM (ws, (yn : Int), (tn : Int), (on : Int), cd) v (yl : Int) (hdN v + yl) ol) := by
    show _ = _
    rw [makR_yes HM.out hT, WN.out]
    exact (tryM_n YK).symm
  obtain ⟨⟨⟨rs, z1, z2, z3, rc⟩, ra⟩, hr⟩ : ∃ r, tryM (ws, (yn : Int), (tn : Int), (on : Int), cd) v (yl : Int) (hdN v + yl) ol = r := ⟨_, rfl⟩
  have MR : Hid (makR L (ws, (yn : Int), (tn : Int), (on : Int), cd) v k ol = ((rs, z1, z2, z3, rc), ra)) := MK.out.trans hr
  clear MK YK WN hyl hT
  obtain ⟨kM0, kM1, kM2, kM3, kM4⟩ := bk5 (XM.out w3 bR)
  obtain ⟨kR0, kR1, kR2, kR3, kR4⟩ := bk5 (XR.out w3 bR)
  obtain ⟨kA0, kA1, kA2, kA3, kA4, kA5, kA6, kA7, kA8, kA9, kA10, kA11, kA12⟩ := bk13 (XA.out w3 bR)
  go_upto_region 5 with fail
  clear kM0 kM1 kM2 kM3 kM4 kR0 kR1 kR2 kR3 kR4 kA0 kA1 kA2 kA3 kA4 kA5 kA6 kA7 kA8 kA9 kA10 kA11 kA12
  have BP : Hid (Below (w3.heap.size) w3 (w3.alloc (.cells #[.int .i64 0, .int .i64 v, .slice ya yl yc] 69))) := (bR.alloc (by first | exact hz | (simp; done) | (simp; omega) | (have := hz; simp at this ⊢; omega)) _)
  replace B := Proofs.YtjbmcdekhhbiaaaGreat.lA B BP
  replace RW := Proofs.YtjbmcdekhhbiaaaGreat.lA RW BP
  replace XM := Proofs.YtjbmcdekhhbiaaaGreat.lA XM BP
  replace lM := lL lM
  replace XR := Proofs.YtjbmcdekhhbiaaaGreat.lA XR BP
  replace lR := lL lR
  replace XA := Proofs.YtjbmcdekhhbiaaaGreat.lA XA BP
  replace lA := lL lA
  have XT : Hid (∀ y, Below (w3.heap.size + 1) (w3.alloc (.cells #[.int .i64 0, .int .i64 v, .slice ya yl yc] 69)) y → y.heap[w3.heap.size]? = some (.cells #[.int .i64 0, .int .i64 v, .slice ya yl yc] 69 (0, 0))) := fun y hy => (hy.block _ (by omega)).trans (boxN _ _ _ _ (by simp))
  have lT : w3.heap.size < w3.heap.size + 1 := by omega
  replace hz : w3.heap.size + 1 ≤ ((w3.alloc (.cells #[.int .i64 0, .int .i64 v, .slice ya yl yc] 69))).heap.size := by simp
  clear BP
  generalize (w3.alloc (.cells #[.int .i64 0, .int .i64 v, .slice ya yl yc] 69)) = w4 at B RW XM XR XA XT hz ⊢
  have hzn : w3.heap.size + 1 ≤ w4.heap.size := Nat.le_trans hz (Below.size (Below.refl (w3.heap.size + 1) w4))
  replace B := lF B (Below.refl (w3.heap.size + 1) w4) hzn
  replace RW := lF RW (Below.refl (w3.heap.size + 1) w4) hzn
  replace XM := lF XM (Below.refl (w3.heap.size + 1) w4) hzn
  replace lM := Nat.lt_of_lt_of_le lM hzn
  replace XR := lF XR (Below.refl (w3.heap.size + 1) w4) hzn
  replace lR := Nat.lt_of_lt_of_le lR hzn
  replace XA := lF XA (Below.refl (w3.heap.size + 1) w4) hzn
  replace lA := Nat.lt_of_lt_of_le lA hzn
  replace XT := lF XT (Below.refl (w3.heap.size + 1) w4) hzn
  replace lT := Nat.lt_of_lt_of_le lT hzn
  clear hz
  have hz : w4.heap.size ≤ w4.heap.size := Nat.le_refl _
  obtain ⟨kM0, kM1, kM2, kM3, kM4⟩ := bk5 (XM.out w4 bR)
  obtain ⟨kR0, kR1, kR2, kR3, kR4⟩ := bk5 (XR.out w4 bR)
  obtain ⟨kA0, kA1, kA2, kA3, kA4, kA5, kA6, kA7, kA8, kA9, kA10, kA11, kA12⟩ := bk13 (XA.out w4 bR)
  obtain ⟨kT0, kT1, kT2⟩ := bk3 (XT.out w4 bR)
  go_wp2_with fail
  clear kM0 kM1 kM2 kM3 kM4 kR0 kR1 kR2 kR3 kR4 kA0 kA1 kA2 kA3 kA4 kA5 kA6 kA7 kA8 kA9 kA10 kA11 kA12 kT0 kT1 kT2
  have BP : Hid (Below (w4.heap.size) w4 w4) := bR
  refine (withImpl ca cn cc wb wo wl wc yn tn on da dl dc wc (wl - yn) (wc - yn) ou ta tl tc v ya yl yc ol ws cd _ (HW.out.later (B.out _ BP.out)) (HC.out.later (B.out _ BP.out)) m7.2 m7.1 hd hyl2 hva m1 m2 m3 (by omega) rfl (by omega) OUE.out.symm).mono ?_
  rw [hr]
  rintro e w5 ⟨a, n, ac, b, m, bc, rfl, hn, hmm, hA, hC, ha, hb0, hab, hb⟩
  have LA : Hid (∀ x, a = some x → 0 < n → w4.heap.size ≤ x.block) := ha
  have LB : Hid (∀ x, b = some x → 0 < m → w4.heap.size ≤ x.block) := hb0
  have HA5 : Hid (Wri w5 a n (fun j => rs.getD j 0)) := hA
  have HC5 : Hid (WriB w5 b m (fun j => rc.getD j false)) := hC
  have AB : Hid (∀ x y, a = some x → b = some y → 0 < n → 0 < m → x.block ≠ y.block) := hab
  have LN : Hid (rs.length = n) := hn
  have LM : Hid (rc.length = m) := hmm
  have lR4 : w.heap.size + 1 < w4.heap.size := lR
  clear hA hC ha hb0 hab hn hmm hr
  have hq : Below (w4.heap.size) w4 w5 := BP.out.trans (Below.mono hb (Nat.le_trans hz BP.out.size))
  have hzn : w4.heap.size ≤ w5.heap.size := Nat.le_trans hz hq.size
  replace B := lF B hq hzn
  replace RW := lF RW hq hzn
  replace XM := lF XM hq hzn
  replace lM := Nat.lt_of_lt_of_le lM hzn
  replace XR := lF XR hq hzn
  replace lR := Nat.lt_of_lt_of_le lR hzn
  replace XA := lF XA hq hzn
  replace lA := Nat.lt_of_lt_of_le lA hzn
  replace XT := lF XT hq hzn
  replace lT := Nat.lt_of_lt_of_le lT hzn
  clear hq BP hz
  have hz : w5.heap.size ≤ w5.heap.size := Nat.le_refl _
  clear hb
  clear XA lA XT lT
  obtain ⟨kM0, kM1, kM2, kM3, kM4⟩ := bk5 (XM.out w5 bR)
  obtain ⟨kR0, kR1, kR2, kR3, kR4⟩ := bk5 (XR.out w5 bR)
  obtain ⟨qkR0, qkR1, qkR2, qkR3, qkR4⟩ := bq5 (XR.out w5 bR)
  go_wp2_with fail
  refine bodyPost_ret (v := .tuple #[.agg #[.slice a n ac, .int .i64 z1, .int .i64 z2, .int .i64 z3, .slice b m bc], .int .i64 ra]) ?_ rfl ?_
  · simp [results, Tryz.results11, go_sem, *]
  · clear kM0 kM1 kM2 kM3 kM4 kR0 kR1 kR2 kR3 kR4 qkR0 qkR1 qkR2 qkR3 qkR4
    rw [MR.out]
    show AnsM w (rs, z1, z2, z3, rc) (.int .i64 ra) _ _
    refine ⟨a, n, ac, b, m, bc, rfl, LN.out, LM.out, ?_, ?_, ?_, ?_, AB.out, ?_⟩
    · exact HA5.out.keep (chg5 w5 (w.heap.size + 1) (.slice a n ac) (.int .i64 z1) (.int .i64 z2) (.int .i64 z3) (.slice b m bc)) (fun x e h0 hd => by have h8 : x.block = w.heap.size + 1 := hd; have := LA.out x e h0; omega)
    · exact HC5.out.keep (chg5 w5 (w.heap.size + 1) (.slice a n ac) (.int .i64 z1) (.int .i64 z2) (.int .i64 z3) (.slice b m bc)) (fun x e h0 hd => by have h8 : x.block = w.heap.size + 1 := hd; have := LB.out x e h0; omega)
    · exact fun x e h0 => by have := LA.out x e h0; omega
    · exact fun x e h0 => by have := LB.out x e h0; omega
    · (repeat (refine Below.setCell ?_ (by first | omega | (simp <;> omega)) _)); exact B.out _ bR

end Go.Proofs.YtjbmcdekhhbiaaaGreat
