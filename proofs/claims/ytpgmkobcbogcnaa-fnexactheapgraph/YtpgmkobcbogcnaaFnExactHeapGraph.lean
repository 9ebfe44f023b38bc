/-
  At every list of things and of roots HeapGraph of the program answers as HeapGraph of the specification, changes no argument, and its answer owns its memory: the law FnExactHeapGraph returns true; no condition.
-/
import Derived.Test.YtpgmkobcbogcnaaExgL
import Derived.Test.YtpgmkobcbogcnaaRdCls
namespace Go.Proofs.Ytpgmkobcbogcnaa.fnExactHeapGraph
open Go.ChangeShapes Go.WideShapes Go.ChangeAt Go.RowKit
set_option linter.unusedVariables false

set_option maxRecDepth 100000 in
set_option maxHeartbeats 8000000 in
theorem walk (a : Option Addr) (len cap : Nat) (b : Option Addr) (m d : Nat) (X : List Ob) (r : List Vl) (w : World) {D : Nat → Prop} (h : SlAt obR D w a len X) (g : SlAt vaR D w b m r) :
    Calls Try.prog 8 #[.slice a len cap, .slice b m d] w fun e w' => e = .returned (.bool true) ∧ Below w.heap.size w w' := by
  have H : Hid (SlAt obR D w a len X) := h
  have G : Hid (SlAt vaR D w b m r) := g
  clear h g
  go_enter Try.func8, Try.ntmps8
  go_wp2_with fail
  have B : Hid (Below w.heap.size w w) := Below.refl _ _
  refine (szLObj _ _ _ X _ _ H.out (by omega) (by omega)).mono ?_
  rintro e w0 ⟨q, rfl, q0, q1, qm, hb⟩
  replace B : Hid (Below w.heap.size w w0) := B.out.trans (hb.mono B.out.size)
  clear hb
  have M0 : Hid (0 ≤ q → (Rep.list obR).small X) := qm
  clear qm
  by_cases hq : q < 0
  · go_wp2_with fail
    go_ret
    exact ⟨rfl, B.out⟩
  go_wp2_with fail
  refine (szLVal _ _ _ r _ _ (G.out.later B.out) (by omega) (by omega)).mono ?_
  rintro e w1 ⟨t, rfl, t0, t1, tm, hb⟩
  replace B : Hid (Below w.heap.size w w1) := B.out.trans (hb.mono B.out.size)
  clear hb
  have M1 : Hid (0 ≤ t → (Rep.list vaR).small r) := tm
  clear tm
  by_cases ht : t < 0
  · go_wp2_with fail
    go_ret
    exact ⟨rfl, B.out⟩
  have SX : Hid ((Rep.list obR).small X) := M0.out (by omega)
  have SR : Hid ((Rep.list vaR).small r) := M1.out (by omega)
  clear M0 M1
  go_wp2_with fail
  refine (toLObj _ _ _ X _ (H.out.later B.out) SX.out).mono ?_
  rintro e w2 ⟨ta, tc, rfl, hS, hb⟩
  replace B : Hid (Below w.heap.size w w2) := B.out.trans (hb.mono B.out.size)
  have T : Hid (SlAt obR _ w2 ta len X) := hS
  clear hS hb
  go_wp2_with fail
  refine (toLVal _ _ _ r _ (G.out.later B.out) SR.out).mono ?_
  rintro e w3 ⟨ua, uc, rfl, hS, hb⟩
  replace B : Hid (Below w.heap.size w w3) := B.out.trans (hb.mono B.out.size)
  replace T : Hid (SlAt obR _ w3 ta len X) := T.out.later hb
  have U : Hid (SlAt vaR _ w3 ua m r) := hS
  clear hS hb
  go_wp2_with fail
  refine (graphSpec _ _ _ _ _ _ X r _ T.out U.out SX.out SR.out).mono ?_
  intro e w4 hP
  obtain ⟨hb, hP⟩ := hP
  replace B : Hid (Below w.heap.size w w4) := B.out.trans (hb.mono B.out.size)
  clear hb T U
  have W4 : Hid (w.heap.size ≤ w4.heap.size) := B.out.size
  have BS : Hid (Below w4.heap.size w4 w4) := Below.refl _ _
  cases ok : heapB X r
  · have hP2 : ∃ a c b d, e = .returned (.tuple #[.slice a 0 c, .slice b 0 d]) := by
      rcases hP with ⟨_, h⟩ | ⟨h, _⟩
      · exact h
      · rw [ok] at h; cases h
    obtain ⟨sa, sc, sb, sd, rfl⟩ := hP2
    have OK : Hid (heapB X r = false) := ok
    clear hP ok
    go_wp2_with fail
    refine (toLObjF _ _ _ X _ (H.out.later B.out) SX.out).mono ?_
    rintro e w5 ⟨⟨ta, tc, rfl, hS, hb⟩, hfz⟩
    replace B : Hid (Below w.heap.size w w5) := B.out.trans (hb.mono B.out.size)
    replace BS : Hid (Below w4.heap.size w4 w5) := BS.out.trans (hb.mono BS.out.size)
    have T : Hid (SlAt obR (fun b => w4.heap.size ≤ b ∧ b < w5.heap.size) w5 ta len X) := hS.mono (fun b hb1 hb2 => ⟨hb1, hb2⟩)
    have F5 : Hid (FZ w4 w5) := hfz
    have s5 : w4.heap.size ≤ w5.heap.size := hb.size
    clear hS hb hfz
    go_wp2_with fail
    refine (toLValF _ _ _ r _ (G.out.later B.out) SR.out).mono ?_
    rintro e w6 ⟨⟨ua, uc, rfl, hS, hb⟩, hfz⟩
    replace B : Hid (Below w.heap.size w w6) := B.out.trans (hb.mono B.out.size)
    replace BS : Hid (Below w4.heap.size w4 w6) := BS.out.trans (hb.mono BS.out.size)
    have s6 : w5.heap.size ≤ w6.heap.size := hb.size
    replace T : Hid (SlAt obR (fun b => w4.heap.size ≤ b ∧ b < w6.heap.size) w6 ta len X) := (T.out.later hb).mono (fun b hb1 _ => ⟨hb1.1, by omega⟩)
    have U : Hid (SlAt vaR (fun b => w4.heap.size ≤ b ∧ b < w6.heap.size) w6 ua m r) := hS.mono (fun b hb1 hb2 => ⟨by omega, hb2⟩)
    have TH : Hid (Thw (fun b => w4.heap.size ≤ b ∧ b < w6.heap.size) w6) := fun b o hd => (hfz _).trans ((F5.out _).trans (frozen_past _ _ _ hd.1))
    clear hS hb hfz F5
    have BC : Hid (Below w6.heap.size w6 w6) := Below.refl _ _
    go_wp2_with fail
    refine (graphImpl _ _ _ _ _ _ X r _ (T.out) (U.out) SX.out SR.out).mono ?_
    intro e w7 hP
    obtain ⟨hb, hP⟩ := hP
    replace B : Hid (Below w.heap.size w w7) := B.out.trans (hb.mono B.out.size)
    replace BS : Hid (Below w4.heap.size w4 w7) := BS.out.trans (hb.mono BS.out.size)
    replace BC : Hid (Below w6.heap.size w6 w7) := BC.out.trans (hb.mono BC.out.size)
    obtain rfl : e = .returned (.tuple #[.slice none 0 0, .slice none 0 0]) := by
      rcases hP with ⟨_, h⟩ | ⟨h, _⟩
      · exact h
      · rw [OK.out] at h; cases h
    clear hP hb
    go_wp2_with fail
    refine (eqLObj _ _ _ _ _ _ [] _ (E := fun _ => True) (D := fun _ => True) (sl_zero _ _) (sl_zero _ _)).mono ?_
    rintro e w8 ⟨rfl, hb⟩
    replace B : Hid (Below w.heap.size w w8) := B.out.trans (hb.mono B.out.size)
    replace BS : Hid (Below w4.heap.size w4 w8) := BS.out.trans (hb.mono BS.out.size)
    replace BC : Hid (Below w6.heap.size w6 w8) := BC.out.trans (hb.mono BC.out.size)
    clear hb
    go_wp2_with fail
    refine (eqLVal _ _ _ _ _ _ [] _ (E := fun _ => True) (D := fun _ => True) (sl_zero _ _) (sl_zero _ _)).mono ?_
    rintro e w9 ⟨rfl, hb⟩
    replace B : Hid (Below w.heap.size w w9) := B.out.trans (hb.mono B.out.size)
    replace BS : Hid (Below w4.heap.size w4 w9) := BS.out.trans (hb.mono BS.out.size)
    replace BC : Hid (Below w6.heap.size w6 w9) := BC.out.trans (hb.mono BC.out.size)
    clear hb
    go_wp2_with fail
    refine (toLObj _ _ _ X _ (H.out.later B.out) SX.out).mono ?_
    rintro e w10 ⟨ya, yc, rfl, hS, hb⟩
    replace B : Hid (Below w.heap.size w w10) := B.out.trans (hb.mono B.out.size)
    replace BS : Hid (Below w4.heap.size w4 w10) := BS.out.trans (hb.mono BS.out.size)
    replace BC : Hid (Below w6.heap.size w6 w10) := BC.out.trans (hb.mono BC.out.size)
    have Y : Hid (SlAt obR _ w10 ya len X) := hS
    clear hS hb
    go_wp2_with fail
    refine (eqLObj _ _ _ _ _ _ X _ (T.out.later BC.out) Y.out).mono ?_
    rintro e w11 ⟨rfl, hb⟩
    replace B : Hid (Below w.heap.size w w11) := B.out.trans (hb.mono B.out.size)
    replace BS : Hid (Below w4.heap.size w4 w11) := BS.out.trans (hb.mono BS.out.size)
    replace BC : Hid (Below w6.heap.size w6 w11) := BC.out.trans (hb.mono BC.out.size)
    clear hb
    clear Y
    go_wp2_with fail
    refine (toLVal _ _ _ r _ (G.out.later B.out) SR.out).mono ?_
    rintro e w12 ⟨ya, yc, rfl, hS, hb⟩
    replace B : Hid (Below w.heap.size w w12) := B.out.trans (hb.mono B.out.size)
    replace BS : Hid (Below w4.heap.size w4 w12) := BS.out.trans (hb.mono BS.out.size)
    replace BC : Hid (Below w6.heap.size w6 w12) := BC.out.trans (hb.mono BC.out.size)
    have Y : Hid (SlAt vaR _ w12 ya m r) := hS
    clear hS hb
    go_wp2_with fail
    refine (eqLVal _ _ _ _ _ _ r _ (U.out.later BC.out) Y.out).mono ?_
    rintro e w13 ⟨rfl, hb⟩
    replace B : Hid (Below w.heap.size w w13) := B.out.trans (hb.mono B.out.size)
    replace BS : Hid (Below w4.heap.size w4 w13) := BS.out.trans (hb.mono BS.out.size)
    replace BC : Hid (Below w6.heap.size w6 w13) := BC.out.trans (hb.mono BC.out.size)
    clear hb
    clear Y
    go_wp2_with fail
    have TC : Hid (Thw (fun b => w4.heap.size ≤ b ∧ b < w6.heap.size) w13) := fun b o hd => (BC.out.frozen (p := ⟨b, o, none⟩) hd.2).trans (TH.out b o hd)
    have P0 : Hid (SlP obR (fun b => w4.heap.size ≤ b ∧ b < w6.heap.size) w13 ta len) := SlP.of (T.out.later BC.out) SX.out
    have P1 : Hid (SlP vaR (fun b => w4.heap.size ≤ b ∧ b < w6.heap.size) w13 ua m) := SlP.of (U.out.later BC.out) SR.out
    have zc : w6.heap.size ≤ w13.heap.size := BC.out.size
    refine (markLObj _ _ _ _ _ P0.out TC.out (by omega) (by omega)).mono ?_
    rintro e w14 ⟨k0, rfl, ka, kb, hm⟩
    replace B : Hid (Below w.heap.size w w14) := B.out.trans (hm.chg.below B.out.size (fun i hi => fun hd => by have := hd.1; have := W4.out; omega))
    replace BS : Hid (Below w4.heap.size w4 w14) := BS.out.trans (hm.chg.below BS.out.size (fun i hi => fun hd => by have := hd.1; omega))
    have M1 : Hid (Mkd (fun b => w4.heap.size ≤ b ∧ b < w6.heap.size) w13 w14) := hm
    clear hm BC
    go_wp2_with fail
    refine (markLVal _ _ _ _ _ (P1.out.sty sts_Val M1.out.sty) (TC.out.mkd M1.out) (by omega) (by omega)).mono ?_
    rintro e w15 ⟨k1, rfl, kc, kd, hm⟩
    replace B : Hid (Below w.heap.size w w15) := B.out.trans (hm.chg.below B.out.size (fun i hi => fun hd => by have := hd.1; have := W4.out; omega))
    replace BS : Hid (Below w4.heap.size w4 w15) := BS.out.trans (hm.chg.below BS.out.size (fun i hi => fun hd => by have := hd.1; omega))
    clear hm M1 TC P0 P1 T U TH
    have hk1 : ¬ (k1 < 0) := by omega
    go_wp2_with fail
    refine (eqLObj _ _ _ _ _ _ [] _ (E := fun _ => True) (D := fun _ => True) (sl_zero _ _) (sl_zero _ _)).mono ?_
    rintro e w16 ⟨rfl, hb⟩
    replace B : Hid (Below w.heap.size w w16) := B.out.trans (hb.mono B.out.size)
    replace BS : Hid (Below w4.heap.size w4 w16) := BS.out.trans (hb.mono BS.out.size)
    clear hb
    go_wp2_with fail
    refine (eqLVal _ _ _ _ _ _ [] _ (E := fun _ => True) (D := fun _ => True) (sl_zero _ _) (sl_zero _ _)).mono ?_
    rintro e w17 ⟨rfl, hb⟩
    replace B : Hid (Below w.heap.size w w17) := B.out.trans (hb.mono B.out.size)
    replace BS : Hid (Below w4.heap.size w4 w17) := BS.out.trans (hb.mono BS.out.size)
    clear hb
    go_wp2_with fail
    refine (markNilO _ _).mono ?_
    rintro e wz ⟨rfl, rfl⟩
    go_wp2_with fail
    refine (markNilV _ _).mono ?_
    rintro e wz ⟨rfl, rfl⟩
    go_wp2_with fail
    refine (heldNilO _ _).mono ?_
    rintro e wz ⟨rfl, rfl⟩
    go_wp2_with fail
    refine (heldNilV _ _).mono ?_
    rintro e wz ⟨rfl, rfl⟩
    go_wp2_with fail
    refine (toLObj _ _ _ X _ (H.out.later B.out) SX.out).mono ?_
    rintro e w18 ⟨ta, tc, rfl, hS, hb⟩
    replace B : Hid (Below w.heap.size w w18) := B.out.trans (hb.mono B.out.size)
    replace BS : Hid (Below w4.heap.size w4 w18) := BS.out.trans (hb.mono BS.out.size)
    have T : Hid (SlAt obR _ w18 ta len X) := hS
    clear hS hb
    go_wp2_with fail
    refine (toLVal _ _ _ r _ (G.out.later B.out) SR.out).mono ?_
    rintro e w19 ⟨ua, uc, rfl, hS, hb⟩
    replace B : Hid (Below w.heap.size w w19) := B.out.trans (hb.mono B.out.size)
    replace BS : Hid (Below w4.heap.size w4 w19) := BS.out.trans (hb.mono BS.out.size)
    replace T : Hid (SlAt obR _ w19 ta len X) := T.out.later hb
    have U : Hid (SlAt vaR _ w19 ua m r) := hS
    clear hS hb
    go_wp2_with fail
    refine (graphImpl _ _ _ _ _ _ X r _ (T.out) (U.out) SX.out SR.out).mono ?_
    intro e w20 hP
    obtain ⟨hb, hP⟩ := hP
    replace B : Hid (Below w.heap.size w w20) := B.out.trans (hb.mono B.out.size)
    replace BS : Hid (Below w4.heap.size w4 w20) := BS.out.trans (hb.mono BS.out.size)
    obtain rfl : e = .returned (.tuple #[.slice none 0 0, .slice none 0 0]) := by
      rcases hP with ⟨_, h⟩ | ⟨h, _⟩
      · exact h
      · rw [OK.out] at h; cases h
    clear hP hb
    clear T U
    go_wp2_with fail
    refine (eqLObj _ _ _ _ _ _ [] _ (E := fun _ => True) (D := fun _ => True) (sl_zero _ _) (sl_zero _ _)).mono ?_
    rintro e w21 ⟨rfl, hb⟩
    replace B : Hid (Below w.heap.size w w21) := B.out.trans (hb.mono B.out.size)
    replace BS : Hid (Below w4.heap.size w4 w21) := BS.out.trans (hb.mono BS.out.size)
    clear hb
    go_wp2_with fail
    refine (eqLVal _ _ _ _ _ _ [] _ (E := fun _ => True) (D := fun _ => True) (sl_zero _ _) (sl_zero _ _)).mono ?_
    rintro e w22 ⟨rfl, hb⟩
    replace B : Hid (Below w.heap.size w w22) := B.out.trans (hb.mono B.out.size)
    replace BS : Hid (Below w4.heap.size w4 w22) := BS.out.trans (hb.mono BS.out.size)
    clear hb
    go_wp2_with fail
    refine (heldNilO _ _).mono ?_
    rintro e wz ⟨rfl, rfl⟩
    go_wp2_with fail
    refine (heldNilV _ _).mono ?_
    rintro e wz ⟨rfl, rfl⟩
    go_wp2_with fail
    go_ret
    exact ⟨rfl, B.out⟩
  · obtain ⟨sa, sc, sb, sd, rfl, hS0, hS1⟩ : ∃ a c b d, e = .returned (.tuple #[.slice a (graphOf X r).length c, .slice b (rootsOf X r).length d]) ∧ SlAt obR (fun b => w3.heap.size ≤ b) w4 a (graphOf X r).length (graphOf X r) ∧ SlAt vaR (fun b => w3.heap.size ≤ b) w4 b (rootsOf X r).length (rootsOf X r) := by
      rcases hP with ⟨h, _⟩ | ⟨_, h⟩
      · rw [ok] at h; cases h
      · exact h
    have OK : Hid (heapB X r = true) := ok
    have S0 : Hid (SlAt obR _ w4 sa (graphOf X r).length (graphOf X r)) := hS0
    have S1 : Hid (SlAt vaR _ w4 sb (rootsOf X r).length (rootsOf X r)) := hS1
    have hgl : (graphOf X r).length ≤ 1048576 := by rw [graph_len]; have := (ordr_at ok (X.length + 1)).le; have := SX.out.1; unfold orderOf; omega
    have hrl : (rootsOf X r).length ≤ 1048576 := by rw [rootsOf, List.length_map]; exact SR.out.1
    have HGL : Hid (∀ x ∈ graphOf X r, x.2.length ≤ 1048576 ∧ ∀ v ∈ x.2, i64B v.2) := graph_of SX.out (obj_i64 H.out) (by rw [← graph_len]; exact hgl)
    clear hP ok hS0 hS1
    go_wp2_with fail
    refine (toLObjF _ _ _ X _ (H.out.later B.out) SX.out).mono ?_
    rintro e w5 ⟨⟨ta, tc, rfl, hS, hb⟩, hfz⟩
    replace B : Hid (Below w.heap.size w w5) := B.out.trans (hb.mono B.out.size)
    replace BS : Hid (Below w4.heap.size w4 w5) := BS.out.trans (hb.mono BS.out.size)
    have T : Hid (SlAt obR (fun b => w4.heap.size ≤ b ∧ b < w5.heap.size) w5 ta len X) := hS.mono (fun b hb1 hb2 => ⟨hb1, hb2⟩)
    have F5 : Hid (FZ w4 w5) := hfz
    have s5 : w4.heap.size ≤ w5.heap.size := hb.size
    clear hS hb hfz
    go_wp2_with fail
    refine (toLValF _ _ _ r _ (G.out.later B.out) SR.out).mono ?_
    rintro e w6 ⟨⟨ua, uc, rfl, hS, hb⟩, hfz⟩
    replace B : Hid (Below w.heap.size w w6) := B.out.trans (hb.mono B.out.size)
    replace BS : Hid (Below w4.heap.size w4 w6) := BS.out.trans (hb.mono BS.out.size)
    have s6 : w5.heap.size ≤ w6.heap.size := hb.size
    replace T : Hid (SlAt obR (fun b => w4.heap.size ≤ b ∧ b < w6.heap.size) w6 ta len X) := (T.out.later hb).mono (fun b hb1 _ => ⟨hb1.1, by omega⟩)
    have U : Hid (SlAt vaR (fun b => w4.heap.size ≤ b ∧ b < w6.heap.size) w6 ua m r) := hS.mono (fun b hb1 hb2 => ⟨by omega, hb2⟩)
    have TH : Hid (Thw (fun b => w4.heap.size ≤ b ∧ b < w6.heap.size) w6) := fun b o hd => (hfz _).trans ((F5.out _).trans (frozen_past _ _ _ hd.1))
    clear hS hb hfz F5
    have BC : Hid (Below w6.heap.size w6 w6) := Below.refl _ _
    go_wp2_with fail
    refine (graphImpl _ _ _ _ _ _ X r _ (T.out) (U.out) SX.out SR.out).mono ?_
    intro e w7 hP
    obtain ⟨hb, hP⟩ := hP
    replace B : Hid (Below w.heap.size w w7) := B.out.trans (hb.mono B.out.size)
    replace BS : Hid (Below w4.heap.size w4 w7) := BS.out.trans (hb.mono BS.out.size)
    replace BC : Hid (Below w6.heap.size w6 w7) := BC.out.trans (hb.mono BC.out.size)
    obtain ⟨gG, gR, gb, rfl, hR9, hV, o1, o2, o3, o4⟩ : ∃ G R bs, e = .returned (.tuple #[.slice (some ⟨G, 0, none⟩) (graphOf X r).length (graphOf X r).length, .slice (some ⟨R, 0, none⟩) (rootsOf X r).length (rootsOf X r).length]) ∧
        GrRow w7 G (graphOf X r).length (graphOf X r) (graphOf X r).length bs ∧ WrV w7 R (rootsOf X r) ∧ w6.heap.size ≤ G ∧ G < R ∧ R < w7.heap.size ∧ ∀ j, j < (graphOf X r).length → bs j < R := by
      rcases hP with ⟨h, _⟩ | ⟨_, h⟩
      · rw [OK.out] at h; cases h
      · exact h
    clear hP hb
    have KR : Hid (GrRow w7 gG (graphOf X r).length (graphOf X r) (graphOf X r).length gb) := hR9
    have KV : Hid (WrV w7 gR (rootsOf X r)) := hV
    have LO : Hid (w6.heap.size ≤ gG ∧ gG < gR ∧ gR < w7.heap.size ∧ ∀ j, j < (graphOf X r).length → gb j < gR) := ⟨o1, o2, o3, o4⟩
    clear hR9 hV o1 o2 o3 o4
    have BG : Hid (Below w7.heap.size w7 w7) := Below.refl _ _
    go_wp2_with fail
    refine (eqLObj _ _ _ _ _ _ (graphOf X r) _ ((GrRow.later KR.out (by have := LO.out.2.1; have := LO.out.2.2.1; omega) BG.out).sl rfl hgl (fun x hx => (HGL.out x hx).1)) (S0.out.later BS.out)).mono ?_
    rintro e w8 ⟨rfl, hb⟩
    replace B : Hid (Below w.heap.size w w8) := B.out.trans (hb.mono B.out.size)
    replace BS : Hid (Below w4.heap.size w4 w8) := BS.out.trans (hb.mono BS.out.size)
    replace BC : Hid (Below w6.heap.size w6 w8) := BC.out.trans (hb.mono BC.out.size)
    replace BG : Hid (Below w7.heap.size w7 w8) := BG.out.trans (hb.mono BG.out.size)
    clear hb
    go_wp2_with fail
    refine (eqLVal _ _ _ _ _ _ (rootsOf X r) _ ((KV.out.keep (BG.out.block _ LO.out.2.2.1)).sl hrl) (S1.out.later BS.out)).mono ?_
    rintro e w9 ⟨rfl, hb⟩
    replace B : Hid (Below w.heap.size w w9) := B.out.trans (hb.mono B.out.size)
    replace BS : Hid (Below w4.heap.size w4 w9) := BS.out.trans (hb.mono BS.out.size)
    replace BC : Hid (Below w6.heap.size w6 w9) := BC.out.trans (hb.mono BC.out.size)
    replace BG : Hid (Below w7.heap.size w7 w9) := BG.out.trans (hb.mono BG.out.size)
    clear hb
    go_wp2_with fail
    refine (toLObj _ _ _ X _ (H.out.later B.out) SX.out).mono ?_
    rintro e w10 ⟨ya, yc, rfl, hS, hb⟩
    replace B : Hid (Below w.heap.size w w10) := B.out.trans (hb.mono B.out.size)
    replace BS : Hid (Below w4.heap.size w4 w10) := BS.out.trans (hb.mono BS.out.size)
    replace BC : Hid (Below w6.heap.size w6 w10) := BC.out.trans (hb.mono BC.out.size)
    replace BG : Hid (Below w7.heap.size w7 w10) := BG.out.trans (hb.mono BG.out.size)
    have Y : Hid (SlAt obR _ w10 ya len X) := hS
    clear hS hb
    go_wp2_with fail
    refine (eqLObj _ _ _ _ _ _ X _ (T.out.later BC.out) Y.out).mono ?_
    rintro e w11 ⟨rfl, hb⟩
    replace B : Hid (Below w.heap.size w w11) := B.out.trans (hb.mono B.out.size)
    replace BS : Hid (Below w4.heap.size w4 w11) := BS.out.trans (hb.mono BS.out.size)
    replace BC : Hid (Below w6.heap.size w6 w11) := BC.out.trans (hb.mono BC.out.size)
    replace BG : Hid (Below w7.heap.size w7 w11) := BG.out.trans (hb.mono BG.out.size)
    clear hb
    clear Y
    go_wp2_with fail
    refine (toLVal _ _ _ r _ (G.out.later B.out) SR.out).mono ?_
    rintro e w12 ⟨ya, yc, rfl, hS, hb⟩
    replace B : Hid (Below w.heap.size w w12) := B.out.trans (hb.mono B.out.size)
    replace BS : Hid (Below w4.heap.size w4 w12) := BS.out.trans (hb.mono BS.out.size)
    replace BC : Hid (Below w6.heap.size w6 w12) := BC.out.trans (hb.mono BC.out.size)
    replace BG : Hid (Below w7.heap.size w7 w12) := BG.out.trans (hb.mono BG.out.size)
    have Y : Hid (SlAt vaR _ w12 ya m r) := hS
    clear hS hb
    go_wp2_with fail
    refine (eqLVal _ _ _ _ _ _ r _ (U.out.later BC.out) Y.out).mono ?_
    rintro e w13 ⟨rfl, hb⟩
    replace B : Hid (Below w.heap.size w w13) := B.out.trans (hb.mono B.out.size)
    replace BS : Hid (Below w4.heap.size w4 w13) := BS.out.trans (hb.mono BS.out.size)
    replace BC : Hid (Below w6.heap.size w6 w13) := BC.out.trans (hb.mono BC.out.size)
    replace BG : Hid (Below w7.heap.size w7 w13) := BG.out.trans (hb.mono BG.out.size)
    clear hb
    clear Y
    go_wp2_with fail
    have AG : Hid (∀ b, w6.heap.size ≤ b → b < w7.heap.size → w13.heap[b]? = w7.heap[b]?) := fun b _ h2 => BG.out.block b h2
    have z7 : w7.heap.size ≤ w13.heap.size := BG.out.size
    clear BG
    have TC : Hid (Thw (fun b => w4.heap.size ≤ b ∧ b < w6.heap.size) w13) := fun b o hd => (BC.out.frozen (p := ⟨b, o, none⟩) hd.2).trans (TH.out b o hd)
    have P0 : Hid (SlP obR (fun b => w4.heap.size ≤ b ∧ b < w6.heap.size) w13 ta len) := SlP.of (T.out.later BC.out) SX.out
    have P1 : Hid (SlP vaR (fun b => w4.heap.size ≤ b ∧ b < w6.heap.size) w13 ua m) := SlP.of (U.out.later BC.out) SR.out
    have zc : w6.heap.size ≤ w13.heap.size := BC.out.size
    refine (markLObj _ _ _ _ _ P0.out TC.out (by omega) (by omega)).mono ?_
    rintro e w14 ⟨k0, rfl, ka, kb, hm⟩
    replace B : Hid (Below w.heap.size w w14) := B.out.trans (hm.chg.below B.out.size (fun i hi => fun hd => by have := hd.1; have := W4.out; omega))
    replace BS : Hid (Below w4.heap.size w4 w14) := BS.out.trans (hm.chg.below BS.out.size (fun i hi => fun hd => by have := hd.1; omega))
    replace AG : Hid (∀ b, w6.heap.size ≤ b → b < w7.heap.size → w14.heap[b]? = w7.heap[b]?) := fun b h1 h2 => (hm.chg.block b (by omega) (fun hd => by have := hd.2; omega)).trans (AG.out b h1 h2)
    replace z7 : w7.heap.size ≤ w14.heap.size := Nat.le_trans z7 hm.chg.size
    have M1 : Hid (Mkd (fun b => w4.heap.size ≤ b ∧ b < w6.heap.size) w13 w14) := hm
    clear hm BC
    go_wp2_with fail
    refine (markLVal _ _ _ _ _ (P1.out.sty sts_Val M1.out.sty) (TC.out.mkd M1.out) (by omega) (by omega)).mono ?_
    rintro e w15 ⟨k1, rfl, kc, kd, hm⟩
    replace B : Hid (Below w.heap.size w w15) := B.out.trans (hm.chg.below B.out.size (fun i hi => fun hd => by have := hd.1; have := W4.out; omega))
    replace BS : Hid (Below w4.heap.size w4 w15) := BS.out.trans (hm.chg.below BS.out.size (fun i hi => fun hd => by have := hd.1; omega))
    replace AG : Hid (∀ b, w6.heap.size ≤ b → b < w7.heap.size → w15.heap[b]? = w7.heap[b]?) := fun b h1 h2 => (hm.chg.block b (by omega) (fun hd => by have := hd.2; omega)).trans (AG.out b h1 h2)
    replace z7 : w7.heap.size ≤ w15.heap.size := Nat.le_trans z7 hm.chg.size
    clear hm M1 TC P0 P1 T U TH
    have hk1 : ¬ (k1 < 0) := by omega
    go_wp2_with fail
    have KR2 : Hid (GrRow w15 gG (graphOf X r).length (graphOf X r) (graphOf X r).length gb) := KR.out.agree (AG.out gG LO.out.1 (by have := LO.out.2.1; have := LO.out.2.2.1; omega)) (fun j hj => AG.out _ (by have := (KR.out.gt j hj).1; have := LO.out.1; omega) (KR.out.gt j hj).2) z7
    have KV2 : Hid (WrV w15 gR (rootsOf X r)) := KV.out.keep (AG.out gR (by have := LO.out.1; have := LO.out.2.1; omega) LO.out.2.2.1)
    clear KR KV AG
    have hgs : gG < w15.heap.size ∧ gR < w15.heap.size := ⟨by have := LO.out.2.1; have := LO.out.2.2.1; omega, by have := LO.out.2.2.1; omega⟩
    have BG : Hid (Below w15.heap.size w15 w15) := Below.refl _ _
    refine (eqLObj _ _ _ _ _ _ (graphOf X r) _ ((GrRow.later KR2.out hgs.1 BG.out).sl rfl hgl (fun x hx => (HGL.out x hx).1)) (S0.out.later BS.out)).mono ?_
    rintro e w16 ⟨rfl, hb⟩
    replace B : Hid (Below w.heap.size w w16) := B.out.trans (hb.mono B.out.size)
    replace BS : Hid (Below w4.heap.size w4 w16) := BS.out.trans (hb.mono BS.out.size)
    replace BG : Hid (Below w15.heap.size w15 w16) := BG.out.trans (hb.mono BG.out.size)
    clear hb
    go_wp2_with fail
    refine (eqLVal _ _ _ _ _ _ (rootsOf X r) _ ((KV2.out.keep (BG.out.block _ hgs.2)).sl hrl) (S1.out.later BS.out)).mono ?_
    rintro e w17 ⟨rfl, hb⟩
    replace B : Hid (Below w.heap.size w w17) := B.out.trans (hb.mono B.out.size)
    replace BS : Hid (Below w4.heap.size w4 w17) := BS.out.trans (hb.mono BS.out.size)
    replace BG : Hid (Below w15.heap.size w15 w17) := BG.out.trans (hb.mono BG.out.size)
    clear hb
    go_wp2_with fail
    obtain ⟨cls, F0, hF0⟩ := (GrRow.later KR2.out hgs.1 BG.out).g rfl
    obtain ⟨F1, hF1⟩ := WrV.g (KV2.out.keep (BG.out.block _ hgs.2))
    have KF : Hid (GrF w17 gG (graphOf X r).length (lenOf (graphOf X r)) gb cls F0) := hF0
    have KW : Hid (WrF w17 gR (rootsOf X r).length F1) := hF1
    have HLN : Hid (∀ j, j < (graphOf X r).length → lenOf (graphOf X r) j ≤ 1048576) := lenOf_le (fun x hx => (HGL.out x hx).1)
    have hke := kAt_bound (k := 1) HLN.out (graphOf X r).length (Nat.le_refl _)
    clear hF0 hF1
    have GB : Hid (∀ j, j < (graphOf X r).length → gG < gb j ∧ gb j < gR) := fun j hj => ⟨(KR2.out.gt j hj).1, LO.out.2.2.2 j hj⟩
    have lo1 := LO.out.1
    have lo2 := LO.out.2.1
    have lw4 : w.heap.size ≤ w4.heap.size := W4.out
    have zgc : gR < w17.heap.size := by have := BG.out.size; omega
    refine (markOwnO gG (graphOf X r).length (graphOf X r).length 1 (lenOf (graphOf X r)) gb _ _ _ KF.out hgl HLN.out (by omega) (by omega)).mono ?_
    rintro e w18 ⟨rfl, hF, hc⟩
    have ND : Hid (∀ i, i < w6.heap.size → ¬ (i = gG ∨ ∃ j, j < (graphOf X r).length ∧ i = gb j)) := fun i hi hd => by
      rcases hd with h1 | ⟨j, hj, h1⟩
      · omega
      · have := GB.out j hj; omega
    replace B : Hid (Below w.heap.size w w18) := B.out.trans (hc.below B.out.size (fun i hi => ND.out i (by omega)))
    replace BS : Hid (Below w4.heap.size w4 w18) := BS.out.trans (hc.below BS.out.size (fun i hi => ND.out i (by omega)))
    have KW2 : Hid (WrF w18 gR (rootsOf X r).length F1) := KW.out.keep (hc.block gR zgc (fun hd => by
      rcases hd with h1 | ⟨j, hj, h1⟩
      · omega
      · have := GB.out j hj; omega))
    have zk : w17.heap.size ≤ w18.heap.size := hc.size
    have KF2 : Hid (GrF w18 gG (graphOf X r).length (lenOf (graphOf X r)) gb (kAt 1 (lenOf (graphOf X r))) (fun j => mV (kAt 1 (lenOf (graphOf X r)) j + 1))) := hF
    clear hF hc KF KW KR2 KV2 BG ND
    generalize hkn : kAt 1 (lenOf (graphOf X r)) (graphOf X r).length = kn at hke ⊢
    go_wp2_with fail
    refine (markOwnV gR (rootsOf X r).length (rootsOf X r).length kn _ _ KW2.out hrl (by omega) (by omega)).mono ?_
    rintro e w19 ⟨rfl, hF, hc⟩
    replace B : Hid (Below w.heap.size w w19) := B.out.trans (hc.below B.out.size (fun i hi => fun hd => by omega))
    replace BS : Hid (Below w4.heap.size w4 w19) := BS.out.trans (hc.below BS.out.size (fun i hi => fun hd => by omega))
    have KF3 : Hid (GrF w19 gG (graphOf X r).length (lenOf (graphOf X r)) gb (kAt 1 (lenOf (graphOf X r))) (fun j => mV (kAt 1 (lenOf (graphOf X r)) j + 1))) := KF2.out.keep (hc.block gG (by omega) (by omega)) (fun j hj => hc.block _ (KF2.out.off j hj).2 (by have := GB.out j hj; omega)) hc.size
    have KW3 : Hid (WrF w19 gR (rootsOf X r).length (mV kn)) := hF
    have zm : w18.heap.size ≤ w19.heap.size := hc.size
    have hgm : gG < w19.heap.size ∧ gR < w19.heap.size := ⟨by omega, by omega⟩
    clear hF hc KF2 KW2
    have BM : Hid (Below w19.heap.size w19 w19) := Below.refl _ _
    have e9 : ((kn + 2 * ((rootsOf X r).length : Int)) != (kn + 2 * ((rootsOf X r).length : Int))) = false := by simp
    have e8 : ¬ (kn + 2 * ((rootsOf X r).length : Int) < 0) := by omega
    have e7 : ¬ (kn < 0) := by omega
    have HKN : Hid (kAt 1 (lenOf (graphOf X r)) (graphOf X r).length = kn) := hkn
    clear hkn
    go_wp2_with fail
    refine (heldOwnO gG (graphOf X r).length (graphOf X r).length 1 (lenOf (graphOf X r)) gb _ (KF3.out.keep (BM.out.block _ hgm.1) (fun j hj => BM.out.block _ (KF3.out.off j hj).2) BM.out.size) hgl HLN.out (by omega) (by omega)).mono ?_
    rintro e wz ⟨rfl, rfl⟩
    rw [HKN.out]
    go_wp2_with fail
    refine (heldOwnV gR (rootsOf X r).length (rootsOf X r).length kn _ (KW3.out.keep (BM.out.block _ hgm.2)) hrl (by omega) (by omega)).mono ?_
    rintro e wz ⟨rfl, rfl⟩
    go_wp2_with fail
    refine (toLObj _ _ _ X _ (H.out.later B.out) SX.out).mono ?_
    rintro e w20 ⟨ta, tc, rfl, hS, hb⟩
    replace B : Hid (Below w.heap.size w w20) := B.out.trans (hb.mono B.out.size)
    replace BS : Hid (Below w4.heap.size w4 w20) := BS.out.trans (hb.mono BS.out.size)
    replace BM : Hid (Below w19.heap.size w19 w20) := BM.out.trans (hb.mono BM.out.size)
    have T : Hid (SlAt obR _ w20 ta len X) := hS
    clear hS hb
    go_wp2_with fail
    refine (toLVal _ _ _ r _ (G.out.later B.out) SR.out).mono ?_
    rintro e w21 ⟨ua, uc, rfl, hS, hb⟩
    replace B : Hid (Below w.heap.size w w21) := B.out.trans (hb.mono B.out.size)
    replace BS : Hid (Below w4.heap.size w4 w21) := BS.out.trans (hb.mono BS.out.size)
    replace BM : Hid (Below w19.heap.size w19 w21) := BM.out.trans (hb.mono BM.out.size)
    replace T : Hid (SlAt obR _ w21 ta len X) := T.out.later hb
    have U : Hid (SlAt vaR _ w21 ua m r) := hS
    clear hS hb
    go_wp2_with fail
    refine (graphImpl _ _ _ _ _ _ X r _ (T.out) (U.out) SX.out SR.out).mono ?_
    intro e w22 hP
    obtain ⟨hb, hP⟩ := hP
    replace B : Hid (Below w.heap.size w w22) := B.out.trans (hb.mono B.out.size)
    replace BS : Hid (Below w4.heap.size w4 w22) := BS.out.trans (hb.mono BS.out.size)
    replace BM : Hid (Below w19.heap.size w19 w22) := BM.out.trans (hb.mono BM.out.size)
    obtain ⟨hG, hR, hbs, rfl, hR9, hV, o1, o2, o3, o4⟩ : ∃ G R bs, e = .returned (.tuple #[.slice (some ⟨G, 0, none⟩) (graphOf X r).length (graphOf X r).length, .slice (some ⟨R, 0, none⟩) (rootsOf X r).length (rootsOf X r).length]) ∧
        GrRow w22 G (graphOf X r).length (graphOf X r) (graphOf X r).length bs ∧ WrV w22 R (rootsOf X r) ∧ w21.heap.size ≤ G ∧ G < R ∧ R < w22.heap.size ∧ ∀ j, j < (graphOf X r).length → bs j < R := by
      rcases hP with ⟨h, _⟩ | ⟨_, h⟩
      · rw [OK.out] at h; cases h
      · exact h
    clear hP hb
    have JR : Hid (GrRow w22 hG (graphOf X r).length (graphOf X r) (graphOf X r).length hbs) := hR9
    have JV : Hid (WrV w22 hR (rootsOf X r)) := hV
    have JL : Hid (hG < hR ∧ hR < w22.heap.size) := ⟨o2, o3⟩
    clear T U hR9 hV o1 o2 o3 o4
    have BJ : Hid (Below w22.heap.size w22 w22) := Below.refl _ _
    go_wp2_with fail
    refine (eqLObj _ _ _ _ _ _ (graphOf X r) _ (JR.out.sl rfl hgl (fun x hx => (HGL.out x hx).1)) (S0.out.later BS.out)).mono ?_
    rintro e w23 ⟨rfl, hb⟩
    replace B : Hid (Below w.heap.size w w23) := B.out.trans (hb.mono B.out.size)
    replace BS : Hid (Below w4.heap.size w4 w23) := BS.out.trans (hb.mono BS.out.size)
    replace BM : Hid (Below w19.heap.size w19 w23) := BM.out.trans (hb.mono BM.out.size)
    replace BJ : Hid (Below w22.heap.size w22 w23) := BJ.out.trans (hb.mono BJ.out.size)
    clear hb
    go_wp2_with fail
    refine (eqLVal _ _ _ _ _ _ (rootsOf X r) _ ((JV.out.keep (BJ.out.block _ JL.out.2)).sl hrl) (S1.out.later BS.out)).mono ?_
    rintro e w24 ⟨rfl, hb⟩
    replace B : Hid (Below w.heap.size w w24) := B.out.trans (hb.mono B.out.size)
    replace BS : Hid (Below w4.heap.size w4 w24) := BS.out.trans (hb.mono BS.out.size)
    replace BM : Hid (Below w19.heap.size w19 w24) := BM.out.trans (hb.mono BM.out.size)
    replace BJ : Hid (Below w22.heap.size w22 w24) := BJ.out.trans (hb.mono BJ.out.size)
    clear hb
    go_wp2_with fail
    refine (heldOwnO gG (graphOf X r).length (graphOf X r).length 1 (lenOf (graphOf X r)) gb _ (KF3.out.keep (BM.out.block _ hgm.1) (fun j hj => BM.out.block _ (KF3.out.off j hj).2) BM.out.size) hgl HLN.out (by omega) (by omega)).mono ?_
    rintro e wz ⟨rfl, rfl⟩
    rw [HKN.out]
    go_wp2_with fail
    refine (heldOwnV gR (rootsOf X r).length (rootsOf X r).length kn _ (KW3.out.keep (BM.out.block _ hgm.2)) hrl (by omega) (by omega)).mono ?_
    rintro e wz ⟨rfl, rfl⟩
    go_wp2_with fail
    go_ret
    exact ⟨rfl, B.out⟩

/-- What came in, read. -/
theorem slOf {α : Type} {R : Rep α} {t : TypeId} (hr : Reads t (.list R)) {H : Type} {enc : TypeId × Value → H} {W : World} {a : Option Addr} {len cap : Nat} {d : DataW H} {p : List MemPlace} (h : DataW.Trod enc Try.prog W 0 (fun _ => true) true t (.slice a len cap) d p) : ∃ xs, SlAt R (fun _ => True) W a len xs := by
  obtain ⟨fuel, hf⟩ := h
  obtain ⟨xs, a', l', c', e, hS⟩ := hr _ _ _ _ _ _ hf
  simp [Value.cells] at e
  obtain ⟨rfl, rfl, rfl⟩ := e
  exact ⟨xs, hS⟩

set_option maxRecDepth 100000 in
theorem lifted (os : Os) (started : os.Started) (H : Type) (enc : TypeId × Value → H) :
    ReturnsInHanded {} Try.checked os 8 .any (Rows.fnExactHeapGraphSpec.pre6 enc Try.prog Try.f8 Rows.fnExactHeapGraphRow.domain false) (Rows.fnExactHeapGraphSpec.post enc Try.prog Try.f8 false true false false) := by
  refine returnsInHanded_of_change (C := Try.checked) own started (by kernel_rfl) Try.func8
    (ChangeSpec.witness6 (enc := enc) (C := Try.checked) false ⟨#[], #[.slice none 0 0, .slice none 0 0], []⟩ 8 (by kernel_rfl) (by kernel_rfl) (by kernel_rfl) (by kernel_rfl)) ?_
  intro W base args ds gs before hval0 hW hcnd _
  have hval : ∀ (j : Nat) t v, Try.f8.params[j]? = some t → args[j]? = some v → Value.okWide Try.prog W .any base t v := hval0
  have hW' := hW
  obtain ⟨p, q, hA0, hV, rfl, hfz, hnd⟩ := hW
  have hA : DataW.TrodAll enc Try.prog W 0 (fun _ => true) true Try.f8.params.toList args.toList ds p := hA0
  rw [Try.params8] at hA hval
  obtain ⟨v0, vs0, d0, ds0, p0, q0, hargs, rfl, rfl, h0, r0⟩ := trodAll_cons hA
  obtain ⟨v1, vs1, d1, ds1, p1, q1, rfl, rfl, rfl, h1, r1⟩ := trodAll_cons r0
  obtain ⟨rfl, rfl, rfl⟩ := trodAll_nil r1
  obtain rfl : args = #[v0, v1] := by cases args; simp_all
  obtain ⟨rfl, rfl⟩ := trodVars_none hV
  have k0 := h0
  have lt0 : ∀ x ∈ p0, x.block < W.heap.size := by obtain ⟨m, hm⟩ := k0; exact DataW.trod_lt m _ _ _ hm
  have k1 := h1
  have lt1 : ∀ x ∈ p1, x.block < W.heap.size := by obtain ⟨m, hm⟩ := k1; exact DataW.trod_lt m _ _ _ hm
  obtain ⟨a0, len0, cap0, rfl⟩ := okWide_slice Try.underlying38 (hval 0 38 v0 rfl rfl)
  obtain ⟨X, w0⟩ := slOf rdL_Obj h0
  obtain ⟨a1, len1, cap1, rfl⟩ := okWide_slice Try.underlying39 (hval 1 39 v1 rfl rfl)
  obtain ⟨r, w1⟩ := slOf rdL_Val h1
  clear hA0 hval0
  refine (walk a0 len0 cap0 a1 len1 cap1 X r W w0 w1).mono fun e W' ⟨he, bel⟩ => ?_
  subst he
  exact ⟨_, rfl, _, _, _, [], _, [], hW', trodAll_mk1 (shut_bool Try.underlying4 _), (trodAll_cons_mk (Below.trod laidOut (by kernel_rfl) (of_decide_eq_true (by kernel_rfl)) k0 bel lt0) (trodAll_cons_mk (Below.trod laidOut (by kernel_rfl) (of_decide_eq_true (by kernel_rfl)) k1 bel lt1) trodAll_mk0)), rfl, bel.frame _, fun h => by cases h⟩

theorem over : Rows.fnExactHeapGraphRow.holds Try.pinned (OpenSpec.ofChange Rows.fnExactHeapGraphSpec) :=
  OpenClaim.holds_of_wide 8 Try.f8 rfl rfl rfl rfl rfl rfl rfl ⟨rfl, rfl, rfl, rfl, rfl⟩ rfl rfl rfl rfl rfl (by kernel_rfl) Try.func8 (by kernel_rfl)
    (of_decide_eq_true (by kernel_rfl)) (by unfold Func.isWrapper; first | (rw [if_pos (by decide +kernel)]; kernel_rfl) | (rw [if_neg (by decide +kernel)]; exact ⟨rfl, rfl⟩))
    (fun os started H enc _ => lifted os started H enc)
theorem proved : Rows.FnExactHeapGraphSaid := over
end Go.Proofs.Ytpgmkobcbogcnaa.fnExactHeapGraph

namespace Go.Proofs.Ytpgmkobcbogcnaa
theorem fnExactHeapGraph_holds : Rows.FnExactHeapGraphSaid := fnExactHeapGraph.proved
#print axioms fnExactHeapGraph_holds
end Go.Proofs.Ytpgmkobcbogcnaa
