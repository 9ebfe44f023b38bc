/-
  The specification's walk over a memory, and its lists of truths about words: what they say; they write nothing that was there.
-/
import Derived.Test.YtjbmcdekhhbiaaaGreatMemSb
import Derived.Deep.RegionHeld3
namespace Go.Proofs.YtjbmcdekhhbiaaaGreat
open Go.ChangeShapes Go.WideShapes Go.ChangeAt Go.RowKit
set_option linter.unusedVariables false

/-- What is so of the walk's list. -/
def WalkP (w : World) (L : List Cl) (m : Mm) (r : Ending) (w' : World) : Prop :=
  ∃ v out bb, r = .returned (.tuple #[v, .bool bb]) ∧ NewInts w v w' out ∧ out.length ≤ 2000 ∧ (∀ x ∈ out, 0 ≤ x ∧ x ≤ 1000) ∧ bb = ((yPs L m).isSome && (oPs L m).isSome) ∧ (bb = true → out = plN (thT L m))
theorem plN_app (a b : List Th) : plN (a ++ b) = plN a ++ plN b := by simp [plN]

set_option maxRecDepth 100000 in
set_option maxHeartbeats 8000000 in
theorem walkSpec (ca : Option Addr) (cn cc : Nat) (wa : Option Addr) (wl wc : Nat) (yg tp od : Nat) (da : Option Addr) (dl dc : Nat) (ws : List Int) (cd : List Bool) (L : List Cl) (w : World) {D E G : Nat → Prop} (h : ClsAt D E w ca cn L) (ok : clsOk L = true) (hw : IntsAt G w wa wl ws) (h1 : tp ≤ yg) (h2 : yg ≤ od) (h3 : od ≤ wl) (hl : wl ≤ 1000) :
    Calls Tryz.prog 46 #[.slice ca cn cc, .agg #[.slice wa wl wc, .int .i64 (yg : Nat), .int .i64 (tp : Nat), .int .i64 (od : Nat), .slice da dl dc]] w (WalkP w L (ws, yg, tp, od, cd)) := by
  have H : Hid (ClsAt D E w ca cn L) := h
  have OK : Hid (clsOk L = true) := ok
  have HW : Hid (IntsAt G w wa wl ws) := hw
  have YS : Hid (seg ws 0 tp = ws.take tp) := List.drop_zero
  clear h ok hw
  have hz : w.heap.size + 1 ≤ (w.alloc (.cells #[.slice wa wl wc, .int .i64 (yg : Nat), .int .i64 (tp : Nat), .int .i64 (od : Nat), .slice da dl dc] 29)).heap.size := by simp
  have B : Hid (∀ y, Below (w.heap.size + 1) (w.alloc (.cells #[.slice wa wl wc, .int .i64 (yg : Nat), .int .i64 (tp : Nat), .int .i64 (od : Nat), .slice da dl dc] 29)) y → Below w.heap.size w y) := fun y hy => (bR.alloc (by first | exact Nat.le_refl _ | (simp; done) | (simp; omega)) _).trans (hy.mono (by omega))
  have XM : Hid (∀ y, Below (w.heap.size + 1) (w.alloc (.cells #[.slice wa wl wc, .int .i64 (yg : Nat), .int .i64 (tp : Nat), .int .i64 (od : Nat), .slice da dl dc] 29)) y → y.heap[w.heap.size]? = some (.cells #[.slice wa wl wc, .int .i64 (yg : Nat), .int .i64 (tp : Nat), .int .i64 (od : Nat), .slice da dl dc] 29 (0, 0))) := fun y hy => (hy.block _ (by omega)).trans (boxN _ _ _ _ (by simp))
  have lM : w.heap.size < w.heap.size + 1 := by omega
  go_enter Tryz.func46, Tryz.ntmps46
  go_wp2_with fail
  have BP : Hid (Below (w.heap.size + 1) (w.alloc (.cells #[.slice wa wl wc, .int .i64 (yg : Nat), .int .i64 (tp : Nat), .int .i64 (od : Nat), .slice da dl dc] 29)) (w.alloc (.cells #[.slice wa wl wc, .int .i64 (yg : Nat), .int .i64 (tp : Nat), .int .i64 (od : Nat), .slice da dl dc] 29))) := bR
  refine (partSpec _ _ _ _ _ _ 0 tp ws L _ (H.out.later (B.out _ BP.out)) OK.out (HW.out.later (B.out _ BP.out)) (by omega) (by omega) hl).mono ?_
  rintro e w1 ⟨v1, o1, b1, rfl, hn, hz1, hx, hbb, hts⟩
  have hb := hn.2
  obtain ⟨g1, c1, rfl⟩ := own_sl hn.1
  have F1 : Hid (∀ x ∈ o1, 0 ≤ x ∧ x ≤ 1000) := hx
  have P1 : Hid (b1 = (parse L 0 (seg ws 0 tp)).isSome) := hbb
  have T1 : Hid (∀ ts, parse L 0 (seg ws 0 tp) = some ts → o1 = plN ts) := hts
  clear hx hbb hts
  have O1h : w1.ownsRow (w.heap.size + 1) 3 1 (.slice g1 o1.length c1) o1.length (o1.map (Value.int .i64)) := by have := hn.1; simpa using this
  have O1 : Hid (w1.ownsRow (w.heap.size + 1) 3 1 (.slice g1 o1.length c1) o1.length (o1.map (Value.int .i64))) := O1h
  clear O1h
  have hq : Below (w.heap.size + 1) (w.alloc (.cells #[.slice wa wl wc, .int .i64 (yg : Nat), .int .i64 (tp : Nat), .int .i64 (od : Nat), .slice da dl dc] 29)) w1 := BP.out.trans (Below.mono hb (Nat.le_trans hz BP.out.size))
  have hzn : w.heap.size + 1 ≤ w1.heap.size := Nat.le_trans hz hq.size
  replace B := lF B hq hzn
  replace XM := lF XM hq hzn
  replace lM := Nat.lt_of_lt_of_le lM hzn
  clear hq BP hz
  have hz : w1.heap.size ≤ w1.heap.size := Nat.le_refl _
  clear hn hb
  obtain ⟨kM0, kM1, kM2, kM3, kM4⟩ := bk5 (XM.out w1 bR)
  go_wp2_with fail
  clear kM0 kM1 kM2 kM3 kM4
  have BP : Hid (Below (w1.heap.size) w1 w1) := bR
  refine (partSpec _ _ _ _ _ _ yg od ws L _ (H.out.later (B.out _ BP.out)) OK.out (HW.out.later (B.out _ BP.out)) (by omega) (by omega) hl).mono ?_
  rintro e w2 ⟨v2, o2, b2, rfl, hn, hz2, hx, hbb, hts⟩
  have hb := hn.2
  obtain ⟨g2, c2, rfl⟩ := own_sl hn.1
  have F2 : Hid (∀ x ∈ o2, 0 ≤ x ∧ x ≤ 1000) := hx
  have P2 : Hid (b2 = (parse L yg (seg ws yg od)).isSome) := hbb
  have T2 : Hid (∀ ts, parse L yg (seg ws yg od) = some ts → o2 = plN ts) := hts
  clear hx hbb hts
  have O2 : Hid (w2.ownsRow (w.heap.size + 1) 3 1 (.slice g1 o1.length c1) o1.length (o1.map (Value.int .i64))) := own_later O1.out hb
  have I2 : Hid (IntsAt (fun b => w1.heap.size ≤ b) w2 g2 o2.length o2) := (own_at hn.1 (by omega) (fits_lit fun x hx => by have := F2.out x hx; omega)).1
  have hq : Below (w1.heap.size) w1 w2 := BP.out.trans (Below.mono hb (Nat.le_trans hz BP.out.size))
  have hzn : w1.heap.size ≤ w2.heap.size := Nat.le_trans hz hq.size
  replace B := lF B hq hzn
  replace XM := lF XM hq hzn
  replace lM := Nat.lt_of_lt_of_le lM hzn
  clear hq BP hz
  have hz : w2.heap.size ≤ w2.heap.size := Nat.le_refl _
  clear hn hb
  have hlow : w.heap.size + 1 ≤ w2.heap.size := by have := lM; omega
  have FIN : Hid (∀ w3 a3 c3 q, w3.ownsRow (w.heap.size + 1) 3 1 (.slice a3 (o1.length + o2.length) c3) (o1.length + o2.length) ((o1 ++ o2).map (Value.int .i64)) → Below w.heap.size w w3 → q = (b1 && b2) → WalkP w L (ws, yg, tp, od, cd) (.returned (.tuple #[.slice a3 (o1.length + o2.length) c3, .bool q])) w3) := by
    intro w3 a3 c3 q ho hb hq
    refine ⟨_, o1 ++ o2, q, rfl, ⟨by rw [List.length_append]; exact own_low ho (by omega), hb⟩, by rw [List.length_append]; omega, fun x hx => ?_, ?_, fun hqt => ?_⟩
    · rcases List.mem_append.1 hx with h | h
      · exact F1.out x h
      · exact F2.out x h
    · rw [hq, P1.out, P2.out, YS.out]; rfl
    · rw [hq, Bool.and_eq_true, P1.out, P2.out, YS.out] at hqt
      have e1 : yPs L (ws, (yg : Int), (tp : Int), (od : Int), cd) = parse L 0 (ws.take tp) := rfl
      have e2 : oPs L (ws, (yg : Int), (tp : Int), (od : Int), cd) = parse L yg (seg ws yg od) := rfl
      rw [thT, e1, e2, plN_app]
      obtain ⟨t1, ht1⟩ := Option.isSome_iff_exists.1 hqt.1
      obtain ⟨t2, ht2⟩ := Option.isSome_iff_exists.1 hqt.2
      rw [ht1, ht2, T1.out t1 (by rw [YS.out]; exact ht1), T2.out t2 ht2]
      rfl

  obtain ⟨kM0, kM1, kM2, kM3, kM4⟩ := bk5 (XM.out w2 bR)
  cases b1
  · go_wp2_with (
      at_builtin
      refine list_app rfl _ _ rfl (w.heap.size + 1) (.slice g1 o1.length c1) o1.length o1 rfl O2.out _ _ _ rfl o2 I2.out (by omega) (by omega) hlow ?_
      intro a3 c3 w3 hown3 hgrow3 hloc3
      have W3 : Hid (w3.ownsRow (w.heap.size + 1) 3 1 (.slice a3 (o1.length + o2.length) c3) (o1.length + o2.length) ((o1 ++ o2).map (Value.int .i64))) := hown3
      have B4 : Hid (Below w.heap.size w w3) := (B.out w2 (Below.refl _ _)).trans ((Below.refl _ _).grown hgrow3 (B.out w2 (Below.refl _ _)).size (fun j e => by have := own_ge O2.out j e.symm; omega))
      clear hown3 hgrow3 hloc3)
    go_ret2
    exact FIN.out _ _ _ _ W3.out B4.out rfl
  · go_wp2_with (
      at_builtin
      refine list_app rfl _ _ rfl (w.heap.size + 1) (.slice g1 o1.length c1) o1.length o1 rfl O2.out _ _ _ rfl o2 I2.out (by omega) (by omega) hlow ?_
      intro a3 c3 w3 hown3 hgrow3 hloc3
      have W3 : Hid (w3.ownsRow (w.heap.size + 1) 3 1 (.slice a3 (o1.length + o2.length) c3) (o1.length + o2.length) ((o1 ++ o2).map (Value.int .i64))) := hown3
      have B4 : Hid (Below w.heap.size w w3) := (B.out w2 (Below.refl _ _)).trans ((Below.refl _ _).grown hgrow3 (B.out w2 (Below.refl _ _)).size (fun j e => by have := own_ge O2.out j e.symm; omega))
      clear hown3 hgrow3 hloc3)
    go_ret2
    exact FIN.out _ _ _ _ W3.out B4.out rfl

theorem info_boo2 : (Tryz.prog.info? 4).map (fun i => (i.zero, i.size, i.bytes)) = some (some (.bool false), 1, 1) := by kernel_rfl
def stB (out : List Int) (j : Nat) : Bool := out.any (fun x => x == (j : Int))
theorem stB_snoc (xs : List Int) (x : Int) (j : Nat) : stB (xs ++ [x]) j = (stB xs j || x == (j : Int)) := by simp [stB]
set_option maxHeartbeats 4000000 in
theorem startsSpec (n : Nat) (hn : n ≤ 2000) (g : Option Addr) (l c : Nat) (out : List Int) (w : World) {D : Nat → Prop} (h : IntsAt D w g l out) (hx : ∀ x ∈ out, 0 ≤ x ∧ x < n) :
    Calls Tryz.prog 48 #[.int .i64 n, .slice g l c] w fun e w' => e = .returned (.slice (some ⟨w.heap.size, 0, none⟩) n n) ∧ RowAt w' w.heap.size n (fun j => .bool (stB out j)) ∧ Below w.heap.size w w' := by
  have hmk := fun wx => run_make_row' (P := Tryz.prog) 24 4 (.bool false) 1 Tryz.underlying24 info_boo2 rfl .i64 .i64 n (by omega) (by omega) wx
  have H : Hid (IntsAt D w g l out) := h
  have LS : Hid (out.length = l) := h.size
  have HX : Hid (∀ x ∈ out, 0 ≤ x ∧ x < n) := hx
  have hlr := h.room
  clear h hx
  go_enter Tryz.func48, Tryz.ntmps48
  go_wp2_with fail
  go_loopw [6] (fun t wr => ∃ k : Nat, k ≤ l ∧ t = .int .i64 k ∧ RowAt wr w.heap.size n (fun j => .bool (stB (out.take k) j)) ∧ Below w.heap.size w wr) (fun t _ => l - (intOf t).toNat)
  case atStart =>
    refine ⟨0, Nat.zero_le _, rfl, (RowAt.made w #[.bool false] n 4).congr fun j _ => by simp [Nat.mod_one, stB], by go_grown⟩
  case round =>
    obtain ⟨k, hk, rfl, hrow, hb⟩ := hrel
    have HR : Hid (RowAt wr w.heap.size n (fun j => .bool (stB (out.take k) j))) := hrow
    have HB : Hid (Below w.heap.size w wr) := hb
    clear hrow hb
    by_cases hlt : k < l
    · obtain ⟨b, off, rfl, _, hcs⟩ := (H.out.later HB.out).one k hlt
      have hc := hcs k hlt
      obtain ⟨x, hx⟩ : ∃ x, out.getD k 0 = x := ⟨_, rfl⟩
      rw [hx] at hc
      have hxm : x ∈ out := by rw [← hx, List.getD_eq_getElem?_getD, List.getElem?_eq_getElem (by rw [LS.out]; exact hlt)]; exact List.getElem_mem _
      obtain ⟨x0, x1⟩ := HX.out x hxm
      obtain ⟨p, rfl⟩ : ∃ p : Nat, x = p := ⟨x.toNat, by omega⟩
      have hpn : p < n := by omega
      have HT : Hid (out.take (k + 1) = out.take k ++ [(p : Int)]) := by
        show _ = _
        rw [List.take_succ_eq_append_getElem (by rw [LS.out]; exact hlt)]
        rw [List.getD_eq_getElem?_getD, List.getElem?_eq_getElem (by rw [LS.out]; exact hlt)] at hx
        rw [show out[k]'(by rw [LS.out]; exact hlt) = (p : Int) from hx]
      have hg := (HR.out p hpn).1
      have hf := (HR.out p hpn).2
      have HF : Hid (RowAt (wr.setCell ⟨w.heap.size, p, none⟩ (.bool true)) w.heap.size n (fun j => .bool (stB (out.take (k + 1)) j))) :=
        (HR.out.set p (.bool true)).congr fun j _ => by
          rw [HT.out, stB_snoc]
          by_cases e : j = p
          · subst e; simp
          · rw [if_neg e, show ((p : Int) == (j : Int)) = false by simp; omega, Bool.or_false]
      generalize stB (out.take k) p = q at hg
      clear hcs hx hxm
      go_wp2_with fail
      exact ⟨⟨k + 1, by omega, by go_num, HF.out, HB.out.setCell (Nat.le_refl _) _⟩, by simp [intOf]; omega⟩
    · have ek : k = l := by omega
      subst ek
      go_wp2_with fail
      go_ret
      exact ⟨rfl, HR.out.congr fun j hj => by rw [← LS.out, List.take_length], HB.out⟩
theorem leadSpec (g n c : Nat) (f : Nat → Bool) (v : Int) (w : World) (h : ∀ j, j < n → w.cell? ⟨g, j, none⟩ = some (.bool (f j))) (hn : n ≤ 2000) (hv : i64B v) :
    Calls Tryz.prog 47 #[.slice (some ⟨g, 0, none⟩) n c, .int .i64 v] w fun e w' => e = .returned (.bool (v == 0 || (inI v 1 n && f (v.toNat - 1)))) ∧ w = w' := by
  have hv1 := hv.1
  have hv2 := hv.2
  by_cases h0 : v = 0
  · subst h0
    go_enter Tryz.func47, Tryz.ntmps47
    go_wp2_with fail
    go_ret
    exact ⟨rfl, rfl⟩
  · have e0 : (v == 0) = false := by simp [h0]
    cases hq : inI v 1 n
    · go_enter Tryz.func47, Tryz.ntmps47
      go_wp2_with fail
      refine (inSpec' _ _ _ _ hq _).mono ?_
      rintro r w' ⟨rfl, rfl⟩
      go_wp2_with fail
      go_ret
      exact ⟨by rw [e0]; rfl, rfl⟩
    · have hr := inI_iff.1 hq
      obtain ⟨p, rfl⟩ : ∃ p : Nat, v = (p : Int) + 1 := ⟨v.toNat - 1, by omega⟩
      have hc := h p (by omega)
      have ep : ((p : Int) + 1).toNat - 1 = p := by omega
      rw [ep]
      generalize f p = q at hc
      clear h
      go_enter Tryz.func47, Tryz.ntmps47
      go_wp2_with fail
      refine (inSpec' _ _ _ _ hq _).mono ?_
      rintro r w' ⟨rfl, rfl⟩
      go_wp2_with fail
      go_ret
      exact ⟨by rw [e0]; rfl, rfl⟩

end Go.Proofs.YtjbmcdekhhbiaaaGreat
