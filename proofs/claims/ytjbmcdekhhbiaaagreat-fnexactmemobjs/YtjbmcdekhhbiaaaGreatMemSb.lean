/-
  The specification's walk over words, its lists of truths about words: what they say; they write nothing that was there.
-/
import Derived.Test.YtjbmcdekhhbiaaaGreatMemSa
namespace Go.Proofs.YtjbmcdekhhbiaaaGreat
open Go.ChangeShapes Go.WideShapes Go.ChangeAt Go.RowKit
set_option linter.unusedVariables false

def plN (ts : List Th) : List Int := ts.map (fun t => t.1 - 1)
def seg (ws : List Int) (i e : Nat) : List Int := (ws.take e).drop i
/-- What is so of a part's list. -/
def PartP (w : World) (L : List Cl) (a : Nat) (ws : List Int) (r : Ending) (w' : World) : Prop :=
  ∃ v out bb, r = .returned (.tuple #[v, .bool bb]) ∧ NewInts w v w' out ∧ out.length ≤ 1000 ∧ (∀ x ∈ out, 0 ≤ x ∧ x ≤ 1000) ∧ bb = (parse L a ws).isSome ∧ ∀ ts, parse L a ws = some ts → out = plN ts

set_option maxHeartbeats 4000000 in
theorem partSpec (ca : Option Addr) (cn cc : Nat) (wa : Option Addr) (wl wc : Nat) (a e : Nat) (ws : List Int) (L : List Cl) (w : World) {D E G : Nat → Prop} (h : ClsAt D E w ca cn L) (ok : clsOk L = true) (hw : IntsAt G w wa wl ws) (hae : a ≤ e) (he : e ≤ wl) (hl : wl ≤ 1000) :
    Calls Tryz.prog 81 #[.slice ca cn cc, .slice wa wl wc, .int .i64 a, .int .i64 e] w (PartP w L a (seg ws a e)) := by
  have H : Hid (ClsAt D E w ca cn L) := h
  have OK : Hid (clsOk L = true) := ok
  have HW : Hid (IntsAt G w wa wl ws) := hw
  have WS : Hid (ws.length = wl) := hw.size
  have SL : Hid (∀ i, (seg ws i e).length = e - i) := fun i => seg_len (by rw [WS.out]; exact he)
  have E0 : Hid ((w.alloc (.cells #[] 3)).ownsRow w.heap.size 3 1 (.slice (some ⟨w.heap.size, 0, none⟩) 0 0) 0 (([] : List Int).map (Value.int .i64))) := own_empty _ _ (Nat.le_refl _) rfl
  clear h ok hw
  go_enter Tryz.func81, Tryz.ntmps81
  go_wp2_with fail
  go_loopw [2, 10] (fun t u wr => ∃ (i : Nat) (pre : List Th) (g : Option Addr) (n c : Nat), a ≤ i ∧ i ≤ e ∧ t = .int .i64 i ∧ u = .slice g n c ∧ n = pre.length ∧ n + a ≤ i ∧ (∀ x ∈ plN pre, 0 ≤ x ∧ x ≤ 1000) ∧ wr.ownsRow w.heap.size 3 1 (.slice g n c) n ((plN pre).map (Value.int .i64)) ∧ Below w.heap.size w wr ∧ parse L a (seg ws a e) = (parse L i (seg ws i e)).map (pre ++ ·)) (fun t _ _ => e - (intOf t).toNat)
  case atStart => exact ⟨a, [], _, _, _, Nat.le_refl _, hae, rfl, rfl, rfl, by simp, by simp [plN], E0.out, by go_grown, by simp⟩
  case round =>
    obtain ⟨i, pre, g, n, c, hai, hie, rfl, rfl, hn, hna, hx, hown, hb, hp⟩ := hrel
    have HX : Hid (∀ x ∈ plN pre, 0 ≤ x ∧ x ≤ 1000) := hx
    have HO : Hid (wr.ownsRow w.heap.size 3 1 (.slice g n c) n ((plN pre).map (Value.int .i64))) := hown
    have HB : Hid (Below w.heap.size w wr) := hb
    have HP : Hid (parse L a (seg ws a e) = (parse L i (seg ws i e)).map (pre ++ ·)) := hp
    have HN : Hid (n = pre.length) := hn
    have HNW : Hid (∀ wz, Below wr.heap.size wr wz → NewInts w (.slice g n c) wz (plN pre)) := fun wz hz => ⟨by rw [show (plN pre).length = n by rw [HN.out]; simp [plN]]; exact own_later HO.out hz, HB.out.trans (hz.mono HB.out.size)⟩
    have PL : Hid ((plN pre).length = n) := by show _ = _; rw [HN.out]; simp [plN]
    clear hx hown hb hp hn
    by_cases hlt : i < e
    · go_wp2_with fail
      refine (sizeSpec _ _ _ _ _ _ i e ws L _ (H.out.later HB.out) OK.out (HW.out.later HB.out) he (by omega) hl).mono ?_
      rintro r w2 ⟨rfl, hb2⟩
      have B2 : Hid (Below wr.heap.size wr w2) := hb2
      have B3 : Hid (Below w.heap.size w w2) := HB.out.trans (hb2.mono HB.out.size)
      have TL : Hid (tsz L (seg ws i e) ≤ e - i) := by show _ ≤ _; rw [← SL.out i]; exact tsz_le L _
      obtain ⟨m, hm⟩ : ∃ m, tsz L (seg ws i e) = m := ⟨_, rfl⟩
      have HM : Hid (tsz L (seg ws i e) = m) := hm
      rw [show tsz L ((ws.take e).drop i) = m from hm]
      have hml := TL.out
      rw [hm] at hml
      clear hb2 hm TL
      by_cases h0 : m = 0
      · subst h0
        have HF : Hid (parse L a (seg ws a e) = none) := by show _ = _; rw [HP.out, parse_no L i (by rw [SL.out]; omega) HM.out]; rfl
        go_wp2_with fail
        go_ret2
        exact ⟨_, plN pre, false, rfl, HNW.out _ B2.out, by rw [PL.out]; omega, HX.out, by rw [HF.out]; rfl, fun ts ht => by rw [HF.out] at ht; cases ht⟩
      · have HF : Hid (parse L a (seg ws a e) = (parse L (i + m) (seg ws (i + m) e)).map ((pre ++ [thg L i (seg ws i e)]) ++ ·)) := by
          show _ = _
          rw [HP.out, parse_step L i (ws := seg ws i e) (by rw [HM.out]; exact h0), HM.out, show (seg ws i e).drop m = seg ws (i + m) e from List.drop_drop]
          cases parse L (i + m) (seg ws (i + m) e) with
          | none => rfl
          | some ts => simp
        have HQ : Hid (plN (pre ++ [thg L i (seg ws i e)]) = plN pre ++ [(i : Int)]) := by
          show _ = _
          simp [plN, thg]
        have O2 : Hid (w2.ownsRow w.heap.size 3 1 (.slice g n c) n ((plN pre).map (Value.int .i64))) := own_later HO.out B2.out
        have hsz := B3.out.size
        have hno : n ≤ 1000 := by omega
        have e0 : ((m : Int) == 0) = false := by simp; omega
        have IL : Hid (IntsAt (fun c => w2.heap.size ≤ c) (w2.alloc (.cells #[.int .i64 (i : Int)] 3)) (some ⟨w2.heap.size, 0, none⟩) 1 [(i : Int)]) := lit_at w2 [(i : Int)] _ rfl (by simp) (by intro x hx; simp at hx; omega)
        have BA : Hid (Below w2.heap.size w2 (w2.alloc (.cells #[.int .i64 (i : Int)] 3))) := (Below.refl _ _).alloc (Nat.le_refl _) _
        go_wp2_with (
          at_builtin
          refine list_app rfl _ _ rfl w.heap.size (.slice g n c) n (plN pre) rfl (own_later O2.out BA.out) _ _ _ rfl [(i : Int)] IL.out (by omega) (by omega) (by simp; omega) ?_
          intro a3 c3 w3 hown3 hgrow3 hloc3
          have W3 : Hid (w3.ownsRow w.heap.size 3 1 (.slice a3 (n + 1) c3) (n + 1) ((plN pre ++ [(i : Int)]).map (Value.int .i64))) := hown3
          have B4 : Hid (Below w.heap.size w w3) := (B3.out.trans (BA.out.mono hsz)).trans ((Below.refl _ _).grown hgrow3 (by simp; omega) (fun j e => own_ge O2.out j e.symm))
          clear hown3 hgrow3 hloc3)
        refine ⟨⟨i + m, pre ++ [thg L i (seg ws i e)], a3, n + 1, c3, by omega, by omega, by go_num, rfl, by rw [HN.out]; simp, by omega, ?_, by rw [HQ.out]; exact W3.out, B4.out, HF.out⟩, by simp [intOf]; omega⟩
        rw [HQ.out]
        intro x hx
        rcases List.mem_append.1 hx with h | h
        · exact HX.out x h
        · simp at h; omega
    · have ei : i = e := by omega
      subst ei
      have HF : Hid (parse L a (seg ws a i) = some pre) := by show _ = _; rw [HP.out, parse_nil L i (by rw [SL.out]; omega)]; simp
      go_wp2_with fail
      go_ret2
      exact ⟨_, plN pre, true, rfl, HNW.out _ (Below.refl _ _), by rw [PL.out]; omega, HX.out, by rw [HF.out]; rfl, fun ts ht => by rw [HF.out] at ht; cases ht; rfl⟩

end Go.Proofs.YtjbmcdekhhbiaaaGreat
