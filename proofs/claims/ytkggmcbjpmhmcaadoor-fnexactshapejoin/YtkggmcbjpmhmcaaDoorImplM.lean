/-
  The program's search of the least type in which two are gives what is said of the list of classes, in whatever memory; it writes nothing that was there.
-/
import Derived.Test.YtkggmcbjpmhmcaaDoorImplJ
namespace Go.Proofs.YtkggmcbjpmhmcaaDoor
open Go.ChangeShapes Go.WideShapes Go.ChangeAt Go.RowKit

theorem Ty.kt {L : List Cl} {t : Int} (h : Ty L t) : KT t := ⟨h.1, h.3⟩
theorem ks_ty {L : List Cl} {len : Nat} (ok : clsOk L = true) (hs : L.length = len) {t : Int} (h : t ∈ ks len (8 + len)) : Ty L t := by
  have := (ks_mem h).1
  exact Ty.of (by unfold tyB; rw [ok, hs]; exact this)

/-- One round of the search. -/
theorem near_step {L : List Cl} (ok : clsOk L = true) {x y m c : Int} {xs : List Int} {j : Nat} (hx : Ty L x) (hy : Ty L y) (hm : Ty L m) (hc : Ty L c) (hj : xs[j]? = some c) (h1 : inB L x m = true) (h2 : inB L y m = true)
    (h : meetV L x y ∈ xs.take j → m = meetV L x y) :
    ((inB L x c && inB L y c && inB L c m) = false → (meetV L x y ∈ xs.take (j + 1) → m = meetV L x y)) ∧
    (inB L x c = true → inB L y c = true → inB L c m = true → (meetV L x y ∈ xs.take (j + 1) → c = meetV L x y)) := by
  obtain ⟨m1, m2, m3⟩ := meet_least ok hx hy
  have hM := meet_ty ok hx hy
  have e : ∀ z, z ∈ xs.take (j + 1) → z ∈ xs.take j ∨ z = c := by
    intro z hz
    rw [List.take_add_one, hj] at hz
    simpa using hz
  refine ⟨fun hf hz => ?_, fun a b d hz => ?_⟩
  · rcases e _ hz with h3 | h3
    · exact h h3
    · have := m3 m hm h1 h2
      rw [← h3, m1, m2, this] at hf
      cases hf
  · rcases e _ hz with h3 | h3
    · rw [h h3] at d
      exact in_anti ok hc hM d (m3 c hc a b)
    · exact h3.symm
theorem near_first {L : List Cl} (ok : clsOk L = true) {x y c : Int} {xs : List Int} {j : Nat} (hx : Ty L x) (hy : Ty L y) (hj : xs[j]? = some c) (h : meetV L x y ∉ xs.take j) :
    ((inB L x c && inB L y c) = false → meetV L x y ∉ xs.take (j + 1)) ∧ (meetV L x y ∈ xs.take (j + 1) → c = meetV L x y) := by
  obtain ⟨m1, m2, _⟩ := meet_least ok hx hy
  have e : ∀ z, z ∈ xs.take (j + 1) → z ∈ xs.take j ∨ z = c := by
    intro z hz
    rw [List.take_add_one, hj] at hz
    simpa using hz
  refine ⟨fun hf hz => ?_, fun hz => ?_⟩
  · rcases e _ hz with h3 | h3
    · exact h h3
    · rw [← h3, m1, m2] at hf
      cases hf
  · rcases e _ hz with h3 | h3
    · exact absurd h3 h
    · exact h3.symm

set_option maxHeartbeats 4000000 in
theorem nearKindImpl (a : Option Addr) (len cap n G c2 : Nat) (x y : Int) (xs : List Int) (L : List Cl) (w : World) {D E : Nat → Prop} (h : ClsAt D E w a len L) (ok : clsOk L = true) (hx : Ty L x) (hy : Ty L y)
    (hn : xs.length = n) (hn2 : n ≤ 13) (hT : ∀ c ∈ xs, Ty L c) (hM : meetV L x y ∈ xs) (hrow : ∀ j c, xs[j]? = some c → w.cell? ⟨G, j, none⟩ = some (kv c)) :
    Calls Tryd.prog 67 #[.slice (some ⟨G, 0, none⟩) n c2, .func (.func 69) #[.slice a len cap] #[], kv x, kv y] w fun e w' => e = .returned (.tuple #[kv (meetV L x y), .bool true]) ∧ Below w.heap.size w w' := by
  have HS : Hid (L.length = len) := h.size
  have HN : Hid (xs.length = n) := hn
  have OK : Hid (clsOk L = true) := ok
  have H : Hid (ClsAt D E w a len L) := h
  have HX : Hid (Ty L x) := hx
  have HY : Hid (Ty L y) := hy
  have HT : Hid (∀ c ∈ xs, Ty L c) := hT
  have HM : Hid (meetV L x y ∈ xs) := hM
  have HR : Hid (∀ wr, Below w.heap.size w wr → ∀ j c, xs[j]? = some c → wr.cell? ⟨G, j, none⟩ = some (kv c)) := fun wr hb j c hj => by
    rw [hb.cell (World.block_lt_of_cell? w _ (hrow j c hj))]; exact hrow j c hj
  have WI : Hid (∀ p q, Ty L p → Ty L q → ∀ wr, Below w.heap.size w wr → Calls Tryd.prog 69 #[.slice a len cap, kv p, kv q] wr fun e w' => e = .returned (.bool (inB L p q)) ∧ Below w.heap.size w w') := by
    intro p q hp hq wr hb
    refine (withinImpl a len cap p q L wr (H.out.later hb) OK.out hp.kt (by rw [← HS.out]; exact hp.2) hq.kt (by rw [← HS.out]; exact hq.2)).mono ?_
    rintro e w' ⟨he, hb'⟩
    exact ⟨he, hb.trans (hb'.mono hb.size)⟩
  obtain ⟨tx, vx, ex⟩ := kv_is x
  obtain ⟨ty, vy, ey⟩ := kv_is y
  have WX : Hid (∀ q, Ty L q → ∀ wr, Below w.heap.size w wr → Calls Tryd.prog 69 #[.slice a len cap, .iface tx vx, kv q] wr fun e w' => e = .returned (.bool (inB L x q)) ∧ Below w.heap.size w w') := by
    intro q; rw [← ex]; exact WI.out x q HX.out
  have WY : Hid (∀ q, Ty L q → ∀ wr, Below w.heap.size w wr → Calls Tryd.prog 69 #[.slice a len cap, .iface ty vy, kv q] wr fun e w' => e = .returned (.bool (inB L y q)) ∧ Below w.heap.size w w') := by
    intro q; rw [← ey]; exact WI.out y q HY.out
  rw [ex, ey]
  clear h ok hrow hx hy hn hT hM ex ey
  go_enter Tryd.func67, Tryd.ntmps67
  go_wp2_with fail
  go_loopw [10, 11, 16] (fun s f t wr => ∃ k : Nat, k ≤ n ∧ t = .int .i64 k ∧ Below w.heap.size w wr ∧ ((s = .nilIface ∧ f = .bool false ∧ meetV L x y ∉ xs.take k) ∨ ∃ m : Int, Ty L m ∧ s = kv m ∧ f = .bool true ∧ inB L x m = true ∧ inB L y m = true ∧ (meetV L x y ∈ xs.take k → m = meetV L x y))) (fun _ _ t _ => n - (intOf t).toNat)
  case atStart => exact ⟨0, Nat.zero_le _, rfl, Below.refl _ _, .inl ⟨rfl, rfl, by simp⟩⟩
  case round =>
    obtain ⟨k, hk, rfl, hb, hst⟩ := hrel
    have HB : Hid (Below w.heap.size w wr) := hb
    clear hb
    by_cases hlt : k < n
    · obtain ⟨c, hc⟩ : ∃ c, xs[k]? = some c := ⟨xs[k]'(by rw [HN.out]; exact hlt), List.getElem?_eq_getElem _⟩
      have HC : Hid (xs[k]? = some c) := hc
      have TC : Hid (Ty L c) := HT.out c (List.mem_of_getElem? hc)
      have hcell := HR.out wr HB.out k c hc
      obtain ⟨tc, vc, ec⟩ := kv_is c
      rw [ec] at hcell
      have EC : Hid (kv c = .iface tc vc) := ec
      have XC : Hid (∀ wr, Below w.heap.size w wr → Calls Tryd.prog 69 #[.slice a len cap, .iface tx vx, .iface tc vc] wr fun e w' => e = .returned (.bool (inB L x c)) ∧ Below w.heap.size w w') := by
        rw [← EC.out]; exact WX.out c TC.out
      have YC : Hid (∀ wr, Below w.heap.size w wr → Calls Tryd.prog 69 #[.slice a len cap, .iface ty vy, .iface tc vc] wr fun e w' => e = .returned (.bool (inB L y c)) ∧ Below w.heap.size w w') := by
        rw [← EC.out]; exact WY.out c TC.out
      clear hc ec
      rcases hst with ⟨rfl, rfl, hnot⟩ | ⟨m, hm, rfl, rfl, hxm, hym, hj⟩
      · obtain ⟨F1, F2⟩ := near_first OK.out HX.out HY.out HC.out hnot
        have G1 : Hid ((inB L x c && inB L y c) = false → meetV L x y ∉ xs.take (k + 1)) := F1
        have G2 : Hid (meetV L x y ∈ xs.take (k + 1) → c = meetV L x y) := F2
        clear F1 F2 hnot
        cases hA : inB L x c
        · have HG : Hid _ := G1.out (by rw [hA]; rfl)
          go_wp2_with fail
          refine (XC.out _ HB.out).mono ?_
          rintro e w1 ⟨rfl, hb1⟩
          rw [hA]
          go_wp2_with fail
          exact ⟨⟨k + 1, by omega, by go_num, hb1, .inl ⟨rfl, rfl, HG.out⟩⟩, by simp [intOf]; omega⟩
        · cases hB : inB L y c
          · have HG : Hid _ := G1.out (by rw [hA, hB]; rfl)
            go_wp2_with fail
            refine (XC.out _ HB.out).mono ?_
            rintro e w1 ⟨rfl, hb1⟩
            rw [hA]
            go_wp2_with fail
            refine (YC.out _ hb1).mono ?_
            rintro e w2 ⟨rfl, hb2⟩
            rw [hB]
            go_wp2_with fail
            exact ⟨⟨k + 1, by omega, by go_num, hb2, .inl ⟨rfl, rfl, HG.out⟩⟩, by simp [intOf]; omega⟩
          · go_wp2_with fail
            refine (XC.out _ HB.out).mono ?_
            rintro e w1 ⟨rfl, hb1⟩
            rw [hA]
            go_wp2_with fail
            refine (YC.out _ hb1).mono ?_
            rintro e w2 ⟨rfl, hb2⟩
            rw [hB]
            go_wp2_with fail
            exact ⟨⟨k + 1, by omega, by go_num, hb2, .inr ⟨c, TC.out, EC.out.symm, rfl, hA, hB, G2.out⟩⟩, by simp [intOf]; omega⟩
      · obtain ⟨F1, F2⟩ := near_step OK.out HX.out HY.out hm TC.out HC.out hxm hym hj
        have G1 : Hid ((inB L x c && inB L y c && inB L c m) = false → (meetV L x y ∈ xs.take (k + 1) → m = meetV L x y)) := F1
        have G2 : Hid (inB L x c = true → inB L y c = true → inB L c m = true → (meetV L x y ∈ xs.take (k + 1) → c = meetV L x y)) := F2
        have XM : Hid (inB L x m = true) := hxm
        have YM : Hid (inB L y m = true) := hym
        have TM : Hid (Ty L m) := hm
        obtain ⟨tm, vm, em⟩ := kv_is m
        have CM : Hid (∀ wr, Below w.heap.size w wr → Calls Tryd.prog 69 #[.slice a len cap, .iface tc vc, .iface tm vm] wr fun e w' => e = .returned (.bool (inB L c m)) ∧ Below w.heap.size w w') := by
          rw [← EC.out, ← em]; exact WI.out c m TC.out TM.out
        have EM : Hid (kv m = .iface tm vm) := em
        rw [em]
        clear F1 F2 hj hxm hym hm em
        cases hA : inB L x c
        · have HG : Hid _ := G1.out (by rw [hA]; rfl)
          go_wp2_with fail
          refine (XC.out _ HB.out).mono ?_
          rintro e w1 ⟨rfl, hb1⟩
          rw [hA]
          go_wp2_with fail
          exact ⟨⟨k + 1, by omega, by go_num, hb1, .inr ⟨m, TM.out, EM.out.symm, rfl, XM.out, YM.out, HG.out⟩⟩, by simp [intOf]; omega⟩
        · cases hB : inB L y c
          · have HG : Hid _ := G1.out (by rw [hA, hB]; rfl)
            go_wp2_with fail
            refine (XC.out _ HB.out).mono ?_
            rintro e w1 ⟨rfl, hb1⟩
            rw [hA]
            go_wp2_with fail
            refine (YC.out _ hb1).mono ?_
            rintro e w2 ⟨rfl, hb2⟩
            rw [hB]
            go_wp2_with fail
            exact ⟨⟨k + 1, by omega, by go_num, hb2, .inr ⟨m, TM.out, EM.out.symm, rfl, XM.out, YM.out, HG.out⟩⟩, by simp [intOf]; omega⟩
          · cases hC : inB L c m
            · have HG : Hid _ := G1.out (by rw [hA, hB, hC]; rfl)
              go_wp2_with fail
              refine (XC.out _ HB.out).mono ?_
              rintro e w1 ⟨rfl, hb1⟩
              rw [hA]
              go_wp2_with fail
              refine (YC.out _ hb1).mono ?_
              rintro e w2 ⟨rfl, hb2⟩
              rw [hB]
              go_wp2_with fail
              refine (CM.out _ hb2).mono ?_
              rintro e w3 ⟨rfl, hb3⟩
              rw [hC]
              go_wp2_with fail
              exact ⟨⟨k + 1, by omega, by go_num, hb3, .inr ⟨m, TM.out, EM.out.symm, rfl, XM.out, YM.out, HG.out⟩⟩, by simp [intOf]; omega⟩
            · have HG : Hid _ := G2.out hA hB hC
              go_wp2_with fail
              refine (XC.out _ HB.out).mono ?_
              rintro e w1 ⟨rfl, hb1⟩
              rw [hA]
              go_wp2_with fail
              refine (YC.out _ hb1).mono ?_
              rintro e w2 ⟨rfl, hb2⟩
              rw [hB]
              go_wp2_with fail
              refine (CM.out _ hb2).mono ?_
              rintro e w3 ⟨rfl, hb3⟩
              rw [hC]
              go_wp2_with fail
              exact ⟨⟨k + 1, by omega, by go_num, hb3, .inr ⟨c, TC.out, EC.out.symm, rfl, hA, hB, HG.out⟩⟩, by simp [intOf]; omega⟩
    · have ek : k = n := by omega
      subst ek
      have HM' : meetV L x y ∈ xs.take k := by rw [← HN.out, List.take_length]; exact HM.out
      rcases hst with ⟨rfl, _, hnot⟩ | ⟨m, hm, rfl, rfl, hxm, hym, hj⟩
      · exact absurd HM' hnot
      · have HG : Hid (m = meetV L x y) := hj HM'
        obtain ⟨tm, vm, em⟩ := kv_is m
        have EM : Hid (kv (meetV L x y) = .iface tm vm) := by show _ = _; rw [← HG.out, em]
        rw [em]
        clear hj hxm hym HM' em
        go_wp2_with fail
        go_ret2
        exact ⟨by rw [EM.out]; rfl, HB.out⟩

end Go.Proofs.YtkggmcbjpmhmcaaDoor
