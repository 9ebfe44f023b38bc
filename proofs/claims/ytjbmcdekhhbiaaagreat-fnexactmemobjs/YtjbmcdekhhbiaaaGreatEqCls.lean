/-
  Whether two slices of classes are the same, and how many classes and fields there are; of every slice of classes in memory.
-/
import Derived.Test.YtjbmcdekhhbiaaaGreatExCls
import Derived.Deep.RegionWith
namespace Go.Proofs.YtjbmcdekhhbiaaaGreat
open Go.ChangeShapes Go.WideShapes Go.ChangeAt Go.RowKit

theorem below_drawn {w w1 : World} (n : Nat) (h : w1 = w.drewN n) : Below w.heap.size w w1 := by subst h; exact below_drewN (Below.refl _ _) n

theorem eqCls1 (s t : Int) (fa ga : Option Addr) (fl fc gl gc : Nat) (xs ys : List Int) (w : World) {D E : Nat → Prop} (hx : IntsAt D w fa fl xs) (hy : IntsAt E w ga gl ys) :
    Calls Tryz.prog 39 #[.agg #[.int .i64 s, .slice fa fl fc], .agg #[.int .i64 t, .slice ga gl gc]] w fun e w' => e = .returned (.bool (decide (s = t) && decide (xs = ys))) ∧ Below w.heap.size w w' := by
  have HX : Hid (IntsAt D w fa fl xs) := hx
  have HY : Hid (IntsAt E w ga gl ys) := hy
  clear hx hy
  cases hst : (s != t)
  · have e1 : decide (s = t) = true := by simpa using hst
    go_enter Tryz.func39, Tryz.ntmps39
    go_wp2_with fail
    refine (eqInts _ _ _ xs _ _ _ ys _ (D := D) (E := E) (HX.out.later (by go_grown)) (HY.out.later (by go_grown))).mono ?_
    rintro e w1 ⟨rfl, n, hw⟩
    have hb := below_drawn n hw
    have HB : Hid (Below w.heap.size w w1) := Below.trans (by go_grown) (hb.mono (by simp; omega))
    clear hb hw
    cases hxy : decide (xs = ys)
    · go_wp2_with fail
      go_ret
      exact ⟨by rw [e1, hxy]; rfl, HB.out⟩
    · go_wp2_with fail
      go_ret
      exact ⟨by rw [e1, hxy]; rfl, HB.out⟩
  · have e1 : decide (s = t) = false := by simpa using hst
    go_enter Tryz.func39, Tryz.ntmps39
    go_wp2_with fail
    go_ret
    exact ⟨by rw [e1]; rfl, by go_grown⟩

theorem cl_ext (L M : List Cl) (hl : L.length = M.length) (h : ∀ j, j < L.length → cl L j = cl M j) : L = M := by
  apply List.ext_getElem hl
  intro i h1 h2
  have := h i h1
  rwa [cl, cl, List.getD_eq_getElem?_getD, List.getD_eq_getElem?_getD, List.getElem?_eq_getElem h1, List.getElem?_eq_getElem h2, Option.getD_some, Option.getD_some] at this

theorem eqCls (a : Option Addr) (la ca : Nat) (L : List Cl) (b : Option Addr) (lb cb : Nat) (M : List Cl) (w : World) {D E D2 E2 : Nat → Prop} (hx : ClsAt D E w a la L) (hy : ClsAt D2 E2 w b lb M) :
    Calls Tryz.prog 13 #[.slice a la ca, .slice b lb cb] w fun e w' => e = .returned (.bool (decide (L = M))) ∧ Below w.heap.size w w' := by
  have hra := hx.room
  have hrb := hy.room
  have HX : Hid (ClsAt D E w a la L) := hx
  have HY : Hid (ClsAt D2 E2 w b lb M) := hy
  clear hx hy
  by_cases hl : la = lb
  · subst hl
    have e1 : ((la : Int) != la) = false := by simp
    go_enter Tryz.func13, Tryz.ntmps13
    go_wp2_with fail
    go_loopw [5] (fun t wr => ∃ k : Nat, k ≤ la ∧ t = .int .i64 k ∧ (∀ j, j < k → cl L j = cl M j) ∧ Below w.heap.size w wr) (fun t _ => la - (intOf t).toNat)
    case atStart => exact ⟨0, Nat.zero_le _, rfl, by omega, Below.refl _ _⟩
    case round =>
      obtain ⟨k, hk, rfl, hu, hb⟩ := hrel
      have HU : Hid (∀ j, j < k → cl L j = cl M j) := hu
      have HB : Hid (Below w.heap.size w wr) := hb
      clear hu hb
      by_cases hlt : k < la
      · obtain ⟨b1, o1, rfl, hc1, fa, fl, fc, hd1, hI1⟩ : ∃ b off, a = some ⟨b, off, none⟩ ∧ wr.cell? ⟨b, off + k * 2, none⟩ = some (.int .i64 (cl L k).1) ∧ ∃ fa fl fc, wr.cell? ⟨b, off + k * 2 + 1, none⟩ = some (.slice fa fl fc) ∧ IntsAt E wr fa fl (cl L k).2 := by
          rcases (HX.out.later HB.out).cells with h0 | ⟨b, off, ha, _, hc⟩
          · omega
          · exact ⟨b, off, ha, hc k hlt⟩
        obtain ⟨b2, o2, rfl, hc2, ga, gl, gc, hd2, hI2⟩ : ∃ c off, b = some ⟨c, off, none⟩ ∧ wr.cell? ⟨c, off + k * 2, none⟩ = some (.int .i64 (cl M k).1) ∧ ∃ fa fl fc, wr.cell? ⟨c, off + k * 2 + 1, none⟩ = some (.slice fa fl fc) ∧ IntsAt E2 wr fa fl (cl M k).2 := by
          rcases (HY.out.later HB.out).cells with h0 | ⟨c, off, ha, _, hc⟩
          · omega
          · exact ⟨c, off, ha, hc k hlt⟩
        have HI1 : Hid (IntsAt E wr fa fl (cl L k).2) := hI1
        have HI2 : Hid (IntsAt E2 wr ga gl (cl M k).2) := hI2
        clear hI1 hI2
        cases hne : (decide ((cl L k).1 = (cl M k).1) && decide ((cl L k).2 = (cl M k).2))
        · have HF : Hid (decide (L = M) = false) := by
            show _ = _
            rw [decide_eq_false_iff_not]
            intro e
            rw [e] at hne
            simp at hne
          go_wp2_with fail
          go_region_with (go_at_call 39; refine (eqCls1 _ _ _ _ _ _ _ _ _ _ _ (HI1.out.later (by go_grown)) (HI2.out.later (by go_grown))).mono ?_; rintro e w2 ⟨rfl, hb2⟩; rw [hne])
          all_goals
            have hb3 : Below w.heap.size w w2 := HB.out.trans (Below.mono (Below.trans (below_drawn 1 rfl) hb2) HB.out.size)
            clear hb2
            go_wp2_with fail
            go_ret
            exact ⟨by rw [HF.out]; rfl, hb3⟩
        · have HE : Hid (cl L k = cl M k) := by
            simp at hne
            exact Prod.ext hne.1 hne.2
          go_wp2_with fail
          go_region_with (go_at_call 39; refine (eqCls1 _ _ _ _ _ _ _ _ _ _ _ (HI1.out.later (by go_grown)) (HI2.out.later (by go_grown))).mono ?_; rintro e w2 ⟨rfl, hb2⟩; rw [hne])
          all_goals
            have hb3 : Below w.heap.size w w2 := HB.out.trans (Below.mono (Below.trans (below_drawn 1 rfl) hb2) HB.out.size)
            clear hb2
            go_wp2_with fail
            refine ⟨⟨k + 1, by omega, by go_num, fun j hj => ?_, hb3⟩, by simp [intOf]; omega⟩
            by_cases e : j = k
            · subst e; exact HE.out
            · exact HU.out j (by omega)
      · have ek : k = la := by omega
        subst ek
        have HF : Hid (decide (L = M) = true) := by
          show _ = _
          rw [decide_eq_true_iff]
          exact cl_ext L M (by rw [HX.out.size, HY.out.size]) (by rw [HX.out.size]; exact HU.out)
        go_wp2_with fail
        go_ret
        exact ⟨by rw [HF.out]; rfl, HB.out⟩
  · have e1 : ((la : Int) != lb) = true := by simp; omega
    have HF : Hid (decide (L = M) = false) := by
      show _ = _
      rw [decide_eq_false_iff_not]
      intro e
      exact hl (by rw [← HX.out.size, ← HY.out.size, e])
    go_enter Tryz.func13, Tryz.ntmps13
    go_wp2_with fail
    go_ret
    exact ⟨by rw [HF.out]; rfl, Below.refl _ _⟩

theorem szCls1 (s : Int) (fa : Option Addr) (fl fc : Nat) (l : Int) (w : World) (hr : fl ≤ 9223372036854775807) (l0 : 0 ≤ l) (l1 : l ≤ 1048576) :
    Calls Tryz.prog 24 #[.agg #[.int .i64 s, .slice fa fl fc], .int .i64 l] w fun e w' => e = .returned (.int .i64 (leftOf l fl)) ∧ Below w.heap.size w w' := by
  by_cases h : l < fl
  · have HF : leftOf l fl = -1 := if_pos h
    go_enter Tryz.func24, Tryz.ntmps24
    go_wp2_with (go_at_call 25; refine (szInts _ _ _ _ _ hr l0 l1).mono ?_; rintro e w1 ⟨rfl, rfl⟩; rw [HF])
    go_ret
    exact ⟨by rw [HF]; rfl, by go_grown⟩
  · have HF : leftOf l fl = l - fl := if_neg h
    have h0 : 0 ≤ l - fl := by omega
    go_enter Tryz.func24, Tryz.ntmps24
    go_wp2_with (go_at_call 25; refine (szInts _ _ _ _ _ hr l0 l1).mono ?_; rintro e w1 ⟨rfl, rfl⟩; rw [HF])
    go_ret
    exact ⟨by rw [HF]; rfl, by go_grown⟩

/-- Where not all are within so many the law says nothing more; else each list is within. -/
theorem szCls (a : Option Addr) (len cap : Nat) (L : List Cl) (w : World) {D E : Nat → Prop} (h : ClsAt D E w a len L) :
    Calls Tryz.prog 6 #[.slice a len cap, .int .i64 1048576] w fun e w' => ∃ r : Int, e = .returned (.int .i64 r) ∧ -1 ≤ r ∧ r ≤ 1048576 ∧ (0 ≤ r → len ≤ 1048576 ∧ ∀ i, i < len → (cl L i).2.length ≤ 1048576) ∧ Below w.heap.size w w' := by
  have hr := h.room
  have H : Hid (ClsAt D E w a len L) := h
  clear h
  by_cases hl : len ≤ 1048576
  · go_enter Tryz.func6, Tryz.ntmps6
    go_wp2_with fail
    go_loopw [1, 5] (fun u t wr => ∃ (k : Nat) (r : Int), k ≤ len ∧ u = .int .i64 r ∧ t = .int .i64 k ∧ 0 ≤ r ∧ r ≤ 1048576 ∧ (∀ i, i < k → (cl L i).2.length ≤ 1048576) ∧ Below w.heap.size w wr) (fun _ t _ => len - (intOf t).toNat)
    case atStart => exact ⟨0, _, Nat.zero_le _, rfl, rfl, by omega, by omega, by omega, Below.refl _ _⟩
    case round =>
      obtain ⟨k, r, hk, rfl, rfl, r0, r1, hu, hb⟩ := hrel
      have HU : Hid (∀ i, i < k → (cl L i).2.length ≤ 1048576) := hu
      have HB : Hid (Below w.heap.size w wr) := hb
      clear hu hb
      by_cases hlt : k < len
      · obtain ⟨b1, o1, rfl, hc1, fa, fl, fc, hd1, hI1⟩ : ∃ b off, a = some ⟨b, off, none⟩ ∧ wr.cell? ⟨b, off + k * 2, none⟩ = some (.int .i64 (cl L k).1) ∧ ∃ fa fl fc, wr.cell? ⟨b, off + k * 2 + 1, none⟩ = some (.slice fa fl fc) ∧ IntsAt E wr fa fl (cl L k).2 := by
          rcases (H.out.later HB.out).cells with h0 | ⟨b, off, ha, _, hc⟩
          · omega
          · exact ⟨b, off, ha, hc k hlt⟩
        have hfr := hI1.room
        have HS : Hid ((cl L k).2.length = fl) := hI1.size
        clear hI1
        by_cases h : r < fl
        · have HF : leftOf r fl = -1 := if_pos h
          go_wp2_with (go_at_call 24; refine (szCls1 _ _ _ _ _ _ hfr r0 r1).mono ?_; rintro e w2 ⟨rfl, hb2⟩; rw [HF])
          go_ret
          exact ⟨-1, rfl, by omega, by omega, by omega, HB.out.trans (hb2.mono HB.out.size)⟩
        · have HF : leftOf r fl = r - fl := if_neg h
          have h0 : 0 ≤ r - fl := by omega
          go_wp2_with (go_at_call 24; refine (szCls1 _ _ _ _ _ _ hfr r0 r1).mono ?_; rintro e w2 ⟨rfl, hb2⟩; rw [HF])
          refine ⟨⟨k + 1, r - fl, by omega, rfl, by go_num, by omega, by omega, fun j hj => ?_, HB.out.trans (hb2.mono HB.out.size)⟩, by simp [intOf]; omega⟩
          by_cases e : j = k
          · subst e; rw [HS.out]; omega
          · exact HU.out j (by omega)
      · have ek : k = len := by omega
        subst ek
        go_wp2_with fail
        go_ret
        exact ⟨r, rfl, by omega, by omega, fun _ => ⟨hl, HU.out⟩, HB.out⟩
  · go_enter Tryz.func6, Tryz.ntmps6
    go_wp2_with fail
    go_ret
    exact ⟨-1, rfl, by omega, by omega, by omega, Below.refl _ _⟩

end Go.Proofs.YtjbmcdekhhbiaaaGreat
