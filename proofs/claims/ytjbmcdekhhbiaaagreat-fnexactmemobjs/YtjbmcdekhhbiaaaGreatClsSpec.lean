/-
  The specification's functions on classes and types give what is said of the list of classes, in whatever memory; they write nothing that was there.
-/
import Derived.Test.YtjbmcdekhhbiaaaGreatCls
import Derived.Handy
namespace Go.Proofs.YtjbmcdekhhbiaaaGreat
open Go.ChangeShapes Go.WideShapes Go.ChangeAt Go.RowKit

theorem inSpec (n lo hi : Int) (w : World) : Calls Tryz.prog 61 #[.int .i64 n, .int .i64 lo, .int .i64 hi] w fun e w' => e = .returned (.bool (decide (lo ≤ n) && decide (n ≤ hi))) ∧ w = w' := by
  by_cases h : lo ≤ n
  · go_enter Tryz.func61, Tryz.ntmps61
    go_wp2
    go_ret
    exact ⟨by simp [h], rfl⟩
  · go_enter Tryz.func61, Tryz.ntmps61
    go_wp2
    go_ret
    exact ⟨by simp; omega, rfl⟩

theorem all_take (l : List Int) (p : Int → Bool) (k : Nat) (h : k < l.length) : (l.take (k + 1)).all p = ((l.take k).all p && p (l.getD k 0)) := by
  rw [List.take_succ_eq_append_getElem h, List.all_append, List.getD_eq_getElem?_getD, List.getElem?_eq_getElem h]
  simp
theorem all_false (l : List Int) (p : Int → Bool) (k : Nat) (h : k < l.length) (hp : p (l.getD k 0) = false) : l.all p = false := by
  rw [List.getD_eq_getElem?_getD, List.getElem?_eq_getElem h] at hp
  rw [List.all_eq_false]
  exact ⟨l[k], List.getElem_mem h, by simpa using hp⟩
theorem decAnd (p q : Prop) [Decidable p] [Decidable q] : decide (p ∧ q) = (decide p && decide q) := Bool.decide_and p q
theorem beqCast (m y : Nat) : ((m : Int) == (y : Int)) = (m == y) := by
  rw [Bool.eq_iff_iff]
  simp
  omega

/-- Whether a type is one of fields. -/
theorem fieldSpec (a : Option Addr) (len cap : Nat) (t : Int) (w : World) (hr : len ≤ 1000000000000000) :
    Calls Tryz.prog 129 #[.slice a len cap, .int .i64 t] w fun e w' => e = .returned (.bool (fieldB len t)) ∧ w = w' := by
  by_cases h1 : t = 1
  · subst h1
    go_enter Tryz.func129, Tryz.ntmps129
    go_wp2_with (go_at_call 61; refine (inSpec _ _ _ _).mono ?_; rintro e w' ⟨rfl, rfl⟩)
    go_ret
    exact ⟨by simp [fieldB], rfl⟩
  · have e1 : (t == 1) = false := by simp [h1]
    by_cases h3 : t = 3
    · subst h3
      go_enter Tryz.func129, Tryz.ntmps129
      go_wp2_with (go_at_call 61; refine (inSpec _ _ _ _).mono ?_; rintro e w' ⟨rfl, rfl⟩)
      go_ret
      exact ⟨by simp [fieldB], rfl⟩
    · have e3 : (t == 3) = false := by simp [h3]
      by_cases h4 : t = 4
      · subst h4
        go_enter Tryz.func129, Tryz.ntmps129
        go_wp2_with (go_at_call 61; refine (inSpec _ _ _ _).mono ?_; rintro e w' ⟨rfl, rfl⟩)
        go_ret
        exact ⟨by simp [fieldB], rfl⟩
      · have e4 : (t == 4) = false := by simp [h4]
        have E : Hid (fieldB len t = (decide (8 ≤ t) && decide (t ≤ 8 + len - 1))) := by show _ = _; simp [fieldB, e1, e3, e4]
        go_enter Tryz.func129, Tryz.ntmps129
        go_wp2_with (go_at_call 61; refine (inSpec _ _ _ _).mono ?_; rintro e w' ⟨rfl, rfl⟩)
        go_ret
        exact ⟨by rw [E.out]; rfl, rfl⟩

/-- Whether a class is ok at its place. -/
theorem classSpec (a : Option Addr) (len cap c : Nat) (L : List Cl) (w : World) {D E : Nat → Prop} (h : ClsAt D E w a len L) (hc : c < len) (hr : len ≤ 1000000000000000) :
    Calls Tryz.prog 120 #[.slice a len cap, .int .i64 c] w fun e w' => e = .returned (.bool (classB len c (cl L c))) ∧ Below w.heap.size w w' := by
  obtain ⟨b, off, rfl, h1, fa, fl, fc, h2, h3⟩ : ∃ b off, a = some ⟨b, off, none⟩ ∧ w.cell? ⟨b, off + c * 2, none⟩ = some (.int .i64 (cl L c).1) ∧
      ∃ fa fl fc, w.cell? ⟨b, off + c * 2 + 1, none⟩ = some (.slice fa fl fc) ∧ IntsAt E w fa fl (cl L c).2 := by
    rcases h.cells with h0 | ⟨b, off, ha, _, hcs⟩
    · omega
    · exact ⟨b, off, ha, hcs c hc⟩
  have hb := World.block_lt_of_cell? w _ h1
  simp only at hb
  clear h
  generalize hX : cl L c = X at *
  clear hX
  have HS : Hid (X.2.length = fl) := h3.size
  have hfl := h3.room
  have hfits := h3.fits
  obtain ⟨fb, fo, hfa, hcell⟩ : ∃ fb fo, (0 < fl → fa = some ⟨fb, fo, none⟩ ∧ fb < w.heap.size) ∧ ∀ j, j < fl → w.cell? ⟨fb, fo + j, none⟩ = some (.int .i64 (X.2.getD j 0)) := by
    rcases h3.cells with h0 | ⟨fb, fo, ha, _, hcs⟩
    · exact ⟨0, 0, by omega, by omega⟩
    · exact ⟨fb, fo, fun hp => ⟨ha, World.block_lt_of_cell? w _ (hcs 0 hp)⟩, hcs⟩
  clear h3
  have fin : ∀ (r : Bool), X.2.all (fieldB len) = true → r = headB c X → classB len c X = r := by
    intro r h4 h5
    rw [classB, h4, h5]; rfl
  go_enter Tryz.func120, Tryz.ntmps120
  go_wp2
  go_loop [6] (fun t => ∃ k : Nat, k ≤ fl ∧ t = .int .i64 k ∧ (X.2.take k).all (fieldB len) = true) (fun t => fl - (intOf t).toNat)
  case atStart => exact ⟨0, Nat.zero_le _, rfl, rfl⟩
  case round =>
    obtain ⟨k, hk, rfl, hu⟩ := hrel
    have Hu : Hid ((X.2.take k).all (fieldB len) = true) := hu
    clear hu
    by_cases hlt : k < fl
    · obtain ⟨rfl, hfb⟩ := hfa (by omega)
      have hck := hcell k hlt
      have hbk : Hid ((X.2.take (k + 1)).all (fieldB len) = ((X.2.take k).all (fieldB len) && fieldB len (X.2.getD k 0))) := all_take X.2 (fieldB len) k (by rw [HS.out]; exact hlt)
      have hbf : Hid (fieldB len (X.2.getD k 0) = false → X.2.all (fieldB len) = false) := all_false X.2 (fieldB len) k (by rw [HS.out]; exact hlt)
      generalize X.2.getD k 0 = f at hck hbk hbf
      clear hfa hcell hfits fin
      cases hB : fieldB len f
      · go_wp2_with (go_at_call 129; refine (fieldSpec _ _ _ _ _ hr).mono ?_; rintro e w' ⟨rfl, rfl⟩)
        go_ret
        exact ⟨by rw [classB, hbf.out hB]; rfl, by go_grown⟩
      · go_wp2_with (go_at_call 129; refine (fieldSpec _ _ _ _ _ hr).mono ?_; rintro e w' ⟨rfl, rfl⟩)
        exact ⟨⟨k + 1, by omega, by go_num, by rw [hbk.out, Hu.out, hB]; rfl⟩, by simp [intOf]; omega⟩
    · have ek : k = fl := by omega
      subst ek
      have HA : Hid (X.2.all (fieldB len) = true) := by
        have := Hu.out; rw [← HS.out, List.take_length] at this; exact this
      clear Hu hlt hk
      by_cases hc0 : c = 0
      · subst hc0
        have HF : Hid (classB len 0 X = ((X.1 == -1) && ((k : Int) == 0))) := by
          show _ = _
          rw [fin _ HA.out rfl, headB, if_pos rfl, HS.out, ← beqCast k 0]; rfl
        clear fin HA HS hcell hfits hfa
        cases h5 : (X.1 == -1)
        · go_wp2_with fail
          go_ret
          exact ⟨by rw [HF.out, h5]; rfl, by go_grown⟩
        · go_wp2_with fail
          go_ret
          exact ⟨by rw [HF.out, h5]; rfl, by go_grown⟩
      · have ec0 : ((c : Int) == 0) = false := by simp [hc0]
        by_cases hc1 : c = 1
        · subst hc1
          have HF : Hid (classB len 1 X = ((X.1 == 0) && (((k : Int) == 1) && (X.2.getD 0 0 == 1)))) := by
            show _ = _
            rw [fin _ HA.out rfl, headB, if_neg (by omega), if_pos rfl, HS.out, ← beqCast k 1]; rfl
          cases h5 : (X.1 == 0)
          · clear fin HA HS hcell hfits hfa
            go_wp2_with fail
            go_ret
            exact ⟨by rw [HF.out, h5]; rfl, by go_grown⟩
          · by_cases h6 : k = 1
            · subst h6
              obtain ⟨rfl, hfb⟩ := hfa (by omega)
              have hck := hcell 0 (by omega)
              simp only [Nat.add_zero] at hck
              generalize X.2.getD 0 0 = f at hck HF
              clear fin HA HS hcell hfits hfa
              go_wp2_with fail
              go_ret
              exact ⟨by rw [HF.out, h5]; rfl, by go_grown⟩
            · have e6 : ((k : Int) == 1) = false := by simp; omega
              clear fin HA HS hcell hfits hfa
              go_wp2_with fail
              go_ret
              exact ⟨by rw [HF.out, h5, e6]; rfl, by go_grown⟩
        · have ec1 : ((c : Int) == 1) = false := by simp; omega
          have HF : Hid (classB len c X = ((decide (0 ≤ X.1) && decide (X.1 ≤ (c : Int) - 1)) && decide ((k : Int) ≤ 2))) := by
            show _ = _
            rw [fin _ HA.out rfl, headB, if_neg hc0, if_neg hc1, HS.out, decAnd]
            congr 1
            rw [decide_eq_decide]; omega
          clear fin HA HS hcell hfits hfa
          cases h5 : (decide (0 ≤ X.1) && decide (X.1 ≤ (c : Int) - 1))
          · go_wp2_with (go_at_call 61; refine (inSpec _ _ _ _).mono ?_; rintro e w' ⟨rfl, rfl⟩; rw [h5])
            go_ret
            exact ⟨by rw [HF.out, h5]; rfl, by go_grown⟩
          · go_wp2_with (go_at_call 61; refine (inSpec _ _ _ _).mono ?_; rintro e w' ⟨rfl, rfl⟩; rw [h5])
            go_ret
            exact ⟨by rw [HF.out, h5]; rfl, by go_grown⟩

theorem range_snoc (p : Nat → Bool) (k : Nat) : (List.range (k + 1)).all p = ((List.range k).all p && p k) := by
  rw [List.range_succ, List.all_append]; simp

theorem okSpec (a : Option Addr) (len cap : Nat) (L : List Cl) (w : World) {D E : Nat → Prop} (h : ClsAt D E w a len L) :
    Calls Tryz.prog 94 #[.slice a len cap] w fun e w' => e = .returned (.bool (clsOk L)) ∧ Below w.heap.size w w' := by
  have hr := h.room
  have HS : Hid (L.length = len) := h.size
  have H : Hid (ClsAt D E w a len L) := h
  clear h
  cases h5 : (decide ((2 : Int) ≤ len) && decide ((len : Int) ≤ 5))
  · have HF : Hid (clsOk L = false) := not_ok_len (by rw [HS.out]; simp at h5; omega)
    go_enter Tryz.func94, Tryz.ntmps94
    go_wp2_with (go_at_call 61; refine (inSpec _ _ _ _).mono ?_; rintro e w' ⟨rfl, rfl⟩; rw [h5])
    go_ret
    exact ⟨by rw [HF.out]; rfl, Below.refl _ _⟩
  · have hl2 : 2 ≤ len ∧ len ≤ 5 := by simp at h5; omega
    go_enter Tryz.func94, Tryz.ntmps94
    go_wp2_with (go_at_call 61; refine (inSpec _ _ _ _).mono ?_; rintro e w' ⟨rfl, rfl⟩; rw [h5])
    go_loopw [3] (fun t w' => ∃ k : Nat, k ≤ len ∧ t = .int .i64 k ∧ (List.range k).all (fun c => classB len c (cl L c)) = true ∧ Below w.heap.size w w') (fun t _ => len - (intOf t).toNat)
    case atStart => exact ⟨0, Nat.zero_le _, rfl, rfl, Below.refl _ _⟩
    case round =>
      obtain ⟨k, hk, rfl, hu, hb⟩ := hrel
      have Hu : Hid ((List.range k).all (fun c => classB len c (cl L c)) = true) := hu
      clear hu
      by_cases hlt : k < len
      · cases hB : classB len k (cl L k)
        · have HF : Hid (clsOk L = false) := not_ok_at k (by rw [HS.out]; exact hlt) (by rw [HS.out]; exact hB)
          go_wp2_with (go_at_call 120; refine (classSpec _ _ _ _ L _ (H.out.later hb) hlt (by omega)).mono ?_; rintro e w2 ⟨rfl, hb2⟩; rw [hB])
          go_ret
          exact ⟨by rw [HF.out]; rfl, hb.trans (hb2.mono hb.size)⟩
        · go_wp2_with (go_at_call 120; refine (classSpec _ _ _ _ L _ (H.out.later hb) hlt (by omega)).mono ?_; rintro e w2 ⟨rfl, hb2⟩; rw [hB])
          exact ⟨⟨k + 1, by omega, by go_num, by rw [range_snoc, Hu.out, hB]; rfl, hb.trans (hb2.mono hb.size)⟩, by simp [intOf]; omega⟩
      · have ek : k = len := by omega
        subst ek
        have HF : Hid (clsOk L = true) := ok_of (by rw [HS.out]; exact hl2) (by rw [HS.out]; exact Hu.out)
        go_wp2_with fail
        go_ret
        exact ⟨by rw [HF.out]; rfl, hb⟩

end Go.Proofs.YtjbmcdekhhbiaaaGreat
