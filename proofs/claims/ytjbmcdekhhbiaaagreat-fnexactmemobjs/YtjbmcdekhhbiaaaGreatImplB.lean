/-
  The program's ClassesOk, ClassUp and TypeOk give what is said of the list of classes, in whatever memory; they write nothing that was there.
-/
import Derived.Test.YtjbmcdekhhbiaaaGreatImplA
namespace Go.Proofs.YtjbmcdekhhbiaaaGreat
open Go.ChangeShapes Go.WideShapes Go.ChangeAt Go.RowKit

/-- Whether a type is one of fields. -/
theorem fieldImpl (a : Option Addr) (len cap : Nat) (t : Int) (w : World) (hr : len ≤ 1000000000000000) (t0 : -9223372036854775808 ≤ t) (t1 : t ≤ 9223372036854775807) :
    Calls Tryz.prog 130 #[.slice a len cap, .int .i64 t] w fun e w' => e = .returned (.bool (fieldB len t)) ∧ w = w' := by
  have K : Hid (Calls Tryz.prog 135 #[.slice a len cap, .int .i64 t] w fun e w' => e = .returned (.tuple #[kvOf len t, .bool (tyK len t)]) ∧ w = w') := kindImpl a len cap t w (by omega) t0 t1
  cases hB : tyK len t
  · have HF : Hid (fieldB len t = false) := by
      show _ = _
      unfold tyK at hB
      simp at hB
      exact hB.2.2
    go_enter Tryz.func130, Tryz.ntmps130
    go_wp2_with fail
    refine K.out.mono ?_
    rintro e w' ⟨rfl, rfl⟩
    rw [hB]
    go_wp2_with fail
    go_ret
    exact ⟨by rw [HF.out]; rfl, rfl⟩
  · have HV : Hid (kvOf len t = kv t) := by show _ = _; rw [kvOf, hB]; rfl
    by_cases h0 : t = 0
    · subst h0
      have HF : Hid (fieldB len 0 = false) := by show _ = _; simp [fieldB]
      have k1 := ta_no_no
      have k2 := ta_no_null
      go_enter Tryz.func130, Tryz.ntmps130
      go_wp2_with fail
      refine K.out.mono ?_
      rintro e w' ⟨rfl, rfl⟩
      rw [hB, HV.out, show kv 0 = .iface 153 (.agg #[]) from rfl]
      go_wp2_with fail
      go_ret
      exact ⟨by rw [HF.out]; rfl, rfl⟩
    by_cases h2 : t = 2
    · subst h2
      have HF : Hid (fieldB len 2 = false) := by show _ = _; simp [fieldB]
      have k1 := ta_null_no
      have k2 := ta_null_null
      go_enter Tryz.func130, Tryz.ntmps130
      go_wp2_with fail
      refine K.out.mono ?_
      rintro e w' ⟨rfl, rfl⟩
      rw [hB, HV.out, show kv 2 = .iface 154 (.agg #[]) from rfl]
      go_wp2_with fail
      go_ret
      exact ⟨by rw [HF.out]; rfl, rfl⟩
    have HF : Hid (fieldB len t = true) := by
      show _ = _
      unfold tyK at hB
      simp [h0, h2] at hB
      exact hB
    by_cases h1 : t = 1
    · subst h1
      have k1 := ta_word_no
      have k2 := ta_word_null
      go_enter Tryz.func130, Tryz.ntmps130
      go_wp2_with fail
      refine K.out.mono ?_
      rintro e w' ⟨rfl, rfl⟩
      rw [hB, HV.out, show kv 1 = .iface 155 (.agg #[]) from rfl]
      go_wp2_with fail
      go_ret
      exact ⟨by rw [HF.out]; rfl, rfl⟩
    by_cases h8 : t < 8
    · have k1 := ta_array_no
      have k2 := ta_array_null
      go_enter Tryz.func130, Tryz.ntmps130
      go_wp2_with fail
      refine K.out.mono ?_
      rintro e w' ⟨rfl, rfl⟩
      rw [hB, HV.out, show kv t = .iface 156 (.int .i64 t) from by rw [kv, if_neg h0, if_neg h1, if_neg h2, if_pos h8]]
      go_wp2_with fail
      go_ret
      exact ⟨by rw [HF.out]; rfl, rfl⟩
    · have k1 := ta_class_no
      have k2 := ta_class_null
      go_enter Tryz.func130, Tryz.ntmps130
      go_wp2_with fail
      refine K.out.mono ?_
      rintro e w' ⟨rfl, rfl⟩
      rw [hB, HV.out, show kv t = .iface 157 (.int .i64 (t - 8)) from by rw [kv, if_neg h0, if_neg h1, if_neg h2, if_neg (by omega)]]
      go_wp2_with fail
      go_ret
      exact ⟨by rw [HF.out]; rfl, rfl⟩

/-- The two parts of a class. -/
def supB (c : Nat) (x : Cl) : Bool := if c = 0 then x.1 == -1 else if c = 1 then x.1 == 0 else decide (0 ≤ x.1) && decide (x.1 < c)
def fldsB (n c : Nat) (x : Cl) : Bool := if c = 0 then x.2.length == 0 else if c = 1 then x.2.length == 1 && x.2.getD 0 0 == 1 else decide (x.2.length ≤ 2) && x.2.all (fieldB n)
theorem class_parts (n c : Nat) (x : Cl) : classB n c x = (supB c x && fldsB n c x) := by
  unfold classB headB supB fldsB
  obtain ⟨s, xs⟩ := x
  by_cases h0 : c = 0
  · subst h0
    simp only [if_true]
    match xs with
    | [] => simp
    | y :: ys => simp
  · by_cases h1 : c = 1
    · subst h1
      simp only [if_neg h0, if_true]
      match xs with
      | [] => simp
      | [y] =>
        by_cases hy : y = 1
        · subst hy; simp [fieldB]
        · simp [hy]
      | y :: z :: ys => simp
    · simp only [if_neg h0, if_neg h1]
      rw [Bool.eq_iff_iff]
      simp
      constructor
      · rintro ⟨h, ⟨h2, h3⟩, h4⟩
        exact ⟨⟨h2, by omega⟩, h4, h⟩
      · rintro ⟨⟨h2, h3⟩, h4, h⟩
        exact ⟨h, ⟨h2, by omega⟩, h4⟩

theorem superImpl (a : Option Addr) (len cap c : Nat) (L : List Cl) (w : World) {D E : Nat → Prop} (h : ClsAt D E w a len L) (hc : c < len) (hr : len ≤ 1000000000000000) :
    Calls Tryz.prog 96 #[.slice a len cap, .int .i64 c] w fun e w' => e = .returned (.bool (supB c (cl L c))) ∧ w = w' := by
  obtain ⟨b, off, rfl, h1⟩ : ∃ b off, a = some ⟨b, off, none⟩ ∧ w.cell? ⟨b, off + c * 2, none⟩ = some (.int .i64 (cl L c).1) := by
    rcases h.cells with h0 | ⟨b, off, ha, _, hcs⟩
    · omega
    · exact ⟨b, off, ha, (hcs c hc).1⟩
  clear h
  generalize hX : cl L c = X at *
  clear hX
  by_cases h0 : c = 0
  · subst h0
    simp only [Nat.zero_mul, Nat.add_zero] at h1
    go_enter Tryz.func96, Tryz.ntmps96
    go_wp2
    go_ret
    exact ⟨by rw [supB, if_pos rfl]; rfl, rfl⟩
  have e0 : ((c : Int) == 0) = false := by simp; omega
  by_cases h1' : c = 1
  · subst h1'
    simp only [Nat.one_mul] at h1
    go_enter Tryz.func96, Tryz.ntmps96
    go_wp2
    go_ret
    exact ⟨by rw [supB, if_neg h0, if_pos rfl]; rfl, rfl⟩
  have e1 : ((c : Int) == 1) = false := by simp; omega
  have HF : Hid (supB c X = (decide (0 ≤ X.1) && decide (X.1 < c))) := by show _ = _; rw [supB, if_neg h0, if_neg h1']
  by_cases h2 : 0 ≤ X.1
  · have HG : Hid (supB c X = decide (X.1 < c)) := by show _ = _; rw [HF.out, decide_eq_true h2]; rfl
    go_enter Tryz.func96, Tryz.ntmps96
    go_wp2
    go_ret
    exact ⟨by rw [HG.out]; rfl, rfl⟩
  · have HG : Hid (supB c X = false) := by show _ = _; rw [HF.out, decide_eq_false h2]; rfl
    go_enter Tryz.func96, Tryz.ntmps96
    go_wp2
    go_ret
    exact ⟨by rw [HG.out]; rfl, rfl⟩

/-- Whether all are types of fields. -/
theorem areFieldsImpl (a : Option Addr) (len cap : Nat) (fa : Option Addr) (fl fc : Nat) (xs : List Int) (w : World) {E : Nat → Prop} (h3 : IntsAt E w fa fl xs) (hr : len ≤ 1000000000000000) :
    Calls Tryz.prog 121 #[.slice a len cap, .slice fa fl fc] w fun e w' => e = .returned (.bool (xs.all (fieldB len))) ∧ w = w' := by
  have HS : Hid (xs.length = fl) := h3.size
  have hfl := h3.room
  have FIT : Hid (∀ j, -9223372036854775808 ≤ xs.getD j 0 ∧ xs.getD j 0 ≤ 9223372036854775807) := h3.fits
  obtain ⟨fb, fo, hfa, hcell⟩ : ∃ fb fo, (0 < fl → fa = some ⟨fb, fo, none⟩) ∧ ∀ j, j < fl → w.cell? ⟨fb, fo + j, none⟩ = some (.int .i64 (xs.getD j 0)) := by
    rcases h3.cells with h0 | ⟨fb, fo, ha, _, hcs⟩
    · exact ⟨0, 0, by omega, by omega⟩
    · exact ⟨fb, fo, fun hp => ha, hcs⟩
  clear h3
  go_enter Tryz.func121, Tryz.ntmps121
  go_wp2_with fail
  go_loop [9] (fun t => ∃ k : Nat, k ≤ fl ∧ t = .int .i64 k ∧ (xs.take k).all (fieldB len) = true) (fun t => fl - (intOf t).toNat)
  case atStart => exact ⟨0, Nat.zero_le _, rfl, rfl⟩
  case round =>
    obtain ⟨k, hk, rfl, hu⟩ := hrel
    have Hu : Hid ((xs.take k).all (fieldB len) = true) := hu
    clear hu
    by_cases hlt : k < fl
    · have ha := hfa (by omega)
      subst ha
      have hck := hcell k hlt
      have hbk : Hid ((xs.take (k + 1)).all (fieldB len) = ((xs.take k).all (fieldB len) && fieldB len (xs.getD k 0))) := all_take xs (fieldB len) k (by rw [HS.out]; exact hlt)
      have hbf : Hid (fieldB len (xs.getD k 0) = false → xs.all (fieldB len) = false) := all_false xs (fieldB len) k (by rw [HS.out]; exact hlt)
      have hf := FIT.out k
      generalize xs.getD k 0 = f at hck hbk hbf hf
      clear hfa hcell
      cases hB : fieldB len f
      · go_wp2_with (go_at_call 130; refine (fieldImpl _ _ _ _ _ hr hf.1 hf.2).mono ?_; rintro e w' ⟨rfl, rfl⟩; rw [hB])
        go_ret
        exact ⟨by rw [hbf.out hB]; rfl, rfl⟩
      · go_wp2_with (go_at_call 130; refine (fieldImpl _ _ _ _ _ hr hf.1 hf.2).mono ?_; rintro e w' ⟨rfl, rfl⟩; rw [hB])
        exact ⟨⟨k + 1, by omega, by go_num, by rw [hbk.out, Hu.out, hB]; rfl⟩, by simp [intOf]; omega⟩
    · have ek : k = fl := by omega
      subst ek
      have HA : Hid (xs.all (fieldB len) = true) := by
        have := Hu.out; rw [← HS.out, List.take_length] at this; exact this
      clear Hu hlt hk hcell hfa
      go_wp2_with fail
      go_ret
      exact ⟨by rw [HA.out]; rfl, rfl⟩

theorem fieldsOkImpl (a : Option Addr) (len cap c : Nat) (L : List Cl) (w : World) {D E : Nat → Prop} (h : ClsAt D E w a len L) (hc : c < len) (hr : len ≤ 1000000000000000) :
    Calls Tryz.prog 97 #[.slice a len cap, .int .i64 c] w fun e w' => e = .returned (.bool (fldsB len c (cl L c))) ∧ w = w' := by
  obtain ⟨b, off, rfl, fa, fl, fc, h2, h3⟩ : ∃ b off, a = some ⟨b, off, none⟩ ∧
      ∃ fa fl fc, w.cell? ⟨b, off + c * 2 + 1, none⟩ = some (.slice fa fl fc) ∧ IntsAt E w fa fl (cl L c).2 := by
    rcases h.cells with h0 | ⟨b, off, ha, _, hcs⟩
    · omega
    · exact ⟨b, off, ha, (hcs c hc).2⟩
  clear h
  generalize hX : cl L c = X at *
  clear hX
  have HS : Hid (X.2.length = fl) := h3.size
  have hfl := h3.room
  have FIT : Hid (∀ j, -9223372036854775808 ≤ X.2.getD j 0 ∧ X.2.getD j 0 ≤ 9223372036854775807) := h3.fits
  obtain ⟨fb, fo, hfa, hcell⟩ : ∃ fb fo, (0 < fl → fa = some ⟨fb, fo, none⟩) ∧ ∀ j, j < fl → w.cell? ⟨fb, fo + j, none⟩ = some (.int .i64 (X.2.getD j 0)) := by
    rcases h3.cells with h0 | ⟨fb, fo, ha, _, hcs⟩
    · exact ⟨0, 0, by omega, by omega⟩
    · exact ⟨fb, fo, fun hp => ha, hcs⟩
  have H3 : Hid (IntsAt E w fa fl X.2) := h3
  clear h3
  by_cases h0 : c = 0
  · subst h0
    simp only [Nat.zero_mul, Nat.add_zero] at h2
    have HF : Hid (fldsB len 0 X = ((fl : Int) == 0)) := by show _ = _; rw [fldsB, if_pos rfl, HS.out, ← beqCast fl 0]; rfl
    clear hcell hfa
    go_enter Tryz.func97, Tryz.ntmps97
    go_wp2_with fail
    go_ret
    exact ⟨by rw [HF.out]; rfl, rfl⟩
  have e0 : ((c : Int) == 0) = false := by simp; omega
  by_cases h1' : c = 1
  · subst h1'
    have HF : Hid (fldsB len 1 X = (((fl : Int) == 1) && X.2.getD 0 0 == 1)) := by show _ = _; rw [fldsB, if_neg h0, if_pos rfl, HS.out, ← beqCast fl 1]; rfl
    by_cases h6 : fl = 1
    · subst h6
      have ha := hfa (by omega)
      subst ha
      have hck := hcell 0 (by omega)
      simp only [Nat.add_zero] at hck
      generalize X.2.getD 0 0 = f at hck HF
      clear hcell hfa FIT HS
      simp only [Nat.one_mul] at h2
      go_enter Tryz.func97, Tryz.ntmps97
      go_wp2_with fail
      go_ret
      exact ⟨by rw [HF.out]; rfl, rfl⟩
    · have e6 : ((fl : Int) == 1) = false := by simp; omega
      clear hcell hfa
      simp only [Nat.one_mul] at h2
      go_enter Tryz.func97, Tryz.ntmps97
      go_wp2_with fail
      go_ret
      exact ⟨by rw [HF.out, e6]; rfl, rfl⟩
  have e1 : ((c : Int) == 1) = false := by simp; omega
  have HF : Hid (fldsB len c X = (decide (fl ≤ 2) && X.2.all (fieldB len))) := by show _ = _; rw [fldsB, if_neg h0, if_neg h1', HS.out]
  by_cases h7 : 2 < fl
  · clear hcell hfa
    go_enter Tryz.func97, Tryz.ntmps97
    go_wp2_with fail
    go_ret
    exact ⟨by rw [HF.out, decide_eq_false (show ¬ fl ≤ 2 by omega)]; rfl, rfl⟩
  · have HG : Hid (fldsB len c X = X.2.all (fieldB len)) := by show _ = _; rw [HF.out, decide_eq_true (show fl ≤ 2 by omega)]; rfl
    clear hcell hfa
    go_enter Tryz.func97, Tryz.ntmps97
    go_wp2_with fail
    refine (areFieldsImpl _ _ _ _ _ _ X.2 _ H3.out hr).mono ?_
    rintro e w' ⟨rfl, rfl⟩
    go_wp2_with fail
    go_ret
    exact ⟨by rw [HG.out]; rfl, rfl⟩

theorem okImpl (a : Option Addr) (len cap : Nat) (L : List Cl) (w : World) {D E : Nat → Prop} (h : ClsAt D E w a len L) :
    Calls Tryz.prog 64 #[.slice a len cap] w fun e w' => e = .returned (.bool (clsOk L)) ∧ Below w.heap.size w w' := by
  have hr := h.room
  have HS : Hid (L.length = len) := h.size
  have H : Hid (ClsAt D E w a len L) := h
  clear h
  by_cases h2 : len < 2
  · have HF : Hid (clsOk L = false) := not_ok_len (by rw [HS.out]; omega)
    go_enter Tryz.func64, Tryz.ntmps64
    go_wp2_with fail
    go_ret
    exact ⟨by rw [HF.out]; rfl, Below.refl _ _⟩
  by_cases h5 : 5 < len
  · have HF : Hid (clsOk L = false) := not_ok_len (by rw [HS.out]; omega)
    go_enter Tryz.func64, Tryz.ntmps64
    go_wp2_with fail
    go_ret
    exact ⟨by rw [HF.out]; rfl, Below.refl _ _⟩
  go_enter Tryz.func64, Tryz.ntmps64
  go_wp2_with fail
  go_loop [14] (fun t => ∃ k : Nat, k ≤ len ∧ t = .int .i64 k ∧ (List.range k).all (fun c => classB len c (cl L c)) = true) (fun t => len - (intOf t).toNat)
  case atStart => exact ⟨0, Nat.zero_le _, rfl, rfl⟩
  case round =>
    obtain ⟨k, hk, rfl, hu⟩ := hrel
    have Hu : Hid ((List.range k).all (fun c => classB len c (cl L c)) = true) := hu
    clear hu
    by_cases hlt : k < len
    · cases hA : supB k (cl L k)
      · have HF : Hid (clsOk L = false) := not_ok_at k (by rw [HS.out]; exact hlt) (by rw [HS.out, class_parts, hA]; rfl)
        go_wp2_with (go_at_call 96; refine (superImpl _ _ _ _ L _ H.out hlt (by omega)).mono ?_; rintro e w2 ⟨rfl, rfl⟩; rw [hA])
        go_ret
        exact ⟨by rw [HF.out]; rfl, Below.refl _ _⟩
      · cases hB : fldsB len k (cl L k)
        · have HF : Hid (clsOk L = false) := not_ok_at k (by rw [HS.out]; exact hlt) (by rw [HS.out, class_parts, hA, hB]; rfl)
          go_wp2_with (first | (go_at_call 96; refine (superImpl _ _ _ _ L _ H.out hlt (by omega)).mono ?_; rintro e w2 ⟨rfl, rfl⟩; rw [hA]) | (go_at_call 97; refine (fieldsOkImpl _ _ _ _ L _ H.out hlt (by omega)).mono ?_; rintro e w2 ⟨rfl, rfl⟩; rw [hB]))
          go_ret
          exact ⟨by rw [HF.out]; rfl, Below.refl _ _⟩
        · have hC : Hid (classB len k (cl L k) = true) := by show _ = _; rw [class_parts, hA, hB]; rfl
          go_wp2_with (first | (go_at_call 96; refine (superImpl _ _ _ _ L _ H.out hlt (by omega)).mono ?_; rintro e w2 ⟨rfl, rfl⟩; rw [hA]) | (go_at_call 97; refine (fieldsOkImpl _ _ _ _ L _ H.out hlt (by omega)).mono ?_; rintro e w2 ⟨rfl, rfl⟩; rw [hB]))
          exact ⟨⟨k + 1, by omega, by go_num, by rw [range_snoc, Hu.out, hC.out]; rfl⟩, by simp [intOf]; omega⟩
    · have ek : k = len := by omega
      subst ek
      have HF : Hid (clsOk L = true) := ok_of (by rw [HS.out]; omega) (by rw [HS.out]; exact Hu.out)
      go_wp2_with fail
      go_ret
      exact ⟨by rw [HF.out]; rfl, Below.refl _ _⟩

theorem isB_has (L : List Cl) (len : Nat) (h : L.length = len) (c : Int) (ok : clsOk L = true) : isB L c = (decide (0 ≤ c) && decide (c < len)) := by
  rw [isB, ok, h, Bool.true_and]
  congr 1
  rw [decide_eq_decide]; omega

end Go.Proofs.YtjbmcdekhhbiaaaGreat
