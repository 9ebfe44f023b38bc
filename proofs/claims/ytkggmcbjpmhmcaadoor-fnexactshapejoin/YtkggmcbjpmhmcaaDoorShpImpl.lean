/-
  The program's ShapeOk gives what is said of a shape, in whatever memory; it writes nothing that was there.
-/
import Derived.Test.YtkggmcbjpmhmcaaDoorShpSpec
import Derived.Test.YtkggmcbjpmhmcaaDoorImplB
namespace Go.Proofs.YtkggmcbjpmhmcaaDoor
open Go.ChangeShapes Go.WideShapes Go.ChangeAt Go.RowKit

/-- Whether all are types. -/
theorem areTypesImpl (a : Option Addr) (len cap : Nat) (fa : Option Addr) (fl fc : Nat) (xs : List Int) (w : World) {E : Nat → Prop} (h3 : IntsAt E w fa fl xs) (hr : len ≤ 9223372036854775807) :
    Calls Tryd.prog 65 #[.slice a len cap, .slice fa fl fc] w fun e w' => e = .returned (.bool (xs.all (tyK len))) ∧ w = w' := by
  have HS : Hid (xs.length = fl) := h3.size
  have hfl := h3.room
  have FIT : Hid (∀ j, -9223372036854775808 ≤ xs.getD j 0 ∧ xs.getD j 0 ≤ 9223372036854775807) := h3.fits
  obtain ⟨fb, fo, hfa, hcell⟩ : ∃ fb fo, (0 < fl → fa = some ⟨fb, fo, none⟩) ∧ ∀ j, j < fl → w.cell? ⟨fb, fo + j, none⟩ = some (.int .i64 (xs.getD j 0)) := by
    rcases h3.cells with h0 | ⟨fb, fo, ha, _, hcs⟩
    · exact ⟨0, 0, by omega, by omega⟩
    · exact ⟨fb, fo, fun hp => ha, hcs⟩
  clear h3
  go_enter Tryd.func65, Tryd.ntmps65
  go_wp2_with fail
  go_loop [11] (fun t => ∃ k : Nat, k ≤ fl ∧ t = .int .i64 k ∧ (xs.take k).all (tyK len) = true) (fun t => fl - (intOf t).toNat)
  case atStart => exact ⟨0, Nat.zero_le _, rfl, rfl⟩
  case round =>
    obtain ⟨k, hk, rfl, hu⟩ := hrel
    have Hu : Hid ((xs.take k).all (tyK len) = true) := hu
    clear hu
    by_cases hlt : k < fl
    · have ha := hfa (by omega)
      subst ha
      have hck := hcell k hlt
      have hbk : Hid ((xs.take (k + 1)).all (tyK len) = ((xs.take k).all (tyK len) && tyK len (xs.getD k 0))) := all_take xs (tyK len) k (by rw [HS.out]; exact hlt)
      have hbf : Hid (tyK len (xs.getD k 0) = false → xs.all (tyK len) = false) := all_false xs (tyK len) k (by rw [HS.out]; exact hlt)
      have hf := FIT.out k
      generalize xs.getD k 0 = f at hck hbk hbf hf
      clear hfa hcell
      cases hB : tyK len f
      · go_wp2_with fail
        refine (kindImpl _ _ _ _ _ hr hf.1 hf.2).mono ?_
        rintro e w' ⟨rfl, rfl⟩
        rw [hB]
        generalize kvOf len f = v
        go_wp2_with fail
        go_ret
        exact ⟨by rw [hbf.out hB]; rfl, rfl⟩
      · go_wp2_with fail
        refine (kindImpl _ _ _ _ _ hr hf.1 hf.2).mono ?_
        rintro e w' ⟨rfl, rfl⟩
        rw [hB]
        generalize kvOf len f = v
        go_wp2_with fail
        exact ⟨⟨k + 1, by omega, by go_num, by rw [hbk.out, Hu.out, hB]; rfl⟩, by simp [intOf]; omega⟩
    · have ek : k = fl := by omega
      subst ek
      have HA : Hid (xs.all (tyK len) = true) := by
        have := Hu.out; rw [← HS.out, List.take_length] at this; exact this
      clear Hu hlt hk hcell hfa
      go_wp2_with fail
      go_ret
      exact ⟨by rw [HA.out]; rfl, rfl⟩

/-- Where a number is among others: not below 0 just if it is among them. -/
theorem any_take (l : List Int) (p : Int → Bool) (k : Nat) (h : k < l.length) : (l.take (k + 1)).any p = ((l.take k).any p || p (l.getD k 0)) := by
  rw [List.take_succ_eq_append_getElem h, List.any_append, List.getD_eq_getElem?_getD, List.getElem?_eq_getElem h]
  simp
theorem any_true (l : List Int) (p : Int → Bool) (k : Nat) (h : k < l.length) (hp : p (l.getD k 0) = true) : l.any p = true := by
  rw [List.getD_eq_getElem?_getD, List.getElem?_eq_getElem h] at hp
  rw [List.any_eq_true]
  exact ⟨l[k], List.getElem_mem h, by simpa using hp⟩
theorem indexImpl (fa : Option Addr) (fl fc : Nat) (t : Int) (xs : List Int) (w : World) {E : Nat → Prop} (h3 : IntsAt E w fa fl xs) :
    Calls Tryd.prog 56 #[.slice fa fl fc, .int .i64 t] w fun e w' => ∃ r : Int, e = .returned (.int .i64 r) ∧ w = w' ∧ decide (0 ≤ r) = xs.any (fun x => t == x) := by
  have HS : Hid (xs.length = fl) := h3.size
  have hfl := h3.room
  obtain ⟨fb, fo, hfa, hcell⟩ : ∃ fb fo, (0 < fl → fa = some ⟨fb, fo, none⟩) ∧ ∀ j, j < fl → w.cell? ⟨fb, fo + j, none⟩ = some (.int .i64 (xs.getD j 0)) := by
    rcases h3.cells with h0 | ⟨fb, fo, ha, _, hcs⟩
    · exact ⟨0, 0, by omega, by omega⟩
    · exact ⟨fb, fo, fun hp => ha, hcs⟩
  clear h3
  go_enter Tryd.func56, Tryd.ntmps56
  go_wp2_with fail
  go_loop [8] (fun u => ∃ k : Nat, k ≤ fl ∧ u = .int .i64 k ∧ (xs.take k).any (fun x => t == x) = false) (fun u => fl - (intOf u).toNat)
  case atStart => exact ⟨0, Nat.zero_le _, rfl, rfl⟩
  case round =>
    obtain ⟨k, hk, rfl, hu⟩ := hrel
    have Hu : Hid ((xs.take k).any (fun x => t == x) = false) := hu
    clear hu
    by_cases hlt : k < fl
    · have ha := hfa (by omega)
      subst ha
      have hck := hcell k hlt
      have hbk : Hid ((xs.take (k + 1)).any (fun x => t == x) = ((xs.take k).any (fun x => t == x) || t == (xs.getD k 0))) := any_take xs (fun x => t == x) k (by rw [HS.out]; exact hlt)
      have hbf : Hid ((t == xs.getD k 0) = true → xs.any (fun x => t == x) = true) := any_true xs (fun x => t == x) k (by rw [HS.out]; exact hlt)
      generalize xs.getD k 0 = f at hck hbk hbf
      clear hfa hcell
      cases hB : (t == f)
      · go_wp2_with fail
        exact ⟨⟨k + 1, by omega, by go_num, by rw [hbk.out, Hu.out, hB]; rfl⟩, by simp [intOf]; omega⟩
      · go_wp2_with fail
        go_ret
        exact ⟨k, rfl, rfl, by rw [hbf.out hB]; simp⟩
    · have ek : k = fl := by omega
      subst ek
      have HA : Hid (xs.any (fun x => t == x) = false) := by
        have := Hu.out; rw [← HS.out, List.take_length] at this; exact this
      clear Hu hlt hk hcell hfa
      go_wp2_with fail
      go_ret
      exact ⟨-1, rfl, rfl, by rw [HA.out]; rfl⟩
theorem containsImpl (fa : Option Addr) (fl fc : Nat) (t : Int) (xs : List Int) (w : World) {E : Nat → Prop} (h3 : IntsAt E w fa fl xs) :
    Calls Tryd.prog 44 #[.slice fa fl fc, .int .i64 t] w fun e w' => e = .returned (.bool (xs.any (fun x => t == x))) ∧ w = w' := by
  have H3 : Hid (IntsAt E w fa fl xs) := h3
  clear h3
  go_enter Tryd.func44, Tryd.ntmps44
  go_wp2_with fail
  refine (indexImpl _ _ _ t xs _ H3.out).mono ?_
  rintro e w' ⟨r, rfl, rfl, hr⟩
  have HR : Hid (decide (0 ≤ r) = xs.any (fun x => t == x)) := hr
  clear hr
  go_wp2_with fail
  go_ret
  exact ⟨by rw [← HR.out]; rfl, rfl⟩

/-- A shape of so many classes that are ok. -/
def shK (len : Nat) (n : Int) (s : Sh) : Bool :=
  if s.1 then (((s.2.1.length : Int) == n) && decide (s.2.2.length ≤ 4)) && ((s.2.1.all (tyK len) && s.2.2.all (tyK len)) && !(s.2.2.any (fun x => 0 == x))) else (s.2.1.length == 0 && s.2.2.length == 0)
theorem all_and_any (p : Int → Bool) (ys : List Int) : ys.all (fun t => p t && !(t == 0)) = (ys.all p && !(ys.any (fun x => 0 == x))) := by
  induction ys with
  | nil => rfl
  | cons y ys ih =>
    rw [List.all_cons, List.all_cons, List.any_cons, ih]
    rw [show (0 == y) = (y == 0) from by rw [Bool.eq_iff_iff]; simp; omega]
    cases p y <;> cases (y == 0) <;> cases ys.all p <;> cases ys.any (fun x => 0 == x) <;> rfl
theorem tyBK_eq {L : List Cl} (ok : clsOk L = true) : tyB L = tyK L.length := by
  funext t; unfold tyB tyK; rw [ok]; rfl
theorem shB_K (L : List Cl) (n : Int) (s : Sh) : shB L n s = (clsOk L && shK L.length n s) := by
  unfold shB shK
  cases ok : clsOk L
  · rfl
  · unfold locB stB
    rw [tyBK_eq ok, all_and_any, Bool.and_assoc (s.2.1.all (tyK L.length))]

set_option maxHeartbeats 1000000 in
theorem shapeKImpl (a : Option Addr) (len cap : Nat) (n : Int) (la : Option Addr) (ll lc : Nat) (sa : Option Addr) (sl sc : Nat) (s : Sh) (w : World) {F G : Nat → Prop} (hr : len ≤ 9223372036854775807) (h1 : IntsAt F w la ll s.2.1) (h2 : IntsAt G w sa sl s.2.2) :
    Calls Tryd.prog 54 #[.slice a len cap, .int .i64 n, .agg #[.bool s.1, .slice la ll lc, .slice sa sl sc]] w fun e w' => e = .returned (.bool (shK len n s)) ∧ Below w.heap.size w w' := by
  obtain ⟨any, xs, ys⟩ := s
  have B0 : Hid (Below w.heap.size w (w.alloc (.cells #[.bool any, .slice la ll lc, .slice sa sl sc] 26))) := (Below.refl _ _).alloc (Nat.le_refl _) _
  have H1 : Hid (IntsAt F (w.alloc (.cells #[.bool any, .slice la ll lc, .slice sa sl sc] 26)) la ll xs) := h1.later B0.out
  have H2 : Hid (IntsAt G (w.alloc (.cells #[.bool any, .slice la ll lc, .slice sa sl sc] 26)) sa sl ys) := h2.later B0.out
  have s1 : Hid (xs.length = ll) := h1.size
  have s2 : Hid (ys.length = sl) := h2.size
  have r1 := h1.room
  have r2 := h2.room
  clear h1 h2
  cases any
  · have HF : Hid (shK len n (false, xs, ys) = (((ll : Int) == 0) && ((sl : Int) == 0))) := by
      show _ = _
      rw [shK]
      simp only [Bool.false_eq_true, if_false]
      rw [s1.out, s2.out, ← beqCast ll 0, ← beqCast sl 0]; rfl
    cases e1 : ((ll : Int) == 0)
    · go_enter Tryd.func54, Tryd.ntmps54
      go_wp2_with fail
      go_ret
      exact ⟨by rw [HF.out, e1]; rfl, B0.out⟩
    · go_enter Tryd.func54, Tryd.ntmps54
      go_wp2_with fail
      go_ret
      exact ⟨by rw [HF.out, e1]; rfl, B0.out⟩
  have HF : Hid (shK len n (true, xs, ys) = ((((ll : Int) == n) && decide (sl ≤ 4)) && ((xs.all (tyK len) && ys.all (tyK len)) && !(ys.any (fun x => 0 == x))))) := by
    show _ = _
    rw [shK]
    simp only [if_true]
    rw [s1.out, s2.out]
  by_cases e1 : (ll : Int) = n
  case neg =>
    have e1' : ((ll : Int) != n) = true := by simp [e1]
    have HG : Hid (shK len n (true, xs, ys) = false) := by show _ = _; rw [HF.out, show ((ll : Int) == n) = false by simp [e1]]; rfl
    go_enter Tryd.func54, Tryd.ntmps54
    go_wp2_with fail
    go_ret
    exact ⟨by rw [HG.out]; rfl, B0.out⟩
  subst e1
  have e1' : ((ll : Int) != ll) = false := by simp
  by_cases e2 : 4 < sl
  · have HG : Hid (shK len ll (true, xs, ys) = false) := by show _ = _; rw [HF.out, decide_eq_false (show ¬ sl ≤ 4 by omega)]; simp
    go_enter Tryd.func54, Tryd.ntmps54
    go_wp2_with fail
    go_ret
    exact ⟨by rw [HG.out]; rfl, B0.out⟩
  have HG : Hid (shK len ll (true, xs, ys) = ((xs.all (tyK len) && ys.all (tyK len)) && !(ys.any (fun x => 0 == x)))) := by show _ = _; rw [HF.out, decide_eq_true (show sl ≤ 4 by omega)]; simp
  clear HF
  go_enter Tryd.func54, Tryd.ntmps54
  go_wp2_with fail
  refine (areTypesImpl _ _ _ _ _ _ xs _ H1.out hr).mono ?_
  rintro e w1 ⟨rfl, rfl⟩
  cases hB : xs.all (tyK len)
  · go_wp2_with fail
    go_ret
    exact ⟨by rw [HG.out, hB]; rfl, B0.out⟩
  go_wp2_with fail
  refine (areTypesImpl _ _ _ _ _ _ ys _ H2.out hr).mono ?_
  rintro e w1 ⟨rfl, rfl⟩
  cases hC : ys.all (tyK len)
  · go_wp2_with fail
    go_ret
    exact ⟨by rw [HG.out, hB, hC]; rfl, B0.out⟩
  go_wp2_with fail
  refine (containsImpl _ _ _ 0 ys _ H2.out).mono ?_
  rintro e w1 ⟨rfl, rfl⟩
  go_wp2_with fail
  go_ret
  exact ⟨by rw [HG.out, hB, hC]; rfl, B0.out⟩

end Go.Proofs.YtkggmcbjpmhmcaaDoor
