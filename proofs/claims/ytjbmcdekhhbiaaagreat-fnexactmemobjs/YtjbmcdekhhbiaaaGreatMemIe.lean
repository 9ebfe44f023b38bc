/-
  The program's search among things: what it says; it writes nothing that was there.
-/
import Derived.Test.YtjbmcdekhhbiaaaGreatMemId
namespace Go.Proofs.YtjbmcdekhhbiaaaGreat
open Go.ChangeShapes Go.WideShapes Go.ChangeAt Go.RowKit
set_option linter.unusedVariables false

/-- Places that ascend. -/
def Inc (T : List Th) : Prop := ∀ (i j : Nat) (s t : Th), T[i]? = some s → T[j]? = some t → i < j → s.1 < t.1
theorem Asc.inc {T : List Th} (h : Asc T) : Inc T := by
  intro i j s t hs ht hij
  have h1 := (List.getElem?_eq_some_iff.1 hs)
  have h2 := (List.getElem?_eq_some_iff.1 ht)
  obtain ⟨l1, rfl⟩ := h1
  obtain ⟨l2, rfl⟩ := h2
  have := List.pairwise_iff_getElem.1 h i j l1 l2 hij
  have := tSz_pos (T[i])
  omega
set_option maxRecDepth 100000 in
set_option maxHeartbeats 4000000 in
theorem searchImpl (ta : Option Addr) (tl tc : Nat) (T : List Th) (v : Int) (w : World) {D : Nat → Prop} (h : SlAt thR D w ta tl T) (hi : Inc T) (hl : tl ≤ 1000) (hv : i64B v) :
    Calls Tryz.prog 124 #[.slice ta tl tc, .int .i64 v, .func (.func 125) #[] #[]] w fun e w' => ∃ j : Nat, e = .returned (.tuple #[.int .i64 j, .bool (isAt T v)]) ∧ j ≤ tl ∧ (isAt T v = true → ∃ t, T[j]? = some t ∧ t.1 = v) ∧ Below w.heap.size w w' := by
  have H : Hid (SlAt thR D w ta tl T) := h
  have TS : Hid (T.length = tl) := h.size
  have IN : Hid (Inc T) := hi
  have hv1 := hv.1
  have hv2 := hv.2
  clear h hi
  go_enter Tryz.func124, Tryz.ntmps124
  go_wp2_with fail
  go_loopw [9, 10] (fun a b wr => ∃ i j : Nat, i ≤ j ∧ j ≤ tl ∧ a = .int .i64 i ∧ b = .int .i64 j ∧ (∀ k t, T[k]? = some t → k < i → t.1 < v) ∧ (∀ k t, T[k]? = some t → j ≤ k → v ≤ t.1) ∧ Below w.heap.size w wr) (fun a b _ => (intOf b).toNat - (intOf a).toNat)
  case atStart => exact ⟨0, tl, Nat.zero_le _, Nat.le_refl _, rfl, rfl, (fun k t _ hk => by omega), (fun k t hk hk2 => by have := (List.getElem?_eq_some_iff.1 hk).1; have := TS.out; omega), Below.refl _ _⟩
  case round =>
    obtain ⟨i, j, hij, hj, rfl, rfl, hlo, hup, hb⟩ := hrel
    have LO : Hid (∀ k t, T[k]? = some t → k < i → t.1 < v) := hlo
    have UP : Hid (∀ k t, T[k]? = some t → j ≤ k → v ≤ t.1) := hup
    have HB : Hid (Below w.heap.size w wr) := hb
    clear hlo hup hb
    by_cases hlt : i < j
    · obtain ⟨m, hm⟩ : ∃ m, (i + j) / 2 = m := ⟨_, rfl⟩
      have hm1 : i ≤ m ∧ m < j := by omega
      obtain ⟨t, ht⟩ : ∃ t, T[m]? = some t := ⟨T[m]'(by rw [TS.out]; omega), List.getElem?_eq_getElem _⟩
      have HT : Hid (T[m]? = some t) := ht
      obtain ⟨b, off, rfl, _, us, hvv, hc⟩ := (H.out.later HB.out).at m t ht
      obtain ⟨x0, x1, ty⟩ := t
      obtain ⟨_, _, rfl, ⟨rfl, hx0⟩, _, _, rfl, ⟨rfl, hx1⟩, ya, yl, yc, rfl, hy⟩ := hvv
      have c0 : wr.cell? ⟨b, off + m * 3, none⟩ = some (.int .i64 x0) := hc 0 _ rfl
      have c1 : wr.cell? ⟨b, off + m * 3 + 1, none⟩ = some (.int .i64 x1) := hc 1 _ rfl
      have c2 : wr.cell? ⟨b, off + m * 3 + 2, none⟩ = some (.slice ya yl yc) := hc 2 _ rfl
      clear hc ht hy
      have hmI : ((i : Int) + (j : Int)) / 2 = (m : Int) := by omega
      go_wp2_with fail
      refine (compareAtImpl x0 x1 ya yl yc v _).mono ?_
      rintro e w1 ⟨r, rfl, r1, r2, r3, r4, hb⟩
      have B1 : Hid (Below w.heap.size w w1) := HB.out.trans (hb.mono HB.out.size)
      clear hb c0 c1 c2
      by_cases hr : r < 0
      · have hxv : x0 < v := r1.1 hr
        go_wp2_with fail
        refine ⟨⟨m + 1, j, by omega, hj, by go_num, rfl, fun k s hk hkm => ?_, UP.out, B1.out⟩, by simp [intOf]; omega⟩
        by_cases e : k = m
        · subst e; rw [HT.out] at hk; cases hk; exact hxv
        · have := IN.out k m s (x0, x1, ty) hk HT.out (by omega); simp only at this; omega
      · have hxv : v ≤ x0 := by omega
        go_wp2_with fail
        refine ⟨⟨i, m, by omega, by omega, rfl, by go_num, LO.out, fun k s hk hkm => ?_, B1.out⟩, by simp [intOf]; omega⟩
        by_cases e : k = m
        · subst e; rw [HT.out] at hk; cases hk; exact hxv
        · have := IN.out m k (x0, x1, ty) s HT.out hk (by omega); simp only at this; omega
    · have ej : j = i := by omega
      subst ej
      by_cases hn : j < tl
      · obtain ⟨t, ht⟩ : ∃ t, T[j]? = some t := ⟨T[j]'(by rw [TS.out]; omega), List.getElem?_eq_getElem _⟩
        have HT : Hid (T[j]? = some t) := ht
        obtain ⟨b, off, rfl, _, us, hvv, hc⟩ := (H.out.later HB.out).at j t ht
        obtain ⟨x0, x1, ty⟩ := t
        obtain ⟨_, _, rfl, ⟨rfl, hx0⟩, _, _, rfl, ⟨rfl, hx1⟩, ya, yl, yc, rfl, hy⟩ := hvv
        have c0 : wr.cell? ⟨b, off + j * 3, none⟩ = some (.int .i64 x0) := hc 0 _ rfl
        have c1 : wr.cell? ⟨b, off + j * 3 + 1, none⟩ = some (.int .i64 x1) := hc 1 _ rfl
        have c2 : wr.cell? ⟨b, off + j * 3 + 2, none⟩ = some (.slice ya yl yc) := hc 2 _ rfl
        have AT : Hid (isAt T v = (x0 == v)) := by
          show _ = _
          cases hq : isAt T v
          · symm; rw [beq_eq_false_iff_ne]; intro e; have := isAt_iff.2 ⟨_, List.mem_of_getElem? HT.out, e⟩; rw [hq] at this; cases this
          · obtain ⟨s, hs, hsv⟩ := isAt_iff.1 hq
            obtain ⟨k, hk⟩ := List.getElem?_of_mem hs
            have h1 := LO.out k s hk
            have h2 := UP.out k s hk
            by_cases e : k = j
            · subst e; rw [HT.out] at hk; cases hk; symm; simpa using hsv
            · rcases Nat.lt_or_ge k j with h | h
              · have := h1 h; omega
              · have h3 := IN.out j k _ s HT.out hk (by omega)
                have h4 := UP.out j _ HT.out (Nat.le_refl _)
                simp only at h3 h4
                omega
        clear hc ht hy
        go_wp2_with fail
        refine (compareAtImpl x0 x1 ya yl yc v _).mono ?_
        rintro e w1 ⟨r, rfl, r1, r2, r3, r4, hb⟩
        have B1 : Hid (Below w.heap.size w w1) := HB.out.trans (hb.mono HB.out.size)
        clear hb c0 c1 c2
        have er : (r == 0) = (x0 == v) := by rw [Bool.eq_iff_iff]; simp; omega
        go_wp2_with fail
        go_ret2
        rw [AT.out]
        exact ⟨j, rfl, by omega, fun h => ⟨_, HT.out, by simpa using h⟩, B1.out⟩
      · have en : j = tl := by omega
        subst en
        have AT : Hid (isAt T v = false) := by
          show _ = _
          cases hq : isAt T v
          · rfl
          · obtain ⟨s, hs, hsv⟩ := isAt_iff.1 hq
            obtain ⟨k, hk⟩ := List.getElem?_of_mem hs
            have h1 := LO.out k s hk (by have := (List.getElem?_eq_some_iff.1 hk).1; have := TS.out; omega)
            omega
        go_wp2_with fail
        go_ret2
        rw [AT.out]
        exact ⟨j, rfl, Nat.le_refl _, (fun h => by cases h), HB.out⟩

end Go.Proofs.YtjbmcdekhhbiaaaGreat
