/-
  To be below is an order, with the root on top, in which two have a nearest above them; so of types: plain facts of lists of classes.
-/
import Derived.Test.YtkggmcbjpmhmcaaDoorCls
namespace Go.Proofs.YtkggmcbjpmhmcaaDoor

theorem up_refl (L : List Cl) (a : Nat) : up L a a = true := by rw [up_stop L a a (by omega)]; simp
theorem up_le {L : List Cl} (_h : clsOk L = true) : ∀ (a b : Nat), a < L.length → up L a b = true → b ≤ a := by
  intro a b hl hu
  by_cases hb : b < a
  · omega
  · rw [up_stop L a b hb] at hu; simp at hu; omega
theorem up_sup {L : List Cl} (h : clsOk L = true) (a b : Nat) (hl : a < L.length) (h1 : 1 ≤ a) (hu : up L (sup L a) b = true) : up L a b = true := by
  have hs := (sup_lt h a h1 hl).1
  have := up_le h (sup L a) b (by omega) hu
  rw [up_step h a b hl (by omega)]; exact hu
theorem up_trans {L : List Cl} (h : clsOk L = true) : ∀ (a b c : Nat), a < L.length → b < L.length → up L a b = true → up L b c = true → up L a c = true := by
  intro a
  induction a using Nat.strongRecOn with
  | ind a ih =>
    intro b c hl hbl h1 h2
    by_cases hb : b < a
    · have hs := (sup_lt h a (by omega) hl).1
      rw [up_step h a b hl hb] at h1
      have hc := up_le h b c hbl h2
      rw [up_step h a c hl (by omega)]
      exact ih _ hs b c (by omega) hbl h1 h2
    · rw [up_stop L a b hb] at h1
      simp at h1
      subst h1
      exact h2
theorem up_anti {L : List Cl} (h : clsOk L = true) (a b : Nat) (ha : a < L.length) (hb : b < L.length) (h1 : up L a b = true) (h2 : up L b a = true) : a = b := by
  have := up_le h a b ha h1
  have := up_le h b a hb h2
  omega
theorem join_up {L : List Cl} (h : clsOk L = true) (b : Nat) (hb : b < L.length) : ∀ (a : Nat), a < L.length → up L a (join L a b) = true ∧ up L b (join L a b) = true ∧ ∀ c, up L a c = true → up L b c = true → up L (join L a b) c = true := by
  intro a
  induction a using Nat.strongRecOn with
  | ind a ih =>
    intro hl
    cases hu : up L b a
    · obtain ⟨h1, e⟩ := join_step h a b hl hb hu
      have hs := (sup_lt h a h1 hl).1
      obtain ⟨i1, i2, i3⟩ := ih _ hs (by omega)
      rw [e]
      refine ⟨up_sup h a _ hl h1 i1, i2, fun c hc hbc => ?_⟩
      have hle := up_le h a c hl hc
      by_cases e2 : c = a
      · subst e2; rw [hu] at hbc; cases hbc
      · rw [up_step h a c hl (by omega)] at hc
        exact i3 c hc hbc
    · rw [join_stop L a b hu]
      exact ⟨up_refl L a, hu, fun c hc _ => hc⟩
theorem join_comm {L : List Cl} (h : clsOk L = true) (a b : Nat) (ha : a < L.length) (hb : b < L.length) : join L a b = join L b a := by
  obtain ⟨p1, p2, p3⟩ := join_up h b hb a ha
  obtain ⟨q1, q2, q3⟩ := join_up h a ha b hb
  have l1 := join_le h b hb a ha
  have l2 := join_le h a ha b hb
  exact up_anti h _ _ (by omega) (by omega) (p3 _ q2 q1) (q3 _ p2 p1)

theorem isB_mk {L : List Cl} (h : clsOk L = true) (k : Nat) (hk : k < L.length) : isB L (k : Int) = true := by
  unfold isB; rw [h]; simp; omega
theorem upB_nat {L : List Cl} (h : clsOk L = true) (a b : Nat) (ha : a < L.length) (hb : b < L.length) : upB L a b = up L a b := by
  unfold upB; rw [isB_mk h a ha, isB_mk h b hb]; simp
/-- One is below what the one above is below. -/
theorem upB_step {L : List Cl} (h : clsOk L = true) (a b : Nat) (ha : a < L.length) (hb : b < L.length) : upB L a b = (a == b || decide (0 < a) && upB L (cl L a).1 b) := by
  rw [upB_nat h a b ha hb]
  by_cases e : a = b
  · subst e; rw [up_refl]; simp
  · by_cases h0 : 0 < a
    · have hs := sup_lt h a h0 ha
      rw [hs.2, upB_nat h _ b (by omega) hb]
      by_cases hlt : b < a
      · rw [up_step h a b ha hlt]; simp [e, h0]
      · rw [up_stop L a b hlt, up_stop L (sup L a) b (by omega)]
        simp [e]
        omega
    · have : a = 0 := by omega
      subst this
      rw [up_stop L 0 b (by omega)]
      simp

/-- Types. -/
theorem inB_iff (L : List Cl) (a b : Int) (ha : 0 ≤ a) : inB L a b = true ↔ (a = b ∨ b = 0) ∨ (a = 2 ∧ 2 ≤ b) ∨ (3 ≤ a ∧ a < 8 ∧ b = 8) ∨ (8 ≤ a ∧ 8 ≤ b ∧ up L (a - 8).toNat (b - 8).toNat = true) := by
  unfold inB
  by_cases h1 : a = b ∨ b = 0
  · simp [h1]
  · rw [if_neg h1]
    by_cases h2 : a = 2
    · rw [if_pos h2]; simp; omega
    · rw [if_neg h2]
      by_cases h3 : a < 2 ∨ b < 8
      · rw [if_pos h3]; simp; omega
      · rw [if_neg h3]
        by_cases h4 : a < 8
        · rw [if_pos h4]; simp; omega
        · rw [if_neg h4]
          constructor
          · intro h; exact .inr (.inr (.inr ⟨by omega, by omega, h⟩))
          · intro h
            rcases h with h | h | h | h
            · exact absurd h h1
            · omega
            · omega
            · exact h.2.2
structure Ty (L : List Cl) (t : Int) : Prop where
  low : 0 ≤ t
  high : t ≤ 8 + L.length - 1
  gap : t < 5 ∨ 8 ≤ t
theorem Ty.of {L : List Cl} {t : Int} (h : tyB L t = true) : Ty L t := ⟨(tyB_range h).1, (tyB_range h).2.1, (tyB_range h).2.2⟩
theorem Ty.tyB {L : List Cl} {t : Int} (ok : clsOk L = true) (h : Ty L t) : tyB L t = true := by
  obtain ⟨h1, h2, h3⟩ := h
  unfold Proofs.YtkggmcbjpmhmcaaDoor.tyB fieldB
  rw [ok]
  simp
  omega
theorem tyIn_of {L : List Cl} (ok : clsOk L = true) {a b : Int} (ha : Ty L a) (hb : Ty L b) : tyInB L a b = inB L a b := by
  unfold tyInB; rw [ha.tyB ok, hb.tyB ok]; rfl
theorem in_refl (L : List Cl) (a : Int) : inB L a a = true := by unfold inB; rw [if_pos (.inl rfl)]
theorem in_none (L : List Cl) (a : Int) : inB L a 0 = true := by unfold inB; rw [if_pos (.inr rfl)]
theorem in_trans {L : List Cl} (ok : clsOk L = true) {a b c : Int} (ha : Ty L a) (hb : Ty L b) (hc : Ty L c) (h1 : inB L a b = true) (h2 : inB L b c = true) : inB L a c = true := by
  have g0 := ok_len ok
  obtain ⟨a1, a2, a3⟩ := ha
  obtain ⟨b1, b2, b3⟩ := hb
  obtain ⟨c1, c2, c3⟩ := hc
  rw [inB_iff L _ _ a1] at h1
  rw [inB_iff L _ _ b1] at h2
  rw [inB_iff L _ _ a1]
  rcases h1 with (rfl | rfl) | ⟨rfl, h1⟩ | ⟨h1, h1', rfl⟩ | ⟨h1, h1', h1''⟩
  · exact h2
  · rcases h2 with (rfl | rfl) | h2 | h2 | h2
    · exact .inl (.inr rfl)
    · exact .inl (.inr rfl)
    · omega
    · omega
    · omega
  · rcases h2 with (rfl | rfl) | h2 | h2 | h2
    · exact .inr (.inl ⟨rfl, h1⟩)
    · exact .inl (.inr rfl)
    · exact .inr (.inl ⟨rfl, h2.2⟩)
    · exact .inr (.inl ⟨rfl, by omega⟩)
    · exact .inr (.inl ⟨rfl, by omega⟩)
  · rcases h2 with (rfl | rfl) | h2 | h2 | ⟨_, h2, h3⟩
    · exact .inr (.inr (.inl ⟨h1, h1', rfl⟩))
    · exact .inl (.inr rfl)
    · omega
    · omega
    · have := up_le ok _ _ (by simp; omega) h3
      exact .inr (.inr (.inl ⟨h1, h1', by simp at this; omega⟩))
  · rcases h2 with (rfl | rfl) | h2 | h2 | ⟨_, h2, h3⟩
    · exact .inr (.inr (.inr ⟨h1, h1', h1''⟩))
    · exact .inl (.inr rfl)
    · omega
    · omega
    · exact .inr (.inr (.inr ⟨h1, h2, up_trans ok _ _ _ (by omega) (by omega) h1'' h3⟩))
theorem in_anti {L : List Cl} (ok : clsOk L = true) {a b : Int} (ha : Ty L a) (hb : Ty L b) (h1 : inB L a b = true) (h2 : inB L b a = true) : a = b := by
  obtain ⟨a1, a2, a3⟩ := ha
  obtain ⟨b1, b2, b3⟩ := hb
  rw [inB_iff L _ _ a1] at h1
  rw [inB_iff L _ _ b1] at h2
  rcases h1 with h1 | h1 | h1 | ⟨h1, h1', h1''⟩
  · rcases h2 with h2 | h2 | h2 | h2 <;> omega
  · rcases h2 with h2 | h2 | h2 | h2 <;> omega
  · rcases h2 with h2 | h2 | h2 | h2 <;> omega
  · rcases h2 with h2 | h2 | h2 | ⟨_, _, h2⟩
    · omega
    · omega
    · omega
    · have := up_anti ok _ _ (by omega) (by omega) h1'' h2
      omega
theorem meet_ty {L : List Cl} (ok : clsOk L = true) {a b : Int} (ha : Ty L a) (hb : Ty L b) : Ty L (meetV L a b) := by
  have g0 := ok_len ok
  unfold meetV
  split
  · exact hb
  · split
    · exact ha
    · split
      · exact ⟨by omega, by omega, by omega⟩
      · split
        · exact ⟨by omega, by omega, by omega⟩
        · have h1 := ha.high
          have h2 := hb.high
          have := join_le ok (b - 8).toNat (by omega) (a - 8).toNat (by omega)
          exact ⟨by omega, by omega, by omega⟩
theorem meet_least {L : List Cl} (ok : clsOk L = true) {a b : Int} (ha : Ty L a) (hb : Ty L b) : inB L a (meetV L a b) = true ∧ inB L b (meetV L a b) = true ∧ ∀ c, Ty L c → inB L a c = true → inB L b c = true → inB L (meetV L a b) c = true := by
  have g0 := ok_len ok
  have h1 := ha.high
  have h2 := hb.high
  have l1 := ha.low
  have l2 := hb.low
  have gp1 := ha.gap
  have gp2 := hb.gap
  unfold meetV
  cases e1 : inB L a b
  · cases e2 : inB L b a
    · simp only [Bool.false_eq_true, if_false]
      have n1 : ¬ _ := fun h => Bool.false_ne_true (e1.symm.trans ((inB_iff L a b l1).2 h))
      have n2 : ¬ _ := fun h => Bool.false_ne_true (e2.symm.trans ((inB_iff L b a l2).2 h))
      by_cases h3 : a < 2 ∨ b < 2
      · rw [if_pos h3]
        refine ⟨in_none L a, in_none L b, fun c hc k1 k2 => ?_⟩
        rw [inB_iff L _ _ l1] at k1
        rw [inB_iff L _ _ l2] at k2
        have hc0 : c = 0 := by
          rcases k1 with k1 | k1 | k1 | k1 <;> rcases k2 with k2 | k2 | k2 | k2 <;> first | omega | (exfalso; exact n1 (by first | (left; omega) | (right; left; omega))) | (exfalso; exact n2 (by first | (left; omega) | (right; left; omega)))
        rw [hc0]; exact in_none L 0
      · rw [if_neg h3]
        by_cases h4 : a < 8 ∨ b < 8
        · rw [if_pos h4]
          refine ⟨?_, ?_, fun c hc k1 k2 => ?_⟩
          · rw [inB_iff L _ _ l1]
            by_cases e : a = 2
            · exact absurd (.inr (.inl ⟨e, by omega⟩)) n1
            · by_cases e8 : a < 8
              · exact .inr (.inr (.inl ⟨by omega, e8, rfl⟩))
              · exact .inr (.inr (.inr ⟨by omega, by omega, up_root ok _ (by omega)⟩))
          · rw [inB_iff L _ _ l2]
            by_cases e : b = 2
            · exact absurd (.inr (.inl ⟨e, by omega⟩)) n2
            · by_cases e8 : b < 8
              · exact .inr (.inr (.inl ⟨by omega, e8, rfl⟩))
              · exact .inr (.inr (.inr ⟨by omega, by omega, up_root ok _ (by omega)⟩))
          · rw [inB_iff L _ _ l1] at k1
            rw [inB_iff L _ _ l2] at k2
            rcases h4 with h4 | h4
            · have : c = 0 ∨ c = 8 := by
                rcases k1 with (rfl | k1) | k1 | k1 | k1
                · exact absurd k2 n2
                · exact .inl k1
                · exact absurd (.inr (.inl ⟨k1.1, by omega⟩)) n1
                · exact .inr k1.2.2
                · omega
              rcases this with rfl | rfl
              · exact in_none L 8
              · exact in_refl L 8
            · have : c = 0 ∨ c = 8 := by
                rcases k2 with (rfl | k2) | k2 | k2 | k2
                · exact absurd k1 n1
                · exact .inl k2
                · exact absurd (.inr (.inl ⟨k2.1, by omega⟩)) n2
                · exact .inr k2.2.2
                · omega
              rcases this with rfl | rfl
              · exact in_none L 8
              · exact in_refl L 8
        · rw [if_neg h4]
          obtain ⟨j1, j2, j3⟩ := join_up ok (b - 8).toNat (by omega) (a - 8).toNat (by omega)
          generalize join L (a - 8).toNat (b - 8).toNat = j at *
          have ej : (8 + (j : Int) - 8).toNat = j := by omega
          refine ⟨?_, ?_, fun c hc k1 k2 => ?_⟩
          · rw [inB_iff L _ _ l1]; exact .inr (.inr (.inr ⟨by omega, by omega, by rw [ej]; exact j1⟩))
          · rw [inB_iff L _ _ l2]; exact .inr (.inr (.inr ⟨by omega, by omega, by rw [ej]; exact j2⟩))
          · rw [inB_iff L _ _ l1] at k1
            rw [inB_iff L _ _ l2] at k2
            rw [inB_iff L _ _ (by omega)]
            rcases k1 with (rfl | k1) | k1 | k1 | ⟨_, k1, k1'⟩
            · exact absurd k2 n2
            · exact .inl (.inr k1)
            · omega
            · omega
            · rcases k2 with (rfl | k2) | k2 | k2 | ⟨_, _, k2'⟩
              · exact absurd (.inr (.inr (.inr ⟨by omega, by omega, k1'⟩))) n1
              · exact .inl (.inr k2)
              · omega
              · omega
              · exact .inr (.inr (.inr ⟨by omega, k1, by rw [ej]; exact j3 _ k1' k2'⟩))
    · simp only [Bool.false_eq_true, if_false, if_true]
      exact ⟨in_refl L a, e2, fun c _ k1 _ => k1⟩
  · simp only [if_true]
    exact ⟨e1, in_refl L b, fun c _ _ k2 => k2⟩
theorem meet_comm {L : List Cl} (ok : clsOk L = true) {a b : Int} (ha : Ty L a) (hb : Ty L b) : meetV L a b = meetV L b a := by
  obtain ⟨p1, p2, p3⟩ := meet_least ok ha hb
  obtain ⟨q1, q2, q3⟩ := meet_least ok hb ha
  exact in_anti ok (meet_ty ok ha hb) (meet_ty ok hb ha) (p3 _ (meet_ty ok hb ha) q2 q1) (q3 _ (meet_ty ok ha hb) p2 p1)
theorem meet_of {L : List Cl} (ok : clsOk L = true) {a x : Int} (ha : Ty L a) (hx : Ty L x) (h : inB L a x = true) : meetV L x a = x := by
  unfold meetV
  cases e : inB L x a
  · rw [h]; rfl
  · exact in_anti ok ha hx h e

end Go.Proofs.YtkggmcbjpmhmcaaDoor
