/-
  A class more at the end changes no other one: plain facts; and a copy of a list of classes with one more, in new memory.
-/
import Derived.Test.YtglggjkmgdpbfaaFlds
import Derived.Test.YtglggjkmgdpbfaaClsMath
namespace Go.Proofs.Ytglggjkmgdpbfaa
open Go.ChangeShapes Go.WideShapes Go.ChangeAt Go.RowKit

def more (L : List Cl) (a : Nat) : List Cl := L ++ [((a : Int), [1])]
theorem more_len (L : List Cl) (a : Nat) : (more L a).length = L.length + 1 := by simp [more]
theorem cl_more {L : List Cl} (a i : Nat) (hi : i < L.length) : cl (more L a) i = cl L i := by
  unfold cl more
  rw [List.getD_eq_getElem?_getD, List.getD_eq_getElem?_getD, List.getElem?_append_left hi]
theorem cl_last (L : List Cl) (a : Nat) : cl (more L a) L.length = ((a : Int), [1]) := by
  unfold cl more
  rw [List.getD_eq_getElem?_getD, List.getElem?_append_right (Nat.le_refl _)]
  simp
theorem field_more (n : Nat) (t : Int) (h : fieldB n t = true) : fieldB (n + 1) t = true := by
  unfold fieldB at *
  simp at *
  omega
theorem ok_all {L : List Cl} (h : clsOk L = true) (c : Nat) (hc : c < L.length) : (cl L c).2.all (fieldB L.length) = true := by
  unfold clsOk at h
  rw [Bool.and_eq_true, List.all_eq_true] at h
  have := h.2 c (List.mem_range.2 hc)
  unfold classB at this
  rw [Bool.and_eq_true] at this
  exact this.1
theorem ok_more {L : List Cl} (h : clsOk L = true) (a : Nat) (ha : a < L.length) (h4 : L.length ≤ 4) : clsOk (more L a) = true := by
  have hl := ok_len h
  refine ok_of (by rw [more_len]; omega) ?_
  rw [List.all_eq_true]
  intro c hc
  rw [List.mem_range, more_len] at hc
  rw [more_len]
  by_cases e : c < L.length
  · rw [cl_more a c e]
    unfold classB
    rw [ok_head h c e, Bool.and_true]
    have := ok_all h c e
    rw [List.all_eq_true] at this ⊢
    exact fun x hx => field_more _ x (this x hx)
  · have e' : c = L.length := by omega
    rw [e', cl_last]
    unfold classB headB
    rw [if_neg (by omega), if_neg (by omega)]
    simp [fieldB]
    omega
theorem sup_more {L : List Cl} (a i : Nat) (hi : i < L.length) : sup (more L a) i = sup L i := by unfold sup; rw [cl_more a i hi]
theorem sup_last (L : List Cl) (a : Nat) : sup (more L a) L.length = a := by unfold sup; rw [cl_last]; simp
theorem up_more {L : List Cl} (h : clsOk L = true) (z : Nat) (hM : clsOk (more L z) = true) : ∀ (a b : Nat), a < L.length → up (more L z) a b = up L a b := by
  intro a
  induction a using Nat.strongRecOn with
  | ind a ih =>
    intro b hl
    by_cases hb : b < a
    · have hs := (sup_lt h a (by omega) hl).1
      rw [up_step hM a b (by rw [more_len]; omega) hb, up_step h a b hl hb, sup_more z a hl]
      exact ih _ hs b (by omega)
    · rw [up_stop _ a b hb, up_stop L a b hb]
theorem up_last {L : List Cl} (h : clsOk L = true) (z : Nat) (hz : z < L.length) (hM : clsOk (more L z) = true) (b : Nat) (hb : b < L.length) : up (more L z) L.length b = up L z b := by
  rw [up_step hM _ b (by rw [more_len]; omega) hb, sup_last, up_more h z hM z b hz]
theorem fld_more {L : List Cl} (h : clsOk L = true) (z : Nat) (hM : clsOk (more L z) = true) : ∀ (c : Nat), c < L.length → fld (more L z) c = fld L c := by
  intro c
  induction c using Nat.strongRecOn with
  | ind c ih =>
    intro hl
    by_cases h0 : c = 0
    · subst h0; rfl
    · have hs := (sup_lt h c (by omega) hl).1
      rw [fld_step hM c (by rw [more_len]; omega) (by omega), fld_step h c hl (by omega), sup_more z c hl, cl_more z c hl, ih _ hs (by omega)]
theorem join_more {L : List Cl} (h : clsOk L = true) (z : Nat) (hM : clsOk (more L z) = true) (b : Nat) (hb : b < L.length) : ∀ (a : Nat), a < L.length → join (more L z) a b = join L a b := by
  intro a
  induction a using Nat.strongRecOn with
  | ind a ih =>
    intro hl
    cases hu : up L b a
    · obtain ⟨h1, e⟩ := join_step h a b hl hb hu
      have hs := (sup_lt h a h1 hl).1
      obtain ⟨_, e2⟩ := join_step hM a b (by rw [more_len]; omega) (by rw [more_len]; omega) (by rw [up_more h z hM b a hb]; exact hu)
      rw [e, e2, sup_more z a hl]
      exact ih _ hs (by omega)
    · rw [join_stop L a b hu, join_stop _ a b (by rw [up_more h z hM b a hb]; exact hu)]
theorem join_last {L : List Cl} (h : clsOk L = true) (z : Nat) (hz : z < L.length) (hM : clsOk (more L z) = true) (b : Nat) (hb : b < L.length) : join (more L z) L.length b = join L z b := by
  have hu : up (more L z) b L.length = false := by
    rw [Bool.eq_false_iff]
    intro e
    have := up_le hM b L.length (by rw [more_len]; omega) e
    omega
  obtain ⟨_, e⟩ := join_step hM L.length b (by rw [more_len]; omega) (by rw [more_len]; omega) hu
  rw [e, sup_last, join_more h z hM b hb z hz]

/-- The cells of a list of classes in memory. -/
theorem cls_cells {E : Nat → Prop} {w : World} {b off len : Nat} {L : List Cl} (hc : ∀ i, i < len → w.cell? ⟨b, off + i * 2, none⟩ = some (.int .i64 (cl L i).1) ∧ ∃ fa fl fc, w.cell? ⟨b, off + i * 2 + 1, none⟩ = some (.slice fa fl fc) ∧ IntsAt E w fa fl (cl L i).2) :
    ∃ news : List Value, news.length = len * 2 ∧ (∀ j u, news[j]? = some u → w.cell? ((⟨b, off, none⟩ : Addr).add j) = some u) ∧ (∀ u ∈ news, u.oneCell' = true) ∧
      ∀ i, i < len → news[i * 2]? = some (.int .i64 (cl L i).1) ∧ ∃ fa fl fc, news[i * 2 + 1]? = some (.slice fa fl fc) ∧ IntsAt E w fa fl (cl L i).2 := by
  have hj : ∀ j, j < len * 2 → ∃ u, w.cell? ⟨b, off + j, none⟩ = some u ∧ u.oneCell' = true := by
    intro j hj
    obtain ⟨h1, fa, fl, fc, h2, _⟩ := hc (j / 2) (by omega)
    rcases (show j = j / 2 * 2 ∨ j = j / 2 * 2 + 1 by omega) with e | e
    · rw [e]; exact ⟨_, h1, rfl⟩
    · rw [e, ← Nat.add_assoc]; exact ⟨_, h2, rfl⟩
  obtain ⟨f, hf⟩ := Go.Deep.choose_lt (n := len * 2) (α := Value) (p := fun j u => w.cell? ⟨b, off + j, none⟩ = some u ∧ u.oneCell' = true) hj
  have hget : ∀ j, j < len * 2 → ((List.range (len * 2)).map f)[j]? = some (f j) := by
    intro j hj
    rw [List.getElem?_map, List.getElem?_range hj]; rfl
  refine ⟨(List.range (len * 2)).map f, by simp, ?_, ?_, ?_⟩
  · intro j u hu
    have hl : j < len * 2 := by have := (List.getElem?_eq_some_iff.1 hu).1; simpa using this
    rw [hget j hl] at hu
    cases hu
    rw [Addr.add_lit]; exact (hf j hl).1
  · intro u hu
    obtain ⟨j, hj, rfl⟩ := List.mem_map.1 hu
    exact (hf j (List.mem_range.1 hj)).2
  · intro i hi
    obtain ⟨h1, fa, fl, fc, h2, h3⟩ := hc i hi
    refine ⟨?_, fa, fl, fc, ?_, h3⟩
    · rw [hget _ (by omega), ← (hf (i * 2) (by omega)).1]; exact h1
    · rw [hget _ (by omega), ← (hf (i * 2 + 1) (by omega)).1]; exact h2

/-- The list with one more is read as such. -/
theorem cls_more {D E : Nat → Prop} {w w9 : World} {a : Option Addr} {len g c base k : Nat} {L : List Cl} {z : Nat} {news : List Value} {fv : Value} (h : ClsAt D E w a len L) (hz : z < len) (hlen : len ≤ 1000)
    (hn : news.length = len * 2) (hi : ∀ i, i < len → news[i * 2]? = some (.int .i64 (cl L i).1) ∧ ∃ fa fl fc, news[i * 2 + 1]? = some (.slice fa fl fc) ∧ IntsAt E w fa fl (cl L i).2)
    (hb : Below w.heap.size w w9) (ho : w9.ownsRow base k 2 (.slice (some ⟨g, 0, none⟩) (len + 1) c) (len + 1) (news ++ [.int .i64 z, fv])) (hf : ∃ fa fl fc, fv = .slice fa fl fc ∧ IntsAt (fun _ => True) w9 fa fl [1]) :
    ClsAt (fun _ => True) (fun _ => True) w9 (some ⟨g, 0, none⟩) (len + 1) (more L z) := by
  have hs := h.size
  refine ⟨by rw [more_len, hs], by omega, .inr ⟨g, 0, rfl, trivial, fun i hil => ?_⟩, fun i => ?_⟩
  · rw [Nat.zero_add, ho.cellAt _ (by omega), ho.cellAt _ (by omega)]
    by_cases e : i < len
    · obtain ⟨h1, fa, fl, fc, h2, h3⟩ := hi i e
      rw [cl_more z i (by rw [hs]; exact e)]
      exact ⟨by rw [List.getElem?_append_left (by omega)]; exact h1, fa, fl, fc, by rw [List.getElem?_append_left (by omega)]; exact h2, (h3.later hb).mono (fun _ _ _ => trivial)⟩
    · have e' : i = len := by omega
      subst e'
      obtain ⟨fa, fl, fc, rfl, h3⟩ := hf
      have hcl := cl_last L z
      rw [hs] at hcl
      rw [hcl]
      refine ⟨?_, fa, fl, fc, ?_, h3⟩
      · rw [List.getElem?_append_right (by omega), hn]; simp
      · rw [List.getElem?_append_right (by omega), hn, show i * 2 + 1 - i * 2 = 1 by omega]; rfl
  · by_cases e : i < len
    · rw [cl_more z i (by rw [hs]; exact e)]; exact h.fits i
    · by_cases e' : i = len
      · have hcl := cl_last L z
        rw [hs] at hcl
        rw [e', hcl]
        constructor <;> simp <;> omega
      · unfold cl
        rw [List.getD_eq_getElem?_getD, List.getElem?_eq_none (by rw [more_len, hs]; omega)]
        simp

end Go.Proofs.Ytglggjkmgdpbfaa
