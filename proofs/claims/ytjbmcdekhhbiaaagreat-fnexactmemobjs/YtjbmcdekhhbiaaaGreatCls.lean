/-
  Classes in memory, and what is said of them: a slice of classes is read as a list of pairs, the class above and the types of its own fields.
-/
import Derived.Test.YtjbmcdekhhbiaaaGreatOpen
namespace Go.Proofs.YtjbmcdekhhbiaaaGreat
open Go.ChangeShapes Go.WideShapes Go.ChangeAt Go.RowKit

abbrev Cl := Int × List Int
def cl (L : List Cl) (i : Nat) : Cl := L.getD i (0, [])
def i64B (x : Int) : Prop := -9223372036854775808 ≤ x ∧ x ≤ 9223372036854775807

/-- A slice of ints in memory, its cells in a block of which 'D' is so. -/
structure IntsAt (D : Nat → Prop) (w : World) (a : Option Addr) (len : Nat) (xs : List Int) : Prop where
  size : xs.length = len
  room : len ≤ 9223372036854775807
  cells : len = 0 ∨ ∃ b off, a = some ⟨b, off, none⟩ ∧ D b ∧ ∀ j, j < len → w.cell? ⟨b, off + j, none⟩ = some (.int .i64 (xs.getD j 0))
  fits : ∀ j, -9223372036854775808 ≤ xs.getD j 0 ∧ xs.getD j 0 ≤ 9223372036854775807

/-- A slice of classes in memory, its cells in a block of which 'D' is so, those of the fields in blocks of which 'E' is so. -/
structure ClsAt (D E : Nat → Prop) (w : World) (a : Option Addr) (len : Nat) (L : List Cl) : Prop where
  size : L.length = len
  room : len ≤ 9223372036854775807
  cells : len = 0 ∨ ∃ b off, a = some ⟨b, off, none⟩ ∧ D b ∧ ∀ i, i < len → w.cell? ⟨b, off + i * 2, none⟩ = some (.int .i64 (cl L i).1) ∧
    ∃ fa fl fc, w.cell? ⟨b, off + i * 2 + 1, none⟩ = some (.slice fa fl fc) ∧ IntsAt E w fa fl (cl L i).2
  fits : ∀ i, -9223372036854775808 ≤ (cl L i).1 ∧ (cl L i).1 ≤ 9223372036854775807

theorem IntsAt.keep {D : Nat → Prop} {w w' : World} {a : Option Addr} {len : Nat} {xs : List Int} (h : IntsAt D w a len xs) (k : ∀ b o, D b → b < w.heap.size → w'.cell? ⟨b, o, none⟩ = w.cell? ⟨b, o, none⟩) : IntsAt D w' a len xs := by
  refine ⟨h.size, h.room, ?_, h.fits⟩
  rcases h.cells with h0 | ⟨b, off, ha, hd, hc⟩
  · exact .inl h0
  · exact .inr ⟨b, off, ha, hd, fun j hj => by rw [k b _ hd (World.block_lt_of_cell? w _ (hc j hj))]; exact hc j hj⟩

theorem IntsAt.mono {D E : Nat → Prop} {w : World} {a : Option Addr} {len : Nat} {xs : List Int} (h : IntsAt D w a len xs) (k : ∀ b, D b → b < w.heap.size → E b) : IntsAt E w a len xs := by
  refine ⟨h.size, h.room, ?_, h.fits⟩
  rcases h.cells with h0 | ⟨b, off, ha, hd, hc⟩
  · exact .inl h0
  · by_cases h0 : len = 0
    · exact .inl h0
    · exact .inr ⟨b, off, ha, k b hd (World.block_lt_of_cell? w _ (hc 0 (by omega))), hc⟩

theorem ClsAt.keep {D E : Nat → Prop} {w w' : World} {a : Option Addr} {len : Nat} {L : List Cl} (h : ClsAt D E w a len L) (k : ∀ b o, D b ∨ E b → b < w.heap.size → w'.cell? ⟨b, o, none⟩ = w.cell? ⟨b, o, none⟩) : ClsAt D E w' a len L := by
  refine ⟨h.size, h.room, ?_, h.fits⟩
  rcases h.cells with h0 | ⟨b, off, ha, hd, hc⟩
  · exact .inl h0
  · refine .inr ⟨b, off, ha, hd, fun i hi => ?_⟩
    obtain ⟨h1, fa, fl, fc, h2, h3⟩ := hc i hi
    exact ⟨by rw [k b _ (.inl hd) (World.block_lt_of_cell? w _ h1)]; exact h1, fa, fl, fc, by rw [k b _ (.inl hd) (World.block_lt_of_cell? w _ h2)]; exact h2, h3.keep fun b' o' hd' hl' => k b' o' (.inr hd') hl'⟩

theorem ClsAt.mono {D E D' E' : Nat → Prop} {w : World} {a : Option Addr} {len : Nat} {L : List Cl} (h : ClsAt D E w a len L) (k : ∀ b, D b → b < w.heap.size → D' b) (k' : ∀ b, E b → b < w.heap.size → E' b) : ClsAt D' E' w a len L := by
  refine ⟨h.size, h.room, ?_, h.fits⟩
  rcases h.cells with h0 | ⟨b, off, ha, hd, hc⟩
  · exact .inl h0
  · by_cases h0 : len = 0
    · exact .inl h0
    · refine .inr ⟨b, off, ha, k b hd (World.block_lt_of_cell? w _ (hc 0 (by omega)).1), fun i hi => ?_⟩
      obtain ⟨h1, fa, fl, fc, h2, h3⟩ := hc i hi
      exact ⟨h1, fa, fl, fc, h2, h3.mono k'⟩

theorem IntsAt.later {D : Nat → Prop} {w w' : World} {a : Option Addr} {len : Nat} {xs : List Int} (h : IntsAt D w a len xs) (b : Below w.heap.size w w') : IntsAt D w' a len xs :=
  h.keep fun _ _ _ hl => b.cell hl
theorem ClsAt.later {D E : Nat → Prop} {w w' : World} {a : Option Addr} {len : Nat} {L : List Cl} (h : ClsAt D E w a len L) (b : Below w.heap.size w w') : ClsAt D E w' a len L :=
  h.keep fun _ _ _ hl => b.cell hl

/-- Whether a type is one of fields, of so many classes; whether a class is ok at its place; whether classes are. -/
def fieldB (n : Nat) (t : Int) : Bool := t == 1 || t == 3 || t == 4 || (decide (8 ≤ t) && decide (t ≤ 8 + n - 1))
def headB (c : Nat) (x : Cl) : Bool :=
  if c = 0 then x.1 == -1 && x.2.length == 0 else if c = 1 then x.1 == 0 && (x.2.length == 1 && x.2.getD 0 0 == 1) else decide (0 ≤ x.1 ∧ x.1 ≤ c - 1) && decide (x.2.length ≤ 2)
def classB (n c : Nat) (x : Cl) : Bool := x.2.all (fieldB n) && headB c x
def clsOk (L : List Cl) : Bool := decide (2 ≤ L.length ∧ L.length ≤ 5) && (List.range L.length).all (fun c => classB L.length c (cl L c))
def isB (L : List Cl) (c : Int) : Bool := clsOk L && (decide (0 ≤ c) && decide (c ≤ L.length - 1))

/-- Up, step by step. -/
def sup (L : List Cl) (a : Nat) : Nat := (cl L a).1.toNat
def upN (L : List Cl) (b : Nat) : Nat → Nat → Bool
  | 0, a => a == b
  | f + 1, a => if b < a then upN L b f (sup L a) else a == b
def up (L : List Cl) (a b : Nat) : Bool := upN L b a a

theorem ok_len {L : List Cl} (h : clsOk L = true) : 2 ≤ L.length ∧ L.length ≤ 5 := by
  unfold clsOk at h
  rw [Bool.and_eq_true, decide_eq_true_eq] at h
  exact h.1
theorem ok_head {L : List Cl} (h : clsOk L = true) (c : Nat) (hc : c < L.length) : headB c (cl L c) = true := by
  unfold clsOk at h
  rw [Bool.and_eq_true, List.all_eq_true] at h
  have := h.2 c (List.mem_range.2 hc)
  unfold classB at this
  rw [Bool.and_eq_true] at this
  exact this.2
theorem ok_sup {L : List Cl} (h : clsOk L = true) (a : Nat) (ha : 1 ≤ a) (hl : a < L.length) : 0 ≤ (cl L a).1 ∧ (cl L a).1 < a := by
  have h1 := ok_head h a hl
  unfold headB at h1
  rw [if_neg (by omega)] at h1
  split at h1
  · simp at h1; omega
  · simp at h1; omega
theorem sup_lt {L : List Cl} (h : clsOk L = true) (a : Nat) (ha : 1 ≤ a) (hl : a < L.length) : sup L a < a ∧ (cl L a).1 = (sup L a : Nat) := by
  have := ok_sup h a ha hl
  unfold sup
  omega
theorem upN_more {L : List Cl} (h : clsOk L = true) (b : Nat) : ∀ (a f : Nat), a < L.length → a ≤ f → upN L b f a = upN L b a a := by
  intro a
  induction a using Nat.strongRecOn with
  | ind a ih =>
    intro f hl hf
    match a, f, hf with
    | 0, 0, _ => rfl
    | 0, f + 1, _ => simp [upN]
    | a + 1, f + 1, _ =>
      have hs := (sup_lt h (a + 1) (by omega) hl).1
      unfold upN
      by_cases hb : b < a + 1
      · rw [if_pos hb, if_pos hb, ih (sup L (a + 1)) hs f (by omega) (by omega), ih (sup L (a + 1)) hs a (by omega) (by omega)]
      · rw [if_neg hb, if_neg hb]
theorem up_step {L : List Cl} (h : clsOk L = true) (a b : Nat) (hl : a < L.length) (hb : b < a) : up L a b = up L (sup L a) b := by
  have hs := (sup_lt h a (by omega) hl).1
  unfold up
  match a, hb with
  | a + 1, hb =>
    rw [upN, if_pos hb, upN_more h b (sup L (a + 1)) a (by omega) (by omega)]
theorem up_stop (L : List Cl) (a b : Nat) (hb : ¬ b < a) : up L a b = (a == b) := by
  unfold up
  match a with
  | 0 => rfl
  | a + 1 => rw [upN, if_neg hb]

theorem ok_of {L : List Cl} (h : 2 ≤ L.length ∧ L.length ≤ 5) (ha : (List.range L.length).all (fun c => classB L.length c (cl L c)) = true) : clsOk L = true := by
  unfold clsOk; rw [ha, decide_eq_true h]; rfl
theorem not_ok_len {L : List Cl} (h : ¬ (2 ≤ L.length ∧ L.length ≤ 5)) : clsOk L = false := by
  unfold clsOk; rw [decide_eq_false h]; rfl
theorem not_ok_at {L : List Cl} (c : Nat) (hc : c < L.length) (h : classB L.length c (cl L c) = false) : clsOk L = false := by
  unfold clsOk
  rw [show (List.range L.length).all (fun c => classB L.length c (cl L c)) = false from by
    rw [List.all_eq_false]; exact ⟨c, List.mem_range.2 hc, by simp [h]⟩]
  simp
theorem up_root {L : List Cl} (h : clsOk L = true) : ∀ (a : Nat), a < L.length → up L a 0 = true := by
  intro a
  induction a using Nat.strongRecOn with
  | ind a ih =>
    intro hl
    by_cases h0 : 0 < a
    · rw [up_step h a 0 hl h0]
      have hs := (sup_lt h a h0 hl).1
      exact ih _ hs (by omega)
    · rw [up_stop L a 0 h0]; simp; omega

def upB (L : List Cl) (a b : Int) : Bool := isB L a && (isB L b && up L a.toNat b.toNat)

/-- The nearest above two. -/
def joinN (L : List Cl) (b : Nat) : Nat → Nat → Nat
  | 0, a => a
  | f + 1, a => if up L b a then a else joinN L b f (sup L a)
def join (L : List Cl) (a b : Nat) : Nat := joinN L b a a
theorem join_stop (L : List Cl) (a b : Nat) (h : up L b a = true) : join L a b = a := by
  unfold join
  match a with
  | 0 => rfl
  | a + 1 => rw [joinN, if_pos h]
theorem joinN_more {L : List Cl} (h : clsOk L = true) (b : Nat) (hb : b < L.length) : ∀ (a f : Nat), a < L.length → a ≤ f → joinN L b f a = joinN L b a a := by
  intro a
  induction a using Nat.strongRecOn with
  | ind a ih =>
    intro f hl hf
    match a, f, hf with
    | 0, 0, _ => rfl
    | 0, f + 1, _ => simp [joinN, up_root h b hb]
    | a + 1, f + 1, _ =>
      have hs := (sup_lt h (a + 1) (by omega) hl).1
      unfold joinN
      cases hu : up L b (a + 1)
      · simp only [Bool.false_eq_true, if_false]
        rw [ih (sup L (a + 1)) hs f (by omega) (by omega), ih (sup L (a + 1)) hs a (by omega) (by omega)]
      · rfl
theorem join_step {L : List Cl} (h : clsOk L = true) (a b : Nat) (hl : a < L.length) (hb : b < L.length) (hu : up L b a = false) : 1 ≤ a ∧ join L a b = join L (sup L a) b := by
  have h1 : 1 ≤ a := by
    match a with
    | 0 => rw [up_root h b hb] at hu; cases hu
    | a + 1 => omega
  have hs := (sup_lt h a h1 hl).1
  refine ⟨h1, ?_⟩
  unfold join
  match a, h1 with
  | a + 1, _ =>
    rw [joinN, hu]
    simp only [Bool.false_eq_true, if_false]
    rw [joinN_more h b hb (sup L (a + 1)) a (by omega) (by omega)]
theorem join_le {L : List Cl} (h : clsOk L = true) (b : Nat) (hb : b < L.length) : ∀ (a : Nat), a < L.length → join L a b ≤ a := by
  intro a
  induction a using Nat.strongRecOn with
  | ind a ih =>
    intro hl
    cases hu : up L b a
    · obtain ⟨h1, e⟩ := join_step h a b hl hb hu
      have hs := (sup_lt h a h1 hl).1
      have := ih _ hs (by omega)
      omega
    · rw [join_stop L a b hu]; exact Nat.le_refl _
def joinV (L : List Cl) (a b : Int) : Int := if isB L a && isB L b then (join L a.toNat b.toNat : Int) else -1

/-- Types. -/
def tyB (L : List Cl) (t : Int) : Bool := clsOk L && (t == 0 || (t == 2 || fieldB L.length t))
def inB (L : List Cl) (a b : Int) : Bool :=
  if a = b ∨ b = 0 then true else if a = 2 then decide (2 ≤ b) else if a < 2 ∨ b < 8 then false else if a < 8 then b == 8 else up L (a - 8).toNat (b - 8).toNat
def tyInB (L : List Cl) (a b : Int) : Bool := tyB L a && (tyB L b && inB L a b)
def meetV (L : List Cl) (a b : Int) : Int :=
  if inB L a b then b else if inB L b a then a else if a < 2 ∨ b < 2 then 0 else if a < 8 ∨ b < 8 then 8 else 8 + (join L (a - 8).toNat (b - 8).toNat : Int)
def tyJoinV (L : List Cl) (a b : Int) : Int := if tyB L a && tyB L b then meetV L a b else 0
theorem tyB_ok {L : List Cl} {t : Int} (h : tyB L t = true) : clsOk L = true := by
  unfold tyB at h; rw [Bool.and_eq_true] at h; exact h.1
theorem tyB_range {L : List Cl} {t : Int} (h : tyB L t = true) : 0 ≤ t ∧ t ≤ 8 + L.length - 1 ∧ (t < 5 ∨ 8 ≤ t) := by
  have ok := ok_len (tyB_ok h)
  unfold tyB fieldB at h
  simp at h
  omega

end Go.Proofs.YtjbmcdekhhbiaaaGreat
