/-
  Memories, as lists: which things lie in words, and what is said of them.
-/
import Derived.Test.YtjbmcdekhhbiaaaGreatAppE
import Derived.Test.YtjbmcdekhhbiaaaGreatInI
import Derived.Test.YtjbmcdekhhbiaaaGreatDtMem
namespace Go.Proofs.YtjbmcdekhhbiaaaGreat
open Go.ChangeShapes Go.WideShapes Go.ChangeAt Go.RowKit

/-- What is in a thing of a class, or in an array of so many, by type; whether there is such; how many words stand ahead. -/
def typ (L : List Cl) (c n : Int) : List Int := if c = -1 then List.replicate n.toNat 1 else if c = -2 then List.replicate n.toNat 8 else fld L c.toNat
def isT (L : List Cl) (c n : Int) : Bool := if c = -1 ∨ c = -2 then inI n 0 6 else inI c 0 ((L.length : Int) - 1)
def hdN (c : Int) : Nat := if c = -1 ∨ c = -2 then 2 else 1
theorem hdN_pos (c : Int) : 1 ≤ hdN c ∧ hdN c ≤ 2 := by unfold hdN; split <;> omega
def wnt (L : List Cl) (c n : Int) : Nat := if isT L c n then hdN c + (typ L c n).length else 0
/-- How many words the thing has with which words begin; 0, if none does that is all there. -/
def tsz (L : List Cl) (ws : List Int) : Nat :=
  if ws.length = 0 then 0 else if isT L (ws.getD 0 0) (ws.getD 1 0) then (if hdN (ws.getD 0 0) + (typ L (ws.getD 0 0) (ws.getD 1 0)).length ≤ ws.length then hdN (ws.getD 0 0) + (typ L (ws.getD 0 0) (ws.getD 1 0)).length else 0) else 0
theorem tsz_le (L : List Cl) (ws : List Int) : tsz L ws ≤ ws.length := by
  unfold tsz
  split
  · omega
  · split
    · split <;> omega
    · omega
theorem tsz_nil (L : List Cl) : tsz L [] = 0 := rfl
theorem tsz_some {L : List Cl} {ws : List Int} (h : tsz L ws ≠ 0) : 1 ≤ ws.length ∧ isT L (ws.getD 0 0) (ws.getD 1 0) = true ∧ tsz L ws = hdN (ws.getD 0 0) + (typ L (ws.getD 0 0) (ws.getD 1 0)).length ∧ tsz L ws ≤ ws.length := by
  have hle := tsz_le L ws
  unfold tsz at h ⊢ hle
  by_cases h0 : ws.length = 0
  · rw [if_pos h0] at h; exact absurd rfl h
  · rw [if_neg h0] at h hle ⊢
    by_cases h1 : isT L (ws.getD 0 0) (ws.getD 1 0) = true
    · rw [if_pos h1] at h hle ⊢
      by_cases h2 : hdN (ws.getD 0 0) + (typ L (ws.getD 0 0) (ws.getD 1 0)).length ≤ ws.length
      · rw [if_pos h2] at hle ⊢; exact ⟨by omega, h1, rfl, hle⟩
      · rw [if_neg h2] at h; exact absurd rfl h
    · rw [if_neg h1] at h; exact absurd rfl h
theorem getD_more {ws vs : List Int} {j : Nat} (h : j < ws.length) : (ws ++ vs).getD j 0 = ws.getD j 0 := by
  rw [List.getD_eq_getElem?_getD, List.getD_eq_getElem?_getD, List.getElem?_append_left h]
/-- With more words behind it is the same thing. -/
theorem tsz_more {L : List Cl} {ws : List Int} (h : tsz L ws ≠ 0) (vs : List Int) : tsz L (ws ++ vs) = tsz L ws := by
  obtain ⟨h1, h2, h3, h4⟩ := tsz_some h
  have g0 : (ws ++ vs).getD 0 0 = ws.getD 0 0 := getD_more (by omega)
  have key : isT L (ws.getD 0 0) ((ws ++ vs).getD 1 0) = true ∧ typ L (ws.getD 0 0) ((ws ++ vs).getD 1 0) = typ L (ws.getD 0 0) (ws.getD 1 0) := by
    by_cases hl : 1 < ws.length
    · rw [getD_more hl]; exact ⟨h2, rfl⟩
    · have hc : ¬ (ws.getD 0 0 = -1 ∨ ws.getD 0 0 = -2) := by
        intro e
        have hd2 : hdN (ws.getD 0 0) = 2 := if_pos e
        omega
      unfold isT at h2 ⊢
      unfold typ
      rw [if_neg hc] at h2 ⊢
      rw [if_neg (by omega), if_neg (by omega), if_neg (by omega), if_neg (by omega)]
      exact ⟨h2, rfl⟩
  rw [h3]
  unfold tsz
  rw [List.length_append, if_neg (by omega), g0, key.1, key.2, if_pos rfl, if_pos (by omega)]

abbrev Th := Int × Int × List Int
abbrev thR : Rep Th := .pair .int (.pair .int (.list .int))
def tSz (t : Th) : Nat := hdN t.2.1 + t.2.2.length
/-- The thing with which words begin, at a place. -/
def thg (L : List Cl) (at' : Nat) (ws : List Int) : Th := ((at' : Int) + 1, ws.getD 0 0, typ L (ws.getD 0 0) (ws.getD 1 0))
theorem thg_sz {L : List Cl} {ws : List Int} (h : tsz L ws ≠ 0) (a : Nat) : tSz (thg L a ws) = tsz L ws := (tsz_some h).2.2.1.symm
def prs (L : List Cl) : Nat → Nat → List Int → Option (List Th)
  | 0, _, ws => if ws.length = 0 then some [] else none
  | f + 1, at', ws => if ws.length = 0 then some [] else if tsz L ws = 0 then none else (prs L f (at' + tsz L ws) (ws.drop (tsz L ws))).map (thg L at' ws :: ·)
theorem prs_more (L : List Cl) : ∀ (f g a : Nat) (ws : List Int), ws.length ≤ f → ws.length ≤ g → prs L f a ws = prs L g a ws
  | 0, 0, _, _, _, _ => rfl
  | 0, g + 1, a, ws, hf, _ => by unfold prs; rw [if_pos (by omega), if_pos (by omega)]
  | f + 1, 0, a, ws, _, hg => by unfold prs; rw [if_pos (by omega), if_pos (by omega)]
  | f + 1, g + 1, a, ws, hf, hg => by
    unfold prs
    by_cases h0 : ws.length = 0
    · rw [if_pos h0, if_pos h0]
    · rw [if_neg h0, if_neg h0]
      by_cases h1 : tsz L ws = 0
      · rw [if_pos h1, if_pos h1]
      · rw [if_neg h1, if_neg h1, prs_more L f g _ _ (by rw [List.length_drop]; omega) (by rw [List.length_drop]; omega)]
/-- All of some words as things one behind the other, the first one at a place. -/
def parse (L : List Cl) (a : Nat) (ws : List Int) : Option (List Th) := prs L ws.length a ws
theorem parse_nil (L : List Cl) (a : Nat) {ws : List Int} (h : ws.length = 0) : parse L a ws = some [] := by
  unfold parse; rw [h]; unfold prs; rw [if_pos h]
theorem parse_no (L : List Cl) (a : Nat) {ws : List Int} (h : ws.length ≠ 0) (h1 : tsz L ws = 0) : parse L a ws = none := by
  unfold parse
  obtain ⟨n, hn⟩ : ∃ n, ws.length = n + 1 := ⟨ws.length - 1, by omega⟩
  rw [hn]; unfold prs; rw [if_neg h, if_pos h1]
theorem parse_step (L : List Cl) (a : Nat) {ws : List Int} (h1 : tsz L ws ≠ 0) : parse L a ws = (parse L (a + tsz L ws) (ws.drop (tsz L ws))).map (thg L a ws :: ·) := by
  have hp := tsz_some h1
  unfold parse
  obtain ⟨n, hn⟩ : ∃ n, ws.length = n + 1 := ⟨ws.length - 1, by omega⟩
  rw [hn]
  conv => lhs; unfold prs
  rw [if_neg (by omega), if_neg h1, prs_more L n (ws.drop (tsz L ws)).length _ _ (by rw [List.length_drop]; omega) (Nat.le_refl _)]

/-- What is so of each thing that is found. -/
structure Lies' (L : List Cl) (a : Nat) (ws : List Int) (t : Th) : Prop where
  lo : (a : Int) + 1 ≤ t.1
  hi : t.1.toNat - 1 - a + tSz t ≤ ws.length
  cls : ws.getD (t.1.toNat - 1 - a) 0 = t.2.1
  ist : isT L t.2.1 (ws.getD (t.1.toNat - 1 - a + 1) 0) = true
  ty : t.2.2 = typ L t.2.1 (ws.getD (t.1.toNat - 1 - a + 1) 0)
  sz : tsz L (ws.drop (t.1.toNat - 1 - a)) = tSz t
def Asc (ts : List Th) : Prop := ts.Pairwise (fun s t => s.1 + tSz s ≤ t.1)
theorem getD_drop (ws : List Int) (n j : Nat) : (ws.drop n).getD j 0 = ws.getD (n + j) 0 := by
  rw [List.getD_eq_getElem?_getD, List.getD_eq_getElem?_getD, List.getElem?_drop]
theorem prs_lies (L : List Cl) : ∀ (f a : Nat) (ws : List Int) (ts : List Th), prs L f a ws = some ts → (∀ t ∈ ts, Lies' L a ws t) ∧ Asc ts
  | 0, a, ws, ts, h => by
    unfold prs at h
    by_cases h0 : ws.length = 0
    · rw [if_pos h0] at h; cases h; exact ⟨by simp, List.Pairwise.nil⟩
    · rw [if_neg h0] at h; cases h
  | f + 1, a, ws, ts, h => by
    unfold prs at h
    by_cases h0 : ws.length = 0
    · rw [if_pos h0] at h; cases h; exact ⟨by simp, List.Pairwise.nil⟩
    · rw [if_neg h0] at h
      by_cases h1 : tsz L ws = 0
      · rw [if_pos h1] at h; cases h
      · rw [if_neg h1] at h
        cases hr : prs L f (a + tsz L ws) (ws.drop (tsz L ws)) with
        | none => rw [hr] at h; cases h
        | some rs =>
          rw [hr] at h
          simp only [Option.map_some, Option.some.injEq] at h
          subst h
          obtain ⟨i1, i2⟩ := prs_lies L f _ _ _ hr
          obtain ⟨p1, p2, p3, p4⟩ := tsz_some h1
          have hs := thg_sz h1 a
          refine ⟨fun t ht => ?_, ?_⟩
          · rcases List.mem_cons.1 ht with rfl | ht
            · have e : (thg L a ws).1.toNat - 1 - a = 0 := by simp [thg]
              refine ⟨by simp [thg], by rw [e, hs]; omega, by rw [e]; rfl, by rw [e]; exact p2, by rw [e]; rfl, by rw [e, List.drop_zero, hs]⟩
            · have q := i1 t ht
              have ql := q.lo
              have e : t.1.toNat - 1 - a = tsz L ws + (t.1.toNat - 1 - (a + tsz L ws)) := by omega
              refine ⟨by omega, ?_, ?_, ?_, ?_, ?_⟩
              · have := q.hi; rw [List.length_drop] at this; omega
              · rw [e, ← getD_drop]; exact q.cls
              · rw [e, Nat.add_assoc, ← getD_drop]; exact q.ist
              · rw [e, Nat.add_assoc, ← getD_drop]; exact q.ty
              · rw [e, ← List.drop_drop]; exact q.sz
          · refine List.Pairwise.cons (fun t ht => ?_) i2
            have := (i1 t ht).lo
            rw [hs]
            simp only [thg]
            omega
theorem parse_lies {L : List Cl} {a : Nat} {ws : List Int} {ts : List Th} (h : parse L a ws = some ts) : (∀ t ∈ ts, Lies' L a ws t) ∧ Asc ts := prs_lies L _ _ _ _ h

def crd (n : Int) : Int := (n + 3).tdiv 4
def bndB (L : List Cl) (m : Mm) : Bool :=
  clsOk L && (inI m.2.1 0 40 && (inI ((m.1.length : Int) - m.2.1) 14 120 && (inI m.2.2.1 0 m.2.1 && (inI m.2.2.2.1 m.2.1 m.1.length && ((m.2.2.2.2.length : Int) == crd ((m.1.length : Int) - m.2.1))))))
def idle (m : Mm) (i : Nat) : Bool := inI i m.2.2.1 (m.2.1 - 1) || decide (m.2.2.2.1 ≤ i)
def zerB (m : Mm) : Bool := (List.range m.1.length).all (fun i => !idle m i || m.1.getD i 0 == 0)
def yPs (L : List Cl) (m : Mm) : Option (List Th) := parse L 0 (m.1.take m.2.2.1.toNat)
def oPs (L : List Cl) (m : Mm) : Option (List Th) := parse L m.2.1.toNat ((m.1.take m.2.2.2.1.toNat).drop m.2.1.toNat)
def thT (L : List Cl) (m : Mm) : List Th := (yPs L m).getD [] ++ (oPs L m).getD []
/-- Whether a thing begins at a place. -/
def isAt (T : List Th) (v : Int) : Bool := T.any (fun t => t.1 == v)
theorem isAt_iff {T : List Th} {v : Int} : isAt T v = true ↔ ∃ t ∈ T, t.1 = v := by
  unfold isAt; simp
def ledV (T : List Th) (v : Int) : Bool := v == 0 || isAt T v
/-- Whether v may be where that type is told; whether its card must be set. -/
def mayV (T : List Th) (ty v : Int) : Bool := if ty = 1 then inI v (-128) 127 else ledV T v
def plc (t : Th) (k : Nat) : Nat := t.1.toNat - 1 + hdN t.2.1 + k
def needV (m : Mm) (t : Th) (k : Nat) (v : Int) : Bool := !(inI t.1 1 m.2.1) && (t.2.2.getD k 0 != 1 && inI v 1 m.2.1)
def cdN (m : Mm) (i : Nat) : Nat := (i - m.2.1.toNat) / 4
def valB' (m : Mm) (T : List Th) (t : Th) : Bool := (List.range t.2.2.length).all (fun k => mayV T (t.2.2.getD k 0) (m.1.getD (plc t k) 0))
def crdB (m : Mm) (t : Th) : Bool := (List.range t.2.2.length).all (fun k => !needV m t k (m.1.getD (plc t k) 0) || m.2.2.2.2.getD (cdN m (plc t k)) false)
def memB (L : List Cl) (m : Mm) : Bool := bndB L m && (zerB m && ((yPs L m).isSome && (oPs L m).isSome && (thT L m).all (fun t => valB' m (thT L m) t && crdB m t)))

structure Bnd (L : List Cl) (m : Mm) : Prop where
  ok : clsOk L = true
  yg : 0 ≤ m.2.1 ∧ m.2.1 ≤ 40
  od : 14 ≤ (m.1.length : Int) - m.2.1 ∧ (m.1.length : Int) - m.2.1 ≤ 120
  tp : 0 ≤ m.2.2.1 ∧ m.2.2.1 ≤ m.2.1
  oo : m.2.1 ≤ m.2.2.2.1 ∧ m.2.2.2.1 ≤ m.1.length
  cd : (m.2.2.2.2.length : Int) = crd ((m.1.length : Int) - m.2.1)
theorem crd_eq {n : Int} (h : 0 ≤ n) : crd n = (n + 3) / 4 := Int.tdiv_eq_ediv_of_nonneg (by omega)
theorem inI_iff {n lo hi : Int} : inI n lo hi = true ↔ lo ≤ n ∧ n ≤ hi := by unfold inI; simp
theorem Bnd.of {L : List Cl} {m : Mm} (h : bndB L m = true) : Bnd L m := by
  unfold bndB at h
  simp only [Bool.and_eq_true, inI_iff, beq_iff_eq] at h
  exact ⟨h.1, h.2.1, h.2.2.1, h.2.2.2.1, h.2.2.2.2.1, h.2.2.2.2.2⟩
theorem Bnd.to {L : List Cl} {m : Mm} (h : Bnd L m) : bndB L m = true := by
  unfold bndB
  simp only [Bool.and_eq_true, inI_iff, beq_iff_eq]
  exact ⟨h.ok, h.yg, h.od, h.tp, h.oo, h.cd⟩
theorem fld_one {L : List Cl} (ok : clsOk L = true) : ∀ (c : Nat), c < L.length → ∀ t ∈ fld L c, 1 ≤ t := by
  intro c
  induction c using Nat.strongRecOn with
  | ind c ih =>
    intro hl t ht
    by_cases h0 : c = 0
    · subst h0; simp [fld_zero] at ht
    · rw [fld_step ok c hl (by omega)] at ht
      rcases List.mem_append.1 ht with h | h
      · have hs := (sup_lt ok c (by omega) hl).1
        exact ih _ hs (by omega) t h
      · have h1 := ok
        unfold clsOk at h1
        rw [Bool.and_eq_true, List.all_eq_true] at h1
        have h2 := h1.2 c (List.mem_range.2 hl)
        unfold classB at h2
        rw [Bool.and_eq_true, List.all_eq_true] at h2
        have h3 := h2.1 t h
        unfold fieldB at h3
        simp only [Bool.or_eq_true, Bool.and_eq_true, beq_iff_eq, decide_eq_true_eq] at h3
        omega
/-- What is in a thing is of some type. -/
theorem typ_one {L : List Cl} (ok : clsOk L = true) {c n : Int} (h : isT L c n = true) : ∀ k, k < (typ L c n).length → (typ L c n).getD k 0 ≠ 0 := by
  intro k hk
  rw [List.getD_eq_getElem?_getD, List.getElem?_eq_getElem hk]
  show (typ L c n)[k] ≠ 0
  have hm : (typ L c n)[k] ∈ typ L c n := List.getElem_mem hk
  generalize (typ L c n)[k] = t at hm
  have h2 := ok_len ok
  unfold typ at hm
  unfold isT at h
  split at hm
  · have := List.eq_of_mem_replicate hm; omega
  · split at hm
    · have := List.eq_of_mem_replicate hm; omega
    · rw [if_neg (by omega), inI] at h
      simp only [Bool.and_eq_true, decide_eq_true_eq] at h
      have := fld_one ok c.toNat (by omega) t hm
      omega
/-- What is so of each thing of a memory. -/
structure TOk (L : List Cl) (m : Mm) (t : Th) : Prop where
  lo : 1 ≤ t.1
  hi : t.1.toNat - 1 + tSz t ≤ m.1.length
  cls : m.1.getD (t.1.toNat - 1) 0 = t.2.1
  ist : isT L t.2.1 (m.1.getD (t.1.toNat - 1 + 1) 0) = true
  ty : t.2.2 = typ L t.2.1 (m.1.getD (t.1.toNat - 1 + 1) 0)
  sz : tsz L (m.1.drop (t.1.toNat - 1)) = tSz t
  pt : t.1 + tSz t ≤ m.2.1 + 1 ∨ m.2.1 < t.1
  use : t.1 + tSz t ≤ m.2.2.1 + 1 ∨ m.2.1 < t.1 ∧ t.1 + tSz t ≤ m.2.2.2.1 + 1
  tz : ∀ k, k < t.2.2.length → t.2.2.getD k 0 ≠ 0
theorem tSz_pos (t : Th) : 1 ≤ tSz t := by have := hdN_pos t.2.1; unfold tSz; omega
theorem getD_take {ws : List Int} {n j : Nat} (h : j < n) : (ws.take n).getD j 0 = ws.getD j 0 := by
  rw [List.getD_eq_getElem?_getD, List.getD_eq_getElem?_getD, List.getElem?_take, if_pos h]
/-- A thing in a piece of the words is one of the words. -/
theorem Lies'.whole {L : List Cl} {ws : List Int} {a e : Nat} {t : Th} (h : Lies' L a ((ws.take e).drop a) t) (hae : a ≤ e) (hel : e ≤ ws.length) :
    (a : Int) + 1 ≤ t.1 ∧ t.1.toNat - 1 + tSz t ≤ e ∧ ws.getD (t.1.toNat - 1) 0 = t.2.1 ∧ isT L t.2.1 (ws.getD (t.1.toNat - 1 + 1) 0) = true ∧ t.2.2 = typ L t.2.1 (ws.getD (t.1.toNat - 1 + 1) 0) ∧ tsz L (ws.drop (t.1.toNat - 1)) = tSz t := by
  have h1 := h.lo
  have h2 := h.hi
  have hp := tSz_pos t
  rw [List.length_drop, List.length_take] at h2
  have e1 : a + (t.1.toNat - 1 - a) = t.1.toNat - 1 := by omega
  have h3 := h.sz
  rw [List.drop_drop, e1] at h3
  have h4 : tsz L (ws.drop (t.1.toNat - 1)) = tSz t := by
    rw [← h3]
    have hs : ws.drop (t.1.toNat - 1) = (ws.take e).drop (t.1.toNat - 1) ++ ws.drop e := by
      conv => lhs; rw [← List.take_append_drop e ws]
      rw [List.drop_append_of_le_length (by rw [List.length_take]; omega)]
    rw [hs]
    exact tsz_more (by rw [h3]; omega) _
  obtain ⟨q1, q2, q3, q4⟩ := tsz_some (L := L) (ws := ws.drop (t.1.toNat - 1)) (by rw [h4]; omega)
  have h5 := h.cls
  rw [getD_drop, e1, getD_take (by omega)] at h5
  simp only [getD_drop, Nat.add_zero] at q2 q3
  rw [h5] at q2 q3
  refine ⟨h1, by omega, h5, q2, ?_, h4⟩
  have h6 := h.ty
  by_cases hl : t.1.toNat - 1 + 1 < e
  · rw [getD_drop, ← Nat.add_assoc, e1, getD_take hl] at h6; exact h6
  · have hc : ¬ (t.2.1 = -1 ∨ t.2.1 = -2) := by
      intro he
      have hd2 : hdN t.2.1 = 2 := if_pos he
      unfold tSz at h2 hp
      omega
    rw [h6]
    unfold Proofs.YtjbmcdekhhbiaaaGreat.typ
    rw [if_neg (by omega), if_neg (by omega), if_neg (by omega), if_neg (by omega)]
theorem thT_ok {L : List Cl} {m : Mm} (h : Bnd L m) : (∀ t ∈ thT L m, TOk L m t) ∧ Asc (thT L m) := by
  obtain ⟨ok, yg, od, tp, oo, cd⟩ := h
  have hy : (∀ t ∈ (yPs L m).getD [], TOk L m t ∧ t.1 + tSz t ≤ m.2.2.1 + 1) ∧ Asc ((yPs L m).getD []) := by
    cases hp : yPs L m with
    | none => exact ⟨by simp, List.Pairwise.nil⟩
    | some ts =>
      have hp' : parse L 0 ((m.1.take m.2.2.1.toNat).drop 0) = some ts := by rw [List.drop_zero]; exact hp
      obtain ⟨q1, q2⟩ := parse_lies hp'
      refine ⟨fun t ht => ?_, q2⟩
      obtain ⟨r1, r2, r3, r4, r5, r6⟩ := (q1 t ht).whole (Nat.zero_le _) (by omega)
      have := tSz_pos t
      exact ⟨⟨by omega, by omega, r3, r4, r5, r6, by omega, by omega, by rw [r5]; exact typ_one ok r4⟩, by omega⟩
  have ho : (∀ t ∈ (oPs L m).getD [], TOk L m t ∧ m.2.1 < t.1) ∧ Asc ((oPs L m).getD []) := by
    cases hp : oPs L m with
    | none => exact ⟨by simp, List.Pairwise.nil⟩
    | some ts =>
      obtain ⟨q1, q2⟩ := parse_lies hp
      refine ⟨fun t ht => ?_, q2⟩
      obtain ⟨r1, r2, r3, r4, r5, r6⟩ := (q1 t ht).whole (by omega) (by omega)
      have := tSz_pos t
      exact ⟨⟨by omega, by omega, r3, r4, r5, r6, by omega, by omega, by rw [r5]; exact typ_one ok r4⟩, by omega⟩
  refine ⟨fun t ht => ?_, ?_⟩
  · rcases List.mem_append.1 ht with ht | ht
    · exact (hy.1 t ht).1
    · exact (ho.1 t ht).1
  · refine List.pairwise_append.2 ⟨hy.2, ho.2, fun s hs t ht => ?_⟩
    have := (hy.1 s hs).2
    have := (ho.1 t ht).2
    omega

end Go.Proofs.YtjbmcdekhhbiaaaGreat
