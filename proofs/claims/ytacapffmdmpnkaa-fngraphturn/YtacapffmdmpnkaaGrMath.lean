/-
  In which order one comes to things: list by list, first the roots, then what is in the things, each number once, when one comes to it first.
-/
import Derived.Test.YtacapffmdmpnkaaHpSpec
namespace Go.Proofs.Ytacapffmdmpnkaa
open Go.ChangeShapes Go.WideShapes Go.ChangeAt Go.RowKit

def comeN (o : List Int) (n : Int) : List Int := if n ∈ o then o else o ++ [n]
def leads (xs : List Vl) : List Int := xs.filterMap fun v => if v.1 = true ∧ v.2 ≠ 0 then some v.2 else none
def valsOf (X : List Ob) (n : Int) : List Vl := (X.getD (n.toNat - 1) (0, [])).2
def listsOf (X : List Ob) (r : List Vl) (o : List Int) : List (List Vl) := r :: o.map (valsOf X)
def ordL (X : List Ob) (r : List Vl) : Nat → List Int
  | 0 => []
  | i + 1 => match (listsOf X r (ordL X r i))[i]? with
    | none => ordL X r i
    | some vs => (leads vs).foldl comeN (ordL X r i)
def orderOf (X : List Ob) (r : List Vl) : List Int := ordL X r (X.length + 1)

/-- A number that a thing has. -/
abbrev isN (N : Nat) (n : Int) : Prop := 0 < n ∧ n ≤ (N : Int)

theorem leads_in {N : Nat} {xs : List Vl} (h : xs.all (valB N) = true) : ∀ n ∈ leads xs, isN N n := by
  intro n hn
  obtain ⟨v, hv, hn⟩ := List.mem_filterMap.1 hn
  have := List.all_eq_true.1 h v hv
  by_cases e : v.1 = true ∧ v.2 ≠ 0
  · rw [if_pos e] at hn
    simp at hn
    subst hn
    simp [valB, e.1] at this
    have := e.2
    exact ⟨by omega, by omega⟩
  · rw [if_neg e] at hn
    cases hn
theorem vals_ok {X : List Ob} {r : List Vl} (h : heapB X r = true) (n : Int) : (valsOf X n).all (valB X.length) = true := by
  rw [heapB, Bool.and_eq_true] at h
  rw [valsOf, List.getD_eq_getElem?_getD]
  cases e : X[n.toNat - 1]? with
  | none => rfl
  | some x => exact List.all_eq_true.1 h.2 x (List.mem_of_getElem? e)
theorem roots_ok {X : List Ob} {r : List Vl} (h : heapB X r = true) : r.all (valB X.length) = true := by
  rw [heapB, Bool.and_eq_true] at h
  exact h.1
theorem lists_ok {X : List Ob} {r : List Vl} (h : heapB X r = true) (o : List Int) : ∀ vs ∈ listsOf X r o, vs.all (valB X.length) = true := by
  intro vs hv
  rcases List.mem_cons.1 hv with rfl | hv
  · exact roots_ok h
  · obtain ⟨n, _, rfl⟩ := List.mem_map.1 hv
    exact vals_ok h n

/-- What is so of an order. -/
structure Ordr (N : Nat) (o : List Int) : Prop where
  inn : ∀ n ∈ o, isN N n
  nd : o.Nodup
theorem Ordr.come {N : Nat} {o : List Int} (h : Ordr N o) {n : Int} (hn : isN N n) : Ordr N (comeN o n) := by
  unfold comeN
  by_cases e : n ∈ o
  · rw [if_pos e]; exact h
  · rw [if_neg e]
    refine ⟨fun m hm => ?_, ?_⟩
    · rcases List.mem_append.1 hm with hm | hm
      · exact h.inn m hm
      · simp at hm; subst hm; exact hn
    · rw [List.nodup_append]
      refine ⟨h.nd, by simp, fun a ha b hb => ?_⟩
      simp at hb; subst hb
      intro e2; subst e2; exact e ha
theorem Ordr.fold {N : Nat} : ∀ (xs : List Int) {o : List Int}, Ordr N o → (∀ n ∈ xs, isN N n) → Ordr N (xs.foldl comeN o)
  | [], _, h, _ => h
  | x :: xs, _, h, hx => Ordr.fold xs (h.come (hx x (List.mem_cons_self ..))) (fun n hn => hx n (List.mem_cons_of_mem _ hn))
theorem come_pre (o : List Int) (n : Int) : o <+: comeN o n := by
  unfold comeN
  by_cases e : n ∈ o
  · rw [if_pos e]; exact List.prefix_refl _
  · rw [if_neg e]; exact List.prefix_append _ _
theorem fold_pre : ∀ (xs : List Int) (o : List Int), o <+: xs.foldl comeN o
  | [], _ => List.prefix_refl _
  | x :: xs, o => (come_pre o x).trans (fold_pre xs _)
theorem ordr_at {X : List Ob} {r : List Vl} (h : heapB X r = true) : ∀ i, Ordr X.length (ordL X r i)
  | 0 => ⟨by simp [ordL], by simp [ordL]⟩
  | i + 1 => by
    rw [ordL]
    cases e : (listsOf X r (ordL X r i))[i]? with
    | none => exact ordr_at h i
    | some vs => exact Ordr.fold _ (ordr_at h i) (leads_in (lists_ok h _ vs (List.mem_of_getElem? e)))
/-- As many as there are things, at most. -/
theorem nodup_le : ∀ (N : Nat) (o : List Int), (∀ n ∈ o, isN N n) → o.Nodup → o.length ≤ N
  | 0, o, h, _ => by
    cases o with
    | nil => simp
    | cons x xs =>
      have := h x (List.mem_cons_self ..)
      unfold isN at this
      omega
  | N + 1, o, h, nd => by
    have h2 : (o.erase ((N : Int) + 1)).length ≤ N := nodup_le N _ (fun n hn => by
      have h3 := h n (List.mem_of_mem_erase hn)
      have h4 : n ≠ (N : Int) + 1 := ((List.Nodup.mem_erase_iff nd).1 hn).1
      unfold isN at h3 ⊢
      exact ⟨h3.1, by omega⟩) (nd.erase _)
    by_cases e : ((N : Int) + 1) ∈ o
    · rw [List.length_erase_of_mem e] at h2; omega
    · rw [List.erase_of_not_mem e] at h2; omega
theorem Ordr.le {N : Nat} {o : List Int} (h : Ordr N o) : o.length ≤ N := nodup_le N o h.inn h.nd

theorem ord_pre {X : List Ob} {r : List Vl} (i : Nat) : ordL X r i <+: ordL X r (i + 1) := by
  rw [ordL]
  cases (listsOf X r (ordL X r i))[i]? with
  | none => exact List.prefix_refl _
  | some vs => exact fold_pre _ _
/-- From where it stands still on it is the same. -/
theorem ord_stop {X : List Ob} {r : List Vl} {i : Nat} (h : (ordL X r i).length + 1 ≤ i) : ∀ k, ordL X r (i + k) = ordL X r i
  | 0 => rfl
  | k + 1 => by
    have ih := ord_stop h k
    rw [← Nat.add_assoc, ordL, ih, List.getElem?_eq_none (by simp [listsOf]; omega)]
theorem order_eq {X : List Ob} {r : List Vl} (ok : heapB X r = true) {i : Nat} (h : i = (ordL X r i).length + 1) : ordL X r i = orderOf X r := by
  have hl := (ordr_at ok i).le
  have := ord_stop (X := X) (r := r) (i := i) (by omega) (X.length + 1 - i)
  rw [orderOf, ← this]
  congr 1
  omega

end Go.Proofs.Ytacapffmdmpnkaa
