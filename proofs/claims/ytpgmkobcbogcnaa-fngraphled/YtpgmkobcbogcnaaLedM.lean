/-
  To each thing that is left something ahead leads: the greatest number so far, and one more at most.
-/
import Derived.Test.YtpgmkobcbogcnaaLawG
namespace Go.Proofs.Ytpgmkobcbogcnaa
open Go.ChangeShapes Go.WideShapes Go.ChangeAt Go.RowKit

def upTo (n : Nat) : List Int := (List.range n).map (fun (i : Nat) => (i : Int) + 1)
theorem upTo_len (n : Nat) : (upTo n).length = n := by simp [upTo]
theorem upTo_at {n i : Nat} (h : i < n) : (upTo n)[i]? = some ((i : Int) + 1) := by simp [upTo, h]
theorem upTo_mem {n : Nat} {v : Int} : v ∈ upTo n ↔ 0 < v ∧ v ≤ (n : Int) := by
  constructor
  · intro h
    obtain ⟨i, hi, rfl⟩ := List.mem_map.1 h
    have := List.mem_range.1 hi
    omega
  · intro h
    exact List.mem_map.2 ⟨(v - 1).toNat, List.mem_range.2 (by omega), by omega⟩
theorem upTo_succ (n : Nat) : upTo (n + 1) = upTo n ++ [(n : Int) + 1] := by simp [upTo, List.range_succ]
theorem upTo_pre {p : List Int} {K : Nat} (h : p <+: upTo K) : p = upTo p.length := by
  have hl := h.length_le
  rw [upTo_len] at hl
  refine List.ext_getElem? fun i => ?_
  by_cases hi : i < p.length
  · rw [← pre_get h hi, upTo_at (by omega), upTo_at hi]
  · rw [List.getElem?_eq_none (by omega), List.getElem?_eq_none (by rw [upTo_len]; omega)]

def maxV (n : Int) (v : Vl) : Int := if v.1 = true then max n v.2 else n
def maxL (n : Int) (vs : List Vl) : Int := vs.foldl maxV n
theorem maxL_take (n : Int) (vs : List Vl) {j : Nat} {v : Vl} (h : vs[j]? = some v) : maxL n (vs.take (j + 1)) = maxV (maxL n (vs.take j)) v := by
  rw [maxL, List.take_add_one, h, List.foldl_append]; rfl
theorem led_step (K : Nat) : ∀ (vs : List Vl) (n : Nat), (leads vs).foldl comeN (upTo n) <+: upTo K → ∃ m : Nat, (leads vs).foldl comeN (upTo n) = upTo m ∧ maxL n vs = (m : Int) ∧ ∀ (j : Nat) (v : Vl), vs[j]? = some v → v.1 = true → v.2 ≤ maxL n (vs.take j) + 1
  | [], n, _ => ⟨n, rfl, rfl, by simp⟩
  | v :: vs, n, h => by
    have main : ∀ n' : Nat, maxV n v = (n' : Int) → (leads (v :: vs)).foldl comeN (upTo n) = (leads vs).foldl comeN (upTo n') → (v.1 = true → v.2 ≤ (n : Int) + 1) → ∃ m : Nat, (leads (v :: vs)).foldl comeN (upTo n) = upTo m ∧ maxL n (v :: vs) = (m : Int) ∧ ∀ (j : Nat) (x : Vl), (v :: vs)[j]? = some x → x.1 = true → x.2 ≤ maxL n ((v :: vs).take j) + 1 := by
      intro n' e1 e2 e3
      obtain ⟨m, h1, h2, h3⟩ := led_step K vs n' (by rw [← e2]; exact h)
      refine ⟨m, by rw [e2, h1], ?_, ?_⟩
      · rw [maxL, List.foldl_cons, e1]; exact h2
      · intro j x hx hx1
        cases j with
        | zero =>
          simp at hx
          subst hx
          exact e3 hx1
        | succ j =>
          rw [List.take_succ_cons, maxL, List.foldl_cons, e1]
          exact h3 j x (by simpa using hx) hx1
    obtain ⟨v1, v2⟩ := v
    cases v1
    · exact main n rfl (by simp [leads]) (by simp)
    · by_cases c : v2 = 0
      · subst c
        exact main n (by simp [maxV]) (by simp [leads]) (by intro _; show (0 : Int) ≤ _; omega)
      · have el : leads ((true, v2) :: vs) = v2 :: leads vs := by simp [leads, c]
        rw [el, List.foldl_cons] at h
        have hp := (fold_pre (leads vs) (comeN (upTo n) v2)).trans h
        by_cases d : v2 ∈ upTo n
        · have hd := upTo_mem.1 d
          have ec : comeN (upTo n) v2 = upTo n := by unfold comeN; rw [if_pos d]
          exact main n (by simp [maxV]; omega) (by rw [el, List.foldl_cons, ec]) (by intro _; show v2 ≤ _; omega)
        · have ec : comeN (upTo n) v2 = upTo n ++ [v2] := by unfold comeN; rw [if_neg d]
          rw [ec] at hp
          have hu := upTo_pre hp
          rw [List.length_append, upTo_len] at hu
          have hu : upTo n ++ [v2] = upTo n ++ [(n : Int) + 1] := by rw [← upTo_succ]; exact hu
          have ev : v2 = (n : Int) + 1 := by simpa using hu
          exact main (n + 1) (by simp [maxV]; omega) (by rw [el, List.foldl_cons, ec, ev, upTo_succ]) (by intro _; show v2 ≤ _; omega)

/-- The greatest number behind the roots and so many things. -/
def nAt (Y : List Ob) (s : List Vl) : Nat → Int
  | 0 => maxL 0 s
  | i + 1 => maxL (nAt Y s i) (Y.getD i (0, [])).2
theorem ren_up {o : List Int} (nd : o.Nodup) : o.map (idxN o) = upTo o.length := by
  refine List.ext_getElem? fun i => ?_
  by_cases hi : i < o.length
  · rw [upTo_at hi, List.getElem?_map, List.getElem?_eq_getElem hi]
    obtain ⟨k, hk, ek⟩ := idx_at nd (List.getElem_mem hi)
    have : i = k := (List.getElem?_inj hi nd).1 (by rw [hk, List.getElem?_eq_getElem hi])
    subst this
    show some _ = some _
    rw [ek]
  · rw [List.getElem?_eq_none (by simpa using hi), List.getElem?_eq_none (by rw [upTo_len]; omega)]
theorem order_up (X : List Ob) (r : List Vl) : orderOf (gOf X r) (rOf X r) = upTo (gOf X r).length := by
  by_cases ok : heapB X r = true
  · have e1 : gOf X r = graphOf X r := by unfold gOf; rw [if_pos ok]
    have e2 : rOf X r = rootsOf X r := by unfold rOf; rw [if_pos ok]
    rw [e1, e2, ((moved_twice ok).order ok (by rw [graph_len]; exact Nat.le_refl _)).1, graph_len]
    exact ren_up (ordr_at ok (X.length + 1)).nd
  · have e1 : gOf X r = [] := by unfold gOf; rw [if_neg ok]
    have e2 : rOf X r = [] := by unfold rOf; rw [if_neg ok]
    rw [e1, e2]
    rfl
/-- What the law asks of what is left. -/
structure LedP (Y : List Ob) (s : List Vl) : Prop where
  roots : ∀ (j : Nat) (v : Vl), s[j]? = some v → v.1 = true → v.2 ≤ maxL 0 (s.take j) + 1
  ahead : ∀ i, i < Y.length → (i : Int) < nAt Y s i
  things : ∀ i, i < Y.length → ∀ (j : Nat) (v : Vl), (Y.getD i (0, [])).2[j]? = some v → v.1 = true → v.2 ≤ maxL (nAt Y s i) ((Y.getD i (0, [])).2.take j) + 1
  all : nAt Y s Y.length = (Y.length : Int)
theorem led_of {Y : List Ob} {s : List Vl} (ok : heapB Y s = true) (ho : orderOf Y s = upTo Y.length) : LedP Y s := by
  have hpre : ∀ i, i ≤ Y.length + 1 → ordL Y s i <+: upTo Y.length := fun i hi => by
    have := ord_le (X := Y) (r := s) i (Y.length + 1 - i)
    have e : i + (Y.length + 1 - i) = Y.length + 1 := by omega
    rw [e] at this
    rw [← ho]
    exact this
  have h0 := led_step Y.length s 0 (hpre 1 (by omega))
  have key : ∀ i, i ≤ Y.length → ∃ m : Nat, ordL Y s (i + 1) = upTo m ∧ nAt Y s i = (m : Int) ∧ (i < Y.length → i < m) := by
    have hm : ∀ i m, i ≤ Y.length → ordL Y s (i + 1) = upTo m → i < Y.length → i < m := by
      intro i m hi e hlt
      by_cases c : i < m
      · exact c
      · have hf := ord_full ok (i := i + 1) (by rw [e, upTo_len]; omega)
        rw [e, ho] at hf
        have := congrArg List.length hf
        rw [upTo_len, upTo_len] at this
        omega
    intro i
    induction i with
    | zero =>
      intro hi
      obtain ⟨m, h1, h2, _⟩ := h0
      exact ⟨m, h1, h2, hm 0 m hi h1⟩
    | succ i ih =>
      intro hi
      obtain ⟨m, h1, h2, h3⟩ := ih (by omega)
      have hlt := h3 (by omega)
      have e : ordL Y s (i + 1 + 1) = (leads (Y.getD i (0, [])).2).foldl comeN (upTo m) := by
        have u : ordL Y s (i + 1 + 1) = match (listsOf Y s (ordL Y s (i + 1)))[i + 1]? with
          | none => ordL Y s (i + 1)
          | some vs => (leads vs).foldl comeN (ordL Y s (i + 1)) := rfl
        rw [u, h1]
        have g : (listsOf Y s (upTo m))[i + 1]? = some (Y.getD i (0, [])).2 := by
          rw [listsOf, List.getElem?_cons_succ, List.getElem?_map, upTo_at hlt]
          show some (valsOf Y ((i : Int) + 1)) = _
          rw [valsOf]
          have : ((i : Int) + 1).toNat - 1 = i := by omega
          rw [this]
        rw [g]
      obtain ⟨m2, g1, g2, _⟩ := led_step Y.length (Y.getD i (0, [])).2 m (by rw [← e]; exact hpre _ (by omega))
      refine ⟨m2, by rw [e, g1], by rw [nAt, h2]; exact g2, hm (i + 1) m2 hi (by rw [e, g1])⟩
  refine ⟨?_, ?_, ?_, ?_⟩
  · obtain ⟨m, _, _, h⟩ := h0
    exact h
  · intro i hi
    obtain ⟨m, _, h2, h3⟩ := key i (by omega)
    have := h3 hi
    omega
  · intro i hi
    obtain ⟨m, h1, h2, h3⟩ := key i (by omega)
    have hlt := h3 hi
    have e : ordL Y s (i + 1 + 1) = (leads (Y.getD i (0, [])).2).foldl comeN (upTo m) := by
      have u : ordL Y s (i + 1 + 1) = match (listsOf Y s (ordL Y s (i + 1)))[i + 1]? with
        | none => ordL Y s (i + 1)
        | some vs => (leads vs).foldl comeN (ordL Y s (i + 1)) := rfl
      rw [u, h1]
      have g : (listsOf Y s (upTo m))[i + 1]? = some (Y.getD i (0, [])).2 := by
        rw [listsOf, List.getElem?_cons_succ, List.getElem?_map, upTo_at hlt]
        show some (valsOf Y ((i : Int) + 1)) = _
        rw [valsOf]
        have : ((i : Int) + 1).toNat - 1 = i := by omega
        rw [this]
      rw [g]
    obtain ⟨m2, _, _, g3⟩ := led_step Y.length (Y.getD i (0, [])).2 m (by rw [← e]; exact hpre _ (by omega))
    rw [h2]
    exact g3
  · obtain ⟨m, h1, h2, _⟩ := key Y.length (Nat.le_refl _)
    have h1 : orderOf Y s = upTo m := h1
    rw [ho] at h1
    have := congrArg List.length h1
    rw [upTo_len, upTo_len] at this
    omega
theorem ledP (X : List Ob) (r : List Vl) : LedP (gOf X r) (rOf X r) := led_of (gTwice X r).2.2 (order_up X r)
theorem max_if (n x : Int) : (if n < x then x else n) = maxV n (true, x) := by
  show _ = (if true = true then max n x else n)
  rw [if_pos rfl]
  by_cases c : n < x
  · rw [if_pos c]; omega
  · rw [if_neg c]; omega
theorem maxV_le (n : Int) (v : Vl) : n ≤ maxV n v := by
  unfold maxV
  by_cases c : v.1 = true
  · rw [if_pos c]; omega
  · rw [if_neg c]; omega
theorem maxL_le : ∀ (vs : List Vl) (n : Int), n ≤ maxL n vs
  | [], _ => Int.le_refl _
  | v :: vs, n => Int.le_trans (maxV_le n v) (maxL_le vs (maxV n v))
theorem maxL_tk (n : Int) (vs : List Vl) (j : Nat) : maxL n (vs.take j) ≤ maxL n vs := by
  have h := maxL_le (vs.drop j) (maxL n (vs.take j))
  rw [maxL, maxL, ← List.foldl_append, List.take_append_drop] at h
  exact h
theorem nAt_le {Y : List Ob} {s : List Vl} (i : Nat) : ∀ k, nAt Y s i ≤ nAt Y s (i + k)
  | 0 => Int.le_refl _
  | k + 1 => Int.le_trans (nAt_le i k) (maxL_le _ _)
theorem LedP.few {Y : List Ob} {s : List Vl} (h : LedP Y s) {i : Nat} (hi : i ≤ Y.length) : 0 ≤ nAt Y s i ∧ nAt Y s i ≤ (Y.length : Int) := by
  have h1 := nAt_le (Y := Y) (s := s) i (Y.length - i)
  have e : i + (Y.length - i) = Y.length := by omega
  rw [e, h.all] at h1
  have h2 := nAt_le (Y := Y) (s := s) 0 i
  rw [Nat.zero_add] at h2
  have h3 : 0 ≤ nAt Y s 0 := maxL_le s 0
  exact ⟨by omega, h1⟩
theorem LedP.rootsB {Y : List Ob} {s : List Vl} (h : LedP Y s) (j : Nat) : 0 ≤ maxL 0 (s.take j) ∧ maxL 0 (s.take j) ≤ (Y.length : Int) := by
  have h1 := h.few (Nat.zero_le _)
  have h2 := maxL_tk 0 s j
  exact ⟨maxL_le _ 0, by have h3 : nAt Y s 0 = maxL 0 s := rfl; omega⟩
theorem LedP.thingsB {Y : List Ob} {s : List Vl} (h : LedP Y s) {i : Nat} (hi : i < Y.length) (j : Nat) : 0 ≤ maxL (nAt Y s i) ((Y.getD i (0, [])).2.take j) ∧ maxL (nAt Y s i) ((Y.getD i (0, [])).2.take j) ≤ (Y.length : Int) := by
  have h0 := h.few (Nat.le_of_lt hi)
  have h1 := h.few (i := i + 1) (by omega)
  have h2 := maxL_tk (nAt Y s i) (Y.getD i (0, [])).2 j
  have h3 := maxL_le ((Y.getD i (0, [])).2.take j) (nAt Y s i)
  exact ⟨by omega, by have h3 : nAt Y s (i + 1) = maxL (nAt Y s i) (Y.getD i (0, [])).2 := rfl; omega⟩

end Go.Proofs.Ytpgmkobcbogcnaa
