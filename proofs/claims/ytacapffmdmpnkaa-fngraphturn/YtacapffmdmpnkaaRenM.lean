/-
  Things that stand elsewhere: if what one comes to bears other numbers, and leads by them, what is left is the same.
-/
import Derived.Test.YtacapffmdmpnkaaGrImpl
namespace Go.Proofs.Ytacapffmdmpnkaa
open Go.ChangeShapes Go.WideShapes Go.ChangeAt Go.RowKit

/-- Where one comes to is closed: all to which it leads is in it. -/
theorem pre_get {o p : List Int} (h : o <+: p) {j : Nat} (hj : j < o.length) : p[j]? = o[j]? := by
  obtain ⟨t, rfl⟩ := h
  rw [List.getElem?_append_left hj]
theorem ord_le {X : List Ob} {r : List Vl} (i : Nat) : ∀ k, ordL X r i <+: ordL X r (i + k)
  | 0 => List.prefix_refl _
  | k + 1 => (ord_le i k).trans (ord_pre (i + k))
theorem come_mem (o : List Int) (n : Int) : n ∈ comeN o n := by
  unfold comeN
  by_cases e : n ∈ o
  · rw [if_pos e]; exact e
  · rw [if_neg e]; simp
theorem fold_mem : ∀ (xs : List Int) (o : List Int), ∀ n ∈ xs, n ∈ xs.foldl comeN o
  | x :: xs, o, n, hn => by
    rcases List.mem_cons.1 hn with rfl | hn
    · exact (fold_pre xs _).subset (come_mem o n)
    · exact fold_mem xs _ n hn
theorem ord_full {X : List Ob} {r : List Vl} (ok : heapB X r = true) {i : Nat} (h : (ordL X r i).length + 1 ≤ i) : ordL X r i = orderOf X r := by
  have hl := (ordr_at ok (X.length + 1)).le
  have hl2 := (ordr_at ok i).le
  rcases Nat.le_total i (X.length + 1) with hi | hi
  · have := ord_stop h (X.length + 1 - i)
    rw [← this, orderOf]
    congr 1
    omega
  · have := ord_stop (X := X) (r := r) (i := X.length + 1) (by omega) (i - (X.length + 1))
    rw [orderOf, ← this]
    congr 1
    omega
theorem closed_roots {X : List Ob} {r : List Vl} : ∀ n ∈ leads r, n ∈ orderOf X r := by
  intro n hn
  have h1 : n ∈ ordL X r 1 := by
    rw [ordL]
    exact fold_mem _ _ n hn
  have := ord_le (X := X) (r := r) 1 X.length
  rw [orderOf, Nat.add_comm]
  exact this.subset h1
theorem closed_vals {X : List Ob} {r : List Vl} (ok : heapB X r = true) {m : Int} (hm : m ∈ orderOf X r) : ∀ n ∈ leads (valsOf X m), n ∈ orderOf X r := by
  intro n hn
  obtain ⟨j, hj⟩ := List.getElem?_of_mem hm
  have hjl := (List.getElem?_eq_some_iff.1 hj).1
  have hN : (orderOf X r).length ≤ X.length := (ordr_at ok _).le
  have hlen : j < (ordL X r (j + 1)).length := by
    by_cases c : j < (ordL X r (j + 1)).length
    · exact c
    · have := ord_full ok (i := j + 1) (by omega)
      rw [this] at c
      exact absurd hjl c
  have hp : ordL X r (j + 1) <+: orderOf X r := by
    have := ord_le (X := X) (r := r) (j + 1) (X.length - j)
    rw [orderOf]
    have e : j + 1 + (X.length - j) = X.length + 1 := by omega
    rw [e] at this
    exact this
  have hg : (ordL X r (j + 1))[j]? = some m := by rw [← pre_get hp hlen]; exact hj
  have h2 : n ∈ ordL X r (j + 1 + 1) := by
    rw [ordL]
    have e : (listsOf X r (ordL X r (j + 1)))[j + 1]? = some (valsOf X m) := by
      rw [listsOf, List.getElem?_cons_succ, List.getElem?_map, hg]
      rfl
    rw [e]
    exact fold_mem _ _ n hn
  have hp2 : ordL X r (j + 1 + 1) <+: orderOf X r := by
    have := ord_le (X := X) (r := r) (j + 1 + 1) (X.length - (j + 1))
    rw [orderOf]
    have e : j + 1 + 1 + (X.length - (j + 1)) = X.length + 1 := by omega
    rw [e] at this
    exact this
  exact hp2.subset h2

/-- A value that leads by another number. -/
def mv (f : Int → Int) (v : Vl) : Vl := if v.1 = true ∧ v.2 ≠ 0 then (true, f v.2) else v
/-- The same things, by other numbers. -/
structure Moved (f : Int → Int) (S : Int → Prop) (X : List Ob) (r : List Vl) (Y : List Ob) (s : List Vl) : Prop where
  inj : ∀ m n, S m → S n → f m = f n → m = n
  nz : ∀ n, S n → n ≠ 0 ∧ f n ≠ 0
  roots : s = r.map (mv f)
  thing : ∀ n, S n → Y.getD ((f n).toNat - 1) (0, []) = ((X.getD (n.toNat - 1) (0, [])).1, (valsOf X n).map (mv f))
  rootsIn : ∀ n ∈ leads r, S n
  valsIn : ∀ m, S m → ∀ n ∈ leads (valsOf X m), S n

theorem leads_mv {f : Int → Int} {S : Int → Prop} (nz : ∀ n, S n → f n ≠ 0) : ∀ (xs : List Vl), (∀ n ∈ leads xs, S n) → leads (xs.map (mv f)) = (leads xs).map f
  | [], _ => rfl
  | v :: xs, h => by
    by_cases c : v.1 = true ∧ v.2 ≠ 0
    · have e1 : leads (v :: xs) = v.2 :: leads xs := by rw [leads, List.filterMap_cons, if_pos c]; rfl
      have hS : S v.2 := h _ (by rw [e1]; exact List.mem_cons_self ..)
      have e2 : leads ((v :: xs).map (mv f)) = f v.2 :: leads (xs.map (mv f)) := by
        rw [List.map_cons, leads, List.filterMap_cons, mv, if_pos c, if_pos ⟨rfl, nz _ hS⟩]; rfl
      rw [e2, e1, List.map_cons, leads_mv nz xs (fun n hn => h n (by rw [e1]; exact List.mem_cons_of_mem _ hn))]
    · have e1 : leads (v :: xs) = leads xs := by rw [leads, List.filterMap_cons, if_neg c]; rfl
      have e2 : leads ((v :: xs).map (mv f)) = leads (xs.map (mv f)) := by
        rw [List.map_cons, leads, List.filterMap_cons, mv, if_neg c, if_neg c]; rfl
      rw [e2, e1, leads_mv nz xs (fun n hn => h n (by rw [e1]; exact hn))]
theorem mem_mv {f : Int → Int} {S : Int → Prop} (inj : ∀ m n, S m → S n → f m = f n → m = n) {o : List Int} (ho : ∀ n ∈ o, S n) {n : Int} (hn : S n) : f n ∈ o.map f ↔ n ∈ o := by
  constructor
  · intro h
    obtain ⟨m, hm, e⟩ := List.mem_map.1 h
    rw [← inj m n (ho m hm) hn e]
    exact hm
  · exact fun h => List.mem_map_of_mem h
theorem fold_mv {f : Int → Int} {S : Int → Prop} (inj : ∀ m n, S m → S n → f m = f n → m = n) : ∀ (xs o : List Int), (∀ n ∈ o, S n) → (∀ n ∈ xs, S n) → (xs.map f).foldl comeN (o.map f) = (xs.foldl comeN o).map f ∧ ∀ n ∈ xs.foldl comeN o, S n
  | [], _, ho, _ => ⟨rfl, ho⟩
  | x :: xs, o, ho, hx => by
    have hS := hx x (List.mem_cons_self ..)
    have e : comeN (o.map f) (f x) = (comeN o x).map f := by
      unfold comeN
      by_cases c : x ∈ o
      · rw [if_pos c, if_pos ((mem_mv inj ho hS).2 c)]
      · rw [if_neg c, if_neg (fun k => c ((mem_mv inj ho hS).1 k)), List.map_append]; rfl
    have hc : ∀ n ∈ comeN o x, S n := by
      unfold comeN
      by_cases c : x ∈ o
      · rw [if_pos c]; exact ho
      · rw [if_neg c]
        intro n hn
        rcases List.mem_append.1 hn with hn | hn
        · exact ho n hn
        · simp at hn; subst hn; exact hS
    have ih := fold_mv inj xs (comeN o x) hc (fun n hn => hx n (List.mem_cons_of_mem _ hn))
    rw [List.map_cons, List.foldl_cons, List.foldl_cons, e]
    exact ih
theorem vals_mv {f : Int → Int} {S : Int → Prop} {X : List Ob} {r : List Vl} {Y : List Ob} {s : List Vl} (h : Moved f S X r Y s) {n : Int} (hn : S n) : valsOf Y (f n) = (valsOf X n).map (mv f) := by
  rw [valsOf, h.thing n hn]
theorem ord_mv {f : Int → Int} {S : Int → Prop} {X : List Ob} {r : List Vl} {Y : List Ob} {s : List Vl} (h : Moved f S X r Y s) : ∀ i, ordL Y s i = (ordL X r i).map f ∧ ∀ n ∈ ordL X r i, S n
  | 0 => ⟨rfl, by simp [ordL]⟩
  | i + 1 => by
    obtain ⟨ih, hS⟩ := ord_mv h i
    have nz : ∀ n, S n → f n ≠ 0 := fun n hn => (h.nz n hn).2
    match i, ih, hS with
    | 0, ih, hS =>
      show (leads s).foldl comeN ([].map f) = ((leads r).foldl comeN []).map f ∧ ∀ n ∈ (leads r).foldl comeN [], S n
      rw [h.roots, leads_mv nz r h.rootsIn]
      exact fold_mv h.inj _ _ (by simp) h.rootsIn
    | j + 1, ih, hS =>
      have u1 : ordL Y s (j + 1 + 1) = match (listsOf Y s ((ordL X r (j + 1)).map f))[j + 1]? with
        | none => (ordL X r (j + 1)).map f
        | some vs => (leads vs).foldl comeN ((ordL X r (j + 1)).map f) := by rw [← ih]; rfl
      have u2 : ordL X r (j + 1 + 1) = match (listsOf X r (ordL X r (j + 1)))[j + 1]? with
        | none => ordL X r (j + 1)
        | some vs => (leads vs).foldl comeN (ordL X r (j + 1)) := rfl
      rw [u1, u2]
      have e1 : (listsOf Y s ((ordL X r (j + 1)).map f))[j + 1]? = ((ordL X r (j + 1))[j]?).map (fun n => valsOf Y (f n)) := by
        rw [listsOf, List.getElem?_cons_succ, List.getElem?_map, List.getElem?_map, Option.map_map]; rfl
      have e2 : (listsOf X r (ordL X r (j + 1)))[j + 1]? = ((ordL X r (j + 1))[j]?).map (valsOf X) := by
        rw [listsOf, List.getElem?_cons_succ, List.getElem?_map]
      rw [e1, e2]
      cases hg : (ordL X r (j + 1))[j]? with
      | none => exact ⟨rfl, hS⟩
      | some m =>
        have hm := hS m (List.mem_of_getElem? hg)
        show (leads (valsOf Y (f m))).foldl comeN _ = ((leads (valsOf X m)).foldl comeN _).map f ∧ ∀ n ∈ (leads (valsOf X m)).foldl comeN _, S n
        rw [vals_mv h hm, leads_mv nz _ (h.valsIn m hm)]
        exact fold_mv h.inj _ _ hS (h.valsIn m hm)
theorem idx_mv {f : Int → Int} {S : Int → Prop} (inj : ∀ m n, S m → S n → f m = f n → m = n) {n : Int} (hn : S n) : ∀ (o : List Int), (∀ n ∈ o, S n) → (o.map f).idxOf (f n) = o.idxOf n
  | [], _ => rfl
  | x :: o, ho => by
    rw [List.map_cons, List.idxOf_cons, List.idxOf_cons, idx_mv inj hn o (fun m hm => ho m (List.mem_cons_of_mem _ hm))]
    by_cases c : x = n
    · subst c; simp
    · have d : ¬ f x = f n := fun k => c (inj _ _ (ho x (List.mem_cons_self ..)) hn k)
      have c1 : (x == n) = false := by simpa using c
      have d1 : (f x == f n) = false := by simpa using d
      rw [c1, d1]
theorem ren_mv {f : Int → Int} {S : Int → Prop} (inj : ∀ m n, S m → S n → f m = f n → m = n) (nz : ∀ n, S n → n ≠ 0 ∧ f n ≠ 0) {o : List Int} (ho : ∀ n ∈ o, S n) (v : Vl) (hv : v.1 = true → v.2 ≠ 0 → S v.2) : renV (o.map f) (mv f v) = renV o v := by
  obtain ⟨v1, v2⟩ := v
  cases v1
  · simp [renV, mv]
  · by_cases c : v2 = 0
    · subst c
      have z1 : (0 : Int) ∉ o := fun k => (nz _ (ho _ k)).1 rfl
      have z2 : (0 : Int) ∉ o.map f := fun k => by
        obtain ⟨m, hm, e⟩ := List.mem_map.1 k
        exact (nz _ (ho m hm)).2 e
      have e1 : mv f (true, 0) = (true, 0) := by simp [mv]
      rw [e1]
      simp only [renV, idxN, if_neg z1, if_neg z2]
    · have hS := hv rfl c
      have e1 : mv f (true, v2) = (true, f v2) := by simp [mv, c]
      rw [e1]
      simp only [renV, idxN, idx_mv inj hS o ho, mem_mv inj ho hS, if_true]
theorem leads_mem {xs : List Vl} {v : Vl} (hv : v ∈ xs) (h1 : v.1 = true) (h2 : v.2 ≠ 0) : v.2 ∈ leads xs :=
  List.mem_filterMap.2 ⟨v, hv, by rw [if_pos ⟨h1, h2⟩]⟩
theorem Moved.order {f : Int → Int} {S : Int → Prop} {X : List Ob} {r : List Vl} {Y : List Ob} {s : List Vl} (h : Moved f S X r Y s) (ok : heapB X r = true) (hY : (orderOf X r).length ≤ Y.length) : orderOf Y s = (orderOf X r).map f ∧ ∀ n ∈ orderOf X r, S n := by
  obtain ⟨e, hS⟩ := ord_mv h (Y.length + 1)
  have hfull : ordL X r (Y.length + 1) = orderOf X r := by
    have hl : (ordL X r (Y.length + 1)).length ≤ (orderOf X r).length := by
      rcases Nat.le_total (Y.length + 1) (X.length + 1) with c | c
      · have := ord_le (X := X) (r := r) (Y.length + 1) (X.length + 1 - (Y.length + 1))
        have e : Y.length + 1 + (X.length + 1 - (Y.length + 1)) = X.length + 1 := by omega
        rw [e] at this
        exact this.length_le
      · have hN := (ordr_at ok (X.length + 1)).le
        have := ord_stop (X := X) (r := r) (i := X.length + 1) (by omega) (Y.length + 1 - (X.length + 1))
        have e : X.length + 1 + (Y.length + 1 - (X.length + 1)) = Y.length + 1 := by omega
        rw [e] at this
        rw [this]
        exact Nat.le_refl _
    exact ord_full ok (by omega)
  rw [hfull] at e hS
  have e : orderOf Y s = (orderOf X r).map f := e
  exact ⟨e, hS⟩
/-- What is left is the same. -/
theorem Moved.same {f : Int → Int} {S : Int → Prop} {X : List Ob} {r : List Vl} {Y : List Ob} {s : List Vl} (h : Moved f S X r Y s) (ok : heapB X r = true) (hY : (orderOf X r).length ≤ Y.length) : graphOf Y s = graphOf X r ∧ rootsOf Y s = rootsOf X r := by
  obtain ⟨e, hS⟩ := h.order ok hY
  have hren : ∀ xs : List Vl, (∀ n ∈ leads xs, S n) → (xs.map (mv f)).map (renV (orderOf Y s)) = xs.map (renV (orderOf X r)) := by
    intro xs hx
    rw [List.map_map]
    refine List.map_congr_left fun v hv => ?_
    show renV (orderOf Y s) (mv f v) = _
    rw [e]
    exact ren_mv h.inj h.nz hS v (fun h1 h2 => hx _ (leads_mem hv h1 h2))
  refine ⟨?_, ?_⟩
  · rw [graphOf, graphOf, e, List.map_map]
    refine List.map_congr_left fun n hn => ?_
    have hSn := hS n hn
    show ((Y.getD ((f n).toNat - 1) (0, [])).1, (valsOf Y (f n)).map (renV ((orderOf X r).map f))) = _
    rw [vals_mv h hSn, h.thing n hSn, ← e, hren _ (h.valsIn n hSn)]
  · rw [rootsOf, rootsOf]
    have := hren r h.rootsIn
    rw [← h.roots] at this
    exact this

/-- What is left is all that is left. -/
theorem idx_at {o : List Int} (_ : o.Nodup) {n : Int} (hn : n ∈ o) : ∃ k : Nat, o[k]? = some n ∧ idxN o n = (k : Int) + 1 := by
  refine ⟨o.idxOf n, ?_, ?_⟩
  · exact (List.getElem?_eq_some_iff.2 ⟨List.idxOf_lt_length_of_mem hn, List.getElem_idxOf _⟩)
  · rw [idxN, if_pos hn]
theorem twice_ok {X : List Ob} {r : List Vl} : heapB (graphOf X r) (rootsOf X r) = true := by
  have hv : ∀ xs : List Vl, (xs.map (renV (orderOf X r))).all (valB (graphOf X r).length) = true := by
    intro xs
    rw [List.all_map, List.all_eq_true]
    intro v _
    have h := idxN_range (orderOf X r) v.2
    obtain ⟨v1, v2⟩ := v
    cases v1
    · simp [renV, valB]
    · rw [graph_len]
      simp only [Function.comp, renV, valB]
      simp only [if_true, Bool.not_true, Bool.false_or, Bool.and_eq_true, decide_eq_true_eq]
      exact h
  rw [heapB, Bool.and_eq_true]
  refine ⟨hv r, ?_⟩
  rw [List.all_eq_true]
  intro x hx
  rw [graphOf] at hx
  obtain ⟨n, _, rfl⟩ := List.mem_map.1 hx
  exact hv _
theorem moved_twice {X : List Ob} {r : List Vl} (ok : heapB X r = true) : Moved (idxN (orderOf X r)) (fun n => n ∈ orderOf X r) X r (graphOf X r) (rootsOf X r) := by
  have od := ordr_at (r := r) ok (X.length + 1)
  have od : Ordr X.length (orderOf X r) := od
  have z : (0 : Int) ∉ orderOf X r := fun k => by have := od.inn 0 k; unfold isN at this; omega
  have hmv : ∀ v : Vl, renV (orderOf X r) v = mv (idxN (orderOf X r)) v := by
    intro v
    obtain ⟨v1, v2⟩ := v
    cases v1
    · simp [renV, mv]
    · by_cases c : v2 = 0
      · subst c
        simp only [renV, mv, idxN, if_neg z]
        simp
      · simp [renV, mv, c]
  refine ⟨?_, ?_, ?_, ?_, ?_, ?_⟩
  · intro m n hm hn e
    obtain ⟨j, hj, ej⟩ := idx_at od.nd hm
    obtain ⟨k, hk, ek⟩ := idx_at od.nd hn
    have : j = k := by omega
    subst this
    rw [hj] at hk
    simpa using hk
  · intro n hn
    obtain ⟨k, hk, ek⟩ := idx_at od.nd hn
    exact ⟨fun e => z (e ▸ hn), by omega⟩
  · rw [rootsOf]
    exact List.map_congr_left fun v _ => hmv v
  · intro n hn
    obtain ⟨k, hk, ek⟩ := idx_at od.nd hn
    have e : (idxN (orderOf X r) n).toNat - 1 = k := by omega
    rw [e, List.getD_eq_getElem?_getD, graph_at hk]
    show (_, _) = (_, _)
    rw [List.map_congr_left fun v _ => hmv v]
  · exact closed_roots
  · exact fun m hm => closed_vals ok hm
theorem twice {X : List Ob} {r : List Vl} (ok : heapB X r = true) : graphOf (graphOf X r) (rootsOf X r) = graphOf X r ∧ rootsOf (graphOf X r) (rootsOf X r) = rootsOf X r :=
  (moved_twice ok).same ok (by rw [graph_len]; exact Nat.le_refl _)

end Go.Proofs.Ytacapffmdmpnkaa
