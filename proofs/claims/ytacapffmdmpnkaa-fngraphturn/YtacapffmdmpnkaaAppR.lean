/-
  A list of things or values in memory of its own, to which another is appended.
-/
import Derived.Test.YtacapffmdmpnkaaLawG
namespace Go.Proofs.Ytacapffmdmpnkaa
open Go.ChangeShapes Go.WideShapes Go.ChangeAt Go.RowKit

/-- A list in memory of its own; what is in it lies where 'D' says. -/
def OwnR {α : Type} (R : Rep α) (D : Nat → Prop) (base : Nat) (e : TypeId) (w : World) (v : Value) (xs : List α) : Prop :=
  ∃ L, w.ownsRow base e 2 v xs.length L ∧ ∀ (i : Nat) (x : α), xs[i]? = some x → ∃ vs, R.holds D w vs x ∧ ∀ (j : Nat) (u : Value), vs[j]? = some u → L[i * 2 + j]? = some u
/-- What is read, cell by cell. -/
def SrcR {α : Type} (R : Rep α) (D : Nat → Prop) (w : World) (sa : Option Addr) (ys : List α) : Prop :=
  ys.length = 0 ∨ ∃ b off, sa = some ⟨b, off, none⟩ ∧ ∀ (i : Nat) (x : α), ys[i]? = some x → ∃ vs, R.holds D w vs x ∧ ∀ (j : Nat) (v : Value), vs[j]? = some v → w.cell? ⟨b, off + i * 2 + j, none⟩ = some v
theorem SlAt.src {α : Type} {R : Rep α} (hz : R.sz = 2) {D : Nat → Prop} {w : World} {a : Option Addr} {n : Nat} {xs : List α} (h : SlAt R D w a n xs) : SrcR R D w a xs := by
  rcases h.cells with h0 | ⟨b, off, ha, _, hc⟩
  · exact .inl (by rw [h.size]; exact h0)
  · refine .inr ⟨b, off, ha, fun i x hx => ?_⟩
    obtain ⟨vs, h1, h2⟩ := hc i x hx
    rw [hz] at h2
    exact ⟨vs, h1, h2⟩
theorem news_of {α : Type} {R : Rep α} (hz : R.sz = 2) {D : Nat → Prop} {w : World} {b off : Nat} {ys : List α} (one : ∀ (vs : List Value) (x : α), R.holds D w vs x → ∀ u ∈ vs, u.oneCell' = true)
    (hc : ∀ (i : Nat) (x : α), ys[i]? = some x → ∃ vs, R.holds D w vs x ∧ ∀ (j : Nat) (v : Value), vs[j]? = some v → w.cell? ⟨b, off + i * 2 + j, none⟩ = some v) :
    ∀ k, k ≤ ys.length → ∃ L : List Value, L.length = k * 2 ∧ (∀ (j : Nat) (u : Value), L[j]? = some u → w.cell? ⟨b, off + j, none⟩ = some u) ∧ (∀ (i : Nat) (x : α), i < k → ys[i]? = some x → ∃ vs, R.holds D w vs x ∧ ∀ (j : Nat) (u : Value), vs[j]? = some u → L[i * 2 + j]? = some u) ∧ ∀ u ∈ L, u.oneCell' = true
  | 0, _ => ⟨[], rfl, by simp, fun i x hi => by omega, by simp⟩
  | k + 1, hk => by
    obtain ⟨L, l1, l2, l3, l4⟩ := news_of hz one hc k (by omega)
    obtain ⟨x, hx⟩ : ∃ x, ys[k]? = some x := ⟨ys[k], List.getElem?_eq_getElem _⟩
    obtain ⟨vs, h1, h2⟩ := hc k x hx
    have hl := R.len h1
    rw [hz] at hl
    refine ⟨L ++ vs, by rw [List.length_append, l1, hl]; omega, ?_, ?_, ?_⟩
    · intro j u hu
      by_cases c : j < L.length
      · rw [List.getElem?_append_left c] at hu
        exact l2 j u hu
      · rw [List.getElem?_append_right (by omega)] at hu
        have := h2 _ u hu
        rw [l1] at this
        rw [l1] at c
        have e : off + k * 2 + (j - k * 2) = off + j := by omega
        rw [e] at this
        exact this
    · intro i y hi hy
      by_cases c : i < k
      · obtain ⟨us, g1, g2⟩ := l3 i y c hy
        refine ⟨us, g1, fun j u hu => ?_⟩
        have hj := (List.getElem?_eq_some_iff.1 hu).1
        have := R.len g1
        rw [hz] at this
        rw [List.getElem?_append_left (by omega)]
        exact g2 j u hu
      · have : i = k := by omega
        subst this
        rw [hx] at hy
        obtain rfl : x = y := by simpa using hy
        refine ⟨vs, h1, fun j u hu => ?_⟩
        rw [List.getElem?_append_right (by omega), l1]
        have e : i * 2 + j - i * 2 = j := by omega
        rw [e]
        exact hu
    · intro u hu
      rcases List.mem_append.1 hu with hu | hu
      · exact l4 u hu
      · exact one vs x h1 u hu
theorem own_app {α : Type} {R : Rep α} (hz : R.sz = 2) {D : Nat → Prop} {base : Nat} {t e ty : TypeId} {i : TypeInfo} {z : Value} {bytes : Nat} {w : World} {v : Value} {xs ys : List α} {sa : Option Addr} {m sc : Nat}
    (ht : Try.prog.underlying t = some (.slice e)) (hi : Try.prog.info? e = some i) (hz0 : i.zero = some z) (hz1 : i.size = 2) (hz2 : i.bytes = bytes) (hz3 : z.cells.size = 2) (hby : bytes ≤ 1000)
    (one : ∀ (vs : List Value) (x : α), R.holds D w vs x → ∀ u ∈ vs, u.oneCell' = true) (hD : ∀ b, D b → b < base) (hbase : base ≤ w.heap.size) (h : OwnR R D base e w v xs) (g : SrcR R D w sa ys) (hm : ys.length = m) (hxl : xs.length ≤ 10000) (hyl : m ≤ 10000) :
    ∃ a' c' w', (Builtin.append_ #[t, t] ty #[v, .slice sa m sc]).run Try.prog w = .ok (.slice a' (xs.length + m) c') w' ∧ OwnR R D base e w' (.slice a' (xs.length + m) c') (xs ++ ys) ∧ w.grownBy w' v.ownBlock := by
  obtain ⟨L, own, hL⟩ := h
  by_cases h0 : m = 0
  · subst h0
    have hy : ys = [] := List.eq_nil_of_length_eq_zero hm
    subst hy
    have hr := run_append_empty (P := Try.prog) (w := w) base t ty e i 2 ht hi v xs.length L own sa sc
    have hg : w.grownBy w v.ownBlock := ⟨rfl, rfl, rfl, Nat.le_refl _, fun _ _ _ => rfl⟩
    have own2 := own
    rcases own.2 with ⟨rfl, e0⟩ | ⟨g, cap, cur, rfl, _⟩
    · exact ⟨none, 0, w, by rw [hr, Nat.add_zero, e0], ⟨L, by rw [List.append_nil, Nat.add_zero]; rw [e0] at own2 ⊢; exact own2, by rw [List.append_nil]; exact hL⟩, hg⟩
    · exact ⟨_, _, w, hr, ⟨L, by rw [List.append_nil]; exact own2, by rw [List.append_nil]; exact hL⟩, hg⟩
  · rcases g with g | ⟨b, off, rfl, hc⟩
    · omega
    obtain ⟨N, n1, n2, n3, n4⟩ := news_of hz one hc ys.length (Nat.le_refl _)
    have hb : (xs.length + m) * bytes ≤ 140737488355328 := by
      have : (xs.length + m) * bytes ≤ 20000 * 1000 := Nat.mul_le_mul (by omega) hby
      omega
    obtain ⟨v', w', r0, r1, r2, _⟩ := run_append_own (P := Try.prog) w base t ty e i z 2 bytes ht hi hz0 hz1 hz2 hz3 (by omega) v xs.length L own ⟨b, off, none⟩ m sc N (by rw [n1, hm]) (fun j u hu => by rw [Addr.add_lit]; exact n2 j u hu) n4 (by unfold maxLen; omega) hb hbase
    obtain ⟨a', c', rfl⟩ : ∃ a' c', v' = .slice a' (xs.length + m) c' := by
      rcases r1.2 with ⟨rfl, e0⟩ | ⟨g, cap, cur, rfl, _⟩
      · omega
      · exact ⟨_, _, rfl⟩
    have hk : ∀ (vs : List Value) (x : α), R.holds D w vs x → R.holds D w' vs x := fun vs x hv => R.keep hv (fun b o hd hb => World.cell?_of_block (a := ⟨b, o, none⟩) (r2.block b hb (fun e => by have := own_ge own b e; have := hD b hd; omega)))
    refine ⟨a', c', w', r0, ⟨L ++ N, by rw [List.length_append, hm]; exact r1, fun k x hx => ?_⟩, r2⟩
    have l1 := own.1
    by_cases c : k < xs.length
    · rw [List.getElem?_append_left c] at hx
      obtain ⟨vs, h1, h2⟩ := hL k x hx
      have hl := R.len h1
      rw [hz] at hl
      refine ⟨vs, hk _ _ h1, fun j u hu => ?_⟩
      have hj := (List.getElem?_eq_some_iff.1 hu).1
      rw [List.getElem?_append_left (by omega)]
      exact h2 j u hu
    · rw [List.getElem?_append_right (by omega)] at hx
      have hlt := (List.getElem?_eq_some_iff.1 hx).1
      obtain ⟨vs, h1, h2⟩ := n3 _ x hlt hx
      refine ⟨vs, hk _ _ h1, fun j u hu => ?_⟩
      rw [List.getElem?_append_right (by omega), l1]
      have e : k * 2 + j - xs.length * 2 = (k - xs.length) * 2 + j := by omega
      rw [e]
      exact h2 j u hu
theorem OwnR.sl {α : Type} {R : Rep α} (hz : R.sz = 2) {D : Nat → Prop} {base : Nat} {e : TypeId} {w : World} {a : Option Addr} {n c : Nat} {xs : List α} (h : OwnR R D base e w (.slice a n c) xs) (hn : n = xs.length) (hl : n ≤ 1048576) : SlAt R (fun _ => True) w a n xs := by
  subst hn
  obtain ⟨L, own, hL⟩ := h
  refine ⟨rfl, by omega, ?_⟩
  rcases own.2 with ⟨_, e0⟩ | ⟨g, cap, cur, ev, _, hg, _, _, _, hcur⟩
  · exact .inl e0
  · injection ev with e1 e2 e3
    subst e1
    refine .inr ⟨g, 0, rfl, trivial, fun i x hx => ?_⟩
    obtain ⟨vs, h1, h2⟩ := hL i x hx
    refine ⟨vs, R.mono h1 (fun _ _ _ => trivial), fun j u hu => ?_⟩
    have := h2 j u hu
    rw [← hcur] at this
    have hlt := (List.getElem?_eq_some_iff.1 this).1
    rw [List.length_take] at hlt
    rw [List.getElem?_take_of_lt (by omega)] at this
    rw [hz, Nat.zero_add]
    simp only [World.cell?, hg]
    simpa using this

theorem list_appP {P : Program} {w w' : World} {ops : Array Oper} {rest : List Oper} {o : Oper} {a : Act} {Q : Exit → Act → World → Prop} (hg : o.guard = none) (s x : Operand) (t : TypeId) (hop : o.op = Op.call { callee := Callee.builtin Builtin.append, args := #[s, x], argTypes := #[t, t] })
    (v xv v' : Value) (hs : a.eval s = v) (hx : a.eval x = xv) (hrun : (Builtin.append_ #[t, t] o.type #[v, xv]).run P w = .ok v' w') (h : wpList P ops Q rest (a.put o.dst v') w') : wpList P ops Q (o :: rest) a w :=
  wpList_plain hg fun K hK => by
    have := op_appP (ops := #[]) (Q := Q) (K := K) (E := False) hg s x t hop v xv v' hs hx hrun (hK _ _ h)
    have hw : Region.wanted o (yielded #[] a.tmps) = true := by simp [Region.wanted, hg]
    rw [if_pos hw] at this
    exact this
theorem one_V {D : Nat → Prop} {w : World} : ∀ (vs : List Value) (x : Vl), vaR.holds D w vs x → ∀ u ∈ vs, u.oneCell' = true := by
  rintro vs x ⟨_, _, rfl, h1, rfl, _⟩ u hu
  have h1 : _ = [Value.bool x.1] := h1
  subst h1
  simp at hu
  rcases hu with rfl | rfl <;> rfl
theorem one_O {D : Nat → Prop} {w : World} : ∀ (vs : List Value) (x : Ob), obR.holds D w vs x → ∀ u ∈ vs, u.oneCell' = true := by
  rintro vs x ⟨_, _, rfl, ⟨rfl, _⟩, a1, l1, c1, rfl, _⟩ u hu
  simp at hu
  rcases hu with rfl | rfl <;> rfl
theorem own_litV (w : World) (D : Nat → Prop) (xs : List Vl) (n : Nat) (hn : xs.length = n) (hs : n ≤ 1000) (hi : ∀ x ∈ xs, i64B x.2) : OwnR vaR D w.heap.size 32 (w.alloc (.cells (flatV xs).toArray 32)) (.slice (some ⟨w.heap.size, 0, none⟩) n n) xs := by
  subst hn
  refine ⟨flatV xs, ?_, fun i x hx => ?_⟩
  · have := World.ownsRow_lit (base := w.heap.size) (e := 32) (size := 2) w (flatV xs).toArray xs.length (Nat.le_refl _) (by unfold maxLen; omega) (by simp [flatV_len])
    simpa using this
  · obtain ⟨h1, h2⟩ := flatV_at xs i x hx
    refine ⟨[.bool x.1, .int .i64 x.2], ⟨[.bool x.1], [.int .i64 x.2], rfl, rfl, rfl, hi x (List.mem_of_getElem? hx)⟩, fun j u hu => ?_⟩
    match j, hu with
    | 0, hu => simp at hu; subst hu; exact h1
    | 1, hu => simp at hu; subst hu; exact h2
theorem own_noneO (w : World) (D : Nat → Prop) : OwnR obR D w.heap.size 34 (w.alloc (.cells #[] 34)) (.slice (some ⟨w.heap.size, 0, none⟩) 0 0) [] :=
  ⟨[], World.ownsRow_lit (base := w.heap.size) (e := 34) (size := 2) w #[] 0 (Nat.le_refl _) (by unfold maxLen; omega) rfl, by simp⟩
theorem OwnR.alloc {α : Type} {R : Rep α} {D : Nat → Prop} {base : Nat} {e : TypeId} {w : World} {v : Value} {xs : List α} (h : OwnR R D base e w v xs) (o : Obj) : OwnR R D base e (w.alloc o) v xs := by
  obtain ⟨L, own, hL⟩ := h
  refine ⟨L, own.alloc o, fun i x hx => ?_⟩
  obtain ⟨vs, h1, h2⟩ := hL i x hx
  exact ⟨vs, R.later h1 ((Below.refl _ _).alloc (Nat.le_refl _) _), h2⟩
theorem srcO (w : World) (D : Nat → Prop) (a : Option Addr) (n c : Nat) (vs : List Vl) (h : SlAt vaR D (w.alloc (.cells #[.int .i64 1, .slice a n c] 34)) a n vs) : SrcR obR D (w.alloc (.cells #[.int .i64 1, .slice a n c] 34)) (some ⟨w.heap.size, 0, none⟩) [((1 : Int), vs)] := by
  refine .inr ⟨w.heap.size, 0, rfl, fun i x hx => ?_⟩
  match i, hx with
  | 0, hx =>
    simp at hx
    subst hx
    refine ⟨[.int .i64 1, .slice a n c], ⟨[.int .i64 1], [.slice a n c], rfl, ⟨rfl, by unfold i64B; omega⟩, a, n, c, rfl, h⟩, fun j u hu => ?_⟩
    have := two_new w (.int .i64 1) (.slice a n c) 34 w.heap.size rfl j u hu
    rw [Addr.add_lit] at this
    rw [show 0 + 0 * 2 + j = 0 + j from by omega]
    exact this
/-- One thing more, to which nothing leads. -/
theorem gMore {X : List Ob} {r : List Vl} (ok : heapB X r = true) : gOf (X ++ [((1 : Int), [(false, 5), (true, (X.length : Int) + 1), (true, 0)] ++ r)]) r = gOf X r ∧ rOf (X ++ [((1 : Int), [(false, 5), (true, (X.length : Int) + 1), (true, 0)] ++ r)]) r = rOf X r := by
  have hv : ∀ v : Vl, valB X.length v = true → valB (X.length + 1) v = true := by
    rintro ⟨v1, v2⟩ h
    cases v1
    · rfl
    · simp [valB] at h ⊢
      omega
  have ok2 : heapB (X ++ [((1 : Int), [(false, 5), (true, (X.length : Int) + 1), (true, 0)] ++ r)]) r = true := by
    have hr := List.all_eq_true.1 (roots_ok ok)
    rw [heapB, Bool.and_eq_true] at ok ⊢
    have hl : (X ++ [((1 : Int), [(false, 5), (true, (X.length : Int) + 1), (true, 0)] ++ r)]).length = X.length + 1 := by simp
    rw [hl]
    refine ⟨List.all_eq_true.2 fun v h => hv v (hr v h), List.all_eq_true.2 fun x hx => ?_⟩
    rcases List.mem_append.1 hx with hx | hx
    · exact List.all_eq_true.2 fun v h => hv v (List.all_eq_true.1 (List.all_eq_true.1 ok.2 x hx) v h)
    · simp only [List.mem_singleton] at hx
      subst hx
      refine List.all_eq_true.2 fun v h => ?_
      rcases List.mem_append.1 h with h | h
      · simp only [List.mem_cons, List.not_mem_nil, or_false] at h
        rcases h with rfl | rfl | rfl
        · rfl
        · simp [valB]; omega
        · simp [valB]; omega
      · exact hv v (hr v h)
  have hm : ∀ v : Vl, mv (fun n => n) v = v := by
    rintro ⟨v1, v2⟩
    cases v1
    · simp [mv]
    · by_cases c : v2 = 0
      · simp [mv, c]
      · simp [mv, c]
  have od : Ordr X.length (orderOf X r) := ordr_at ok (X.length + 1)
  have M : Moved (fun n => n) (fun n => n ∈ orderOf X r) X r (X ++ [((1 : Int), [(false, 5), (true, (X.length : Int) + 1), (true, 0)] ++ r)]) r := by
    refine ⟨fun m n _ _ e => e, fun n hn => ?_, ?_, fun n hn => ?_, closed_roots, fun m hm => closed_vals ok hm⟩
    · have := (od.inn n hn).1
      exact ⟨by omega, by show n ≠ 0; omega⟩
    · rw [List.map_congr_left fun v _ => hm v]; simp
    · have h1 := (od.inn n hn).1
      have h2 := (od.inn n hn).2
      have hlt : n.toNat - 1 < X.length := by omega
      rw [List.map_congr_left fun v _ => hm v]
      show (X ++ [_]).getD (n.toNat - 1) (0, []) = _
      rw [List.getD_eq_getElem?_getD, List.getElem?_append_left hlt, valsOf, List.getD_eq_getElem?_getD]
      simp
  have hs := M.same ok (by have := od.le; simp; omega)
  unfold gOf rOf
  rw [if_pos ok2, if_pos ok, if_pos ok2, if_pos ok]
  exact hs

end Go.Proofs.Ytacapffmdmpnkaa
