/-
  Lists of things in memory of one's own: one more is appended, or another such list.
-/
import Derived.Test.YtjbmcdekhhbiaaaGreatMemIc
import Derived.Test.YtjbmcdekhhbiaaaGreatCopy
namespace Go.Proofs.YtjbmcdekhhbiaaaGreat
open Go.ChangeShapes Go.WideShapes Go.ChangeAt Go.RowKit
set_option linter.unusedVariables false

def ThRow (D : Nat → Prop) (w : World) (v : Value) (xs : List Th) : Prop :=
  ∃ Lc, w.ownsRow 0 69 3 v xs.length Lc ∧ (∀ b, v.ownBlock = some b → D b) ∧ ∀ (i : Nat) (x : Th), xs[i]? = some x → ∃ vs, thR.holds (fun b => D b ∧ v.ownBlock ≠ some b) w vs x ∧ ∀ (j : Nat) (u : Value), vs[j]? = some u → Lc[i * 3 + j]? = some u
theorem ThRow.keep {D : Nat → Prop} {w w' : World} {v : Value} {xs : List Th} (h : ThRow D w v xs) (k : ∀ b, D b → b < w.heap.size → w'.heap[b]? = w.heap[b]?) : ThRow D w' v xs := by
  obtain ⟨Lc, ho, hd, hL⟩ := h
  refine ⟨Lc, own_keep' ho (fun b hb => k b (hd b hb) (own_lt' ho b hb)), hd, fun i x hx => ?_⟩
  obtain ⟨vs, h1, h2⟩ := hL i x hx
  exact ⟨vs, thR.keep h1 (fun b o hd hl => World.cell?_of_block (a := ⟨b, o, none⟩) (k b hd.1 hl)), h2⟩
theorem ThRow.later {D : Nat → Prop} {w w' : World} {v : Value} {xs : List Th} (h : ThRow D w v xs) (b : Below w.heap.size w w') : ThRow D w' v xs := h.keep fun k _ hk => b.block k hk
theorem ThRow.box {D : Nat → Prop} {w : World} {v : Value} {xs : List Th} (h : ThRow D w v xs) (p : Addr) (u : Value) (hp : ¬ D p.block) : ThRow D (w.setCell p u) v xs :=
  h.keep fun b hb _ => Below.heap_setCell _ _ _ _ (fun e => hp (by rw [← e]; exact hb))
theorem ThRow.mono {D E : Nat → Prop} {w : World} {v : Value} {xs : List Th} (h : ThRow D w v xs) (k : ∀ b, D b → b < w.heap.size → E b) : ThRow E w v xs := by
  obtain ⟨Lc, ho, hd, hL⟩ := h
  refine ⟨Lc, ho, fun b hb => k b (hd b hb) (own_lt' ho b hb), fun i x hx => ?_⟩
  obtain ⟨vs, h1, h2⟩ := hL i x hx
  exact ⟨vs, thR.mono h1 (fun b hd hl => ⟨k b hd.1 hl, hd.2⟩), h2⟩
theorem ThRow.nil {D : Nat → Prop} {g : Nat} {w : World} (hx : w.heap[g]? = some (.cells #[] 69 (0, 0))) (hb : D g) : ThRow D w (.slice (some ⟨g, 0, none⟩) 0 0) [] :=
  ⟨[], ⟨rfl, .inr ⟨g, 0, #[], rfl, Nat.zero_le _, hx, Nat.le_refl _, Nat.zero_le _, rfl, rfl⟩⟩, fun b e => (show g = b from by simpa [Value.ownBlock] using e) ▸ hb, by simp⟩
theorem ThRow.lt {D : Nat → Prop} {w : World} {v : Value} {xs : List Th} (h : ThRow D w v xs) (b : Nat) (hb : v.ownBlock = some b) : D b ∧ b < w.heap.size := by
  obtain ⟨Lc, ho, hd, _⟩ := h
  exact ⟨hd b hb, own_lt' ho b hb⟩
theorem th_one {D : Nat → Prop} {w : World} {vs : List Value} {x : Th} (h : thR.holds D w vs x) : ∀ u ∈ vs, u.oneCell' = true := by
  obtain ⟨_, _, rfl, ⟨rfl, _⟩, _, _, rfl, ⟨rfl, _⟩, ⟨a2, l2, c2, rfl, _⟩⟩ := h
  intro u hu
  simp at hu
  rcases hu with rfl | rfl | rfl <;> rfl
theorem info_Th : (Tryz.prog.info? 69).map (fun i => (i.zero, i.size, i.bytes)) = some (some (.agg #[.int .i64 0, .int .i64 0, .slice none 0 0]), 3, 40) := by kernel_rfl
theorem ThRow.app {D : Nat → Prop} {lb : Nat} {w : World} {v : Value} {xs : List Th} (h : ThRow D w v xs) (x : Th) (cs : List Value) (hx : thR.holds (fun b => D b ∧ v.ownBlock ≠ some b) w cs x) (hl : ∀ (j : Nat) (u : Value), cs[j]? = some u → w.cell? ⟨lb, j, none⟩ = some u) (hbase : D w.heap.size) (hn : xs.length ≤ 10000) (ty : TypeId) :
    ∃ g c' w', (Builtin.append_ #[63, 63] ty #[v, .slice (some ⟨lb, 0, none⟩) 1 1]).run Tryz.prog w = .ok (.slice (some ⟨g, 0, none⟩) (xs.length + 1) c') w' ∧ ThRow D w' (.slice (some ⟨g, 0, none⟩) (xs.length + 1) c') (xs ++ [x]) ∧ w.grownBy w' v.ownBlock := by
  obtain ⟨Lc, own, hd0, hL⟩ := h
  obtain ⟨i, hi, hz0, hz1, hz2⟩ := info_parts info_Th
  have hcl : cs.length = 3 := thR.len hx
  obtain ⟨g, cap, w', r0, r1, r2, r3, _⟩ := run_append_lies (P := Tryz.prog) w 63 ty 0 69 i _ 3 40 Tryz.underlying63 hi hz0 hz1 hz2 rfl (by omega) v xs.length Lc own ⟨lb, 0, none⟩ 1 1 cs (by rw [hcl]) (fun j u hu => by rw [Addr.add_lit, Nat.zero_add]; exact hl j u hu) (th_one hx) (by omega) (by unfold maxLen; omega) (by omega) (Nat.zero_le _) _ rfl
  have hD : ∀ b, (D b ∧ v.ownBlock ≠ some b) → b < w.heap.size → (D b ∧ (Value.slice (some ⟨g, 0, none⟩) (xs.length + 1) cap).ownBlock ≠ some b) := fun b hb hlt => by
    refine ⟨hb.1, fun e => ?_⟩
    obtain rfl : g = b := by simpa [Value.ownBlock] using e
    rcases r3 with r3 | r3
    · exact hb.2 r3
    · omega
  have hk : ∀ (vs : List Value) (x : Th), thR.holds (fun b => D b ∧ v.ownBlock ≠ some b) w vs x → thR.holds (fun b => D b ∧ (Value.slice (some ⟨g, 0, none⟩) (xs.length + 1) cap).ownBlock ≠ some b) w' vs x := fun vs x hv =>
    thR.mono (D := fun b => (D b ∧ (Value.slice (some ⟨g, 0, none⟩) (xs.length + 1) cap).ownBlock ≠ some b) ∧ D b ∧ v.ownBlock ≠ some b) (thR.keep (thR.mono hv (fun b hb hlt => ⟨hD b hb hlt, hb⟩)) (fun b o hd hb => World.cell?_of_block (a := ⟨b, o, none⟩) (r2.block b hb (fun e => hd.2.2 e.symm)))) (fun b hb _ => hb.1)
  refine ⟨g, cap, w', r0, ⟨Lc ++ cs, by rw [List.length_append]; exact r1, fun b e => by
    obtain rfl : g = b := by simpa [Value.ownBlock] using e
    rcases r3 with r3 | r3
    · exact hd0 _ r3
    · rw [r3]; exact hbase, fun k y hy => ?_⟩, r2⟩
  have l1 := own.1
  by_cases c : k < xs.length
  · rw [List.getElem?_append_left c] at hy
    obtain ⟨vs, h1, h2⟩ := hL k y hy
    have hvl : vs.length = 3 := thR.len h1
    refine ⟨vs, hk _ _ h1, fun j u hu => ?_⟩
    have hj := (List.getElem?_eq_some_iff.1 hu).1
    rw [List.getElem?_append_left (by omega)]
    exact h2 j u hu
  · rw [List.getElem?_append_right (by omega)] at hy
    have hlt := (List.getElem?_eq_some_iff.1 hy).1
    simp at hlt
    have ek : k = xs.length := by omega
    subst ek
    simp at hy
    subst hy
    refine ⟨cs, hk _ _ hx, fun j u hu => ?_⟩
    rw [List.getElem?_append_right (by omega), l1]
    have e : xs.length * 3 + j - xs.length * 3 = j := by omega
    rw [e]
    exact hu
theorem ThRow.sl {D : Nat → Prop} {n c : Nat} {w : World} {a : Option Addr} {xs : List Th} (h : ThRow D w (.slice a n c) xs) (hn : n = xs.length) (hl : n ≤ 1048576) : SlAt thR D w a n xs := by
  subst hn
  obtain ⟨Lc, own, hd0, hL⟩ := h
  refine ⟨rfl, by omega, ?_⟩
  rcases own.2 with ⟨_, e0⟩ | ⟨g, cap, cur, ev, _, hg, _, _, _, hcur⟩
  · exact .inl e0
  · injection ev with e1 e2 e3
    subst e1
    refine .inr ⟨g, 0, rfl, hd0 g rfl, fun i x hx => ?_⟩
    obtain ⟨vs, h1, h2⟩ := hL i x hx
    refine ⟨vs, thR.mono h1 (fun _ hb _ => hb.1), fun j u hu => ?_⟩
    have := h2 j u hu
    rw [← hcur] at this
    have hlt := (List.getElem?_eq_some_iff.1 this).1
    rw [List.length_take] at hlt
    rw [List.getElem?_take_of_lt (by omega)] at this
    have e : 0 + i * thR.sz + j = i * 3 + j := by show 0 + i * 3 + j = _; omega
    rw [e]
    simp only [World.cell?, hg]
    simpa using this
/-- The length of what is a slice. -/
theorem ThRow.form {D : Nat → Prop} {w : World} {v : Value} {xs : List Th} (h : ThRow D w v xs) : ∃ a c, v = .slice a xs.length c := by
  obtain ⟨Lc, own, _, _⟩ := h
  rcases own.2 with ⟨rfl, e⟩ | ⟨g, cap, cur, rfl, _⟩
  · exact ⟨none, 0, by rw [e]⟩
  · exact ⟨_, _, rfl⟩

theorem th_holds {D : Nat → Prop} {w : World} {a0 c0 : Int} {ta : Option Addr} {tl tc : Nat} {ty : List Int} (ha : i64B a0) (hc : i64B c0) (h : IntsAt D w ta tl ty) : thR.holds D w [.int .i64 a0, .int .i64 c0, .slice ta tl tc] (a0, c0, ty) :=
  ⟨[.int .i64 a0], _, rfl, ⟨rfl, ha⟩, [.int .i64 c0], _, rfl, ⟨rfl, hc⟩, ta, tl, tc, rfl, h.sl⟩
/-- Another such list behind. -/
theorem ThRow.ones {D : Nat → Prop} {w : World} {v : Value} {xs : List Th} {Lc : List Value} (own : w.ownsRow 0 69 3 v xs.length Lc) (hL : ∀ (i : Nat) (x : Th), xs[i]? = some x → ∃ vs, thR.holds D w vs x ∧ ∀ (j : Nat) (u : Value), vs[j]? = some u → Lc[i * 3 + j]? = some u) : ∀ u ∈ Lc, u.oneCell' = true := by
  intro u hu
  obtain ⟨k, hk⟩ := List.getElem?_of_mem hu
  have hlt := (List.getElem?_eq_some_iff.1 hk).1
  have hlen := own.1
  have hx : k / 3 < xs.length := by omega
  obtain ⟨vs, h1, h2⟩ := hL (k / 3) (xs[k / 3]) (List.getElem?_eq_getElem hx)
  have hvl : vs.length = 3 := thR.len h1
  have h3 := h2 (k % 3) (vs[k % 3]'(by omega)) (List.getElem?_eq_getElem _)
  rw [show k / 3 * 3 + k % 3 = k by omega, hk] at h3
  cases h3
  exact th_one h1 _ (List.getElem_mem _)
/-- Another such list behind. -/
theorem ThRow.cat {D : Nat → Prop} {w : World} {v : Value} {xs ys : List Th} {ba : Option Addr} {bl bc : Nat} (h : ThRow D w v xs) (h2 : ThRow (fun b => D b ∧ v.ownBlock ≠ some b) w (.slice ba bl bc) ys) (hbl : bl = ys.length) (hbase : D w.heap.size) (hn : xs.length ≤ 10000) (hm : ys.length ≤ 10000) (ty : TypeId) :
    ∃ a' c' w', (Builtin.append_ #[63, 63] ty #[v, .slice ba bl bc]).run Tryz.prog w = .ok (.slice a' (xs.length + ys.length) c') w' ∧ ThRow D w' (.slice a' (xs.length + ys.length) c') (xs ++ ys) ∧ w.grownBy w' v.ownBlock := by
  subst hbl
  obtain ⟨i, hi, hz0, hz1, hz2⟩ := info_parts info_Th
  by_cases hy0 : ys.length = 0
  · have hy : ys = [] := List.eq_nil_of_length_eq_zero hy0
    subst hy
    obtain ⟨a, c, rfl⟩ := h.form
    obtain ⟨Lc, own, _⟩ := id h
    have hr := run_append_empty (P := Tryz.prog) (w := w) 0 63 ty 69 i 3 Tryz.underlying63 hi _ _ _ own ba bc
    exact ⟨a, c, w, hr, by simpa using h, ⟨rfl, rfl, rfl, Nat.le_refl _, fun _ _ _ => rfl⟩⟩
  · obtain ⟨Lc, own, hd0, hL⟩ := h
    obtain ⟨Lc2, own2, hd2, hL2⟩ := h2
    have ones := ThRow.ones own2 hL2
    rcases own2.2 with ⟨_, e0⟩ | ⟨g2, cap2, cur2, ev, _, hg2, _, _, _, hcur2⟩
    · exact absurd e0 hy0
    · injection ev with e1 e2 e3
      subst e1
      have hl2 := own2.1
      obtain ⟨g, cap, w', r0, r1, r2, r3, _⟩ := run_append_lies (P := Tryz.prog) w 63 ty 0 69 i _ 3 40 Tryz.underlying63 hi hz0 hz1 hz2 rfl (by omega) v xs.length Lc own ⟨g2, 0, none⟩ ys.length bc Lc2 hl2 (fun j u hu => by
        have hlt := (List.getElem?_eq_some_iff.1 hu).1
        rw [← hcur2, List.getElem?_take_of_lt (by omega)] at hu
        rw [Addr.add_lit, Nat.zero_add]
        simp only [World.cell?, hg2]
        simpa using hu) ones (by omega) (by unfold maxLen; omega) (by omega) (Nat.zero_le _) _ rfl
      have hD : ∀ b, (D b ∧ v.ownBlock ≠ some b) → b < w.heap.size → (D b ∧ (Value.slice (some ⟨g, 0, none⟩) (xs.length + ys.length) cap).ownBlock ≠ some b) := fun b hb hlt => by
        refine ⟨hb.1, fun e => ?_⟩
        obtain rfl : g = b := by simpa [Value.ownBlock] using e
        rcases r3 with r3 | r3
        · exact hb.2 r3
        · omega
      have hk : ∀ (vs : List Value) (x : Th), thR.holds (fun b => D b ∧ v.ownBlock ≠ some b) w vs x → thR.holds (fun b => D b ∧ (Value.slice (some ⟨g, 0, none⟩) (xs.length + ys.length) cap).ownBlock ≠ some b) w' vs x := fun vs x hv =>
        thR.mono (D := fun b => (D b ∧ (Value.slice (some ⟨g, 0, none⟩) (xs.length + ys.length) cap).ownBlock ≠ some b) ∧ D b ∧ v.ownBlock ≠ some b) (thR.keep (thR.mono hv (fun b hb hlt => ⟨hD b hb hlt, hb⟩)) (fun b o hd hb => World.cell?_of_block (a := ⟨b, o, none⟩) (r2.block b hb (fun e => hd.2.2 e.symm)))) (fun b hb _ => hb.1)
      refine ⟨_, _, w', r0, ⟨Lc ++ Lc2, by rw [List.length_append]; exact r1, fun b e => by
        obtain rfl : g = b := by simpa [Value.ownBlock] using e
        rcases r3 with r3 | r3
        · exact hd0 _ r3
        · rw [r3]; exact hbase, fun k y hy => ?_⟩, r2⟩
      have l1 := own.1
      by_cases c : k < xs.length
      · rw [List.getElem?_append_left c] at hy
        obtain ⟨vs, h1, h2⟩ := hL k y hy
        have hvl : vs.length = 3 := thR.len h1
        refine ⟨vs, hk _ _ h1, fun j u hu => ?_⟩
        have hj := (List.getElem?_eq_some_iff.1 hu).1
        rw [List.getElem?_append_left (by omega)]
        exact h2 j u hu
      · rw [List.getElem?_append_right (by omega)] at hy
        obtain ⟨vs, h1, h2⟩ := hL2 _ y hy
        have hvl : vs.length = 3 := thR.len h1
        refine ⟨vs, hk _ _ (thR.mono h1 (fun b hb _ => hb.1)), fun j u hu => ?_⟩
        rw [List.getElem?_append_right (by omega), l1]
        have e : k * 3 + j - xs.length * 3 = (k - xs.length) * 3 + j := by omega
        rw [e]
        exact h2 j u hu

end Go.Proofs.YtjbmcdekhhbiaaaGreat
