/-
  What is marked and held: a list of ints of the call's own is overwritten with numbers one behind the other, and they are there.
-/
import Derived.Test.YtglggjkmgdpbfaaFlds
import Derived.Test.YtglggjkmgdpbfaaEqCls
namespace Go.Proofs.Ytglggjkmgdpbfaa
open Go.ChangeShapes Go.WideShapes Go.ChangeAt Go.RowKit

/-- A list in memory that may be written. -/
structure Wr (w : World) (a : Option Addr) (n : Nat) (f : Nat → Int) : Prop where
  cells : n = 0 ∨ ∃ b off, a = some ⟨b, off, none⟩ ∧ ∀ j, j < n → w.cell? ⟨b, off + j, none⟩ = some (.int .i64 (f j)) ∧ w.frozen? ⟨b, off + j, none⟩ = false

/-- Numbers stay numbers, and all else stays. -/
structure Stay (w w' : World) : Prop where
  cell : ∀ p v, w.cell? p = some v → w'.cell? p = some v ∨ ((∃ x, v = .int .i64 x) ∧ ∃ z, w'.cell? p = some (.int .i64 z))
  frozen : ∀ p, w'.frozen? p = w.frozen? p
theorem Stay.refl (w : World) : Stay w w := ⟨fun _ _ h => .inl h, fun _ => rfl⟩
theorem Stay.trans {a b c : World} (h : Stay a b) (k : Stay b c) : Stay a c := by
  refine ⟨fun p v hv => ?_, fun p => (k.frozen p).trans (h.frozen p)⟩
  rcases h.cell p v hv with h1 | ⟨hx, z, h1⟩
  · exact k.cell p v h1
  · rcases k.cell p _ h1 with h2 | ⟨_, h2⟩
    · exact .inr ⟨hx, z, h2⟩
    · exact .inr ⟨hx, h2⟩
theorem Stay.set {w w' : World} (h : Stay w w') (p : Addr) (x z : Int) (hp : w'.cell? p = some (.int .i64 x)) : Stay w (w'.setCell p (.int .i64 z)) := by
  refine h.trans ⟨fun q v hv => ?_, fun q => World.frozen?_setCell _ _ _ _⟩
  by_cases e : p = q
  · subst e
    rw [hp] at hv
    cases hv
    exact .inr ⟨⟨x, rfl⟩, z, World.cell?_setCell_same w' p _ hp⟩
  · exact .inl (by rw [World.cell?_setCell_other w' _ _ _ e]; exact hv)

theorem markInts (a : Option Addr) (n c : Nat) (k : Int) (f : Nat → Int) (w : World) (h : Wr w a n f) (hn : n ≤ 1048576) (k0 : 0 ≤ k) (k1 : k ≤ 4000000000000) :
    Calls Try.prog 43 #[.slice a n c, .int .i64 k] w fun e w' => e = .returned (.int .i64 (k + n)) ∧ Wr w' a n (fun j => k + j) ∧ Ch (fun i => ∃ x, a = some x ∧ x.block = i ∧ 0 < n) w w' ∧ w'.heap.size = w.heap.size ∧ Stay w w' := by
  by_cases hn0 : n = 0
  · subst hn0
    go_enter Try.func43, Try.ntmps43
    go_wp2_with fail
    refine wp_loop_rounds 1 ?_
    rw [rounds_succ]
    go_wp2_with fail
    go_ret
    exact ⟨by simp, ⟨.inl rfl⟩, Ch.refl _ _, rfl, Stay.refl _⟩
  · obtain ⟨b, off, rfl, hc⟩ : ∃ b off, a = some ⟨b, off, none⟩ ∧ ∀ j, j < n → w.cell? ⟨b, off + j, none⟩ = some (.int .i64 (f j)) ∧ w.frozen? ⟨b, off + j, none⟩ = false := by
      rcases h.cells with h0 | h0
      · omega
      · exact h0
    have HC : Hid (∀ j, j < n → w.cell? ⟨b, off + j, none⟩ = some (.int .i64 (f j)) ∧ w.frozen? ⟨b, off + j, none⟩ = false) := hc
    clear h hc
    go_enter Try.func43, Try.ntmps43
    go_wp2_with fail
    go_loopw [1, 5] (fun s t wr => ∃ i : Nat, i ≤ n ∧ t = .int .i64 i ∧ s = .int .i64 (k + i) ∧ (∀ j, j < n → wr.cell? ⟨b, off + j, none⟩ = some (.int .i64 (if j < i then k + j else f j)) ∧ wr.frozen? ⟨b, off + j, none⟩ = false) ∧ Ch (fun i => i = b) w wr ∧ wr.heap.size = w.heap.size ∧ Stay w wr) (fun _ t _ => n - (intOf t).toNat)
    case atStart => exact ⟨0, Nat.zero_le _, rfl, by simp, fun j hj => by simpa using HC.out j hj, Ch.refl _ _, rfl, Stay.refl _⟩
    case round =>
      obtain ⟨i, hi, rfl, rfl, hr, hch, hsz, hst⟩ := hrel
      have HSt : Hid (Stay w wr) := hst
      have HR : Hid (∀ j, j < n → wr.cell? ⟨b, off + j, none⟩ = some (.int .i64 (if j < i then k + j else f j)) ∧ wr.frozen? ⟨b, off + j, none⟩ = false) := hr
      have HCh : Hid (Ch (fun i => i = b) w wr) := hch
      have HSz : Hid (wr.heap.size = w.heap.size) := hsz
      clear hr hch hsz hst
      by_cases hlt : i < n
      · have c1 := (HR.out i hlt).1
        have c2 := (HR.out i hlt).2
        rw [if_neg (by omega)] at c1
        go_wp2_with fail
        refine ⟨⟨i + 1, by omega, by go_num, ?_, fun j hj => ⟨?_, ?_⟩, HCh.out.setCell _ _ (fun _ => rfl), by rw [World.size_setCell]; exact HSz.out, HSt.out.set _ _ _ c1⟩, by simp [intOf]; omega⟩
        · rw [show k + (i : Int) + 1 = k + ((i + 1 : Nat) : Int) by omega]
        · by_cases e : j = i
          · subst e
            rw [World.cell?_setCell_same wr _ _ (HR.out j hj).1, if_pos (by omega)]
          · rw [World.cell?_setCell_other wr _ _ _ (by intro e'; have := congrArg Addr.off e'; simp at this; omega), (HR.out j hj).1]
            by_cases e2 : j < i
            · rw [if_pos e2, if_pos (by omega)]
            · rw [if_neg e2, if_neg (by omega)]
        · rw [World.frozen?_setCell]; exact (HR.out j hj).2
      · have ei : i = n := by omega
        subst ei
        go_wp2_with fail
        go_ret
        refine ⟨rfl, ⟨.inr ⟨b, off, rfl, fun j hj => ?_⟩⟩, HCh.out.mono (fun j _ e => ⟨_, rfl, e.symm, by omega⟩), HSz.out, HSt.out⟩
        have := HR.out j hj
        rwa [if_pos hj] at this

theorem heldInts (a : Option Addr) (n c : Nat) (k : Int) (w : World) (h : Wr w a n (fun j => k + j)) (hn : n ≤ 1048576) (k0 : 0 ≤ k) (k1 : k ≤ 4000000000000) :
    Calls Try.prog 44 #[.slice a n c, .int .i64 k] w fun e w' => e = .returned (.int .i64 (k + n)) ∧ w = w' := by
  have HC : Hid (Wr w a n (fun j => k + j)) := h
  clear h
  go_enter Try.func44, Try.ntmps44
  go_wp2_with fail
  go_loop [1, 5] (fun s t => ∃ i : Nat, i ≤ n ∧ t = .int .i64 i ∧ s = .int .i64 (k + i)) (fun _ t => n - (intOf t).toNat)
  case atStart => exact ⟨0, Nat.zero_le _, rfl, by simp⟩
  case round =>
    obtain ⟨i, hi, rfl, rfl⟩ := hrel
    by_cases hlt : i < n
    · obtain ⟨b, off, rfl, hc⟩ : ∃ b off, a = some ⟨b, off, none⟩ ∧ w.cell? ⟨b, off + i, none⟩ = some (.int .i64 (k + i)) := by
        rcases HC.out.cells with h0 | ⟨b, off, ha, hc⟩
        · omega
        · exact ⟨b, off, ha, (hc i hlt).1⟩
      have e1 : ((k + (i : Int)) != (k + (i : Int))) = false := by simp
      go_wp2_with fail
      exact ⟨⟨i + 1, by omega, by go_num, by rw [show k + (i : Int) + 1 = k + ((i + 1 : Nat) : Int) by omega]⟩, by simp [intOf]; omega⟩
    · have ei : i = n := by omega
      subst ei
      go_wp2_with fail
      go_ret
      exact ⟨rfl, rfl⟩

/-- Classes that may be marked: the row at G, the fields' rows behind it and below H. -/
def Mk (G len H : Nat) (w : World) : Prop :=
  ∀ i, i < len → (∃ s, w.cell? ⟨G, i * 2, none⟩ = some (.int .i64 s)) ∧ w.frozen? ⟨G, i * 2, none⟩ = false ∧
    ∃ g fl fc, w.cell? ⟨G, i * 2 + 1, none⟩ = some (.slice (some ⟨g, 0, none⟩) fl fc) ∧ G < g ∧ (0 < fl → g < H) ∧ fl ≤ 1048576 ∧ ∀ j, j < fl → (∃ z, w.cell? ⟨g, 0 + j, none⟩ = some (.int .i64 z)) ∧ w.frozen? ⟨g, 0 + j, none⟩ = false
theorem int_stay {w w' : World} (h : Stay w w') {p : Addr} {z : Int} (hz : w.cell? p = some (.int .i64 z)) : ∃ z, w'.cell? p = some (.int .i64 z) := by
  rcases h.cell p _ hz with h1 | ⟨_, h1⟩
  · exact ⟨z, h1⟩
  · exact h1
theorem Mk.stay {G len H : Nat} {w w' : World} (h : Mk G len H w) (s : Stay w w') : Mk G len H w' := by
  intro i hi
  obtain ⟨⟨z, h1⟩, h2, g, fl, fc, h3, h4, h5, h6, h7⟩ := h i hi
  refine ⟨int_stay s h1, (s.frozen _).trans h2, g, fl, fc, ?_, h4, h5, h6, fun j hj => ?_⟩
  · rcases s.cell _ _ h3 with e | ⟨⟨x, e⟩, _⟩
    · exact e
    · cases e
  · obtain ⟨⟨z, k1⟩, k2⟩ := h7 j hj
    exact ⟨int_stay s k1, (s.frozen _).trans k2⟩

theorem markCls (G len c H : Nat) (w : World) (h : Mk G len H w) (hlen : len ≤ 1048576) (hGH : G < H) (hH : H ≤ w.heap.size) :
    Calls Try.prog 42 #[.slice (some ⟨G, 0, none⟩) len c, .int .i64 1] w fun e w' => ∃ r : Int, e = .returned (.int .i64 r) ∧ 0 ≤ r ∧ Ch (fun b => G ≤ b ∧ b < H) w w' ∧ w'.heap.size = w.heap.size := by
  have HM : Hid (Mk G len H w) := h
  clear h
  go_enter Try.func42, Try.ntmps42
  go_wp2_with fail
  go_loopw [1, 5] (fun s t wr => ∃ (i : Nat) (r : Int), i ≤ len ∧ t = .int .i64 i ∧ s = .int .i64 r ∧ 1 ≤ r ∧ r ≤ 1 + i * 1048577 ∧ Stay w wr ∧ Ch (fun b => G ≤ b ∧ b < H) w wr ∧ wr.heap.size = w.heap.size) (fun _ t _ => len - (intOf t).toNat)
  case atStart => exact ⟨0, 1, Nat.zero_le _, rfl, rfl, by omega, by omega, Stay.refl _, Ch.refl _ _, rfl⟩
  case round =>
    obtain ⟨i, r, hi, rfl, rfl, r0, r1, hst, hch, hsz⟩ := hrel
    have HSt : Hid (Stay w wr) := hst
    have HCh : Hid (Ch (fun b => G ≤ b ∧ b < H) w wr) := hch
    have HSz : Hid (wr.heap.size = w.heap.size) := hsz
    clear hst hch hsz
    by_cases hlt : i < len
    · obtain ⟨⟨z, h1⟩, h2, g, fl, fc, h3, h4, h5, h6, h7⟩ := (HM.out.stay HSt.out) i hlt
      have HW : Hid (Wr (wr.setCell ⟨G, i * 2, none⟩ (.int .i64 r)) (some ⟨g, 0, none⟩) fl (fun j => ((wr.cell? ⟨g, 0 + j, none⟩).map intOf).getD 0)) := by
        refine ⟨.inr ⟨g, 0, rfl, fun j hj => ⟨?_, ?_⟩⟩⟩
        · obtain ⟨⟨y, k1⟩, _⟩ := h7 j hj
          rw [World.cell?_setCell_other wr _ _ _ (by intro e; have := congrArg Addr.block e; simp at this; omega), k1]
          rfl
        · rw [World.frozen?_setCell]; exact (h7 j hj).2
      have hGw : G < wr.heap.size := by rw [HSz.out]; omega
      have HS1 : Hid (Stay w (wr.setCell ⟨G, i * 2, none⟩ (.int .i64 r))) := HSt.out.set _ _ _ h1
      clear h7
      go_wp2_with fail
      refine (markInts _ _ _ _ _ _ HW.out h6 (by omega) (by omega)).mono ?_
      rintro e w2 ⟨rfl, _, c2, s2, st2⟩
      have HC2 : Hid (Ch (fun b => G ≤ b ∧ b < H) w w2) := (HCh.out.setCell ⟨G, i * 2, none⟩ (.int .i64 r) (fun _ => ⟨Nat.le_refl _, hGH⟩)).trans c2 (fun j _ e => by
        obtain ⟨x, hx, rfl, hp⟩ := e
        cases hx
        exact ⟨by show G ≤ g; omega, h5 hp⟩)
      have HS2 : Hid (Stay w w2) := HS1.out.trans st2
      have HZ2 : Hid (w2.heap.size = w.heap.size) := by show _ = _; rw [s2, World.size_setCell]; exact HSz.out
      clear c2 s2 st2
      go_wp2_with fail
      exact ⟨⟨i + 1, _, by omega, by go_num, rfl, by omega, by omega, HS2.out, HC2.out, HZ2.out⟩, by simp [intOf]; omega⟩
    · have ei : i = len := by omega
      subst ei
      go_wp2_with fail
      go_ret
      exact ⟨r, rfl, by omega, HCh.out, HSz.out⟩

theorem Cop.later {G len k : Nat} {w w' : World} {L : List Cl} (h : Cop G len w L k) (b : Below w.heap.size w w') : Cop G len w' L k := by
  obtain ⟨f, hf, hi⟩ := h
  refine ⟨f, hf.later b, fun i hik => ?_⟩
  obtain ⟨h1, g, h2, h3, h4⟩ := hi i hik
  exact ⟨h1, g, h2, h3, h4.later b⟩
theorem Cop.mk {G len H : Nat} {w w' : World} {L : List Cl} (h : Cop G len w L len) (hH : w.heap.size = H) (hl : ∀ i, i < len → (cl L i).2.length ≤ 1048576) (b : Below w.heap.size w w') : Mk G len H w' := by
  intro i hi
  obtain ⟨f, hf, hc⟩ := h
  obtain ⟨h1, g, h2, h3, h4⟩ := hc i hi
  have r0 := (hf.later b) (i * 2) (by omega)
  have r1 := (hf.later b) (i * 2 + 1) (by omega)
  refine ⟨⟨_, by rw [r0.1, h1]⟩, r0.2, g, _, _, by rw [r1.1, h2], h3, fun hp => ?_, hl i hi, fun j hj => ?_⟩
  · rw [← hH]; exact World.block_lt_of_cell? w _ (h4 0 hp).1
  · rw [Nat.zero_add]
    exact ⟨⟨_, ((h4.later b) j hj).1⟩, ((h4.later b) j hj).2⟩
theorem Wr.of {w : World} {base e n c : Nat} {a : Option Addr} {xs : List Int} (h : w.ownsRow base e 1 (.slice a n c) n (xs.map (Value.int .i64))) : Wr w a n (fun j => xs.getD j 0) := by
  have hlen : xs.length = n := by have := h.1; simpa using this
  rcases h.2 with ⟨h', hn⟩ | ⟨g, cap, cur, h', _⟩
  · exact ⟨.inl hn⟩
  · cases h'
    refine ⟨.inr ⟨g, 0, rfl, fun j hj => ⟨?_, h.frozenAt _⟩⟩⟩
    rw [Nat.zero_add, h.cellAt j (by omega), List.getElem?_map, List.getD_eq_getElem?_getD, List.getElem?_eq_getElem (by omega)]
    rfl
theorem Wr.later {w w' : World} {n : Nat} {a : Option Addr} {f : Nat → Int} (h : Wr w a n f) (b : Below w.heap.size w w') : Wr w' a n f := by
  rcases h.cells with h0 | ⟨g, off, ha, hc⟩
  · exact ⟨.inl h0⟩
  · refine ⟨.inr ⟨g, off, ha, fun j hj => ?_⟩⟩
    have hl := World.block_lt_of_cell? w _ (hc j hj).1
    exact ⟨by rw [b.cell hl]; exact (hc j hj).1, by rw [b.frozen hl]; exact (hc j hj).2⟩
theorem Wr.ch {w w' : World} {n : Nat} {a : Option Addr} {f : Nat → Int} {S : Nat → Prop} (h : Wr w a n f) (c : Ch S w w') (hS : ∀ x, a = some x → 0 < n → ¬ S x.block) : Wr w' a n f := by
  rcases h.cells with h0 | ⟨g, off, rfl, hc⟩
  · exact ⟨.inl h0⟩
  · refine ⟨.inr ⟨g, off, rfl, fun j hj => ?_⟩⟩
    have hl := World.block_lt_of_cell? w _ (hc j hj).1
    have hn := hS _ rfl (by omega)
    exact ⟨by rw [c.cell g _ hl hn]; exact (hc j hj).1, by rw [c.frozen g _ hl hn]; exact (hc j hj).2⟩
theorem Wr.ints {w : World} {n : Nat} {a : Option Addr} {xs : List Int} (h : Wr w a n (fun j => xs.getD j 0)) (hs : xs.length = n) (hn : n ≤ 1000) (hf : FitsAll xs) : IntsAt (fun _ => True) w a n xs := by
  refine ⟨hs, by omega, ?_, hf⟩
  rcases h.cells with h0 | ⟨g, off, ha, hc⟩
  · exact .inl h0
  · exact .inr ⟨g, off, ha, trivial, fun j hj => (hc j hj).1⟩

end Go.Proofs.Ytglggjkmgdpbfaa
