/-
  What is given back is marked, number by number, and held against its marks: values and things in memory that may be written, no two lists of which share any.
-/
import Derived.Test.YtjbmcdekhhbiaaaGreatMrkU
import Derived.Test.YtjbmcdekhhbiaaaGreatRowO
namespace Go.Proofs.YtjbmcdekhhbiaaaGreat
open Go.ChangeShapes Go.WideShapes Go.ChangeAt Go.RowKit

/-- The marks of values, from a number on. -/
def mV (k : Int) (j : Nat) : Vl := ((k + 2 * (j : Int)) % 3 == 0, k + 2 * (j : Int) + 1)
structure WrF (w : World) (g n : Nat) (f : Nat → Vl) : Prop where
  at' : ∀ j, j < n → w.cell? ⟨g, j * 2, none⟩ = some (.bool (f j).1) ∧ w.cell? ⟨g, j * 2 + 1, none⟩ = some (.int .i64 (f j).2)
  free : ∀ j, j < n * 2 → w.frozen? ⟨g, j, none⟩ = false
theorem WrF.keep {w w' : World} {g n : Nat} {f : Nat → Vl} (h : WrF w g n f) (hk : w'.heap[g]? = w.heap[g]?) : WrF w' g n f :=
  ⟨fun j hj => ⟨(World.cell?_of_block (a := ⟨g, _, none⟩) hk).trans (h.at' j hj).1, (World.cell?_of_block (a := ⟨g, _, none⟩) hk).trans (h.at' j hj).2⟩, fun j hj => (World.frozen?_of_block (a := ⟨g, j, none⟩) hk).trans (h.free j hj)⟩
theorem WrV.f {w : World} {g : Nat} {xs : List Vl} (h : WrV w g xs) : WrF w g xs.length (fun j => xs.getD j (false, 0)) := by
  refine ⟨fun j hj => ?_, h.free⟩
  obtain ⟨h1, h2, _⟩ := h.at' j (xs[j]'hj) (List.getElem?_eq_getElem _)
  have e : xs.getD j (false, 0) = xs[j]'hj := by rw [List.getD_eq_getElem?_getD, List.getElem?_eq_getElem hj]; rfl
  rw [e]
  exact ⟨h1, h2⟩

set_option maxHeartbeats 4000000 in
theorem markOwnV (g n c : Nat) (k : Int) (f : Nat → Vl) (w : World) (h : WrF w g n f) (hn : n ≤ 1048576) (k0 : 0 ≤ k) (k1 : k ≤ 4000000000000000) :
    Calls Tryz.prog 57 #[.slice (some ⟨g, 0, none⟩) n c, .int .i64 k] w fun e w' => e = .returned (.int .i64 (k + 2 * n)) ∧ WrF w' g n (mV k) ∧ Chg (fun b => b = g) w w' := by
  have HC : Hid (WrF w g n f) := h
  clear h
  go_enter Tryz.func57, Tryz.ntmps57
  go_wp2_with fail
  go_loopw [1, 5] (fun s t wr => ∃ i : Nat, i ≤ n ∧ t = .int .i64 i ∧ s = .int .i64 (k + 2 * i) ∧ WrF wr g n (fun j => if j < i then mV k j else f j) ∧ Chg (fun b => b = g) w wr) (fun _ t _ => n - (intOf t).toNat)
  case atStart => exact ⟨0, Nat.zero_le _, rfl, by simp, HC.out, Chg.refl _ _⟩
  case round =>
    obtain ⟨i, hi, rfl, rfl, hr, hch⟩ := hrel
    have HR : Hid (WrF wr g n (fun j => if j < i then mV k j else f j)) := hr
    have HCh : Hid (Chg (fun b => b = g) w wr) := hch
    clear hr hch
    by_cases hlt : i < n
    · obtain ⟨c1, c2⟩ := HR.out.at' i hlt
      have f1 := HR.out.free (i * 2) (by omega)
      have f2 := HR.out.free (i * 2 + 1) (by omega)
      simp only [Nat.lt_irrefl, if_false] at c1 c2
      generalize (f i).1 = y1 at c1
      generalize (f i).2 = y2 at c2
      have hk3 : 0 ≤ k + 2 * (i : Int) := by omega
      have FIN : Hid (WrF ((wr.setCell ⟨g, i * 2, none⟩ (.bool ((k + 2 * (i : Int)) % 3 == 0))).setCell ⟨g, i * 2 + 1, none⟩ (.int .i64 (k + 2 * (i : Int) + 1))) g n (fun j => if j < i + 1 then mV k j else f j)) := by
        refine ⟨fun j hj => ?_, fun j hj => by rw [World.frozen?_setCell, World.frozen?_setCell]; exact HR.out.free j hj⟩
        obtain ⟨d1, d2⟩ := HR.out.at' j hj
        by_cases e : j = i
        · subst e
          simp only [Nat.lt_succ_self, if_true]
          refine ⟨?_, World.cell?_setCell_same _ _ _ (by rw [World.cell?_setCell_other _ _ _ _ (by intro e; have := congrArg Addr.off e; simp at this)]; exact c2)⟩
          rw [World.cell?_setCell_other _ _ _ _ (by intro e; have := congrArg Addr.off e; simp at this)]
          exact World.cell?_setCell_same wr _ _ c1
        · rw [World.cell?_setCell_other _ _ _ _ (by intro e; have := congrArg Addr.off e; simp at this; omega), World.cell?_setCell_other _ _ _ _ (by intro e; have := congrArg Addr.off e; simp at this; omega),
            World.cell?_setCell_other _ _ _ _ (by intro e; have := congrArg Addr.off e; simp at this; omega), World.cell?_setCell_other _ _ _ _ (by intro e; have := congrArg Addr.off e; simp at this; omega)]
          by_cases e2 : j < i
          · simp only [if_pos e2, if_pos (show j < i + 1 by omega)] at d1 d2 ⊢
            exact ⟨d1, d2⟩
          · simp only [if_neg e2, if_neg (show ¬ j < i + 1 by omega)] at d1 d2 ⊢
            exact ⟨d1, d2⟩
      go_wp2_with fail
      refine ⟨⟨i + 1, by omega, by go_num, ?_, FIN.out, (HCh.out.trans (Chg.set (D := fun b => b = g) _ _ _ rfl) (fun _ _ h => h)).trans (Chg.set (D := fun b => b = g) _ _ _ rfl) (fun _ _ h => h)⟩, by simp [intOf]; omega⟩
      rw [show k + 2 * (i : Int) + 1 + 1 = k + 2 * ((i + 1 : Nat) : Int) by omega]
    · have ei : i = n := by omega
      subst ei
      go_wp2_with fail
      go_ret
      refine ⟨rfl, ⟨fun j hj => ?_, HR.out.free⟩, HCh.out⟩
      have := HR.out.at' j hj
      simpa only [if_pos hj] using this
set_option maxHeartbeats 4000000 in
theorem heldOwnV (g n c : Nat) (k : Int) (w : World) (h : WrF w g n (mV k)) (hn : n ≤ 1048576) (k0 : 0 ≤ k) (k1 : k ≤ 4000000000000000) :
    Calls Tryz.prog 58 #[.slice (some ⟨g, 0, none⟩) n c, .int .i64 k] w fun e w' => e = .returned (.int .i64 (k + 2 * n)) ∧ w = w' := by
  have HC : Hid (WrF w g n (mV k)) := h
  clear h
  go_enter Tryz.func58, Tryz.ntmps58
  go_wp2_with fail
  go_loop [1, 5] (fun s t => ∃ i : Nat, i ≤ n ∧ t = .int .i64 i ∧ s = .int .i64 (k + 2 * i)) (fun _ t => n - (intOf t).toNat)
  case atStart => exact ⟨0, Nat.zero_le _, rfl, by simp⟩
  case round =>
    obtain ⟨i, hi, rfl, rfl⟩ := hrel
    by_cases hlt : i < n
    · obtain ⟨c1, c2⟩ := HC.out.at' i hlt
      simp only [mV] at c1 c2
      have hk3 : 0 ≤ k + 2 * (i : Int) := by omega
      have e1 : (((k + 2 * (i : Int)) % 3 == 0) != ((k + 2 * (i : Int)) % 3 == 0)) = false := by simp
      have e2 : ((k + 2 * (i : Int) + 1) != (k + 2 * (i : Int) + 1)) = false := by simp
      go_wp2_with fail
      exact ⟨⟨i + 1, by omega, by go_num, by rw [show k + 2 * (i : Int) + 1 + 1 = k + 2 * ((i + 1 : Nat) : Int) by omega]⟩, by simp [intOf]; omega⟩
    · have ei : i = n := by omega
      subst ei
      go_wp2_with fail
      go_ret
      exact ⟨rfl, rfl⟩

def kAt (k : Int) (len : Nat → Nat) : Nat → Int
  | 0 => k
  | i + 1 => kAt k len i + 1 + 2 * (len i : Int)
theorem kAt_bound {k : Int} {len : Nat → Nat} {n : Nat} (hl : ∀ j, j < n → len j ≤ 1048576) : ∀ i, i ≤ n → k ≤ kAt k len i ∧ kAt k len i ≤ k + 2097153 * (i : Int)
  | 0, _ => by simp [kAt]
  | i + 1, hi => by
    have h1 := kAt_bound (k := k) hl i (by omega)
    have h2 := hl i (by omega)
    rw [kAt]
    omega

structure GrF (w : World) (G n : Nat) (len bs : Nat → Nat) (cls : Nat → Int) (F : Nat → Nat → Vl) : Prop where
  row : ∀ j, j < n → w.cell? ⟨G, j * 2, none⟩ = some (.int .i64 (cls j)) ∧ w.cell? ⟨G, j * 2 + 1, none⟩ = some (.slice (some ⟨bs j, 0, none⟩) (len j) (len j)) ∧ WrF w (bs j) (len j) (F j)
  free : ∀ j, j < n * 2 → w.frozen? ⟨G, j, none⟩ = false
  apart : ∀ i j, i < n → j < n → i ≠ j → bs i ≠ bs j
  off : ∀ j, j < n → bs j ≠ G ∧ bs j < w.heap.size
theorem GrF.keep {w w' : World} {G n : Nat} {len bs : Nat → Nat} {cls : Nat → Int} {F : Nat → Nat → Vl} (h : GrF w G n len bs cls F) (hG : w'.heap[G]? = w.heap[G]?) (hb : ∀ j, j < n → w'.heap[bs j]? = w.heap[bs j]?) (hs : w.heap.size ≤ w'.heap.size) : GrF w' G n len bs cls F :=
  ⟨fun j hj => by
    obtain ⟨h1, h2, h3⟩ := h.row j hj
    exact ⟨(World.cell?_of_block (a := ⟨G, _, none⟩) hG).trans h1, (World.cell?_of_block (a := ⟨G, _, none⟩) hG).trans h2, h3.keep (hb j hj)⟩, fun j hj => (World.frozen?_of_block (a := ⟨G, j, none⟩) hG).trans (h.free j hj), h.apart, fun j hj => ⟨(h.off j hj).1, Nat.lt_of_lt_of_le (h.off j hj).2 hs⟩⟩
theorem GrRow.f {w : World} {G n : Nat} {gs : List Ob} {bs : Nat → Nat} (h : GrRow w G n gs n bs) (hn : gs.length = n) : GrF w G n (fun j => (gs.getD j (0, [])).2.length) bs (fun j => (gs.getD j (0, [])).1) (fun j i => (gs.getD j (0, [])).2.getD i (false, 0)) := by
  refine ⟨fun j hj => ?_, fun j hj => (h.free j hj).2, fun i j hi hj hne => ?_, fun j hj => ⟨by have := (h.gt j hj).1; omega, (h.gt j hj).2⟩⟩
  · have e : gs.getD j (0, []) = gs[j]'(by omega) := by rw [List.getD_eq_getElem?_getD, List.getElem?_eq_getElem (by omega)]; rfl
    obtain ⟨h1, h2, _, h4⟩ := h.row j (gs[j]'(by omega)) hj (List.getElem?_eq_getElem _)
    rw [e]
    exact ⟨h1, h2, h4.f⟩
  · rcases Nat.lt_or_gt_of_ne hne with h1 | h1
    · have := h.inc i j h1 hj; omega
    · have := h.inc j i h1 hi; omega

set_option maxHeartbeats 4000000 in
theorem markOwnO (G n c : Nat) (k : Int) (len bs : Nat → Nat) (cls : Nat → Int) (F : Nat → Nat → Vl) (w : World) (h : GrF w G n len bs cls F) (hn : n ≤ 1048576) (hl : ∀ j, j < n → len j ≤ 1048576) (k0 : 0 ≤ k) (k1 : k ≤ 1000000) :
    Calls Tryz.prog 22 #[.slice (some ⟨G, 0, none⟩) n c, .int .i64 k] w fun e w' => e = .returned (.int .i64 (kAt k len n)) ∧ GrF w' G n len bs (kAt k len) (fun j => mV (kAt k len j + 1)) ∧ Chg (fun b => b = G ∨ ∃ j, j < n ∧ b = bs j) w w' := by
  have HC : Hid (GrF w G n len bs cls F) := h
  have HB : Hid (∀ i, i ≤ n → k ≤ kAt k len i ∧ kAt k len i ≤ k + 2097153 * (i : Int)) := kAt_bound hl
  have HL : Hid (∀ j, j < n → len j ≤ 1048576) := hl
  clear h hl
  go_enter Tryz.func22, Tryz.ntmps22
  go_wp2_with fail
  go_loopw [1, 5] (fun s t wr => ∃ i : Nat, i ≤ n ∧ t = .int .i64 i ∧ s = .int .i64 (kAt k len i) ∧ GrF wr G n len bs (fun j => if j < i then kAt k len j else cls j) (fun j => if j < i then mV (kAt k len j + 1) else F j) ∧ Chg (fun b => b = G ∨ ∃ j, j < n ∧ b = bs j) w wr) (fun _ t _ => n - (intOf t).toNat)
  case atStart => exact ⟨0, Nat.zero_le _, rfl, rfl, HC.out, Chg.refl _ _⟩
  case round =>
    obtain ⟨i, hi, rfl, rfl, hr, hch⟩ := hrel
    have HR : Hid (GrF wr G n len bs (fun j => if j < i then kAt k len j else cls j) (fun j => if j < i then mV (kAt k len j + 1) else F j)) := hr
    have HCh : Hid (Chg (fun b => b = G ∨ ∃ j, j < n ∧ b = bs j) w wr) := hch
    have hki := HB.out i hi
    clear hr hch
    by_cases hlt : i < n
    · have hli := HL.out i hlt
      obtain ⟨c1, c2, hW⟩ := HR.out.row i hlt
      have f1 := HR.out.free (i * 2) (by omega)
      simp only [Nat.lt_irrefl, if_false] at c1 hW
      have hoff := HR.out.off i hlt
      have HW : Hid (WrF (wr.setCell ⟨G, i * 2, none⟩ (.int .i64 (kAt k len i))) (bs i) (len i) (F i)) := hW.keep (Below.heap_setCell wr _ _ _ hoff.1)
      have hz : Hid (kAt k len i + 1 + 2 * (len i : Int) = kAt k len (i + 1)) := rfl
      clear hW
      generalize hq : kAt k len i = q at *
      generalize cls i = y1 at c1
      go_wp2_with fail
      refine (markOwnV _ _ _ _ _ _ HW.out hli (by omega) (by omega)).mono ?_
      rintro e w2 ⟨rfl, hW2, hc2⟩
      have HW2 : Hid (WrF w2 (bs i) (len i) (mV (q + 1))) := hW2
      have HC2 : Hid (Chg (fun b => b = bs i) (wr.setCell ⟨G, i * 2, none⟩ (.int .i64 q)) w2) := hc2
      have hG2 : w2.heap[G]? = (wr.setCell ⟨G, i * 2, none⟩ (.int .i64 q)).heap[G]? := hc2.block G (by
        rw [World.size_setCell]
        exact World.block_lt_of_cell? wr _ c1) (fun e => hoff.1 e.symm)
      have FIN : Hid (GrF w2 G n len bs (fun j => if j < i + 1 then kAt k len j else cls j) (fun j => if j < i + 1 then mV (kAt k len j + 1) else F j)) := by
        have hs2 := hc2.size
        rw [World.size_setCell] at hs2
        refine ⟨fun j hj => ?_, fun j hj => ?_, HR.out.apart, fun j hj => ⟨(HR.out.off j hj).1, Nat.lt_of_lt_of_le (HR.out.off j hj).2 hs2⟩⟩
        · obtain ⟨d1, d2, d3⟩ := HR.out.row j hj
          rw [World.cell?_of_block (a := ⟨G, j * 2, none⟩) hG2, World.cell?_of_block (a := ⟨G, j * 2 + 1, none⟩) hG2]
          by_cases e : j = i
          · subst e
            simp only [Nat.lt_succ_self, if_true, hq]
            exact ⟨World.cell?_setCell_same wr _ _ c1, by rw [World.cell?_setCell_other _ _ _ _ (by intro e; have := congrArg Addr.off e; simp at this)]; exact d2, HW2.out⟩
          · have hb2 : w2.heap[bs j]? = wr.heap[bs j]? := (hc2.block (bs j) (by rw [World.size_setCell]; exact (HR.out.off j hj).2) (HR.out.apart j i hj hlt e)).trans (Below.heap_setCell wr _ _ _ (HR.out.off j hj).1)
            rw [World.cell?_setCell_other _ _ _ _ (by intro e; have := congrArg Addr.off e; simp at this; omega), World.cell?_setCell_other _ _ _ _ (by intro e; have := congrArg Addr.off e; simp at this; omega)]
            by_cases e2 : j < i
            · simp only [if_pos e2, if_pos (show j < i + 1 by omega)] at d1 d3 ⊢
              exact ⟨d1, d2, d3.keep hb2⟩
            · simp only [if_neg e2, if_neg (show ¬ j < i + 1 by omega)] at d1 d3 ⊢
              exact ⟨d1, d2, d3.keep hb2⟩
        · rw [World.frozen?_of_block (a := ⟨G, j, none⟩) hG2, World.frozen?_setCell]
          exact HR.out.free j hj
      have CF : Hid (Chg (fun b => b = G ∨ ∃ j, j < n ∧ b = bs j) w w2) := (HCh.out.trans (Chg.set (D := fun b => b = G) wr ⟨G, i * 2, none⟩ (.int .i64 q) rfl) (fun b _ e => .inl e)).trans HC2.out (fun b _ e => .inr ⟨i, hlt, e⟩)
      clear hW2 hc2 hG2
      go_wp2_with fail
      exact ⟨⟨i + 1, by omega, by go_num, by rw [← hz.out], FIN.out, CF.out⟩, by simp [intOf]; omega⟩
    · have ei : i = n := by omega
      subst ei
      go_wp2_with fail
      go_ret
      refine ⟨rfl, ⟨fun j hj => ?_, HR.out.free, HR.out.apart, HR.out.off⟩, HCh.out⟩
      have := HR.out.row j hj
      simpa only [if_pos hj] using this
set_option maxHeartbeats 4000000 in
theorem heldOwnO (G n c : Nat) (k : Int) (len bs : Nat → Nat) (w : World) (h : GrF w G n len bs (kAt k len) (fun j => mV (kAt k len j + 1))) (hn : n ≤ 1048576) (hl : ∀ j, j < n → len j ≤ 1048576) (k0 : 0 ≤ k) (k1 : k ≤ 1000000) :
    Calls Tryz.prog 23 #[.slice (some ⟨G, 0, none⟩) n c, .int .i64 k] w fun e w' => e = .returned (.int .i64 (kAt k len n)) ∧ w = w' := by
  have HC : Hid (GrF w G n len bs (kAt k len) (fun j => mV (kAt k len j + 1))) := h
  have HB : Hid (∀ i, i ≤ n → k ≤ kAt k len i ∧ kAt k len i ≤ k + 2097153 * (i : Int)) := kAt_bound hl
  have HL : Hid (∀ j, j < n → len j ≤ 1048576) := hl
  clear h hl
  go_enter Tryz.func23, Tryz.ntmps23
  go_wp2_with fail
  go_loop [1, 5] (fun s t => ∃ i : Nat, i ≤ n ∧ t = .int .i64 i ∧ s = .int .i64 (kAt k len i)) (fun _ t => n - (intOf t).toNat)
  case atStart => exact ⟨0, Nat.zero_le _, rfl, rfl⟩
  case round =>
    obtain ⟨i, hi, rfl, rfl⟩ := hrel
    have hki := HB.out i hi
    by_cases hlt : i < n
    · have hli := HL.out i hlt
      obtain ⟨c1, c2, hW⟩ := HC.out.row i hlt
      have HW : Hid (WrF w (bs i) (len i) (mV (kAt k len i + 1))) := hW
      have hz : Hid (kAt k len i + 1 + 2 * (len i : Int) = kAt k len (i + 1)) := rfl
      clear hW
      generalize kAt k len i = q at *
      have e1 : (q != q) = false := by simp
      go_wp2_with fail
      refine (heldOwnV _ _ _ _ _ HW.out hli (by omega) (by omega)).mono ?_
      rintro e w2 ⟨rfl, rfl⟩
      have e2 : ¬ (q + 1 + 2 * (len i : Int) < 0) := by omega
      go_wp2_with fail
      exact ⟨⟨i + 1, by omega, by go_num, by rw [← hz.out]⟩, by simp [intOf]; omega⟩
    · have ei : i = n := by omega
      subst ei
      go_wp2_with fail
      go_ret
      exact ⟨rfl, rfl⟩

end Go.Proofs.YtjbmcdekhhbiaaaGreat
