/-
  What is made in a memory, as lists.
-/
import Derived.Test.YtjbmcdekhhbiaaaGreatPutA
namespace Go.Proofs.YtjbmcdekhhbiaaaGreat
open Go.ChangeShapes Go.WideShapes Go.ChangeAt Go.RowKit
set_option linter.unusedVariables false

theorem Wri.pt {w : World} {n : Nat} {a : Option Addr} {f : Nat → Int} (h : Wri w a n f) (hn : 0 < n) : ∃ g o, a = some ⟨g, o, none⟩ := by
  rcases h.cells with h0 | ⟨g, o, e, _⟩
  · omega
  · exact ⟨g, o, e⟩
theorem WriB.pt {w : World} {n : Nat} {a : Option Addr} {f : Nat → Bool} (h : WriB w a n f) (hn : 0 < n) : ∃ g o, a = some ⟨g, o, none⟩ := by
  rcases h.cells with h0 | ⟨g, o, e, _⟩
  · omega
  · exact ⟨g, o, e⟩
theorem Wri.cell {w : World} {n g o i : Nat} {f : Nat → Int} (h : Wri w (some ⟨g, o, none⟩) n f) (hi : i < n) : w.cell? ⟨g, o + i, none⟩ = some (.int .i64 (f i)) ∧ w.frozen? ⟨g, o + i, none⟩ = false := by
  rcases h.cells with h0 | ⟨g2, o2, e, hc⟩
  · omega
  · obtain ⟨rfl, rfl⟩ : g = g2 ∧ o = o2 := by simpa using e
    exact hc i hi
/-- The words behind it. -/
def mkW (ws : List Int) (i : Nat) (c n : Int) : List Int := if c < 0 then (ws.set i c).set (i + 1) n else ws.set i c
theorem mkW_len (ws : List Int) (i : Nat) (c n : Int) : (mkW ws i c n).length = ws.length := by unfold mkW; split <;> simp
/-- The memory behind it, and where the thing is; 0, where there is no room. -/
def tryM (m : Mm) (c n : Int) (s : Nat) (old : Bool) : Mm × Int :=
  if old = true then (if m.2.2.2.1 + s ≤ m.1.length then ((mkW m.1 m.2.2.2.1.toNat c n, m.2.1, m.2.2.1, m.2.2.2.1 + s, m.2.2.2.2), m.2.2.2.1 + 1) else (m, 0))
  else (if m.2.2.1 + s ≤ m.2.1 then ((mkW m.1 m.2.2.1.toNat c n, m.2.1, m.2.2.1 + s, m.2.2.2.1, m.2.2.2.2), m.2.2.1 + 1) else (m, 0))
def makR (L : List Cl) (m : Mm) (c n : Int) (old : Bool) : Mm × Int := if memB L m = true ∧ isT L c n = true then tryM m c n (wnt L c n) old else (zM, 0)
theorem makR_no {L : List Cl} {m : Mm} {c n : Int} {old : Bool} (h : memB L m = false) : makR L m c n old = (zM, 0) := if_neg (by rw [h]; simp)
theorem makR_not {L : List Cl} {m : Mm} {c n : Int} {old : Bool} (h : isT L c n = false) : makR L m c n old = (zM, 0) := if_neg (by rw [h]; simp)
theorem makR_yes {L : List Cl} {m : Mm} {c n : Int} {old : Bool} (h : memB L m = true) (h2 : isT L c n = true) : makR L m c n old = tryM m c n (wnt L c n) old := if_pos ⟨h, h2⟩
theorem wnt_no {L : List Cl} {c n : Int} (h : isT L c n = false) : wnt L c n = 0 := by unfold wnt; rw [h]; rfl
theorem wnt_yes {L : List Cl} {c n : Int} (h : isT L c n = true) : wnt L c n = hdN c + (typ L c n).length := by unfold wnt; rw [h]; rfl
theorem isT_arr' {L : List Cl} {c n : Int} (h : c = -1 ∨ c = -2) : isT L c n = inI n 0 6 := if_pos h
theorem isT_cls' {L : List Cl} {c n : Int} (h : ¬ (c = -1 ∨ c = -2)) : isT L c n = inI c 0 ((L.length : Int) - 1) := if_neg h
theorem typ_cls' (L : List Cl) (k : Nat) (n : Int) : typ L (k : Int) n = fld L k := by
  unfold Proofs.YtjbmcdekhhbiaaaGreat.typ
  rw [if_neg (by omega), if_neg (by omega), Int.toNat_natCast]
theorem typ_arr' {L : List Cl} {c n : Int} (h : c = -1 ∨ c = -2) : (typ L c n).length = n.toNat := by
  unfold Proofs.YtjbmcdekhhbiaaaGreat.typ
  rcases h with rfl | rfl <;> simp
theorem hdN_cls (k : Nat) : hdN (k : Int) = 1 := if_neg (by omega)
theorem hdN_arr {c : Int} (h : c = -1 ∨ c = -2) : hdN c = 2 := if_pos h
theorem wnt_few {L : List Cl} (ok : clsOk L = true) {c n : Int} : wnt L c n ≤ 12 := by
  cases h : isT L c n
  · rw [wnt_no h]; omega
  · rw [wnt_yes h]
    have h2 := ok_len ok
    by_cases ha : c = -1 ∨ c = -2
    · rw [typ_arr' ha, hdN_arr ha]
      rw [isT_arr' ha] at h
      have := inI_iff.1 h
      omega
    · rw [isT_cls' ha] at h
      have := inI_iff.1 h
      obtain ⟨k, rfl⟩ : ∃ k : Nat, c = k := ⟨c.toNat, by omega⟩
      rw [typ_cls', hdN_cls]
      have := fld_short ok k (by omega)
      omega
theorem tryM_len (m : Mm) (c n : Int) (s : Nat) (old : Bool) : (tryM m c n s old).1.1.length = m.1.length := by
  unfold tryM
  cases old
  · rw [if_neg (by simp)]; split
    · exact mkW_len _ _ _ _
    · rfl
  · rw [if_pos rfl]; split
    · exact mkW_len _ _ _ _
    · rfl
theorem tryM_cd (m : Mm) (c n : Int) (s : Nat) (old : Bool) : (tryM m c n s old).1.2.2.2.2 = m.2.2.2.2 := by
  unfold tryM
  cases old
  · rw [if_neg (by simp)]; split <;> rfl
  · rw [if_pos rfl]; split <;> rfl
theorem chgb {D : Nat → Prop} {w c y : World} {b : Nat} (h : Chg D w c) (hy : Below b c y) (hb : w.heap.size ≤ b) : Chg D w y :=
  ⟨hy.os.trans h.os, hy.tape.trans h.tape, hy.output.trans h.output, Nat.le_trans h.size hy.size, fun i hi hd => (hy.block i (Nat.lt_of_lt_of_le hi hb)).trans (h.block i hi hd)⟩
theorem chgt {D : Nat → Prop} {w c y : World} (h : Chg D w c) (hy : Chg D c y) : Chg D w y := h.trans hy (fun _ _ h => h)
/-- A box of one's own behind a call that writes other blocks. -/
theorem lC {b0 a : Nat} {c n : World} {D : Nat → Prop} {o : Option Obj} (X : Hid (∀ y, Below b0 c y → y.heap[a]? = o)) (l : a < c.heap.size) (hc : Chg D c n) (hd : ¬ D a) : Hid (∀ y, Below n.heap.size n y → y.heap[a]? = o) := fun y hy => (hy.block a (Nat.lt_of_lt_of_le l hc.size)).trans ((hc.block a l hd).trans (X.out c bR))

end Go.Proofs.YtjbmcdekhhbiaaaGreat
