/-
  The program's reading of one thing: what it says; it writes nothing that was there.
-/
import Derived.Test.YtjbmcdekhhbiaaaGreatMemIa
namespace Go.Proofs.YtjbmcdekhhbiaaaGreat
open Go.ChangeShapes Go.WideShapes Go.ChangeAt Go.RowKit
set_option linter.unusedVariables false

/-- A thing is given back, or none. -/
def ThO (w : World) (r : Option (Int × List Int)) (e : Ending) (w' : World) : Prop :=
  (r = none → ∃ a c t l p, e = .returned (.tuple #[.agg #[.int .i64 a, .int .i64 c, .slice t l p], .bool false])) ∧
  (∀ c ty, r = some (c, ty) → ∃ t p, e = .returned (.tuple #[.agg #[.int .i64 0, .int .i64 c, .slice t ty.length p], .bool true]) ∧ w'.ownsRow w.heap.size 3 1 (.slice t ty.length p) ty.length (ty.map (Value.int .i64))) ∧ Below w.heap.size w w'
theorem isT_arr {L : List Cl} {c n : Int} (h : c = -1 ∨ c = -2) : isT L c n = inI n 0 6 := if_pos h
theorem isT_cls {L : List Cl} {c n : Int} (h : ¬ (c = -1 ∨ c = -2)) : isT L c n = inI c 0 ((L.length : Int) - 1) := if_neg h
theorem has_in (c : Int) (len : Nat) : (decide (0 ≤ c) && decide (c < len)) = inI c 0 ((len : Int) - 1) := by
  unfold inI
  congr 1
  rw [decide_eq_decide]
  omega

set_option maxRecDepth 100000 in
set_option maxHeartbeats 4000000 in
theorem thingOfImpl (ca : Option Addr) (cn cc : Nat) (x n : Int) (L : List Cl) (w : World) {D E : Nat → Prop} (h : ClsAt D E w ca cn L) (ok : clsOk L = true) :
    Calls Tryz.prog 35 #[.slice ca cn cc, .int .i64 x, .int .i64 n] w (ThO w (if isT L x n = true then some (x, typ L x n) else none)) := by
  have H : Hid (ClsAt D E w ca cn L) := h
  have OK : Hid (clsOk L = true) := ok
  have hcr := h.room
  have CN : Hid (L.length = cn) := h.size
  obtain ⟨r, hr⟩ : ∃ r, (if isT L x n = true then some (x, typ L x n) else none) = r := ⟨_, rfl⟩
  have HR : Hid ((if isT L x n = true then some (x, typ L x n) else none) = r) := hr
  rw [hr]
  clear h ok hr
  by_cases ha : x = -1 ∨ x = -2
  · have hb : ((x == -1) || (x == -2)) = true := by rcases ha with rfl | rfl <;> rfl
    have HE : Hid (isT L x n = inI n 0 6) := isT_arr ha
    cases hq : inI n 0 6
    · have HT : Hid (isT L x n = false) := HE.out.trans hq
      have RV : Hid (r = none) := by show _ = _; rw [← HR.out, if_neg (by rw [HT.out]; simp)]
      have hz : w.heap.size + 1 ≤ (w.alloc (.cells #[.int .i64 0, .int .i64 0, .slice none 0 0] 69)).heap.size := by simp
      have B : Hid (∀ y, Below (w.heap.size + 1) (w.alloc (.cells #[.int .i64 0, .int .i64 0, .slice none 0 0] 69)) y → Below w.heap.size w y) := fun y hy => (bR.alloc (by first | exact Nat.le_refl _ | (simp; done) | (simp; omega)) _).trans (hy.mono (by omega))
      have XZ : Hid (∀ y, Below (w.heap.size + 1) (w.alloc (.cells #[.int .i64 0, .int .i64 0, .slice none 0 0] 69)) y → y.heap[w.heap.size]? = some (.cells #[.int .i64 0, .int .i64 0, .slice none 0 0] 69 (0, 0))) := fun y hy => (hy.block _ (by omega)).trans (boxN _ _ _ _ (by simp))
      have lZ : w.heap.size < w.heap.size + 1 := by omega
      go_enter Tryz.func35, Tryz.ntmps35
      go_wp2_with fail
      obtain ⟨kZ0, kZ1, kZ2⟩ := bk3 (XZ.out (w.alloc (.cells #[.int .i64 0, .int .i64 0, .slice none 0 0] 69)) bR)
      obtain ⟨qkZ0, qkZ1, qkZ2⟩ := bq3 (XZ.out (w.alloc (.cells #[.int .i64 0, .int .i64 0, .slice none 0 0] 69)) bR)
      refine (isArrayImpl x _).mono ?_
      rintro e w1 ⟨rfl, rfl⟩
      rw [hb]
      go_wp2_with fail
      refine (isAmongImpl n 0 6 _).mono ?_
      rintro e w1 ⟨rfl, rfl⟩
      rw [hq]
      go_wp2_with fail
      refine bodyPost_ret (v := .tuple #[.agg #[.int .i64 0, .int .i64 0, .slice none 0 0], .bool false]) ?_ rfl ?_
      · simp [results, Tryz.results35, go_sem, *]
      · exact ⟨fun _ => ⟨_, _, _, _, _, rfl⟩, (fun c ty e => by rw [RV.out] at e; cases e), by (repeat (refine Below.setCell ?_ (by first | omega | (simp <;> omega)) _)); exact B.out _ (Below.refl _ _)⟩
    · have HT : Hid (isT L x n = true) := HE.out.trans hq
      have RV : Hid (r = some (x, typ L x n)) := by show _ = _; rw [← HR.out, if_pos HT.out]
      have hz : w.heap.size + 1 ≤ (w.alloc (.cells #[.int .i64 0, .int .i64 0, .slice none 0 0] 69)).heap.size := by simp
      have B : Hid (∀ y, Below (w.heap.size + 1) (w.alloc (.cells #[.int .i64 0, .int .i64 0, .slice none 0 0] 69)) y → Below w.heap.size w y) := fun y hy => (bR.alloc (by first | exact Nat.le_refl _ | (simp; done) | (simp; omega)) _).trans (hy.mono (by omega))
      have XZ : Hid (∀ y, Below (w.heap.size + 1) (w.alloc (.cells #[.int .i64 0, .int .i64 0, .slice none 0 0] 69)) y → y.heap[w.heap.size]? = some (.cells #[.int .i64 0, .int .i64 0, .slice none 0 0] 69 (0, 0))) := fun y hy => (hy.block _ (by omega)).trans (boxN _ _ _ _ (by simp))
      have lZ : w.heap.size < w.heap.size + 1 := by omega
      go_enter Tryz.func35, Tryz.ntmps35
      go_wp2_with fail
      obtain ⟨kZ0, kZ1, kZ2⟩ := bk3 (XZ.out (w.alloc (.cells #[.int .i64 0, .int .i64 0, .slice none 0 0] 69)) bR)
      obtain ⟨qkZ0, qkZ1, qkZ2⟩ := bq3 (XZ.out (w.alloc (.cells #[.int .i64 0, .int .i64 0, .slice none 0 0] 69)) bR)
      refine (isArrayImpl x _).mono ?_
      rintro e w1 ⟨rfl, rfl⟩
      rw [hb]
      go_wp2_with fail
      refine (isAmongImpl n 0 6 _).mono ?_
      rintro e w1 ⟨rfl, rfl⟩
      rw [hq]
      go_wp2_with fail
      refine (isArrayImpl x _).mono ?_
      rintro e w1 ⟨rfl, rfl⟩
      rw [hb]
      go_wp2_with fail
      clear kZ0 kZ1 kZ2 qkZ0 qkZ1 qkZ2
      have BP : Hid (Below (w.heap.size + 1) (w.alloc (.cells #[.int .i64 0, .int .i64 0, .slice none 0 0] 69)) (w.alloc (.cells #[.int .i64 0, .int .i64 0, .slice none 0 0] 69))) := bR
      refine (typesInImpl _ _ _ x n L _ (H.out.later (B.out _ BP.out)) OK.out HT.out).mono ?_
      rintro e w2 ⟨v, rfl, hn⟩
      have hb2 := hn.2
      obtain ⟨ta, tc, rfl⟩ := own_sl hn.1
      have OW : Hid (w2.ownsRow (w.heap.size + 1) 3 1 (.slice ta (typ L x n).length tc) (typ L x n).length ((typ L x n).map (Value.int .i64))) := own_low hn.1 (by simp)
      have hq : Below (w.heap.size + 1) (w.alloc (.cells #[.int .i64 0, .int .i64 0, .slice none 0 0] 69)) w2 := BP.out.trans (Below.mono hb2 (Nat.le_trans hz BP.out.size))
      have hzn : w.heap.size + 1 ≤ w2.heap.size := Nat.le_trans hz hq.size
      replace B := lF B hq hzn
      replace XZ := lF XZ hq hzn
      replace lZ := Nat.lt_of_lt_of_le lZ hzn
      clear hq BP hz
      have hz : w2.heap.size ≤ w2.heap.size := Nat.le_refl _
      clear hn hb2
      obtain ⟨kZ0, kZ1, kZ2⟩ := bk3 (XZ.out w2 bR)
      obtain ⟨qkZ0, qkZ1, qkZ2⟩ := bq3 (XZ.out w2 bR)
      go_wp2_with fail
      refine bodyPost_ret (v := .tuple #[.agg #[.int .i64 0, .int .i64 x, .slice ta (typ L x n).length tc], .bool true]) ?_ rfl ?_
      · simp [results, Tryz.results35, go_sem, *]
      · refine ⟨(fun e => by rw [RV.out] at e; cases e), (fun c ty e => ?_), by (repeat (refine Below.setCell ?_ (by first | omega | (simp <;> omega)) _)); exact B.out _ (Below.refl _ _)⟩
        rw [RV.out] at e
        cases e
        refine ⟨ta, tc, rfl, ?_⟩
        refine own_low (base := w.heap.size + 1) ?_ (by omega)
        (repeat (refine own_set ?_ _ _ (by first | (simp; done) | (simp; omega))))
        exact OW.out
  · have hb : ((x == -1) || (x == -2)) = false := by simp; omega
    have HE : Hid (isT L x n = (decide (0 ≤ x) && decide (x < cn))) := by show _ = _; rw [isT_cls ha, CN.out, has_in]
    cases hq : (decide (0 ≤ x) && decide (x < (cn : Int)))
    · have HT : Hid (isT L x n = false) := HE.out.trans hq
      have RV : Hid (r = none) := by show _ = _; rw [← HR.out, if_neg (by rw [HT.out]; simp)]
      have hz : w.heap.size + 1 ≤ (w.alloc (.cells #[.int .i64 0, .int .i64 0, .slice none 0 0] 69)).heap.size := by simp
      have B : Hid (∀ y, Below (w.heap.size + 1) (w.alloc (.cells #[.int .i64 0, .int .i64 0, .slice none 0 0] 69)) y → Below w.heap.size w y) := fun y hy => (bR.alloc (by first | exact Nat.le_refl _ | (simp; done) | (simp; omega)) _).trans (hy.mono (by omega))
      have XZ : Hid (∀ y, Below (w.heap.size + 1) (w.alloc (.cells #[.int .i64 0, .int .i64 0, .slice none 0 0] 69)) y → y.heap[w.heap.size]? = some (.cells #[.int .i64 0, .int .i64 0, .slice none 0 0] 69 (0, 0))) := fun y hy => (hy.block _ (by omega)).trans (boxN _ _ _ _ (by simp))
      have lZ : w.heap.size < w.heap.size + 1 := by omega
      go_enter Tryz.func35, Tryz.ntmps35
      go_wp2_with fail
      obtain ⟨kZ0, kZ1, kZ2⟩ := bk3 (XZ.out (w.alloc (.cells #[.int .i64 0, .int .i64 0, .slice none 0 0] 69)) bR)
      obtain ⟨qkZ0, qkZ1, qkZ2⟩ := bq3 (XZ.out (w.alloc (.cells #[.int .i64 0, .int .i64 0, .slice none 0 0] 69)) bR)
      refine (isArrayImpl x _).mono ?_
      rintro e w1 ⟨rfl, rfl⟩
      rw [hb]
      go_wp2_with fail
      refine (isArrayImpl x _).mono ?_
      rintro e w1 ⟨rfl, rfl⟩
      rw [hb]
      go_wp2_with fail
      refine (hasImpl _ _ _ x _ hcr).mono ?_
      rintro e w1 ⟨rfl, rfl⟩
      rw [hq]
      go_wp2_with fail
      refine bodyPost_ret (v := .tuple #[.agg #[.int .i64 0, .int .i64 0, .slice none 0 0], .bool false]) ?_ rfl ?_
      · simp [results, Tryz.results35, go_sem, *]
      · exact ⟨fun _ => ⟨_, _, _, _, _, rfl⟩, (fun c ty e => by rw [RV.out] at e; cases e), by (repeat (refine Below.setCell ?_ (by first | omega | (simp <;> omega)) _)); exact B.out _ (Below.refl _ _)⟩
    · have HT : Hid (isT L x n = true) := HE.out.trans hq
      have RV : Hid (r = some (x, typ L x n)) := by show _ = _; rw [← HR.out, if_pos HT.out]
      have hz : w.heap.size + 1 ≤ (w.alloc (.cells #[.int .i64 0, .int .i64 0, .slice none 0 0] 69)).heap.size := by simp
      have B : Hid (∀ y, Below (w.heap.size + 1) (w.alloc (.cells #[.int .i64 0, .int .i64 0, .slice none 0 0] 69)) y → Below w.heap.size w y) := fun y hy => (bR.alloc (by first | exact Nat.le_refl _ | (simp; done) | (simp; omega)) _).trans (hy.mono (by omega))
      have XZ : Hid (∀ y, Below (w.heap.size + 1) (w.alloc (.cells #[.int .i64 0, .int .i64 0, .slice none 0 0] 69)) y → y.heap[w.heap.size]? = some (.cells #[.int .i64 0, .int .i64 0, .slice none 0 0] 69 (0, 0))) := fun y hy => (hy.block _ (by omega)).trans (boxN _ _ _ _ (by simp))
      have lZ : w.heap.size < w.heap.size + 1 := by omega
      go_enter Tryz.func35, Tryz.ntmps35
      go_wp2_with fail
      obtain ⟨kZ0, kZ1, kZ2⟩ := bk3 (XZ.out (w.alloc (.cells #[.int .i64 0, .int .i64 0, .slice none 0 0] 69)) bR)
      obtain ⟨qkZ0, qkZ1, qkZ2⟩ := bq3 (XZ.out (w.alloc (.cells #[.int .i64 0, .int .i64 0, .slice none 0 0] 69)) bR)
      refine (isArrayImpl x _).mono ?_
      rintro e w1 ⟨rfl, rfl⟩
      rw [hb]
      go_wp2_with fail
      refine (isArrayImpl x _).mono ?_
      rintro e w1 ⟨rfl, rfl⟩
      rw [hb]
      go_wp2_with fail
      refine (hasImpl _ _ _ x _ hcr).mono ?_
      rintro e w1 ⟨rfl, rfl⟩
      rw [hq]
      go_wp2_with fail
      clear kZ0 kZ1 kZ2 qkZ0 qkZ1 qkZ2
      have BP : Hid (Below (w.heap.size + 1) (w.alloc (.cells #[.int .i64 0, .int .i64 0, .slice none 0 0] 69)) (w.alloc (.cells #[.int .i64 0, .int .i64 0, .slice none 0 0] 69))) := bR
      refine (typesInImpl _ _ _ x n L _ (H.out.later (B.out _ BP.out)) OK.out HT.out).mono ?_
      rintro e w2 ⟨v, rfl, hn⟩
      have hb2 := hn.2
      obtain ⟨ta, tc, rfl⟩ := own_sl hn.1
      have OW : Hid (w2.ownsRow (w.heap.size + 1) 3 1 (.slice ta (typ L x n).length tc) (typ L x n).length ((typ L x n).map (Value.int .i64))) := own_low hn.1 (by simp)
      have hq : Below (w.heap.size + 1) (w.alloc (.cells #[.int .i64 0, .int .i64 0, .slice none 0 0] 69)) w2 := BP.out.trans (Below.mono hb2 (Nat.le_trans hz BP.out.size))
      have hzn : w.heap.size + 1 ≤ w2.heap.size := Nat.le_trans hz hq.size
      replace B := lF B hq hzn
      replace XZ := lF XZ hq hzn
      replace lZ := Nat.lt_of_lt_of_le lZ hzn
      clear hq BP hz
      have hz : w2.heap.size ≤ w2.heap.size := Nat.le_refl _
      clear hn hb2
      obtain ⟨kZ0, kZ1, kZ2⟩ := bk3 (XZ.out w2 bR)
      obtain ⟨qkZ0, qkZ1, qkZ2⟩ := bq3 (XZ.out w2 bR)
      go_wp2_with fail
      refine bodyPost_ret (v := .tuple #[.agg #[.int .i64 0, .int .i64 x, .slice ta (typ L x n).length tc], .bool true]) ?_ rfl ?_
      · simp [results, Tryz.results35, go_sem, *]
      · refine ⟨(fun e => by rw [RV.out] at e; cases e), (fun c ty e => ?_), by (repeat (refine Below.setCell ?_ (by first | omega | (simp <;> omega)) _)); exact B.out _ (Below.refl _ _)⟩
        rw [RV.out] at e
        cases e
        refine ⟨ta, tc, rfl, ?_⟩
        refine own_low (base := w.heap.size + 1) ?_ (by omega)
        (repeat (refine own_set ?_ _ _ (by first | (simp; done) | (simp; omega))))
        exact OW.out

end Go.Proofs.YtjbmcdekhhbiaaaGreat
