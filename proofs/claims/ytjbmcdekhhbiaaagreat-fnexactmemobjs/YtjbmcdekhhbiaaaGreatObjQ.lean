/-
  The things of a memory as they are led to by their numbers, as lists.
  The things of a memory as they are led to by their numbers, by the program: what it says; it writes nothing that was there.
  The things of a memory as they are led to by their numbers, MemObjs of the program: what it says; it writes nothing that was there.
  The numbers of the things of a memory: the specification says so; it writes nothing that was there.
  A thing as it is seen: the specification says so; it writes nothing that was there.
  The cells of things, of which the lists lie in memory of their own.
  The things of a memory as they are seen: the specification says so; it writes nothing that was there.
  MemObjs of the specification: what it says; it writes nothing that was there.
  Things in memory of one's own, or none: what marking does.
-/
import Derived.Test.YtjbmcdekhhbiaaaGreatMemIg
import Derived.Test.YtjbmcdekhhbiaaaGreatDtObj
import Derived.Test.YtjbmcdekhhbiaaaGreatRowO
import Derived.Deep.Cut
import Derived.Test.YtjbmcdekhhbiaaaGreatMemIj
import Derived.Test.YtjbmcdekhhbiaaaGreatMemSc
import Derived.Test.YtjbmcdekhhbiaaaGreatMemSd
import Derived.Test.YtjbmcdekhhbiaaaGreatFlatV
import Derived.Test.YtjbmcdekhhbiaaaGreatMemSg
import Derived.Test.YtjbmcdekhhbiaaaGreatMrkO
namespace Go.Proofs.YtjbmcdekhhbiaaaGreat
open Go.ChangeShapes Go.WideShapes Go.ChangeAt Go.RowKit
set_option linter.unusedVariables false

/-- The number of the thing at a place, from 1 on; 0, if none is there. -/
def numV (T : List Th) (v : Int) : Nat := if isAt T v = true then T.findIdx (fun t => t.1 == v) + 1 else 0
/-- What is seen of a value where a type is told. -/
def seeV (T : List Th) (ty v : Int) : Vl := if ty = 0 then (false, 0) else if ty = 1 then (false, v) else (true, (numV T v : Int))
theorem numV_at {T : List Th} (hi : Inc T) {j : Nat} {t : Th} (hj : T[j]? = some t) : numV T t.1 = j + 1 := by
  have ha : isAt T t.1 = true := isAt_iff.2 ⟨t, List.mem_of_getElem? hj, rfl⟩
  unfold numV
  rw [if_pos ha]
  have hlt := (List.getElem?_eq_some_iff.1 hj).1
  have e : T.findIdx (fun s => s.1 == t.1) = j := by
    rw [List.findIdx_eq hlt]
    refine ⟨by rw [(List.getElem?_eq_some_iff.1 hj).2]; simp, fun i hij => ?_⟩
    have := hi i j _ _ (List.getElem?_eq_getElem (by omega)) hj hij
    simp; omega
  rw [e]
theorem NumP.eq {T : List Th} (hi : Inc T) {v : Int} {n : Nat} (h : NumP T v n) : n = numV T v := by
  rcases h with ⟨h, rfl⟩ | ⟨h, j, t, rfl, hj, rfl⟩
  · unfold numV; rw [if_neg (by rw [h]; simp)]
  · exact (numV_at hi hj).symm
theorem numV_le (T : List Th) (v : Int) : numV T v ≤ T.length + 1 := by
  unfold numV
  split
  · have := List.findIdx_le_length (p := fun t : Th => t.1 == v) (xs := T); omega
  · omega
theorem seeV_fits {T : List Th} {ty v : Int} (hv : i64B v) (hl : T.length ≤ 100000) : i64B (seeV T ty v).2 := by
  have := numV_le T v
  unfold seeV
  split
  · exact ⟨by decide, by decide⟩
  · split
    · exact hv
    · exact ⟨by show (-9223372036854775808 : Int) ≤ (numV T v : Int); omega, by show (numV T v : Int) ≤ 9223372036854775807; omega⟩
/-- A thing as it is seen; all. -/
def objT (ws : List Int) (T : List Th) (t : Th) : Ob := (t.2.1, (List.range t.2.2.length).map fun k => seeV T (t.2.2.getD k 0) (ws.getD (plc t k) 0))
def objsT (ws : List Int) (T : List Th) : List Ob := T.map (objT ws T)
theorem WrV.later {w y : World} {g B : Nat} {xs : List Vl} (h : WrV w g xs) (hy : Below B w y) (hg : g < B) : WrV y g xs := h.keep (hy.block g hg)
theorem WrV.made (w : World) (n : Nat) (t : TypeId) (g : Nat) (hg : w.heap.size = g) : WrV (w.alloc (.cells (madeCells #[.bool false, .int .i64 0] (n * 2)) t)) g (List.replicate n (false, 0)) := by
  subst hg
  have hr := RowAt.made w #[.bool false, .int .i64 0] (n * 2) t
  refine ⟨fun j x hx => ?_, fun j hj => (hr j (by rw [List.length_replicate] at hj; exact hj)).2⟩
  have hj : j < n := by have := (List.getElem?_eq_some_iff.1 hx).1; rwa [List.length_replicate] at this
  have he := (List.getElem?_eq_some_iff.1 hx).2
  rw [List.getElem_replicate] at he
  subst he
  have h0 := (hr (j * 2) (by omega)).1
  have h1 := (hr (j * 2 + 1) (by omega)).1
  rw [h0, h1]
  refine ⟨?_, ?_, ⟨by decide, by decide⟩⟩
  · have e : j * 2 % (#[Value.bool false, .int .i64 0] : Array Value).size = 0 := by show j * 2 % 2 = 0; omega
    simp only [e]; rfl
  · have e : (j * 2 + 1) % (#[Value.bool false, .int .i64 0] : Array Value).size = 1 := by show (j * 2 + 1) % 2 = 1; omega
    simp only [e]; rfl
theorem WrV.put {w : World} {g k : Nat} {xs : List Vl} (h : WrV w g xs) (hk : k < xs.length) (b : Bool) (v : Int) (hv : i64B v) : WrV ((w.setCell ⟨g, k * 2, none⟩ (.bool b)).setCell ⟨g, k * 2 + 1, none⟩ (.int .i64 v)) g (xs.set k (b, v)) := by
  have ne : ∀ {i j : Nat}, i ≠ j → (⟨g, i, none⟩ : Addr) ≠ ⟨g, j, none⟩ := fun hij e => hij (by injection e)
  refine ⟨fun j x hx => ?_, fun j hj => ?_⟩
  · rw [List.getElem?_set] at hx
    by_cases e : k = j
    · subst e
      rw [if_pos rfl, if_pos hk] at hx
      obtain rfl := Option.some.inj hx
      obtain ⟨h1, h2, _⟩ := h.at' k _ (List.getElem?_eq_getElem hk)
      refine ⟨?_, ?_, hv⟩
      · rw [World.cell?_setCell_other _ _ _ _ (ne (by omega))]
        exact World.cell?_setCell_same _ _ _ h1
      · exact World.cell?_setCell_same _ _ _ ((World.cell?_setCell_other _ _ _ _ (ne (by omega))).trans h2)
    · rw [if_neg e] at hx
      obtain ⟨h1, h2, h3⟩ := h.at' j x hx
      refine ⟨?_, ?_, h3⟩
      · rw [World.cell?_setCell_other _ _ _ _ (ne (by omega)), World.cell?_setCell_other _ _ _ _ (ne (by omega))]; exact h1
      · rw [World.cell?_setCell_other _ _ _ _ (ne (by omega)), World.cell?_setCell_other _ _ _ _ (ne (by omega))]; exact h2
  · rw [List.length_set] at hj
    rw [World.frozen?_setCell, World.frozen?_setCell]
    exact h.free j hj

end Go.Proofs.YtjbmcdekhhbiaaaGreat
namespace Go.Proofs.YtjbmcdekhhbiaaaGreat
open Go.ChangeShapes Go.WideShapes Go.ChangeAt Go.RowKit
set_option linter.unusedVariables false

set_option maxRecDepth 100000 in
set_option maxHeartbeats 8000000 in
theorem leadImpl (ca : Option Addr) (cn cc wb wo wl wc yg tp od : Nat) (da : Option Addr) (dl dc pc ol oc ou : Nat) (ta : Option Addr) (tl tc : Nat) (T : List Th) (v : Int) (w : World) {D : Nat → Prop} (h : SlAt thR D w ta tl T) (hi : Inc T) (hl : tl ≤ 1000) (hv : i64B v) : Calls Tryz.prog 134 #[.agg #[.slice ca cn cc, .slice (some ⟨wb, wo, none⟩) wl wc, .int .i64 (yg : Nat), .int .i64 (tp : Nat), .int .i64 (od : Nat), .slice da dl dc, .slice (some ⟨wb, wo, none⟩) yg pc, .int .i64 0, .int .i64 (tp : Nat), .slice (some ⟨wb, wo + yg, none⟩) ol oc, .int .i64 (yg : Nat), .int .i64 (ou : Nat), .slice ta tl tc], .int .i64 v] w fun e w' => e = .returned (.agg #[.bool true, .int .i64 (numV T v : Nat)]) ∧ Below w.heap.size w w' := by
  have H : Hid (SlAt thR D w ta tl T) := h
  have IN : Hid (Inc T) := hi
  clear h hi
  have hz : w.heap.size + 1 + 1 ≤ ((w.alloc (.cells #[.slice ca cn cc, .slice (some ⟨wb, wo, none⟩) wl wc, .int .i64 (yg : Nat), .int .i64 (tp : Nat), .int .i64 (od : Nat), .slice da dl dc, .slice (some ⟨wb, wo, none⟩) yg pc, .int .i64 0, .int .i64 (tp : Nat), .slice (some ⟨wb, wo + yg, none⟩) ol oc, .int .i64 (yg : Nat), .int .i64 (ou : Nat), .slice ta tl tc] 65)).alloc (.cells #[.bool false, .int .i64 0] 121)).heap.size := by simp
  have B : Hid (∀ y, Below (w.heap.size + 1 + 1) ((w.alloc (.cells #[.slice ca cn cc, .slice (some ⟨wb, wo, none⟩) wl wc, .int .i64 (yg : Nat), .int .i64 (tp : Nat), .int .i64 (od : Nat), .slice da dl dc, .slice (some ⟨wb, wo, none⟩) yg pc, .int .i64 0, .int .i64 (tp : Nat), .slice (some ⟨wb, wo + yg, none⟩) ol oc, .int .i64 (yg : Nat), .int .i64 (ou : Nat), .slice ta tl tc] 65)).alloc (.cells #[.bool false, .int .i64 0] 121)) y → Below w.heap.size w y) := fun y hy => ((bR.alloc (by first | exact Nat.le_refl _ | (simp; done) | (simp; omega)) _).alloc (by first | exact Nat.le_refl _ | (simp; done) | (simp; omega)) _).trans (hy.mono (by omega))
  have XM : Hid (∀ y, Below (w.heap.size + 1 + 1) ((w.alloc (.cells #[.slice ca cn cc, .slice (some ⟨wb, wo, none⟩) wl wc, .int .i64 (yg : Nat), .int .i64 (tp : Nat), .int .i64 (od : Nat), .slice da dl dc, .slice (some ⟨wb, wo, none⟩) yg pc, .int .i64 0, .int .i64 (tp : Nat), .slice (some ⟨wb, wo + yg, none⟩) ol oc, .int .i64 (yg : Nat), .int .i64 (ou : Nat), .slice ta tl tc] 65)).alloc (.cells #[.bool false, .int .i64 0] 121)) y → y.heap[w.heap.size]? = some (.cells #[.slice ca cn cc, .slice (some ⟨wb, wo, none⟩) wl wc, .int .i64 (yg : Nat), .int .i64 (tp : Nat), .int .i64 (od : Nat), .slice da dl dc, .slice (some ⟨wb, wo, none⟩) yg pc, .int .i64 0, .int .i64 (tp : Nat), .slice (some ⟨wb, wo + yg, none⟩) ol oc, .int .i64 (yg : Nat), .int .i64 (ou : Nat), .slice ta tl tc] 65 (0, 0))) := fun y hy => (hy.block _ (by omega)).trans ((Below.heap_alloc _ _ _ (by first | (simp; done) | (simp; omega))).trans (boxN _ _ _ _ (by simp)))
  have lM : w.heap.size < w.heap.size + 1 + 1 := by omega
  have XR : Hid (∀ y, Below (w.heap.size + 1 + 1) ((w.alloc (.cells #[.slice ca cn cc, .slice (some ⟨wb, wo, none⟩) wl wc, .int .i64 (yg : Nat), .int .i64 (tp : Nat), .int .i64 (od : Nat), .slice da dl dc, .slice (some ⟨wb, wo, none⟩) yg pc, .int .i64 0, .int .i64 (tp : Nat), .slice (some ⟨wb, wo + yg, none⟩) ol oc, .int .i64 (yg : Nat), .int .i64 (ou : Nat), .slice ta tl tc] 65)).alloc (.cells #[.bool false, .int .i64 0] 121)) y → y.heap[w.heap.size + 1]? = some (.cells #[.bool false, .int .i64 0] 121 (0, 0))) := fun y hy => (hy.block _ (by omega)).trans (boxN _ _ _ _ (by simp))
  have lR : w.heap.size + 1 < w.heap.size + 1 + 1 := by omega
  go_enter Tryz.func134, Tryz.ntmps134
  go_wp2_with fail
  have BP : Hid (Below (w.heap.size + 1 + 1) ((w.alloc (.cells #[.slice ca cn cc, .slice (some ⟨wb, wo, none⟩) wl wc, .int .i64 (yg : Nat), .int .i64 (tp : Nat), .int .i64 (od : Nat), .slice da dl dc, .slice (some ⟨wb, wo, none⟩) yg pc, .int .i64 0, .int .i64 (tp : Nat), .slice (some ⟨wb, wo + yg, none⟩) ol oc, .int .i64 (yg : Nat), .int .i64 (ou : Nat), .slice ta tl tc] 65)).alloc (.cells #[.bool false, .int .i64 0] 121)) ((w.alloc (.cells #[.slice ca cn cc, .slice (some ⟨wb, wo, none⟩) wl wc, .int .i64 (yg : Nat), .int .i64 (tp : Nat), .int .i64 (od : Nat), .slice da dl dc, .slice (some ⟨wb, wo, none⟩) yg pc, .int .i64 0, .int .i64 (tp : Nat), .slice (some ⟨wb, wo + yg, none⟩) ol oc, .int .i64 (yg : Nat), .int .i64 (ou : Nat), .slice ta tl tc] 65)).alloc (.cells #[.bool false, .int .i64 0] 121))) := bR
  refine (numberImpl ca cn cc wb wo wl wc yg tp od da dl dc pc ol oc ou ta tl tc T v _ (H.out.later (B.out _ BP.out)) IN.out hl hv).mono ?_
  rintro e w1 ⟨n, rfl, hn, hn2, hb⟩
  obtain rfl := hn.eq IN.out
  clear hn
  have hq : Below (w.heap.size + 1 + 1) ((w.alloc (.cells #[.slice ca cn cc, .slice (some ⟨wb, wo, none⟩) wl wc, .int .i64 (yg : Nat), .int .i64 (tp : Nat), .int .i64 (od : Nat), .slice da dl dc, .slice (some ⟨wb, wo, none⟩) yg pc, .int .i64 0, .int .i64 (tp : Nat), .slice (some ⟨wb, wo + yg, none⟩) ol oc, .int .i64 (yg : Nat), .int .i64 (ou : Nat), .slice ta tl tc] 65)).alloc (.cells #[.bool false, .int .i64 0] 121)) w1 := BP.out.trans (Below.mono hb (Nat.le_trans hz BP.out.size))
  have hzn : w.heap.size + 1 + 1 ≤ w1.heap.size := Nat.le_trans hz hq.size
  replace B := lF B hq hzn
  replace XM := lF XM hq hzn
  replace lM := Nat.lt_of_lt_of_le lM hzn
  replace XR := lF XR hq hzn
  replace lR := Nat.lt_of_lt_of_le lR hzn
  clear hq BP hz
  have hz : w1.heap.size ≤ w1.heap.size := Nat.le_refl _
  clear hb
  obtain ⟨kM0, kM1, kM2, kM3, kM4, kM5, kM6, kM7, kM8, kM9, kM10, kM11, kM12⟩ := bk13 (XM.out w1 bR)
  obtain ⟨kR0, kR1⟩ := bk2 (XR.out w1 bR)
  obtain ⟨qkR0, qkR1⟩ := bq2 (XR.out w1 bR)
  go_wp2_with fail
  refine bodyPost_ret (v := .agg #[.bool true, .int .i64 (numV T v : Nat)]) ?_ rfl ?_
  · simp [results, Tryz.results134, go_sem, *]
  · exact ⟨by rfl, by (repeat (refine Below.setCell ?_ (by first | omega | (simp <;> omega)) _)); exact B.out _ bR⟩

set_option maxRecDepth 100000 in
set_option maxHeartbeats 8000000 in
theorem seenImpl (ca : Option Addr) (cn cc wb wo wl wc yg tp od : Nat) (da : Option Addr) (dl dc pc ol oc ou : Nat) (ta : Option Addr) (tl tc : Nat) (T : List Th) (v ty : Int) (w : World) {D : Nat → Prop} (h : SlAt thR D w ta tl T) (hi : Inc T) (hl : tl ≤ 1000) (hv : i64B v) : Calls Tryz.prog 127 #[.agg #[.slice ca cn cc, .slice (some ⟨wb, wo, none⟩) wl wc, .int .i64 (yg : Nat), .int .i64 (tp : Nat), .int .i64 (od : Nat), .slice da dl dc, .slice (some ⟨wb, wo, none⟩) yg pc, .int .i64 0, .int .i64 (tp : Nat), .slice (some ⟨wb, wo + yg, none⟩) ol oc, .int .i64 (yg : Nat), .int .i64 (ou : Nat), .slice ta tl tc], .int .i64 v, .int .i64 ty] w fun e w' => e = .returned (.agg #[.bool (seeV T ty v).1, .int .i64 (seeV T ty v).2]) ∧ Below w.heap.size w w' := by
  have H : Hid (SlAt thR D w ta tl T) := h
  have IN : Hid (Inc T) := hi
  clear h hi
  have hv1 := hv.1
  have hv2 := hv.2
  have hz : w.heap.size + 1 + 1 ≤ ((w.alloc (.cells #[.slice ca cn cc, .slice (some ⟨wb, wo, none⟩) wl wc, .int .i64 (yg : Nat), .int .i64 (tp : Nat), .int .i64 (od : Nat), .slice da dl dc, .slice (some ⟨wb, wo, none⟩) yg pc, .int .i64 0, .int .i64 (tp : Nat), .slice (some ⟨wb, wo + yg, none⟩) ol oc, .int .i64 (yg : Nat), .int .i64 (ou : Nat), .slice ta tl tc] 65)).alloc (.cells #[.bool false, .int .i64 0] 121)).heap.size := by simp
  have B : Hid (∀ y, Below (w.heap.size + 1 + 1) ((w.alloc (.cells #[.slice ca cn cc, .slice (some ⟨wb, wo, none⟩) wl wc, .int .i64 (yg : Nat), .int .i64 (tp : Nat), .int .i64 (od : Nat), .slice da dl dc, .slice (some ⟨wb, wo, none⟩) yg pc, .int .i64 0, .int .i64 (tp : Nat), .slice (some ⟨wb, wo + yg, none⟩) ol oc, .int .i64 (yg : Nat), .int .i64 (ou : Nat), .slice ta tl tc] 65)).alloc (.cells #[.bool false, .int .i64 0] 121)) y → Below w.heap.size w y) := fun y hy => ((bR.alloc (by first | exact Nat.le_refl _ | (simp; done) | (simp; omega)) _).alloc (by first | exact Nat.le_refl _ | (simp; done) | (simp; omega)) _).trans (hy.mono (by omega))
  have XM : Hid (∀ y, Below (w.heap.size + 1 + 1) ((w.alloc (.cells #[.slice ca cn cc, .slice (some ⟨wb, wo, none⟩) wl wc, .int .i64 (yg : Nat), .int .i64 (tp : Nat), .int .i64 (od : Nat), .slice da dl dc, .slice (some ⟨wb, wo, none⟩) yg pc, .int .i64 0, .int .i64 (tp : Nat), .slice (some ⟨wb, wo + yg, none⟩) ol oc, .int .i64 (yg : Nat), .int .i64 (ou : Nat), .slice ta tl tc] 65)).alloc (.cells #[.bool false, .int .i64 0] 121)) y → y.heap[w.heap.size]? = some (.cells #[.slice ca cn cc, .slice (some ⟨wb, wo, none⟩) wl wc, .int .i64 (yg : Nat), .int .i64 (tp : Nat), .int .i64 (od : Nat), .slice da dl dc, .slice (some ⟨wb, wo, none⟩) yg pc, .int .i64 0, .int .i64 (tp : Nat), .slice (some ⟨wb, wo + yg, none⟩) ol oc, .int .i64 (yg : Nat), .int .i64 (ou : Nat), .slice ta tl tc] 65 (0, 0))) := fun y hy => (hy.block _ (by omega)).trans ((Below.heap_alloc _ _ _ (by first | (simp; done) | (simp; omega))).trans (boxN _ _ _ _ (by simp)))
  have lM : w.heap.size < w.heap.size + 1 + 1 := by omega
  have XR : Hid (∀ y, Below (w.heap.size + 1 + 1) ((w.alloc (.cells #[.slice ca cn cc, .slice (some ⟨wb, wo, none⟩) wl wc, .int .i64 (yg : Nat), .int .i64 (tp : Nat), .int .i64 (od : Nat), .slice da dl dc, .slice (some ⟨wb, wo, none⟩) yg pc, .int .i64 0, .int .i64 (tp : Nat), .slice (some ⟨wb, wo + yg, none⟩) ol oc, .int .i64 (yg : Nat), .int .i64 (ou : Nat), .slice ta tl tc] 65)).alloc (.cells #[.bool false, .int .i64 0] 121)) y → y.heap[w.heap.size + 1]? = some (.cells #[.bool false, .int .i64 0] 121 (0, 0))) := fun y hy => (hy.block _ (by omega)).trans (boxN _ _ _ _ (by simp))
  have lR : w.heap.size + 1 < w.heap.size + 1 + 1 := by omega
  by_cases e0 : ty = 0
  · have SV : Hid (seeV T ty v = (false, 0)) := if_pos e0
    have e0b : (ty == 0) = true := by simp [e0]
    go_enter Tryz.func127, Tryz.ntmps127
    go_upto_region 1 with fail
    generalize ((w.alloc (.cells #[.slice ca cn cc, .slice (some ⟨wb, wo, none⟩) wl wc, .int .i64 (yg : Nat), .int .i64 (tp : Nat), .int .i64 (od : Nat), .slice da dl dc, .slice (some ⟨wb, wo, none⟩) yg pc, .int .i64 0, .int .i64 (tp : Nat), .slice (some ⟨wb, wo + yg, none⟩) ol oc, .int .i64 (yg : Nat), .int .i64 (ou : Nat), .slice ta tl tc] 65)).alloc (.cells #[.bool false, .int .i64 0] 121)) = w0 at B XM XR hz ⊢
    have hzn : w.heap.size + 1 + 1 ≤ w0.heap.size := Nat.le_trans hz (Below.size (Below.refl (w.heap.size + 1 + 1) w0))
    replace B := lF B (Below.refl (w.heap.size + 1 + 1) w0) hzn
    replace XM := lF XM (Below.refl (w.heap.size + 1 + 1) w0) hzn
    replace lM := Nat.lt_of_lt_of_le lM hzn
    replace XR := lF XR (Below.refl (w.heap.size + 1 + 1) w0) hzn
    replace lR := Nat.lt_of_lt_of_le lR hzn
    clear hz
    have hz : w0.heap.size ≤ w0.heap.size := Nat.le_refl _
    obtain ⟨kM0, kM1, kM2, kM3, kM4, kM5, kM6, kM7, kM8, kM9, kM10, kM11, kM12⟩ := bk13 (XM.out w0 bR)
    obtain ⟨kR0, kR1⟩ := bk2 (XR.out w0 bR)
    obtain ⟨qkR0, qkR1⟩ := bq2 (XR.out w0 bR)
    go_wp2_with fail
    refine bodyPost_ret (v := .agg #[.bool false, .int .i64 0]) ?_ rfl ?_
    · simp [results, Tryz.results127, go_sem, *]
    · exact ⟨by rw [SV.out], by (repeat (refine Below.setCell ?_ (by first | omega | (simp <;> omega)) _)); exact B.out _ bR⟩
  have e0b : (ty == 0) = false := by simp [e0]
  by_cases e1 : ty = 1
  · have SV : Hid (seeV T ty v = (false, v)) := (if_neg e0).trans (if_pos e1)
    have e1b : (ty == 1) = true := by simp [e1]
    go_enter Tryz.func127, Tryz.ntmps127
    go_upto_region 1 with fail
    generalize ((w.alloc (.cells #[.slice ca cn cc, .slice (some ⟨wb, wo, none⟩) wl wc, .int .i64 (yg : Nat), .int .i64 (tp : Nat), .int .i64 (od : Nat), .slice da dl dc, .slice (some ⟨wb, wo, none⟩) yg pc, .int .i64 0, .int .i64 (tp : Nat), .slice (some ⟨wb, wo + yg, none⟩) ol oc, .int .i64 (yg : Nat), .int .i64 (ou : Nat), .slice ta tl tc] 65)).alloc (.cells #[.bool false, .int .i64 0] 121)) = w0 at B XM XR hz ⊢
    have hzn : w.heap.size + 1 + 1 ≤ w0.heap.size := Nat.le_trans hz (Below.size (Below.refl (w.heap.size + 1 + 1) w0))
    replace B := lF B (Below.refl (w.heap.size + 1 + 1) w0) hzn
    replace XM := lF XM (Below.refl (w.heap.size + 1 + 1) w0) hzn
    replace lM := Nat.lt_of_lt_of_le lM hzn
    replace XR := lF XR (Below.refl (w.heap.size + 1 + 1) w0) hzn
    replace lR := Nat.lt_of_lt_of_le lR hzn
    clear hz
    have hz : w0.heap.size ≤ w0.heap.size := Nat.le_refl _
    obtain ⟨kM0, kM1, kM2, kM3, kM4, kM5, kM6, kM7, kM8, kM9, kM10, kM11, kM12⟩ := bk13 (XM.out w0 bR)
    obtain ⟨kR0, kR1⟩ := bk2 (XR.out w0 bR)
    obtain ⟨qkR0, qkR1⟩ := bq2 (XR.out w0 bR)
    go_wp2_with fail
    refine bodyPost_ret (v := .agg #[.bool false, .int .i64 v]) ?_ rfl ?_
    · simp [results, Tryz.results127, go_sem, *]
    · exact ⟨by rw [SV.out], by (repeat (refine Below.setCell ?_ (by first | omega | (simp <;> omega)) _)); exact B.out _ bR⟩
  have SV : Hid (seeV T ty v = (true, (numV T v : Int))) := (if_neg e0).trans (if_neg e1)
  have e1b : (ty == 1) = false := by simp [e1]
  go_enter Tryz.func127, Tryz.ntmps127
  go_wp2_with fail
  have BP : Hid (Below (w.heap.size + 1 + 1) ((w.alloc (.cells #[.slice ca cn cc, .slice (some ⟨wb, wo, none⟩) wl wc, .int .i64 (yg : Nat), .int .i64 (tp : Nat), .int .i64 (od : Nat), .slice da dl dc, .slice (some ⟨wb, wo, none⟩) yg pc, .int .i64 0, .int .i64 (tp : Nat), .slice (some ⟨wb, wo + yg, none⟩) ol oc, .int .i64 (yg : Nat), .int .i64 (ou : Nat), .slice ta tl tc] 65)).alloc (.cells #[.bool false, .int .i64 0] 121)) ((w.alloc (.cells #[.slice ca cn cc, .slice (some ⟨wb, wo, none⟩) wl wc, .int .i64 (yg : Nat), .int .i64 (tp : Nat), .int .i64 (od : Nat), .slice da dl dc, .slice (some ⟨wb, wo, none⟩) yg pc, .int .i64 0, .int .i64 (tp : Nat), .slice (some ⟨wb, wo + yg, none⟩) ol oc, .int .i64 (yg : Nat), .int .i64 (ou : Nat), .slice ta tl tc] 65)).alloc (.cells #[.bool false, .int .i64 0] 121))) := bR
  refine (leadImpl ca cn cc wb wo wl wc yg tp od da dl dc pc ol oc ou ta tl tc T v _ (H.out.later (B.out _ BP.out)) IN.out hl hv).mono ?_
  rintro e w1 ⟨rfl, hb⟩
  have hq : Below (w.heap.size + 1 + 1) ((w.alloc (.cells #[.slice ca cn cc, .slice (some ⟨wb, wo, none⟩) wl wc, .int .i64 (yg : Nat), .int .i64 (tp : Nat), .int .i64 (od : Nat), .slice da dl dc, .slice (some ⟨wb, wo, none⟩) yg pc, .int .i64 0, .int .i64 (tp : Nat), .slice (some ⟨wb, wo + yg, none⟩) ol oc, .int .i64 (yg : Nat), .int .i64 (ou : Nat), .slice ta tl tc] 65)).alloc (.cells #[.bool false, .int .i64 0] 121)) w1 := BP.out.trans (Below.mono hb (Nat.le_trans hz BP.out.size))
  have hzn : w.heap.size + 1 + 1 ≤ w1.heap.size := Nat.le_trans hz hq.size
  replace B := lF B hq hzn
  replace XM := lF XM hq hzn
  replace lM := Nat.lt_of_lt_of_le lM hzn
  replace XR := lF XR hq hzn
  replace lR := Nat.lt_of_lt_of_le lR hzn
  clear hq BP hz
  have hz : w1.heap.size ≤ w1.heap.size := Nat.le_refl _
  clear hb
  obtain ⟨kM0, kM1, kM2, kM3, kM4, kM5, kM6, kM7, kM8, kM9, kM10, kM11, kM12⟩ := bk13 (XM.out w1 bR)
  obtain ⟨kR0, kR1⟩ := bk2 (XR.out w1 bR)
  obtain ⟨qkR0, qkR1⟩ := bq2 (XR.out w1 bR)
  go_wp2_with fail
  refine bodyPost_ret (v := .agg #[.bool true, .int .i64 (numV T v : Nat)]) ?_ rfl ?_
  · simp [results, Tryz.results127, go_sem, *]
  · exact ⟨by rw [SV.out], by (repeat (refine Below.setCell ?_ (by first | omega | (simp <;> omega)) _)); exact B.out _ bR⟩

set_option maxRecDepth 100000 in
set_option maxHeartbeats 8000000 in
theorem allSeenImpl (ca : Option Addr) (cn cc wb wo wl wc yg tp od : Nat) (da : Option Addr) (dl dc pc ol oc ou : Nat) (ta : Option Addr) (tl tc : Nat) (ra : Option Addr) (n rc : Nat) (ya : Option Addr) (yl yc : Nat) (T : List Th) (ty vs : List Int) (w : World) {D D2 G : Nat → Prop} (h : SlAt thR D w ta tl T) (hi : Inc T) (hl : tl ≤ 1000) (hvs : IntsAt G w ra n vs) (hty : IntsAt D2 w ya yl ty) (hn : n ≤ yl) (hyl : yl ≤ 1000) :
    Calls Tryz.prog 117 #[.agg #[.slice ca cn cc, .slice (some ⟨wb, wo, none⟩) wl wc, .int .i64 (yg : Nat), .int .i64 (tp : Nat), .int .i64 (od : Nat), .slice da dl dc, .slice (some ⟨wb, wo, none⟩) yg pc, .int .i64 0, .int .i64 (tp : Nat), .slice (some ⟨wb, wo + yg, none⟩) ol oc, .int .i64 (yg : Nat), .int .i64 (ou : Nat), .slice ta tl tc], .slice ra n rc, .slice ya yl yc] w fun e w' => ∃ g, e = .returned (.slice (some ⟨g, 0, none⟩) n n) ∧ w.heap.size ≤ g ∧ g < w'.heap.size ∧ WrV w' g ((List.range n).map fun i => seeV T (ty.getD i 0) (vs.getD i 0)) ∧ Below w.heap.size w w' := by
  have H : Hid (SlAt thR D w ta tl T) := h
  have IN : Hid (Inc T) := hi
  have HV : Hid (IntsAt G w ra n vs) := hvs
  have HT : Hid (IntsAt D2 w ya yl ty) := hty
  have TL : Hid (T.length = tl) := h.size
  have hmk := make_Val n (by omega)
  clear h hi hvs hty
  have hz : w.heap.size + 1 ≤ (w.alloc (.cells #[.slice ca cn cc, .slice (some ⟨wb, wo, none⟩) wl wc, .int .i64 (yg : Nat), .int .i64 (tp : Nat), .int .i64 (od : Nat), .slice da dl dc, .slice (some ⟨wb, wo, none⟩) yg pc, .int .i64 0, .int .i64 (tp : Nat), .slice (some ⟨wb, wo + yg, none⟩) ol oc, .int .i64 (yg : Nat), .int .i64 (ou : Nat), .slice ta tl tc] 65)).heap.size := by simp
  have B : Hid (∀ y, Below (w.heap.size + 1) (w.alloc (.cells #[.slice ca cn cc, .slice (some ⟨wb, wo, none⟩) wl wc, .int .i64 (yg : Nat), .int .i64 (tp : Nat), .int .i64 (od : Nat), .slice da dl dc, .slice (some ⟨wb, wo, none⟩) yg pc, .int .i64 0, .int .i64 (tp : Nat), .slice (some ⟨wb, wo + yg, none⟩) ol oc, .int .i64 (yg : Nat), .int .i64 (ou : Nat), .slice ta tl tc] 65)) y → Below w.heap.size w y) := fun y hy => (bR.alloc (by first | exact Nat.le_refl _ | (simp; done) | (simp; omega)) _).trans (hy.mono (by omega))
  have XM : Hid (∀ y, Below (w.heap.size + 1) (w.alloc (.cells #[.slice ca cn cc, .slice (some ⟨wb, wo, none⟩) wl wc, .int .i64 (yg : Nat), .int .i64 (tp : Nat), .int .i64 (od : Nat), .slice da dl dc, .slice (some ⟨wb, wo, none⟩) yg pc, .int .i64 0, .int .i64 (tp : Nat), .slice (some ⟨wb, wo + yg, none⟩) ol oc, .int .i64 (yg : Nat), .int .i64 (ou : Nat), .slice ta tl tc] 65)) y → y.heap[w.heap.size]? = some (.cells #[.slice ca cn cc, .slice (some ⟨wb, wo, none⟩) wl wc, .int .i64 (yg : Nat), .int .i64 (tp : Nat), .int .i64 (od : Nat), .slice da dl dc, .slice (some ⟨wb, wo, none⟩) yg pc, .int .i64 0, .int .i64 (tp : Nat), .slice (some ⟨wb, wo + yg, none⟩) ol oc, .int .i64 (yg : Nat), .int .i64 (ou : Nat), .slice ta tl tc] 65 (0, 0))) := fun y hy => (hy.block _ (by omega)).trans (boxN _ _ _ _ (by simp))
  have lM : w.heap.size < w.heap.size + 1 := by omega
  go_enter Tryz.func117, Tryz.ntmps117
  go_wp2_with fail
  clear hmk
  have BP : Hid (Below (w.heap.size + 1) (w.alloc (.cells #[.slice ca cn cc, .slice (some ⟨wb, wo, none⟩) wl wc, .int .i64 (yg : Nat), .int .i64 (tp : Nat), .int .i64 (od : Nat), .slice da dl dc, .slice (some ⟨wb, wo, none⟩) yg pc, .int .i64 0, .int .i64 (tp : Nat), .slice (some ⟨wb, wo + yg, none⟩) ol oc, .int .i64 (yg : Nat), .int .i64 (ou : Nat), .slice ta tl tc] 65)) ((w.alloc (.cells #[.slice ca cn cc, .slice (some ⟨wb, wo, none⟩) wl wc, .int .i64 (yg : Nat), .int .i64 (tp : Nat), .int .i64 (od : Nat), .slice da dl dc, .slice (some ⟨wb, wo, none⟩) yg pc, .int .i64 0, .int .i64 (tp : Nat), .slice (some ⟨wb, wo + yg, none⟩) ol oc, .int .i64 (yg : Nat), .int .i64 (ou : Nat), .slice ta tl tc] 65)).alloc (.cells (madeCells #[.bool false, .int .i64 0] (n * 2)) 121))) := bR.alloc (by first | exact hz | (simp; done)) _
  have VV0 : Hid (WrV ((w.alloc (.cells #[.slice ca cn cc, .slice (some ⟨wb, wo, none⟩) wl wc, .int .i64 (yg : Nat), .int .i64 (tp : Nat), .int .i64 (od : Nat), .slice da dl dc, .slice (some ⟨wb, wo, none⟩) yg pc, .int .i64 0, .int .i64 (tp : Nat), .slice (some ⟨wb, wo + yg, none⟩) ol oc, .int .i64 (yg : Nat), .int .i64 (ou : Nat), .slice ta tl tc] 65)).alloc (.cells (madeCells #[.bool false, .int .i64 0] (n * 2)) 121)) (w.heap.size + 1) (List.replicate n (false, 0))) := WrV.made _ _ _ _ (by simp)
  replace B := lA B BP
  replace XM := lA XM BP
  replace lM := lL lM
  have VV : Hid (∀ y, Below (w.heap.size + 1 + 1) ((w.alloc (.cells #[.slice ca cn cc, .slice (some ⟨wb, wo, none⟩) wl wc, .int .i64 (yg : Nat), .int .i64 (tp : Nat), .int .i64 (od : Nat), .slice da dl dc, .slice (some ⟨wb, wo, none⟩) yg pc, .int .i64 0, .int .i64 (tp : Nat), .slice (some ⟨wb, wo + yg, none⟩) ol oc, .int .i64 (yg : Nat), .int .i64 (ou : Nat), .slice ta tl tc] 65)).alloc (.cells (madeCells #[.bool false, .int .i64 0] (n * 2)) 121)) y → WrV y (w.heap.size + 1) (List.replicate n (false, 0))) := fun y hy => VV0.out.later hy (by omega)
  replace hz : w.heap.size + 1 + 1 ≤ ((w.alloc (.cells #[.slice ca cn cc, .slice (some ⟨wb, wo, none⟩) wl wc, .int .i64 (yg : Nat), .int .i64 (tp : Nat), .int .i64 (od : Nat), .slice da dl dc, .slice (some ⟨wb, wo, none⟩) yg pc, .int .i64 0, .int .i64 (tp : Nat), .slice (some ⟨wb, wo + yg, none⟩) ol oc, .int .i64 (yg : Nat), .int .i64 (ou : Nat), .slice ta tl tc] 65)).alloc (.cells (madeCells #[.bool false, .int .i64 0] (n * 2)) 121)).heap.size := by simp
  clear BP VV0
  generalize ((w.alloc (.cells #[.slice ca cn cc, .slice (some ⟨wb, wo, none⟩) wl wc, .int .i64 (yg : Nat), .int .i64 (tp : Nat), .int .i64 (od : Nat), .slice da dl dc, .slice (some ⟨wb, wo, none⟩) yg pc, .int .i64 0, .int .i64 (tp : Nat), .slice (some ⟨wb, wo + yg, none⟩) ol oc, .int .i64 (yg : Nat), .int .i64 (ou : Nat), .slice ta tl tc] 65)).alloc (.cells (madeCells #[.bool false, .int .i64 0] (n * 2)) 121)) = w1 at B VV XM hz ⊢
  have hzn : w.heap.size + 1 + 1 ≤ w1.heap.size := Nat.le_trans hz (Below.size (Below.refl (w.heap.size + 1 + 1) w1))
  replace B := lF B (Below.refl (w.heap.size + 1 + 1) w1) hzn
  replace VV := lF VV (Below.refl (w.heap.size + 1 + 1) w1) hzn
  replace XM := lF XM (Below.refl (w.heap.size + 1 + 1) w1) hzn
  replace lM := Nat.lt_of_lt_of_le lM hzn
  clear hz
  have hz : w1.heap.size ≤ w1.heap.size := Nat.le_refl _
  go_loopw [15] (fun t wr => ∃ (k : Nat) (xs : List Vl), k ≤ n ∧ t = .int .i64 k ∧ xs.length = n ∧ (∀ i, i < k → xs[i]? = some (seeV T (ty.getD i 0) (vs.getD i 0))) ∧ WrV wr (w.heap.size + 1) xs ∧ Below (w.heap.size + 1) w1 wr) (fun t _ => n - (intOf t).toNat)
  case atStart => exact ⟨0, _, Nat.zero_le _, rfl, List.length_replicate, (fun i hi => by omega), VV.out w1 bR, bR⟩
  case round =>
    obtain ⟨k, xs, hk, rfl, hxl, hxs, hwv, hr⟩ := hrel
    have XL : Hid (xs.length = n) := hxl
    have XS : Hid (∀ i, i < k → xs[i]? = some (seeV T (ty.getD i 0) (vs.getD i 0))) := hxs
    have HR1 : Hid (Below (w.heap.size + 1) w1 wr) := hr
    have hw1s : w.heap.size + 1 + 1 ≤ w1.heap.size := Nat.le_trans (Nat.le_refl _) hzn
    have hgw : w.heap.size + 1 < wr.heap.size := Nat.lt_of_lt_of_le (by omega) hr.size
    clear hxs hxl
    have BP : Hid (Below (w1.heap.size) w1 w1) := bR
    have hq : Below (w.heap.size + 1) w1 wr := (BP.out.mono (by omega)).trans (Below.mono hr (by omega))
    have hzn : w1.heap.size ≤ wr.heap.size := Nat.le_trans hz hq.size
    replace B : Hid (∀ y, Below wr.heap.size wr y → Below w.heap.size w y) := fun y hy => ((B.out w1 bR).trans (hq.mono (by omega))).trans (hy.mono (Nat.le_trans (B.out w1 bR).size hq.size))
    clear VV
    replace XM : Hid (∀ y, Below wr.heap.size wr y → y.heap[w.heap.size]? = some (.cells #[.slice ca cn cc, .slice (some ⟨wb, wo, none⟩) wl wc, .int .i64 (yg : Nat), .int .i64 (tp : Nat), .int .i64 (od : Nat), .slice da dl dc, .slice (some ⟨wb, wo, none⟩) yg pc, .int .i64 0, .int .i64 (tp : Nat), .slice (some ⟨wb, wo + yg, none⟩) ol oc, .int .i64 (yg : Nat), .int .i64 (ou : Nat), .slice ta tl tc] 65 (0, 0))) := fun y hy => (hy.block _ (by omega)).trans ((hq.block _ (by omega)).trans (XM.out w1 bR))
    replace lM : w.heap.size < wr.heap.size := by omega
    clear hq BP hz
    have hz : wr.heap.size ≤ wr.heap.size := Nat.le_refl _
    have VW : Hid (∀ y, Below wr.heap.size wr y → WrV y (w.heap.size + 1) xs) := fun y hy => hwv.later hy hgw
    clear hwv hr
    by_cases hlt : k < n
    · have hky : k < yl := by omega
      obtain ⟨_, _, rfl, _, hcs⟩ := (HV.out.later (B.out wr bR)).one k (by omega)
      have cW := hcs k (by omega)
      obtain ⟨v, hv⟩ : ∃ v, vs.getD k 0 = v := ⟨_, rfl⟩
      rw [hv] at cW
      have hvf := HV.out.fits k
      rw [hv] at hvf
      obtain ⟨yb, yo, rfl, _, hct⟩ := (HT.out.later (B.out wr bR)).one k (by omega)
      have cT := hct k (by omega)
      obtain ⟨t1, ht1⟩ : ∃ t1, ty.getD k 0 = t1 := ⟨_, rfl⟩
      rw [ht1] at cT
      have hyb := World.block_lt_of_cell? wr _ cT
      simp only at hyb
      clear hcs hct
      obtain ⟨⟨sb, sv⟩, hsv⟩ : ∃ s, seeV T t1 v = s := ⟨_, rfl⟩
      have SV : Hid (seeV T t1 v = (sb, sv)) := hsv
      have SF : Hid (i64B sv) := by have := seeV_fits (T := T) (ty := t1) hvf (by rw [TL.out]; omega); rw [hsv] at this; exact this
      have XK : Hid (seeV T (ty.getD k 0) (vs.getD k 0) = (sb, sv)) := by show _ = _; rw [ht1, hv]; exact hsv
      have hkx : k < xs.length := by rw [XL.out]; exact hlt
      obtain ⟨xk, hxk⟩ : ∃ x, xs[k]? = some x := ⟨_, List.getElem?_eq_getElem hkx⟩
      clear hv ht1 hsv
      have KT : Hid (∀ y, Below (wr.heap.size) wr y → y.cell? ⟨yb, yo + k, none⟩ = some (.int .i64 t1)) := fun y hy => (hy.cell (p := ⟨yb, yo + k, none⟩) hyb).trans cT
      obtain ⟨kM0, kM1, kM2, kM3, kM4, kM5, kM6, kM7, kM8, kM9, kM10, kM11, kM12⟩ := bk13 (XM.out wr bR)
      go_wp2_with fail
      clear kM0 kM1 kM2 kM3 kM4 kM5 kM6 kM7 kM8 kM9 kM10 kM11 kM12
      clear cW cT
      have hyw : yb < w.heap.size := by
        obtain ⟨b9, o9, e9, _, h9⟩ := HT.out.one k (by omega)
        obtain ⟨rfl, rfl⟩ : yb = b9 ∧ yo = o9 := by simpa using e9
        exact World.block_lt_of_cell? w _ (h9 k (by omega))
      have hyg : yb ≠ w.heap.size + 1 := by omega
      have KS : Hid (∀ x, Below (wr.heap.size) wr x → x.cell? ⟨w.heap.size, 0, none⟩ = some (.slice ca cn cc) ∧ x.cell? ⟨w.heap.size, 1, none⟩ = some (.slice (some ⟨wb, wo, none⟩) wl wc) ∧ x.cell? ⟨w.heap.size, 2, none⟩ = some (.int .i64 (yg : Nat)) ∧ x.cell? ⟨w.heap.size, 3, none⟩ = some (.int .i64 (tp : Nat)) ∧ x.cell? ⟨w.heap.size, 4, none⟩ = some (.int .i64 (od : Nat)) ∧ x.cell? ⟨w.heap.size, 5, none⟩ = some (.slice da dl dc) ∧ x.cell? ⟨w.heap.size, 6, none⟩ = some (.slice (some ⟨wb, wo, none⟩) yg pc) ∧ x.cell? ⟨w.heap.size, 7, none⟩ = some (.int .i64 0) ∧ x.cell? ⟨w.heap.size, 8, none⟩ = some (.int .i64 (tp : Nat)) ∧ x.cell? ⟨w.heap.size, 9, none⟩ = some (.slice (some ⟨wb, wo + yg, none⟩) ol oc) ∧ x.cell? ⟨w.heap.size, 10, none⟩ = some (.int .i64 (yg : Nat)) ∧ x.cell? ⟨w.heap.size, 11, none⟩ = some (.int .i64 (ou : Nat)) ∧ x.cell? ⟨w.heap.size, 12, none⟩ = some (.slice ta tl tc) ∧ x.cell? ⟨yb, yo + k, none⟩ = some (.int .i64 t1)) := fun x hx => ⟨(boxG (XM.out x hx) 0).1, (boxG (XM.out x hx) 1).1, (boxG (XM.out x hx) 2).1, (boxG (XM.out x hx) 3).1, (boxG (XM.out x hx) 4).1, (boxG (XM.out x hx) 5).1, (boxG (XM.out x hx) 6).1, (boxG (XM.out x hx) 7).1, (boxG (XM.out x hx) 8).1, (boxG (XM.out x hx) 9).1, (boxG (XM.out x hx) 10).1, (boxG (XM.out x hx) 11).1, (boxG (XM.out x hx) 12).1, KT.out x hx⟩
      refine wp_region_held_drew (S := fun x => x.cell? ⟨w.heap.size, 0, none⟩ = some (.slice ca cn cc) ∧ x.cell? ⟨w.heap.size, 1, none⟩ = some (.slice (some ⟨wb, wo, none⟩) wl wc) ∧ x.cell? ⟨w.heap.size, 2, none⟩ = some (.int .i64 (yg : Nat)) ∧ x.cell? ⟨w.heap.size, 3, none⟩ = some (.int .i64 (tp : Nat)) ∧ x.cell? ⟨w.heap.size, 4, none⟩ = some (.int .i64 (od : Nat)) ∧ x.cell? ⟨w.heap.size, 5, none⟩ = some (.slice da dl dc) ∧ x.cell? ⟨w.heap.size, 6, none⟩ = some (.slice (some ⟨wb, wo, none⟩) yg pc) ∧ x.cell? ⟨w.heap.size, 7, none⟩ = some (.int .i64 0) ∧ x.cell? ⟨w.heap.size, 8, none⟩ = some (.int .i64 (tp : Nat)) ∧ x.cell? ⟨w.heap.size, 9, none⟩ = some (.slice (some ⟨wb, wo + yg, none⟩) ol oc) ∧ x.cell? ⟨w.heap.size, 10, none⟩ = some (.int .i64 (yg : Nat)) ∧ x.cell? ⟨w.heap.size, 11, none⟩ = some (.int .i64 (ou : Nat)) ∧ x.cell? ⟨w.heap.size, 12, none⟩ = some (.slice ta tl tc) ∧ x.cell? ⟨yb, yo + k, none⟩ = some (.int .i64 t1)) (by kernel_rfl) ?_ (fun hHeld => ?_)
      · exact KS.out _ (bdrew bR)
      refine tV 0 (v := ?_) rfl (by kernel_rfl) (fun _ _ _ h => h) ?_ (by assumption) ?_
      rotate_left 1
      · (intro x hSx; (try dsimp only at hSx); go_simp; try with_reducible rfl)
      try simp only [Act.put, zgT, zg0, zsT, zs0, zsS]
      refine tV 1 (v := ?_) rfl (by kernel_rfl) (fun _ _ _ h => h) ?_ (by assumption) ?_
      rotate_left 1
      · (intro x hSx; (try dsimp only at hSx); go_simp; try with_reducible rfl)
      try simp only [Act.put, zgT, zg0, zgS, zsT, zs0, zsS]
      refine tV 2 (v := ?_) rfl (by kernel_rfl) (fun _ _ _ h => h) ?_ (by assumption) ?_
      rotate_left 1
      · (intro x hSx; (try dsimp only at hSx); go_simp; try with_reducible rfl)
      try simp only [Act.put, zgT, zg0, zgS, zsT, zs0, zsS]
      refine tV 3 (v := ?_) rfl (by kernel_rfl) (fun _ _ _ h => h) ?_ (by assumption) ?_
      rotate_left 1
      · (intro x hSx; (try dsimp only at hSx); go_simp; try with_reducible rfl)
      try simp only [Act.put, zgT, zg0, zgS, zsT, zs0, zsS]
      refine tV 4 (v := ?_) rfl (by kernel_rfl) (fun _ _ _ h => h) ?_ (by assumption) ?_
      rotate_left 1
      · (intro x hSx; (try dsimp only at hSx); go_simp; try with_reducible rfl)
      try simp only [Act.put, zgT, zg0, zgS, zsT, zs0, zsS]
      refine tV 5 (v := ?_) rfl (by kernel_rfl) (fun _ _ _ h => h) ?_ (by assumption) ?_
      rotate_left 1
      · (intro x hSx; (try dsimp only at hSx); go_simp; try with_reducible rfl)
      try simp only [Act.put, zgT, zg0, zgS, zsT, zs0, zsS]
      refine tV 6 (v := ?_) rfl (by kernel_rfl) (fun _ _ _ h => h) ?_ (by assumption) ?_
      rotate_left 1
      · (intro x hSx; (try dsimp only at hSx); go_simp; try with_reducible rfl)
      try simp only [Act.put, zgT, zg0, zgS, zsT, zs0, zsS]
      refine tV 7 (v := ?_) rfl (by kernel_rfl) (fun _ _ _ h => h) ?_ (by assumption) ?_
      rotate_left 1
      · (intro x hSx; (try dsimp only at hSx); go_simp; try with_reducible rfl)
      try simp only [Act.put, zgT, zg0, zgS, zsT, zs0, zsS]
      refine wpAnyH_ready (rs := [8]) (by kernel_rfl) (by simp) ?_
      refine AllReadyH.cons rfl (fun K hK => ?_) AllReadyH.nil
      go_simp
      go_at_call 127
      have BP : Hid (Below (wr.heap.size) wr wr.drew) := (bdrew bR)
      refine (seenImpl ca cn cc wb wo wl wc yg tp od da dl dc pc ol oc ou ta tl tc T v t1 _ (H.out.later (B.out _ BP.out)) IN.out hl hvf).mono ?_
      rintro e w2 ⟨rfl, hb⟩
      rw [SV.out]
      have HR2 : Hid (Below (w.heap.size + 1) w1 w2) := HR1.out.trans ((BP.out.trans (hb.mono BP.out.size)).mono (by omega))
      have hq : Below (wr.heap.size) wr w2 := BP.out.trans (Below.mono hb (Nat.le_trans hz BP.out.size))
      have hzn : wr.heap.size ≤ w2.heap.size := Nat.le_trans hz hq.size
      replace B := lF B hq hzn
      replace VW := lF VW hq hzn
      replace KT := lF KT hq hzn
      replace KS := lF KS hq hzn
      replace XM := lF XM hq hzn
      replace lM := Nat.lt_of_lt_of_le lM hzn
      clear hq BP hz
      have hz : w2.heap.size ≤ w2.heap.size := Nat.le_refl _
      clear hb
      go_wp2_with fail
      refine hK.out _ _ (KS.out _ bR) (fun hHeld2 => ?_)
      clear hK K
      try simp only [Act.put, zgT, zg0, zgS, zsT, zs0, zsS]
      refine tV 9 (v := ?_) rfl (by kernel_rfl) (fun _ _ _ h => h) ?_ (by assumption) ?_
      rotate_left 1
      · (intro x hSx; (try dsimp only at hSx); go_simp; try with_reducible rfl)
      try simp only [Act.put, zgT, zg0, zgS, zsT, zs0, zsS]
      refine wpAnyH_ready (rs := [10]) (by kernel_rfl) (by simp) ?_
      refine AllReadyH.cons rfl (fun K hK => ?_) AllReadyH.nil
      obtain ⟨kC0, kC1, _⟩ := (VW.out w2 bR).at' k xk hxk
      have fC0 := (VW.out w2 bR).free (k * 2) (by omega)
      have fC1 := (VW.out w2 bR).free (k * 2 + 1) (by omega)
      go_simp
      clear kC0 kC1 fC0 fC1
      generalize hW : ((w2.setCell ⟨w.heap.size + 1, k * 2, none⟩ (.bool sb)).setCell ⟨w.heap.size + 1, k * 2 + 1, none⟩ (.int .i64 sv)) = wN
      have hkB : ∀ a, a ≠ w.heap.size + 1 → wN.heap[a]? = w2.heap[a]? := by subst hW; exact fun a h => (Below.heap_setCell _ _ _ _ h).trans (Below.heap_setCell _ _ _ _ h)
      have hsN : wN.heap.size = w2.heap.size := by subst hW; simp
      have VN : Hid (WrV wN (w.heap.size + 1) (xs.set k (sb, sv))) := by subst hW; exact (VW.out w2 bR).put hkx sb sv SF.out
      have HR3 : Hid (Below (w.heap.size + 1) w1 wN) := by subst hW; exact (HR2.out.setCell (Nat.le_refl _) _).setCell (Nat.le_refl _) _
      replace B : Hid (∀ y, Below wN.heap.size wN y → Below w.heap.size w y) := by subst hW; exact fun y hy => (((B.out w2 bR).setCell (Nat.le_succ _) _).setCell (Nat.le_succ _) _).trans (hy.mono (by simp; exact (B.out w2 bR).size))
      have XM9 := lS XM lM wN (hkB _ (by omega))
      replace XM : Hid (∀ y, Below wN.heap.size wN y → _) := fun y hy => XM9.out y (hy.mono (by rw [hsN]; exact hz))
      replace lM : w.heap.size < wN.heap.size := by omega
      have KT9 : wN.cell? ⟨yb, yo + k, none⟩ = some (.int .i64 t1) := (World.cell?_of_block (a := ⟨yb, yo + k, none⟩) (hkB yb hyg)).trans (KT.out w2 bR)
      replace KT : Hid (∀ y, Below wN.heap.size wN y → y.cell? ⟨yb, yo + k, none⟩ = some (.int .i64 t1)) := fun y hy => (hy.cell (p := ⟨yb, yo + k, none⟩) (World.block_lt_of_cell? wN _ KT9)).trans KT9
      clear VW KS hW hkB hsN XM9 KT9 hz
      have hz : wN.heap.size ≤ wN.heap.size := Nat.le_refl _
      have KS : Hid (∀ x, Below (wN.heap.size) wN x → x.cell? ⟨w.heap.size, 0, none⟩ = some (.slice ca cn cc) ∧ x.cell? ⟨w.heap.size, 1, none⟩ = some (.slice (some ⟨wb, wo, none⟩) wl wc) ∧ x.cell? ⟨w.heap.size, 2, none⟩ = some (.int .i64 (yg : Nat)) ∧ x.cell? ⟨w.heap.size, 3, none⟩ = some (.int .i64 (tp : Nat)) ∧ x.cell? ⟨w.heap.size, 4, none⟩ = some (.int .i64 (od : Nat)) ∧ x.cell? ⟨w.heap.size, 5, none⟩ = some (.slice da dl dc) ∧ x.cell? ⟨w.heap.size, 6, none⟩ = some (.slice (some ⟨wb, wo, none⟩) yg pc) ∧ x.cell? ⟨w.heap.size, 7, none⟩ = some (.int .i64 0) ∧ x.cell? ⟨w.heap.size, 8, none⟩ = some (.int .i64 (tp : Nat)) ∧ x.cell? ⟨w.heap.size, 9, none⟩ = some (.slice (some ⟨wb, wo + yg, none⟩) ol oc) ∧ x.cell? ⟨w.heap.size, 10, none⟩ = some (.int .i64 (yg : Nat)) ∧ x.cell? ⟨w.heap.size, 11, none⟩ = some (.int .i64 (ou : Nat)) ∧ x.cell? ⟨w.heap.size, 12, none⟩ = some (.slice ta tl tc) ∧ x.cell? ⟨yb, yo + k, none⟩ = some (.int .i64 t1)) := fun x hx => ⟨(boxG (XM.out x hx) 0).1, (boxG (XM.out x hx) 1).1, (boxG (XM.out x hx) 2).1, (boxG (XM.out x hx) 3).1, (boxG (XM.out x hx) 4).1, (boxG (XM.out x hx) 5).1, (boxG (XM.out x hx) 6).1, (boxG (XM.out x hx) 7).1, (boxG (XM.out x hx) 8).1, (boxG (XM.out x hx) 9).1, (boxG (XM.out x hx) 10).1, (boxG (XM.out x hx) 11).1, (boxG (XM.out x hx) 12).1, KT.out x hx⟩
      refine hK.out _ _ (KS.out _ bR) (fun hHeld3 => ?_)
      clear hK K
      try simp only [Act.put, zgT, zg0, zgS, zsT, zs0, zsS]
      refine wpAnyH_done (by kernel_rfl) ?_ _
      clear hHeld hHeld2 hHeld3
      clear KS
      obtain ⟨kM0, kM1, kM2, kM3, kM4, kM5, kM6, kM7, kM8, kM9, kM10, kM11, kM12⟩ := bk13 (XM.out wN bR)
      go_wp2_with fail
      exact ⟨⟨k + 1, xs.set k (sb, sv), by omega, by go_num, by rw [List.length_set]; exact XL.out, (fun i hi => by
        rw [List.getElem?_set]
        by_cases e : k = i
        · subst e; rw [if_pos rfl, if_pos hkx, XK.out]
        · rw [if_neg e]; exact XS.out i (by omega)), VN.out, HR3.out⟩, by simp [intOf]; omega⟩
    · have ek : n = k := by omega
      subst ek
      obtain ⟨kM0, kM1, kM2, kM3, kM4, kM5, kM6, kM7, kM8, kM9, kM10, kM11, kM12⟩ := bk13 (XM.out wr bR)
      go_wp2_with fail
      go_ret
      have hx9 : xs = (List.range n).map (fun i => seeV T (ty.getD i 0) (vs.getD i 0)) := by
        refine List.ext_getElem? fun i => ?_
        by_cases hin : i < n
        · rw [XS.out i hin, List.getElem?_map, List.getElem?_range hin]; rfl
        · rw [List.getElem?_eq_none (by rw [XL.out]; omega), List.getElem?_eq_none (by rw [List.length_map, List.length_range]; omega)]
      exact ⟨w.heap.size + 1, rfl, by omega, hgw, by rw [← hx9]; exact VW.out wr bR, B.out wr bR⟩

set_option maxRecDepth 100000 in
set_option maxHeartbeats 8000000 in
theorem objImpl (ca : Option Addr) (cn cc wb wo wl wc yg tp od : Nat) (da : Option Addr) (dl dc pc ol oc ou : Nat) (ta : Option Addr) (tl tc : Nat) (p : Nat) (c0 : Int) (ya : Option Addr) (yl yc : Nat) (T : List Th) (ty ws : List Int) (w : World) {D D2 G : Nat → Prop} (h : SlAt thR D w ta tl T) (hi : Inc T) (hl : tl ≤ 1000) (hw : IntsAt G w (some ⟨wb, wo, none⟩) wl ws) (hty : IntsAt D2 w ya yl ty) (h1 : p + hdN c0 + yl ≤ wl) (h2 : wl ≤ wc) (h3 : wl ≤ 1000) :
    Calls Tryz.prog 92 #[.agg #[.slice ca cn cc, .slice (some ⟨wb, wo, none⟩) wl wc, .int .i64 (yg : Nat), .int .i64 (tp : Nat), .int .i64 (od : Nat), .slice da dl dc, .slice (some ⟨wb, wo, none⟩) yg pc, .int .i64 0, .int .i64 (tp : Nat), .slice (some ⟨wb, wo + yg, none⟩) ol oc, .int .i64 (yg : Nat), .int .i64 (ou : Nat), .slice ta tl tc], .agg #[.int .i64 ((p : Int) + 1), .int .i64 c0, .slice ya yl yc]] w fun e w' => ∃ g, e = .returned (.agg #[.int .i64 c0, .slice (some ⟨g, 0, none⟩) yl yl]) ∧ w.heap.size ≤ g ∧ g < w'.heap.size ∧ WrV w' g ((List.range yl).map fun i => seeV T (ty.getD i 0) (ws.getD (p + hdN c0 + i) 0)) ∧ Below w.heap.size w w' := by
  have HW : Hid (IntsAt G w (some ⟨wb, wo, none⟩) wl ws) := hw
  have HT : Hid (IntsAt D2 w ya yl ty) := hty
  have H : Hid (SlAt thR D w ta tl T) := h
  have IN : Hid (Inc T) := hi
  have hdp := hdN_pos c0
  clear hw hty h hi
  have hz : w.heap.size + 1 + 1 + 1 ≤ (((w.alloc (.cells #[.slice ca cn cc, .slice (some ⟨wb, wo, none⟩) wl wc, .int .i64 (yg : Nat), .int .i64 (tp : Nat), .int .i64 (od : Nat), .slice da dl dc, .slice (some ⟨wb, wo, none⟩) yg pc, .int .i64 0, .int .i64 (tp : Nat), .slice (some ⟨wb, wo + yg, none⟩) ol oc, .int .i64 (yg : Nat), .int .i64 (ou : Nat), .slice ta tl tc] 65)).alloc (.cells #[.int .i64 ((p : Int) + 1), .int .i64 c0, .slice ya yl yc] 69)).alloc (.cells #[.int .i64 0, .slice none 0 0] 93)).heap.size := by simp
  have B : Hid (∀ y, Below (w.heap.size + 1 + 1 + 1) (((w.alloc (.cells #[.slice ca cn cc, .slice (some ⟨wb, wo, none⟩) wl wc, .int .i64 (yg : Nat), .int .i64 (tp : Nat), .int .i64 (od : Nat), .slice da dl dc, .slice (some ⟨wb, wo, none⟩) yg pc, .int .i64 0, .int .i64 (tp : Nat), .slice (some ⟨wb, wo + yg, none⟩) ol oc, .int .i64 (yg : Nat), .int .i64 (ou : Nat), .slice ta tl tc] 65)).alloc (.cells #[.int .i64 ((p : Int) + 1), .int .i64 c0, .slice ya yl yc] 69)).alloc (.cells #[.int .i64 0, .slice none 0 0] 93)) y → Below w.heap.size w y) := fun y hy => (((bR.alloc (by first | exact Nat.le_refl _ | (simp; done) | (simp; omega)) _).alloc (by first | exact Nat.le_refl _ | (simp; done) | (simp; omega)) _).alloc (by first | exact Nat.le_refl _ | (simp; done) | (simp; omega)) _).trans (hy.mono (by omega))
  have XM : Hid (∀ y, Below (w.heap.size + 1 + 1 + 1) (((w.alloc (.cells #[.slice ca cn cc, .slice (some ⟨wb, wo, none⟩) wl wc, .int .i64 (yg : Nat), .int .i64 (tp : Nat), .int .i64 (od : Nat), .slice da dl dc, .slice (some ⟨wb, wo, none⟩) yg pc, .int .i64 0, .int .i64 (tp : Nat), .slice (some ⟨wb, wo + yg, none⟩) ol oc, .int .i64 (yg : Nat), .int .i64 (ou : Nat), .slice ta tl tc] 65)).alloc (.cells #[.int .i64 ((p : Int) + 1), .int .i64 c0, .slice ya yl yc] 69)).alloc (.cells #[.int .i64 0, .slice none 0 0] 93)) y → y.heap[w.heap.size]? = some (.cells #[.slice ca cn cc, .slice (some ⟨wb, wo, none⟩) wl wc, .int .i64 (yg : Nat), .int .i64 (tp : Nat), .int .i64 (od : Nat), .slice da dl dc, .slice (some ⟨wb, wo, none⟩) yg pc, .int .i64 0, .int .i64 (tp : Nat), .slice (some ⟨wb, wo + yg, none⟩) ol oc, .int .i64 (yg : Nat), .int .i64 (ou : Nat), .slice ta tl tc] 65 (0, 0))) := fun y hy => (hy.block _ (by omega)).trans ((Below.heap_alloc _ _ _ (by first | (simp; done) | (simp; omega))).trans ((Below.heap_alloc _ _ _ (by first | (simp; done) | (simp; omega))).trans (boxN _ _ _ _ (by simp))))
  have lM : w.heap.size < w.heap.size + 1 + 1 + 1 := by omega
  have XT : Hid (∀ y, Below (w.heap.size + 1 + 1 + 1) (((w.alloc (.cells #[.slice ca cn cc, .slice (some ⟨wb, wo, none⟩) wl wc, .int .i64 (yg : Nat), .int .i64 (tp : Nat), .int .i64 (od : Nat), .slice da dl dc, .slice (some ⟨wb, wo, none⟩) yg pc, .int .i64 0, .int .i64 (tp : Nat), .slice (some ⟨wb, wo + yg, none⟩) ol oc, .int .i64 (yg : Nat), .int .i64 (ou : Nat), .slice ta tl tc] 65)).alloc (.cells #[.int .i64 ((p : Int) + 1), .int .i64 c0, .slice ya yl yc] 69)).alloc (.cells #[.int .i64 0, .slice none 0 0] 93)) y → y.heap[w.heap.size + 1]? = some (.cells #[.int .i64 ((p : Int) + 1), .int .i64 c0, .slice ya yl yc] 69 (0, 0))) := fun y hy => (hy.block _ (by omega)).trans ((Below.heap_alloc _ _ _ (by first | (simp; done) | (simp; omega))).trans (boxN _ _ _ _ (by simp)))
  have lT : w.heap.size + 1 < w.heap.size + 1 + 1 + 1 := by omega
  have XR : Hid (∀ y, Below (w.heap.size + 1 + 1 + 1) (((w.alloc (.cells #[.slice ca cn cc, .slice (some ⟨wb, wo, none⟩) wl wc, .int .i64 (yg : Nat), .int .i64 (tp : Nat), .int .i64 (od : Nat), .slice da dl dc, .slice (some ⟨wb, wo, none⟩) yg pc, .int .i64 0, .int .i64 (tp : Nat), .slice (some ⟨wb, wo + yg, none⟩) ol oc, .int .i64 (yg : Nat), .int .i64 (ou : Nat), .slice ta tl tc] 65)).alloc (.cells #[.int .i64 ((p : Int) + 1), .int .i64 c0, .slice ya yl yc] 69)).alloc (.cells #[.int .i64 0, .slice none 0 0] 93)) y → y.heap[w.heap.size + 1 + 1]? = some (.cells #[.int .i64 0, .slice none 0 0] 93 (0, 0))) := fun y hy => (hy.block _ (by omega)).trans (boxN _ _ _ _ (by simp))
  have lR : w.heap.size + 1 + 1 < w.heap.size + 1 + 1 + 1 := by omega
  go_enter Tryz.func92, Tryz.ntmps92
  go_wp2_with fail
  have KS : Hid (∀ x, Below (w.heap.size + 1 + 1 + 1) (((w.alloc (.cells #[.slice ca cn cc, .slice (some ⟨wb, wo, none⟩) wl wc, .int .i64 (yg : Nat), .int .i64 (tp : Nat), .int .i64 (od : Nat), .slice da dl dc, .slice (some ⟨wb, wo, none⟩) yg pc, .int .i64 0, .int .i64 (tp : Nat), .slice (some ⟨wb, wo + yg, none⟩) ol oc, .int .i64 (yg : Nat), .int .i64 (ou : Nat), .slice ta tl tc] 65)).alloc (.cells #[.int .i64 ((p : Int) + 1), .int .i64 c0, .slice ya yl yc] 69)).alloc (.cells #[.int .i64 0, .slice none 0 0] 93)) x → x.cell? ⟨w.heap.size, 0, none⟩ = some (.slice ca cn cc) ∧ x.cell? ⟨w.heap.size, 1, none⟩ = some (.slice (some ⟨wb, wo, none⟩) wl wc) ∧ x.cell? ⟨w.heap.size, 2, none⟩ = some (.int .i64 (yg : Nat)) ∧ x.cell? ⟨w.heap.size, 3, none⟩ = some (.int .i64 (tp : Nat)) ∧ x.cell? ⟨w.heap.size, 4, none⟩ = some (.int .i64 (od : Nat)) ∧ x.cell? ⟨w.heap.size, 5, none⟩ = some (.slice da dl dc) ∧ x.cell? ⟨w.heap.size, 6, none⟩ = some (.slice (some ⟨wb, wo, none⟩) yg pc) ∧ x.cell? ⟨w.heap.size, 7, none⟩ = some (.int .i64 0) ∧ x.cell? ⟨w.heap.size, 8, none⟩ = some (.int .i64 (tp : Nat)) ∧ x.cell? ⟨w.heap.size, 9, none⟩ = some (.slice (some ⟨wb, wo + yg, none⟩) ol oc) ∧ x.cell? ⟨w.heap.size, 10, none⟩ = some (.int .i64 (yg : Nat)) ∧ x.cell? ⟨w.heap.size, 11, none⟩ = some (.int .i64 (ou : Nat)) ∧ x.cell? ⟨w.heap.size, 12, none⟩ = some (.slice ta tl tc) ∧ x.cell? ⟨w.heap.size + 1, 0, none⟩ = some (.int .i64 ((p : Int) + 1)) ∧ x.cell? ⟨w.heap.size + 1, 1, none⟩ = some (.int .i64 c0) ∧ x.cell? ⟨w.heap.size + 1, 2, none⟩ = some (.slice ya yl yc)) := fun x hx => ⟨(boxG (XM.out x hx) 0).1, (boxG (XM.out x hx) 1).1, (boxG (XM.out x hx) 2).1, (boxG (XM.out x hx) 3).1, (boxG (XM.out x hx) 4).1, (boxG (XM.out x hx) 5).1, (boxG (XM.out x hx) 6).1, (boxG (XM.out x hx) 7).1, (boxG (XM.out x hx) 8).1, (boxG (XM.out x hx) 9).1, (boxG (XM.out x hx) 10).1, (boxG (XM.out x hx) 11).1, (boxG (XM.out x hx) 12).1, (boxG (XT.out x hx) 0).1, (boxG (XT.out x hx) 1).1, (boxG (XT.out x hx) 2).1⟩
  refine wp_region_held_drew (S := fun x => x.cell? ⟨w.heap.size, 0, none⟩ = some (.slice ca cn cc) ∧ x.cell? ⟨w.heap.size, 1, none⟩ = some (.slice (some ⟨wb, wo, none⟩) wl wc) ∧ x.cell? ⟨w.heap.size, 2, none⟩ = some (.int .i64 (yg : Nat)) ∧ x.cell? ⟨w.heap.size, 3, none⟩ = some (.int .i64 (tp : Nat)) ∧ x.cell? ⟨w.heap.size, 4, none⟩ = some (.int .i64 (od : Nat)) ∧ x.cell? ⟨w.heap.size, 5, none⟩ = some (.slice da dl dc) ∧ x.cell? ⟨w.heap.size, 6, none⟩ = some (.slice (some ⟨wb, wo, none⟩) yg pc) ∧ x.cell? ⟨w.heap.size, 7, none⟩ = some (.int .i64 0) ∧ x.cell? ⟨w.heap.size, 8, none⟩ = some (.int .i64 (tp : Nat)) ∧ x.cell? ⟨w.heap.size, 9, none⟩ = some (.slice (some ⟨wb, wo + yg, none⟩) ol oc) ∧ x.cell? ⟨w.heap.size, 10, none⟩ = some (.int .i64 (yg : Nat)) ∧ x.cell? ⟨w.heap.size, 11, none⟩ = some (.int .i64 (ou : Nat)) ∧ x.cell? ⟨w.heap.size, 12, none⟩ = some (.slice ta tl tc) ∧ x.cell? ⟨w.heap.size + 1, 0, none⟩ = some (.int .i64 ((p : Int) + 1)) ∧ x.cell? ⟨w.heap.size + 1, 1, none⟩ = some (.int .i64 c0) ∧ x.cell? ⟨w.heap.size + 1, 2, none⟩ = some (.slice ya yl yc)) (by kernel_rfl) ?_ (fun hHeld => ?_)
  · exact KS.out _ (bdrew bR)
  refine tV 0 (v := ?_) rfl (by kernel_rfl) (fun _ _ _ h => h) ?_ (by assumption) ?_
  rotate_left 1
  · (intro x hSx; (try dsimp only at hSx); go_simp; try with_reducible rfl)
  try simp only [Act.put, zgT, zg0, zsT, zs0, zsS]
  refine tV 1 (v := ?_) rfl (by kernel_rfl) (fun _ _ _ h => h) ?_ (by assumption) ?_
  rotate_left 1
  · (intro x hSx; (try dsimp only at hSx); go_simp; try with_reducible rfl)
  try simp only [Act.put, zgT, zg0, zgS, zsT, zs0, zsS]
  refine tV 2 (v := ?_) rfl (by kernel_rfl) (fun _ _ _ h => h) ?_ (by assumption) ?_
  rotate_left 1
  · (intro x hSx; (try dsimp only at hSx); go_simp; try with_reducible rfl)
  try simp only [Act.put, zgT, zg0, zgS, zsT, zs0, zsS]
  refine tV 3 (v := ?_) rfl (by kernel_rfl) (fun _ _ _ h => h) ?_ (by assumption) ?_
  rotate_left 1
  · (intro x hSx; (try dsimp only at hSx); go_simp; try with_reducible rfl)
  try simp only [Act.put, zgT, zg0, zgS, zsT, zs0, zsS]
  refine tV 4 (v := ?_) rfl (by kernel_rfl) (fun _ _ _ h => h) ?_ (by assumption) ?_
  rotate_left 1
  · (intro x hSx; (try dsimp only at hSx); go_simp; try with_reducible rfl)
  try simp only [Act.put, zgT, zg0, zgS, zsT, zs0, zsS]
  refine tV 6 (v := ?_) rfl (by kernel_rfl) (fun _ _ _ h => h) ?_ (by assumption) ?_
  rotate_left 1
  · (intro x hSx; (try dsimp only at hSx); go_simp; try with_reducible rfl)
  try simp only [Act.put, zgT, zg0, zgS, zsT, zs0, zsS]
  refine tV 7 (v := ?_) rfl (by kernel_rfl) (fun _ _ _ h => h) ?_ (by assumption) ?_
  rotate_left 1
  · (intro x hSx; (try dsimp only at hSx); go_simp; try with_reducible rfl)
  try simp only [Act.put, zgT, zg0, zgS, zsT, zs0, zsS]
  refine wpAnyH_ready (rs := [5]) (by kernel_rfl) (by simp) ?_
  refine AllReadyH.cons rfl (fun K hK => ?_) AllReadyH.nil
  go_simp
  go_at_call 118
  have BP : Hid (Below (w.heap.size + 1 + 1 + 1) (((w.alloc (.cells #[.slice ca cn cc, .slice (some ⟨wb, wo, none⟩) wl wc, .int .i64 (yg : Nat), .int .i64 (tp : Nat), .int .i64 (od : Nat), .slice da dl dc, .slice (some ⟨wb, wo, none⟩) yg pc, .int .i64 0, .int .i64 (tp : Nat), .slice (some ⟨wb, wo + yg, none⟩) ol oc, .int .i64 (yg : Nat), .int .i64 (ou : Nat), .slice ta tl tc] 65)).alloc (.cells #[.int .i64 ((p : Int) + 1), .int .i64 c0, .slice ya yl yc] 69)).alloc (.cells #[.int .i64 0, .slice none 0 0] 93)) (((w.alloc (.cells #[.slice ca cn cc, .slice (some ⟨wb, wo, none⟩) wl wc, .int .i64 (yg : Nat), .int .i64 (tp : Nat), .int .i64 (od : Nat), .slice da dl dc, .slice (some ⟨wb, wo, none⟩) yg pc, .int .i64 0, .int .i64 (tp : Nat), .slice (some ⟨wb, wo + yg, none⟩) ol oc, .int .i64 (yg : Nat), .int .i64 (ou : Nat), .slice ta tl tc] 65)).alloc (.cells #[.int .i64 ((p : Int) + 1), .int .i64 c0, .slice ya yl yc] 69)).alloc (.cells #[.int .i64 0, .slice none 0 0] 93)).drew) := (bdrew bR)
  refine (insideImpl ca cn cc wb wo wl wc yg tp od da dl dc pc ol oc ou ta tl tc p c0 ya yl yc _ h1 h2 h3).mono ?_
  rintro e w1 ⟨ra, rc, rfl, hra, hb⟩
  have hq : Below (w.heap.size + 1 + 1 + 1) (((w.alloc (.cells #[.slice ca cn cc, .slice (some ⟨wb, wo, none⟩) wl wc, .int .i64 (yg : Nat), .int .i64 (tp : Nat), .int .i64 (od : Nat), .slice da dl dc, .slice (some ⟨wb, wo, none⟩) yg pc, .int .i64 0, .int .i64 (tp : Nat), .slice (some ⟨wb, wo + yg, none⟩) ol oc, .int .i64 (yg : Nat), .int .i64 (ou : Nat), .slice ta tl tc] 65)).alloc (.cells #[.int .i64 ((p : Int) + 1), .int .i64 c0, .slice ya yl yc] 69)).alloc (.cells #[.int .i64 0, .slice none 0 0] 93)) w1 := BP.out.trans (Below.mono hb (Nat.le_trans hz BP.out.size))
  have hzn : w.heap.size + 1 + 1 + 1 ≤ w1.heap.size := Nat.le_trans hz hq.size
  replace B := lF B hq hzn
  replace KS := lF KS hq hzn
  replace XM := lF XM hq hzn
  replace lM := Nat.lt_of_lt_of_le lM hzn
  replace XT := lF XT hq hzn
  replace lT := Nat.lt_of_lt_of_le lT hzn
  replace XR := lF XR hq hzn
  replace lR := Nat.lt_of_lt_of_le lR hzn
  clear hq BP hz
  have hz : w1.heap.size ≤ w1.heap.size := Nat.le_refl _
  clear hb
  go_wp2_with fail
  have RV : Hid (IntsAt G w1 ra yl ((ws.take (p + hdN c0 + yl)).drop (p + hdN c0))) := by
    have hs := IntsAt.sub (HW.out.later (B.out w1 bR)) (p + hdN c0) (p + hdN c0 + yl) (by omega) (by omega)
    rw [show p + hdN c0 + yl - (p + hdN c0) = yl by omega] at hs
    by_cases h0 : 0 < yl
    · rw [hra h0]; exact hs
    · exact ⟨hs.size, hs.room, .inl (by omega), hs.fits⟩
  clear hra
  obtain ⟨vs, hvs⟩ : ∃ vs, (ws.take (p + hdN c0 + yl)).drop (p + hdN c0) = vs := ⟨_, rfl⟩
  have VE : Hid (∀ k, k < yl → vs.getD k 0 = ws.getD (p + hdN c0 + k) 0) := fun k hk => by rw [← hvs, getD_drop, getD_take (by omega)]
  rw [hvs] at RV
  clear hvs
  have h31 : w.heap.size + 1 + 1 + 1 ≤ w1.heap.size := by have := lR; omega
  refine hK.out _ _ (KS.out _ bR) (fun hHeld2 => ?_)
  clear hK K
  try simp only [Act.put, zgT, zg0, zgS, zsT, zs0, zsS]
  refine wpAnyH_ready (rs := [8]) (by kernel_rfl) (by simp) ?_
  refine AllReadyH.cons rfl (fun K hK => ?_) AllReadyH.nil
  go_simp
  go_at_call 117
  have BP : Hid (Below (w1.heap.size) w1 w1) := bR
  refine (allSeenImpl ca cn cc wb wo wl wc yg tp od da dl dc pc ol oc ou ta tl tc ra yl rc ya yl yc T ty vs _ (H.out.later (B.out _ BP.out)) IN.out hl (RV.out.later BP.out) (HT.out.later (B.out _ BP.out)) (Nat.le_refl _) (by omega)).mono ?_
  rintro e w2 ⟨g, rfl, hg, hg2, hwv, hb⟩
  have hgw : w1.heap.size ≤ g := Nat.le_trans BP.out.size hg
  have HWV : Hid (WrV w2 g ((List.range yl).map fun i => seeV T (ty.getD i 0) (vs.getD i 0))) := hwv
  clear hwv
  have hq : Below (w1.heap.size) w1 w2 := BP.out.trans (Below.mono hb (Nat.le_trans hz BP.out.size))
  have hzn : w1.heap.size ≤ w2.heap.size := Nat.le_trans hz hq.size
  replace B := lF B hq hzn
  replace KS := lF KS hq hzn
  replace XM := lF XM hq hzn
  replace lM := Nat.lt_of_lt_of_le lM hzn
  replace XT := lF XT hq hzn
  replace lT := Nat.lt_of_lt_of_le lT hzn
  replace XR := lF XR hq hzn
  replace lR := Nat.lt_of_lt_of_le lR hzn
  clear hq BP hz
  have hz : w2.heap.size ≤ w2.heap.size := Nat.le_refl _
  clear hb
  go_wp2_with fail
  have VG : Hid (∀ y, Below (w2.heap.size) w2 y → WrV y g ((List.range yl).map fun i => seeV T (ty.getD i 0) (vs.getD i 0))) := fun y hy => HWV.out.later hy hg2
  clear HWV
  refine hK.out _ _ (KS.out _ bR) (fun hHeld3 => ?_)
  clear hK K
  try simp only [Act.put, zgT, zg0, zgS, zsT, zs0, zsS]
  refine tV 9 (v := ?_) rfl (by kernel_rfl) (fun _ _ _ h => h) ?_ (by assumption) ?_
  rotate_left 1
  · (intro x hSx; (try dsimp only at hSx); go_simp; try with_reducible rfl)
  try simp only [Act.put, zgT, zg0, zgS, zsT, zs0, zsS]
  refine wpAnyH_ready (rs := [10]) (by kernel_rfl) (by simp) ?_
  refine AllReadyH.cons rfl (fun K hK => ?_) AllReadyH.nil
  have hRg : w.heap.size + 1 + 1 ≠ g := by omega
  obtain ⟨kR0, kR1⟩ := bk2 (XR.out w2 bR)
  obtain ⟨qkR0, qkR1⟩ := bq2 (XR.out w2 bR)
  go_simp
  clear kR0 kR1 qkR0 qkR1
  have hw0 : w.heap.size ≤ w.heap.size + 1 + 1 := (by first | omega | (simp; done) | (simp; omega) | (simp at *; omega))
  replace XM := lS XM lM (((w2.setCell ⟨w.heap.size + 1 + 1, 0, none⟩ (.int .i64 c0)).setCell ⟨w.heap.size + 1 + 1, 1, none⟩ (.slice (some ⟨g, 0, none⟩) yl yl))) ((Below.heap_setCell _ _ _ _ (by first | omega | (simp; done) | (simp; omega))).trans ((Below.heap_setCell _ _ _ _ (by first | omega | (simp; done) | (simp; omega)))))
  replace XT := lS XT lT (((w2.setCell ⟨w.heap.size + 1 + 1, 0, none⟩ (.int .i64 c0)).setCell ⟨w.heap.size + 1 + 1, 1, none⟩ (.slice (some ⟨g, 0, none⟩) yl yl))) ((Below.heap_setCell _ _ _ _ (by first | omega | (simp; done) | (simp; omega))).trans ((Below.heap_setCell _ _ _ _ (by first | omega | (simp; done) | (simp; omega)))))
  replace XR : Hid (∀ y, Below (w2.heap.size) ((w2.setCell ⟨w.heap.size + 1 + 1, 0, none⟩ (.int .i64 c0)).setCell ⟨w.heap.size + 1 + 1, 1, none⟩ (.slice (some ⟨g, 0, none⟩) yl yl)) y → y.heap[w.heap.size + 1 + 1]? = some (.cells #[.int .i64 c0, .slice (some ⟨g, 0, none⟩) yl yl] 93 (0, 0))) := fun y hy => (hy.block _ (by omega)).trans (boxS (boxS (XR.out w2 bR) 0 _) 1 _)
  clear KS
  replace VG : Hid (∀ y, Below (w2.heap.size) ((w2.setCell ⟨w.heap.size + 1 + 1, 0, none⟩ (.int .i64 c0)).setCell ⟨w.heap.size + 1 + 1, 1, none⟩ (.slice (some ⟨g, 0, none⟩) yl yl)) y → WrV y g ((List.range yl).map fun i => seeV T (ty.getD i 0) (vs.getD i 0))) := fun y hy => ((VG.out w2 bR).keep ((Below.heap_setCell _ _ _ _ (fun e => hRg e.symm)).trans (Below.heap_setCell _ _ _ _ (fun e => hRg e.symm)))).later hy hg2
  replace B : Hid (∀ y, Below (w2.heap.size) ((w2.setCell ⟨w.heap.size + 1 + 1, 0, none⟩ (.int .i64 c0)).setCell ⟨w.heap.size + 1 + 1, 1, none⟩ (.slice (some ⟨g, 0, none⟩) yl yl)) y → Below w.heap.size w y) := fun y hy => (((B.out w2 bR).setCell hw0 _).setCell hw0 _).trans (hy.mono (by first | omega | exact Nat.le_trans (B.out w2 bR).size hz | (have := (B.out w2 bR).size; omega)))
  replace hz : w2.heap.size ≤ ((w2.setCell ⟨w.heap.size + 1 + 1, 0, none⟩ (.int .i64 c0)).setCell ⟨w.heap.size + 1 + 1, 1, none⟩ (.slice (some ⟨g, 0, none⟩) yl yl)).heap.size := by first | (simp; done) | simpa using hz
  clear hw0
  have KS : Hid (∀ x, Below (w2.heap.size) ((w2.setCell ⟨w.heap.size + 1 + 1, 0, none⟩ (.int .i64 c0)).setCell ⟨w.heap.size + 1 + 1, 1, none⟩ (.slice (some ⟨g, 0, none⟩) yl yl)) x → x.cell? ⟨w.heap.size, 0, none⟩ = some (.slice ca cn cc) ∧ x.cell? ⟨w.heap.size, 1, none⟩ = some (.slice (some ⟨wb, wo, none⟩) wl wc) ∧ x.cell? ⟨w.heap.size, 2, none⟩ = some (.int .i64 (yg : Nat)) ∧ x.cell? ⟨w.heap.size, 3, none⟩ = some (.int .i64 (tp : Nat)) ∧ x.cell? ⟨w.heap.size, 4, none⟩ = some (.int .i64 (od : Nat)) ∧ x.cell? ⟨w.heap.size, 5, none⟩ = some (.slice da dl dc) ∧ x.cell? ⟨w.heap.size, 6, none⟩ = some (.slice (some ⟨wb, wo, none⟩) yg pc) ∧ x.cell? ⟨w.heap.size, 7, none⟩ = some (.int .i64 0) ∧ x.cell? ⟨w.heap.size, 8, none⟩ = some (.int .i64 (tp : Nat)) ∧ x.cell? ⟨w.heap.size, 9, none⟩ = some (.slice (some ⟨wb, wo + yg, none⟩) ol oc) ∧ x.cell? ⟨w.heap.size, 10, none⟩ = some (.int .i64 (yg : Nat)) ∧ x.cell? ⟨w.heap.size, 11, none⟩ = some (.int .i64 (ou : Nat)) ∧ x.cell? ⟨w.heap.size, 12, none⟩ = some (.slice ta tl tc) ∧ x.cell? ⟨w.heap.size + 1, 0, none⟩ = some (.int .i64 ((p : Int) + 1)) ∧ x.cell? ⟨w.heap.size + 1, 1, none⟩ = some (.int .i64 c0) ∧ x.cell? ⟨w.heap.size + 1, 2, none⟩ = some (.slice ya yl yc)) := fun x hx => ⟨(boxG (XM.out x hx) 0).1, (boxG (XM.out x hx) 1).1, (boxG (XM.out x hx) 2).1, (boxG (XM.out x hx) 3).1, (boxG (XM.out x hx) 4).1, (boxG (XM.out x hx) 5).1, (boxG (XM.out x hx) 6).1, (boxG (XM.out x hx) 7).1, (boxG (XM.out x hx) 8).1, (boxG (XM.out x hx) 9).1, (boxG (XM.out x hx) 10).1, (boxG (XM.out x hx) 11).1, (boxG (XM.out x hx) 12).1, (boxG (XT.out x hx) 0).1, (boxG (XT.out x hx) 1).1, (boxG (XT.out x hx) 2).1⟩
  refine hK.out _ _ (KS.out _ bR) (fun hHeld4 => ?_)
  clear hK K
  try simp only [Act.put, zgT, zg0, zgS, zsT, zs0, zsS]
  refine wpAnyH_done (by kernel_rfl) ?_ _
  clear hHeld hHeld2 hHeld3 hHeld4
  clear KS
  generalize ((w2.setCell ⟨w.heap.size + 1 + 1, 0, none⟩ (.int .i64 c0)).setCell ⟨w.heap.size + 1 + 1, 1, none⟩ (.slice (some ⟨g, 0, none⟩) yl yl)) = w3 at B VG XM XT XR hz ⊢
  have hzn : w2.heap.size ≤ w3.heap.size := Nat.le_trans hz (Below.size (Below.refl (w2.heap.size) w3))
  replace B := lF B (Below.refl (w2.heap.size) w3) hzn
  replace VG := lF VG (Below.refl (w2.heap.size) w3) hzn
  replace XM := lF XM (Below.refl (w2.heap.size) w3) hzn
  replace lM := Nat.lt_of_lt_of_le lM hzn
  replace XT := lF XT (Below.refl (w2.heap.size) w3) hzn
  replace lT := Nat.lt_of_lt_of_le lT hzn
  replace XR := lF XR (Below.refl (w2.heap.size) w3) hzn
  replace lR := Nat.lt_of_lt_of_le lR hzn
  clear hz
  have hz : w3.heap.size ≤ w3.heap.size := Nat.le_refl _
  obtain ⟨kM0, kM1, kM2, kM3, kM4, kM5, kM6, kM7, kM8, kM9, kM10, kM11, kM12⟩ := bk13 (XM.out w3 bR)
  obtain ⟨kT0, kT1, kT2⟩ := bk3 (XT.out w3 bR)
  obtain ⟨kR0, kR1⟩ := bk2 (XR.out w3 bR)
  go_wp2_with fail
  refine bodyPost_ret (v := .agg #[.int .i64 c0, .slice (some ⟨g, 0, none⟩) yl yl]) ?_ rfl ?_
  · simp [results, Tryz.results92, go_sem, *]
  · clear kM0 kM1 kM2 kM3 kM4 kM5 kM6 kM7 kM8 kM9 kM10 kM11 kM12 kT0 kT1 kT2 kR0 kR1
    have e9 : ((List.range yl).map fun i => seeV T (ty.getD i 0) (vs.getD i 0)) = (List.range yl).map fun i => seeV T (ty.getD i 0) (ws.getD (p + hdN c0 + i) 0) := List.map_congr_left fun i hi => by rw [VE.out i (List.mem_range.1 hi)]
    exact ⟨g, rfl, by omega, Nat.lt_of_lt_of_le hg2 hzn, by rw [← e9]; exact VG.out _ bR, B.out _ bR⟩

theorem objT_p {ws : List Int} {T : List Th} (p : Nat) (c0 : Int) (ty : List Int) : objT ws T ((p : Int) + 1, c0, ty) = (c0, (List.range ty.length).map fun i => seeV T (ty.getD i 0) (ws.getD (p + hdN c0 + i) 0)) := by
  unfold objT plc
  simp only [show ((p : Int) + 1).toNat - 1 = p by omega]
set_option maxRecDepth 100000 in
set_option maxHeartbeats 8000000 in
theorem mappedObj (ca : Option Addr) (cn cc wb wo wl wc yg tp od : Nat) (da : Option Addr) (dl dc pc ol oc ou : Nat) (ta : Option Addr) (tl tc : Nat) (T : List Th) (ws : List Int) (w : World) {D G : Nat → Prop} (h : SlAt thR D w ta tl T) (hi : Inc T) (hl : tl ≤ 1000) (hw : IntsAt G w (some ⟨wb, wo, none⟩) wl ws) (hto : ∀ t ∈ T, 1 ≤ t.1 ∧ t.1.toNat - 1 + tSz t ≤ wl) (h2 : wl ≤ wc) (h3 : wl ≤ 1000) :
    Calls Tryz.prog 91 #[.slice ta tl tc, .func (.func 92) #[.agg #[.slice ca cn cc, .slice (some ⟨wb, wo, none⟩) wl wc, .int .i64 (yg : Nat), .int .i64 (tp : Nat), .int .i64 (od : Nat), .slice da dl dc, .slice (some ⟨wb, wo, none⟩) yg pc, .int .i64 0, .int .i64 (tp : Nat), .slice (some ⟨wb, wo + yg, none⟩) ol oc, .int .i64 (yg : Nat), .int .i64 (ou : Nat), .slice ta tl tc]] #[]] w fun e w' => ∃ bs, e = .returned (.slice (some ⟨w.heap.size, 0, none⟩) tl tl) ∧ GrRow w' w.heap.size tl (objsT ws T) tl bs ∧ w.heap.size < w'.heap.size ∧ Below w.heap.size w w' := by
  have hmk := make_Obj tl (by omega)
  have H : Hid (SlAt thR D w ta tl T) := h
  have TS : Hid (T.length = tl) := h.size
  have IN : Hid (Inc T) := hi
  have HW : Hid (IntsAt G w (some ⟨wb, wo, none⟩) wl ws) := hw
  have TO : Hid (∀ t ∈ T, 1 ≤ t.1 ∧ t.1.toNat - 1 + tSz t ≤ wl) := hto
  obtain ⟨gs, hgs⟩ : ∃ gs, objsT ws T = gs := ⟨_, rfl⟩
  have GS : Hid (objsT ws T = gs) := hgs
  rw [hgs]
  clear h hi hw hto hgs
  go_enter Tryz.func91, Tryz.ntmps91
  go_wp2_with fail
  go_loopw [13] (fun t wr => ∃ (k : Nat) (bs : Nat → Nat), k ≤ tl ∧ t = .int .i64 k ∧ GrRow wr w.heap.size tl gs k bs ∧ w.heap.size < wr.heap.size ∧ Below w.heap.size w wr) (fun t _ => tl - (intOf t).toNat)
  case atStart =>
    exact ⟨0, _, Nat.zero_le _, rfl, GrRow.made w _ tl _ gs, by simp, by go_grown⟩
  case round =>
    obtain ⟨k, bs, hk, rfl, hrow, hgl, hb⟩ := hrel
    have HR : Hid (GrRow wr w.heap.size tl gs k bs) := hrow
    have HB : Hid (Below w.heap.size w wr) := hb
    clear hrow hb
    by_cases hlt : k < tl
    · obtain ⟨t, ht⟩ : ∃ t, T[k]? = some t := ⟨T[k]'(by rw [TS.out]; exact hlt), List.getElem?_eq_getElem _⟩
      have hto := TO.out t (List.mem_of_getElem? ht)
      have HG : Hid (gs[k]? = some (objT ws T t)) := by show _ = _; rw [← GS.out, objsT, List.getElem?_map, ht]; rfl
      obtain ⟨b, off, rfl, _, us, hvv, hc⟩ := (H.out.later HB.out).at k t ht
      obtain ⟨x0, x1, ty⟩ := t
      obtain ⟨_, _, rfl, ⟨rfl, hx0⟩, _, _, rfl, ⟨rfl, hx1⟩, ya, yl, yc, rfl, hy⟩ := hvv
      have lo := hto.1
      have hhi := hto.2
      simp only [tSz] at lo hhi
      rw [hy.size] at hhi
      obtain ⟨p, rfl⟩ : ∃ p : Nat, x0 = (p : Int) + 1 := ⟨x0.toNat - 1, by omega⟩
      have hp1 : p + hdN x1 + yl ≤ wl := by omega
      have YS : Hid (ty.length = yl) := hy.size
      rw [objT_p, YS.out] at HG
      have HY : Hid (IntsAt D wr ya yl ty) := hy.ints.mono (fun b h _ => h)
      have c0x : wr.cell? ⟨b, off + k * 3, none⟩ = some (.int .i64 ((p : Int) + 1)) := hc 0 _ rfl
      have c1x : wr.cell? ⟨b, off + k * 3 + 1, none⟩ = some (.int .i64 x1) := hc 1 _ rfl
      have c2x : wr.cell? ⟨b, off + k * 3 + 2, none⟩ = some (.slice ya yl yc) := hc 2 _ rfl
      have BL : Hid (Below wr.heap.size wr (wr.alloc (.cells #[.int .i64 ((p : Int) + 1), .int .i64 x1, .slice ya yl yc] 69))) := (Below.refl _ _).alloc (Nat.le_refl _) _
      have BL0 : Hid (Below w.heap.size w (wr.alloc (.cells #[.int .i64 ((p : Int) + 1), .int .i64 x1, .slice ya yl yc] 69))) := HB.out.trans (BL.out.mono HB.out.size)
      have X1 : Hid (i64B x1) := hx1
      clear ht hc lo hhi hy hx0 hx1 hto
      go_wp2_with fail
      refine (objImpl ca cn cc wb wo wl wc yg tp od da dl dc pc ol oc ou (some ⟨b, off, none⟩) tl tc p x1 ya yl yc T ty ws _ (H.out.later BL0.out) IN.out hl (HW.out.later BL0.out) (HY.out.later BL.out) hp1 h2 h3).mono ?_
      rintro e w2 ⟨g, rfl, hg, hg2, hwv, hb2⟩
      have B2 : Hid (Below wr.heap.size wr w2) := BL.out.trans (hb2.mono BL.out.size)
      have hg1 : wr.heap.size ≤ g := Nat.le_trans BL.out.size hg
      have HF : Hid (GrRow ((w2.setCell ⟨w.heap.size, k * 2, none⟩ (.int .i64 x1)).setCell ⟨w.heap.size, k * 2 + 1, none⟩ (.slice (some ⟨g, 0, none⟩) yl yl)) w.heap.size tl gs (k + 1) (fun j => if j = k then g else bs j)) :=
        HR.out.step hgl B2.out hlt HG.out X1.out hwv hg1 hg2 (by simp)
      obtain ⟨⟨q0, hq0⟩, hf0⟩ := (HR.out.later hgl B2.out).free (k * 2) (by omega)
      obtain ⟨⟨q1, hq1⟩, hf1⟩ := (HR.out.later hgl B2.out).free (k * 2 + 1) (by omega)
      have B3 : Hid (Below w.heap.size w w2) := HB.out.trans (B2.out.mono HB.out.size)
      have hgl2 : w.heap.size < w2.heap.size := Nat.lt_of_lt_of_le hgl B2.out.size
      clear hb2 hwv
      go_wp2_with fail
      exact ⟨⟨k + 1, _, by omega, by go_num, HF.out, by simpa using hgl2, (B3.out.setCell (Nat.le_refl _) _).setCell (Nat.le_refl _) _⟩, by simp [intOf]; omega⟩
    · have ek : tl = k := by omega
      subst ek
      go_wp2_with fail
      go_ret
      exact ⟨bs, rfl, HR.out, hgl, HB.out⟩

set_option maxRecDepth 100000 in
set_option maxHeartbeats 8000000 in
theorem objsImpl (ca : Option Addr) (cn cc wb wo wl wc yg tp od : Nat) (da : Option Addr) (dl dc pc ol oc ou : Nat) (ta : Option Addr) (tl tc : Nat) (T : List Th) (ws : List Int) (w : World) {D G : Nat → Prop} (h : SlAt thR D w ta tl T) (hi : Inc T) (hl : tl ≤ 1000) (hw : IntsAt G w (some ⟨wb, wo, none⟩) wl ws) (hto : ∀ t ∈ T, 1 ≤ t.1 ∧ t.1.toNat - 1 + tSz t ≤ wl) (h2 : wl ≤ wc) (h3 : wl ≤ 1000) :
    Calls Tryz.prog 55 #[.agg #[.slice ca cn cc, .slice (some ⟨wb, wo, none⟩) wl wc, .int .i64 (yg : Nat), .int .i64 (tp : Nat), .int .i64 (od : Nat), .slice da dl dc, .slice (some ⟨wb, wo, none⟩) yg pc, .int .i64 0, .int .i64 (tp : Nat), .slice (some ⟨wb, wo + yg, none⟩) ol oc, .int .i64 (yg : Nat), .int .i64 (ou : Nat), .slice ta tl tc]] w fun e w' => ∃ g bs, e = .returned (.slice (some ⟨g, 0, none⟩) tl tl) ∧ w.heap.size ≤ g ∧ g < w'.heap.size ∧ GrRow w' g tl (objsT ws T) tl bs ∧ Below w.heap.size w w' := by
  have H : Hid (SlAt thR D w ta tl T) := h
  have IN : Hid (Inc T) := hi
  have HW : Hid (IntsAt G w (some ⟨wb, wo, none⟩) wl ws) := hw
  have TO : Hid (∀ t ∈ T, 1 ≤ t.1 ∧ t.1.toNat - 1 + tSz t ≤ wl) := hto
  clear h hi hw hto
  have hz : w.heap.size + 1 ≤ (w.alloc (.cells #[.slice ca cn cc, .slice (some ⟨wb, wo, none⟩) wl wc, .int .i64 (yg : Nat), .int .i64 (tp : Nat), .int .i64 (od : Nat), .slice da dl dc, .slice (some ⟨wb, wo, none⟩) yg pc, .int .i64 0, .int .i64 (tp : Nat), .slice (some ⟨wb, wo + yg, none⟩) ol oc, .int .i64 (yg : Nat), .int .i64 (ou : Nat), .slice ta tl tc] 65)).heap.size := by simp
  have B : Hid (∀ y, Below (w.heap.size + 1) (w.alloc (.cells #[.slice ca cn cc, .slice (some ⟨wb, wo, none⟩) wl wc, .int .i64 (yg : Nat), .int .i64 (tp : Nat), .int .i64 (od : Nat), .slice da dl dc, .slice (some ⟨wb, wo, none⟩) yg pc, .int .i64 0, .int .i64 (tp : Nat), .slice (some ⟨wb, wo + yg, none⟩) ol oc, .int .i64 (yg : Nat), .int .i64 (ou : Nat), .slice ta tl tc] 65)) y → Below w.heap.size w y) := fun y hy => (bR.alloc (by first | exact Nat.le_refl _ | (simp; done) | (simp; omega)) _).trans (hy.mono (by omega))
  have XM : Hid (∀ y, Below (w.heap.size + 1) (w.alloc (.cells #[.slice ca cn cc, .slice (some ⟨wb, wo, none⟩) wl wc, .int .i64 (yg : Nat), .int .i64 (tp : Nat), .int .i64 (od : Nat), .slice da dl dc, .slice (some ⟨wb, wo, none⟩) yg pc, .int .i64 0, .int .i64 (tp : Nat), .slice (some ⟨wb, wo + yg, none⟩) ol oc, .int .i64 (yg : Nat), .int .i64 (ou : Nat), .slice ta tl tc] 65)) y → y.heap[w.heap.size]? = some (.cells #[.slice ca cn cc, .slice (some ⟨wb, wo, none⟩) wl wc, .int .i64 (yg : Nat), .int .i64 (tp : Nat), .int .i64 (od : Nat), .slice da dl dc, .slice (some ⟨wb, wo, none⟩) yg pc, .int .i64 0, .int .i64 (tp : Nat), .slice (some ⟨wb, wo + yg, none⟩) ol oc, .int .i64 (yg : Nat), .int .i64 (ou : Nat), .slice ta tl tc] 65 (0, 0))) := fun y hy => (hy.block _ (by omega)).trans (boxN _ _ _ _ (by simp))
  have lM : w.heap.size < w.heap.size + 1 := by omega
  go_enter Tryz.func55, Tryz.ntmps55
  go_wp2_with fail
  have BP : Hid (Below (w.heap.size + 1) (w.alloc (.cells #[.slice ca cn cc, .slice (some ⟨wb, wo, none⟩) wl wc, .int .i64 (yg : Nat), .int .i64 (tp : Nat), .int .i64 (od : Nat), .slice da dl dc, .slice (some ⟨wb, wo, none⟩) yg pc, .int .i64 0, .int .i64 (tp : Nat), .slice (some ⟨wb, wo + yg, none⟩) ol oc, .int .i64 (yg : Nat), .int .i64 (ou : Nat), .slice ta tl tc] 65)) (w.alloc (.cells #[.slice ca cn cc, .slice (some ⟨wb, wo, none⟩) wl wc, .int .i64 (yg : Nat), .int .i64 (tp : Nat), .int .i64 (od : Nat), .slice da dl dc, .slice (some ⟨wb, wo, none⟩) yg pc, .int .i64 0, .int .i64 (tp : Nat), .slice (some ⟨wb, wo + yg, none⟩) ol oc, .int .i64 (yg : Nat), .int .i64 (ou : Nat), .slice ta tl tc] 65))) := bR
  refine (mappedObj ca cn cc wb wo wl wc yg tp od da dl dc pc ol oc ou ta tl tc T ws _ (H.out.later (B.out _ BP.out)) IN.out hl (HW.out.later (B.out _ BP.out)) TO.out h2 h3).mono ?_
  rintro e w1 ⟨bs, rfl, hrow, hgl, hb⟩
  have e8 : (w.alloc (.cells #[.slice ca cn cc, .slice (some ⟨wb, wo, none⟩) wl wc, .int .i64 (yg : Nat), .int .i64 (tp : Nat), .int .i64 (od : Nat), .slice da dl dc, .slice (some ⟨wb, wo, none⟩) yg pc, .int .i64 0, .int .i64 (tp : Nat), .slice (some ⟨wb, wo + yg, none⟩) ol oc, .int .i64 (yg : Nat), .int .i64 (ou : Nat), .slice ta tl tc] 65)).heap.size = w.heap.size + 1 := by simp
  rw [e8] at hrow hgl
  have HR : Hid (GrRow w1 (w.heap.size + 1) tl (objsT ws T) tl bs) := hrow
  clear e8
  have hq : Below (w.heap.size + 1) (w.alloc (.cells #[.slice ca cn cc, .slice (some ⟨wb, wo, none⟩) wl wc, .int .i64 (yg : Nat), .int .i64 (tp : Nat), .int .i64 (od : Nat), .slice da dl dc, .slice (some ⟨wb, wo, none⟩) yg pc, .int .i64 0, .int .i64 (tp : Nat), .slice (some ⟨wb, wo + yg, none⟩) ol oc, .int .i64 (yg : Nat), .int .i64 (ou : Nat), .slice ta tl tc] 65)) w1 := BP.out.trans (Below.mono hb (Nat.le_trans hz BP.out.size))
  have hzn : w.heap.size + 1 ≤ w1.heap.size := Nat.le_trans hz hq.size
  replace B := lF B hq hzn
  replace XM := lF XM hq hzn
  replace lM := Nat.lt_of_lt_of_le lM hzn
  clear hq BP hz
  have hz : w1.heap.size ≤ w1.heap.size := Nat.le_refl _
  clear hb hrow
  obtain ⟨kM0, kM1, kM2, kM3, kM4, kM5, kM6, kM7, kM8, kM9, kM10, kM11, kM12⟩ := bk13 (XM.out w1 bR)
  go_wp2_with fail
  go_ret
  exact ⟨w.heap.size + 1, bs, by simp, by omega, hgl, HR.out, B.out w1 bR⟩


end Go.Proofs.YtjbmcdekhhbiaaaGreat
namespace Go.Proofs.YtjbmcdekhhbiaaaGreat
open Go.ChangeShapes Go.WideShapes Go.ChangeAt Go.RowKit
set_option linter.unusedVariables false

/-- The things of a memory, by their numbers; nothing, if it is not ok. -/
def objsV (L : List Cl) (m : Mm) : List Ob := if memB L m = true then objsT m.1 (thT L m) else []
theorem objsV_no {L : List Cl} {m : Mm} (h : memB L m = false) : objsV L m = [] := if_neg (by rw [h]; simp)
theorem objsV_yes {L : List Cl} {m : Mm} (h : memB L m = true) : objsV L m = objsT m.1 (thT L m) := if_pos h
/-- Things in memory of one's own. -/
def ObjO (w : World) (gs : List Ob) (e : Ending) (w' : World) : Prop :=
  ∃ (a : Option Addr) (g : Nat) (bs : Nat → Nat), e = .returned (.slice a gs.length gs.length) ∧ ((a = none ∧ gs = []) ∨ (a = some ⟨g, 0, none⟩ ∧ w.heap.size ≤ g ∧ g < w'.heap.size ∧ GrRow w' g gs.length gs gs.length bs)) ∧ Below w.heap.size w w'
set_option maxRecDepth 100000 in
set_option maxHeartbeats 8000000 in
theorem mobjsImpl (ca : Option Addr) (cn cc : Nat) (wa : Option Addr) (wl wc : Nat) (yg tp od : Int) (da : Option Addr) (dl dc : Nat) (ws : List Int) (cd : List Bool) (L : List Cl) (w : World) {D E G G2 : Nat → Prop} (h : ClsAt D E w ca cn L) (hw : IntsAt G w wa wl ws) (hc : SlAt boolR G2 w da dl cd) (hyg : i64B yg) (hl : wl ≤ 1048576) (hd : dl ≤ 1048576) (hcap : wl ≤ wc) : Calls Tryz.prog 20 #[.slice ca cn cc, .agg #[.slice wa wl wc, .int .i64 yg, .int .i64 tp, .int .i64 od, .slice da dl dc]] w (ObjO w (objsV L (ws, yg, tp, od, cd))) := by
  have H : Hid (ClsAt D E w ca cn L) := h
  have HW : Hid (IntsAt G w wa wl ws) := hw
  have HC : Hid (SlAt boolR G2 w da dl cd) := hc
  have WS : Hid (ws.length = wl) := hw.size
  have CS : Hid (cd.length = dl) := hc.size
  clear h hw hc
  have hz : w.heap.size + 1 ≤ (w.alloc (.cells #[.slice wa wl wc, .int .i64 yg, .int .i64 tp, .int .i64 od, .slice da dl dc] 29)).heap.size := by simp
  have B : Hid (∀ y, Below (w.heap.size + 1) (w.alloc (.cells #[.slice wa wl wc, .int .i64 yg, .int .i64 tp, .int .i64 od, .slice da dl dc] 29)) y → Below w.heap.size w y) := fun y hy => (bR.alloc (by first | exact Nat.le_refl _ | (simp; done) | (simp; omega)) _).trans (hy.mono (by omega))
  have XM : Hid (∀ y, Below (w.heap.size + 1) (w.alloc (.cells #[.slice wa wl wc, .int .i64 yg, .int .i64 tp, .int .i64 od, .slice da dl dc] 29)) y → y.heap[w.heap.size]? = some (.cells #[.slice wa wl wc, .int .i64 yg, .int .i64 tp, .int .i64 od, .slice da dl dc] 29 (0, 0))) := fun y hy => (hy.block _ (by omega)).trans (boxN _ _ _ _ (by simp))
  have lM : w.heap.size < w.heap.size + 1 := by omega
  go_enter Tryz.func20, Tryz.ntmps20
  go_wp2_with fail
  have BP : Hid (Below (w.heap.size + 1) (w.alloc (.cells #[.slice wa wl wc, .int .i64 yg, .int .i64 tp, .int .i64 od, .slice da dl dc] 29)) (w.alloc (.cells #[.slice wa wl wc, .int .i64 yg, .int .i64 tp, .int .i64 od, .slice da dl dc] 29))) := bR
  refine (memoryImpl _ _ _ _ _ _ yg tp od _ _ _ ws cd L _ (H.out.later (B.out _ BP.out)) (HW.out.later (B.out _ BP.out)) (HC.out.later (B.out _ BP.out)) hyg hl hd hcap).mono ?_
  rintro e w1 ⟨hno, hyes, hb⟩
  have hq : Below (w.heap.size + 1) (w.alloc (.cells #[.slice wa wl wc, .int .i64 yg, .int .i64 tp, .int .i64 od, .slice da dl dc] 29)) w1 := BP.out.trans (Below.mono hb (Nat.le_trans hz BP.out.size))
  have hzn : w.heap.size + 1 ≤ w1.heap.size := Nat.le_trans hz hq.size
  replace B := lF B hq hzn
  replace XM := lF XM hq hzn
  replace lM := Nat.lt_of_lt_of_le lM hzn
  clear hq BP hz
  have hz : w1.heap.size ≤ w1.heap.size := Nat.le_refl _
  clear hb
  cases hq : memB L (ws, yg, tp, od, cd)
  · obtain ⟨x0, y0, z0, x1, y1, z1, x2, x3, x4, x5, y5, z5, x6, y6, z6, x7, x8, x9, y9, z9, x10, x11, x12, y12, z12, rfl⟩ := hno hq
    clear hno hyes
    obtain ⟨kM0, kM1, kM2, kM3, kM4⟩ := bk5 (XM.out w1 bR)
    go_upto_region 2 with fail
    clear kM0 kM1 kM2 kM3 kM4
    have BP : Hid (Below (w1.heap.size) w1 (w1.alloc (.cells #[.slice x0 y0 z0, .slice x1 y1 z1, .int .i64 x2, .int .i64 x3, .int .i64 x4, .slice x5 y5 z5, .slice x6 y6 z6, .int .i64 x7, .int .i64 x8, .slice x9 y9 z9, .int .i64 x10, .int .i64 x11, .slice x12 y12 z12] 65))) := (bR.alloc (by first | exact hz | (simp; done) | (simp; omega) | (have := hz; simp at this ⊢; omega)) _)
    replace B := lA B BP
    replace XM := lA XM BP
    replace lM := lL lM
    have XA : Hid (∀ y, Below (w1.heap.size + 1) (w1.alloc (.cells #[.slice x0 y0 z0, .slice x1 y1 z1, .int .i64 x2, .int .i64 x3, .int .i64 x4, .slice x5 y5 z5, .slice x6 y6 z6, .int .i64 x7, .int .i64 x8, .slice x9 y9 z9, .int .i64 x10, .int .i64 x11, .slice x12 y12 z12] 65)) y → y.heap[w1.heap.size]? = some (.cells #[.slice x0 y0 z0, .slice x1 y1 z1, .int .i64 x2, .int .i64 x3, .int .i64 x4, .slice x5 y5 z5, .slice x6 y6 z6, .int .i64 x7, .int .i64 x8, .slice x9 y9 z9, .int .i64 x10, .int .i64 x11, .slice x12 y12 z12] 65 (0, 0))) := fun y hy => (hy.block _ (by omega)).trans (boxN _ _ _ _ (by simp))
    have lA : w1.heap.size < w1.heap.size + 1 := by omega
    replace hz : w1.heap.size + 1 ≤ ((w1.alloc (.cells #[.slice x0 y0 z0, .slice x1 y1 z1, .int .i64 x2, .int .i64 x3, .int .i64 x4, .slice x5 y5 z5, .slice x6 y6 z6, .int .i64 x7, .int .i64 x8, .slice x9 y9 z9, .int .i64 x10, .int .i64 x11, .slice x12 y12 z12] 65))).heap.size := by simp
    clear BP
    generalize (w1.alloc (.cells #[.slice x0 y0 z0, .slice x1 y1 z1, .int .i64 x2, .int .i64 x3, .int .i64 x4, .slice x5 y5 z5, .slice x6 y6 z6, .int .i64 x7, .int .i64 x8, .slice x9 y9 z9, .int .i64 x10, .int .i64 x11, .slice x12 y12 z12] 65)) = w2 at B XM XA hz ⊢
    have hzn : w1.heap.size + 1 ≤ w2.heap.size := Nat.le_trans hz (Below.size (Below.refl (w1.heap.size + 1) w2))
    replace B := lF B (Below.refl (w1.heap.size + 1) w2) hzn
    replace XM := lF XM (Below.refl (w1.heap.size + 1) w2) hzn
    replace lM := Nat.lt_of_lt_of_le lM hzn
    replace XA := lF XA (Below.refl (w1.heap.size + 1) w2) hzn
    replace lA := Nat.lt_of_lt_of_le lA hzn
    clear hz
    have hz : w2.heap.size ≤ w2.heap.size := Nat.le_refl _
    obtain ⟨kM0, kM1, kM2, kM3, kM4⟩ := bk5 (XM.out w2 bR)
    obtain ⟨kA0, kA1, kA2, kA3, kA4, kA5, kA6, kA7, kA8, kA9, kA10, kA11, kA12⟩ := bk13 (XA.out w2 bR)
    go_wp2_with fail
    go_ret
    rw [objsV_no hq]
    exact ⟨none, 0, fun _ => 0, rfl, .inl ⟨rfl, rfl⟩, B.out _ bR⟩
  have hB0 := (memB_ok hq).1
  have HB0 : Hid (Bnd L (ws, yg, tp, od, cd)) := hB0
  obtain ⟨wb, wo, yn, tn, on, ta, tc, rfl, rfl, rfl, rfl, rfl, hrow⟩ := hyes hq
  obtain ⟨k0, k1, k2, k3, k4, _⟩ := hB0
  have OK : Hid (clsOk L = true) := k0
  simp only [WS.out] at k1 k2 k3 k4
  have m1 : tn ≤ yn := by omega
  have m2 : yn ≤ on := by omega
  have m3 : on ≤ wl := by omega
  have m4 : wl ≤ 200 := by omega
  have HM : Hid (memB L (ws, (yn : Int), (tn : Int), (on : Int), cd) = true) := hq
  have TL0 : (thT L (ws, (yn : Int), (tn : Int), (on : Int), cd)).length ≤ wl := by have := thT_len HB0.out; simp only [WS.out] at this; exact this
  have TOK0 : Hid (∀ t ∈ thT L (ws, (yn : Int), (tn : Int), (on : Int), cd), TOk L (ws, (yn : Int), (tn : Int), (on : Int), cd) t) := (thT_ok HB0.out).1
  have INC0 : Hid (Inc (thT L (ws, (yn : Int), (tn : Int), (on : Int), cd))) := (thT_ok HB0.out).2.inc
  obtain ⟨T, hT⟩ : ∃ T, thT L (ws, (yn : Int), (tn : Int), (on : Int), cd) = T := ⟨_, rfl⟩
  have HT : Hid (thT L (ws, (yn : Int), (tn : Int), (on : Int), cd) = T) := hT
  rw [hT] at hrow TL0 TOK0 INC0
  rw [hT]
  obtain ⟨tl, htl⟩ : ∃ tl, T.length = tl := ⟨_, rfl⟩
  have TLE : Hid (T.length = tl) := htl
  rw [htl] at hrow TL0
  rw [htl]
  obtain ⟨ou, hou⟩ : ∃ ou, on - yn = ou := ⟨_, rfl⟩
  have OUE : Hid (on - yn = ou) := hou
  rw [hou]
  have ROW0 : Hid (ThRow (fun b => w.heap.size + 1 ≤ b ∧ b < w1.heap.size) w1 (.slice ta tl tc) T) := ThRow.mono hrow (fun b hb hl => ⟨by simpa using hb, hl⟩)
  clear hno hyes hrow k0 k1 k2 k3 k4 hyg hq hT htl hou
  have RW : Hid (∀ y, Below (w1.heap.size) w1 y → ThRow (fun b => w.heap.size + 1 ≤ b ∧ b < w1.heap.size) y (.slice ta tl tc) T) := fun y hy => ROW0.out.later hy
  have m7 : wl ≤ 1000 := by omega
  have TO : Hid (∀ t ∈ T, 1 ≤ t.1 ∧ t.1.toNat - 1 + tSz t ≤ wl) := fun t ht => ⟨(TOK0.out t ht).lo, by have := (TOK0.out t ht).hi; simp only [WS.out] at this; exact this⟩
  have OV : Hid (objsV L (ws, (yn : Int), (tn : Int), (on : Int), cd) = objsT ws T) := by show _ = _; rw [objsV_yes HM.out, HT.out]
  have OL : Hid ((objsT ws T).length = tl) := by show _ = _; unfold objsT; rw [List.length_map]; exact TLE.out
  obtain ⟨kM0, kM1, kM2, kM3, kM4⟩ := bk5 (XM.out w1 bR)
  go_upto_region 2 with fail
  clear kM0 kM1 kM2 kM3 kM4
  have BP : Hid (Below (w1.heap.size) w1 (w1.alloc (.cells #[.slice ca cn cc, .slice (some ⟨wb, wo, none⟩) wl wc, .int .i64 (yn : Nat), .int .i64 (tn : Nat), .int .i64 (on : Nat), .slice da dl dc, .slice (some ⟨wb, wo, none⟩) yn wc, .int .i64 0, .int .i64 (tn : Nat), .slice (some ⟨wb, wo + yn, none⟩) (wl - yn) (wc - yn), .int .i64 (yn : Nat), .int .i64 (ou : Nat), .slice ta tl tc] 65))) := (bR.alloc (by first | exact hz | (simp; done) | (simp; omega) | (have := hz; simp at this ⊢; omega)) _)
  replace B := lA B BP
  replace RW := lA RW BP
  replace XM := lA XM BP
  replace lM := lL lM
  have XA : Hid (∀ y, Below (w1.heap.size + 1) (w1.alloc (.cells #[.slice ca cn cc, .slice (some ⟨wb, wo, none⟩) wl wc, .int .i64 (yn : Nat), .int .i64 (tn : Nat), .int .i64 (on : Nat), .slice da dl dc, .slice (some ⟨wb, wo, none⟩) yn wc, .int .i64 0, .int .i64 (tn : Nat), .slice (some ⟨wb, wo + yn, none⟩) (wl - yn) (wc - yn), .int .i64 (yn : Nat), .int .i64 (ou : Nat), .slice ta tl tc] 65)) y → y.heap[w1.heap.size]? = some (.cells #[.slice ca cn cc, .slice (some ⟨wb, wo, none⟩) wl wc, .int .i64 (yn : Nat), .int .i64 (tn : Nat), .int .i64 (on : Nat), .slice da dl dc, .slice (some ⟨wb, wo, none⟩) yn wc, .int .i64 0, .int .i64 (tn : Nat), .slice (some ⟨wb, wo + yn, none⟩) (wl - yn) (wc - yn), .int .i64 (yn : Nat), .int .i64 (ou : Nat), .slice ta tl tc] 65 (0, 0))) := fun y hy => (hy.block _ (by omega)).trans (boxN _ _ _ _ (by simp))
  have lA : w1.heap.size < w1.heap.size + 1 := by omega
  replace hz : w1.heap.size + 1 ≤ ((w1.alloc (.cells #[.slice ca cn cc, .slice (some ⟨wb, wo, none⟩) wl wc, .int .i64 (yn : Nat), .int .i64 (tn : Nat), .int .i64 (on : Nat), .slice da dl dc, .slice (some ⟨wb, wo, none⟩) yn wc, .int .i64 0, .int .i64 (tn : Nat), .slice (some ⟨wb, wo + yn, none⟩) (wl - yn) (wc - yn), .int .i64 (yn : Nat), .int .i64 (ou : Nat), .slice ta tl tc] 65))).heap.size := by simp
  clear BP
  generalize (w1.alloc (.cells #[.slice ca cn cc, .slice (some ⟨wb, wo, none⟩) wl wc, .int .i64 (yn : Nat), .int .i64 (tn : Nat), .int .i64 (on : Nat), .slice da dl dc, .slice (some ⟨wb, wo, none⟩) yn wc, .int .i64 0, .int .i64 (tn : Nat), .slice (some ⟨wb, wo + yn, none⟩) (wl - yn) (wc - yn), .int .i64 (yn : Nat), .int .i64 (ou : Nat), .slice ta tl tc] 65)) = w2 at B RW XM XA hz ⊢
  have hzn : w1.heap.size + 1 ≤ w2.heap.size := Nat.le_trans hz (Below.size (Below.refl (w1.heap.size + 1) w2))
  replace B := lF B (Below.refl (w1.heap.size + 1) w2) hzn
  replace RW := lF RW (Below.refl (w1.heap.size + 1) w2) hzn
  replace XM := lF XM (Below.refl (w1.heap.size + 1) w2) hzn
  replace lM := Nat.lt_of_lt_of_le lM hzn
  replace XA := lF XA (Below.refl (w1.heap.size + 1) w2) hzn
  replace lA := Nat.lt_of_lt_of_le lA hzn
  clear hz
  have hz : w2.heap.size ≤ w2.heap.size := Nat.le_refl _
  obtain ⟨kM0, kM1, kM2, kM3, kM4⟩ := bk5 (XM.out w2 bR)
  obtain ⟨kA0, kA1, kA2, kA3, kA4, kA5, kA6, kA7, kA8, kA9, kA10, kA11, kA12⟩ := bk13 (XA.out w2 bR)
  go_wp2_with fail
  clear kM0 kM1 kM2 kM3 kM4 kA0 kA1 kA2 kA3 kA4 kA5 kA6 kA7 kA8 kA9 kA10 kA11 kA12
  have BP : Hid (Below (w2.heap.size) w2 w2) := bR
  have hlo2 : w.heap.size ≤ w2.heap.size := (B.out _ bR).size
  refine (objsImpl ca cn cc wb wo wl wc yn tn on da dl dc wc (wl - yn) (wc - yn) ou ta tl tc T ws _ ((RW.out _ BP.out).sl TLE.out.symm (by omega)) INC0.out (by omega) (HW.out.later (B.out _ BP.out)) TO.out (by omega) m7).mono ?_
  rintro e w3 ⟨g, bs, rfl, hg, hg2, hrow, hb⟩
  have HR : Hid (GrRow w3 g tl (objsT ws T) tl bs) := hrow
  have hq : Below (w2.heap.size) w2 w3 := BP.out.trans (Below.mono hb (Nat.le_trans hz BP.out.size))
  have hzn : w2.heap.size ≤ w3.heap.size := Nat.le_trans hz hq.size
  replace B := lF B hq hzn
  replace RW := lF RW hq hzn
  replace XM := lF XM hq hzn
  replace lM := Nat.lt_of_lt_of_le lM hzn
  replace XA := lF XA hq hzn
  replace lA := Nat.lt_of_lt_of_le lA hzn
  clear hq BP hz
  have hz : w3.heap.size ≤ w3.heap.size := Nat.le_refl _
  clear hb hrow
  obtain ⟨kM0, kM1, kM2, kM3, kM4⟩ := bk5 (XM.out w3 bR)
  obtain ⟨kA0, kA1, kA2, kA3, kA4, kA5, kA6, kA7, kA8, kA9, kA10, kA11, kA12⟩ := bk13 (XA.out w3 bR)
  go_wp2_with fail
  go_ret
  rw [OV.out]
  exact ⟨some ⟨g, 0, none⟩, g, bs, by rw [OL.out]; rfl, .inr ⟨rfl, by omega, hg2, by rw [OL.out]; exact HR.out⟩, B.out _ bR⟩

end Go.Proofs.YtjbmcdekhhbiaaaGreat
namespace Go.Proofs.YtjbmcdekhhbiaaaGreat
open Go.ChangeShapes Go.WideShapes Go.ChangeAt Go.RowKit
set_option linter.unusedVariables false

theorem info_int21 : (Tryz.prog.info? 3).map (fun i => (i.zero, i.size, i.bytes)) = some (some (.int .i64 0), 1, 8) := by kernel_rfl
/-- Which one, from 1 on, tells that place; 0, if none does. -/
def numL (out : List Int) (j : Nat) : Int := (out.foldl (fun (p : Nat × Int) x => (p.1 + 1, if x = (j : Int) then (p.1 : Int) + 1 else p.2)) (0, 0)).2
theorem numL_cnt (j : Nat) (out : List Int) : ∀ p : Nat × Int, (out.foldl (fun (p : Nat × Int) x => (p.1 + 1, if x = (j : Int) then (p.1 : Int) + 1 else p.2)) p).1 = p.1 + out.length := by
  induction out with
  | nil => intro p; rfl
  | cons x xs ih => intro p; rw [List.foldl_cons, ih]; simp; omega
theorem numL_snoc (xs : List Int) (x : Int) (j : Nat) : numL (xs ++ [x]) j = if x = (j : Int) then (xs.length : Int) + 1 else numL xs j := by
  unfold numL
  rw [List.foldl_append, List.foldl_cons, List.foldl_nil]
  simp only [numL_cnt, Nat.zero_add]
set_option maxHeartbeats 4000000 in
theorem numSpec (n : Nat) (hn : n ≤ 2000) (g : Option Addr) (l c : Nat) (out : List Int) (w : World) {D : Nat → Prop} (h : IntsAt D w g l out) (hx : ∀ x ∈ out, 0 ≤ x ∧ x < n) :
    Calls Tryz.prog 89 #[.int .i64 n, .slice g l c] w fun e w' => e = .returned (.slice (some ⟨w.heap.size, 0, none⟩) n n) ∧ RowAt w' w.heap.size n (fun j => .int .i64 (numL out j)) ∧ Below w.heap.size w w' := by
  have hmk := fun wx => run_make_row' (P := Tryz.prog) 23 3 (.int .i64 0) 8 Tryz.underlying23 info_int21 rfl .i64 .i64 n (by omega) (by omega) wx
  have H : Hid (IntsAt D w g l out) := h
  have LS : Hid (out.length = l) := h.size
  have HX : Hid (∀ x ∈ out, 0 ≤ x ∧ x < n) := hx
  have hlr := h.room
  clear h hx
  go_enter Tryz.func89, Tryz.ntmps89
  go_wp2_with fail
  go_loopw [6] (fun t wr => ∃ k : Nat, k ≤ l ∧ t = .int .i64 k ∧ RowAt wr w.heap.size n (fun j => .int .i64 (numL (out.take k) j)) ∧ Below w.heap.size w wr) (fun t _ => l - (intOf t).toNat)
  case atStart =>
    refine ⟨0, Nat.zero_le _, rfl, (RowAt.made w #[.int .i64 0] n 3).congr fun j _ => by simp [Nat.mod_one, numL], by go_grown⟩
  case round =>
    obtain ⟨k, hk, rfl, hrow, hb⟩ := hrel
    have HR : Hid (RowAt wr w.heap.size n (fun j => .int .i64 (numL (out.take k) j))) := hrow
    have HB : Hid (Below w.heap.size w wr) := hb
    clear hrow hb
    by_cases hlt : k < l
    · obtain ⟨b, off, rfl, _, hcs⟩ := (H.out.later HB.out).one k hlt
      have hc := hcs k hlt
      obtain ⟨x, hx⟩ : ∃ x, out.getD k 0 = x := ⟨_, rfl⟩
      rw [hx] at hc
      have hxm : x ∈ out := by rw [← hx, List.getD_eq_getElem?_getD, List.getElem?_eq_getElem (by rw [LS.out]; exact hlt)]; exact List.getElem_mem _
      obtain ⟨x0, x1⟩ := HX.out x hxm
      obtain ⟨p, rfl⟩ : ∃ p : Nat, x = p := ⟨x.toNat, by omega⟩
      have hpn : p < n := by omega
      have HT : Hid (out.take (k + 1) = out.take k ++ [(p : Int)]) := by
        show _ = _
        rw [List.take_succ_eq_append_getElem (by rw [LS.out]; exact hlt)]
        rw [List.getD_eq_getElem?_getD, List.getElem?_eq_getElem (by rw [LS.out]; exact hlt)] at hx
        rw [show out[k]'(by rw [LS.out]; exact hlt) = (p : Int) from hx]
      have hg := (HR.out p hpn).1
      have hf := (HR.out p hpn).2
      have HF : Hid (RowAt (wr.setCell ⟨w.heap.size, p, none⟩ (.int .i64 ((k : Int) + 1))) w.heap.size n (fun j => .int .i64 (numL (out.take (k + 1)) j))) :=
        (HR.out.set p (.int .i64 ((k : Int) + 1))).congr fun j _ => by
          rw [HT.out, numL_snoc, List.length_take, LS.out, Nat.min_eq_left (Nat.le_of_lt hlt)]
          by_cases e : j = p
          · subst e; simp
          · rw [if_neg e, if_neg (show ¬ ((p : Int) = (j : Int)) by omega)]
      have hadd : IntKind.i64.wrap ((k : Int) + 1) = (k : Int) + 1 := by rw [IntKind.wrap_i64] <;> omega
      generalize numL (out.take k) p = q at hg
      clear hcs hx hxm
      go_wp2_with fail
      exact ⟨⟨k + 1, by omega, by go_num, HF.out, HB.out.setCell (Nat.le_refl _) _⟩, by simp [intOf]; omega⟩
    · have ek : k = l := by omega
      subst ek
      go_wp2_with fail
      go_ret
      exact ⟨rfl, HR.out.congr fun j hj => by rw [← LS.out, List.take_length], HB.out⟩

end Go.Proofs.YtjbmcdekhhbiaaaGreat
namespace Go.Proofs.YtjbmcdekhhbiaaaGreat
open Go.ChangeShapes Go.WideShapes Go.ChangeAt Go.RowKit
set_option linter.unusedVariables false

/-- What is k-th in a thing, by numbers that are given. -/
def seeN (nm : Nat → Int) (ty ws : List Int) (lo k : Nat) : Vl := if ty.getD k 0 = 1 then (false, ws.getD (lo + k) 0) else if 0 < ws.getD (lo + k) 0 then (true, nm ((ws.getD (lo + k) 0).toNat - 1)) else (true, ws.getD (lo + k) 0)
theorem vals_take (f : Nat → Vl) (n m : Nat) (h : m < n) : ((List.range n).map f).take (m + 1) = ((List.range n).map f).take m ++ [f m] := by
  rw [List.take_succ_eq_append_getElem (by simpa using h)]
  simp
set_option maxRecDepth 100000 in
set_option maxHeartbeats 8000000 in
theorem objSpec (ca : Option Addr) (cn cc : Nat) (wa : Option Addr) (wl wc : Nat) (yg tp od : Int) (da : Option Addr) (dl dc ng nl nc : Nat) (nm : Nat → Int) (p : Nat) (c0 : Int) (ty ws : List Int) (L : List Cl) (w : World) {D E G : Nat → Prop} (h : ClsAt D E w ca cn L) (ok : clsOk L = true) (hw : IntsAt G w wa wl ws) (hi : p + tSz ((p : Int) + 1, c0, ty) ≤ wl) (hl : wl ≤ 1000) (hx : ws.getD p 0 = c0) (hT : isT L c0 (ws.getD (p + 1) 0) = true) (hty : ty = typ L c0 (ws.getD (p + 1) 0)) (hsz : tsz L (ws.drop p) = tSz ((p : Int) + 1, c0, ty)) (hc0 : c0 = -1 ∨ c0 = -2 ∨ 0 ≤ c0) (hnum : ∀ j, j < nl → w.cell? ⟨ng, j, none⟩ = some (.int .i64 (nm j))) (hnl : nl ≤ 1000) (hv : ∀ k, k < ty.length → ty.getD k 0 ≠ 1 → 0 ≤ ws.getD (p + hdN c0 + k) 0 ∧ ws.getD (p + hdN c0 + k) 0 ≤ nl) :
    Calls Tryz.prog 90 #[.slice ca cn cc, .agg #[.slice wa wl wc, .int .i64 yg, .int .i64 tp, .int .i64 od, .slice da dl dc], .slice (some ⟨ng, 0, none⟩) nl nc, .int .i64 p] w fun e w' => ∃ a c, e = .returned (.agg #[.int .i64 c0, .slice a ty.length c]) ∧ w'.ownsRow w.heap.size 121 2 (.slice a ty.length c) ty.length (flatV ((List.range ty.length).map (seeN nm ty ws (p + hdN c0)))) ∧ Below w.heap.size w w' := by
  have H : Hid (ClsAt D E w ca cn L) := h
  have HW : Hid (IntsAt G w wa wl ws) := hw
  have OK : Hid (clsOk L = true) := ok
  have WS : Hid (ws.length = wl) := hw.size
  have HX : Hid (ws.getD p 0 = c0) := hx
  have HIS : Hid (isT L c0 (ws.getD (p + 1) 0) = true) := hT
  have HTY : Hid (ty = typ L c0 (ws.getD (p + 1) 0)) := hty
  have HSZ : Hid (tsz L (ws.drop p) = tSz ((p : Int) + 1, c0, ty)) := hsz
  have HV : Hid (∀ k, k < ty.length → ty.getD k 0 ≠ 1 → 0 ≤ ws.getD (p + hdN c0 + k) 0 ∧ ws.getD (p + hdN c0 + k) 0 ≤ nl) := hv
  have HN : Hid (∀ j, j < nl → w.cell? ⟨ng, j, none⟩ = some (.int .i64 (nm j))) := hnum
  have hd0 := hdN_pos c0
  obtain ⟨n, hn⟩ : ∃ n, ty.length = n := ⟨_, rfl⟩
  have TN : Hid (ty.length = n) := hn
  obtain ⟨hd, hhd⟩ : ∃ hd, hdN c0 = hd := ⟨_, rfl⟩
  have HD : Hid (hdN c0 = hd) := hhd
  have TZ : Hid (tSz ((p : Int) + 1, c0, ty) = hd + n) := by show hdN c0 + ty.length = _; rw [hhd, hn]
  have hpz : p + (hd + n) ≤ wl := by rw [← TZ.out]; exact hi
  obtain ⟨lo, hlo⟩ : ∃ lo, p + hd = lo := ⟨_, rfl⟩
  obtain ⟨F, hF⟩ : ∃ F : Nat → Vl, F = seeN nm ty ws lo := ⟨_, rfl⟩
  have FF : Hid (F = seeN nm ty ws lo) := hF
  rw [hhd] at hd0
  rw [hn, hhd, hlo, ← hF]
  obtain ⟨i0, hi0, hz0, hz1, hz2⟩ := info_parts info_Val
  have hng : ∀ j, j < nl → ng < w.heap.size := fun j hj => World.block_lt_of_cell? w _ (hnum j hj)
  clear h hw ok hx hT hty hsz hv hnum hhd hn hF
  have hz : w.heap.size + 1 + 1 ≤ ((w.alloc (.cells #[.slice wa wl wc, .int .i64 yg, .int .i64 tp, .int .i64 od, .slice da dl dc] 29)).alloc (.cells #[.int .i64 0, .slice none 0 0] 93)).heap.size := by simp
  have B : Hid (∀ y, Below (w.heap.size + 1 + 1) ((w.alloc (.cells #[.slice wa wl wc, .int .i64 yg, .int .i64 tp, .int .i64 od, .slice da dl dc] 29)).alloc (.cells #[.int .i64 0, .slice none 0 0] 93)) y → Below w.heap.size w y) := fun y hy => ((bR.alloc (by first | exact Nat.le_refl _ | (simp; done) | (simp; omega)) _).alloc (by first | exact Nat.le_refl _ | (simp; done) | (simp; omega)) _).trans (hy.mono (by omega))
  have XM : Hid (∀ y, Below (w.heap.size + 1 + 1) ((w.alloc (.cells #[.slice wa wl wc, .int .i64 yg, .int .i64 tp, .int .i64 od, .slice da dl dc] 29)).alloc (.cells #[.int .i64 0, .slice none 0 0] 93)) y → y.heap[w.heap.size]? = some (.cells #[.slice wa wl wc, .int .i64 yg, .int .i64 tp, .int .i64 od, .slice da dl dc] 29 (0, 0))) := fun y hy => (hy.block _ (by omega)).trans ((Below.heap_alloc _ _ _ (by first | (simp; done) | (simp; omega))).trans (boxN _ _ _ _ (by simp)))
  have lM : w.heap.size < w.heap.size + 1 + 1 := by omega
  have XR : Hid (∀ y, Below (w.heap.size + 1 + 1) ((w.alloc (.cells #[.slice wa wl wc, .int .i64 yg, .int .i64 tp, .int .i64 od, .slice da dl dc] 29)).alloc (.cells #[.int .i64 0, .slice none 0 0] 93)) y → y.heap[w.heap.size + 1]? = some (.cells #[.int .i64 0, .slice none 0 0] 93 (0, 0))) := fun y hy => (hy.block _ (by omega)).trans (boxN _ _ _ _ (by simp))
  have lR : w.heap.size + 1 < w.heap.size + 1 + 1 := by omega
  go_enter Tryz.func90, Tryz.ntmps90
  go_wp2_with fail
  have BP : Hid (Below (w.heap.size + 1 + 1) ((w.alloc (.cells #[.slice wa wl wc, .int .i64 yg, .int .i64 tp, .int .i64 od, .slice da dl dc] 29)).alloc (.cells #[.int .i64 0, .slice none 0 0] 93)) ((w.alloc (.cells #[.slice wa wl wc, .int .i64 yg, .int .i64 tp, .int .i64 od, .slice da dl dc] 29)).alloc (.cells #[.int .i64 0, .slice none 0 0] 93))) := bR
  refine (refsSpec _ _ _ _ _ _ p ((p : Int) + 1, c0, ty) ws L _ (H.out.later (B.out _ BP.out)) OK.out (HW.out.later (B.out _ BP.out)) hi hl HX.out HIS.out HTY.out HSZ.out).mono ?_
  rintro e w1 ⟨g1, rfl, hg1, hrow, hb⟩
  rw [TZ.out] at hrow ⊢
  have RR0 : Hid (RowAt w1 g1 (hd + n) (fun j => .bool (refB ((p : Int) + 1, c0, ty) j))) := hrow
  have hq : Below (w.heap.size + 1 + 1) ((w.alloc (.cells #[.slice wa wl wc, .int .i64 yg, .int .i64 tp, .int .i64 od, .slice da dl dc] 29)).alloc (.cells #[.int .i64 0, .slice none 0 0] 93)) w1 := BP.out.trans (Below.mono hb (Nat.le_trans hz BP.out.size))
  have hzn : w.heap.size + 1 + 1 ≤ w1.heap.size := Nat.le_trans hz hq.size
  replace B := lF B hq hzn
  replace XM := lF XM hq hzn
  replace lM := Nat.lt_of_lt_of_le lM hzn
  replace XR := lF XR hq hzn
  replace lR := Nat.lt_of_lt_of_le lR hzn
  clear hq BP hz
  have hz : w1.heap.size ≤ w1.heap.size := Nat.le_refl _
  clear hb hrow hg1
  obtain ⟨tz, htz⟩ : ∃ tz, hd + n = tz := ⟨_, rfl⟩
  rw [htz] at RR0 hpz ⊢
  obtain ⟨wb, wo, rfl, _, hcs⟩ := (HW.out.later (B.out w1 bR)).one p (by omega)
  have cp := hcs p (by omega)
  rw [HX.out] at cp
  clear hcs
  have lR1 : w.heap.size + 1 < w1.heap.size := lR
  obtain ⟨kM0, kM1, kM2, kM3, kM4⟩ := bk5 (XM.out w1 bR)
  obtain ⟨kR0, kR1⟩ := bk2 (XR.out w1 bR)
  go_wp2_with fail
  refine (headSpec c0 hc0 _).mono ?_
  rintro e w9 ⟨rfl, rfl⟩
  rw [HD.out]
  clear kM0 kM1 kM2 kM3 kM4 kR0 kR1
  clear cp
  have B12 : Hid (∀ y, Below (w1.heap.size) w1 y → Below w1.heap.size w1 y) := fun y hy => hy
  have BP : Hid (Below (w1.heap.size) w1 (w1.alloc (.cells #[] 121))) := (bR.alloc (by first | exact hz | (simp; done) | (simp; omega) | (have := hz; simp at this ⊢; omega)) _)
  replace B := lA B BP
  replace B12 := lA B12 BP
  replace XM := lA XM BP
  replace lM := lL lM
  replace XR := lA XR BP
  replace lR := lL lR
  have XE : Hid (∀ y, Below (w1.heap.size + 1) (w1.alloc (.cells #[] 121)) y → y.heap[w1.heap.size]? = some (.cells #[] 121 (0, 0))) := fun y hy => (hy.block _ (by omega)).trans (boxN _ _ _ _ (by simp))
  have lE : w1.heap.size < w1.heap.size + 1 := by omega
  replace hz : w1.heap.size + 1 ≤ ((w1.alloc (.cells #[] 121))).heap.size := by simp
  clear BP
  have BP : Hid (Below (w1.heap.size + 1) (w1.alloc (.cells #[] 121)) ((w1.alloc (.cells #[] 121)).alloc (.cells #[.int .i64 c0, .slice (some ⟨w1.heap.size, 0, none⟩) 0 0] 93))) := (bR.alloc (by first | exact hz | (simp; done) | (simp; omega) | (have := hz; simp at this ⊢; omega)) _)
  replace B := lA B BP
  replace B12 := lA B12 BP
  replace XM := lA XM BP
  replace lM := lL lM
  replace XR := lA XR BP
  replace lR := lL lR
  replace XE := lA XE BP
  replace lE := lL lE
  have XO : Hid (∀ y, Below (w1.heap.size + 1 + 1) ((w1.alloc (.cells #[] 121)).alloc (.cells #[.int .i64 c0, .slice (some ⟨w1.heap.size, 0, none⟩) 0 0] 93)) y → y.heap[w1.heap.size + 1]? = some (.cells #[.int .i64 c0, .slice (some ⟨w1.heap.size, 0, none⟩) 0 0] 93 (0, 0))) := fun y hy => (hy.block _ (by omega)).trans (boxN _ _ _ _ (by simp))
  have lO : w1.heap.size + 1 < w1.heap.size + 1 + 1 := by omega
  replace hz : w1.heap.size + 1 + 1 ≤ (((w1.alloc (.cells #[] 121)).alloc (.cells #[.int .i64 c0, .slice (some ⟨w1.heap.size, 0, none⟩) 0 0] 93))).heap.size := by simp
  clear BP
  generalize ((w1.alloc (.cells #[] 121)).alloc (.cells #[.int .i64 c0, .slice (some ⟨w1.heap.size, 0, none⟩) 0 0] 93)) = w2 at B B12 XM XR XE XO hz ⊢
  have hzn : w1.heap.size + 1 + 1 ≤ w2.heap.size := Nat.le_trans hz (Below.size (Below.refl (w1.heap.size + 1 + 1) w2))
  replace B := lF B (Below.refl (w1.heap.size + 1 + 1) w2) hzn
  replace B12 := lF B12 (Below.refl (w1.heap.size + 1 + 1) w2) hzn
  replace XM := lF XM (Below.refl (w1.heap.size + 1 + 1) w2) hzn
  replace lM := Nat.lt_of_lt_of_le lM hzn
  replace XR := lF XR (Below.refl (w1.heap.size + 1 + 1) w2) hzn
  replace lR := Nat.lt_of_lt_of_le lR hzn
  replace XE := lF XE (Below.refl (w1.heap.size + 1 + 1) w2) hzn
  replace lE := Nat.lt_of_lt_of_le lE hzn
  replace XO := lF XO (Below.refl (w1.heap.size + 1 + 1) w2) hzn
  replace lO := Nat.lt_of_lt_of_le lO hzn
  clear hz
  have hz : w2.heap.size ≤ w2.heap.size := Nat.le_refl _
  have h21 : w1.heap.size + 1 < w2.heap.size := lO
  have hM1 : w.heap.size + 1 < w1.heap.size := by have := lR1; omega
  have h2w : w1.heap.size + 1 + 1 ≤ w2.heap.size := by omega
  have OZ : Hid (w2.ownsRow w1.heap.size 121 2 (.slice (some ⟨w1.heap.size, 0, none⟩) 0 0) 0 (flatV ((List.range n).map F |>.take 0))) := ⟨rfl, .inr ⟨w1.heap.size, 0, #[], rfl, Nat.le_refl _, XE.out w2 bR, Nat.le_refl _, Nat.zero_le _, rfl, rfl⟩⟩
  have RR : Hid (RowAt w2 g1 tz (fun j => .bool (refB ((p : Int) + 1, c0, ty) j))) := RR0.out.later (B12.out w2 bR)
  have hg1l : g1 < w1.heap.size ∨ tz = 0 := by
    rcases Nat.eq_zero_or_pos tz with h9 | h9
    · exact .inr h9
    · exact .inl (World.block_lt_of_cell? w1 _ (RR0.out 0 h9).1)
  obtain ⟨kM0, kM1, kM2, kM3, kM4⟩ := bk5 (XM.out w2 bR)
  obtain ⟨kR0, kR1⟩ := bk2 (XR.out w2 bR)
  obtain ⟨kO0, kO1⟩ := bk2 (XO.out w2 bR)
  go_wp2_with fail
  clear kM0 kM1 kM2 kM3 kM4 kR0 kR1 kO0 kO1
  go_loopw [11] (fun t wr => ∃ (m : Nat) (a9 : Option Addr) (c9 : Nat), m ≤ n ∧ t = .int .i64 (hd + m : Nat) ∧ wr.heap[w1.heap.size + 1]? = some (.cells #[.int .i64 c0, .slice a9 m c9] 93 (0, 0)) ∧ wr.ownsRow w1.heap.size 121 2 (.slice a9 m c9) m (flatV (((List.range n).map F).take m)) ∧ Below w1.heap.size w2 wr) (fun t _ => tz - (intOf t).toNat)
  case atStart => exact ⟨0, _, _, Nat.zero_le _, rfl, XO.out w2 bR, OZ.out, bR⟩
  case round =>
    obtain ⟨m, a9, c9, hm, rfl, hO, hown, hr⟩ := hrel
    have HOW : Hid (wr.ownsRow w1.heap.size 121 2 (.slice a9 m c9) m (flatV (((List.range n).map F).take m))) := hown
    have HO1 : Hid (wr.heap[w1.heap.size + 1]? = some (.cells #[.int .i64 c0, .slice a9 m c9] 93 (0, 0))) := hO
    have HR1 : Hid (Below w1.heap.size w2 wr) := hr
    have lO9 : w1.heap.size + 1 < wr.heap.size := Nat.lt_of_lt_of_le h21 hr.size
    have hB12 : w1.heap.size ≤ w2.heap.size := by omega
    have HBW : Hid (Below w.heap.size w wr) := (B.out w2 bR).trans (hr.mono (Nat.le_of_lt (Nat.lt_trans (Nat.lt_succ_self _) hM1)))
    clear hown hO
    obtain ⟨ix, hix⟩ : ∃ ix, hd + m = ix := ⟨_, rfl⟩
    have HIX : Hid (hd + m = ix) := hix
    rw [hix]
    clear XE lE XO lO
    have BP : Hid (Below (w2.heap.size) w2 w2) := bR
    have hq : Below (w1.heap.size) w2 wr := (BP.out.mono (by omega)).trans (Below.mono hr (by omega))
    have hzn : w2.heap.size ≤ wr.heap.size := Nat.le_trans hz hq.size
    replace B : Hid (∀ y, Below wr.heap.size wr y → Below w.heap.size w y) := fun y hy => ((B.out w2 bR).trans (hq.mono (by omega))).trans (hy.mono (Nat.le_trans (B.out w2 bR).size hq.size))
    clear B12
    replace XM : Hid (∀ y, Below wr.heap.size wr y → y.heap[w.heap.size]? = some (.cells #[.slice (some ⟨wb, wo, none⟩) wl wc, .int .i64 yg, .int .i64 tp, .int .i64 od, .slice da dl dc] 29 (0, 0))) := fun y hy => (hy.block _ (by omega)).trans ((hq.block _ (by omega)).trans (XM.out w2 bR))
    replace lM : w.heap.size < wr.heap.size := by omega
    replace XR : Hid (∀ y, Below wr.heap.size wr y → y.heap[w.heap.size + 1]? = some (.cells #[.int .i64 0, .slice none 0 0] 93 (0, 0))) := fun y hy => (hy.block _ (by omega)).trans ((hq.block _ (by omega)).trans (XR.out w2 bR))
    replace lR : w.heap.size + 1 < wr.heap.size := by omega
    clear hq BP hz
    have hz : wr.heap.size ≤ wr.heap.size := Nat.le_refl _
    have XO : Hid (∀ y, Below wr.heap.size wr y → y.heap[w1.heap.size + 1]? = some (.cells #[.int .i64 c0, .slice a9 m c9] 93 (0, 0))) := fun y hy => (hy.block _ lO9).trans HO1.out
    have lO : w1.heap.size + 1 < wr.heap.size := lO9
    clear hr
    have OO : Hid (∀ y, Below (wr.heap.size) wr y → y.ownsRow w1.heap.size 121 2 (.slice a9 m c9) m (flatV (((List.range n).map F).take m))) := fun y hy => own_later HOW.out hy
    have BW : Hid (∀ y, Below (wr.heap.size) wr y → Below w1.heap.size w2 y) := fun y hy => HR1.out.trans (hy.mono (Nat.le_trans hB12 HR1.out.size))
    have BA : Hid (∀ y, Below (wr.heap.size) wr y → Below w.heap.size w y) := fun y hy => HBW.out.trans (hy.mono HBW.out.size)
    by_cases hlt : m < n
    · have hlt2 : ix < tz := by omega
      obtain ⟨v, hv⟩ : ∃ v, ws.getD (lo + m) 0 = v := ⟨_, rfl⟩
      have hcw := ((HW.out.later (BA.out wr bR)).one (lo + m) (by omega))
      obtain ⟨b8, o8, e8, _, hcs⟩ := hcw
      obtain ⟨rfl, rfl⟩ : wb = b8 ∧ wo = o8 := by simpa using e8
      have cW := hcs (lo + m) (by omega)
      have hvf := HW.out.fits (lo + m)
      rw [hv] at cW hvf
      have hwb := World.block_lt_of_cell? wr _ cW
      simp only at hwb
      obtain ⟨rb, hrb⟩ : ∃ rb, (ty.getD m 0 != 1) = rb := ⟨_, rfl⟩
      have cR : wr.cell? ⟨g1, ix, none⟩ = some (.bool rb) := by
        have h1 := (RR.out ix hlt2).1
        have h2 : refB ((p : Int) + 1, c0, ty) ix = rb := by
          rw [← hix, ← HD.out, refB_at (Nat.le_add_right _ _)]
          simp only [Nat.add_sub_cancel_left]
          exact hrb
        have h3 := HR1.out.cell (p := ⟨g1, ix, none⟩) (by show g1 < _; omega)
        rw [h3, h1]; simp only [h2]
      have hgr := World.block_lt_of_cell? wr _ cR
      simp only at hgr
      have hadd : IntKind.i64.wrap ((p : Int) + (ix : Int)) = ((lo + m : Nat) : Int) := by rw [IntKind.wrap_i64] <;> omega
      obtain ⟨lm, hlm⟩ : ∃ lm, lo + m = lm := ⟨_, rfl⟩
      rw [hlm] at hadd cW
      have hlw : lm < wl := by omega
      have FM : Hid (F m = if rb = false then (false, v) else if 0 < v then (true, nm (v.toNat - 1)) else (true, v)) := by
        show _ = _
        rw [FF.out, seeN, hv, ← hrb]
        by_cases h9 : ty.getD m 0 = 1
        · rw [if_pos h9, h9]; rfl
        · rw [if_neg h9, if_neg (show ¬ ((ty.getD m 0 != 1) = false) by simpa using h9)]
      have HVM : Hid (rb = true → 0 ≤ v ∧ v ≤ nl) := fun h9 => by
        have := HV.out m (by rw [TN.out]; exact hlt) (by intro h8; rw [h8] at hrb; rw [← hrb] at h9; simp at h9)
        rw [HD.out, hlo, hv] at this
        exact this
      clear hcs e8 hv hrb hlm
      have K1 : Hid (∀ y, Below (wr.heap.size) wr y → y.cell? ⟨g1, ix, none⟩ = some (.bool rb)) := fun y hy => (hy.cell (p := ⟨g1, ix, none⟩) hgr).trans cR
      have K2 : Hid (∀ y, Below (wr.heap.size) wr y → y.cell? ⟨wb, wo + lm, none⟩ = some (.int .i64 v)) := fun y hy => (hy.cell (p := ⟨wb, wo + lm, none⟩) hwb).trans cW
      clear cR cW
      obtain ⟨kM0, kM1, kM2, kM3, kM4⟩ := bk5 (XM.out wr bR)
      obtain ⟨kR0, kR1⟩ := bk2 (XR.out wr bR)
      obtain ⟨kO0, kO1⟩ := bk2 (XO.out wr bR)
      go_wp2_with fail
      clear kM0 kM1 kM2 kM3 kM4 kR0 kR1 kO0 kO1
      have KS : Hid (∀ x, Below (wr.heap.size) wr x → x.cell? ⟨w.heap.size, 0, none⟩ = some (.slice (some ⟨wb, wo, none⟩) wl wc) ∧ x.cell? ⟨w.heap.size, 1, none⟩ = some (.int .i64 yg) ∧ x.cell? ⟨w.heap.size, 2, none⟩ = some (.int .i64 tp) ∧ x.cell? ⟨w.heap.size, 3, none⟩ = some (.int .i64 od) ∧ x.cell? ⟨w.heap.size, 4, none⟩ = some (.slice da dl dc) ∧ x.cell? ⟨g1, ix, none⟩ = some (.bool rb) ∧ x.cell? ⟨wb, wo + lm, none⟩ = some (.int .i64 v)) := fun x hx => ⟨(boxG (XM.out x hx) 0).1, (boxG (XM.out x hx) 1).1, (boxG (XM.out x hx) 2).1, (boxG (XM.out x hx) 3).1, (boxG (XM.out x hx) 4).1, K1.out x hx, K2.out x hx⟩
      refine wp_region_held_drew (S := fun x => x.cell? ⟨w.heap.size, 0, none⟩ = some (.slice (some ⟨wb, wo, none⟩) wl wc) ∧ x.cell? ⟨w.heap.size, 1, none⟩ = some (.int .i64 yg) ∧ x.cell? ⟨w.heap.size, 2, none⟩ = some (.int .i64 tp) ∧ x.cell? ⟨w.heap.size, 3, none⟩ = some (.int .i64 od) ∧ x.cell? ⟨w.heap.size, 4, none⟩ = some (.slice da dl dc) ∧ x.cell? ⟨g1, ix, none⟩ = some (.bool rb) ∧ x.cell? ⟨wb, wo + lm, none⟩ = some (.int .i64 v)) (by kernel_rfl) ?_ (fun hHeld => ?_)
      · exact KS.out _ (bdrew bR)
      refine tV 0 (v := ?_) rfl (by kernel_rfl) (fun _ _ _ h => h) ?_ (by assumption) ?_
      rotate_left 1
      · (intro x hSx; (try dsimp only at hSx); go_simp; try with_reducible rfl)
      try simp only [Act.put, zgT, zg0, zsT, zs0, zsS]
      refine tV 1 (v := ?_) rfl (by kernel_rfl) (fun _ _ _ h => h) ?_ (by assumption) ?_
      rotate_left 1
      · (intro x hSx; (try dsimp only at hSx); go_simp; try with_reducible rfl)
      try simp only [Act.put, zgT, zg0, zgS, zsT, zs0, zsS]
      refine tV 2 (v := ?_) rfl (by kernel_rfl) (fun _ _ _ h => h) ?_ (by assumption) ?_
      rotate_left 1
      · (intro x hSx; (try dsimp only at hSx); go_simp; try with_reducible rfl)
      try simp only [Act.put, zgT, zg0, zgS, zsT, zs0, zsS]
      refine tV 3 (v := ?_) rfl (by kernel_rfl) (fun _ _ _ h => h) ?_ (by assumption) ?_
      rotate_left 1
      · (intro x hSx; (try dsimp only at hSx); go_simp; try with_reducible rfl)
      try simp only [Act.put, zgT, zg0, zgS, zsT, zs0, zsS]
      refine tV 4 (v := ?_) rfl (by kernel_rfl) (fun _ _ _ h => h) ?_ (by assumption) ?_
      rotate_left 1
      · (intro x hSx; (try dsimp only at hSx); go_simp; try with_reducible rfl)
      try simp only [Act.put, zgT, zg0, zgS, zsT, zs0, zsS]
      refine tV 5 (v := ?_) rfl (by kernel_rfl) (fun _ _ _ h => h) ?_ (by assumption) ?_
      rotate_left 1
      · (intro x hSx; (try dsimp only at hSx); go_simp; try with_reducible rfl)
      try simp only [Act.put, zgT, zg0, zgS, zsT, zs0, zsS]
      refine tV 6 (v := ?_) rfl (by kernel_rfl) (fun _ _ _ h => h) ?_ (by assumption) ?_
      rotate_left 1
      · (intro x hSx; (try dsimp only at hSx); go_simp; try with_reducible rfl)
      try simp only [Act.put, zgT, zg0, zgS, zsT, zs0, zsS]
      refine tV 7 (v := ?_) rfl (by kernel_rfl) (fun _ _ _ h => h) ?_ (by assumption) ?_
      rotate_left 1
      · (intro x hSx; (try dsimp only at hSx); go_simp; try with_reducible rfl)
      try simp only [Act.put, zgT, zg0, zgS, zsT, zs0, zsS]
      refine tV 8 (v := ?_) rfl (by kernel_rfl) (fun _ _ _ h => h) ?_ (by assumption) ?_
      rotate_left 1
      · (intro x hSx; (try dsimp only at hSx); go_simp; try with_reducible rfl)
      try simp only [Act.put, zgT, zg0, zgS, zsT, zs0, zsS]
      refine tV 9 (v := ?_) rfl (by kernel_rfl) (fun _ _ _ h => h) ?_ (by assumption) ?_
      rotate_left 1
      · (intro x hSx; (try dsimp only at hSx); go_simp; try with_reducible rfl)
      try simp only [Act.put, zgT, zg0, zgS, zsT, zs0, zsS]
      refine tV 10 (v := ?_) rfl (by kernel_rfl) (fun _ _ _ h => h) ?_ (by assumption) ?_
      rotate_left 1
      · (intro x hSx; (try dsimp only at hSx); go_simp; try with_reducible rfl)
      try simp only [Act.put, zgT, zg0, zgS, zsT, zs0, zsS]
      refine tV 11 (v := ?_) rfl (by kernel_rfl) (fun _ _ _ h => h) ?_ (by assumption) ?_
      rotate_left 1
      · (intro x hSx; (try dsimp only at hSx); go_simp; try with_reducible rfl)
      try simp only [Act.put, zgT, zg0, zgS, zsT, zs0, zsS]
      refine wpAnyH_ready (rs := [12]) (by kernel_rfl) (by simp) ?_
      refine AllReadyH.cons rfl (fun K hK => ?_) AllReadyH.nil
      go_simp
      refine hK.out _ _ (KS.out _ ((bdrew bR).alloc (by first | exact hz | (simp; done) | (simp; omega) | (have := hz; simp at this ⊢; omega)) _)) (fun hHeld2 => ?_)
      clear hK K
      try simp only [Act.put, zgT, zg0, zgS, zsT, zs0, zsS]
      refine wpAnyH_ready (rs := [13]) (by kernel_rfl) (by simp) ?_
      refine AllReadyH.cons rfl (fun K hK => ?_) AllReadyH.nil
      go_simp
      refine hK.out _ _ (KS.out _ (bdrew (bR.alloc (by first | exact hz | (simp; done) | (simp; omega) | (have := hz; simp at this ⊢; omega)) _))) (fun hHeld3 => ?_)
      clear hK K
      try simp only [Act.put, zgT, zg0, zgS, zsT, zs0, zsS]
      refine wpAnyH_done (by kernel_rfl) ?_ _
      clear hHeld hHeld2 hHeld3
      clear KS
      have BP : Hid (Below (wr.heap.size) wr (wr.alloc (.cells #[.bool rb, .int .i64 v] 121))) := (bR.alloc (by first | exact hz | (simp; done) | (simp; omega) | (have := hz; simp at this ⊢; omega)) _)
      replace B := lA B BP
      replace OO := lA OO BP
      replace BW := lA BW BP
      replace BA := lA BA BP
      replace K1 := lA K1 BP
      replace K2 := lA K2 BP
      replace XM := lA XM BP
      replace lM := lL lM
      replace XR := lA XR BP
      replace lR := lL lR
      replace XO := lA XO BP
      replace lO := lL lO
      have XV : Hid (∀ y, Below (wr.heap.size + 1) (wr.alloc (.cells #[.bool rb, .int .i64 v] 121)) y → y.heap[wr.heap.size]? = some (.cells #[.bool rb, .int .i64 v] 121 (0, 0))) := fun y hy => (hy.block _ (by omega)).trans (boxN _ _ _ _ (by simp))
      have lV : wr.heap.size < wr.heap.size + 1 := by omega
      replace hz : wr.heap.size + 1 ≤ ((wr.alloc (.cells #[.bool rb, .int .i64 v] 121))).heap.size := by simp
      clear BP
      replace B := lD B
      replace OO := lD OO
      replace BW := lD BW
      replace BA := lD BA
      replace K1 := lD K1
      replace K2 := lD K2
      replace XM := lD XM
      replace XR := lD XR
      replace XO := lD XO
      replace XV := lD XV
      replace hz : wr.heap.size + 1 ≤ ((wr.alloc (.cells #[.bool rb, .int .i64 v] 121)).drew).heap.size := Nat.le_trans hz (Below.size (bdrew (Below.refl (wr.heap.size + 1) (wr.alloc (.cells #[.bool rb, .int .i64 v] 121)))))
      generalize ((wr.alloc (.cells #[.bool rb, .int .i64 v] 121)).drew) = w4 at B OO BW BA K1 K2 XM XR XO XV hz ⊢
      have hzn : wr.heap.size + 1 ≤ w4.heap.size := Nat.le_trans hz (Below.size (Below.refl (wr.heap.size + 1) w4))
      replace B := lF B (Below.refl (wr.heap.size + 1) w4) hzn
      replace OO := lF OO (Below.refl (wr.heap.size + 1) w4) hzn
      replace BW := lF BW (Below.refl (wr.heap.size + 1) w4) hzn
      replace BA := lF BA (Below.refl (wr.heap.size + 1) w4) hzn
      replace K1 := lF K1 (Below.refl (wr.heap.size + 1) w4) hzn
      replace K2 := lF K2 (Below.refl (wr.heap.size + 1) w4) hzn
      replace XM := lF XM (Below.refl (wr.heap.size + 1) w4) hzn
      replace lM := Nat.lt_of_lt_of_le lM hzn
      replace XR := lF XR (Below.refl (wr.heap.size + 1) w4) hzn
      replace lR := Nat.lt_of_lt_of_le lR hzn
      replace XO := lF XO (Below.refl (wr.heap.size + 1) w4) hzn
      replace lO := Nat.lt_of_lt_of_le lO hzn
      replace XV := lF XV (Below.refl (wr.heap.size + 1) w4) hzn
      replace lV := Nat.lt_of_lt_of_le lV hzn
      clear hz
      have hz : w4.heap.size ≤ w4.heap.size := Nat.le_refl _
      have lV2 := lV
      have lO2 := lO
      have lM2 := lM
      cases rb
      · have FE : Hid (F m = (false, v)) := by show _ = _; first | exact FM.out | (rw [FM.out]; simp [*])
        have own5 := (OO.out w4 bR).alloc (.cells #[.bool false, .int .i64 (v)] 121)
        obtain ⟨v', w6, hrun, r1, r2, _⟩ := run_append_own (P := Tryz.prog) (w4.alloc (.cells #[.bool false, .int .i64 (v)] 121)) w1.heap.size 91 91 121 i0 _ 2 16 Tryz.underlying91 hi0 hz0 hz1 hz2 rfl (by decide) (.slice a9 m c9) m _ own5 ⟨w4.heap.size, 0, none⟩ 1 1 [.bool false, .int .i64 (v)] rfl (two_new w4 _ _ _ _ rfl) (by simp [Value.oneCell']) (by unfold maxLen; omega) (by omega) (by simp; omega)
        obtain ⟨g', cap', rfl⟩ := ownsRow_succ r1
        have hne : some (w1.heap.size + 1) ≠ (Value.slice a9 m c9).ownBlock := own_ne (OO.out w4 bR) (XO.out w4 bR) (by decide)
        have e6 : w6.heap[w1.heap.size + 1]? = some (.cells #[.int .i64 c0, .slice a9 m c9] 93 (0, 0)) := (r2.block _ (by simp; omega) hne).trans ((Below.heap_alloc w4 _ _ (by omega)).trans (XO.out w4 bR))
        have hF1 : Hid (flatV (((List.range n).map F).take (m + 1)) = flatV (((List.range n).map F).take m) ++ [.bool false, .int .i64 (v)]) := by show _ = _; rw [vals_take F n m hlt, flatV_snoc, FE.out]
        have R1 : Hid (w6.ownsRow w1.heap.size 121 2 (.slice (some ⟨g', 0, none⟩) (m + 1) cap') (m + 1) (flatV (((List.range n).map F).take (m + 1)))) := by show World.ownsRow _ _ _ _ _ _ _; rw [hF1.out]; exact r1
        have hne2 : some (w1.heap.size + 1) ≠ (Value.slice (some ⟨g', 0, none⟩) (m + 1) cap').ownBlock := own_ne R1.out e6 (by decide)
        have B6 : Hid (Below w1.heap.size w2 w6) := Below.grown ((BW.out w4 bR).alloc (Nat.le_trans hB12 (BW.out w4 bR).size) _) r2 (by have := (BW.out w4 bR).size; simp; omega) (fun b hb => own_ge (OO.out w4 bR) b hb.symm)
        have HRUN : Hid ((Builtin.append_ #[91, 91] 91 #[.slice a9 m c9, .slice (some ⟨w4.heap.size, 0, none⟩) 1 1]).run Tryz.prog (w4.alloc (.cells #[.bool false, .int .i64 (v)] 121)) = .ok (.slice (some ⟨g', 0, none⟩) (m + 1) cap') w6) := hrun
        obtain ⟨kP0, kP1⟩ := bk2 e6
        obtain ⟨qP0, qP1⟩ := bq2 e6
        clear hrun r1 r2 own5
        obtain ⟨kM0, kM1, kM2, kM3, kM4⟩ := bk5 (XM.out w4 bR)
        obtain ⟨kR0, kR1⟩ := bk2 (XR.out w4 bR)
        obtain ⟨kO0, kO1⟩ := bk2 (XO.out w4 bR)
        obtain ⟨kV0, kV1⟩ := bk2 (XV.out w4 bR)
        go_wp2_with (
          at_builtin
          refine list_appP rfl _ _ _ rfl _ _ _ rfl rfl HRUN.out ?_)
        exact ⟨⟨m + 1, some ⟨g', 0, none⟩, cap', by omega, by rw [← HIX.out]; go_num, boxS e6 1 _, own_setb R1.out ⟨w1.heap.size + 1, 1, none⟩ _ (fun h => hne2 h.symm), B6.out.setCell (by simp only; omega) _⟩, by simp [intOf]; omega⟩
      obtain ⟨hv0, hv1⟩ := HVM.out rfl
      by_cases hvp : 0 < v
      rotate_left 1
      · have hvp2 : ¬ v > 0 := by omega
        have FE : Hid (F m = (true, v)) := by show _ = _; first | exact FM.out | (rw [FM.out]; simp [*])
        have own5 := (OO.out w4 bR).alloc (.cells #[.bool true, .int .i64 (v)] 121)
        obtain ⟨v', w6, hrun, r1, r2, _⟩ := run_append_own (P := Tryz.prog) (w4.alloc (.cells #[.bool true, .int .i64 (v)] 121)) w1.heap.size 91 91 121 i0 _ 2 16 Tryz.underlying91 hi0 hz0 hz1 hz2 rfl (by decide) (.slice a9 m c9) m _ own5 ⟨w4.heap.size, 0, none⟩ 1 1 [.bool true, .int .i64 (v)] rfl (two_new w4 _ _ _ _ rfl) (by simp [Value.oneCell']) (by unfold maxLen; omega) (by omega) (by simp; omega)
        obtain ⟨g', cap', rfl⟩ := ownsRow_succ r1
        have hne : some (w1.heap.size + 1) ≠ (Value.slice a9 m c9).ownBlock := own_ne (OO.out w4 bR) (XO.out w4 bR) (by decide)
        have e6 : w6.heap[w1.heap.size + 1]? = some (.cells #[.int .i64 c0, .slice a9 m c9] 93 (0, 0)) := (r2.block _ (by simp; omega) hne).trans ((Below.heap_alloc w4 _ _ (by omega)).trans (XO.out w4 bR))
        have hF1 : Hid (flatV (((List.range n).map F).take (m + 1)) = flatV (((List.range n).map F).take m) ++ [.bool true, .int .i64 (v)]) := by show _ = _; rw [vals_take F n m hlt, flatV_snoc, FE.out]
        have R1 : Hid (w6.ownsRow w1.heap.size 121 2 (.slice (some ⟨g', 0, none⟩) (m + 1) cap') (m + 1) (flatV (((List.range n).map F).take (m + 1)))) := by show World.ownsRow _ _ _ _ _ _ _; rw [hF1.out]; exact r1
        have hne2 : some (w1.heap.size + 1) ≠ (Value.slice (some ⟨g', 0, none⟩) (m + 1) cap').ownBlock := own_ne R1.out e6 (by decide)
        have B6 : Hid (Below w1.heap.size w2 w6) := Below.grown ((BW.out w4 bR).alloc (Nat.le_trans hB12 (BW.out w4 bR).size) _) r2 (by have := (BW.out w4 bR).size; simp; omega) (fun b hb => own_ge (OO.out w4 bR) b hb.symm)
        have HRUN : Hid ((Builtin.append_ #[91, 91] 91 #[.slice a9 m c9, .slice (some ⟨w4.heap.size, 0, none⟩) 1 1]).run Tryz.prog (w4.alloc (.cells #[.bool true, .int .i64 (v)] 121)) = .ok (.slice (some ⟨g', 0, none⟩) (m + 1) cap') w6) := hrun
        obtain ⟨kP0, kP1⟩ := bk2 e6
        obtain ⟨qP0, qP1⟩ := bq2 e6
        clear hrun r1 r2 own5
        obtain ⟨kM0, kM1, kM2, kM3, kM4⟩ := bk5 (XM.out w4 bR)
        obtain ⟨kR0, kR1⟩ := bk2 (XR.out w4 bR)
        obtain ⟨kO0, kO1⟩ := bk2 (XO.out w4 bR)
        obtain ⟨kV0, kV1⟩ := bk2 (XV.out w4 bR)
        go_wp2_with (
          at_builtin
          refine list_appP rfl _ _ _ rfl _ _ _ rfl rfl HRUN.out ?_)
        exact ⟨⟨m + 1, some ⟨g', 0, none⟩, cap', by omega, by rw [← HIX.out]; go_num, boxS e6 1 _, own_setb R1.out ⟨w1.heap.size + 1, 1, none⟩ _ (fun h => hne2 h.symm), B6.out.setCell (by simp only; omega) _⟩, by simp [intOf]; omega⟩
      have hvp2 : v > 0 := by omega
      obtain ⟨vq, rfl⟩ : ∃ q : Nat, v = (q : Int) + 1 := ⟨v.toNat - 1, by omega⟩
      have hvn : vq < nl := by omega
      have cN : w4.cell? ⟨ng, vq, none⟩ = some (.int .i64 (nm vq)) := ((BA.out w4 bR).cell (p := ⟨ng, vq, none⟩) (hng vq hvn)).trans (HN.out vq hvn)
      have hsb : IntKind.i64.wrap ((vq : Int) + 1 - 1) = (vq : Int) := by rw [IntKind.wrap_i64] <;> omega
      obtain ⟨nv, hnv⟩ : ∃ nv, nm vq = nv := ⟨_, rfl⟩
      rw [hnv] at cN
      have FM2 : Hid (F m = (true, nv)) := by show _ = _; rw [FM.out, ← hnv]; simp [hvp]
      obtain ⟨kM0, kM1, kM2, kM3, kM4⟩ := bk5 (XM.out w4 bR)
      obtain ⟨kR0, kR1⟩ := bk2 (XR.out w4 bR)
      obtain ⟨kO0, kO1⟩ := bk2 (XO.out w4 bR)
      obtain ⟨kV0, kV1⟩ := bk2 (XV.out w4 bR)
      obtain ⟨qkV0, qkV1⟩ := bq2 (XV.out w4 bR)
      go_upto_region 9 with fail
      clear kM0 kM1 kM2 kM3 kM4 kR0 kR1 kO0 kO1 kV0 kV1 qkV0 qkV1
      clear cN FM
      have FM := FM2
      have hw0 : w.heap.size ≤ wr.heap.size := HBW.out.size
      replace XM := lS XM lM ((w4.setCell ⟨wr.heap.size, 1, none⟩ (.int .i64 nv))) ((Below.heap_setCell _ _ _ _ (by first | omega | (simp; done) | (simp; omega))))
      replace XR := lS XR lR ((w4.setCell ⟨wr.heap.size, 1, none⟩ (.int .i64 nv))) ((Below.heap_setCell _ _ _ _ (by first | omega | (simp; done) | (simp; omega))))
      replace XO := lS XO lO ((w4.setCell ⟨wr.heap.size, 1, none⟩ (.int .i64 nv))) ((Below.heap_setCell _ _ _ _ (by first | omega | (simp; done) | (simp; omega))))
      replace XV : Hid (∀ y, Below (w4.heap.size) (w4.setCell ⟨wr.heap.size, 1, none⟩ (.int .i64 nv)) y → y.heap[wr.heap.size]? = some (.cells #[.bool true, .int .i64 nv] 121 (0, 0))) := fun y hy => (hy.block _ (by omega)).trans (boxS (XV.out w4 bR) 1 _)
      replace OO : Hid (∀ y, Below (w4.heap.size) (w4.setCell ⟨wr.heap.size, 1, none⟩ (.int .i64 nv)) y → y.ownsRow w1.heap.size 121 2 (.slice a9 m c9) m (flatV (((List.range n).map F).take m))) := fun y hy => own_later (own_setb (OO.out w4 bR) ⟨wr.heap.size, 1, none⟩ (.int .i64 nv) (fun h => by have := own_lt' HOW.out _ h; simp only at this; omega)) (hy.mono (by simp))
      replace BW : Hid (∀ y, Below (w4.heap.size) (w4.setCell ⟨wr.heap.size, 1, none⟩ (.int .i64 nv)) y → Below w1.heap.size w2 y) := fun y hy => ((BW.out w4 bR).setCell (by simp only; exact Nat.le_trans hB12 HR1.out.size) _).trans (hy.mono (by have := (BW.out w4 bR).size; omega))
      replace BA : Hid (∀ y, Below (w4.heap.size) (w4.setCell ⟨wr.heap.size, 1, none⟩ (.int .i64 nv)) y → Below w.heap.size w y) := fun y hy => ((BA.out w4 bR).setCell (by simp only; exact HBW.out.size) _).trans (hy.mono (by have := (BA.out w4 bR).size; omega))
      clear K1
      clear K2
      replace B : Hid (∀ y, Below (w4.heap.size) (w4.setCell ⟨wr.heap.size, 1, none⟩ (.int .i64 nv)) y → Below w.heap.size w y) := fun y hy => ((B.out w4 bR).setCell hw0 _).trans (hy.mono (by first | omega | exact Nat.le_trans (B.out w4 bR).size hz | (have := (B.out w4 bR).size; omega)))
      replace hz : w4.heap.size ≤ (w4.setCell ⟨wr.heap.size, 1, none⟩ (.int .i64 nv)).heap.size := by first | (simp; done) | simpa using hz
      clear hw0
      generalize (w4.setCell ⟨wr.heap.size, 1, none⟩ (.int .i64 nv)) = w5 at B OO BW BA XM XR XO XV hz ⊢
      have hzn : w4.heap.size ≤ w5.heap.size := Nat.le_trans hz (Below.size (Below.refl (w4.heap.size) w5))
      replace B := lF B (Below.refl (w4.heap.size) w5) hzn
      replace OO := lF OO (Below.refl (w4.heap.size) w5) hzn
      replace BW := lF BW (Below.refl (w4.heap.size) w5) hzn
      replace BA := lF BA (Below.refl (w4.heap.size) w5) hzn
      replace XM := lF XM (Below.refl (w4.heap.size) w5) hzn
      replace lM := Nat.lt_of_lt_of_le lM hzn
      replace XR := lF XR (Below.refl (w4.heap.size) w5) hzn
      replace lR := Nat.lt_of_lt_of_le lR hzn
      replace XO := lF XO (Below.refl (w4.heap.size) w5) hzn
      replace lO := Nat.lt_of_lt_of_le lO hzn
      replace XV := lF XV (Below.refl (w4.heap.size) w5) hzn
      replace lV := Nat.lt_of_lt_of_le lV hzn
      clear hz
      have hz : w5.heap.size ≤ w5.heap.size := Nat.le_refl _
      have FE : Hid (F m = (true, nv)) := by show _ = _; first | exact FM.out | (rw [FM.out]; simp [*])
      have own5 := (OO.out w5 bR).alloc (.cells #[.bool true, .int .i64 (nv)] 121)
      obtain ⟨v', w6, hrun, r1, r2, _⟩ := run_append_own (P := Tryz.prog) (w5.alloc (.cells #[.bool true, .int .i64 (nv)] 121)) w1.heap.size 91 91 121 i0 _ 2 16 Tryz.underlying91 hi0 hz0 hz1 hz2 rfl (by decide) (.slice a9 m c9) m _ own5 ⟨w5.heap.size, 0, none⟩ 1 1 [.bool true, .int .i64 (nv)] rfl (two_new w5 _ _ _ _ rfl) (by simp [Value.oneCell']) (by unfold maxLen; omega) (by omega) (by simp; omega)
      obtain ⟨g', cap', rfl⟩ := ownsRow_succ r1
      have hne : some (w1.heap.size + 1) ≠ (Value.slice a9 m c9).ownBlock := own_ne (OO.out w5 bR) (XO.out w5 bR) (by decide)
      have e6 : w6.heap[w1.heap.size + 1]? = some (.cells #[.int .i64 c0, .slice a9 m c9] 93 (0, 0)) := (r2.block _ (by simp; omega) hne).trans ((Below.heap_alloc w5 _ _ (by omega)).trans (XO.out w5 bR))
      have hF1 : Hid (flatV (((List.range n).map F).take (m + 1)) = flatV (((List.range n).map F).take m) ++ [.bool true, .int .i64 (nv)]) := by show _ = _; rw [vals_take F n m hlt, flatV_snoc, FE.out]
      have R1 : Hid (w6.ownsRow w1.heap.size 121 2 (.slice (some ⟨g', 0, none⟩) (m + 1) cap') (m + 1) (flatV (((List.range n).map F).take (m + 1)))) := by show World.ownsRow _ _ _ _ _ _ _; rw [hF1.out]; exact r1
      have hne2 : some (w1.heap.size + 1) ≠ (Value.slice (some ⟨g', 0, none⟩) (m + 1) cap').ownBlock := own_ne R1.out e6 (by decide)
      have B6 : Hid (Below w1.heap.size w2 w6) := Below.grown ((BW.out w5 bR).alloc (Nat.le_trans hB12 (BW.out w5 bR).size) _) r2 (by have := (BW.out w5 bR).size; simp; omega) (fun b hb => own_ge (OO.out w5 bR) b hb.symm)
      have HRUN : Hid ((Builtin.append_ #[91, 91] 91 #[.slice a9 m c9, .slice (some ⟨w5.heap.size, 0, none⟩) 1 1]).run Tryz.prog (w5.alloc (.cells #[.bool true, .int .i64 (nv)] 121)) = .ok (.slice (some ⟨g', 0, none⟩) (m + 1) cap') w6) := hrun
      obtain ⟨kP0, kP1⟩ := bk2 e6
      obtain ⟨qP0, qP1⟩ := bq2 e6
      clear hrun r1 r2 own5
      obtain ⟨kM0, kM1, kM2, kM3, kM4⟩ := bk5 (XM.out w5 bR)
      obtain ⟨kR0, kR1⟩ := bk2 (XR.out w5 bR)
      obtain ⟨kO0, kO1⟩ := bk2 (XO.out w5 bR)
      obtain ⟨kV0, kV1⟩ := bk2 (XV.out w5 bR)
      go_wp2_with (
        at_builtin
        refine list_appP rfl _ _ _ rfl _ _ _ rfl rfl HRUN.out ?_)
      exact ⟨⟨m + 1, some ⟨g', 0, none⟩, cap', by omega, by rw [← HIX.out]; go_num, boxS e6 1 _, own_setb R1.out ⟨w1.heap.size + 1, 1, none⟩ _ (fun h => hne2 h.symm), B6.out.setCell (by simp only; omega) _⟩, by simp [intOf]; omega⟩
    · have ek : m = n := by omega
      subst ek
      have hlt2 : ¬ ix < tz := by omega
      have TA : Hid (((List.range m).map F).take m = (List.range m).map F) := List.take_of_length_le (by simp)
      obtain ⟨kM0, kM1, kM2, kM3, kM4⟩ := bk5 (XM.out wr bR)
      obtain ⟨kR0, kR1⟩ := bk2 (XR.out wr bR)
      obtain ⟨qkR0, qkR1⟩ := bq2 (XR.out wr bR)
      obtain ⟨kO0, kO1⟩ := bk2 (XO.out wr bR)
      go_wp2_with fail
      refine bodyPost_ret (v := .agg #[.int .i64 c0, .slice a9 m c9]) ?_ rfl ?_
      · simp [results, Tryz.results90, go_sem, *]
      · clear kM0 kM1 kM2 kM3 kM4 kR0 kR1 qkR0 qkR1 kO0 kO1
        refine ⟨a9, c9, rfl, ?_, ((BA.out wr bR).setCell (by simp only; omega) _).setCell (by simp only; omega) _⟩
        have h9 := OO.out wr bR
        rw [TA.out] at h9
        refine own_setb (own_setb (own_low h9 (by omega)) _ _ ?_) _ _ ?_ <;> (intro h8; have := own_ge h9 _ h8.symm; simp only at this; omega)

end Go.Proofs.YtjbmcdekhhbiaaaGreat
namespace Go.Proofs.YtjbmcdekhhbiaaaGreat
open Go.ChangeShapes Go.WideShapes Go.ChangeAt Go.RowKit

/-- The cells of things, of which the lists lie in memory of their own. -/
structure OutR (w : World) (base : Nat) (gs : List Ob) (k : Nat) (L : List Value) : Prop where
  len : L.length = k * 2
  at' : ∀ (j : Nat) (x : Ob), j < k → gs[j]? = some x → L[j * 2]? = some (.int .i64 x.1) ∧ i64B x.1 ∧ ∃ a c, L[j * 2 + 1]? = some (.slice a x.2.length c) ∧ w.ownsRow base 121 2 (.slice a x.2.length c) x.2.length (flatV x.2)
theorem OutR.keep {w w' : World} {base k : Nat} {gs : List Ob} {L : List Value} (h : OutR w base gs k L) (hk : ∀ (g : Nat) (cur : Array Value), w.heap[g]? = some (.cells cur 121 (0, 0)) → w'.heap[g]? = w.heap[g]?) : OutR w' base gs k L :=
  ⟨h.len, fun j x hj hx => by
    obtain ⟨h1, h2, a, c, h3, h4⟩ := h.at' j x hj hx
    refine ⟨h1, h2, a, c, h3, own_keep' h4 (fun g hg => ?_)⟩
    rcases h4.2 with ⟨e, _⟩ | ⟨g2, cap, cur, e, _, hcur, _⟩
    · rw [e] at hg; simp [Value.ownBlock] at hg
    · rw [e] at hg
      obtain rfl : g2 = g := by simpa [Value.ownBlock] using hg
      exact hk g2 cur hcur⟩
theorem OutR.snoc {w : World} {base k : Nat} {gs : List Ob} {L : List Value} {x : Ob} {a : Option Addr} {c m : Nat} (h : OutR w base gs k L) (hx : gs[k]? = some x) (hi : i64B x.1) (hm : x.2.length = m) (hw : w.ownsRow base 121 2 (.slice a m c) m (flatV x.2)) : OutR w base gs (k + 1) (L ++ [.int .i64 x.1, .slice a m c]) := by
  subst hm
  refine ⟨by rw [List.length_append, h.len]; simp; omega, fun j y hj hy => ?_⟩
  by_cases e : j = k
  · subst e
    obtain rfl : y = x := by rw [hx] at hy; simpa using hy.symm
    refine ⟨?_, hi, a, c, ?_, hw⟩
    · rw [List.getElem?_append_right (by rw [h.len]; omega), h.len]; simp
    · rw [List.getElem?_append_right (by rw [h.len]; omega), h.len, show j * 2 + 1 - j * 2 = 1 by omega]; simp
  · obtain ⟨h1, h2, a', c', h3, h4⟩ := h.at' j y (by omega) hy
    exact ⟨by rw [List.getElem?_append_left (by rw [h.len]; omega)]; exact h1, h2, a', c', by rw [List.getElem?_append_left (by rw [h.len]; omega)]; exact h3, h4⟩
theorem OutR.sl {w : World} {base b2 n c : Nat} {a : Option Addr} {gs : List Ob} {L : List Value} (h : OutR w base gs n L) (hn : gs.length = n) (hl : n ≤ 1048576) (hb : ∀ x ∈ gs, x.2.length ≤ 1048576 ∧ ∀ v ∈ x.2, i64B v.2) (hw : w.ownsRow b2 93 2 (.slice a n c) n L) (h2 : base ≤ b2) : SlAt obR (fun b => base ≤ b) w a n gs := by
  refine ⟨hn, by omega, ?_⟩
  rcases hw.2 with ⟨_, h0⟩ | ⟨g, cap, cur, e, hg, hcur, _, _, hsz, htk⟩
  · exact .inl h0
  · cases e
    refine .inr ⟨g, 0, rfl, by omega, fun i x hx => ?_⟩
    have hi := (List.getElem?_eq_some_iff.1 hx).1
    obtain ⟨f0, b0, a', c', f1, hw'⟩ := h.at' i x (by omega) hx
    obtain ⟨k1, k2⟩ := hb x (List.mem_of_getElem? hx)
    rw [← htk] at f0 f1
    have key : ∀ j v, (cur.toList.take (n * 2))[j]? = some v → w.cell? ⟨g, j, none⟩ = some v := fun j v hj => by
      have : cur.toList[j]? = some v := by
        rw [List.getElem?_take] at hj
        by_cases hj2 : j < n * 2
        · rwa [if_pos hj2] at hj
        · rw [if_neg hj2] at hj; cases hj
      simp only [World.cell?, hcur]
      simpa using this
    refine ⟨[.int .i64 x.1, .slice a' x.2.length c'], ⟨[.int .i64 x.1], _, rfl, ⟨rfl, b0⟩, a', x.2.length, c', rfl, own_vals hw' k2 (by omega)⟩, fun j v hv => ?_⟩
    match j, hv with
    | 0, hv => simp at hv; subst hv; rw [Nat.zero_add]; exact key _ _ f0
    | 1, hv => simp at hv; subst hv; rw [Nat.zero_add]; exact key _ _ f1


end Go.Proofs.YtjbmcdekhhbiaaaGreat
namespace Go.Proofs.YtjbmcdekhhbiaaaGreat
open Go.ChangeShapes Go.WideShapes Go.ChangeAt Go.RowKit
set_option linter.unusedVariables false

/-- A thing as it is seen, by numbers that are given. -/
def objN (nm : Nat → Int) (ws : List Int) (t : Th) : Ob := (t.2.1, (List.range t.2.2.length).map (seeN nm t.2.2 ws (t.1.toNat - 1 + hdN t.2.1)))
set_option maxRecDepth 100000 in
set_option maxHeartbeats 8000000 in
theorem objsSpec (ca : Option Addr) (cn cc : Nat) (wa : Option Addr) (wl wc : Nat) (yg tp od : Nat) (da : Option Addr) (dl dc : Nat) (ws : List Int) (cd : List Bool) (L : List Cl) (w : World) {D E G : Nat → Prop} (h : ClsAt D E w ca cn L) (ok : clsOk L = true) (hw : IntsAt G w wa wl ws) (m1 : tp ≤ yg) (m2 : yg ≤ od) (m3 : od ≤ wl) (hl : wl ≤ 1000) (hsome : ((yPs L (ws, (yg : Int), (tp : Int), (od : Int), cd)).isSome && (oPs L (ws, (yg : Int), (tp : Int), (od : Int), cd)).isSome) = true) (htk : ∀ t ∈ thT L (ws, (yg : Int), (tp : Int), (od : Int), cd), TOk L (ws, (yg : Int), (tp : Int), (od : Int), cd) t) (hvv : ∀ t ∈ thT L (ws, (yg : Int), (tp : Int), (od : Int), cd), ∀ k, k < t.2.2.length → t.2.2.getD k 0 ≠ 1 → 0 ≤ ws.getD (t.1.toNat - 1 + hdN t.2.1 + k) 0 ∧ ws.getD (t.1.toNat - 1 + hdN t.2.1 + k) 0 ≤ wl) :
    Calls Tryz.prog 54 #[.slice ca cn cc, .agg #[.slice wa wl wc, .int .i64 (yg : Nat), .int .i64 (tp : Nat), .int .i64 (od : Nat), .slice da dl dc]] w fun e w' => ∃ (a : Option Addr) (c : Nat) (Ls : List Value) (lo : Nat), e = .returned (.slice a ((thT L (ws, (yg : Int), (tp : Int), (od : Int), cd)).map (objN (numL (plN (thT L (ws, (yg : Int), (tp : Int), (od : Int), cd)))) ws)).length c) ∧ (w'.ownsRow lo 93 2 (.slice a ((thT L (ws, (yg : Int), (tp : Int), (od : Int), cd)).map (objN (numL (plN (thT L (ws, (yg : Int), (tp : Int), (od : Int), cd)))) ws)).length c) ((thT L (ws, (yg : Int), (tp : Int), (od : Int), cd)).map (objN (numL (plN (thT L (ws, (yg : Int), (tp : Int), (od : Int), cd)))) ws)).length Ls ∧ OutR w' lo ((thT L (ws, (yg : Int), (tp : Int), (od : Int), cd)).map (objN (numL (plN (thT L (ws, (yg : Int), (tp : Int), (od : Int), cd)))) ws)) ((thT L (ws, (yg : Int), (tp : Int), (od : Int), cd)).map (objN (numL (plN (thT L (ws, (yg : Int), (tp : Int), (od : Int), cd)))) ws)).length Ls) ∧ w.heap.size ≤ lo ∧ Below w.heap.size w w' := by
  have H : Hid (ClsAt D E w ca cn L) := h
  have HW : Hid (IntsAt G w wa wl ws) := hw
  have WS : Hid (ws.length = wl) := hw.size
  have OK : Hid (clsOk L = true) := ok
  have TK0 : Hid (∀ t ∈ thT L (ws, (yg : Int), (tp : Int), (od : Int), cd), TOk L (ws, (yg : Int), (tp : Int), (od : Int), cd) t) := htk
  have VV : Hid (∀ t ∈ thT L (ws, (yg : Int), (tp : Int), (od : Int), cd), ∀ k, k < t.2.2.length → t.2.2.getD k 0 ≠ 1 → 0 ≤ ws.getD (t.1.toNat - 1 + hdN t.2.1 + k) 0 ∧ ws.getD (t.1.toNat - 1 + hdN t.2.1 + k) 0 ≤ wl) := hvv
  obtain ⟨i0, hi0, hz0, hz1, hz2⟩ := info_parts info_Obj
  clear h hw ok htk hvv
  obtain ⟨T, hT⟩ : ∃ T, thT L (ws, (yg : Int), (tp : Int), (od : Int), cd) = T := ⟨_, rfl⟩
  have HT : Hid (thT L (ws, (yg : Int), (tp : Int), (od : Int), cd) = T) := hT
  rw [hT] at TK0 VV ⊢
  clear hT
  obtain ⟨nm, hnm⟩ : ∃ nm, numL (plN T) = nm := ⟨_, rfl⟩
  have NM : Hid (numL (plN T) = nm) := hnm
  rw [hnm]
  obtain ⟨gs, hgs⟩ : ∃ gs, T.map (objN nm ws) = gs := ⟨_, rfl⟩
  have GS : Hid (T.map (objN nm ws) = gs) := hgs
  rw [hgs]
  clear hgs hnm
  have hz : w.heap.size + 1 ≤ (w.alloc (.cells #[.slice wa wl wc, .int .i64 (yg : Nat), .int .i64 (tp : Nat), .int .i64 (od : Nat), .slice da dl dc] 29)).heap.size := by simp
  have B : Hid (∀ y, Below (w.heap.size + 1) (w.alloc (.cells #[.slice wa wl wc, .int .i64 (yg : Nat), .int .i64 (tp : Nat), .int .i64 (od : Nat), .slice da dl dc] 29)) y → Below w.heap.size w y) := fun y hy => (bR.alloc (by first | exact Nat.le_refl _ | (simp; done) | (simp; omega)) _).trans (hy.mono (by omega))
  have XM : Hid (∀ y, Below (w.heap.size + 1) (w.alloc (.cells #[.slice wa wl wc, .int .i64 (yg : Nat), .int .i64 (tp : Nat), .int .i64 (od : Nat), .slice da dl dc] 29)) y → y.heap[w.heap.size]? = some (.cells #[.slice wa wl wc, .int .i64 (yg : Nat), .int .i64 (tp : Nat), .int .i64 (od : Nat), .slice da dl dc] 29 (0, 0))) := fun y hy => (hy.block _ (by omega)).trans (boxN _ _ _ _ (by simp))
  have lM : w.heap.size < w.heap.size + 1 := by omega
  go_enter Tryz.func54, Tryz.ntmps54
  go_wp2_with fail
  have BP : Hid (Below (w.heap.size + 1) (w.alloc (.cells #[.slice wa wl wc, .int .i64 (yg : Nat), .int .i64 (tp : Nat), .int .i64 (od : Nat), .slice da dl dc] 29)) (w.alloc (.cells #[.slice wa wl wc, .int .i64 (yg : Nat), .int .i64 (tp : Nat), .int .i64 (od : Nat), .slice da dl dc] 29))) := bR
  refine (walkSpec _ _ _ _ _ _ yg tp od _ _ _ ws cd L _ (H.out.later (B.out _ BP.out)) OK.out (HW.out.later (B.out _ BP.out)) m1 m2 m3 (by omega)).mono ?_
  rintro e w1 ⟨v9, out, bb, rfl, hn, hzo, hx, hbb, hts⟩
  have hb := hn.2
  obtain ⟨g2, c2, rfl⟩ := own_sl hn.1
  have I2 : Hid (IntsAt (fun b => b < w1.heap.size) w1 g2 out.length out) := ((own_at hn.1 (by omega) (fits_lit fun x hx0 => by have := hx x hx0; omega)).1).mono (fun b _ hl => hl)
  have ho := hts (by rw [hbb]; exact hsome)
  have hq : Below (w.heap.size + 1) (w.alloc (.cells #[.slice wa wl wc, .int .i64 (yg : Nat), .int .i64 (tp : Nat), .int .i64 (od : Nat), .slice da dl dc] 29)) w1 := BP.out.trans (Below.mono hb (Nat.le_trans hz BP.out.size))
  have hzn : w.heap.size + 1 ≤ w1.heap.size := Nat.le_trans hz hq.size
  replace B := lF B hq hzn
  replace XM := lF XM hq hzn
  replace lM := Nat.lt_of_lt_of_le lM hzn
  clear hq BP hz
  have hz : w1.heap.size ≤ w1.heap.size := Nat.le_refl _
  clear hn hb hx hbb hts
  rw [HT.out] at ho
  subst ho
  have TX : Hid (∀ x ∈ plN T, 0 ≤ x ∧ x < (wl : Int)) := fun x hx => by
    obtain ⟨s, hs, rfl⟩ := List.mem_map.1 hx
    have := (TK0.out s hs).most; simp only [WS.out] at this; omega
  have hpl : (plN T).length = T.length := by simp [plN]
  obtain ⟨tl, htl⟩ : ∃ tl, T.length = tl := ⟨_, rfl⟩
  have TL : Hid (T.length = tl) := htl
  rw [hpl, htl] at I2 hzo
  rw [hpl, htl]
  clear hpl htl
  obtain ⟨kM0, kM1, kM2, kM3, kM4⟩ := bk5 (XM.out w1 bR)
  go_wp2_with fail
  clear kM0 kM1 kM2 kM3 kM4
  have BP : Hid (Below (w1.heap.size) w1 w1) := bR
  refine (numSpec wl (by omega) g2 tl c2 (plN T) _ (I2.out.later BP.out) TX.out).mono ?_
  rintro e w2 ⟨rfl, hrow, hb⟩
  have hgn : w1.heap.size < w2.heap.size ∨ wl = 0 := by
    rcases Nat.eq_zero_or_pos wl with h9 | h9
    · exact .inr h9
    · exact .inl (by have := World.block_lt_of_cell? w2 _ (hrow 0 h9).1; simpa using this)
  have RN : Hid (RowAt w2 w1.heap.size wl (fun j => .int .i64 (nm j))) := by rw [← NM.out]; exact hrow
  have I3 : Hid (IntsAt (fun b => b < w2.heap.size) w2 g2 tl (plN T)) := (I2.out.later hb).mono (fun b h _ => Nat.lt_of_lt_of_le h hb.size)
  have hq : Below (w1.heap.size) w1 w2 := BP.out.trans (Below.mono hb (Nat.le_trans hz BP.out.size))
  have hzn : w1.heap.size ≤ w2.heap.size := Nat.le_trans hz hq.size
  replace B := lF B hq hzn
  replace XM := lF XM hq hzn
  replace lM := Nat.lt_of_lt_of_le lM hzn
  clear hq BP hz
  have hz : w2.heap.size ≤ w2.heap.size := Nat.le_refl _
  clear hb hrow I2
  obtain ⟨kM0, kM1, kM2, kM3, kM4⟩ := bk5 (XM.out w2 bR)
  go_wp2_with fail
  clear kM0 kM1 kM2 kM3 kM4
  have OZ : Hid ((w2.alloc (.cells #[] 93)).ownsRow w2.heap.size 93 2 (.slice (some ⟨w2.heap.size, 0, none⟩) 0 0) 0 []) := ⟨rfl, .inr ⟨w2.heap.size, 0, #[], rfl, Nat.le_refl _, boxN _ _ _ _ rfl, Nat.le_refl _, Nat.zero_le _, rfl, rfl⟩⟩
  go_loopw [8, 9] (fun t u wr => ∃ (k : Nat) (a9 : Option Addr) (c9 : Nat) (Ls : List Value), k ≤ tl ∧ t = .slice a9 k c9 ∧ u = .int .i64 k ∧ wr.ownsRow w2.heap.size 93 2 (.slice a9 k c9) k Ls ∧ OutR wr w2.heap.size gs k Ls ∧ Below w2.heap.size w2 wr) (fun _ u _ => tl - (intOf u).toNat)
  case atStart => exact ⟨0, _, _, [], Nat.zero_le _, rfl, rfl, OZ.out, ⟨rfl, fun j _ hj => by omega⟩, (bR.alloc (Nat.le_refl _) _)⟩
  case round =>
    obtain ⟨k, a9, c9, Ls, hk, rfl, rfl, hown, hout, hr⟩ := hrel
    have HWn : Hid (wr.ownsRow w2.heap.size 93 2 (.slice a9 k c9) k Ls) := hown
    have HOut : Hid (OutR wr w2.heap.size gs k Ls) := hout
    have HR1 : Hid (Below w2.heap.size w2 wr) := hr
    have hM2 : w.heap.size < w2.heap.size := lM
    have HBW : Hid (Below w.heap.size w wr) := (B.out w2 bR).trans (hr.mono (Nat.le_of_lt hM2))
    clear hown hout
    have BP : Hid (Below (w2.heap.size) w2 w2) := bR
    have hq : Below (w2.heap.size) w2 wr := (BP.out.mono (by omega)).trans (Below.mono hr (by omega))
    have hzn : w2.heap.size ≤ wr.heap.size := Nat.le_trans hz hq.size
    replace B : Hid (∀ y, Below wr.heap.size wr y → Below w.heap.size w y) := fun y hy => ((B.out w2 bR).trans (hq.mono (by omega))).trans (hy.mono (Nat.le_trans (B.out w2 bR).size hq.size))
    replace XM : Hid (∀ y, Below wr.heap.size wr y → y.heap[w.heap.size]? = some (.cells #[.slice wa wl wc, .int .i64 (yg : Nat), .int .i64 (tp : Nat), .int .i64 (od : Nat), .slice da dl dc] 29 (0, 0))) := fun y hy => (hy.block _ (by omega)).trans ((hq.block _ (by omega)).trans (XM.out w2 bR))
    replace lM : w.heap.size < wr.heap.size := by omega
    clear hq BP hz
    have hz : wr.heap.size ≤ wr.heap.size := Nat.le_refl _
    clear hr
    have BU : Hid (∀ y, Below (wr.heap.size) wr y → Below w2.heap.size w2 y) := fun y hy => HR1.out.trans (hy.mono HR1.out.size)
    have BA : Hid (∀ y, Below (wr.heap.size) wr y → Below w.heap.size w y) := fun y hy => HBW.out.trans (hy.mono HBW.out.size)
    by_cases hlt : k < tl
    · obtain ⟨t, ht⟩ : ∃ t, T[k]? = some t := ⟨T[k]'(by rw [TL.out]; exact hlt), List.getElem?_eq_getElem _⟩
      have tk := TK0.out t (List.mem_of_getElem? ht)
      have tv := VV.out t (List.mem_of_getElem? ht)
      have HGk : Hid (gs[k]? = some (objN nm ws t)) := by show _ = _; rw [← GS.out, List.getElem?_map, ht]; rfl
      obtain ⟨b, off, rfl, hbl, hcs⟩ := I3.out.one k hlt
      have c0 := hcs k hlt
      rw [plN_at ht] at c0
      obtain ⟨x0, x1, ty⟩ := t
      have lo := tk.lo
      simp only at lo
      obtain ⟨p, rfl⟩ : ∃ p : Nat, x0 = (p : Int) + 1 := ⟨x0.toNat - 1, by omega⟩
      have e0 : ((p : Int) + 1).toNat - 1 = p := by omega
      have hhi := tk.hi
      have hsz := tk.sz
      have hcl := tk.cls
      have his := tk.ist
      have hty := tk.ty
      simp only [tSz, e0, WS.out] at hhi hsz hcl his hty tv c0
      rw [show (p : Int) + 1 - 1 = (p : Int) by omega] at c0
      have hc0 : x1 = -1 ∨ x1 = -2 ∨ 0 ≤ x1 := by
        have h8 := his
        unfold isT at h8
        split at h8
        · rename_i h9; rcases h9 with h9 | h9 <;> simp [h9]
        · have := inI_iff.1 h8; omega
      have FX : Hid (i64B x1) := by have := HW.out.fits p; rw [hcl] at this; exact this
      have GO : Hid (objN nm ws ((p : Int) + 1, x1, ty) = (x1, (List.range ty.length).map (seeN nm ty ws (p + hdN x1)))) := by show _ = _; unfold objN; simp only [e0]
      rw [GO.out] at HGk
      have H1 : Hid (p + tSz ((p : Int) + 1, x1, ty) ≤ wl) := hhi
      have H2 : Hid (tsz L (ws.drop p) = tSz ((p : Int) + 1, x1, ty)) := hsz
      have H3 : Hid (ws.getD p 0 = x1) := hcl
      have H4 : Hid (isT L x1 (ws.getD (p + 1) 0) = true) := his
      have H5 : Hid (ty = typ L x1 (ws.getD (p + 1) 0)) := hty
      have H6 : Hid (∀ k, k < ty.length → ty.getD k 0 ≠ 1 → 0 ≤ ws.getD (p + hdN x1 + k) 0 ∧ ws.getD (p + hdN x1 + k) 0 ≤ wl) := tv
      obtain ⟨n, hn⟩ : ∃ n, ty.length = n := ⟨_, rfl⟩
      have TN : Hid (ty.length = n) := hn
      clear hcs tk tv lo hhi hsz hcl his hty ht hn
      have K1 : Hid (∀ y, Below (wr.heap.size) wr y → y.cell? ⟨b, off + k, none⟩ = some (.int .i64 p)) := fun y hy => ((BU.out y hy).cell (p := ⟨b, off + k, none⟩) hbl).trans c0
      obtain ⟨kM0, kM1, kM2, kM3, kM4⟩ := bk5 (XM.out wr bR)
      go_wp2_with fail
      clear kM0 kM1 kM2 kM3 kM4
      have KS : Hid (∀ x, Below (wr.heap.size) wr x → x.cell? ⟨w.heap.size, 0, none⟩ = some (.slice wa wl wc) ∧ x.cell? ⟨w.heap.size, 1, none⟩ = some (.int .i64 (yg : Nat)) ∧ x.cell? ⟨w.heap.size, 2, none⟩ = some (.int .i64 (tp : Nat)) ∧ x.cell? ⟨w.heap.size, 3, none⟩ = some (.int .i64 (od : Nat)) ∧ x.cell? ⟨w.heap.size, 4, none⟩ = some (.slice da dl dc) ∧ x.cell? ⟨b, off + k, none⟩ = some (.int .i64 p)) := fun x hx => ⟨(boxG (XM.out x hx) 0).1, (boxG (XM.out x hx) 1).1, (boxG (XM.out x hx) 2).1, (boxG (XM.out x hx) 3).1, (boxG (XM.out x hx) 4).1, K1.out x hx⟩
      refine wp_region_held_drew (S := fun x => x.cell? ⟨w.heap.size, 0, none⟩ = some (.slice wa wl wc) ∧ x.cell? ⟨w.heap.size, 1, none⟩ = some (.int .i64 (yg : Nat)) ∧ x.cell? ⟨w.heap.size, 2, none⟩ = some (.int .i64 (tp : Nat)) ∧ x.cell? ⟨w.heap.size, 3, none⟩ = some (.int .i64 (od : Nat)) ∧ x.cell? ⟨w.heap.size, 4, none⟩ = some (.slice da dl dc) ∧ x.cell? ⟨b, off + k, none⟩ = some (.int .i64 p)) (by kernel_rfl) ?_ (fun hHeld => ?_)
      · exact KS.out _ (bdrew bR)
      refine tV 0 (v := ?_) rfl (by kernel_rfl) (fun _ _ _ h => h) ?_ (by assumption) ?_
      rotate_left 1
      · (intro x hSx; (try dsimp only at hSx); go_simp; try with_reducible rfl)
      try simp only [Act.put, zgT, zg0, zsT, zs0, zsS]
      refine tV 1 (v := ?_) rfl (by kernel_rfl) (fun _ _ _ h => h) ?_ (by assumption) ?_
      rotate_left 1
      · (intro x hSx; (try dsimp only at hSx); go_simp; try with_reducible rfl)
      try simp only [Act.put, zgT, zg0, zgS, zsT, zs0, zsS]
      refine tV 2 (v := ?_) rfl (by kernel_rfl) (fun _ _ _ h => h) ?_ (by assumption) ?_
      rotate_left 1
      · (intro x hSx; (try dsimp only at hSx); go_simp; try with_reducible rfl)
      try simp only [Act.put, zgT, zg0, zgS, zsT, zs0, zsS]
      refine tV 3 (v := ?_) rfl (by kernel_rfl) (fun _ _ _ h => h) ?_ (by assumption) ?_
      rotate_left 1
      · (intro x hSx; (try dsimp only at hSx); go_simp; try with_reducible rfl)
      try simp only [Act.put, zgT, zg0, zgS, zsT, zs0, zsS]
      refine tV 4 (v := ?_) rfl (by kernel_rfl) (fun _ _ _ h => h) ?_ (by assumption) ?_
      rotate_left 1
      · (intro x hSx; (try dsimp only at hSx); go_simp; try with_reducible rfl)
      try simp only [Act.put, zgT, zg0, zgS, zsT, zs0, zsS]
      refine tV 5 (v := ?_) rfl (by kernel_rfl) (fun _ _ _ h => h) ?_ (by assumption) ?_
      rotate_left 1
      · (intro x hSx; (try dsimp only at hSx); go_simp; try with_reducible rfl)
      try simp only [Act.put, zgT, zg0, zgS, zsT, zs0, zsS]
      refine tV 6 (v := ?_) rfl (by kernel_rfl) (fun _ _ _ h => h) ?_ (by assumption) ?_
      rotate_left 1
      · (intro x hSx; (try dsimp only at hSx); go_simp; try with_reducible rfl)
      try simp only [Act.put, zgT, zg0, zgS, zsT, zs0, zsS]
      refine tV 7 (v := ?_) rfl (by kernel_rfl) (fun _ _ _ h => h) ?_ (by assumption) ?_
      rotate_left 1
      · (intro x hSx; (try dsimp only at hSx); go_simp; try with_reducible rfl)
      try simp only [Act.put, zgT, zg0, zgS, zsT, zs0, zsS]
      refine wpAnyH_ready (rs := [8]) (by kernel_rfl) (by simp) ?_
      refine AllReadyH.cons rfl (fun K hK => ?_) AllReadyH.nil
      go_simp
      go_at_call 90
      have BP : Hid (Below (wr.heap.size) wr wr.drew) := (bdrew bR)
      refine (objSpec ca cn cc _ _ _ _ _ _ _ _ _ w1.heap.size wl wl nm p x1 ty ws L _ (H.out.later (BA.out _ BP.out)) OK.out (HW.out.later (BA.out _ BP.out)) H1.out (by omega) H3.out H4.out H5.out H2.out hc0 (fun j hj => ((BU.out _ BP.out).cell (p := ⟨w1.heap.size, j, none⟩) (by show w1.heap.size < _; omega)).trans (RN.out j hj).1) (by omega) H6.out).mono ?_
      rintro e w7 ⟨oa, oc, rfl, hY, hb⟩
      rw [TN.out] at hY ⊢
      have HY : Hid (w7.ownsRow wr.heap.size 121 2 (.slice oa n oc) n (flatV ((List.range n).map (seeN nm ty ws (p + hdN x1))))) := own_low hY BP.out.size
      have B7 : Hid (Below wr.heap.size wr w7) := BP.out.trans (hb.mono BP.out.size)
      clear hY
      have hq : Below (wr.heap.size) wr w7 := BP.out.trans (Below.mono hb (Nat.le_trans hz BP.out.size))
      have hzn : wr.heap.size ≤ w7.heap.size := Nat.le_trans hz hq.size
      replace B := lF B hq hzn
      replace BU := lF BU hq hzn
      replace BA := lF BA hq hzn
      replace K1 := lF K1 hq hzn
      replace KS := lF KS hq hzn
      replace XM := lF XM hq hzn
      replace lM := Nat.lt_of_lt_of_le lM hzn
      clear hq BP hz
      have hz : w7.heap.size ≤ w7.heap.size := Nat.le_refl _
      clear hb
      go_wp2_with fail
      refine hK.out _ _ (KS.out _ bR) (fun hHeld2 => ?_)
      clear hK K
      try simp only [Act.put, zgT, zg0, zgS, zsT, zs0, zsS]
      refine wpAnyH_ready (rs := [9]) (by kernel_rfl) (by simp) ?_
      refine AllReadyH.cons rfl (fun K hK => ?_) AllReadyH.nil
      go_simp
      have BP : Hid (Below (w7.heap.size) w7 (w7.alloc (.cells #[.int .i64 x1, .slice oa n oc] 93))) := (bR.alloc (by first | exact hz | (simp; done) | (simp; omega) | (have := hz; simp at this ⊢; omega)) _)
      replace B := lA B BP
      replace BU := lA BU BP
      replace BA := lA BA BP
      replace K1 := lA K1 BP
      replace KS := lA KS BP
      replace XM := lA XM BP
      replace lM := lL lM
      have XL : Hid (∀ y, Below (w7.heap.size + 1) (w7.alloc (.cells #[.int .i64 x1, .slice oa n oc] 93)) y → y.heap[w7.heap.size]? = some (.cells #[.int .i64 x1, .slice oa n oc] 93 (0, 0))) := fun y hy => (hy.block _ (by omega)).trans (boxN _ _ _ _ (by simp))
      have lL : w7.heap.size < w7.heap.size + 1 := by omega
      replace hz : w7.heap.size + 1 ≤ ((w7.alloc (.cells #[.int .i64 x1, .slice oa n oc] 93))).heap.size := by simp
      clear BP
      refine hK.out _ _ (KS.out _ bR) (fun hHeld3 => ?_)
      clear hK K
      try simp only [Act.put, zgT, zg0, zgS, zsT, zs0, zsS]
      refine wpAnyH_ready (rs := [10]) (by kernel_rfl) (by simp) ?_
      refine AllReadyH.cons rfl (fun K hK => ?_) AllReadyH.nil
      have own8 := (own_keep' HWn.out (fun g hg => B7.out.block g (own_lt' HWn.out g hg))).alloc (.cells #[.int .i64 x1, .slice oa n oc] 93)
      obtain ⟨v', w9, hrun, r1, r2, _⟩ := run_append_own (P := Tryz.prog) (w7.alloc (.cells #[.int .i64 x1, .slice oa n oc] 93)) w2.heap.size 43 43 93 i0 _ 2 32 Tryz.underlying43 hi0 hz0 hz1 hz2 rfl (by decide) (.slice a9 k c9) k _ own8 ⟨w7.heap.size, 0, none⟩ 1 1 [.int .i64 x1, .slice oa n oc] rfl (two_new w7 _ _ _ _ rfl) (by simp [Value.oneCell']) (by unfold maxLen; omega) (by omega) (by simp; omega)
      obtain ⟨g', cap', rfl⟩ := ownsRow_succ r1
      have ty9 : ∀ (b : Nat) (cur : Array Value) (t : TypeId), t ≠ 93 → w7.heap[b]? = some (.cells cur t (0, 0)) → w9.heap[b]? = w7.heap[b]? := fun b cur t ht hb9 => by
        have hlt9 := (Array.getElem?_eq_some_iff.1 hb9).1
        refine (r2.block b (by simp; omega) (fun e => ?_)).trans (Below.heap_alloc w7 _ b hlt9)
        rcases HWn.out.2 with ⟨e1, _⟩ | ⟨g2, cap2, cur2, e1, _, hg2, _⟩
        · rw [e1] at e; simp [Value.ownBlock] at e
        · rw [e1] at e
          obtain rfl : b = g2 := by simpa [Value.ownBlock] using e
          rw [B7.out.block b (Array.getElem?_eq_some_iff.1 hg2).1, hg2] at hb9
          cases hb9
          exact ht rfl
      have R1 : Hid (w9.ownsRow w2.heap.size 93 2 (.slice (some ⟨g', 0, none⟩) (k + 1) cap') (k + 1) (Ls ++ [.int .i64 x1, .slice oa n oc])) := r1
      have R2 : Hid (OutR w9 w2.heap.size gs (k + 1) (Ls ++ [.int .i64 x1, .slice oa n oc])) := by
        have o7 : OutR w7 w2.heap.size gs k Ls := HOut.out.keep (fun g cur hg => B7.out.block g (Array.getElem?_eq_some_iff.1 hg).1)
        have o9 : OutR w9 w2.heap.size gs k Ls := o7.keep (fun g cur hg => ty9 g cur _ (by decide) hg)
        refine o9.snoc HGk.out FX.out (by rw [List.length_map, List.length_range]; exact TN.out) ?_
        rw [TN.out]
        refine own_low (own_keep' HY.out (fun g hg => ?_)) HR1.out.size
        rcases HY.out.2 with ⟨e1, _⟩ | ⟨g2, cap2, cur2, e1, _, hg2, _⟩
        · rw [e1] at hg; simp [Value.ownBlock] at hg
        · rw [e1] at hg
          obtain rfl : g2 = g := by simpa [Value.ownBlock] using hg
          exact ty9 g2 cur2 _ (by decide) hg2
      have hb9 : Below w2.heap.size (w7.alloc (.cells #[.int .i64 x1, .slice oa n oc] 93)) w9 := (Below.refl _ _).grown r2 (by have := (BU.out _ bR).size; simp at this ⊢; omega) (fun b hb9 => own_ge HWn.out b hb9.symm)
      have HRUN : Hid ((Builtin.append_ #[43, 43] 43 #[.slice a9 k c9, .slice (some ⟨w7.heap.size, 0, none⟩) 1 1]).run Tryz.prog (w7.alloc (.cells #[.int .i64 x1, .slice oa n oc] 93)) = .ok (.slice (some ⟨g', 0, none⟩) (k + 1) cap') w9) := hrun
      have BUP : Hid (Below w2.heap.size w2 (w7.alloc (.cells #[.int .i64 x1, .slice oa n oc] 93))) := BU.out _ bR
      have BAP : Hid (Below w.heap.size w (w7.alloc (.cells #[.int .i64 x1, .slice oa n oc] 93))) := BA.out _ bR
      clear hrun r1 r2 own8 ty9
      refine op_appP rfl _ _ _ rfl _ _ _ rfl rfl HRUN.out ?_
      clear XL lL
      have hz2w : w2.heap.size ≤ w7.heap.size + 1 := by have := BUP.out.size; simpa using this
      have BP : Hid (Below (w7.heap.size + 1) (w7.alloc (.cells #[.int .i64 x1, .slice oa n oc] 93)) (w7.alloc (.cells #[.int .i64 x1, .slice oa n oc] 93))) := bR
      have hq : Below (w2.heap.size) (w7.alloc (.cells #[.int .i64 x1, .slice oa n oc] 93)) w9 := (BP.out.mono (by omega)).trans (Below.mono hb9 (by omega))
      have hzn : w7.heap.size + 1 ≤ w9.heap.size := Nat.le_trans hz hq.size
      replace B : Hid (∀ y, Below w9.heap.size w9 y → Below w.heap.size w y) := fun y hy => ((B.out (w7.alloc (.cells #[.int .i64 x1, .slice oa n oc] 93)) bR).trans (hq.mono (by omega))).trans (hy.mono (Nat.le_trans (B.out (w7.alloc (.cells #[.int .i64 x1, .slice oa n oc] 93)) bR).size hq.size))
      clear BU
      clear BA
      clear K1
      clear KS
      replace XM : Hid (∀ y, Below w9.heap.size w9 y → y.heap[w.heap.size]? = some (.cells #[.slice wa wl wc, .int .i64 (yg : Nat), .int .i64 (tp : Nat), .int .i64 (od : Nat), .slice da dl dc] 29 (0, 0))) := fun y hy => (hy.block _ (by omega)).trans ((hq.block _ (by omega)).trans (XM.out (w7.alloc (.cells #[.int .i64 x1, .slice oa n oc] 93)) bR))
      replace lM : w.heap.size < w9.heap.size := by omega
      clear hq BP hz
      have hz : w9.heap.size ≤ w9.heap.size := Nat.le_refl _
      have B29 : Hid (Below w2.heap.size w2 w9) := BUP.out.trans hb9
      have BU : Hid (∀ y, Below (w9.heap.size) w9 y → Below w2.heap.size w2 y) := fun y hy => B29.out.trans (hy.mono B29.out.size)
      have BA9 : Hid (Below w.heap.size w w9) := BAP.out.trans (hb9.mono (Nat.le_of_lt hM2))
      have BA : Hid (∀ y, Below (w9.heap.size) w9 y → Below w.heap.size w y) := fun y hy => BA9.out.trans (hy.mono BA9.out.size)
      have K1 : Hid (∀ y, Below (w9.heap.size) w9 y → y.cell? ⟨b, off + k, none⟩ = some (.int .i64 p)) := fun y hy => ((BU.out y hy).cell (p := ⟨b, off + k, none⟩) hbl).trans c0
      clear hb9
      have KS : Hid (∀ x, Below (w9.heap.size) w9 x → x.cell? ⟨w.heap.size, 0, none⟩ = some (.slice wa wl wc) ∧ x.cell? ⟨w.heap.size, 1, none⟩ = some (.int .i64 (yg : Nat)) ∧ x.cell? ⟨w.heap.size, 2, none⟩ = some (.int .i64 (tp : Nat)) ∧ x.cell? ⟨w.heap.size, 3, none⟩ = some (.int .i64 (od : Nat)) ∧ x.cell? ⟨w.heap.size, 4, none⟩ = some (.slice da dl dc) ∧ x.cell? ⟨b, off + k, none⟩ = some (.int .i64 p)) := fun x hx => ⟨(boxG (XM.out x hx) 0).1, (boxG (XM.out x hx) 1).1, (boxG (XM.out x hx) 2).1, (boxG (XM.out x hx) 3).1, (boxG (XM.out x hx) 4).1, K1.out x hx⟩
      refine hK.out _ _ (KS.out _ bR) (fun hHeld4 => ?_)
      clear hK K
      try simp only [Act.put, zgT, zg0, zgS, zsT, zs0, zsS]
      refine tV 11 (v := ?_) rfl (by kernel_rfl) (fun _ _ _ h => h) ?_ (by assumption) ?_
      rotate_left 1
      · (intro x hSx; (try dsimp only at hSx); go_simp; try with_reducible rfl)
      try simp only [Act.put, zgT, zg0, zgS, zsT, zs0, zsS]
      refine wpAnyH_done (by kernel_rfl) ?_ _
      clear hHeld hHeld2 hHeld3 hHeld4
      clear KS
      obtain ⟨kM0, kM1, kM2, kM3, kM4⟩ := bk5 (XM.out w9 bR)
      go_wp2_with fail
      exact ⟨⟨k + 1, _, _, _, by omega, rfl, by go_num, R1.out, R2.out, B29.out⟩, by simp [intOf]; omega⟩
    · have ek : k = tl := by omega
      subst ek
      have GL : Hid (gs.length = k) := by show _ = _; rw [← GS.out, List.length_map, TL.out]
      obtain ⟨kM0, kM1, kM2, kM3, kM4⟩ := bk5 (XM.out wr bR)
      go_wp2_with fail
      go_ret
      exact ⟨a9, c9, Ls, w2.heap.size, by rw [GL.out]; rfl, by rw [GL.out]; exact ⟨HWn.out, HOut.out⟩, Nat.le_of_lt hM2, BA.out wr bR⟩

end Go.Proofs.YtjbmcdekhhbiaaaGreat
namespace Go.Proofs.YtjbmcdekhhbiaaaGreat
open Go.ChangeShapes Go.WideShapes Go.ChangeAt Go.RowKit
set_option linter.unusedVariables false

theorem numL_take {xs : List Int} {j i : Nat} (hi : xs[i]? = some (j : Int)) (hu : ∀ k, xs[k]? = some (j : Int) → k = i) : ∀ n, numL (xs.take n) j = if i < n then (i : Int) + 1 else 0
  | 0 => by simp [numL]
  | n + 1 => by
    have ih := numL_take hi hu n
    have hl := (List.getElem?_eq_some_iff.1 hi).1
    by_cases hn : n < xs.length
    · rw [List.take_succ_eq_append_getElem hn, numL_snoc, ih, List.length_take, Nat.min_eq_left (Nat.le_of_lt hn)]
      by_cases e : xs[n] = (j : Int)
      · have h9 := hu n (by rw [List.getElem?_eq_getElem hn, e])
        subst h9
        rw [if_pos e, if_pos (by omega)]
      · have hne : n ≠ i := fun h => e (by subst h; exact (List.getElem?_eq_some_iff.1 hi).2)
        rw [if_neg e]
        by_cases h2 : i < n
        · rw [if_pos h2, if_pos (by omega)]
        · rw [if_neg h2, if_neg (by omega)]
    · rw [List.take_of_length_le (by omega)]
      rw [List.take_of_length_le (by omega), if_pos (by omega)] at ih
      rw [ih, if_pos (by omega)]
theorem numL_at {T : List Th} (hi : Inc T) (h1 : ∀ t ∈ T, 1 ≤ t.1) {v : Int} (ha : isAt T v = true) : numL (plN T) (v.toNat - 1) = numV T v := by
  obtain ⟨t, hm, rfl⟩ := isAt_iff.1 ha
  obtain ⟨k, hk⟩ := List.getElem?_of_mem hm
  have hlt := (List.getElem?_eq_some_iff.1 hk).1
  have hp := h1 t hm
  have key : (plN T)[k]? = some ((t.1.toNat - 1 : Nat) : Int) := by unfold plN; rw [List.getElem?_map, hk]; simp; omega
  have hu : ∀ i, (plN T)[i]? = some ((t.1.toNat - 1 : Nat) : Int) → i = k := fun i h => by
    unfold plN at h
    rw [List.getElem?_map] at h
    cases hs : T[i]? with
    | none => rw [hs] at h; cases h
    | some s =>
      rw [hs] at h
      have h9 : s.1 - 1 = ((t.1.toNat - 1 : Nat) : Int) := by simpa using h
      have hs1 := h1 s (List.mem_of_getElem? hs)
      rcases Nat.lt_trichotomy i k with h8 | h8 | h8
      · have := hi i k s t hs hk h8; omega
      · exact h8
      · have := hi k i t s hk hs h8; omega
  have h9 := numL_take key hu (plN T).length
  rw [List.take_length, if_pos (by simpa [plN] using hlt)] at h9
  rw [h9, numV_at hi hk]; rfl
/-- Things that are ok are seen alike by both. -/
theorem objN_eq {L : List Cl} {m : Mm} (hm : memB L m = true) : (thT L m).map (objN (numL (plN (thT L m))) m.1) = objsT m.1 (thT L m) := by
  have hB := (memB_ok hm).1
  have hT := thT_ok hB
  have hV := (memB_ok hm).2.2.2.2
  refine List.map_congr_left fun t ht => ?_
  have hval := (hV t ht).1
  have hz := (hT.1 t ht).tz
  unfold valB' at hval
  rw [List.all_eq_true] at hval
  unfold objN objT
  refine congrArg (Prod.mk t.2.1) (List.map_congr_left fun k hk => ?_)
  have hv := hval k hk
  have hz0 := hz k (List.mem_range.1 hk)
  have hpl : plc t k = t.1.toNat - 1 + hdN t.2.1 + k := rfl
  rw [hpl] at hv
  unfold seeN seeV
  rw [hpl]
  generalize m.1.getD (t.1.toNat - 1 + hdN t.2.1 + k) 0 = v at hv
  by_cases h1 : t.2.2.getD k 0 = 1
  · rw [if_pos h1, if_neg hz0, if_pos h1]
  · rw [if_neg h1, if_neg hz0, if_neg h1]
    unfold mayV at hv
    rw [if_neg h1] at hv
    unfold ledV at hv
    rw [Bool.or_eq_true] at hv
    have hone : ∀ t ∈ thT L m, 1 ≤ t.1 := fun s hs => (hT.1 s hs).lo
    by_cases hp : 0 < v
    · rw [if_pos hp]
      have ha : isAt (thT L m) v = true := by rcases hv with h | h
                                              · exact absurd (by simpa using h) (show ¬ v = 0 by omega)
                                              · exact h
      rw [numL_at hT.2.inc hone ha]
    · rw [if_neg hp]
      have h0 : v = 0 := by
        rcases hv with h | h
        · simpa using h
        · obtain ⟨s, hs, rfl⟩ := isAt_iff.1 h
          have := hone s hs; omega
      subst h0
      have hn : isAt (thT L m) 0 = false := by
        cases hq : isAt (thT L m) 0
        · rfl
        · obtain ⟨s, hs, h9⟩ := isAt_iff.1 hq
          have := hone s hs; omega
      unfold numV
      rw [hn]; simp
set_option maxRecDepth 100000 in
set_option maxHeartbeats 8000000 in
theorem mobjsSpec (ca : Option Addr) (cn cc : Nat) (wa : Option Addr) (wl wc : Nat) (yg tp od : Int) (da : Option Addr) (dl dc : Nat) (ws : List Int) (cd : List Bool) (L : List Cl) (w : World) {D E G G2 : Nat → Prop} (h : ClsAt D E w ca cn L) (hw : IntsAt G w wa wl ws) (hc : SlAt boolR G2 w da dl cd) (hyg : i64B yg) (htp : i64B tp) (hod : i64B od) (hl : wl ≤ 1048576) (hd : dl ≤ 1048576) :
    Calls Tryz.prog 19 #[.slice ca cn cc, .agg #[.slice wa wl wc, .int .i64 yg, .int .i64 tp, .int .i64 od, .slice da dl dc]] w fun e w' => ∃ a c, e = .returned (.slice a (objsV L (ws, yg, tp, od, cd)).length c) ∧ SlAt obR (fun b => w.heap.size ≤ b) w' a (objsV L (ws, yg, tp, od, cd)).length (objsV L (ws, yg, tp, od, cd)) ∧ Below w.heap.size w w' := by
  have H : Hid (ClsAt D E w ca cn L) := h
  have HW : Hid (IntsAt G w wa wl ws) := hw
  have HC : Hid (SlAt boolR G2 w da dl cd) := hc
  have WS : Hid (ws.length = wl) := hw.size
  have CS : Hid (cd.length = dl) := hc.size
  clear h hw hc
  have hz : w.heap.size + 1 ≤ (w.alloc (.cells #[.slice wa wl wc, .int .i64 yg, .int .i64 tp, .int .i64 od, .slice da dl dc] 29)).heap.size := by simp
  have B : Hid (∀ y, Below (w.heap.size + 1) (w.alloc (.cells #[.slice wa wl wc, .int .i64 yg, .int .i64 tp, .int .i64 od, .slice da dl dc] 29)) y → Below w.heap.size w y) := fun y hy => (bR.alloc (by first | exact Nat.le_refl _ | (simp; done) | (simp; omega)) _).trans (hy.mono (by omega))
  have XM : Hid (∀ y, Below (w.heap.size + 1) (w.alloc (.cells #[.slice wa wl wc, .int .i64 yg, .int .i64 tp, .int .i64 od, .slice da dl dc] 29)) y → y.heap[w.heap.size]? = some (.cells #[.slice wa wl wc, .int .i64 yg, .int .i64 tp, .int .i64 od, .slice da dl dc] 29 (0, 0))) := fun y hy => (hy.block _ (by omega)).trans (boxN _ _ _ _ (by simp))
  have lM : w.heap.size < w.heap.size + 1 := by omega
  go_enter Tryz.func19, Tryz.ntmps19
  go_wp2_with fail
  have BP : Hid (Below (w.heap.size + 1) (w.alloc (.cells #[.slice wa wl wc, .int .i64 yg, .int .i64 tp, .int .i64 od, .slice da dl dc] 29)) (w.alloc (.cells #[.slice wa wl wc, .int .i64 yg, .int .i64 tp, .int .i64 od, .slice da dl dc] 29))) := bR
  refine (memSpec _ _ _ _ _ _ yg tp od _ _ _ ws cd L _ (H.out.later (B.out _ BP.out)) (HW.out.later (B.out _ BP.out)) (HC.out.later (B.out _ BP.out)) hyg htp hod hl hd).mono ?_
  rintro e w1 ⟨rfl, hb⟩
  have hq : Below (w.heap.size + 1) (w.alloc (.cells #[.slice wa wl wc, .int .i64 yg, .int .i64 tp, .int .i64 od, .slice da dl dc] 29)) w1 := BP.out.trans (Below.mono hb (Nat.le_trans hz BP.out.size))
  have hzn : w.heap.size + 1 ≤ w1.heap.size := Nat.le_trans hz hq.size
  replace B := lF B hq hzn
  replace XM := lF XM hq hzn
  replace lM := Nat.lt_of_lt_of_le lM hzn
  clear hq BP hz
  have hz : w1.heap.size ≤ w1.heap.size := Nat.le_refl _
  clear hb
  cases hq : memB L (ws, yg, tp, od, cd)
  · obtain ⟨kM0, kM1, kM2, kM3, kM4⟩ := bk5 (XM.out w1 bR)
    go_wp2_with fail
    go_ret
    rw [objsV_no hq]
    exact ⟨some ⟨w1.heap.size, 0, none⟩, 0, rfl, ⟨rfl, by show (0 : Nat) ≤ _; exact Nat.zero_le _, .inl rfl⟩, (B.out w1 bR).alloc (B.out w1 bR).size _⟩
  have hB0 := (memB_ok hq).1
  have HB0 : Hid (Bnd L (ws, yg, tp, od, cd)) := hB0
  have hcards := hB0.cards
  obtain ⟨k0, k1, k2, k3, k4, _⟩ := hB0
  have OK : Hid (clsOk L = true) := k0
  simp only [WS.out, CS.out] at k1 k2 k3 k4 hcards
  obtain ⟨yn, rfl⟩ : ∃ n : Nat, yg = n := ⟨yg.toNat, by omega⟩
  obtain ⟨tn, rfl⟩ : ∃ n : Nat, tp = n := ⟨tp.toNat, by omega⟩
  obtain ⟨on, rfl⟩ : ∃ n : Nat, od = n := ⟨od.toNat, by omega⟩
  have m1 : tn ≤ yn := by omega
  have m2 : yn ≤ on := by omega
  have m3 : on ≤ wl := by omega
  have m4 : wl ≤ 200 := by omega
  have m5 : wl ≤ yn + dl * 4 := by omega
  have HM : Hid (memB L (ws, (yn : Int), (tn : Int), (on : Int), cd) = true) := hq
  clear k0 k1 k2 k3 k4 hcards hyg htp hod hq
  obtain ⟨kM0, kM1, kM2, kM3, kM4⟩ := bk5 (XM.out w1 bR)
  go_wp2_with fail
  clear kM0 kM1 kM2 kM3 kM4
  have BP : Hid (Below (w1.heap.size) w1 w1) := bR
  have TO := thT_ok HB0.out
  have VA := (memB_ok HM.out).2.2.2.2
  refine (objsSpec ca cn cc wa wl wc yn tn on da dl dc ws cd L _ (H.out.later (B.out _ BP.out)) OK.out (HW.out.later (B.out _ BP.out)) m1 m2 m3 (by omega) (by rw [(memB_ok HM.out).2.2.1, (memB_ok HM.out).2.2.2.1]; rfl) TO.1 (fun t ht k hk h1 => ?_)).mono ?_
  · have hv := (VA t ht).1
    unfold valB' at hv
    rw [List.all_eq_true] at hv
    have hv := hv k (List.mem_range.2 hk)
    unfold mayV at hv
    rw [if_neg h1] at hv
    have hpl : plc t k = t.1.toNat - 1 + hdN t.2.1 + k := rfl
    rw [hpl] at hv
    simp only at hv
    generalize ws.getD (t.1.toNat - 1 + hdN t.2.1 + k) 0 = v at hv
    unfold ledV at hv
    rw [Bool.or_eq_true] at hv
    rcases hv with h | h
    · have : v = 0 := by simpa using h
      omega
    · obtain ⟨s, hs, rfl⟩ := isAt_iff.1 h
      have := (TO.1 s hs).most
      simp only [WS.out] at this
      omega
  rw [show (thT L (ws, (yn : Int), (tn : Int), (on : Int), cd)).map (objN (numL (plN (thT L (ws, (yn : Int), (tn : Int), (on : Int), cd)))) ws) = objsV L (ws, (yn : Int), (tn : Int), (on : Int), cd) by rw [objsV_yes HM.out]; exact objN_eq HM.out]
  rintro e w2 ⟨a, c, Ls, lo, rfl, ⟨hown, hout⟩, hlo, hb⟩
  obtain ⟨gs, hgs⟩ : ∃ gs, objsV L (ws, (yn : Int), (tn : Int), (on : Int), cd) = gs := ⟨_, rfl⟩
  have GS : Hid (objsV L (ws, (yn : Int), (tn : Int), (on : Int), cd) = gs) := hgs
  have GB : ∀ x ∈ gs, x.2.length ≤ 1048576 ∧ ∀ v ∈ x.2, i64B v.2 := by
    rw [← hgs, objsV_yes HM.out]
    intro x hx
    obtain ⟨t, ht, rfl⟩ := List.mem_map.1 hx
    have hf : t.2.2.length ≤ 1000 := by have := (TO.1 t ht).hi; simp only [WS.out] at this; unfold tSz at this; omega
    refine ⟨by unfold objT; rw [List.length_map, List.length_range]; omega, fun v hv => ?_⟩
    unfold objT at hv
    obtain ⟨k, _, rfl⟩ := List.mem_map.1 hv
    exact seeV_fits (HW.out.fits _) (by have := thT_len HB0.out; simp only [WS.out] at this; omega)
  have GL : gs.length ≤ 1000 := by rw [← hgs, objsV_yes HM.out]; unfold objsT; rw [List.length_map]; have := thT_len HB0.out; simp only [WS.out] at this; omega
  rw [hgs] at hown hout ⊢
  have SO : Hid (SlAt obR (fun b => lo ≤ b) w2 a gs.length gs) := OutR.sl hout rfl (by omega) GB hown (Nat.le_refl _)
  have hlo9 : w.heap.size ≤ lo := Nat.le_trans (B.out w1 bR).size hlo
  have hq : Below (w1.heap.size) w1 w2 := BP.out.trans (Below.mono hb (Nat.le_trans hz BP.out.size))
  have hzn : w1.heap.size ≤ w2.heap.size := Nat.le_trans hz hq.size
  replace B := lF B hq hzn
  replace XM := lF XM hq hzn
  replace lM := Nat.lt_of_lt_of_le lM hzn
  clear hq BP hz
  have hz : w2.heap.size ≤ w2.heap.size := Nat.le_refl _
  clear hb hown hout
  obtain ⟨kM0, kM1, kM2, kM3, kM4⟩ := bk5 (XM.out w2 bR)
  go_wp2_with fail
  go_ret
  rw [GS.out]
  exact ⟨a, c, rfl, SO.out.mono (fun b h _ => Nat.le_trans hlo9 h), B.out w2 bR⟩

end Go.Proofs.YtjbmcdekhhbiaaaGreat
namespace Go.Proofs.YtjbmcdekhhbiaaaGreat
open Go.ChangeShapes Go.WideShapes Go.ChangeAt Go.RowKit
set_option linter.unusedVariables false

theorem frozen_past (w : World) (b o : Nat) (h : w.heap.size ≤ b) : w.frozen? ⟨b, o, none⟩ = false := by
  simp [World.frozen?, Array.getElem?_eq_none h]
theorem sl_zero {α : Type} {R : Rep α} {D : Nat → Prop} (w : World) (a : Option Addr) : SlAt R D w a 0 [] := ⟨rfl, by omega, .inl rfl⟩
theorem GrRow.agree {w w' : World} {G n k : Nat} {gs : List Ob} {bs : Nat → Nat} (h : GrRow w G n gs k bs) (hG : w'.heap[G]? = w.heap[G]?) (hb : ∀ j, j < k → w'.heap[bs j]? = w.heap[bs j]?) (hs : w.heap.size ≤ w'.heap.size) : GrRow w' G n gs k bs :=
  ⟨fun j x hj hx => by
    obtain ⟨h1, h2, h3, h4⟩ := h.row j x hj hx
    exact ⟨(World.cell?_of_block (a := ⟨G, _, none⟩) hG).trans h1, (World.cell?_of_block (a := ⟨G, _, none⟩) hG).trans h2, h3, h4.keep (hb j hj)⟩, fun j hj => by
    obtain ⟨⟨v, hv⟩, hf⟩ := h.free j hj
    exact ⟨⟨v, (World.cell?_of_block (a := ⟨G, _, none⟩) hG).trans hv⟩, (World.frozen?_of_block (a := ⟨G, j, none⟩) hG).trans hf⟩, h.inc, fun j hj => ⟨(h.gt j hj).1, Nat.lt_of_lt_of_le (h.gt j hj).2 hs⟩⟩
def lenOf (gs : List Ob) (j : Nat) : Nat := (gs.getD j (0, [])).2.length
theorem GrRow.g {w : World} {G n : Nat} {gs : List Ob} {bs : Nat → Nat} (h : GrRow w G n gs n bs) (hn : gs.length = n) : ∃ cls F, GrF w G n (lenOf gs) bs cls F := ⟨_, _, h.f hn⟩
theorem lenOf_le {gs : List Ob} (h : ∀ x ∈ gs, x.2.length ≤ 1048576) (j : Nat) (hj : j < gs.length) : lenOf gs j ≤ 1048576 := by
  rw [lenOf, List.getD_eq_getElem?_getD, List.getElem?_eq_getElem hj]
  exact h _ (List.getElem_mem hj)

theorem markNilO (k : Int) (w : World) : Calls Tryz.prog 22 #[.slice none 0 0, .int .i64 k] w fun e w' => e = .returned (.int .i64 k) ∧ w = w' := by
  go_enter Tryz.func22, Tryz.ntmps22
  go_wp2_with fail
  refine wp_loop_rounds 1 ?_
  rw [rounds_succ]
  go_wp2_with fail
  go_ret
  exact ⟨rfl, rfl⟩
theorem heldNilO (k : Int) (w : World) : Calls Tryz.prog 23 #[.slice none 0 0, .int .i64 k] w fun e w' => e = .returned (.int .i64 k) ∧ w = w' := by
  go_enter Tryz.func23, Tryz.ntmps23
  go_wp2_with fail
  refine wp_loop_rounds 1 ?_
  rw [rounds_succ]
  go_wp2_with fail
  go_ret
  exact ⟨rfl, rfl⟩

/-- Things of one's own from a block on, or none. -/
def OwO (w : World) (lo : Nat) (a : Option Addr) (gs : List Ob) : Prop := (a = none ∧ gs = []) ∨ ∃ (g : Nat) (bs : Nat → Nat), a = some ⟨g, 0, none⟩ ∧ lo ≤ g ∧ g < w.heap.size ∧ GrRow w g gs.length gs gs.length bs
/-- They are marked. -/
def MkO (w : World) (lo : Nat) (a : Option Addr) (n : Nat) (kn : Int) : Prop := (a = none ∧ n = 0 ∧ kn = 1) ∨ ∃ (g : Nat) (bs len : Nat → Nat), a = some ⟨g, 0, none⟩ ∧ lo ≤ g ∧ g < w.heap.size ∧ GrF w g n len bs (kAt 1 len) (fun j => mV (kAt 1 len j + 1)) ∧ (∀ j, j < n → len j ≤ 1048576) ∧ kAt 1 len n = kn
theorem ObjO.own {w w' : World} {gs : List Ob} {e : Ending} (h : ObjO w gs e w') : ∃ a, e = .returned (.slice a gs.length gs.length) ∧ OwO w' w.heap.size a gs ∧ Below w.heap.size w w' := by
  obtain ⟨a, g, bs, he, hc, hb⟩ := h
  refine ⟨a, he, ?_, hb⟩
  rcases hc with ⟨rfl, rfl⟩ | ⟨rfl, h1, h2, h3⟩
  · exact .inl ⟨rfl, rfl⟩
  · exact .inr ⟨g, bs, rfl, h1, h2, h3⟩
theorem OwO.later {w y : World} {lo : Nat} {a : Option Addr} {gs : List Ob} (h : OwO w lo a gs) (hy : Below w.heap.size w y) : OwO y lo a gs := by
  rcases h with h | ⟨g, bs, rfl, h1, h2, h3⟩
  · exact .inl h
  · exact .inr ⟨g, bs, rfl, h1, Nat.lt_of_lt_of_le h2 hy.size, h3.later h2 hy⟩
theorem OwO.chg {w y : World} {lo : Nat} {a : Option Addr} {gs : List Ob} {D : Nat → Prop} (h : OwO w lo a gs) (hc : Chg D w y) (hd : ∀ i, lo ≤ i → ¬ D i) : OwO y lo a gs := by
  rcases h with h | ⟨g, bs, rfl, h1, h2, h3⟩
  · exact .inl h
  · refine .inr ⟨g, bs, rfl, h1, Nat.lt_of_lt_of_le h2 hc.size, h3.agree (hc.block g h2 (hd g h1)) (fun j hj => hc.block _ (h3.gt j hj).2 (hd _ (Nat.le_of_lt (Nat.lt_of_le_of_lt h1 (h3.gt j hj).1)))) hc.size⟩
theorem OwO.sl {w : World} {lo : Nat} {a : Option Addr} {gs : List Ob} (h : OwO w lo a gs) (hl : gs.length ≤ 1048576) (hb : ∀ x ∈ gs, x.2.length ≤ 1048576) : SlAt obR (fun _ => True) w a gs.length gs := by
  rcases h with ⟨rfl, rfl⟩ | ⟨g, bs, rfl, h1, h2, h3⟩
  · exact ⟨rfl, by show (0 : Nat) ≤ _; exact Nat.zero_le _, .inl rfl⟩
  · exact (h3.sl rfl hl hb).mono (fun _ _ _ => trivial)
theorem MkO.later {w y : World} {lo : Nat} {a : Option Addr} {n : Nat} {kn : Int} (h : MkO w lo a n kn) (hy : Below w.heap.size w y) : MkO y lo a n kn := by
  rcases h with h | ⟨g, bs, len, rfl, h1, h2, h3, h4⟩
  · exact .inl h
  · exact .inr ⟨g, bs, len, rfl, h1, Nat.lt_of_lt_of_le h2 hy.size, h3.keep (hy.block g h2) (fun j hj => hy.block _ (h3.off j hj).2) hy.size, h4⟩
theorem markO {w : World} {lo : Nat} {a : Option Addr} {gs : List Ob} {n : Nat} (hn : gs.length = n) (h : OwO w lo a gs) (hl : n ≤ 1000) (hb : ∀ x ∈ gs, x.2.length ≤ 1048576) :
    Calls Tryz.prog 22 #[.slice a n n, .int .i64 1] w fun e w' => ∃ kn : Int, e = .returned (.int .i64 kn) ∧ 0 ≤ kn ∧ kn ≤ 4000000000 ∧ MkO w' lo a n kn ∧ Chg (fun i => lo ≤ i) w w' := by
  subst hn
  rcases h with ⟨rfl, rfl⟩ | ⟨g, bs, rfl, h1, h2, h3⟩
  · refine (markNilO 1 w).mono ?_
    rintro e w' ⟨rfl, rfl⟩
    exact ⟨1, rfl, by omega, by omega, .inl ⟨rfl, rfl, rfl⟩, Chg.refl _ _⟩
  · obtain ⟨cls, F, hF⟩ := h3.g rfl
    have hlen : ∀ j, j < gs.length → lenOf gs j ≤ 1048576 := lenOf_le hb
    have hke := kAt_bound (k := 1) hlen gs.length (Nat.le_refl _)
    refine (markOwnO g gs.length gs.length 1 (lenOf gs) bs cls F w hF (by omega) hlen (by omega) (by omega)).mono ?_
    rintro e w' ⟨rfl, hG, hc⟩
    refine ⟨_, rfl, by omega, by omega, .inr ⟨g, bs, lenOf gs, rfl, h1, Nat.lt_of_lt_of_le h2 hc.size, hG, hlen, rfl⟩, ?_⟩
    exact ⟨hc.os, hc.tape, hc.output, hc.size, fun i hi hd => hc.block i hi (fun h9 => by
      rcases h9 with rfl | ⟨j, hj, rfl⟩
      · exact hd h1
      · exact hd (Nat.le_of_lt (Nat.lt_of_le_of_lt h1 (h3.gt j hj).1)))⟩
theorem heldO {w : World} {lo : Nat} {a : Option Addr} {n : Nat} {kn : Int} (h : MkO w lo a n kn) (hl : n ≤ 1000) :
    Calls Tryz.prog 23 #[.slice a n n, .int .i64 1] w fun e w' => e = .returned (.int .i64 kn) ∧ w = w' := by
  rcases h with ⟨rfl, rfl, rfl⟩ | ⟨g, bs, len, rfl, h1, h2, h3, h4, rfl⟩
  · exact heldNilO 1 w
  · exact heldOwnO g n n 1 len bs w h3 (by omega) h4 (by omega) (by omega)

end Go.Proofs.YtjbmcdekhhbiaaaGreat
