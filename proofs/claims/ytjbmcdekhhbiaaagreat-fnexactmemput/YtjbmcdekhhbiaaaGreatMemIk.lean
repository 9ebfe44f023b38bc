/-
  Whether a memory is ok, and things by their places: the program says so; it writes nothing that was there.
-/
import Derived.Test.YtjbmcdekhhbiaaaGreatMemIj
namespace Go.Proofs.YtjbmcdekhhbiaaaGreat
open Go.ChangeShapes Go.WideShapes Go.ChangeAt Go.RowKit
set_option linter.unusedVariables false

/-- What is found at a place. -/
def FindP (D : Nat → Prop) (w : World) (T : List Th) (v : Int) (e : Ending) (w' : World) : Prop :=
  (isAt T v = false → e = .returned (.tuple #[.agg #[.int .i64 0, .int .i64 0, .slice none 0 0], .bool false])) ∧ (isAt T v = true → ∃ (j : Nat) (c0 : Int) (ty : List Int) (ya : Option Addr) (yl yc : Nat), T[j]? = some (v, c0, ty) ∧ e = .returned (.tuple #[.agg #[.int .i64 v, .int .i64 c0, .slice ya yl yc], .bool true]) ∧ IntsAt D w' ya yl ty) ∧ Below w.heap.size w w'
set_option maxRecDepth 100000 in
set_option maxHeartbeats 4000000 in
theorem findImpl (ca : Option Addr) (cn cc wb wo wl wc yg tp od : Nat) (da : Option Addr) (dl dc pc ol oc ou : Nat) (ta : Option Addr) (tl tc : Nat) (T : List Th) (v : Int) (w : World) {D : Nat → Prop} (hD : ∀ b, D b → b < w.heap.size) (h : SlAt thR D w ta tl T) (hi : Inc T) (hl : tl ≤ 1000) (hv : i64B v) : Calls Tryz.prog 82 #[.agg #[.slice ca cn cc, .slice (some ⟨wb, wo, none⟩) wl wc, .int .i64 (yg : Nat), .int .i64 (tp : Nat), .int .i64 (od : Nat), .slice da dl dc, .slice (some ⟨wb, wo, none⟩) yg pc, .int .i64 0, .int .i64 (tp : Nat), .slice (some ⟨wb, wo + yg, none⟩) ol oc, .int .i64 (yg : Nat), .int .i64 (ou : Nat), .slice ta tl tc], .int .i64 v] w (FindP D w T v) := by
  have H : Hid (SlAt thR D w ta tl T) := h
  have IN : Hid (Inc T) := hi
  clear h hi
  have hv1 := hv.1
  have hv2 := hv.2
  have hz : w.heap.size + 1 + 1 ≤ ((w.alloc (.cells #[.slice ca cn cc, .slice (some ⟨wb, wo, none⟩) wl wc, .int .i64 (yg : Nat), .int .i64 (tp : Nat), .int .i64 (od : Nat), .slice da dl dc, .slice (some ⟨wb, wo, none⟩) yg pc, .int .i64 0, .int .i64 (tp : Nat), .slice (some ⟨wb, wo + yg, none⟩) ol oc, .int .i64 (yg : Nat), .int .i64 (ou : Nat), .slice ta tl tc] 65)).alloc (.cells #[.int .i64 0, .int .i64 0, .slice none 0 0] 69)).heap.size := by simp
  have B : Hid (∀ y, Below (w.heap.size + 1 + 1) ((w.alloc (.cells #[.slice ca cn cc, .slice (some ⟨wb, wo, none⟩) wl wc, .int .i64 (yg : Nat), .int .i64 (tp : Nat), .int .i64 (od : Nat), .slice da dl dc, .slice (some ⟨wb, wo, none⟩) yg pc, .int .i64 0, .int .i64 (tp : Nat), .slice (some ⟨wb, wo + yg, none⟩) ol oc, .int .i64 (yg : Nat), .int .i64 (ou : Nat), .slice ta tl tc] 65)).alloc (.cells #[.int .i64 0, .int .i64 0, .slice none 0 0] 69)) y → Below w.heap.size w y) := fun y hy => ((bR.alloc (by first | exact Nat.le_refl _ | (simp; done) | (simp; omega)) _).alloc (by first | exact Nat.le_refl _ | (simp; done) | (simp; omega)) _).trans (hy.mono (by omega))
  have XM : Hid (∀ y, Below (w.heap.size + 1 + 1) ((w.alloc (.cells #[.slice ca cn cc, .slice (some ⟨wb, wo, none⟩) wl wc, .int .i64 (yg : Nat), .int .i64 (tp : Nat), .int .i64 (od : Nat), .slice da dl dc, .slice (some ⟨wb, wo, none⟩) yg pc, .int .i64 0, .int .i64 (tp : Nat), .slice (some ⟨wb, wo + yg, none⟩) ol oc, .int .i64 (yg : Nat), .int .i64 (ou : Nat), .slice ta tl tc] 65)).alloc (.cells #[.int .i64 0, .int .i64 0, .slice none 0 0] 69)) y → y.heap[w.heap.size]? = some (.cells #[.slice ca cn cc, .slice (some ⟨wb, wo, none⟩) wl wc, .int .i64 (yg : Nat), .int .i64 (tp : Nat), .int .i64 (od : Nat), .slice da dl dc, .slice (some ⟨wb, wo, none⟩) yg pc, .int .i64 0, .int .i64 (tp : Nat), .slice (some ⟨wb, wo + yg, none⟩) ol oc, .int .i64 (yg : Nat), .int .i64 (ou : Nat), .slice ta tl tc] 65 (0, 0))) := fun y hy => (hy.block _ (by omega)).trans ((Below.heap_alloc _ _ _ (by first | (simp; done) | (simp; omega))).trans (boxN _ _ _ _ (by simp)))
  have lM : w.heap.size < w.heap.size + 1 + 1 := by omega
  have XR : Hid (∀ y, Below (w.heap.size + 1 + 1) ((w.alloc (.cells #[.slice ca cn cc, .slice (some ⟨wb, wo, none⟩) wl wc, .int .i64 (yg : Nat), .int .i64 (tp : Nat), .int .i64 (od : Nat), .slice da dl dc, .slice (some ⟨wb, wo, none⟩) yg pc, .int .i64 0, .int .i64 (tp : Nat), .slice (some ⟨wb, wo + yg, none⟩) ol oc, .int .i64 (yg : Nat), .int .i64 (ou : Nat), .slice ta tl tc] 65)).alloc (.cells #[.int .i64 0, .int .i64 0, .slice none 0 0] 69)) y → y.heap[w.heap.size + 1]? = some (.cells #[.int .i64 0, .int .i64 0, .slice none 0 0] 69 (0, 0))) := fun y hy => (hy.block _ (by omega)).trans (boxN _ _ _ _ (by simp))
  have lR : w.heap.size + 1 < w.heap.size + 1 + 1 := by omega
  go_enter Tryz.func82, Tryz.ntmps82
  go_wp2_with fail
  have BP : Hid (Below (w.heap.size + 1 + 1) ((w.alloc (.cells #[.slice ca cn cc, .slice (some ⟨wb, wo, none⟩) wl wc, .int .i64 (yg : Nat), .int .i64 (tp : Nat), .int .i64 (od : Nat), .slice da dl dc, .slice (some ⟨wb, wo, none⟩) yg pc, .int .i64 0, .int .i64 (tp : Nat), .slice (some ⟨wb, wo + yg, none⟩) ol oc, .int .i64 (yg : Nat), .int .i64 (ou : Nat), .slice ta tl tc] 65)).alloc (.cells #[.int .i64 0, .int .i64 0, .slice none 0 0] 69)) ((w.alloc (.cells #[.slice ca cn cc, .slice (some ⟨wb, wo, none⟩) wl wc, .int .i64 (yg : Nat), .int .i64 (tp : Nat), .int .i64 (od : Nat), .slice da dl dc, .slice (some ⟨wb, wo, none⟩) yg pc, .int .i64 0, .int .i64 (tp : Nat), .slice (some ⟨wb, wo + yg, none⟩) ol oc, .int .i64 (yg : Nat), .int .i64 (ou : Nat), .slice ta tl tc] 65)).alloc (.cells #[.int .i64 0, .int .i64 0, .slice none 0 0] 69))) := bR
  refine (numberImpl ca cn cc wb wo wl wc yg tp od da dl dc pc ol oc ou ta tl tc T v _ (H.out.later (B.out _ BP.out)) IN.out hl hv).mono ?_
  rintro e w1 ⟨n, rfl, hn, hn2, hb⟩
  have hq : Below (w.heap.size + 1 + 1) ((w.alloc (.cells #[.slice ca cn cc, .slice (some ⟨wb, wo, none⟩) wl wc, .int .i64 (yg : Nat), .int .i64 (tp : Nat), .int .i64 (od : Nat), .slice da dl dc, .slice (some ⟨wb, wo, none⟩) yg pc, .int .i64 0, .int .i64 (tp : Nat), .slice (some ⟨wb, wo + yg, none⟩) ol oc, .int .i64 (yg : Nat), .int .i64 (ou : Nat), .slice ta tl tc] 65)).alloc (.cells #[.int .i64 0, .int .i64 0, .slice none 0 0] 69)) w1 := BP.out.trans (Below.mono hb (Nat.le_trans hz BP.out.size))
  have hzn : w.heap.size + 1 + 1 ≤ w1.heap.size := Nat.le_trans hz hq.size
  replace B := lF B hq hzn
  replace XM := lF XM hq hzn
  replace lM := Nat.lt_of_lt_of_le lM hzn
  replace XR := lF XR hq hzn
  replace lR := Nat.lt_of_lt_of_le lR hzn
  clear hq BP hz
  have hz : w1.heap.size ≤ w1.heap.size := Nat.le_refl _
  clear hb
  rcases hn with ⟨hn0, rfl⟩ | ⟨hn0, j, t, rfl, ht, htv⟩
  · have HN : Hid (isAt T v = false) := hn0
    clear hn0
    obtain ⟨kM0, kM1, kM2, kM3, kM4, kM5, kM6, kM7, kM8, kM9, kM10, kM11, kM12⟩ := bk13 (XM.out w1 bR)
    obtain ⟨kR0, kR1, kR2⟩ := bk3 (XR.out w1 bR)
    obtain ⟨qkR0, qkR1, qkR2⟩ := bq3 (XR.out w1 bR)
    go_wp2_with fail
    refine bodyPost_ret (v := .tuple #[.agg #[.int .i64 0, .int .i64 0, .slice none 0 0], .bool false]) ?_ rfl ?_
    · simp [results, Tryz.results82, go_sem, *]
    · exact ⟨fun _ => rfl, (fun h => by rw [HN.out] at h; cases h), by (repeat (refine Below.setCell ?_ (by first | omega | (simp; done) | (simp; omega)) _)); exact B.out w1 (Below.refl _ _)⟩
  · have HN : Hid (isAt T v = true) := hn0
    have HT : Hid (T[j]? = some t) := ht
    have hjl : j < tl := by rw [← H.out.size]; exact (List.getElem?_eq_some_iff.1 ht).1
    obtain ⟨b, off, rfl, hDb, us, hvv, hc⟩ := (H.out.later (B.out w1 (Below.refl _ _))).at j t ht
    obtain ⟨x0, x1, ty⟩ := t
    obtain ⟨_, _, rfl, ⟨rfl, hx0⟩, _, _, rfl, ⟨rfl, hx1⟩, ya, yl, yc, rfl, hy⟩ := hvv
    simp only at htv
    subst htv
    have HY : Hid (IntsAt D w1 ya yl ty) := hy.ints
    have c0x : w1.cell? ⟨b, off + j * 3, none⟩ = some (.int .i64 x0) := hc 0 _ rfl
    have c1x : w1.cell? ⟨b, off + j * 3 + 1, none⟩ = some (.int .i64 x1) := hc 1 _ rfl
    have c2x : w1.cell? ⟨b, off + j * 3 + 2, none⟩ = some (.slice ya yl yc) := hc 2 _ rfl
    have hsub : IntKind.i64.wrap (((j + 1 : Nat) : Int) - 1) = (j : Int) := by rw [IntKind.wrap_i64] <;> omega
    have hne : ((j + 1 : Nat) : Int) ≠ 0 := by omega
    clear hn0 ht hc hy hx0 hx1
    obtain ⟨kM0, kM1, kM2, kM3, kM4, kM5, kM6, kM7, kM8, kM9, kM10, kM11, kM12⟩ := bk13 (XM.out w1 bR)
    obtain ⟨kR0, kR1, kR2⟩ := bk3 (XR.out w1 bR)
    obtain ⟨qkR0, qkR1, qkR2⟩ := bq3 (XR.out w1 bR)
    go_wp2_with fail
    refine bodyPost_ret (v := .tuple #[.agg #[.int .i64 x0, .int .i64 x1, .slice ya yl yc], .bool true]) ?_ rfl ?_
    · simp [results, Tryz.results82, go_sem, *]
    · exact ⟨(fun h => by rw [HN.out] at h; cases h), fun _ => ⟨j, x1, ty, ya, yl, yc, HT.out, rfl, by (repeat (refine IntsAt.set ?_ _ _ (fun hd => by have := hD _ hd; simp only at this; omega))); exact HY.out⟩, by (repeat (refine Below.setCell ?_ (by first | omega | (simp; done) | (simp; omega)) _)); exact B.out w1 (Below.refl _ _)⟩

end Go.Proofs.YtjbmcdekhhbiaaaGreat
