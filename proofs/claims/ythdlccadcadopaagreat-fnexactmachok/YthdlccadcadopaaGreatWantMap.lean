/-
  What instructions want of what is named in them, as the program has it: a map that is made anew, and what is found in it.
-/
import Derived.Test.YthdlccadcadopaaGreatShpImpl
import Derived.MapKept
namespace Go.Proofs.YthdlccadcadopaaGreat
open Go.ChangeShapes Go.WideShapes Go.ChangeAt Go.RowKit
open Go.MapKept (heap_alloc run_setObj_map run_checkKey run_findKey IsKey)

def wantL : List (Int × Int × Int) := [(1, 1, 0), (2, 0, 0), (3, 2, 0), (4, 2, 0), (5, 0, 0), (6, 0, 0), (7, 3, 0), (8, 4, 0), (9, 4, 0), (10, 4, 0), (11, 4, 0), (12, 5, 0), (13, 6, 0), (14, 0, 0), (15, 6, 0), (16, 6, 0), (17, 5, 7), (18, 5, 7), (19, 5, 0), (20, 8, 0), (21, 5, 9), (22, 0, 0), (23, 0, 0), (24, 0, 0)]
def wantE : Nat → List (Int × Int × Int) → List MapEntry
  | _, [] => []
  | i, (k, a, b) :: l => ⟨.int .i64 k, .agg #[.int .i64 a, .int .i64 b], i⟩ :: wantE (i + 1) l
def wE (n : Nat) : Array MapEntry := (wantE 0 (wantL.take n)).toArray

theorem put_new {P : Program} {t kt et : TypeId} (hm : P.underlying t = some (.map kt et)) (hd : P.underlying kt = some (.int .i64)) (w : World) (es : Array MapEntry) (c : Nat) (k : Int) (v : Value) (h : Instr.findNow (.int .i64) (.int .i64 k) es.toList 0 = some none) :
    (Instr.mapUpdate t (.map (some w.heap.size)) (.int .i64 k) v).run P (w.alloc (.map es c)) = .ok () (w.alloc (.map (es.push ⟨.int .i64 k, v, c⟩) (c + 1))) := by
  have hb := (heap_alloc w (.map es c)).1
  simp [Instr.mapUpdate, run_underlying hm, Go.MapKept.run_getObj_map hb, run_checkKey hd (show IsKey (.int .i64) (.int .i64 k) from rfl), run_findKey hd h, run_setObj_map _ hb, Result.andThen]
  show ({ w with heap := (w.heap.push (.map es c)).setIfInBounds w.heap.size (.map (es.push ⟨.int .i64 k, v, c⟩) (c + 1)) } : World) = { w with heap := w.heap.push (.map (es.push ⟨.int .i64 k, v, c⟩) (c + 1)) }
  congr 1
  apply Array.ext_getElem?
  intro i
  rw [Array.getElem?_setIfInBounds, Array.getElem?_push, Array.getElem?_push]
  by_cases hi : w.heap.size = i
  · subst hi; simp
  · rw [if_neg hi, if_neg (fun e => hi e.symm), if_neg (fun e => hi e.symm)]

theorem put1 (w : World) : (Instr.mapUpdate 113 (.map (some w.heap.size)) (.int .i64 1) (.agg #[.int .i64 1, .int .i64 0])).run Tryz.prog (w.alloc (.map #[] 0)) = .ok () (w.alloc (.map (wE 1) 1)) :=
  put_new Tryz.underlying113 Tryz.underlying3 w #[] 0 1 _ (by kernel_rfl)
theorem put2 (w : World) : (Instr.mapUpdate 113 (.map (some w.heap.size)) (.int .i64 2) (.agg #[.int .i64 0, .int .i64 0])).run Tryz.prog (w.alloc (.map (wE 1) 1)) = .ok () (w.alloc (.map (wE 2) 2)) :=
  put_new Tryz.underlying113 Tryz.underlying3 w (wE 1) 1 2 _ (by kernel_rfl)
theorem put3 (w : World) : (Instr.mapUpdate 113 (.map (some w.heap.size)) (.int .i64 3) (.agg #[.int .i64 2, .int .i64 0])).run Tryz.prog (w.alloc (.map (wE 2) 2)) = .ok () (w.alloc (.map (wE 3) 3)) :=
  put_new Tryz.underlying113 Tryz.underlying3 w (wE 2) 2 3 _ (by kernel_rfl)
theorem put4 (w : World) : (Instr.mapUpdate 113 (.map (some w.heap.size)) (.int .i64 4) (.agg #[.int .i64 2, .int .i64 0])).run Tryz.prog (w.alloc (.map (wE 3) 3)) = .ok () (w.alloc (.map (wE 4) 4)) :=
  put_new Tryz.underlying113 Tryz.underlying3 w (wE 3) 3 4 _ (by kernel_rfl)
theorem put5 (w : World) : (Instr.mapUpdate 113 (.map (some w.heap.size)) (.int .i64 5) (.agg #[.int .i64 0, .int .i64 0])).run Tryz.prog (w.alloc (.map (wE 4) 4)) = .ok () (w.alloc (.map (wE 5) 5)) :=
  put_new Tryz.underlying113 Tryz.underlying3 w (wE 4) 4 5 _ (by kernel_rfl)
theorem put6 (w : World) : (Instr.mapUpdate 113 (.map (some w.heap.size)) (.int .i64 6) (.agg #[.int .i64 0, .int .i64 0])).run Tryz.prog (w.alloc (.map (wE 5) 5)) = .ok () (w.alloc (.map (wE 6) 6)) :=
  put_new Tryz.underlying113 Tryz.underlying3 w (wE 5) 5 6 _ (by kernel_rfl)
theorem put7 (w : World) : (Instr.mapUpdate 113 (.map (some w.heap.size)) (.int .i64 7) (.agg #[.int .i64 3, .int .i64 0])).run Tryz.prog (w.alloc (.map (wE 6) 6)) = .ok () (w.alloc (.map (wE 7) 7)) :=
  put_new Tryz.underlying113 Tryz.underlying3 w (wE 6) 6 7 _ (by kernel_rfl)
theorem put8 (w : World) : (Instr.mapUpdate 113 (.map (some w.heap.size)) (.int .i64 8) (.agg #[.int .i64 4, .int .i64 0])).run Tryz.prog (w.alloc (.map (wE 7) 7)) = .ok () (w.alloc (.map (wE 8) 8)) :=
  put_new Tryz.underlying113 Tryz.underlying3 w (wE 7) 7 8 _ (by kernel_rfl)
theorem put9 (w : World) : (Instr.mapUpdate 113 (.map (some w.heap.size)) (.int .i64 9) (.agg #[.int .i64 4, .int .i64 0])).run Tryz.prog (w.alloc (.map (wE 8) 8)) = .ok () (w.alloc (.map (wE 9) 9)) :=
  put_new Tryz.underlying113 Tryz.underlying3 w (wE 8) 8 9 _ (by kernel_rfl)
theorem put10 (w : World) : (Instr.mapUpdate 113 (.map (some w.heap.size)) (.int .i64 10) (.agg #[.int .i64 4, .int .i64 0])).run Tryz.prog (w.alloc (.map (wE 9) 9)) = .ok () (w.alloc (.map (wE 10) 10)) :=
  put_new Tryz.underlying113 Tryz.underlying3 w (wE 9) 9 10 _ (by kernel_rfl)
theorem put11 (w : World) : (Instr.mapUpdate 113 (.map (some w.heap.size)) (.int .i64 11) (.agg #[.int .i64 4, .int .i64 0])).run Tryz.prog (w.alloc (.map (wE 10) 10)) = .ok () (w.alloc (.map (wE 11) 11)) :=
  put_new Tryz.underlying113 Tryz.underlying3 w (wE 10) 10 11 _ (by kernel_rfl)
theorem put12 (w : World) : (Instr.mapUpdate 113 (.map (some w.heap.size)) (.int .i64 12) (.agg #[.int .i64 5, .int .i64 0])).run Tryz.prog (w.alloc (.map (wE 11) 11)) = .ok () (w.alloc (.map (wE 12) 12)) :=
  put_new Tryz.underlying113 Tryz.underlying3 w (wE 11) 11 12 _ (by kernel_rfl)
theorem put13 (w : World) : (Instr.mapUpdate 113 (.map (some w.heap.size)) (.int .i64 13) (.agg #[.int .i64 6, .int .i64 0])).run Tryz.prog (w.alloc (.map (wE 12) 12)) = .ok () (w.alloc (.map (wE 13) 13)) :=
  put_new Tryz.underlying113 Tryz.underlying3 w (wE 12) 12 13 _ (by kernel_rfl)
theorem put14 (w : World) : (Instr.mapUpdate 113 (.map (some w.heap.size)) (.int .i64 14) (.agg #[.int .i64 0, .int .i64 0])).run Tryz.prog (w.alloc (.map (wE 13) 13)) = .ok () (w.alloc (.map (wE 14) 14)) :=
  put_new Tryz.underlying113 Tryz.underlying3 w (wE 13) 13 14 _ (by kernel_rfl)
theorem put15 (w : World) : (Instr.mapUpdate 113 (.map (some w.heap.size)) (.int .i64 15) (.agg #[.int .i64 6, .int .i64 0])).run Tryz.prog (w.alloc (.map (wE 14) 14)) = .ok () (w.alloc (.map (wE 15) 15)) :=
  put_new Tryz.underlying113 Tryz.underlying3 w (wE 14) 14 15 _ (by kernel_rfl)
theorem put16 (w : World) : (Instr.mapUpdate 113 (.map (some w.heap.size)) (.int .i64 16) (.agg #[.int .i64 6, .int .i64 0])).run Tryz.prog (w.alloc (.map (wE 15) 15)) = .ok () (w.alloc (.map (wE 16) 16)) :=
  put_new Tryz.underlying113 Tryz.underlying3 w (wE 15) 15 16 _ (by kernel_rfl)
theorem put17 (w : World) : (Instr.mapUpdate 113 (.map (some w.heap.size)) (.int .i64 17) (.agg #[.int .i64 5, .int .i64 7])).run Tryz.prog (w.alloc (.map (wE 16) 16)) = .ok () (w.alloc (.map (wE 17) 17)) :=
  put_new Tryz.underlying113 Tryz.underlying3 w (wE 16) 16 17 _ (by kernel_rfl)
theorem put18 (w : World) : (Instr.mapUpdate 113 (.map (some w.heap.size)) (.int .i64 18) (.agg #[.int .i64 5, .int .i64 7])).run Tryz.prog (w.alloc (.map (wE 17) 17)) = .ok () (w.alloc (.map (wE 18) 18)) :=
  put_new Tryz.underlying113 Tryz.underlying3 w (wE 17) 17 18 _ (by kernel_rfl)
theorem put19 (w : World) : (Instr.mapUpdate 113 (.map (some w.heap.size)) (.int .i64 19) (.agg #[.int .i64 5, .int .i64 0])).run Tryz.prog (w.alloc (.map (wE 18) 18)) = .ok () (w.alloc (.map (wE 19) 19)) :=
  put_new Tryz.underlying113 Tryz.underlying3 w (wE 18) 18 19 _ (by kernel_rfl)
theorem put20 (w : World) : (Instr.mapUpdate 113 (.map (some w.heap.size)) (.int .i64 20) (.agg #[.int .i64 8, .int .i64 0])).run Tryz.prog (w.alloc (.map (wE 19) 19)) = .ok () (w.alloc (.map (wE 20) 20)) :=
  put_new Tryz.underlying113 Tryz.underlying3 w (wE 19) 19 20 _ (by kernel_rfl)
theorem put21 (w : World) : (Instr.mapUpdate 113 (.map (some w.heap.size)) (.int .i64 21) (.agg #[.int .i64 5, .int .i64 9])).run Tryz.prog (w.alloc (.map (wE 20) 20)) = .ok () (w.alloc (.map (wE 21) 21)) :=
  put_new Tryz.underlying113 Tryz.underlying3 w (wE 20) 20 21 _ (by kernel_rfl)
theorem put22 (w : World) : (Instr.mapUpdate 113 (.map (some w.heap.size)) (.int .i64 22) (.agg #[.int .i64 0, .int .i64 0])).run Tryz.prog (w.alloc (.map (wE 21) 21)) = .ok () (w.alloc (.map (wE 22) 22)) :=
  put_new Tryz.underlying113 Tryz.underlying3 w (wE 21) 21 22 _ (by kernel_rfl)
theorem put23 (w : World) : (Instr.mapUpdate 113 (.map (some w.heap.size)) (.int .i64 23) (.agg #[.int .i64 0, .int .i64 0])).run Tryz.prog (w.alloc (.map (wE 22) 22)) = .ok () (w.alloc (.map (wE 23) 23)) :=
  put_new Tryz.underlying113 Tryz.underlying3 w (wE 22) 22 23 _ (by kernel_rfl)
theorem put24 (w : World) : (Instr.mapUpdate 113 (.map (some w.heap.size)) (.int .i64 24) (.agg #[.int .i64 0, .int .i64 0])).run Tryz.prog (w.alloc (.map (wE 23) 23)) = .ok () (w.alloc (.map (wE 24) 24)) :=
  put_new Tryz.underlying113 Tryz.underlying3 w (wE 23) 23 24 _ (by kernel_rfl)
theorem make_wants (w : World) : (Instr.makeMap 113 none).run Tryz.prog w = .ok (.map (some w.heap.size)) (w.alloc (.map #[] 0)) := rfl
attribute [local go_sem] make_wants put1 put2 put3 put4 put5 put6 put7 put8 put9 put10 put11 put12 put13 put14 put15 put16 put17 put18 put19 put20 put21 put22 put23 put24

set_option maxHeartbeats 4000000 in
theorem wantsImpl (w : World) : Calls Tryz.prog 64 #[] w fun e w' => e = .returned (.map (some w.heap.size)) ∧ w' = w.alloc (.map (wE 24) 24) := by
  go_enter Tryz.func64, Tryz.ntmps64
  go_wp2_with fail
  go_ret
  exact ⟨rfl, rfl⟩


def wantA (k : Int) : Int := ((wantL.find? (fun x => x.1 == k)).getD (0, 0, 0)).2.1
def wantB (k : Int) : Int := ((wantL.find? (fun x => x.1 == k)).getD (0, 0, 0)).2.2
def wantOk (k : Int) : Bool := decide (1 ≤ k) && decide (k ≤ 24)
theorem look_of {P : Program} {t kt et : TypeId} (hm : P.underlying t = some (.map kt et)) (hd : P.underlying kt = some (.int .i64)) (w : World) (r : Nat) (es : Array MapEntry) (c : Nat) (k : Int) (hb : w.heap[r]? = some (.map es c)) {i : Nat} {v : Value} (h : Instr.findNow (.int .i64) (.int .i64 k) es.toList 0 = some (some (i, v))) :
    (Instr.lookup t (.map (some r)) (.int .i64 k) true).run P w = .ok (.tuple #[v, .bool true]) w := by
  simp [Instr.lookup, run_underlying hm, Go.MapKept.run_getObj_map hb, run_checkKey hd (show IsKey (.int .i64) (.int .i64 k) from rfl), run_findKey hd h, Result.andThen]
theorem look_none {P : Program} {t kt et : TypeId} {z : Value} (hm : P.underlying t = some (.map kt et)) (hd : P.underlying kt = some (.int .i64)) (w : World) (r : Nat) (es : Array MapEntry) (c : Nat) (k : Int) (hb : w.heap[r]? = some (.map es c)) (hz : (zeroValue et).run P w = .ok z w) (h : Instr.findNow (.int .i64) (.int .i64 k) es.toList 0 = some none) :
    (Instr.lookup t (.map (some r)) (.int .i64 k) true).run P w = .ok (.tuple #[z, .bool false]) w := by
  simp [Instr.lookup, run_underlying hm, Go.MapKept.run_getObj_map hb, run_checkKey hd (show IsKey (.int .i64) (.int .i64 k) from rfl), run_findKey hd h, hz, Result.andThen]
theorem findNow_none (k : Int) : ∀ (l : List (Int × Int × Int)) (i j : Nat), (∀ x ∈ l, x.1 ≠ k) → Instr.findNow (.int .i64) (.int .i64 k) (wantE i l) j = some none
  | [], _, _, _ => rfl
  | (a, b, c) :: l, i, j, h => by
    have h1 : (k == a) = false := by have := h (a, b, c) (.head _); simp; exact fun e => this e.symm
    simp [wantE, Instr.findNow, Instr.sameNow, h1, findNow_none k l (i + 1) (j + 1) (fun x hx => h x (.tail _ hx))]

set_option maxHeartbeats 1000000 in
theorem lookWants (w : World) (r : Nat) (k : Int) (hb : w.heap[r]? = some (.map (wE 24) 24)) :
    (Instr.lookup 113 (.map (some r)) (.int .i64 k) true).run Tryz.prog w = .ok (.tuple #[.agg #[.int .i64 (wantA k), .int .i64 (wantB k)], .bool (wantOk k)]) w := by
  by_cases h : 1 ≤ k ∧ k ≤ 24
  · have hk : k = 1 ∨ k = 2 ∨ k = 3 ∨ k = 4 ∨ k = 5 ∨ k = 6 ∨ k = 7 ∨ k = 8 ∨ k = 9 ∨ k = 10 ∨ k = 11 ∨ k = 12 ∨ k = 13 ∨ k = 14 ∨ k = 15 ∨ k = 16 ∨ k = 17 ∨ k = 18 ∨ k = 19 ∨ k = 20 ∨ k = 21 ∨ k = 22 ∨ k = 23 ∨ k = 24 := by omega
    clear h
    rcases hk with rfl | rfl | rfl | rfl | rfl | rfl | rfl | rfl | rfl | rfl | rfl | rfl | rfl | rfl | rfl | rfl | rfl | rfl | rfl | rfl | rfl | rfl | rfl | rfl
    · exact look_of (i := 0) Tryz.underlying113 Tryz.underlying3 w r _ _ _ hb (by kernel_rfl)
    · exact look_of (i := 1) Tryz.underlying113 Tryz.underlying3 w r _ _ _ hb (by kernel_rfl)
    · exact look_of (i := 2) Tryz.underlying113 Tryz.underlying3 w r _ _ _ hb (by kernel_rfl)
    · exact look_of (i := 3) Tryz.underlying113 Tryz.underlying3 w r _ _ _ hb (by kernel_rfl)
    · exact look_of (i := 4) Tryz.underlying113 Tryz.underlying3 w r _ _ _ hb (by kernel_rfl)
    · exact look_of (i := 5) Tryz.underlying113 Tryz.underlying3 w r _ _ _ hb (by kernel_rfl)
    · exact look_of (i := 6) Tryz.underlying113 Tryz.underlying3 w r _ _ _ hb (by kernel_rfl)
    · exact look_of (i := 7) Tryz.underlying113 Tryz.underlying3 w r _ _ _ hb (by kernel_rfl)
    · exact look_of (i := 8) Tryz.underlying113 Tryz.underlying3 w r _ _ _ hb (by kernel_rfl)
    · exact look_of (i := 9) Tryz.underlying113 Tryz.underlying3 w r _ _ _ hb (by kernel_rfl)
    · exact look_of (i := 10) Tryz.underlying113 Tryz.underlying3 w r _ _ _ hb (by kernel_rfl)
    · exact look_of (i := 11) Tryz.underlying113 Tryz.underlying3 w r _ _ _ hb (by kernel_rfl)
    · exact look_of (i := 12) Tryz.underlying113 Tryz.underlying3 w r _ _ _ hb (by kernel_rfl)
    · exact look_of (i := 13) Tryz.underlying113 Tryz.underlying3 w r _ _ _ hb (by kernel_rfl)
    · exact look_of (i := 14) Tryz.underlying113 Tryz.underlying3 w r _ _ _ hb (by kernel_rfl)
    · exact look_of (i := 15) Tryz.underlying113 Tryz.underlying3 w r _ _ _ hb (by kernel_rfl)
    · exact look_of (i := 16) Tryz.underlying113 Tryz.underlying3 w r _ _ _ hb (by kernel_rfl)
    · exact look_of (i := 17) Tryz.underlying113 Tryz.underlying3 w r _ _ _ hb (by kernel_rfl)
    · exact look_of (i := 18) Tryz.underlying113 Tryz.underlying3 w r _ _ _ hb (by kernel_rfl)
    · exact look_of (i := 19) Tryz.underlying113 Tryz.underlying3 w r _ _ _ hb (by kernel_rfl)
    · exact look_of (i := 20) Tryz.underlying113 Tryz.underlying3 w r _ _ _ hb (by kernel_rfl)
    · exact look_of (i := 21) Tryz.underlying113 Tryz.underlying3 w r _ _ _ hb (by kernel_rfl)
    · exact look_of (i := 22) Tryz.underlying113 Tryz.underlying3 w r _ _ _ hb (by kernel_rfl)
    · exact look_of (i := 23) Tryz.underlying113 Tryz.underlying3 w r _ _ _ hb (by kernel_rfl)
  · have e : wantOk k = false := by unfold wantOk; simp; omega
    have hne : ∀ x ∈ wantL, x.1 ≠ k := by
      intro x hx
      unfold wantL at hx
      simp only [List.mem_cons, List.not_mem_nil, or_false] at hx
      rcases hx with rfl | rfl | rfl | rfl | rfl | rfl | rfl | rfl | rfl | rfl | rfl | rfl | rfl | rfl | rfl | rfl | rfl | rfl | rfl | rfl | rfl | rfl | rfl | rfl <;> omega
    have hf : wantL.find? (fun x => x.1 == k) = none := by
      rw [List.find?_eq_none]; intro x hx; simpa using hne x hx
    have ea : wantA k = 0 := by rw [wantA, hf]; rfl
    have eb : wantB k = 0 := by rw [wantB, hf]; rfl
    rw [e, ea, eb]
    have hz : ((Tryz.prog.info? 162).map (·.zero)) = some (some (.agg #[.int .i64 0, .int .i64 0])) := by kernel_rfl
    refine look_none Tryz.underlying113 Tryz.underlying3 w r _ _ _ hb (et := 162) ?_ (findNow_none k wantL 0 0 hne)
    obtain ⟨j, hj, hz'⟩ := Option.map_eq_some_iff.1 hz
    simp [zeroValue, typeInfo, hj, hz', Result.andThen]


end Go.Proofs.YthdlccadcadopaaGreat
