/-
  Data of the struct Obj: copied into new memory, held against another one that is the same, its size, and how it is read as it came in.
-/
import Derived.Test.YtacapffmdmpnkaaDtInt
import Derived.Test.YtacapffmdmpnkaaDtVal
namespace Go.Proofs.Ytacapffmdmpnkaa
open Go.ChangeShapes Go.WideShapes Go.ChangeAt Go.RowKit

def ToRObj (w : World) (x0 : Int) (l1 : Nat) (xs1 : List Vl) (e : Ending) (w' : World) : Prop :=
  ∃ na1 nc1, e = .returned (.agg #[.int .i64 x0, .slice na1 l1 (l1 + nc1)]) ∧ SlAt vaR (fun b => w.heap.size ≤ b) w' na1 l1 xs1 ∧ Below w.heap.size w w'

theorem info_Obj : (Try.prog.info? 34).map (fun i => (i.zero, i.size, i.bytes)) = some (some (.agg #[.int .i64 0, .slice none 0 0]), 2, 32) := by kernel_rfl
theorem make_Obj (n : Nat) (hn : n ≤ 1048576) (w : World) : (Instr.makeSlice 23 (.int .i64 (n : Int)) (.int .i64 (n : Int))).run Try.prog w = .ok (.slice (some ⟨w.heap.size, 0, none⟩) n n) (w.alloc (.cells (madeCells #[.int .i64 0, .slice none 0 0] (n * 2)) 34)) := by
  obtain ⟨i, hi, hzz⟩ := Option.map_eq_some_iff.1 info_Obj
  simp only [Prod.mk.injEq] at hzz
  obtain ⟨hz, hs, hb⟩ := hzz
  have hr := run_make (P := Try.prog) w 23 34 i _ Try.underlying23 hi hz .i64 .i64 n n (by omega) (Int.le_refl _) (by rw [hb]; omega) (by omega)
  simp only [Int.toNat_natCast, hs] at hr
  exact hr

end Go.Proofs.Ytacapffmdmpnkaa
