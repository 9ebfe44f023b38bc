/-
  Slices of classes: a copy in new memory, whether two are the same, how many there are; of every slice of classes in memory.
-/
import Derived.Test.YtjeabgkcmfjjlaaInts2
namespace Go.Proofs.Ytjeabgkcmfjjlaa
open Go.ChangeShapes Go.WideShapes Go.ChangeAt Go.RowKit

theorem bcell {W w1 : World} (hb : Below W.heap.size W w1) : (∀ b o, b < W.heap.size → w1.cell? ⟨b, o, none⟩ = W.cell? ⟨b, o, none⟩) ∧ (∀ b o, b < W.heap.size → w1.frozen? ⟨b, o, none⟩ = W.frozen? ⟨b, o, none⟩) :=
  ⟨fun b o h => hb.cell (p := ⟨b, o, none⟩) h, fun b o h => hb.frozen (p := ⟨b, o, none⟩) h⟩

theorem RowAt.other {w : World} {G n : Nat} {f : Nat → Value} (h : RowAt w G n f) (p : Addr) (v : Value) (hp : p.block ≠ G) : RowAt (w.setCell p v) G n f := by
  intro j hj
  refine ⟨?_, by rw [World.frozen?_setCell]; exact (h j hj).2⟩
  rw [World.cell?_setCell_other w _ _ _ (by intro e; exact hp (congrArg Addr.block e))]
  exact (h j hj).1

theorem info_cls : (Try.prog.info? 32).map (fun i => (i.zero, i.size, i.bytes)) = some (some (.agg #[.int .i64 0, .slice none 0 0]), 2, 32) := by kernel_rfl

theorem makeCls (n : Nat) (hn : n ≤ 1048576) (w : World) : (Instr.makeSlice 33 (.int .i64 (n : Int)) (.int .i64 (n : Int))).run Try.prog w = .ok (.slice (some ⟨w.heap.size, 0, none⟩) n n) (w.alloc (.cells (madeCells #[.int .i64 0, .slice none 0 0] (n * 2)) 32)) := by
  obtain ⟨i, hi, hzz⟩ := Option.map_eq_some_iff.1 info_cls
  simp only [Prod.mk.injEq] at hzz
  obtain ⟨hz, hs, hb⟩ := hzz
  have hr := run_make (P := Try.prog) w 33 32 i _ Try.underlying33 hi hz .i64 .i64 n n (by omega) (Int.le_refl _) (by rw [hb]; omega) (by omega)
  simp only [Int.toNat_natCast, hs] at hr
  exact hr

/-- The first k classes are copied into the row at G. -/
def Cop (G len : Nat) (wr : World) (L : List Cl) (k : Nat) : Prop :=
  ∃ f, RowAt wr G (len * 2) f ∧ ∀ i, i < k → f (i * 2) = .int .i64 (cl L i).1 ∧
    ∃ g, f (i * 2 + 1) = .slice (some ⟨g, 0, none⟩) (cl L i).2.length (cl L i).2.length ∧ G < g ∧ RowAt wr g (cl L i).2.length (fun j => .int .i64 ((cl L i).2.getD j 0))

theorem Cop.step {G len k : Nat} {wr w1 : World} {L : List Cl} {g : Nat} (h : Cop G len wr L k) (hb : Below wr.heap.size wr w1) (hG : G < wr.heap.size) (hg : wr.heap.size ≤ g)
    (hr : RowAt w1 g (cl L k).2.length (fun j => .int .i64 ((cl L k).2.getD j 0))) :
    Cop G len ((w1.setCell ⟨G, k * 2, none⟩ (.int .i64 (cl L k).1)).setCell ⟨G, k * 2 + 1, none⟩ (.slice (some ⟨g, 0, none⟩) (cl L k).2.length (cl L k).2.length)) L (k + 1) := by
  obtain ⟨f, hf, hi⟩ := h
  refine ⟨_, ((hf.later hb).set (k * 2) _).set (k * 2 + 1) _, fun i hik => ?_⟩
  by_cases e : i = k
  · subst e
    refine ⟨by rw [if_neg (by omega), if_pos rfl], g, by rw [if_pos rfl], by omega, (hr.other _ _ ?_).other _ _ ?_⟩
    · simp; omega
    · simp; omega
  · obtain ⟨h1, g', h2, h3, h4⟩ := hi i (by omega)
    refine ⟨by rw [if_neg (by omega), if_neg (by omega)]; exact h1, g', by rw [if_neg (by omega), if_neg (by omega)]; exact h2, h3, ((h4.later hb).other _ _ ?_).other _ _ ?_⟩
    · simp; omega
    · simp; omega

theorem Cop.cls {G len : Nat} {wr : World} {L : List Cl} (h : Cop G len wr L len) (hs : L.length = len) (hl : len ≤ 1048576) (hf : ∀ i, -9223372036854775808 ≤ (cl L i).1 ∧ (cl L i).1 ≤ 9223372036854775807)
    (hi : ∀ i, i < len → (cl L i).2.length ≤ 1048576 ∧ ∀ j, -9223372036854775808 ≤ (cl L i).2.getD j 0 ∧ (cl L i).2.getD j 0 ≤ 9223372036854775807) : ClsAt (fun b => b = G) (fun b => G < b) wr (some ⟨G, 0, none⟩) len L := by
  obtain ⟨f, hrow, hc⟩ := h
  refine ⟨hs, by omega, .inr ⟨G, 0, rfl, rfl, fun i hil => ?_⟩, hf⟩
  obtain ⟨h1, g, h2, h3, h4⟩ := hc i hil
  refine ⟨?_, some ⟨g, 0, none⟩, (cl L i).2.length, (cl L i).2.length, ?_, h4.ints rfl (hi i hil).1 (hi i hil).2 h3⟩
  · rw [Nat.zero_add, (hrow (i * 2) (by omega)).1, h1]
  · rw [Nat.zero_add, (hrow (i * 2 + 1) (by omega)).1, h2]

theorem Cop.toCls {D E : Nat → Prop} {w w1 : World} {G len : Nat} {a : Option Addr} {L : List Cl} (hc : Cop G len w1 L len) (h : ClsAt D E w a len L) (hlen : len ≤ 1048576) (hfl : ∀ i, i < len → (cl L i).2.length ≤ 1048576) : ClsAt (fun b => b = G) (fun b => G < b) w1 (some ⟨G, 0, none⟩) len L := by
  refine hc.cls h.size hlen h.fits (fun i hi => ⟨hfl i hi, ?_⟩)
  rcases h.cells with h0 | ⟨b, off, ha, _, hcs⟩
  · omega
  · obtain ⟨_, fa, fl, fc, _, hI⟩ := hcs i hi
    exact hI.fits

end Go.Proofs.Ytjeabgkcmfjjlaa
