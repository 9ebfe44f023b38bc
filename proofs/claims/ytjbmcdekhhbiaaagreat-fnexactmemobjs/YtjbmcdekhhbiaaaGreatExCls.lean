/-
  Slices of classes: a copy in new memory, whether two are the same, how many there are; of every slice of classes in memory.
-/
import Derived.Test.YtjbmcdekhhbiaaaGreatInts2
namespace Go.Proofs.YtjbmcdekhhbiaaaGreat
open Go.ChangeShapes Go.WideShapes Go.ChangeAt Go.RowKit

theorem bcell {W w1 : World} (hb : Below W.heap.size W w1) : (∀ b o, b < W.heap.size → w1.cell? ⟨b, o, none⟩ = W.cell? ⟨b, o, none⟩) ∧ (∀ b o, b < W.heap.size → w1.frozen? ⟨b, o, none⟩ = W.frozen? ⟨b, o, none⟩) :=
  ⟨fun b o h => hb.cell (p := ⟨b, o, none⟩) h, fun b o h => hb.frozen (p := ⟨b, o, none⟩) h⟩

theorem RowAt.other {w : World} {G n : Nat} {f : Nat → Value} (h : RowAt w G n f) (p : Addr) (v : Value) (hp : p.block ≠ G) : RowAt (w.setCell p v) G n f := by
  intro j hj
  refine ⟨?_, by rw [World.frozen?_setCell]; exact (h j hj).2⟩
  rw [World.cell?_setCell_other w _ _ _ (by intro e; exact hp (congrArg Addr.block e))]
  exact (h j hj).1

theorem toCls1 (s : Int) (fa : Option Addr) (fl fc : Nat) (xs : List Int) (w : World) {D : Nat → Prop} (h : IntsAt D w fa fl xs) (hl : fl ≤ 1048576) :
    Calls Tryz.prog 31 #[.agg #[.int .i64 s, .slice fa fl fc]] w fun e w' => ∃ g, e = .returned (.agg #[.int .i64 s, .slice (some ⟨g, 0, none⟩) fl fl]) ∧ w.heap.size ≤ g ∧ g < w'.heap.size ∧ RowAt w' g fl (fun j => .int .i64 (xs.getD j 0)) ∧ Below w.heap.size w w' := by
  have H : Hid (IntsAt D w fa fl xs) := h
  clear h
  go_enter Tryz.func31, Tryz.ntmps31
  go_wp2_with fail
  refine (toInts _ _ _ xs _ (D := D) (H.out.later (by go_grown)) hl).mono ?_
  rintro e w1 ⟨rfl, hrow, hb, hs⟩
  obtain ⟨hc, hf⟩ := bcell hb
  have HR : Hid (RowAt w1 _ fl _) := hrow
  have HB : Hid (Below _ _ w1) := hb
  have HS : Hid (w1.heap.size = _) := hs
  clear hrow hb hs
  simp only [World.size_alloc] at hc hf HR HB HS
  go_wp2_with fail
  have hz : w1.heap.size = w.heap.size + 1 + 1 + 1 + 1 := HS.out
  refine bodyPost_ret (v := .agg #[.int .i64 s, .slice (some ⟨w.heap.size + 1 + 1 + 1, 0, none⟩) fl fl]) ?_ rfl ⟨_, rfl, by omega, by simp; omega, ((HR.out.other _ _ ?_).other _ _ ?_).other _ _ ?_, ?_⟩
  · simp [results, Tryz.results31, go_sem, hc]
  · simp
  · simp
  · simp
  · have b1 : Below w.heap.size w w1 := Below.trans (by go_grown) (HB.out.mono (by omega))
    exact ((b1.setCell (by simp; omega) _).setCell (by simp) _).setCell (by simp) _

theorem info_cls : (Tryz.prog.info? 56).map (fun i => (i.zero, i.size, i.bytes)) = some (some (.agg #[.int .i64 0, .slice none 0 0]), 2, 32) := by kernel_rfl

theorem makeCls (n : Nat) (hn : n ≤ 1048576) (w : World) : (Instr.makeSlice 32 (.int .i64 (n : Int)) (.int .i64 (n : Int))).run Tryz.prog w = .ok (.slice (some ⟨w.heap.size, 0, none⟩) n n) (w.alloc (.cells (madeCells #[.int .i64 0, .slice none 0 0] (n * 2)) 56)) := by
  obtain ⟨i, hi, hzz⟩ := Option.map_eq_some_iff.1 info_cls
  simp only [Prod.mk.injEq] at hzz
  obtain ⟨hz, hs, hb⟩ := hzz
  have hr := run_make (P := Tryz.prog) w 32 56 i _ Tryz.underlying32 hi hz .i64 .i64 n n (by omega) (Int.le_refl _) (by rw [hb]; omega) (by omega)
  simp only [Int.toNat_natCast, hs] at hr
  exact hr

/-- The first k classes are copied into the row at G. -/
def Cop (G len : Nat) (wr : World) (L : List Cl) (k : Nat) : Prop :=
  ∃ f, RowAt wr G (len * 2) f ∧ ∀ i, i < k → f (i * 2) = .int .i64 (cl L i).1 ∧
    ∃ g, f (i * 2 + 1) = .slice (some ⟨g, 0, none⟩) (cl L i).2.length (cl L i).2.length ∧ G < g ∧ RowAt wr g (cl L i).2.length (fun j => .int .i64 ((cl L i).2.getD j 0))

theorem Cop.step {G len k : Nat} {wr w1 : World} {L : List Cl} {g : Nat} (h : Cop G len wr L k) (hb : Below wr.heap.size wr w1) (hG : G < wr.heap.size) (hg : wr.heap.size ≤ g)
    (hr : RowAt w1 g (cl L k).2.length (fun j => .int .i64 ((cl L k).2.getD j 0))) :
    Cop G len ((w1.setCell ⟨G, k * 2, none⟩ (.int .i64 (cl L k).1)).setCell ⟨G, k * 2 + 1, none⟩ (.slice (some ⟨g, 0, none⟩) (cl L k).2.length (cl L k).2.length)) L (k + 1) := by
  obtain ⟨f, hf, hi⟩ := h
  refine ⟨_, ((hf.later hb).set (k * 2) _).set (k * 2 + 1) _, fun i hik => ?_⟩
  by_cases e : i = k
  · subst e
    refine ⟨by rw [if_neg (by omega), if_pos rfl], g, by rw [if_pos rfl], by omega, (hr.other _ _ ?_).other _ _ ?_⟩
    · simp; omega
    · simp; omega
  · obtain ⟨h1, g', h2, h3, h4⟩ := hi i (by omega)
    refine ⟨by rw [if_neg (by omega), if_neg (by omega)]; exact h1, g', by rw [if_neg (by omega), if_neg (by omega)]; exact h2, h3, ((h4.later hb).other _ _ ?_).other _ _ ?_⟩
    · simp; omega
    · simp; omega

theorem Cop.cls {G len : Nat} {wr : World} {L : List Cl} (h : Cop G len wr L len) (hs : L.length = len) (hl : len ≤ 1048576) (hf : ∀ i, -9223372036854775808 ≤ (cl L i).1 ∧ (cl L i).1 ≤ 9223372036854775807)
    (hi : ∀ i, i < len → (cl L i).2.length ≤ 1048576 ∧ ∀ j, -9223372036854775808 ≤ (cl L i).2.getD j 0 ∧ (cl L i).2.getD j 0 ≤ 9223372036854775807) : ClsAt (fun b => b = G) (fun b => G < b) wr (some ⟨G, 0, none⟩) len L := by
  obtain ⟨f, hrow, hc⟩ := h
  refine ⟨hs, by omega, .inr ⟨G, 0, rfl, rfl, fun i hil => ?_⟩, hf⟩
  obtain ⟨h1, g, h2, h3, h4⟩ := hc i hil
  refine ⟨?_, some ⟨g, 0, none⟩, (cl L i).2.length, (cl L i).2.length, ?_, h4.ints rfl (hi i hil).1 (hi i hil).2 h3⟩
  · rw [Nat.zero_add, (hrow (i * 2) (by omega)).1, h1]
  · rw [Nat.zero_add, (hrow (i * 2 + 1) (by omega)).1, h2]

theorem toClsC (a : Option Addr) (len cap : Nat) (L : List Cl) (w : World) {D E : Nat → Prop} (h : ClsAt D E w a len L) (hlen : len ≤ 1048576) (hfl : ∀ i, i < len → (cl L i).2.length ≤ 1048576) :
    Calls Tryz.prog 9 #[.slice a len cap] w fun e w' => e = .returned (.slice (some ⟨w.heap.size, 0, none⟩) len len) ∧ Cop w.heap.size len w' L len ∧ Below w.heap.size w w' ∧ w.heap.size < w'.heap.size := by
  have hmk := makeCls len hlen
  have H : Hid (ClsAt D E w a len L) := h
  clear h
  go_enter Tryz.func9, Tryz.ntmps9
  go_wp2_with fail
  go_loopw [4] (fun t wr => ∃ k : Nat, k ≤ len ∧ t = .int .i64 k ∧ Cop w.heap.size len wr L k ∧ Below w.heap.size w wr ∧ w.heap.size < wr.heap.size) (fun t _ => len - (intOf t).toNat)
  case atStart =>
    exact ⟨0, Nat.zero_le _, rfl, ⟨_, RowAt.made w _ _ _, by omega⟩, by go_grown, by simp⟩
  case round =>
    obtain ⟨k, hk, rfl, hrow, hb, hs⟩ := hrel
    have HR : Hid (Cop w.heap.size len wr L k) := hrow
    have HB : Hid (Below w.heap.size w wr) := hb
    have HSz : Hid (w.heap.size < wr.heap.size) := hs
    clear hrow hb hs
    by_cases hlt : k < len
    · obtain ⟨b, off, rfl, hc1, fa, fl, fc, hc2, hI⟩ : ∃ b off, a = some ⟨b, off, none⟩ ∧ wr.cell? ⟨b, off + k * 2, none⟩ = some (.int .i64 (cl L k).1) ∧ ∃ fa fl fc, wr.cell? ⟨b, off + k * 2 + 1, none⟩ = some (.slice fa fl fc) ∧ IntsAt E wr fa fl (cl L k).2 := by
        rcases (H.out.later HB.out).cells with h0 | ⟨b, off, ha, _, hc⟩
        · omega
        · exact ⟨b, off, ha, hc k hlt⟩
      have HI : Hid (IntsAt E wr fa fl (cl L k).2) := hI
      have hl := hfl k hlt
      rw [hI.size] at hl
      have HF : ∀ (w1 : World) (g : Nat), Below wr.heap.size wr w1 → wr.heap.size ≤ g → RowAt w1 g fl (fun j => .int .i64 ((cl L k).2.getD j 0)) →
          Cop w.heap.size len ((w1.setCell ⟨w.heap.size, k * 2, none⟩ (.int .i64 (cl L k).1)).setCell ⟨w.heap.size, k * 2 + 1, none⟩ (.slice (some ⟨g, 0, none⟩) fl fl)) L (k + 1) ∧
          (∃ v, w1.cell? ⟨w.heap.size, k * 2, none⟩ = some v) ∧ (∃ v, w1.cell? ⟨w.heap.size, k * 2 + 1, none⟩ = some v) ∧ w1.frozen? ⟨w.heap.size, k * 2, none⟩ = false ∧ w1.frozen? ⟨w.heap.size, k * 2 + 1, none⟩ = false := by
        intro w1 g h1 h2 h3
        obtain ⟨f, hrow, _⟩ := HR.out
        have r1 := (hrow.later h1) (k * 2) (by omega)
        have r2 := (hrow.later h1) (k * 2 + 1) (by omega)
        refine ⟨?_, ⟨_, r1.1⟩, ⟨_, r2.1⟩, r1.2, r2.2⟩
        rw [← hI.size] at h3 ⊢
        exact HR.out.step h1 HSz.out h2 h3
      have HFh : Hid (∀ (w1 : World) (g : Nat), Below wr.heap.size wr w1 → wr.heap.size ≤ g → RowAt w1 g fl (fun j => .int .i64 ((cl L k).2.getD j 0)) →
          Cop w.heap.size len ((w1.setCell ⟨w.heap.size, k * 2, none⟩ (.int .i64 (cl L k).1)).setCell ⟨w.heap.size, k * 2 + 1, none⟩ (.slice (some ⟨g, 0, none⟩) fl fl)) L (k + 1) ∧
          (∃ v, w1.cell? ⟨w.heap.size, k * 2, none⟩ = some v) ∧ (∃ v, w1.cell? ⟨w.heap.size, k * 2 + 1, none⟩ = some v) ∧ w1.frozen? ⟨w.heap.size, k * 2, none⟩ = false ∧ w1.frozen? ⟨w.heap.size, k * 2 + 1, none⟩ = false) := HF
      clear hI HF
      go_wp2_with fail
      refine (toCls1 _ _ _ _ _ _ HI.out hl).mono ?_
      rintro e w1 ⟨g, rfl, g0, g1, grow, gb⟩
      obtain ⟨hcop, ⟨v1, hv1⟩, ⟨v2, hv2⟩, hf1, hf2⟩ := HFh.out w1 g gb g0 grow
      have HCop : Hid _ := hcop
      have HGb : Hid (Below wr.heap.size wr w1) := gb
      clear hcop gb grow
      go_wp2_with fail
      have b2 : Below w.heap.size w w1 := HB.out.trans (HGb.out.mono (Nat.le_of_lt HSz.out))
      refine ⟨⟨k + 1, by omega, by go_num, HCop.out, (b2.setCell (Nat.le_refl _) _).setCell (Nat.le_refl _) _, ?_⟩, by simp [intOf]; omega⟩
      rw [World.size_setCell, World.size_setCell]
      have := HGb.out.size
      have := HSz.out
      omega
    · have ek : k = len := by omega
      subst ek
      go_wp2_with fail
      go_ret
      exact ⟨rfl, HR.out, HB.out, HSz.out⟩

theorem Cop.toCls {D E : Nat → Prop} {w w1 : World} {G len : Nat} {a : Option Addr} {L : List Cl} (hc : Cop G len w1 L len) (h : ClsAt D E w a len L) (hlen : len ≤ 1048576) (hfl : ∀ i, i < len → (cl L i).2.length ≤ 1048576) : ClsAt (fun b => b = G) (fun b => G < b) w1 (some ⟨G, 0, none⟩) len L := by
  refine hc.cls h.size hlen h.fits (fun i hi => ⟨hfl i hi, ?_⟩)
  rcases h.cells with h0 | ⟨b, off, ha, _, hcs⟩
  · omega
  · obtain ⟨_, fa, fl, fc, _, hI⟩ := hcs i hi
    exact hI.fits

theorem toCls (a : Option Addr) (len cap : Nat) (L : List Cl) (w : World) {D E : Nat → Prop} (h : ClsAt D E w a len L) (hlen : len ≤ 1048576) (hfl : ∀ i, i < len → (cl L i).2.length ≤ 1048576) :
    Calls Tryz.prog 9 #[.slice a len cap] w fun e w' => e = .returned (.slice (some ⟨w.heap.size, 0, none⟩) len len) ∧ ClsAt (fun b => b = w.heap.size) (fun b => w.heap.size < b) w' (some ⟨w.heap.size, 0, none⟩) len L ∧ Below w.heap.size w w' := by
  refine (toClsC a len cap L w h hlen hfl).mono ?_
  rintro e w' ⟨rfl, hc, hb, _⟩
  exact ⟨rfl, hc.toCls h hlen hfl, hb⟩

end Go.Proofs.YtjbmcdekhhbiaaaGreat
