/-
  What the law on shapes draws of a code, whatever the code: a list of classes, not empty, a number and a shape, in new memory alone.
-/
import Derived.Test.YtilceojilhmcgaaDrShp
namespace Go.Proofs.Ytilceojilhmcgaa
open Go.ChangeShapes Go.WideShapes Go.ChangeAt Go.RowKit

def DrawnShOk (w : World) (e : Ending) (w' : World) : Prop :=
  ∃ a len cap L n any la ll lc ka kl kc us vs, e = .returned (.tuple #[.slice a len cap, .int .i64 n, .agg #[.bool any, .slice la ll lc, .slice ka kl kc]]) ∧ ClsAt (fun b => w.heap.size ≤ b) (fun b => w.heap.size ≤ b) w' a len L ∧
    IntsAt (fun b => w.heap.size ≤ b) w' la ll us ∧ IntsAt (fun b => w.heap.size ≤ b) w' ka kl vs ∧ Below w.heap.size w w'

set_option maxHeartbeats 2000000 in
theorem drawShOk (a0 : Option Addr) (len0 cap0 : Nat) (zs : List Int) (w : World) (h : IsRow .u8 w a0 len0 cap0 zs) :
    Calls Try.prog 7 #[.slice a0 len0 cap0] w fun e w' => DrawnShOk w e w' := by
  have A0 : Hid (Below w.heap.size w (w.alloc (.cells #[.bool false, .slice none 0 0, .slice none 0 0] 26))) := (Below.refl _ _).alloc (Nat.le_refl _) _
  have H : Hid (IsRow .u8 (w.alloc (.cells #[.bool false, .slice none 0 0, .slice none 0 0] 26)) a0 len0 cap0 zs) := rowLater h A0.out
  have hY0 : Hid ((w.alloc (.cells #[.bool false, .slice none 0 0, .slice none 0 0] 26)).heap[w.heap.size]? = some (.cells #[.bool false, .slice none 0 0, .slice none 0 0] 26 (0, 0))) := heap_alloc_new _ _
  clear h
  go_enter Try.func7, Try.ntmps7
  go_wp2_with fail
  refine (openRd a0 len0 cap0 zs _ H.out).mono ?_
  rintro e w0 ⟨rfl, r0, b0, s0⟩
  have S0 : Hid (w0.heap.size = w.heap.size + 1 + 1) := by show _ = _; simpa using s0
  have R0 : Hid (Rd (w.heap.size + 1) w0 (w.heap.size + 1) 0) := by show Rd _ _ _ _; simpa using r0
  have B0 : Hid (Below (w.heap.size + 1) (w.alloc (.cells #[.bool false, .slice none 0 0, .slice none 0 0] 26)) w0) := by show Below _ _ _; simpa using b0
  clear r0 s0 b0
  go_wp2_with fail
  refine (drawOff _ _ 0 w0 R0.out (by omega)).mono ?_
  rintro e w1 ⟨a, len, cap, L, k1, rfl, l1, l10, hL, hR, hk, hC⟩
  have G1 : Hid (ClsAt (fun b => w0.heap.size ≤ b) (fun b => w0.heap.size ≤ b) w1 a len L) := hL
  have R1 : Hid (Rd (w.heap.size + 1) w1 (w.heap.size + 1) k1) := hR
  have C1 : Hid (Ch (fun i => i = w.heap.size + 1) w0 w1) := hC
  have hRG : w.heap.size + 1 < w0.heap.size := by rw [S0.out]; omega
  clear hL hR hC
  go_wp2_with fail
  refine (pick _ _ k1 4 w1 R1.out (by omega) (by omega)).mono ?_
  rintro e w2 ⟨v, rfl, v0, v1, h2⟩
  have G2 : Hid _ := Ch.cls G1.out h2.ch hRG
  have R2 : Hid (Rd (w.heap.size + 1) w2 (w.heap.size + 1) (k1 + 1)) := h2.rd
  have C2 : Hid (Ch (fun i => i = w.heap.size + 1) w0 w2) := C1.out.trans h2.ch (fun _ _ h => h)
  obtain ⟨lo, rfl⟩ := Int.eq_ofNat_of_zero_le v0
  clear h2 G1 R1 C1
  go_wp2_with fail
  refine (drawShape _ _ (k1 + 1) lo len w2 R2.out (by omega) (by omega) (by omega) (by omega)).mono ?_
  rintro e w3 ⟨any, la, ll, lc, ka, kl, kc, us, vs, k3, rfl, hI, hJ, r3, hk3, c3⟩
  have C3 : Hid (Ch (fun i => i = w.heap.size + 1) w0 w3) := C2.out.trans c3 (fun _ _ h => h)
  have G3 : Hid (ClsAt (fun b => w0.heap.size ≤ b) (fun b => w0.heap.size ≤ b) w3 a len L) := Ch.cls G2.out c3 hRG
  have S2 : w0.heap.size ≤ w2.heap.size := C2.out.size
  have HI : Hid (IntsAt (fun b => w0.heap.size ≤ b) w3 la ll us) := hI.mono (fun b hb _ => by omega)
  have HJ : Hid (IntsAt (fun b => w0.heap.size ≤ b) w3 ka kl vs) := hJ.mono (fun b hb _ => by omega)
  have hY3 : w3.heap[w.heap.size]? = some (.cells #[.bool false, .slice none 0 0, .slice none 0 0] 26 (0, 0)) := by
    rw [C3.out.block _ (by rw [S0.out]; omega) (by omega), B0.out.block _ (by omega)]
    exact hY0.out
  obtain ⟨y0, y1, y2, g0, g1, g2⟩ := box3_cells hY3
  have BF : Hid (Below w.heap.size w (((w3.setCell ⟨w.heap.size, 0, none⟩ (.bool any)).setCell ⟨w.heap.size, 1, none⟩ (.slice la ll lc)).setCell ⟨w.heap.size, 2, none⟩ (.slice ka kl kc))) := by
    have b3 : Below w.heap.size w w3 := (A0.out.trans (B0.out.mono (by omega))).trans (C3.out.below (by rw [S0.out]; omega) (fun i hi e => by omega))
    exact ((b3.setCell (Nat.le_refl _) _).setCell (Nat.le_refl _) _).setCell (Nat.le_refl _) _
  clear hY3 hI hJ r3 c3
  go_wp2_with fail
  refine bodyPost_ret (v := .tuple #[.slice a len cap, .int .i64 lo, .agg #[.bool any, .slice la ll lc, .slice ka kl kc]]) ?_ rfl ?_
  · simp [results, Try.results7, go_sem, *]
  · have hW : w.heap.size < w0.heap.size := by omega
    refine ⟨a, len, cap, L, lo, any, la, ll, lc, ka, kl, kc, us, vs, rfl, ?_, ?_, ?_, BF.out⟩
    · refine ClsAt.mono (D := fun b => w0.heap.size ≤ b) (E := fun b => w0.heap.size ≤ b) ?_ (fun b hb _ => by omega) (fun b hb _ => by omega)
      exact G3.out.keep fun b o hd _ => by
        rw [World.cell?_setCell_other _ _ _ _ (by intro e; have := congrArg Addr.block e; simp at this; omega), World.cell?_setCell_other _ _ _ _ (by intro e; have := congrArg Addr.block e; simp at this; omega), World.cell?_setCell_other _ _ _ _ (by intro e; have := congrArg Addr.block e; simp at this; omega)]
    · refine IntsAt.mono (D := fun b => w0.heap.size ≤ b) ?_ (fun b hb _ => by omega)
      exact (((HI.out.off _ _ (by simp; omega)).off _ _ (by simp; omega)).off _ _ (by simp; omega))
    · refine IntsAt.mono (D := fun b => w0.heap.size ≤ b) ?_ (fun b hb _ => by omega)
      exact (((HJ.out.off _ _ (by simp; omega)).off _ _ (by simp; omega)).off _ _ (by simp; omega))

end Go.Proofs.Ytilceojilhmcgaa
