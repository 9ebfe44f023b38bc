/-
  Slices of ints: a copy in new memory, whether two are the same, how many there are; of every slice of ints in memory.
-/
import Derived.Test.YtjbmcdekhhbiaaaGreatCls
import Derived.Handy
import Derived.Deep.OwnRows
import Derived.Deep.QuietTactic
import Derived.BigQuiet
namespace Go.Proofs.YtjbmcdekhhbiaaaGreat
open Go.ChangeShapes Go.WideShapes Go.ChangeAt Go.RowKit

/-- A row of cells that is the call's own. -/
def RowAt (w : World) (G n : Nat) (f : Nat → Value) : Prop := ∀ j, j < n → w.cell? ⟨G, j, none⟩ = some (f j) ∧ w.frozen? ⟨G, j, none⟩ = false
theorem RowAt.set {w : World} {G n : Nat} {f : Nat → Value} (h : RowAt w G n f) (k : Nat) (v : Value) : RowAt (w.setCell ⟨G, k, none⟩ v) G n (fun j => if j = k then v else f j) := by
  intro j hj
  refine ⟨?_, by rw [World.frozen?_setCell]; exact (h j hj).2⟩
  by_cases e : j = k
  · subst e
    rw [World.cell?_setCell_same w _ _ (h j hj).1]; simp
  · rw [World.cell?_setCell_other w _ _ _ (by intro e'; exact e (congrArg Addr.off e').symm), (h j hj).1]; simp [e]
theorem RowAt.later {w w' : World} {G n : Nat} {f : Nat → Value} (h : RowAt w G n f) (b : Below w.heap.size w w') : RowAt w' G n f := by
  intro j hj
  have hl := World.block_lt_of_cell? w _ (h j hj).1
  exact ⟨by rw [b.cell hl]; exact (h j hj).1, by rw [b.frozen hl]; exact (h j hj).2⟩
theorem RowAt.congr {w : World} {G n : Nat} {f g : Nat → Value} (h : RowAt w G n f) (e : ∀ j, j < n → f j = g j) : RowAt w G n g := by
  intro j hj
  rw [← e j hj]; exact h j hj
theorem RowAt.made (w : World) (z : Array Value) (n : Nat) (t : TypeId) : RowAt (w.alloc (.cells (madeCells z n) t)) w.heap.size n (fun j => z[j % z.size]!) := by
  intro j hj
  refine ⟨?_, World.frozen?_alloc_at _ _ _ _ rfl⟩
  rw [World.cell?_alloc_at _ _ _ _ rfl]
  simp [madeCells, hj]

theorem info_int : (Tryz.prog.info? 3).map (fun i => (i.zero, i.size, i.bytes)) = some (some (.int .i64 0), 1, 8) := by kernel_rfl

theorem toInts (a : Option Addr) (len cap : Nat) (xs : List Int) (w : World) {D : Nat → Prop} (h : IntsAt D w a len xs) (hlen : len ≤ 1048576) :
    Calls Tryz.prog 32 #[.slice a len cap] w fun e w' => e = .returned (.slice (some ⟨w.heap.size, 0, none⟩) len len) ∧ RowAt w' w.heap.size len (fun j => .int .i64 (xs.getD j 0)) ∧ Below w.heap.size w w' ∧ w'.heap.size = w.heap.size + 1 := by
  have hmk := fun wx => run_make_row' (P := Tryz.prog) 23 3 (.int .i64 0) 8 Tryz.underlying23 info_int rfl .i64 .i64 len (by omega) (by omega) wx
  have H : Hid (IntsAt D w a len xs) := h
  clear h
  go_enter Tryz.func32, Tryz.ntmps32
  go_wp2_with fail
  go_loopw [4] (fun t wr => ∃ k : Nat, k ≤ len ∧ t = .int .i64 k ∧ RowAt wr w.heap.size len (fun j => if j < k then .int .i64 (xs.getD j 0) else .int .i64 0) ∧ Below w.heap.size w wr ∧ wr.heap.size = w.heap.size + 1) (fun t _ => len - (intOf t).toNat)
  case atStart =>
    refine ⟨0, Nat.zero_le _, rfl, (RowAt.made w #[.int .i64 0] len 3).congr fun j _ => by simp [Nat.mod_one], by go_grown, by simp⟩
  case round =>
    obtain ⟨k, hk, rfl, hrow, hb, hs⟩ := hrel
    have HR : Hid (RowAt wr w.heap.size len (fun j => if j < k then .int .i64 (xs.getD j 0) else .int .i64 0)) := hrow
    have HB : Hid (Below w.heap.size w wr) := hb
    have HSz : Hid (wr.heap.size = w.heap.size + 1) := hs
    clear hrow hb hs
    by_cases hlt : k < len
    · obtain ⟨b, off, rfl, hc⟩ : ∃ b off, a = some ⟨b, off, none⟩ ∧ wr.cell? ⟨b, off + k, none⟩ = some (.int .i64 (xs.getD k 0)) := by
        rcases (H.out.later HB.out).cells with h0 | ⟨b, off, ha, _, hc⟩
        · omega
        · exact ⟨b, off, ha, hc k hlt⟩
      have hg := (HR.out k hlt).1
      simp only [Nat.lt_irrefl, if_false] at hg
      have hf := (HR.out k hlt).2
      have HF : Hid (RowAt (wr.setCell ⟨w.heap.size, k, none⟩ (.int .i64 (xs.getD k 0))) w.heap.size len (fun j => if j < k + 1 then .int .i64 (xs.getD j 0) else .int .i64 0)) :=
        (HR.out.set k (.int .i64 (xs.getD k 0))).congr fun j _ => by
          by_cases e : j = k
          · subst e; simp
          · by_cases e2 : j < k
            · rw [if_neg e, if_pos e2, if_pos (by omega)]
            · rw [if_neg e, if_neg e2, if_neg (by omega)]
      generalize xs.getD k 0 = x at hc HF
      go_wp2_with fail
      exact ⟨⟨k + 1, by omega, by go_num, HF.out, HB.out.setCell (Nat.le_refl _) _, by rw [World.size_setCell]; exact HSz.out⟩, by simp [intOf]; omega⟩
    · have ek : k = len := by omega
      subst ek
      go_wp2_with fail
      go_ret
      exact ⟨rfl, HR.out.congr fun j hj => by rw [if_pos hj], HB.out, HSz.out⟩

theorem RowAt.ints {w : World} {G len : Nat} {xs : List Int} (h : RowAt w G len (fun j => .int .i64 (xs.getD j 0))) (hs : xs.length = len) (hl : len ≤ 1048576) (hf : ∀ j, -9223372036854775808 ≤ xs.getD j 0 ∧ xs.getD j 0 ≤ 9223372036854775807) {D : Nat → Prop} (hd : D G) :
    IntsAt D w (some ⟨G, 0, none⟩) len xs :=
  ⟨hs, by omega, .inr ⟨G, 0, rfl, hd, fun j hj => by rw [Nat.zero_add]; exact (h j hj).1⟩, hf⟩

theorem getD_ext (xs ys : List Int) (hl : xs.length = ys.length) (h : ∀ j, j < xs.length → xs.getD j 0 = ys.getD j 0) : xs = ys := by
  apply List.ext_getElem hl
  intro i h1 h2
  have := h i h1
  rwa [List.getD_eq_getElem?_getD, List.getD_eq_getElem?_getD, List.getElem?_eq_getElem h1, List.getElem?_eq_getElem h2, Option.getD_some, Option.getD_some] at this

theorem eqInts (a : Option Addr) (la ca : Nat) (xs : List Int) (b : Option Addr) (lb cb : Nat) (ys : List Int) (w : World) {D E : Nat → Prop} (hx : IntsAt D w a la xs) (hy : IntsAt E w b lb ys) :
    Calls Tryz.prog 37 #[.slice a la ca, .slice b lb cb] w fun e w' => e = .returned (.bool (decide (xs = ys))) ∧ ∃ n, w' = w.drewN n := by
  have hra := hx.room
  have hrb := hy.room
  have HX : Hid (IntsAt D w a la xs) := hx
  have HY : Hid (IntsAt E w b lb ys) := hy
  clear hx hy
  by_cases hl : la = lb
  · subst hl
    have e1 : ((la : Int) != la) = false := by simp
    go_enter Tryz.func37, Tryz.ntmps37
    go_wp2_with fail
    go_loopw [5] (fun t wr => ∃ k : Nat, k ≤ la ∧ t = .int .i64 k ∧ (∀ j, j < k → xs.getD j 0 = ys.getD j 0) ∧ ∃ n, wr = w.drewN n) (fun t _ => la - (intOf t).toNat)
    case atStart => exact ⟨0, Nat.zero_le _, rfl, by omega, 0, rfl⟩
    case round =>
      obtain ⟨k, hk, rfl, hu, n, rfl⟩ := hrel
      have HU : Hid (∀ j, j < k → xs.getD j 0 = ys.getD j 0) := hu
      clear hu
      by_cases hlt : k < la
      · obtain ⟨b1, o1, rfl, hc1⟩ : ∃ b off, a = some ⟨b, off, none⟩ ∧ w.cell? ⟨b, off + k, none⟩ = some (.int .i64 (xs.getD k 0)) := by
          rcases HX.out.cells with h0 | ⟨b, off, ha, _, hc⟩
          · omega
          · exact ⟨b, off, ha, hc k hlt⟩
        obtain ⟨b2, o2, rfl, hc2⟩ : ∃ c off, b = some ⟨c, off, none⟩ ∧ w.cell? ⟨c, off + k, none⟩ = some (.int .i64 (ys.getD k 0)) := by
          rcases HY.out.cells with h0 | ⟨c, off, ha, _, hc⟩
          · omega
          · exact ⟨c, off, ha, hc k hlt⟩
        have HK1 : Hid (xs.getD k 0 = xs.getD k 0 ∧ ∀ x, xs.getD k 0 = x → xs.getD k 0 = x) := ⟨rfl, fun _ h => h⟩
        obtain ⟨x, hxk⟩ : ∃ x, x = xs.getD k 0 := ⟨_, rfl⟩
        obtain ⟨y, hyk⟩ : ∃ y, y = ys.getD k 0 := ⟨_, rfl⟩
        rw [← hxk] at hc1
        rw [← hyk] at hc2
        have GX : Hid (x = xs.getD k 0) := hxk
        have GY : Hid (y = ys.getD k 0) := hyk
        clear hxk hyk HK1
        cases hne : (x != y)
        · go_wp2_with fail
          go_quiet (fail)
          go_wp2_with fail
          refine ⟨⟨k + 1, by omega, by go_num, ?_, ?_⟩, by simp [intOf]; omega⟩
          · intro j hj
            by_cases e : j = k
            · subst e
              rw [← GX.out, ← GY.out]; simpa using hne
            · exact HU.out j (by omega)
          · exact ⟨n + nq, rfl⟩
        · have HF : Hid (decide (xs = ys) = false) := by
            show _ = _
            rw [decide_eq_false_iff_not]
            intro e
            rw [bne_iff_ne, GX.out, GY.out, e] at hne
            exact hne rfl
          go_wp2_with fail
          go_quiet (fail)
          go_wp2_with fail
          go_ret
          exact ⟨by rw [HF.out]; rfl, n + nq, by simp⟩
      · have ek : k = la := by omega
        subst ek
        have HF : Hid (decide (xs = ys) = true) := by
          show _ = _
          rw [decide_eq_true_iff]
          exact getD_ext xs ys (by rw [HX.out.size, HY.out.size]) (by rw [HX.out.size]; exact HU.out)
        go_wp2_with fail
        go_ret
        exact ⟨by rw [HF.out]; rfl, _, rfl⟩
  · have e1 : ((la : Int) != lb) = true := by simp; omega
    have HF : Hid (decide (xs = ys) = false) := by
      show _ = _
      rw [decide_eq_false_iff_not]
      intro e
      exact hl (by rw [← HX.out.size, ← HY.out.size, e])
    go_enter Tryz.func37, Tryz.ntmps37
    go_wp2_with fail
    go_ret
    exact ⟨by rw [HF.out]; rfl, 0, rfl⟩

/-- What is left of so many. -/
def leftOf (l : Int) (n : Nat) : Int := if l < n then -1 else l - n
theorem szInts (a : Option Addr) (len cap : Nat) (l : Int) (w : World) (hr : len ≤ 9223372036854775807) (l0 : 0 ≤ l) (l1 : l ≤ 1048576) :
    Calls Tryz.prog 25 #[.slice a len cap, .int .i64 l] w fun e w' => e = .returned (.int .i64 (leftOf l len)) ∧ w = w' := by
  by_cases h : l < len
  · have HF : Hid (leftOf l len = -1) := if_pos h
    go_enter Tryz.func25, Tryz.ntmps25
    go_wp2_with fail
    go_ret
    exact ⟨by rw [HF.out]; rfl, rfl⟩
  · have HF : Hid (leftOf l len = l - len) := if_neg h
    go_enter Tryz.func25, Tryz.ntmps25
    go_wp2_with fail
    go_ret
    exact ⟨by rw [HF.out]; rfl, rfl⟩

end Go.Proofs.YtjbmcdekhhbiaaaGreat
