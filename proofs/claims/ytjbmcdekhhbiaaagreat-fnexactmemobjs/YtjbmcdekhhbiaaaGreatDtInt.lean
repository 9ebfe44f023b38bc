/-
  Slices of ints: copied into new memory, held against another one that is the same, their size; and the words in which the same is said of other data.
-/
import Derived.Test.YtjbmcdekhhbiaaaGreatCopy
import Derived.Test.YtjbmcdekhhbiaaaGreatRdRep
import Derived.Test.YtjbmcdekhhbiaaaGreatEqCls
import Derived.RowKit3
namespace Go.Proofs.YtjbmcdekhhbiaaaGreat
open Go.ChangeShapes Go.WideShapes Go.ChangeAt Go.RowKit

/-- What a copy of a slice gives. -/
def ToL {α : Type} (R : Rep α) (w : World) (len : Nat) (xs : List α) (e : Ending) (w' : World) : Prop :=
  ∃ a c, e = .returned (.slice a len (len + c)) ∧ SlAt R (fun b => w.heap.size ≤ b) w' a len xs ∧ Below w.heap.size w w'
/-- What is left of so many, behind something. -/
def SzP (w : World) (l : Int) (P : Prop) (e : Ending) (w' : World) : Prop :=
  ∃ r : Int, e = .returned (.int .i64 r) ∧ -1 ≤ r ∧ r ≤ l ∧ (0 ≤ r → P) ∧ Below w.heap.size w w'
theorem SlAt.set {α : Type} {R : Rep α} {D : Nat → Prop} {w : World} {a : Option Addr} {len : Nat} {xs : List α} (h : SlAt R D w a len xs) (p : Addr) (v : Value) (hp : ¬ D p.block) : SlAt R D (w.setCell p v) a len xs :=
  h.keep fun b o hd _ => World.cell?_setCell_other w _ _ _ (by intro e; exact hp (by rw [e]; exact hd))

/-- What may be written may be written. -/
def FZ (w w' : World) : Prop := ∀ a, w'.frozen? a = w.frozen? a
theorem toIntsF (a : Option Addr) (len cap : Nat) (xs : List Int) (w : World) {D : Nat → Prop} (h : IntsAt D w a len xs) (hlen : len ≤ 1048576) :
    Calls Tryz.prog 32 #[.slice a len cap] w fun e w' => e = .returned (.slice (some ⟨w.heap.size, 0, none⟩) len len) ∧ RowAt w' w.heap.size len (fun j => .int .i64 (xs.getD j 0)) ∧ Below w.heap.size w w' ∧ FZ w w' := by
  have hmk := fun wx => run_make_row' (P := Tryz.prog) 23 3 (.int .i64 0) 8 Tryz.underlying23 info_int rfl .i64 .i64 len (by omega) (by omega) wx
  have H : Hid (IntsAt D w a len xs) := h
  clear h
  go_enter Tryz.func32, Tryz.ntmps32
  go_wp2_with fail
  go_loopw [4] (fun t wr => ∃ k : Nat, k ≤ len ∧ t = .int .i64 k ∧ RowAt wr w.heap.size len (fun j => if j < k then .int .i64 (xs.getD j 0) else .int .i64 0) ∧ Below w.heap.size w wr ∧ wr.heap.size = w.heap.size + 1 ∧ FZ w wr) (fun t _ => len - (intOf t).toNat)
  case atStart =>
    refine ⟨0, Nat.zero_le _, rfl, (RowAt.made w #[.int .i64 0] len 3).congr fun j _ => by simp [Nat.mod_one], by go_grown, by simp, fun a => by simp only [frozen?_alloc_cells]⟩
  case round =>
    obtain ⟨k, hk, rfl, hrow, hb, hs, hfz⟩ := hrel
    have HZF : Hid (FZ w wr) := hfz
    have HR : Hid (RowAt wr w.heap.size len (fun j => if j < k then .int .i64 (xs.getD j 0) else .int .i64 0)) := hrow
    have HB : Hid (Below w.heap.size w wr) := hb
    have HSz : Hid (wr.heap.size = w.heap.size + 1) := hs
    clear hrow hb hs hfz
    by_cases hlt : k < len
    · obtain ⟨b, off, rfl, hc⟩ : ∃ b off, a = some ⟨b, off, none⟩ ∧ wr.cell? ⟨b, off + k, none⟩ = some (.int .i64 (xs.getD k 0)) := by
        rcases (H.out.later HB.out).cells with h0 | ⟨b, off, ha, _, hc⟩
        · omega
        · exact ⟨b, off, ha, hc k hlt⟩
      have hg := (HR.out k hlt).1
      simp only [Nat.lt_irrefl, if_false] at hg
      have hf := (HR.out k hlt).2
      have HF : Hid (RowAt (wr.setCell ⟨w.heap.size, k, none⟩ (.int .i64 (xs.getD k 0))) w.heap.size len (fun j => if j < k + 1 then .int .i64 (xs.getD j 0) else .int .i64 0)) :=
        (HR.out.set k (.int .i64 (xs.getD k 0))).congr fun j _ => by
          by_cases e : j = k
          · subst e; simp
          · by_cases e2 : j < k
            · rw [if_neg e, if_pos e2, if_pos (by omega)]
            · rw [if_neg e, if_neg e2, if_neg (by omega)]
      generalize xs.getD k 0 = x at hc HF
      go_wp2_with fail
      exact ⟨⟨k + 1, by omega, by go_num, HF.out, HB.out.setCell (Nat.le_refl _) _, by rw [World.size_setCell]; exact HSz.out, fun a => by rw [World.frozen?_setCell]; exact HZF.out a⟩, by simp [intOf]; omega⟩
    · have ek : k = len := by omega
      subst ek
      go_wp2_with fail
      go_ret
      exact ⟨rfl, HR.out.congr fun j hj => by rw [if_pos hj], HB.out, HZF.out⟩
theorem toLIntF (a : Option Addr) (len cap : Nat) (xs : List Int) (w : World) {D : Nat → Prop} (h : SlAt intR D w a len xs) (hs : (Rep.list intR).small xs) :
    Calls Tryz.prog 32 #[.slice a len cap] w fun e w' => ToL intR w len xs e w' ∧ FZ w w' := by
  have hlen : len ≤ 1048576 := by rw [← h.size]; exact hs.1
  refine (toIntsF a len cap xs w h.ints hlen).mono ?_
  rintro e w' ⟨he, hr, hb, hz⟩
  exact ⟨⟨_, 0, he, (hr.ints h.size hlen h.ints.fits (D := fun b => w.heap.size ≤ b) (Nat.le_refl _)).sl, hb⟩, hz⟩
theorem toLInt (a : Option Addr) (len cap : Nat) (xs : List Int) (w : World) {D : Nat → Prop} (h : SlAt intR D w a len xs) (hs : (Rep.list intR).small xs) :
    Calls Tryz.prog 32 #[.slice a len cap] w fun e w' => ToL intR w len xs e w' := (toLIntF a len cap xs w h hs).mono fun _ _ h => h.1
theorem eqLInt (a : Option Addr) (la ca : Nat) (b : Option Addr) (lb cb : Nat) (xs : List Int) (w : World) {D E : Nat → Prop} (hx : SlAt intR D w a la xs) (hy : SlAt intR E w b lb xs) :
    Calls Tryz.prog 37 #[.slice a la ca, .slice b lb cb] w fun e w' => e = .returned (.bool true) ∧ Below w.heap.size w w' := by
  refine (eqInts a la ca xs b lb cb xs w hx.ints hy.ints).mono ?_
  rintro e w' ⟨he, n, hw⟩
  exact ⟨by rw [he, decide_eq_true rfl], below_drawn n hw⟩
theorem szLInt (a : Option Addr) (len cap : Nat) (xs : List Int) (l : Int) (w : World) {D : Nat → Prop} (h : SlAt intR D w a len xs) (k0 : 0 ≤ l) (k1 : l ≤ 1048576) :
    Calls Tryz.prog 25 #[.slice a len cap, .int .i64 l] w fun e w' => SzP w l ((Rep.list intR).small xs) e w' := by
  refine (szInts a len cap l w h.room k0 k1).mono ?_
  rintro e w' ⟨he, rfl⟩
  have hs := h.size
  by_cases hl : l < len
  · exact ⟨-1, by rw [he, leftOf, if_pos hl], by omega, by omega, by omega, Below.refl _ _⟩
  · exact ⟨l - len, by rw [he, leftOf, if_neg hl], by omega, by omega, fun _ => ⟨by omega, fun _ _ => trivial⟩, Below.refl _ _⟩

theorem rd_int : Reads 3 .int := reads_int Tryz.underlying3
theorem rd_bool : Reads 4 .bool := reads_bool Tryz.underlying4
theorem rdL_Int : Reads 23 (.list .int) := reads_list Tryz.underlying23 (by kernel_rfl) rd_int

end Go.Proofs.YtjbmcdekhhbiaaaGreat
