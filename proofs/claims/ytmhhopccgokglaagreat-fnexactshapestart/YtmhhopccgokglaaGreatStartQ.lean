/-
  The shape in which a method of a unit begins: that the specification says so, in whatever memory; it writes nothing that was there.
  The method that is looked at, and the shape in which it begins: that the program says so, in whatever memory; it writes nothing that was there.
  The shape in which a method begins: that the program says so, in memory of its own; it writes nothing that was there.
-/
import Derived.Test.YtmhhopccgokglaaGreatL11Q
import Derived.Test.YtmhhopccgokglaaGreatUnitSpec
import Derived.Test.YtmhhopccgokglaaGreatUniH
import Derived.Test.YtmhhopccgokglaaGreatCopy
import Derived.Laws.CopyOwn
import Derived.Test.YtmhhopccgokglaaGreatMrkQ
namespace Go.Proofs.YtmhhopccgokglaaGreat
open Go.ChangeShapes Go.WideShapes Go.ChangeAt Go.RowKit

theorem noneSpec (w : World) : Calls Tryz.prog 16 #[] w fun e w' => ∃ ga ka, e = .returned (.agg #[.bool false, .slice ga 0 0, .slice ka 0 0]) ∧ Below w.heap.size w w' := by
  go_enter Tryz.func16, Tryz.ntmps16
  go_wp2_with fail
  refine bodyPost_ret (v := .agg #[.bool false, .slice (some ⟨w.heap.size + 1, 0, none⟩) 0 0, .slice (some ⟨w.heap.size + 1 + 1, 0, none⟩) 0 0]) ?_ rfl ?_
  · simp [results, Tryz.results16, go_sem]
  · exact ⟨_, _, rfl, by go_grown⟩

theorem unit_meth {L : List Cl} {M : List Me} (h : unitB L M = true) {i : Nat} (hi : i < M.length) : methB L M (me M i) = true := by
  unfold unitB at h
  simp only [Bool.and_eq_true, List.all_eq_true] at h
  exact h.1.2 i (List.mem_range.2 hi)
theorem unit_ok {L : List Cl} {M : List Me} (h : unitB L M = true) : clsOk L = true := by
  unfold unitB at h
  simp only [Bool.and_eq_true] at h
  exact h.1.1.1.1
theorem unit_few {L : List Cl} {M : List Me} (h : unitB L M = true) : 1 ≤ M.length ∧ M.length ≤ 4 := by
  unfold unitB inI at h
  simp only [Bool.and_eq_true, decide_eq_true_eq] at h
  have := h.1.1.1.2
  omega
/-- What is told ahead of a method's code, where it is ok. -/
theorem meth_head {L : List Cl} {M : List Me} {c s : Int} {args : List Int} {o lo : Int} {X : List In} {Y : List Sh} {Z : List Ca} (h : methB L M (c, s, args, o, lo, X, Y, Z) = true) : -1 ≤ c ∧ c ≠ 0 ∧ c < L.length ∧ args.length ≤ 2 ∧ selfN c + args.length ≤ lo ∧ lo ≤ 3 ∧ fieldB L.length o = true ∧ args.all (fieldB L.length) = true := by
  unfold methB hdB inI at h
  simp only [Bool.and_eq_true, decide_eq_true_eq, Bool.not_eq_true', beq_eq_false_iff_ne] at h
  obtain ⟨⟨⟨⟨⟨⟨⟨⟨⟨⟨h0, h1, h2⟩, h3⟩, h4⟩, h5, h6⟩, h7, h8⟩, _⟩, _⟩, _⟩, _⟩, _⟩ := h
  exact ⟨h1, h0, by omega, h3, h5, h6, h4, h7⟩

/-- There is such a method. -/
def isU (L : List Cl) (M : List Me) (m : Int) : Bool := unitB L M && inI m 0 ((M.length : Int) - 1)
theorem isUSpec (ca : Option Addr) (cn cc : Nat) (ma : Option Addr) (mn mc : Nat) (m : Int) (L : List Cl) (M : List Me) (w : World) {D E G : Nat → Prop} (h : ClsAt D E w ca cn L) (hM : SlAt meR G w ma mn M) :
    Calls Tryz.prog 15 #[.agg #[.slice ca cn cc, .slice ma mn mc], .int .i64 m] w fun e w' => e = .returned (.bool (isU L M m)) ∧ Below w.heap.size w w' := by
  have H : Hid (ClsAt D E w ca cn L) := h
  have HM : Hid (SlAt meR G w ma mn M) := hM
  have HF : Hid (isU L M m = (unitB L M && (decide (0 ≤ m) && decide (m ≤ (mn : Int) - 1)))) := by show _ = _; rw [isU, hM.size, inI]
  have hmr := hM.room
  have KC : Hid (∀ x : World, Below (w.heap.size + 1) (w.alloc (.cells #[.slice ca cn cc, .slice ma mn mc] 34)) x → x.cell? ⟨w.heap.size, 0, none⟩ = some (.slice ca cn cc) ∧ x.cell? ⟨w.heap.size, 1, none⟩ = some (.slice ma mn mc)) := fun x hb => ⟨box_cell hb 0 _ rfl, box_cell hb 1 _ rfl⟩
  have B0 : Hid (Below w.heap.size w (w.alloc (.cells #[.slice ca cn cc, .slice ma mn mc] 34))) := (Below.refl _ _).alloc (Nat.le_refl _) _
  clear h hM
  go_enter Tryz.func15, Tryz.ntmps15
  go_wp2_with fail
  refine (unitSpec _ _ _ _ _ _ L M _ (H.out.later B0.out) (HM.out.later B0.out)).mono ?_
  rintro e w1 ⟨rfl, hb1⟩
  have B1 : Hid (Below (w.heap.size + 1) (w.alloc (.cells #[.slice ca cn cc, .slice ma mn mc] 34)) w1) := by show Below _ _ _; simpa using hb1
  obtain ⟨p0, p1⟩ := KC.out w1 B1.out
  clear hb1
  cases g1 : unitB L M
  · go_wp2_with fail
    go_ret
    exact ⟨by rw [HF.out, g1]; rfl, box_below B1.out⟩
  go_wp2_with fail
  refine (inSpec _ _ _ _).mono ?_
  rintro e w2 ⟨rfl, rfl⟩
  go_wp2_with fail
  go_ret
  exact ⟨by rw [HF.out, g1]; rfl, box_below B1.out⟩

def startV (L : List Cl) (M : List Me) (m : Int) : Sh := if isU L M m then (true, stL (me M m.toNat).1 (me M m.toNat).2.2.1 (me M m.toNat).2.2.2.2.1, []) else (false, [], [])
theorem isU_nat {L : List Cl} {M : List Me} {m : Int} (h : isU L M m = true) : unitB L M = true ∧ ∃ i : Nat, m = i ∧ i < M.length := by
  unfold isU inI at h
  simp only [Bool.and_eq_true, decide_eq_true_eq] at h
  exact ⟨h.1, m.toNat, by omega, by omega⟩
/-- A shape is laid into the block Z; lists that lie elsewhere stay. -/
theorem IntsAt.laid {D : Nat → Prop} {w : World} {a : Option Addr} {n : Nat} {xs : List Int} (h : IntsAt D w a n xs) (Z : Nat) (hZ : ¬ D Z) (x y z : Value) : IntsAt D (((w.setCell ⟨Z, 0, none⟩ x).setCell ⟨Z, 1, none⟩ y).setCell ⟨Z, 2, none⟩ z) a n xs :=
  h.keep fun b o hb _ => by
    have e : b ≠ Z := fun e => hZ (by rw [← e]; exact hb)
    rw [World.cell?_setCell_other _ _ _ _ (by intro q; exact e (congrArg Addr.block q).symm), World.cell?_setCell_other _ _ _ _ (by intro q; exact e (congrArg Addr.block q).symm), World.cell?_setCell_other _ _ _ _ (by intro q; exact e (congrArg Addr.block q).symm)]

set_option maxRecDepth 100000 in
set_option maxHeartbeats 4000000 in
theorem shapeStartSpec (ca : Option Addr) (cn cc : Nat) (ma : Option Addr) (mn mc : Nat) (m : Int) (L : List Cl) (M : List Me) (w : World) {D E G : Nat → Prop} (h : ClsAt D E w ca cn L) (hM : SlAt meR G w ma mn M) :
    Calls Tryz.prog 5 #[.agg #[.slice ca cn cc, .slice ma mn mc], .int .i64 m] w fun e w' => ∃ ga n gc ka, e = .returned (.agg #[.bool (startV L M m).1, .slice ga n gc, .slice ka 0 0]) ∧ IntsAt (fun b => w.heap.size ≤ b) w' ga n (startV L M m).2.1 ∧ Below w.heap.size w w' := by
  have H : Hid (ClsAt D E w ca cn L) := h
  have HM : Hid (SlAt meR G w ma mn M) := hM
  have MS : Hid (M.length = mn) := hM.size
  have HCS : Hid (L.length = cn) := h.size
  have hmr := hM.room
  obtain ⟨mb, mo, hmb⟩ := meBlock hM
  have KB : Hid (∀ x : World, Below (w.heap.size + 1 + 1) ((w.alloc (.cells #[.slice ca cn cc, .slice ma mn mc] 34)).alloc (.cells #[.bool false, .slice none 0 0, .slice none 0 0] 29)) x → x.cell? ⟨w.heap.size, 0, none⟩ = some (.slice ca cn cc) ∧ x.cell? ⟨w.heap.size, 1, none⟩ = some (.slice ma mn mc) ∧ x.cell? ⟨w.heap.size + 1, 0, none⟩ = some (.bool false) ∧ x.cell? ⟨w.heap.size + 1, 1, none⟩ = some (.slice none 0 0) ∧ x.cell? ⟨w.heap.size + 1, 2, none⟩ = some (.slice none 0 0) ∧ x.frozen? ⟨w.heap.size + 1, 0, none⟩ = false ∧ x.frozen? ⟨w.heap.size + 1, 1, none⟩ = false ∧ x.frozen? ⟨w.heap.size + 1, 2, none⟩ = false) := fun x hb => by
    have hf : ∀ j, x.frozen? ⟨w.heap.size + 1, j, none⟩ = false := fun j => by rw [hb.frozen (p := ⟨w.heap.size + 1, j, none⟩) (by simp)]; exact World.frozen?_alloc_at _ _ _ _ (by simp)
    exact ⟨later2 hb (two_first rfl), later2 hb (two_first rfl), later2 hb (two_second rfl), later2 hb (two_second rfl), later2 hb (two_second rfl), hf 0, hf 1, hf 2⟩
  have B0 : Hid (Below w.heap.size w ((w.alloc (.cells #[.slice ca cn cc, .slice ma mn mc] 34)).alloc (.cells #[.bool false, .slice none 0 0, .slice none 0 0] 29))) := ((Below.refl _ _).alloc (Nat.le_refl _) _).alloc (by simp) _
  clear h hM
  go_enter Tryz.func5, Tryz.ntmps5
  go_wp2_with fail
  refine (isUSpec _ _ _ _ _ _ _ L M _ (H.out.later B0.out) (HM.out.later B0.out)).mono ?_
  rintro e w1 ⟨rfl, hb1⟩
  have B1 : Hid (Below (w.heap.size + 1 + 1) ((w.alloc (.cells #[.slice ca cn cc, .slice ma mn mc] 34)).alloc (.cells #[.bool false, .slice none 0 0, .slice none 0 0] 29)) w1) := by show Below _ _ _; simpa using hb1
  have Z1 : w.heap.size + 1 + 1 ≤ w1.heap.size := sz2 B1.out
  obtain ⟨p0, p1, _⟩ := KB.out w1 B1.out
  clear hb1
  cases g1 : isU L M m
  · have HV : Hid (startV L M m = (false, [], [])) := by show _ = _; rw [startV, g1]; rfl
    go_wp2_with fail
    refine (noneSpec _).mono ?_
    rintro e w2 ⟨ga, ka, rfl, hb2⟩
    have B2 : Hid (Below (w.heap.size + 1 + 1) ((w.alloc (.cells #[.slice ca cn cc, .slice ma mn mc] 34)).alloc (.cells #[.bool false, .slice none 0 0, .slice none 0 0] 29)) w2) := B1.out.trans (hb2.mono Z1)
    clear hb2 p0 p1
    obtain ⟨p0, p1, q0, q1, q2, f0, f1, f2⟩ := KB.out w2 B2.out
    go_wp2_with fail
    refine bodyPost_ret (v := .agg #[.bool false, .slice ga 0 0, .slice ka 0 0]) ?_ rfl ?_
    · simp [results, Tryz.results5, go_sem, *]
    · rw [HV.out]
      exact ⟨_, _, _, _, rfl, ⟨rfl, by omega, .inl rfl, fun j => by simp⟩, (((below2 B2.out).setCell (by simp) _).setCell (by simp) _).setCell (by simp) _⟩
  obtain ⟨hU, i, rfl, hi⟩ := isU_nat g1
  rw [MS.out] at hi
  obtain ⟨rfl, hmb'⟩ := hmb (by omega)
  clear hmb
  obtain ⟨c, s, args, o, lo, X, Y, Z, aa, al, ac, da, dl, dc, sa, sl, sc, ha, hl, hc, MX, x0, x1, x2, x3, x4, x5, x6, x7⟩ := meAt (HM.out.later (below2 B1.out)) i hi
  have HV : Hid (startV L M i = (true, stL c args lo, [])) := by show _ = _; rw [startV, g1, Int.toNat_natCast, MX.is]; rfl
  have hmt := unit_meth hU (i := i) (by rw [MS.out]; exact hi)
  rw [MX.is] at hmt
  obtain ⟨h1, _, h2, h3, _, h4, _, _⟩ := meth_head hmt
  have h5 := (ok_len (unit_ok hU)).2
  have SA : Hid (IntsAt G w1 aa al args) := MX.args.ints
  have hal : al ≤ 2 := by rw [← MX.args.size]; exact h3
  clear MX hmt
  have hltI : (i : Int) < (mn : Int) := by omega
  go_wp2_with fail
  refine (startSpec _ _ _ _ _ _ _ _ _ _ _ _ _ _ _ _ args _ SA.out (by omega) ⟨by omega, by omega⟩ (by omega)).mono ?_
  rintro e w2 ⟨ga, n, gc, ka, rfl, hS, hb2⟩
  have B2 : Hid (Below (w.heap.size + 1 + 1) ((w.alloc (.cells #[.slice ca cn cc, .slice (some ⟨mb, mo, none⟩) mn mc] 34)).alloc (.cells #[.bool false, .slice none 0 0, .slice none 0 0] 29)) w2) := B1.out.trans (hb2.mono Z1)
  have hst : (stL c args lo).length ≤ 1000 := by
    unfold stL givL
    rw [List.length_append, List.length_replicate, List.length_append]
    by_cases e : 0 ≤ c
    · rw [if_pos e]; simp; omega
    · rw [if_neg e]; simp; omega
  have S2 : Hid (IntsAt (fun b => w1.heap.size ≤ b) w2 ga n (stL c args lo)) := (own_at hS.loc (by rw [← hS.ul]; omega) hS.fu).1
  clear hb2 p0 p1 hS x0 x1 x2 x3 x4 x5 x6 x7
  obtain ⟨p0, p1, q0, q1, q2, f0, f1, f2⟩ := KB.out w2 B2.out
  go_wp2_with fail
  refine bodyPost_ret (v := .agg #[.bool true, .slice ga n gc, .slice ka 0 0]) ?_ rfl ?_
  · simp [results, Tryz.results5, go_sem, *]
  · rw [HV.out]
    exact ⟨_, _, _, _, rfl, IntsAt.mono (S2.out.laid (w.heap.size + 1) (by omega) _ _ _) (fun b hb _ => by omega), (((below2 B2.out).setCell (by simp) _).setCell (by simp) _).setCell (by simp) _⟩

end Go.Proofs.YtmhhopccgokglaaGreat
namespace Go.Proofs.YtmhhopccgokglaaGreat
open Go.ChangeShapes Go.WideShapes Go.ChangeAt Go.RowKit

theorem below_drew {B : Nat} {a w : World} (h : Below B a w) : Below B a w.drew := h.trans ⟨rfl, rfl, rfl, Nat.le_refl _, fun _ _ => rfl⟩
/-- What passingOf answers. -/
def PassP (ca : Option Addr) (cn cc : Nat) (ma : Option Addr) (mn mc : Nat) (m : Int) (L : List Cl) (M : List Me) (G : Nat → Prop) (w : World) (e : Ending) : Prop :=
  (isU L M m = false ∧ e = .returned (.tuple #[.agg #[.slice none 0 0, .slice none 0 0, .slice none 0 0, .int .i64 0, .int .i64 0, .slice none 0 0, .int .i64 0, .int .i64 0, .slice none 0 0, .slice none 0 0, .slice none 0 0], .bool false])) ∨
  (isU L M m = true ∧ ∃ i : Nat, m = i ∧ i < mn ∧ unitB L M = true ∧ ∃ c s args o lo X Y Z aa al ac da dl dc sa sl sc ha hl hc, MeAt G w (me M i) c s args o lo X Y Z aa al da dl sa sl ha hl ∧ methB L M (c, s, args, o, lo, X, Y, Z) = true ∧ e = .returned (.tuple #[.agg #[.slice ca cn cc, .slice ma mn mc, .slice ca cn cc, .int .i64 c, .int .i64 s, .slice aa al ac, .int .i64 o, .int .i64 lo, .slice da dl dc, .slice sa sl sc, .slice ha hl hc], .bool true]))
set_option maxRecDepth 100000 in
set_option maxHeartbeats 4000000 in
theorem passingImpl (ca : Option Addr) (cn cc : Nat) (ma : Option Addr) (mn mc : Nat) (m : Int) (L : List Cl) (M : List Me) (w : World) {D E G : Nat → Prop} (h : ClsAt D E w ca cn L) (hM : SlAt meR G w ma mn M) (hmc : mn ≤ mc) :
    Calls Tryz.prog 20 #[.agg #[.slice ca cn cc, .slice ma mn mc], .int .i64 m] w fun e w' => PassP ca cn cc ma mn mc m L M G w e ∧ Below w.heap.size w w' := by
  have H : Hid (ClsAt D E w ca cn L) := h
  have HM : Hid (SlAt meR G w ma mn M) := hM
  have MS : Hid (M.length = mn) := hM.size
  have HF : Hid (isU L M m = (unitB L M && (decide (0 ≤ m) && decide (m < (mn : Int))))) := by
    show _ = _
    rw [isU, hM.size, inI]
    congr 2
    rw [decide_eq_decide]; omega
  have hmr := hM.room
  obtain ⟨mb, mo, hmb⟩ := meBlock hM
  have KB : Hid (∀ x : World, Below (w.heap.size + 1 + 1) ((w.alloc (.cells #[.slice ca cn cc, .slice ma mn mc] 34)).alloc (.cells #[.slice none 0 0, .slice none 0 0, .slice none 0 0, .int .i64 0, .int .i64 0, .slice none 0 0, .int .i64 0, .int .i64 0, .slice none 0 0, .slice none 0 0, .slice none 0 0] 55)) x → x.cell? ⟨w.heap.size, 0, none⟩ = some (.slice ca cn cc) ∧ x.cell? ⟨w.heap.size, 1, none⟩ = some (.slice ma mn mc) ∧ x.cell? ⟨w.heap.size + 1, 0, none⟩ = some (.slice none 0 0) ∧ x.cell? ⟨w.heap.size + 1, 1, none⟩ = some (.slice none 0 0) ∧ x.cell? ⟨w.heap.size + 1, 2, none⟩ = some (.slice none 0 0) ∧ x.cell? ⟨w.heap.size + 1, 3, none⟩ = some (.int .i64 0) ∧ x.cell? ⟨w.heap.size + 1, 4, none⟩ = some (.int .i64 0) ∧ x.cell? ⟨w.heap.size + 1, 5, none⟩ = some (.slice none 0 0) ∧ x.cell? ⟨w.heap.size + 1, 6, none⟩ = some (.int .i64 0) ∧ x.cell? ⟨w.heap.size + 1, 7, none⟩ = some (.int .i64 0) ∧ x.cell? ⟨w.heap.size + 1, 8, none⟩ = some (.slice none 0 0) ∧ x.cell? ⟨w.heap.size + 1, 9, none⟩ = some (.slice none 0 0) ∧ x.cell? ⟨w.heap.size + 1, 10, none⟩ = some (.slice none 0 0) ∧ x.frozen? ⟨w.heap.size + 1, 0, none⟩ = false ∧ x.frozen? ⟨w.heap.size + 1, 1, none⟩ = false ∧ x.frozen? ⟨w.heap.size + 1, 2, none⟩ = false ∧ x.frozen? ⟨w.heap.size + 1, 3, none⟩ = false ∧ x.frozen? ⟨w.heap.size + 1, 4, none⟩ = false ∧ x.frozen? ⟨w.heap.size + 1, 5, none⟩ = false ∧ x.frozen? ⟨w.heap.size + 1, 6, none⟩ = false ∧ x.frozen? ⟨w.heap.size + 1, 7, none⟩ = false ∧ x.frozen? ⟨w.heap.size + 1, 8, none⟩ = false ∧ x.frozen? ⟨w.heap.size + 1, 9, none⟩ = false ∧ x.frozen? ⟨w.heap.size + 1, 10, none⟩ = false) := fun x hb => by
    have hf : ∀ j, x.frozen? ⟨w.heap.size + 1, j, none⟩ = false := fun j => by rw [hb.frozen (p := ⟨w.heap.size + 1, j, none⟩) (by simp)]; exact World.frozen?_alloc_at _ _ _ _ (by simp)
    exact ⟨later2 hb (two_first rfl), later2 hb (two_first rfl), later2 hb (two_second rfl), later2 hb (two_second rfl), later2 hb (two_second rfl), later2 hb (two_second rfl), later2 hb (two_second rfl), later2 hb (two_second rfl), later2 hb (two_second rfl), later2 hb (two_second rfl), later2 hb (two_second rfl), later2 hb (two_second rfl), later2 hb (two_second rfl), hf 0, hf 1, hf 2, hf 3, hf 4, hf 5, hf 6, hf 7, hf 8, hf 9, hf 10⟩
  have B0 : Hid (Below w.heap.size w ((w.alloc (.cells #[.slice ca cn cc, .slice ma mn mc] 34)).alloc (.cells #[.slice none 0 0, .slice none 0 0, .slice none 0 0, .int .i64 0, .int .i64 0, .slice none 0 0, .int .i64 0, .int .i64 0, .slice none 0 0, .slice none 0 0, .slice none 0 0] 55))) := ((Below.refl _ _).alloc (Nat.le_refl _) _).alloc (by simp) _
  clear h hM
  go_enter Tryz.func20, Tryz.ntmps20
  go_wp2_with fail
  refine (unitImpl _ _ _ _ _ _ L M _ (H.out.later B0.out) (HM.out.later B0.out) hmc).mono ?_
  rintro e w1 ⟨rfl, hb1⟩
  have B1 : Hid (Below (w.heap.size + 1 + 1) ((w.alloc (.cells #[.slice ca cn cc, .slice ma mn mc] 34)).alloc (.cells #[.slice none 0 0, .slice none 0 0, .slice none 0 0, .int .i64 0, .int .i64 0, .slice none 0 0, .int .i64 0, .int .i64 0, .slice none 0 0, .slice none 0 0, .slice none 0 0] 55)) w1) := by show Below _ _ _; simpa using hb1
  have Z1 : w.heap.size + 1 + 1 ≤ w1.heap.size := sz2 B1.out
  obtain ⟨p0, p1, q0, q1, q2, q3, q4, q5, q6, q7, q8, q9, q10, f0, f1, f2, f3, f4, f5, f6, f7, f8, f9, f10⟩ := KB.out w1 B1.out
  clear hb1
  have FIN : Hid (∀ x, isU L M m = x → x = false → isU L M m = false) := fun x h1 h2 => h1.trans h2
  cases g1 : unitB L M
  · go_wp2_with fail
    refine bodyPost_ret (v := .tuple #[.agg #[.slice none 0 0, .slice none 0 0, .slice none 0 0, .int .i64 0, .int .i64 0, .slice none 0 0, .int .i64 0, .int .i64 0, .slice none 0 0, .slice none 0 0, .slice none 0 0], .bool false]) ?_ rfl ?_
    · simp [results, Tryz.results20, go_sem, *]
    · exact ⟨.inl ⟨by rw [HF.out, g1]; rfl, rfl⟩, by (repeat (refine Below.setCell ?_ (by simp) _)); exact below2 B1.out⟩
  go_wp2_with fail
  refine (placeImpl _ _ _).mono ?_
  rintro e w2 ⟨rfl, rfl⟩
  cases g2 : (decide (0 ≤ m) && decide (m < (mn : Int)))
  · go_wp2_with fail
    refine bodyPost_ret (v := .tuple #[.agg #[.slice none 0 0, .slice none 0 0, .slice none 0 0, .int .i64 0, .int .i64 0, .slice none 0 0, .int .i64 0, .int .i64 0, .slice none 0 0, .slice none 0 0, .slice none 0 0], .bool false]) ?_ rfl ?_
    · simp [results, Tryz.results20, go_sem, *]
    · exact ⟨.inl ⟨by rw [HF.out, g1, g2]; rfl, rfl⟩, by (repeat (refine Below.setCell ?_ (by simp) _)); exact below2 B1.out⟩
  obtain ⟨i, rfl, hi⟩ : ∃ i : Nat, m = i ∧ i < mn := ⟨m.toNat, by simp at g2; omega, by simp at g2; omega⟩
  obtain ⟨rfl, hmb'⟩ := hmb (by omega)
  clear hmb
  obtain ⟨c, s, args, o, lo, X, Y, Z, aa, al, ac, da, dl, dc, sa, sl, sc, ha, hl, hc, MX, x0, x1, x2, x3, x4, x5, x6, x7⟩ := meAt HM.out i hi
  have MM : Hid (MeAt G w (me M i) c s args o lo X Y Z aa al da dl sa sl ha hl) := MX
  have MT : Hid (methB L M (c, s, args, o, lo, X, Y, Z) = true) := by show _ = _; rw [← MX.is]; exact unit_meth g1 (by rw [MS.out]; exact hi)
  have KX : Hid (∀ x : World, Below w.heap.size w x → x.cell? ⟨mb, mo + i * 8, none⟩ = some (.int .i64 c) ∧ x.cell? ⟨mb, mo + i * 8 + 1, none⟩ = some (.int .i64 s) ∧ x.cell? ⟨mb, mo + i * 8 + 2, none⟩ = some (.slice aa al ac) ∧ x.cell? ⟨mb, mo + i * 8 + 3, none⟩ = some (.int .i64 o) ∧ x.cell? ⟨mb, mo + i * 8 + 4, none⟩ = some (.int .i64 lo) ∧ x.cell? ⟨mb, mo + i * 8 + 5, none⟩ = some (.slice da dl dc) ∧ x.cell? ⟨mb, mo + i * 8 + 6, none⟩ = some (.slice sa sl sc) ∧ x.cell? ⟨mb, mo + i * 8 + 7, none⟩ = some (.slice ha hl hc)) := fun x hb => ⟨by rw [hb.cell (p := ⟨mb, mo + i * 8, none⟩) hmb']; exact x0, by rw [hb.cell (p := ⟨mb, mo + i * 8 + 1, none⟩) hmb']; exact x1, by rw [hb.cell (p := ⟨mb, mo + i * 8 + 2, none⟩) hmb']; exact x2, by rw [hb.cell (p := ⟨mb, mo + i * 8 + 3, none⟩) hmb']; exact x3, by rw [hb.cell (p := ⟨mb, mo + i * 8 + 4, none⟩) hmb']; exact x4, by rw [hb.cell (p := ⟨mb, mo + i * 8 + 5, none⟩) hmb']; exact x5, by rw [hb.cell (p := ⟨mb, mo + i * 8 + 6, none⟩) hmb']; exact x6, by rw [hb.cell (p := ⟨mb, mo + i * 8 + 7, none⟩) hmb']; exact x7⟩
  obtain ⟨y0, y1, y2, y3, y4, y5, y6, y7⟩ := KX.out w1 (below2 B1.out)
  clear MX x0 x1 x2 x3 x4 x5 x6 x7
  have hltI : (i : Int) < (mn : Int) := by omega
  have HU : Hid (isU L M i = true) := by show _ = _; rw [HF.out, g1, g2]; rfl
  have PP : Hid (PassP ca cn cc (some ⟨mb, mo, none⟩) mn mc i L M G w (.returned (.tuple #[.agg #[.slice ca cn cc, .slice (some ⟨mb, mo, none⟩) mn mc, .slice ca cn cc, .int .i64 c, .int .i64 s, .slice aa al ac, .int .i64 o, .int .i64 lo, .slice da dl dc, .slice sa sl sc, .slice ha hl hc], .bool true]))) := .inr ⟨HU.out, i, rfl, hi, g1, c, s, args, o, lo, X, Y, Z, aa, al, ac, da, dl, dc, sa, sl, sc, ha, hl, hc, MM.out, MT.out, rfl⟩
  go_wp2_with fail
  go_region
  go_wp2_with fail
  refine bodyPost_ret (v := .tuple #[.agg #[.slice ca cn cc, .slice (some ⟨mb, mo, none⟩) mn mc, .slice ca cn cc, .int .i64 c, .int .i64 s, .slice aa al ac, .int .i64 o, .int .i64 lo, .slice da dl dc, .slice sa sl sc, .slice ha hl hc], .bool true]) ?_ rfl ?_
  · simp [results, Tryz.results20, go_sem, q0, q1, q2, q3, q4, q5, q6, q7, q8, q9, q10]
  · refine ⟨PP.out, below_drew ?_⟩
    (repeat (refine Below.setCell ?_ (by simp) _))
    exact below2 B1.out

end Go.Proofs.YtmhhopccgokglaaGreat
namespace Go.Proofs.YtmhhopccgokglaaGreat
open Go.ChangeShapes Go.WideShapes Go.ChangeAt Go.RowKit

theorem info_one : (Tryz.prog.info? 3).map (·.size) = some 1 := by kernel_rfl
theorem made_list (lo : Nat) : (madeCells #[.int .i64 0] lo).toList = List.replicate lo (.int .i64 0) := by
  apply List.ext_getElem?
  intro i
  by_cases h : i < lo
  · simp [madeCells, h, Nat.mod_one]
  · simp [madeCells, h]
theorem made_at (w : World) (z : Array Value) (n : Nat) : (w.alloc (.cells (madeCells z n) 3)).heap[w.heap.size]? = some (.cells (madeCells z n).toList.toArray 3 (0, 0)) := by
  rw [Array.toArray_toList]
  exact (MapKept.heap_alloc w _).1
theorem own_src {w : World} {base n c lo : Nat} {a : Option Addr} {xs : List Int} {GS : List Value} {z : Array Value} (h : w.ownsRow base 3 1 (.slice a n c) n (xs.map (Value.int .i64))) (hG : GS = xs.map (Value.int .i64)) (hp : 0 < GS.length) : ∃ ad, a = some ad ∧ ∀ j v, GS[j]? = some v → (w.alloc (.cells (madeCells z lo) 3)).cell? (ad.add j) = some v := by
  have hlen : xs.length = n := by have := h.1; simpa using this
  rcases h.2 with ⟨e, h0⟩ | ⟨g, cap, cur, e, hb, hg, _⟩
  · rw [hG, List.length_map] at hp; omega
  · cases e
    refine ⟨_, rfl, fun j v hv => ?_⟩
    have hj : j < n := by have := (List.getElem?_eq_some_iff.1 hv).1; rw [hG, List.length_map] at this; omega
    have hc := h.cellAt j (by omega)
    have hcell : w.cell? ⟨g, j, none⟩ = some v := by rw [hc, ← hG]; exact hv
    have hlt : g < w.heap.size := World.block_lt_of_cell? w _ hcell
    rw [Addr.add_lit, Nat.zero_add, World.cell?_alloc_past _ _ _ hlt]
    exact hcell
theorem start_row (c : Int) (args : List Int) (lo : Nat) {gv : List Int} (he : givL c args = gv) : (splice (madeCells #[.int .i64 0] lo).toList 0 (gv.map (Value.int .i64))).toArray = ((stL c args lo).map (Value.int .i64)).toArray := by
  rw [made_list, splice, stL, he, Int.toNat_natCast]
  simp [List.drop_replicate]

/-- 'copy' into a row that was made anew. -/
theorem copy_run {w w0 : World} {B g n lo sc : Nat} {sp : Option Addr} {cs : List Value} (hcs : cs.length = n) (hle : n ≤ lo) (hg : w.heap[g]? = some (.cells (madeCells #[.int .i64 0] lo) 3 (0, 0)))
    (hsrc : 0 < cs.length → ∃ ad, sp = some ad ∧ ∀ j v, cs[j]? = some v → w.cell? (ad.add j) = some v) (h1 : ∀ v ∈ cs, v.oneCell' = true) (hb : Below B w0 w) (hBg : B ≤ g) :
    ∃ w4, (Builtin.copy_ #[27, 27] 3 #[.slice (some ⟨g, 0, none⟩) lo lo, .slice sp n sc]).run Tryz.prog w = .ok (goInt n) w4 ∧ w4.heap[g]? = some (.cells (splice (madeCells #[.int .i64 0] lo).toList 0 cs).toArray 3 (0, 0)) ∧ Below B w0 w4 := by
  by_cases h0 : cs.length = 0
  · obtain rfl : cs = [] := List.eq_nil_of_length_eq_zero h0
    obtain rfl : n = 0 := by rw [← hcs]; rfl
    exact ⟨w, run_copy_none (P := Tryz.prog) w _ _ _ 3 _ _ _ _ _ _ Tryz.underlying27 info_one (Nat.min_eq_left (by omega)), by simpa [splice] using hg, hb⟩
  · obtain ⟨ad, rfl, hs⟩ := hsrc (by omega)
    have hr := run_copy_row (P := Tryz.prog) w 27 27 3 3 g 0 lo lo ad n sc _ 3 cs Tryz.underlying27 info_one hg (by rw [hcs]; exact (Nat.min_eq_left hle).symm) hs (by rw [size_madeCells]; omega) h1
    rw [hcs] at hr
    refine ⟨_, hr, ?_, below_setRow hb hBg _⟩
    rw [setRow_heap w g _ _ 3 _ hg]
    simp [splice, hcs]

set_option maxRecDepth 100000 in
set_option maxHeartbeats 4000000 in
theorem startImpl (ca : Option Addr) (cn cc : Nat) (ma : Option Addr) (mn mc : Nat) (c s o : Int) (lo : Nat) (aa : Option Addr) (al ac : Nat) (da : Option Addr) (dl dc : Nat) (sa : Option Addr) (sl sc : Nat) (ha : Option Addr) (hl hc : Nat) (args : List Int) (w : World) {D : Nat → Prop} (hA : IntsAt D w aa al args) (hal : al ≤ 2) (hc0 : -1 ≤ c ∧ c ≤ 1000) (hs : selfN c + al ≤ lo) (hlo : lo ≤ 3) :
    Calls Tryz.prog 21 #[.agg #[.slice ca cn cc, .slice ma mn mc, .slice ca cn cc, .int .i64 c, .int .i64 s, .slice aa al ac, .int .i64 o, .int .i64 lo, .slice da dl dc, .slice sa sl sc, .slice ha hl hc]] w fun e w' => ∃ g, e = .returned (.agg #[.bool true, .slice (some ⟨g, 0, none⟩) lo lo, .slice none 0 0]) ∧ w.heap.size ≤ g ∧ w'.heap[g]? = some (.cells ((stL c args lo).map (Value.int .i64)).toArray 3 (0, 0)) ∧ Below w.heap.size w w' := by
  have HA : Hid (IntsAt D w aa al args) := hA
  have SA : Hid (args.length = al) := hA.size
  have hmk := fun wx => run_make_row' (P := Tryz.prog) 27 3 (.int .i64 0) 8 Tryz.underlying27 info_int rfl .i64 .i64 lo (by omega) (by omega) wx
  have KB : Hid (∀ x : World, Below (w.heap.size + 1 + 1) ((w.alloc (.cells #[.slice ca cn cc, .slice ma mn mc, .slice ca cn cc, .int .i64 c, .int .i64 s, .slice aa al ac, .int .i64 o, .int .i64 lo, .slice da dl dc, .slice sa sl sc, .slice ha hl hc] 55)).alloc (.cells #[.bool false, .slice none 0 0, .slice none 0 0] 29)) x → x.cell? ⟨w.heap.size, 3, none⟩ = some (.int .i64 c) ∧ x.cell? ⟨w.heap.size, 5, none⟩ = some (.slice aa al ac) ∧ x.cell? ⟨w.heap.size, 7, none⟩ = some (.int .i64 lo) ∧ x.cell? ⟨w.heap.size + 1, 0, none⟩ = some (.bool false) ∧ x.cell? ⟨w.heap.size + 1, 1, none⟩ = some (.slice none 0 0) ∧ x.cell? ⟨w.heap.size + 1, 2, none⟩ = some (.slice none 0 0) ∧ x.frozen? ⟨w.heap.size + 1, 0, none⟩ = false ∧ x.frozen? ⟨w.heap.size + 1, 1, none⟩ = false ∧ x.frozen? ⟨w.heap.size + 1, 2, none⟩ = false) := fun x hb => by
    have hf : ∀ j, x.frozen? ⟨w.heap.size + 1, j, none⟩ = false := fun j => by rw [hb.frozen (p := ⟨w.heap.size + 1, j, none⟩) (by simp)]; exact World.frozen?_alloc_at _ _ _ _ (by simp)
    exact ⟨later2 hb (two_first rfl), later2 hb (two_first rfl), later2 hb (two_first rfl), later2 hb (two_second rfl), later2 hb (two_second rfl), later2 hb (two_second rfl), hf 0, hf 1, hf 2⟩
  have B0 : Hid (Below w.heap.size w ((w.alloc (.cells #[.slice ca cn cc, .slice ma mn mc, .slice ca cn cc, .int .i64 c, .int .i64 s, .slice aa al ac, .int .i64 o, .int .i64 lo, .slice da dl dc, .slice sa sl sc, .slice ha hl hc] 55)).alloc (.cells #[.bool false, .slice none 0 0, .slice none 0 0] 29))) := ((Below.refl _ _).alloc (Nat.le_refl _) _).alloc (by simp) _
  have D0 : Hid (Below (w.heap.size + 1 + 1) ((w.alloc (.cells #[.slice ca cn cc, .slice ma mn mc, .slice ca cn cc, .int .i64 c, .int .i64 s, .slice aa al ac, .int .i64 o, .int .i64 lo, .slice da dl dc, .slice sa sl sc, .slice ha hl hc] 55)).alloc (.cells #[.bool false, .slice none 0 0, .slice none 0 0] 29)) ((w.alloc (.cells #[.slice ca cn cc, .slice ma mn mc, .slice ca cn cc, .int .i64 c, .int .i64 s, .slice aa al ac, .int .i64 o, .int .i64 lo, .slice da dl dc, .slice sa sl sc, .slice ha hl hc] 55)).alloc (.cells #[.bool false, .slice none 0 0, .slice none 0 0] 29))) := Below.refl _ _
  clear hA
  by_cases hcn : c = -1
  · have e1 : (c != -1) = false := by simp [hcn]
    have HC : Hid (¬ 0 ≤ c) := by show ¬ _; omega
    clear hcn
    have hle : al ≤ lo := by rw [selfN, if_neg HC.out] at hs; omega
    obtain ⟨GS, hGS⟩ : ∃ GS, GS = args.map (Value.int .i64) := ⟨_, rfl⟩
    have GE : Hid (GS = args.map (Value.int .i64)) := hGS
    have rfl_len : GS.length = al := by rw [hGS, List.length_map]; simp [SA.out]
    have h1_here : ∀ v ∈ GS, v.oneCell' = true := by rw [hGS]; exact ints_one _
    clear hGS
    have RL : Hid (GS.length = al) := rfl_len
    have R1 : Hid (∀ v ∈ GS, v.oneCell' = true) := h1_here
    clear rfl_len h1_here
    go_enter Tryz.func21, Tryz.ntmps21
    go_wp2_with (first
    | (at_builtin
       refine list_app rfl _ _ rfl (w.heap.size + 1 + 1) (.slice none 0 0) 0 [] rfl (World.ownsRow_nil _ _ _ _) _ _ _ rfl args (HA.out.later B0.out) (by omega) (by omega) (by simp) ?_
       intro a3 c3 w3 hown3 hgrow3 hloc3
       simp only [Nat.zero_add, List.nil_append] at hown3 ⊢
       have D3 : Hid (Below (w.heap.size + 1 + 1) ((w.alloc (.cells #[.slice ca cn cc, .slice ma mn mc, .slice ca cn cc, .int .i64 c, .int .i64 s, .slice aa al ac, .int .i64 o, .int .i64 lo, .slice da dl dc, .slice sa sl sc, .slice ha hl hc] 55)).alloc (.cells #[.bool false, .slice none 0 0, .slice none 0 0] 29)) w3) := D0.out.grown hgrow3 (by simp) (fun j e => by simp [Value.ownBlock] at e)
       have O3 : Hid (w3.ownsRow (w.heap.size + 1 + 1) 3 1 (.slice a3 al c3) al (args.map (Value.int .i64))) := hown3
       obtain ⟨p3, p5, p7, q0, q1, q2, f0, f1, f2⟩ := KB.out w3 D3.out
       clear hown3 hgrow3 hloc3))
    obtain ⟨w4, hrun4, hg4, hb4⟩ := copy_run (w := w3.alloc (.cells (madeCells #[.int .i64 0] lo) 3)) (w0 := ((w.alloc (.cells #[.slice ca cn cc, .slice ma mn mc, .slice ca cn cc, .int .i64 c, .int .i64 s, .slice aa al ac, .int .i64 o, .int .i64 lo, .slice da dl dc, .slice sa sl sc, .slice ha hl hc] 55)).alloc (.cells #[.bool false, .slice none 0 0, .slice none 0 0] 29))) (B := (w.heap.size + 1 + 1)) (g := w3.heap.size) (sc := c3) RL.out hle (MapKept.heap_alloc w3 _).1 (fun hp => own_src O3.out GE.out hp) R1.out (D3.out.alloc (sz2 D3.out) _) (sz2 D3.out)
    have D4 : Hid (Below (w.heap.size + 1 + 1) ((w.alloc (.cells #[.slice ca cn cc, .slice ma mn mc, .slice ca cn cc, .int .i64 c, .int .i64 s, .slice aa al ac, .int .i64 o, .int .i64 lo, .slice da dl dc, .slice sa sl sc, .slice ha hl hc] 55)).alloc (.cells #[.bool false, .slice none 0 0, .slice none 0 0] 29)) w4) := hb4
    have G4 : Hid (w4.heap[w3.heap.size]? = some (.cells (splice (madeCells #[.int .i64 0] lo).toList 0 GS).toArray 3 (0, 0))) := hg4
    clear p3 p5 p7 q0 q1 q2 f0 f1 f2 hb4 hg4
    obtain ⟨p3, p5, p7, q0, q1, q2, f0, f1, f2⟩ := KB.out w4 D4.out
    rw [hrun4]
    clear hrun4
    go_wp2_with fail
    refine bodyPost_ret (v := .agg #[.bool true, .slice (some ⟨w3.heap.size, 0, none⟩) lo lo, .slice none 0 0]) ?_ rfl ?_
    · simp [results, Tryz.results21, go_sem, q0, q1, q2]
    · refine ⟨w3.heap.size, rfl, by have := sz2 D3.out; omega, ?_, (((below2 D4.out).setCell (by simp) _).setCell (by simp) _).setCell (by simp) _⟩
      have hz := sz2 D3.out
      rw [Below.heap_setCell _ _ _ _ (by simp only; omega), Below.heap_setCell _ _ _ _ (by simp only; omega), Below.heap_setCell _ _ _ _ (by simp only; omega), G4.out, GE.out]
      rw [start_row c args lo (by rw [givL, if_neg (by have := HC.out; omega)]; rfl)]
  · have e1 : (c != -1) = true := by simp [hcn]
    have hcp : 0 ≤ c := by omega
    have hle : (1 + al) ≤ lo := by rw [selfN, if_pos hcp] at hs; omega
    obtain ⟨GS, hGS⟩ : ∃ GS, GS = ([8 + c] ++ args).map (Value.int .i64) := ⟨_, rfl⟩
    have GE : Hid (GS = ([8 + c] ++ args).map (Value.int .i64)) := hGS
    have rfl_len : GS.length = (1 + al) := by rw [hGS, List.length_map]; simp [SA.out]; omega
    have h1_here : ∀ v ∈ GS, v.oneCell' = true := by rw [hGS]; exact ints_one _
    clear hGS
    have RL : Hid (GS.length = (1 + al)) := rfl_len
    have R1 : Hid (∀ v ∈ GS, v.oneCell' = true) := h1_here
    clear rfl_len h1_here
    go_enter Tryz.func21, Tryz.ntmps21
    go_wp2_with (first
    | (at_builtin
       refine list_app rfl _ _ rfl (w.heap.size + 1 + 1) (.slice none 0 0) 0 [] rfl (World.ownsRow_nil _ _ _ _) _ _ _ rfl [8 + c] (lit_at ((w.alloc (.cells #[.slice ca cn cc, .slice ma mn mc, .slice ca cn cc, .int .i64 c, .int .i64 s, .slice aa al ac, .int .i64 o, .int .i64 lo, .slice da dl dc, .slice sa sl sc, .slice ha hl hc] 55)).alloc (.cells #[.bool false, .slice none 0 0, .slice none 0 0] 29)) [8 + c] _ (by simp) (by simp) (by intro x hx; simp at hx; omega)) (by omega) (by omega) (by simp) ?_
       intro a2 c2 w2 hown2 hgrow2 hloc2
       simp only [Nat.zero_add, List.nil_append] at hown2 ⊢
       have D2 : Hid (Below (w.heap.size + 1 + 1) ((w.alloc (.cells #[.slice ca cn cc, .slice ma mn mc, .slice ca cn cc, .int .i64 c, .int .i64 s, .slice aa al ac, .int .i64 o, .int .i64 lo, .slice da dl dc, .slice sa sl sc, .slice ha hl hc] 55)).alloc (.cells #[.bool false, .slice none 0 0, .slice none 0 0] 29)) w2) := (D0.out.alloc (by simp) _).grown hgrow2 (by simp) (fun j e => by simp [Value.ownBlock] at e)
       have O2 : Hid (w2.ownsRow (w.heap.size + 1 + 1) 3 1 (.slice a2 1 c2) 1 ([8 + c].map (Value.int .i64))) := hown2
       obtain ⟨p3, p5, p7, q0, q1, q2, f0, f1, f2⟩ := KB.out w2 D2.out
       clear hown2 hgrow2 hloc2)
    | (at_builtin
       refine list_app rfl _ _ rfl (w.heap.size + 1 + 1) (.slice a2 1 c2) 1 [8 + c] rfl O2.out _ _ _ rfl args (HA.out.later (below2 D2.out)) (by omega) (by omega) (sz2 D2.out) ?_
       intro a3 c3 w3 hown3 hgrow3 hloc3
       have D3 : Hid (Below (w.heap.size + 1 + 1) ((w.alloc (.cells #[.slice ca cn cc, .slice ma mn mc, .slice ca cn cc, .int .i64 c, .int .i64 s, .slice aa al ac, .int .i64 o, .int .i64 lo, .slice da dl dc, .slice sa sl sc, .slice ha hl hc] 55)).alloc (.cells #[.bool false, .slice none 0 0, .slice none 0 0] 29)) w3) := D2.out.grown hgrow3 (sz2 D2.out) (fun j e => by have := own_ge O2.out j e.symm; omega)
       have O3 : Hid (w3.ownsRow (w.heap.size + 1 + 1) 3 1 (.slice a3 (1 + al) c3) (1 + al) (([8 + c] ++ args).map (Value.int .i64))) := hown3
       clear p3 p5 p7 q0 q1 q2 f0 f1 f2
       obtain ⟨p3, p5, p7, q0, q1, q2, f0, f1, f2⟩ := KB.out w3 D3.out
       clear hown3 hgrow3 hloc3))
    obtain ⟨w4, hrun4, hg4, hb4⟩ := copy_run (w := w3.alloc (.cells (madeCells #[.int .i64 0] lo) 3)) (w0 := ((w.alloc (.cells #[.slice ca cn cc, .slice ma mn mc, .slice ca cn cc, .int .i64 c, .int .i64 s, .slice aa al ac, .int .i64 o, .int .i64 lo, .slice da dl dc, .slice sa sl sc, .slice ha hl hc] 55)).alloc (.cells #[.bool false, .slice none 0 0, .slice none 0 0] 29))) (B := (w.heap.size + 1 + 1)) (g := w3.heap.size) (sc := c3) RL.out hle (MapKept.heap_alloc w3 _).1 (fun hp => own_src O3.out GE.out hp) R1.out (D3.out.alloc (sz2 D3.out) _) (sz2 D3.out)
    have D4 : Hid (Below (w.heap.size + 1 + 1) ((w.alloc (.cells #[.slice ca cn cc, .slice ma mn mc, .slice ca cn cc, .int .i64 c, .int .i64 s, .slice aa al ac, .int .i64 o, .int .i64 lo, .slice da dl dc, .slice sa sl sc, .slice ha hl hc] 55)).alloc (.cells #[.bool false, .slice none 0 0, .slice none 0 0] 29)) w4) := hb4
    have G4 : Hid (w4.heap[w3.heap.size]? = some (.cells (splice (madeCells #[.int .i64 0] lo).toList 0 GS).toArray 3 (0, 0))) := hg4
    clear p3 p5 p7 q0 q1 q2 f0 f1 f2 hb4 hg4
    obtain ⟨p3, p5, p7, q0, q1, q2, f0, f1, f2⟩ := KB.out w4 D4.out
    rw [hrun4]
    clear hrun4
    go_wp2_with fail
    refine bodyPost_ret (v := .agg #[.bool true, .slice (some ⟨w3.heap.size, 0, none⟩) lo lo, .slice none 0 0]) ?_ rfl ?_
    · simp [results, Tryz.results21, go_sem, q0, q1, q2]
    · refine ⟨w3.heap.size, rfl, by have := sz2 D3.out; omega, ?_, (((below2 D4.out).setCell (by simp) _).setCell (by simp) _).setCell (by simp) _⟩
      have hz := sz2 D3.out
      rw [Below.heap_setCell _ _ _ _ (by simp only; omega), Below.heap_setCell _ _ _ _ (by simp only; omega), Below.heap_setCell _ _ _ _ (by simp only; omega), G4.out, GE.out]
      rw [start_row c args lo (by rw [givL, if_pos (by omega)])]

/-- What ShapeStart answers, in memory of its own. -/
def StartP (w : World) (s : Sh) (e : Ending) (w' : World) : Prop :=
  ∃ la n lc, e = .returned (.agg #[.bool s.1, .slice la n lc, .slice none 0 0]) ∧ s.2.1.length = n ∧ n ≤ 1000 ∧ (∀ j, i64B (s.2.1.getD j 0)) ∧ s.2.2 = [] ∧ Wri w' la n (fun j => s.2.1.getD j 0) ∧ (∀ x, la = some x → 0 < n → w.heap.size ≤ x.block) ∧ Below w.heap.size w w'
theorem stL_fits {c lo : Int} {args : List Int} (hc : -1 ≤ c ∧ c ≤ 1000) (ha : ∀ j, i64B (args.getD j 0)) : ∀ j, i64B ((stL c args lo).getD j 0) := by
  unfold stL givL
  refine fits_app ?_ (fits_lit (fun x hx => by have := List.eq_of_mem_replicate hx; omega))
  by_cases h : 0 ≤ c
  · rw [if_pos h]
    exact fits_app (fits_lit (fun x hx => by simp at hx; omega)) ha
  · rw [if_neg h]
    exact ha
set_option maxRecDepth 100000 in
set_option maxHeartbeats 4000000 in
theorem shapeStartImpl (ca : Option Addr) (cn cc : Nat) (ma : Option Addr) (mn mc : Nat) (m : Int) (L : List Cl) (M : List Me) (w : World) {D E G : Nat → Prop} (h : ClsAt D E w ca cn L) (hM : SlAt meR G w ma mn M) (hmc : mn ≤ mc) :
    Calls Tryz.prog 7 #[.agg #[.slice ca cn cc, .slice ma mn mc], .int .i64 m] w fun e w' => StartP w (startV L M m) e w' := by
  have H : Hid (ClsAt D E w ca cn L) := h
  have HM : Hid (SlAt meR G w ma mn M) := hM
  have HCS : Hid (L.length = cn) := h.size
  have KB : Hid (∀ x : World, Below (w.heap.size + 1 + 1) ((w.alloc (.cells #[.slice ca cn cc, .slice ma mn mc] 34)).alloc (.cells #[.bool false, .slice none 0 0, .slice none 0 0] 29)) x → x.cell? ⟨w.heap.size + 1, 0, none⟩ = some (.bool false) ∧ x.cell? ⟨w.heap.size + 1, 1, none⟩ = some (.slice none 0 0) ∧ x.cell? ⟨w.heap.size + 1, 2, none⟩ = some (.slice none 0 0) ∧ x.frozen? ⟨w.heap.size + 1, 0, none⟩ = false ∧ x.frozen? ⟨w.heap.size + 1, 1, none⟩ = false ∧ x.frozen? ⟨w.heap.size + 1, 2, none⟩ = false) := fun x hb => by
    have hf : ∀ j, x.frozen? ⟨w.heap.size + 1, j, none⟩ = false := fun j => by rw [hb.frozen (p := ⟨w.heap.size + 1, j, none⟩) (by simp)]; exact World.frozen?_alloc_at _ _ _ _ (by simp)
    exact ⟨later2 hb (two_second rfl), later2 hb (two_second rfl), later2 hb (two_second rfl), hf 0, hf 1, hf 2⟩
  have B0 : Hid (Below w.heap.size w ((w.alloc (.cells #[.slice ca cn cc, .slice ma mn mc] 34)).alloc (.cells #[.bool false, .slice none 0 0, .slice none 0 0] 29))) := ((Below.refl _ _).alloc (Nat.le_refl _) _).alloc (by simp) _
  clear h hM
  go_enter Tryz.func7, Tryz.ntmps7
  go_wp2_with fail
  refine (passingImpl _ _ _ _ _ _ m L M _ (H.out.later B0.out) (HM.out.later B0.out) hmc).mono ?_
  rintro e w1 ⟨hP, hb1⟩
  have B1 : Hid (Below (w.heap.size + 1 + 1) ((w.alloc (.cells #[.slice ca cn cc, .slice ma mn mc] 34)).alloc (.cells #[.bool false, .slice none 0 0, .slice none 0 0] 29)) w1) := by show Below _ _ _; simpa using hb1
  have Z1 : w.heap.size + 1 + 1 ≤ w1.heap.size := sz2 B1.out
  have z0 : w.heap.size + 1 < w1.heap.size := by omega
  obtain ⟨q0, q1, q2, f0, f1, f2⟩ := KB.out w1 B1.out
  rcases hP with ⟨g1, rfl⟩ | ⟨g1, i, rfl, hi, hU, c, s, args, o, lo, X, Y, Z, aa, al, ac, da, dl, dc, sa, sl, sc, ha, hl, hc, MX, hmt, rfl⟩
  · have HV : Hid (startV L M m = (false, [], [])) := by show _ = _; rw [startV, g1]; rfl
    clear hb1
    go_wp2_with fail
    refine bodyPost_ret (v := .agg #[.bool false, .slice none 0 0, .slice none 0 0]) ?_ rfl ?_
    · simp [results, Tryz.results7, go_sem, *]
    · unfold StartP
      rw [HV.out]
      refine ⟨none, 0, 0, rfl, rfl, by omega, (fun j => ⟨by simp, by simp⟩), rfl, ⟨.inl rfl⟩, (fun x hx => by cases hx), ?_⟩
      refine Below.alloc ?_ ?_ _
      · exact (((below2 B1.out).setCell (by simp) _).setCell (by simp) _).setCell (by simp) _
      · simp only [World.size_setCell]; omega
  have HV : Hid (startV L M i = (true, stL c args lo, [])) := by show _ = _; rw [startV, g1, Int.toNat_natCast, MX.is]; rfl
  obtain ⟨h1, _, h2, h3, h6, h4, _, _⟩ := meth_head hmt
  have h5 := (ok_len (unit_ok hU)).2
  have hsn : 0 ≤ selfN c := by unfold selfN; split <;> omega
  obtain ⟨k, rfl⟩ : ∃ k : Nat, lo = k := ⟨lo.toNat, by omega⟩
  have SA : Hid (IntsAt G ((w.alloc (.cells #[.slice ca cn cc, .slice ma mn mc] 34)).alloc (.cells #[.bool false, .slice none 0 0, .slice none 0 0] 29)) aa al args) := MX.args.ints
  have hal : al ≤ 2 := by rw [← MX.args.size]; exact h3
  have hsl : selfN c + al ≤ k := by rw [← MX.args.size]; exact h6
  have FA : Hid (∀ j, i64B ((stL c args k).getD j 0)) := stL_fits ⟨h1, by omega⟩ SA.out.fits
  have HB1 : Hid (Below ((w.alloc (.cells #[.slice ca cn cc, .slice ma mn mc] 34)).alloc (.cells #[.bool false, .slice none 0 0, .slice none 0 0] 29)).heap.size ((w.alloc (.cells #[.slice ca cn cc, .slice ma mn mc] 34)).alloc (.cells #[.bool false, .slice none 0 0, .slice none 0 0] 29)) w1) := hb1
  have hlen : (stL c args k).length = k := by
    have e : (givL c args).length ≤ k := by
      unfold givL
      have hs := MX.args.size
      by_cases h0 : 0 ≤ c
      · rw [if_pos h0]; rw [selfN, if_pos h0] at hsl; simp; omega
      · rw [if_neg h0]; rw [selfN, if_neg h0] at hsl; simp; omega
    unfold stL
    rw [List.length_append, List.length_replicate, Int.toNat_natCast]; omega
  have HL : Hid ((stL c args k).length = k) := hlen
  clear MX hmt hb1 hlen
  have A1 : Hid (Below w1.heap.size w1 (w1.alloc (.cells #[.slice ca cn cc, .slice ma mn mc, .slice ca cn cc, .int .i64 c, .int .i64 s, .slice aa al ac, .int .i64 o, .int .i64 k, .slice da dl dc, .slice sa sl sc, .slice ha hl hc] 55))) := (Below.refl _ _).alloc (Nat.le_refl _) _
  go_wp2_with fail
  refine (startImpl _ _ _ _ _ _ c s o k _ _ _ _ _ _ _ _ _ _ _ _ args _ ((SA.out.later HB1.out).later A1.out) hal ⟨h1, by omega⟩ hsl (by omega)).mono ?_
  rintro e w2 ⟨g, rfl, hg, hrow, hb2⟩
  have B2 : Hid (Below (w.heap.size + 1 + 1) ((w.alloc (.cells #[.slice ca cn cc, .slice ma mn mc] 34)).alloc (.cells #[.bool false, .slice none 0 0, .slice none 0 0] 29)) w2) := B1.out.trans ((A1.out.trans (hb2.mono (by simp))).mono Z1)
  have R2 : Hid (w2.heap[g]? = some (.cells ((stL c args k).map (Value.int .i64)).toArray 3 (0, 0))) := hrow
  have hg' : w1.heap.size + 1 ≤ g := by simpa using hg
  clear hb2 hrow hg q0 q1 q2 f0 f1 f2
  obtain ⟨q0, q1, q2, f0, f1, f2⟩ := KB.out w2 B2.out
  go_wp2_with fail
  refine bodyPost_ret (v := .agg #[.bool true, .slice (some ⟨g, 0, none⟩) k k, .slice none 0 0]) ?_ rfl ?_
  · simp [results, Tryz.results7, go_sem, *]
  · unfold StartP
    rw [HV.out]
    refine ⟨_, _, _, rfl, HL.out, by omega, FA.out, rfl, ⟨.inr ⟨g, 0, rfl, fun j hj => ?_⟩⟩, (fun x hx _ => by cases hx; simp only; omega), (((below2 B2.out).setCell (by simp) _).setCell (by simp) _).setCell (by simp) _⟩
    have hr : (((w2.setCell ⟨w.heap.size + 1, 0, none⟩ (.bool true)).setCell ⟨w.heap.size + 1, 1, none⟩ (.slice (some ⟨g, 0, none⟩) k k)).setCell ⟨w.heap.size + 1, 2, none⟩ (.slice none 0 0)).heap[g]? = some (.cells ((stL c args k).map (Value.int .i64)).toArray 3 (0, 0)) := by
      rw [Below.heap_setCell _ _ _ _ (by simp only; omega), Below.heap_setCell _ _ _ _ (by simp only; omega), Below.heap_setCell _ _ _ _ (by simp only; omega)]
      exact R2.out
    have hj' : j < (stL c args k).length := by rw [HL.out]; exact hj
    constructor
    · simp only [World.cell?, hr, Nat.zero_add]
      rw [List.getD_eq_getElem?_getD, List.getElem?_eq_getElem hj']
      simp [hj']
    · simp [World.frozen?, hr]

end Go.Proofs.YtmhhopccgokglaaGreat
