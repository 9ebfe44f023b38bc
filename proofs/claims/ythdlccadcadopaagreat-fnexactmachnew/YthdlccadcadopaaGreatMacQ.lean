/-
  A machine at the beginning, of the specification: what is thrown, and the first call.
  What is so of a unit that is ok.
  A machine at the beginning, of the specification: its first call, and all of it.
  What is thrown when something goes wrong, of the program: things laid into memory of their own.
  A machine at the beginning, of the program: what it answers at every unit; it writes nothing that was there.
  A machine at the beginning is marked, number by number, and held against its marks.
-/
import Derived.Test.YthdlccadcadopaaGreatOwnQ
import Derived.Test.YthdlccadcadopaaGreatDtMach
import Derived.Test.YthdlccadcadopaaGreatUnitSpec
import Derived.Test.YthdlccadcadopaaGreatUniH
namespace Go.Proofs.YthdlccadcadopaaGreat
open Go.ChangeShapes Go.WideShapes Go.ChangeAt Go.RowKit

/-- What is thrown when something goes wrong. -/
def faults : List Ob := (List.range 7).map fun (i : Nat) => ((1 : Int), [(false, (i : Int) + 1)])
theorem faults_at (k : Nat) (h : k < 7) : faults[k]? = some (1, [(false, (k : Int) + 1)]) := by simp [faults, h]
theorem faults_ok : ∀ x ∈ faults, x.2.length ≤ 1048576 ∧ ∀ v ∈ x.2, i64B v.2 := by
  intro x hx
  obtain ⟨i, hi, rfl⟩ := List.mem_map.1 hx
  have := List.mem_range.1 hi
  refine ⟨by simp, fun v hv => ?_⟩
  simp only [List.mem_singleton] at hv
  subst hv
  unfold i64B
  simp only
  omega
theorem l13IntSpec (n : Int) (w : World) : Calls Tryz.prog 60 #[.int .i64 n] w fun e w' => e = .returned (.agg #[.bool false, .int .i64 n]) ∧ Below w.heap.size w w' := by
  go_enter Tryz.func60, Tryz.ntmps60
  go_wp2_with fail
  refine bodyPost_ret (v := .agg #[.bool false, .int .i64 n]) ?_ rfl ⟨rfl, by go_grown⟩
  simp [results, Tryz.results60, go_sem]
theorem two_own (w : World) (base : Nat) (e : TypeId) (x y : Value) (hb : base ≤ w.heap.size) : (w.alloc (.cells #[x, y] e)).ownsRow base e 2 (.slice (some ⟨w.heap.size, 0, none⟩) 1 1) 1 [x, y] := by
  have := World.ownsRow_lit (base := base) (e := e) (size := 2) w #[x, y] 1 hb (by unfold maxLen; omega) rfl
  simpa using this

set_option maxRecDepth 100000 in
set_option maxHeartbeats 4000000 in
theorem faultsSpec (w : World) : Calls Tryz.prog 21 #[] w fun e w' => ∃ a c, e = .returned (.slice a 7 c) ∧ SlAt obR (fun b => w.heap.size ≤ b) w' a 7 faults ∧ Below w.heap.size w w' := by
  obtain ⟨j0, hj0, yz0, yz1, yz2⟩ := info_parts info_Obj
  go_enter Tryz.func21, Tryz.ntmps21
  go_wp2_with fail
  go_loopw [1, 2] (fun s t wr => ∃ (k : Nat) (xa : Option Addr) (xc : Nat) (L : List Value), k ≤ 7 ∧ t = .int .i64 (k + 1) ∧ s = .slice xa k xc ∧ wr.ownsRow w.heap.size 86 2 (.slice xa k xc) k L ∧ OutR wr w.heap.size faults k L ∧ Below w.heap.size w wr) (fun _ t _ => 8 - (intOf t).toNat)
  case atStart => exact ⟨0, _, _, [], by omega, rfl, rfl, own_none _ _ _ (Nat.le_refl _) rfl, ⟨rfl, fun j _ hj => by omega⟩, by go_grown⟩
  case round =>
    obtain ⟨k, xa, xc, L, hk, rfl, rfl, hO, hT, hB⟩ := hrel
    have HO : Hid (wr.ownsRow w.heap.size 86 2 (.slice xa k xc) k L) := hO
    have HT : Hid (OutR wr w.heap.size faults k L) := hT
    have HB : Hid (Below w.heap.size w wr) := hB
    have hsz := hB.size
    clear hO hT hB
    by_cases hlt : k < 7
    · go_wp2_with fail
      refine (l13IntSpec _ _).mono ?_
      rintro e w2 ⟨rfl, hb2⟩
      have B2 : Hid (Below w.heap.size w w2) := HB.out.trans (hb2.mono HB.out.size)
      have s2 : wr.heap.size ≤ w2.heap.size := hb2.size
      have O2 : Hid (w2.ownsRow w.heap.size 86 2 (.slice xa k xc) k L) := own_keep' HO.out (fun g hg => hb2.block g (own_lt' HO.out g hg))
      have T2 : Hid (OutR w2 w.heap.size faults k L) := HT.out.keep (fun g cur hg => hb2.block g (Array.getElem?_eq_some_iff.1 hg).1)
      clear hb2 HO HT HB
      go_wp2_with (at_builtin; refine wpList_append_own _ rfl _ _ 27 rfl w.heap.size 86 j0 _ 2 32 Tryz.underlying27 hj0 yz0 yz1 yz2 rfl (by decide) (.slice xa k xc) k L rfl ((O2.out.alloc _).alloc _) ⟨w2.heap.size + 1, 0, none⟩ 1 1 [.int .i64 1, .slice (some ⟨w2.heap.size, 0, none⟩) 1 1] rfl rfl (two_new _ _ _ _ _ (by simp)) (by simp [Value.oneCell']) (by unfold maxLen; omega) (by omega) (by simp; omega) ?_; intro v' w6 r1 r2 _)
      obtain ⟨g', cap', rfl⟩ := ownsRow_succ r1
      have b6 : ∀ g, g < (w2.alloc (.cells #[.bool false, .int .i64 (k + 1)] 31)).heap.size → some g ≠ (Value.slice xa k xc).ownBlock → w6.heap[g]? = (w2.alloc (.cells #[.bool false, .int .i64 (k + 1)] 31)).heap[g]? := fun g h1 h2 => (r2.block g (by simp at h1 ⊢; omega) h2).trans (Below.heap_alloc _ _ g h1)
      have own1 := two_own w2 w.heap.size 31 (.bool false) (.int .i64 (k + 1)) (by omega)
      have h61 : w6.ownsRow w.heap.size 31 2 (.slice (some ⟨w2.heap.size, 0, none⟩) 1 1) 1 (flatV [(false, (k : Int) + 1)]) := own_keep' own1 (fun g hg => by
        obtain rfl : w2.heap.size = g := by simpa [Value.ownBlock] using hg
        exact b6 _ (by simp) (fun e => by have := own_lt' O2.out _ e.symm; omega))
      have h62 : OutR w6 w.heap.size faults k L := T2.out.keep (fun g cur hg => (b6 g (by have := (Array.getElem?_eq_some_iff.1 hg).1; simp; omega) (fun e => by
        rcases O2.out.2 with ⟨e1, _⟩ | ⟨g2, cap2, cur2, e1, _, hg2, _⟩
        · rw [e1] at e; simp [Value.ownBlock] at e
        · rw [e1] at e
          obtain rfl : g = g2 := by simpa [Value.ownBlock] using e
          rw [hg2] at hg
          cases hg)).trans (Below.heap_alloc _ _ g (Array.getElem?_eq_some_iff.1 hg).1))
      have h63 := h62.snoc (faults_at k hlt) (by unfold i64B; simp) rfl h61
      refine ⟨⟨k + 1, _, _, _, by omega, by go_num, rfl, r1, h63, Below.grown ((B2.out.alloc (by omega) _).alloc (by simp; omega) _) r2 (by simp; omega) (fun b hb => own_ge O2.out b hb.symm)⟩, by simp [intOf]; omega⟩
    · obtain rfl : k = 7 := by omega
      go_wp2_with fail
      go_ret
      exact ⟨_, _, rfl, HT.out.sl rfl (by omega) faults_ok HO.out (Nat.le_refl _), HB.out⟩

end Go.Proofs.YthdlccadcadopaaGreat
namespace Go.Proofs.YthdlccadcadopaaGreat
open Go.ChangeShapes Go.WideShapes Go.ChangeAt Go.RowKit

theorem unit_meth {L : List Cl} {M : List Me} (h : unitB L M = true) {i : Nat} (hi : i < M.length) : methB L M (me M i) = true := by
  unfold unitB at h
  simp only [Bool.and_eq_true, List.all_eq_true] at h
  exact h.1.2 i (List.mem_range.2 hi)
theorem unit_ok {L : List Cl} {M : List Me} (h : unitB L M = true) : clsOk L = true := by
  unfold unitB at h
  simp only [Bool.and_eq_true] at h
  exact h.1.1.1.1
theorem unit_few {L : List Cl} {M : List Me} (h : unitB L M = true) : 1 ≤ M.length ∧ M.length ≤ 4 := by
  unfold unitB inI at h
  simp only [Bool.and_eq_true, decide_eq_true_eq] at h
  have := h.1.1.1.2
  omega
/-- What is told ahead of a method's code, where it is ok. -/
theorem meth_head {L : List Cl} {M : List Me} {c s : Int} {args : List Int} {o lo : Int} {X : List In} {Y : List Sh} {Z : List Ca} (h : methB L M (c, s, args, o, lo, X, Y, Z) = true) : -1 ≤ c ∧ c ≠ 0 ∧ c < L.length ∧ args.length ≤ 2 ∧ selfN c + args.length ≤ lo ∧ lo ≤ 3 ∧ fieldB L.length o = true ∧ args.all (fieldB L.length) = true := by
  unfold methB hdB inI at h
  simp only [Bool.and_eq_true, decide_eq_true_eq, Bool.not_eq_true', beq_eq_false_iff_ne] at h
  obtain ⟨⟨⟨⟨⟨⟨⟨⟨⟨⟨h0, h1, h2⟩, h3⟩, h4⟩, h5, h6⟩, h7, h8⟩, _⟩, _⟩, _⟩, _⟩, _⟩ := h
  exact ⟨h1, h0, by omega, h3, h5, h6, h4, h7⟩


end Go.Proofs.YthdlccadcadopaaGreat
namespace Go.Proofs.YthdlccadcadopaaGreat
open Go.ChangeShapes Go.WideShapes Go.ChangeAt Go.RowKit

theorem rep_snoc (i : Nat) : List.replicate (i + 1) ((false, 0) : Vl) = List.replicate i (false, 0) ++ [(false, 0)] := by rw [← List.replicate_append_replicate]; rfl
set_option maxRecDepth 100000 in
set_option maxHeartbeats 8000000 in
theorem frame0Spec (ca : Option Addr) (cn cc : Nat) (ma : Option Addr) (mn mc : Nat) (M : List Me) (n : Nat) (x : Me) (w : World) {G : Nat → Prop} (hM : SlAt meR G w ma mn M) (hx : M[0]? = some x) (hn : x.2.2.2.2.1 = n) (hn3 : n ≤ 3) :
    Calls Tryz.prog 22 #[.agg #[.slice ca cn cc, .slice ma mn mc], .int .i64 0, .slice none 0 0] w fun e w' => ∃ la lc sa sc, e = .returned (.agg #[.int .i64 0, .int .i64 0, .slice la n lc, .slice sa 0 sc]) ∧ SlAt vaR (fun b => w.heap.size ≤ b) w' la n (List.replicate n (false, 0)) ∧ Below w.heap.size w w' := by
  obtain ⟨i0, hi0, hz0, hz1, hz2⟩ := info_parts info_Val
  have hM0 : 0 < mn := by have := (List.getElem?_eq_some_iff.1 hx).1; rw [hM.size] at this; exact this
  obtain ⟨b1, o1, rfl, _, us, hu, hc⟩ := hM.at 0 x hx
  obtain ⟨x0, x1, x2, x3, x4, x5, x6, x7⟩ := x
  obtain ⟨_, _, rfl, ⟨rfl, _⟩, _, _, rfl, ⟨rfl, _⟩, _, _, rfl, ⟨_, _, _, rfl, _⟩, _, _, rfl, ⟨rfl, _⟩, _, _, rfl, ⟨rfl, _⟩, _, _, rfl, ⟨_, _, _, rfl, _⟩, _, _, rfl, ⟨_, _, _, rfl, _⟩, _, _, _, rfl, _⟩ := hu
  have hn : x4 = n := hn
  subst hn
  have c4 : w.cell? ⟨b1, o1 + 4, none⟩ = some (.int .i64 n) := by have := hc 4 _ rfl; simpa using this
  have hb1 : b1 < w.heap.size := World.block_lt_of_cell? w _ c4
  have C4 : Hid (w.cell? ⟨b1, o1 + 4, none⟩ = some (.int .i64 n)) := c4
  clear hc hM hx c4
  have E1 := fun wx xs => run_append_empty (P := Tryz.prog) (w := wx) 0 58 58 31 i0 2 Tryz.underlying58 hi0 (.slice (some ⟨w.heap.size + 1 + 1, 0, none⟩) 0 0) 0 xs
  go_enter Tryz.func22, Tryz.ntmps22
  go_wp2_with (at_builtin; refine list_appP rfl (.tmp 9) (.tmp 10) 58 rfl (.slice (some ⟨w.heap.size + 1 + 1, 0, none⟩) 0 0) _ _ rfl rfl (E1 _ [] (own_none 0 _ _ (Nat.zero_le _) (by simp)) none 0) ?_)
  go_loopw [] (fun wr => ∃ (i : Nat) (va : Option Addr) (vc : Nat), i ≤ n ∧ wr.heap[w.heap.size + 1 + 1 + 1 + 1]? = some (.cells #[.int .i64 0, .int .i64 0, .slice va i vc, .slice (some ⟨w.heap.size + 1 + 1 + 1, 0, none⟩) 0 0] 60 (0, 0)) ∧ wr.ownsRow (w.heap.size + 1 + 1) 31 2 (.slice va i vc) i (flatV (List.replicate i (false, 0))) ∧ Below (w.heap.size + 1 + 1) ((w.alloc (.cells #[.slice ca cn cc, .slice (some ⟨b1, o1, none⟩) mn mc] 38)).alloc (.cells #[.int .i64 0, .int .i64 0, .slice none 0 0, .slice none 0 0] 60)) wr ∧ w.heap.size + 1 + 1 + 1 + 1 < wr.heap.size) (fun wr => n - slLen (wr.cell? ⟨w.heap.size + 1 + 1 + 1 + 1, 2, none⟩))
  case atStart =>
    refine ⟨0, _, _, Nat.zero_le _, boxN _ _ _ _ (by simp), ?_, ?_, by simp⟩
    · exact ((own_none (w.heap.size + 1 + 1) _ _ (by simp) (by simp)).alloc _).alloc _
    · exact (((Below.refl _ _).alloc (by simp) _).alloc (by simp) _).alloc (by simp) _
  case round =>
    obtain ⟨i, va, vc, hi, hF, hO, hB, hs⟩ := hrel
    have HF : Hid (wr.heap[w.heap.size + 1 + 1 + 1 + 1]? = some (.cells #[.int .i64 0, .int .i64 0, .slice va i vc, .slice (some ⟨w.heap.size + 1 + 1 + 1, 0, none⟩) 0 0] 60 (0, 0))) := hF
    have HO : Hid (wr.ownsRow (w.heap.size + 1 + 1) 31 2 (.slice va i vc) i (flatV (List.replicate i (false, 0)))) := hO
    have HB : Hid (Below (w.heap.size + 1 + 1) ((w.alloc (.cells #[.slice ca cn cc, .slice (some ⟨b1, o1, none⟩) mn mc] 38)).alloc (.cells #[.int .i64 0, .int .i64 0, .slice none 0 0, .slice none 0 0] 60)) wr) := hB
    have f2 : wr.cell? ⟨w.heap.size + 1 + 1 + 1 + 1, 2, none⟩ = some (.slice va i vc) := (boxG hF 2).1
    have g2 : wr.frozen? ⟨w.heap.size + 1 + 1 + 1 + 1, 2, none⟩ = false := (boxG hF 2).2
    have u1 : wr.cell? ⟨w.heap.size, 1, none⟩ = some (.slice (some ⟨b1, o1, none⟩) mn mc) := (hB.cell (p := ⟨w.heap.size, 1, none⟩) (by simp only; omega)).trans (by rw [World.cell?_alloc_past _ _ _ (by simp), World.cell?_alloc_at _ _ _ _ rfl]; rfl)
    have m4 : wr.cell? ⟨b1, o1 + 4, none⟩ = some (.int .i64 n) := (hB.cell (p := ⟨b1, o1 + 4, none⟩) (by simp only; omega)).trans (by rw [World.cell?_alloc_past _ _ _ (by simp; omega), World.cell?_alloc_past _ _ _ hb1]; exact C4.out)
    clear hF hO hB
    by_cases hlt : i < n
    · have hlt' : (i : Int) < n := by omega
      go_wp2_with fail
      go_region
      all_goals
        go_wp2_with fail
        refine wp_region_any (by kernel_rfl) ?_
        change wpAny _ _ _ _ _ _ _ (World.drew _)
        refine wpAny_take (i := 0) (v := .pointer (some ⟨w.heap.size + 1 + 1 + 1 + 1, 2, none⟩)) rfl (by kernel_rfl) (by kernel_rfl) (by kernel_rfl) (fun _ _ _ h => h) (Or.inl ⟨by rfl, by (intro w; go_simp)⟩) ?_
        try simp only [Act.put, List.getElem_toArray, List.getElem_cons_zero, List.setIfInBounds_toArray, List.set_cons_zero, List.set_cons_succ]
        refine wpAny_ready (rs := [1, 2]) (by kernel_rfl) (by simp) ?_
        refine AllReady.cons rfl (fun K hK => ?_) ?_
        · go_simp
          refine hK _ _ ?_
          clear hK K
          try simp only [Act.put, List.getElem_toArray, List.getElem_cons_zero, List.getElem_cons_succ, List.setIfInBounds_toArray, List.set_cons_zero, List.set_cons_succ]
          refine wpAny_ready (rs := [2]) (by kernel_rfl) (by simp) ?_
          refine AllReady.cons rfl (fun K hK => ?_) AllReady.nil
          go_simp
          go_at_call 60
          refine (l13IntSpec _ _).mono ?_
          rintro e w5 ⟨rfl, hb5⟩
          have hb5 : Below wr.heap.size wr w5 := (bdrew (bdrew (Below.refl _ wr))).trans hb5
          have e5 : w5.heap[w.heap.size + 1 + 1 + 1 + 1]? = wr.heap[w.heap.size + 1 + 1 + 1 + 1]? := hb5.block _ hs
          have d2 : w5.cell? ⟨w.heap.size + 1 + 1 + 1 + 1, 2, none⟩ = some (.slice va i vc) := (boxG (e5.trans HF.out) 2).1
          have s5 : w.heap.size + 1 + 1 + 1 + 1 < w5.heap.size := Nat.lt_of_lt_of_le hs hb5.size
          have s5' : w.heap.size + 1 + 1 + 1 + 1 < w5.heap.size + 1 := by omega
          have own5 := (own_keep' HO.out (fun g hg => hb5.block g (own_lt' HO.out g hg))).alloc (.cells #[.bool false, .int .i64 0] 31)
          have ne5 := own_ne HO.out HF.out (by decide)
          obtain ⟨v', w6, hrun, r1, r2, _⟩ := run_append_own (P := Tryz.prog) (w5.alloc (.cells #[.bool false, .int .i64 0] 31)) (w.heap.size + 1 + 1) 58 58 31 i0 _ 2 16 Tryz.underlying58 hi0 hz0 hz1 hz2 rfl (by decide) (.slice va i vc) i _ own5 ⟨w5.heap.size, 0, none⟩ 1 1 [.bool false, .int .i64 0] rfl (two_new w5 _ _ _ _ rfl) (by simp [Value.oneCell']) (by unfold maxLen; omega) (by omega) (by simp; omega)
          obtain ⟨g', cap', rfl⟩ := ownsRow_succ r1
          have b6 : ∀ g, g < w5.heap.size → some g ≠ (Value.slice va i vc).ownBlock → w6.heap[g]? = w5.heap[g]? := fun g h1 h2 => (r2.block g (by simp; omega) h2).trans (Below.heap_alloc w5 _ g h1)
          have e6 := (b6 _ s5 ne5).trans (e5.trans HF.out)
          have c62 := (boxG e6 2).1
          have f62 := (boxG e6 2).2
          have s6 := r2.size
          rw [World.size_alloc] at s6
          have ne6 := own_ne r1 e6 (by decide)
          have FIN : Hid ((w6.setCell ⟨w.heap.size + 1 + 1 + 1 + 1, 2, none⟩ (.slice (some ⟨g', 0, none⟩) (i + 1) cap')).heap[w.heap.size + 1 + 1 + 1 + 1]? = some (.cells #[.int .i64 0, .int .i64 0, .slice (some ⟨g', 0, none⟩) (i + 1) cap', .slice (some ⟨w.heap.size + 1 + 1 + 1, 0, none⟩) 0 0] 60 (0, 0)) ∧ (w6.setCell ⟨w.heap.size + 1 + 1 + 1 + 1, 2, none⟩ (.slice (some ⟨g', 0, none⟩) (i + 1) cap')).ownsRow (w.heap.size + 1 + 1) 31 2 (.slice (some ⟨g', 0, none⟩) (i + 1) cap') (i + 1) (flatV (List.replicate (i + 1) (false, 0))) ∧ Below (w.heap.size + 1 + 1) ((w.alloc (.cells #[.slice ca cn cc, .slice (some ⟨b1, o1, none⟩) mn mc] 38)).alloc (.cells #[.int .i64 0, .int .i64 0, .slice none 0 0, .slice none 0 0] 60)) (w6.setCell ⟨w.heap.size + 1 + 1 + 1 + 1, 2, none⟩ (.slice (some ⟨g', 0, none⟩) (i + 1) cap')) ∧ w.heap.size + 1 + 1 + 1 + 1 < (w6.setCell ⟨w.heap.size + 1 + 1 + 1 + 1, 2, none⟩ (.slice (some ⟨g', 0, none⟩) (i + 1) cap')).heap.size ∧ slLen ((w6.setCell ⟨w.heap.size + 1 + 1 + 1 + 1, 2, none⟩ (.slice (some ⟨g', 0, none⟩) (i + 1) cap')).cell? ⟨w.heap.size + 1 + 1 + 1 + 1, 2, none⟩) = i + 1) := by
            have hbx := boxS e6 2 (.slice (some ⟨g', 0, none⟩) (i + 1) cap')
            refine ⟨hbx, ?_, ?_, by rw [World.size_setCell]; omega, by rw [(boxG hbx 2).1]; rfl⟩
            · rw [rep_snoc, flatV_snoc]
              exact own_keep' r1 (fun b hb => Below.heap_setCell w6 _ _ b (fun e => ne6 (by rw [hb, e])))
            · refine Below.setCell (Below.grown ((HB.out.trans (hb5.mono (by omega))).alloc (by omega) _) r2 (by simp; omega) (fun b hb => own_ge HO.out b hb.symm)) (by simp only; omega) _
          have HRUN : Hid ((Builtin.append_ #[58, 58] 58 #[.slice va i vc, .slice (some ⟨w5.heap.size, 0, none⟩) 1 1]).run Tryz.prog (w5.alloc (.cells #[.bool false, .int .i64 0] 31)) = .ok (.slice (some ⟨g', 0, none⟩) (i + 1) cap') w6) := hrun
          clear hrun r1 r2 own5 b6 e5 e6 hb5 ne5 ne6 s6
          go_wp2_with fail
          try simp only [Act.put, List.getElem_toArray, List.getElem_cons_zero, List.getElem_cons_succ, List.setIfInBounds_toArray, List.set_cons_zero, List.set_cons_succ]
          refine wpAny_ready (rs := [3]) (by kernel_rfl) (by simp) ?_
          refine AllReady.cons rfl (fun K hK => ?_) AllReady.nil
          go_simp
          refine hK _ _ ?_
          clear hK K
          try simp only [Act.put, List.getElem_toArray, List.getElem_cons_zero, List.getElem_cons_succ, List.setIfInBounds_toArray, List.set_cons_zero, List.set_cons_succ]
          refine wpAny_ready (rs := [4]) (by kernel_rfl) (by simp) ?_
          refine AllReady.cons rfl (fun K hK => ?_) AllReady.nil
          refine op_appP rfl _ _ _ rfl _ _ _ rfl rfl HRUN.out ?_
          refine hK _ _ ?_
          clear hK K
          try simp only [Act.put, List.getElem_toArray, List.getElem_cons_zero, List.getElem_cons_succ, List.setIfInBounds_toArray, List.set_cons_zero, List.set_cons_succ]
          refine wpAny_take (i := 5) (v := .pointer (some ⟨w.heap.size + 1 + 1 + 1 + 1, 2, none⟩)) rfl (by kernel_rfl) (by kernel_rfl) (by kernel_rfl) (fun _ _ _ h => h) (Or.inl ⟨by rfl, by (intro w; go_simp)⟩) ?_
          try simp only [Act.put, List.getElem_toArray, List.getElem_cons_zero, List.getElem_cons_succ, List.setIfInBounds_toArray, List.set_cons_zero, List.set_cons_succ]
          refine wpAny_ready (rs := [6]) (by kernel_rfl) (by simp) ?_
          refine AllReady.cons rfl (fun K hK => ?_) AllReady.nil
          go_simp
          refine hK _ _ ?_
          clear hK K
          try simp only [Act.put, List.getElem_toArray, List.getElem_cons_zero, List.getElem_cons_succ, List.setIfInBounds_toArray, List.set_cons_zero, List.set_cons_succ]
          refine wpAny_done (by kernel_rfl) ?_ _
          go_wp2_with fail
          exact ⟨⟨i + 1, _, _, by omega, FIN.out.1, FIN.out.2.1, FIN.out.2.2.1, FIN.out.2.2.2.1⟩, by rw [FIN.out.2.2.2.2, f2]; simp only [slLen]; omega⟩
        refine AllReady.cons rfl (fun K hK => ?_) AllReady.nil
        go_simp
        go_at_call 60
        refine (l13IntSpec _ _).mono ?_
        rintro e w5 ⟨rfl, hb5⟩
        have hb5 : Below wr.heap.size wr w5 := (bdrew (bdrew (Below.refl _ wr))).trans hb5
        have e5 : w5.heap[w.heap.size + 1 + 1 + 1 + 1]? = wr.heap[w.heap.size + 1 + 1 + 1 + 1]? := hb5.block _ hs
        have d2 : w5.cell? ⟨w.heap.size + 1 + 1 + 1 + 1, 2, none⟩ = some (.slice va i vc) := (boxG (e5.trans HF.out) 2).1
        have s5 : w.heap.size + 1 + 1 + 1 + 1 < w5.heap.size := Nat.lt_of_lt_of_le hs hb5.size
        have s5' : w.heap.size + 1 + 1 + 1 + 1 < w5.heap.size + 1 := by omega
        have own5 := (own_keep' HO.out (fun g hg => hb5.block g (own_lt' HO.out g hg))).alloc (.cells #[.bool false, .int .i64 0] 31)
        have ne5 := own_ne HO.out HF.out (by decide)
        obtain ⟨v', w6, hrun, r1, r2, _⟩ := run_append_own (P := Tryz.prog) (w5.alloc (.cells #[.bool false, .int .i64 0] 31)) (w.heap.size + 1 + 1) 58 58 31 i0 _ 2 16 Tryz.underlying58 hi0 hz0 hz1 hz2 rfl (by decide) (.slice va i vc) i _ own5 ⟨w5.heap.size, 0, none⟩ 1 1 [.bool false, .int .i64 0] rfl (two_new w5 _ _ _ _ rfl) (by simp [Value.oneCell']) (by unfold maxLen; omega) (by omega) (by simp; omega)
        obtain ⟨g', cap', rfl⟩ := ownsRow_succ r1
        have b6 : ∀ g, g < w5.heap.size → some g ≠ (Value.slice va i vc).ownBlock → w6.heap[g]? = w5.heap[g]? := fun g h1 h2 => (r2.block g (by simp; omega) h2).trans (Below.heap_alloc w5 _ g h1)
        have e6 := (b6 _ s5 ne5).trans (e5.trans HF.out)
        have c62 := (boxG e6 2).1
        have f62 := (boxG e6 2).2
        have s6 := r2.size
        rw [World.size_alloc] at s6
        have ne6 := own_ne r1 e6 (by decide)
        have FIN : Hid ((w6.setCell ⟨w.heap.size + 1 + 1 + 1 + 1, 2, none⟩ (.slice (some ⟨g', 0, none⟩) (i + 1) cap')).heap[w.heap.size + 1 + 1 + 1 + 1]? = some (.cells #[.int .i64 0, .int .i64 0, .slice (some ⟨g', 0, none⟩) (i + 1) cap', .slice (some ⟨w.heap.size + 1 + 1 + 1, 0, none⟩) 0 0] 60 (0, 0)) ∧ (w6.setCell ⟨w.heap.size + 1 + 1 + 1 + 1, 2, none⟩ (.slice (some ⟨g', 0, none⟩) (i + 1) cap')).ownsRow (w.heap.size + 1 + 1) 31 2 (.slice (some ⟨g', 0, none⟩) (i + 1) cap') (i + 1) (flatV (List.replicate (i + 1) (false, 0))) ∧ Below (w.heap.size + 1 + 1) ((w.alloc (.cells #[.slice ca cn cc, .slice (some ⟨b1, o1, none⟩) mn mc] 38)).alloc (.cells #[.int .i64 0, .int .i64 0, .slice none 0 0, .slice none 0 0] 60)) (w6.setCell ⟨w.heap.size + 1 + 1 + 1 + 1, 2, none⟩ (.slice (some ⟨g', 0, none⟩) (i + 1) cap')) ∧ w.heap.size + 1 + 1 + 1 + 1 < (w6.setCell ⟨w.heap.size + 1 + 1 + 1 + 1, 2, none⟩ (.slice (some ⟨g', 0, none⟩) (i + 1) cap')).heap.size ∧ slLen ((w6.setCell ⟨w.heap.size + 1 + 1 + 1 + 1, 2, none⟩ (.slice (some ⟨g', 0, none⟩) (i + 1) cap')).cell? ⟨w.heap.size + 1 + 1 + 1 + 1, 2, none⟩) = i + 1) := by
          have hbx := boxS e6 2 (.slice (some ⟨g', 0, none⟩) (i + 1) cap')
          refine ⟨hbx, ?_, ?_, by rw [World.size_setCell]; omega, by rw [(boxG hbx 2).1]; rfl⟩
          · rw [rep_snoc, flatV_snoc]
            exact own_keep' r1 (fun b hb => Below.heap_setCell w6 _ _ b (fun e => ne6 (by rw [hb, e])))
          · refine Below.setCell (Below.grown ((HB.out.trans (hb5.mono (by omega))).alloc (by omega) _) r2 (by simp; omega) (fun b hb => own_ge HO.out b hb.symm)) (by simp only; omega) _
        have HRUN : Hid ((Builtin.append_ #[58, 58] 58 #[.slice va i vc, .slice (some ⟨w5.heap.size, 0, none⟩) 1 1]).run Tryz.prog (w5.alloc (.cells #[.bool false, .int .i64 0] 31)) = .ok (.slice (some ⟨g', 0, none⟩) (i + 1) cap') w6) := hrun
        clear hrun r1 r2 own5 b6 e5 e6 hb5 ne5 ne6 s6
        go_wp2_with fail
        try simp only [Act.put, List.getElem_toArray, List.getElem_cons_zero, List.getElem_cons_succ, List.setIfInBounds_toArray, List.set_cons_zero, List.set_cons_succ]
        refine wpAny_ready (rs := [1, 3]) (by kernel_rfl) (by simp) ?_
        refine AllReady.cons rfl (fun K hK => ?_) ?_
        · go_simp
          refine hK _ _ ?_
          clear hK K
          try simp only [Act.put, List.getElem_toArray, List.getElem_cons_zero, List.getElem_cons_succ, List.setIfInBounds_toArray, List.set_cons_zero, List.set_cons_succ]
          refine wpAny_ready (rs := [3]) (by kernel_rfl) (by simp) ?_
          refine AllReady.cons rfl (fun K hK => ?_) AllReady.nil
          go_simp
          refine hK _ _ ?_
          clear hK K
          try simp only [Act.put, List.getElem_toArray, List.getElem_cons_zero, List.getElem_cons_succ, List.setIfInBounds_toArray, List.set_cons_zero, List.set_cons_succ]
          refine wpAny_ready (rs := [4]) (by kernel_rfl) (by simp) ?_
          refine AllReady.cons rfl (fun K hK => ?_) AllReady.nil
          refine op_appP rfl _ _ _ rfl _ _ _ rfl rfl HRUN.out ?_
          refine hK _ _ ?_
          clear hK K
          try simp only [Act.put, List.getElem_toArray, List.getElem_cons_zero, List.getElem_cons_succ, List.setIfInBounds_toArray, List.set_cons_zero, List.set_cons_succ]
          refine wpAny_take (i := 5) (v := .pointer (some ⟨w.heap.size + 1 + 1 + 1 + 1, 2, none⟩)) rfl (by kernel_rfl) (by kernel_rfl) (by kernel_rfl) (fun _ _ _ h => h) (Or.inl ⟨by rfl, by (intro w; go_simp)⟩) ?_
          try simp only [Act.put, List.getElem_toArray, List.getElem_cons_zero, List.getElem_cons_succ, List.setIfInBounds_toArray, List.set_cons_zero, List.set_cons_succ]
          refine wpAny_ready (rs := [6]) (by kernel_rfl) (by simp) ?_
          refine AllReady.cons rfl (fun K hK => ?_) AllReady.nil
          go_simp
          refine hK _ _ ?_
          clear hK K
          try simp only [Act.put, List.getElem_toArray, List.getElem_cons_zero, List.getElem_cons_succ, List.setIfInBounds_toArray, List.set_cons_zero, List.set_cons_succ]
          refine wpAny_done (by kernel_rfl) ?_ _
          go_wp2_with fail
          exact ⟨⟨i + 1, _, _, by omega, FIN.out.1, FIN.out.2.1, FIN.out.2.2.1, FIN.out.2.2.2.1⟩, by rw [FIN.out.2.2.2.2, f2]; simp only [slLen]; omega⟩
        refine AllReady.cons rfl (fun K hK => ?_) AllReady.nil
        go_simp
        refine hK _ _ ?_
        clear hK K
        try simp only [Act.put, List.getElem_toArray, List.getElem_cons_zero, List.getElem_cons_succ, List.setIfInBounds_toArray, List.set_cons_zero, List.set_cons_succ]
        refine wpAny_ready (rs := [1]) (by kernel_rfl) (by simp) ?_
        refine AllReady.cons rfl (fun K hK => ?_) AllReady.nil
        go_simp
        refine hK _ _ ?_
        clear hK K
        try simp only [Act.put, List.getElem_toArray, List.getElem_cons_zero, List.getElem_cons_succ, List.setIfInBounds_toArray, List.set_cons_zero, List.set_cons_succ]
        refine wpAny_ready (rs := [4]) (by kernel_rfl) (by simp) ?_
        refine AllReady.cons rfl (fun K hK => ?_) AllReady.nil
        refine op_appP rfl _ _ _ rfl _ _ _ rfl rfl HRUN.out ?_
        refine hK _ _ ?_
        clear hK K
        try simp only [Act.put, List.getElem_toArray, List.getElem_cons_zero, List.getElem_cons_succ, List.setIfInBounds_toArray, List.set_cons_zero, List.set_cons_succ]
        refine wpAny_take (i := 5) (v := .pointer (some ⟨w.heap.size + 1 + 1 + 1 + 1, 2, none⟩)) rfl (by kernel_rfl) (by kernel_rfl) (by kernel_rfl) (fun _ _ _ h => h) (Or.inl ⟨by rfl, by (intro w; go_simp)⟩) ?_
        try simp only [Act.put, List.getElem_toArray, List.getElem_cons_zero, List.getElem_cons_succ, List.setIfInBounds_toArray, List.set_cons_zero, List.set_cons_succ]
        refine wpAny_ready (rs := [6]) (by kernel_rfl) (by simp) ?_
        refine AllReady.cons rfl (fun K hK => ?_) AllReady.nil
        go_simp
        refine hK _ _ ?_
        clear hK K
        try simp only [Act.put, List.getElem_toArray, List.getElem_cons_zero, List.getElem_cons_succ, List.setIfInBounds_toArray, List.set_cons_zero, List.set_cons_succ]
        refine wpAny_done (by kernel_rfl) ?_ _
        go_wp2_with fail
        exact ⟨⟨i + 1, _, _, by omega, FIN.out.1, FIN.out.2.1, FIN.out.2.2.1, FIN.out.2.2.2.1⟩, by rw [FIN.out.2.2.2.2, f2]; simp only [slLen]; omega⟩
    · obtain rfl : i = n := by omega
      have f0 : wr.cell? ⟨w.heap.size + 1 + 1 + 1 + 1, 0, none⟩ = some (.int .i64 0) := (boxG HF.out 0).1
      have f1 : wr.cell? ⟨w.heap.size + 1 + 1 + 1 + 1, 1, none⟩ = some (.int .i64 0) := (boxG HF.out 1).1
      have f3 : wr.cell? ⟨w.heap.size + 1 + 1 + 1 + 1, 3, none⟩ = some (.slice (some ⟨w.heap.size + 1 + 1 + 1, 0, none⟩) 0 0) := (boxG HF.out 3).1
      have R : Hid (wr.heap[w.heap.size + 1]? = some (.cells #[.int .i64 0, .int .i64 0, .slice none 0 0, .slice none 0 0] 60 (0, 0))) := (HB.out.block _ (by omega)).trans (boxN _ _ _ _ (by simp))
      have r0 := boxG R.out 0
      have r1 := boxG R.out 1
      have r2 := boxG R.out 2
      have r3 := boxG R.out 3
      simp only [List.getElem?_toArray, List.getElem?_cons_zero, List.getElem?_cons_succ] at r0 r1 r2 r3
      obtain ⟨r0, q0⟩ := r0
      obtain ⟨r1, q1⟩ := r1
      obtain ⟨r2, q2⟩ := r2
      obtain ⟨r3, q3⟩ := r3
      have hs1 : w.heap.size + 1 < wr.heap.size := by omega
      go_wp2_with fail
      go_region
      all_goals
        go_wp2_with fail
        refine bodyPost_ret (v := .agg #[.int .i64 0, .int .i64 0, .slice va i vc, .slice (some ⟨w.heap.size + 1 + 1 + 1, 0, none⟩) 0 0]) ?_ rfl ⟨_, _, _, _, rfl, ?_, ?_⟩
        · simp [results, Tryz.results22, go_sem, *]
        · have o1 := own_set HO.out ⟨w.heap.size + 1, 0, none⟩ (.int .i64 0) (by simp only; omega)
          have o2 := own_set o1 ⟨w.heap.size + 1, 1, none⟩ (.int .i64 0) (by simp only; omega)
          have o3 := own_set o2 ⟨w.heap.size + 1, 2, none⟩ (.slice va i vc) (by simp only; omega)
          have o4 := own_set o3 ⟨w.heap.size + 1, 3, none⟩ (.slice (some ⟨w.heap.size + 1 + 1 + 1, 0, none⟩) 0 0) (by simp only; omega)
          exact (own_vals (own_keep' o4 (w' := World.drew _) (fun _ _ => rfl)) (fun x hx => by obtain rfl := List.eq_of_mem_replicate hx; unfold i64B; simp) (by omega)).mono (fun b hb _ => by omega)
        · have hb0 : Below w.heap.size w wr := (((Below.refl w.heap.size w).alloc (Nat.le_refl _) _).alloc (by simp) _).trans (HB.out.mono (by omega))
          exact bdrew ((((hb0.setCell (by simp only; omega) _).setCell (by simp only; omega) _).setCell (by simp only; omega) _).setCell (by simp only; omega) _)


theorem frame_at {w : World} {FB n : Nat} {la sa : Option Addr} {lc sc : Nat} {D : Nat → Prop} {vs : List Vl} (h : w.heap[FB]? = some (.cells #[.int .i64 0, .int .i64 0, .slice la n lc, .slice sa 0 sc] 60 (0, 0))) (hD : D FB) (hl : SlAt vaR D w la n vs) : SlAt frR D w (some ⟨FB, 0, none⟩) 1 [(0, 0, vs, [])] := by
  refine ⟨rfl, by omega, .inr ⟨FB, 0, rfl, hD, fun i x hx => ?_⟩⟩
  match i, hx with
  | 0, hx =>
    obtain rfl : (0, 0, vs, []) = x := by simpa using hx
    refine ⟨[.int .i64 0, .int .i64 0, .slice la n lc, .slice sa 0 sc], ⟨_, _, rfl, ⟨rfl, by unfold i64B; simp⟩, _, _, rfl, ⟨rfl, by unfold i64B; simp⟩, _, _, rfl, ⟨la, n, lc, rfl, hl⟩, sa, 0, sc, rfl, rfl, by omega, .inl rfl⟩, fun j v hv => ?_⟩
    have := (boxG h j).1
    simp only [Nat.zero_mul, Nat.add_zero, Nat.zero_add]
    rw [this]
    simpa using hv
/-- How many locals the first method has. -/
def loc0 (M : List Me) : Nat := (me M 0).2.2.2.2.1.toNat
theorem loc_ok {L : List Cl} {M : List Me} (ok : unitB L M = true) : M[0]? = some (me M 0) ∧ (me M 0).2.2.2.2.1 = (loc0 M : Int) ∧ loc0 M ≤ 3 := by
  have hf := unit_few ok
  have hm := unit_meth ok (i := 0) (by omega)
  have e : M[0]? = some (me M 0) := by rw [me, List.getD_eq_getElem?_getD, List.getElem?_eq_getElem (by omega)]; rfl
  rcases h : me M 0 with ⟨c, s, args, o, lo, X, Y, Z⟩
  rw [h] at hm
  have := meth_head hm
  have hs : 0 ≤ selfN c := by unfold selfN; split <;> omega
  refine ⟨by rw [← h]; exact e, ?_, ?_⟩
  · simp only [loc0, h]; omega
  · simp only [loc0, h]; omega

set_option maxRecDepth 100000 in
set_option maxHeartbeats 8000000 in
theorem machNewSpec (ca : Option Addr) (cn cc : Nat) (ma : Option Addr) (mn mc : Nat) (L : List Cl) (M : List Me) (w : World) {D E G : Nat → Prop} (h : ClsAt D E w ca cn L) (hM : SlAt meR G w ma mn M) :
    Calls Tryz.prog 6 #[.agg #[.slice ca cn cc, .slice ma mn mc]] w fun e w' => (unitB L M = false ∧ e = .returned (.agg #[.slice none 0 0, .slice none 0 0, .slice none 0 0, .int .i64 0, .int .i64 0, .bool false, .int .i64 0]) ∧ Below w.heap.size w w') ∨ (unitB L M = true ∧ ∃ oa oc fa fc sa sc, e = .returned (.agg #[.slice oa 7 oc, .slice fa 1 fc, .slice sa 0 sc, .int .i64 0, .int .i64 0, .bool false, .int .i64 0]) ∧ SlAt obR (fun b => w.heap.size ≤ b) w' oa 7 faults ∧ SlAt frR (fun b => w.heap.size ≤ b) w' fa 1 [(0, 0, List.replicate (loc0 M) (false, 0), [])] ∧ Below w.heap.size w w') := by
  have H : Hid (ClsAt D E w ca cn L) := h
  have HM : Hid (SlAt meR G w ma mn M) := hM
  have B0 : Hid (Below w.heap.size w ((w.alloc (.cells #[.slice ca cn cc, .slice ma mn mc] 38)).alloc (.cells #[.slice none 0 0, .slice none 0 0, .slice none 0 0, .int .i64 0, .int .i64 0, .bool false, .int .i64 0] 33))) := ((Below.refl _ _).alloc (Nat.le_refl _) _).alloc (by simp) _
  have KS : Hid (∀ x : World, Below (w.heap.size + 1) (w.alloc (.cells #[.slice ca cn cc, .slice ma mn mc] 38)) x → x.cell? ⟨w.heap.size, 0, none⟩ = some (.slice ca cn cc) ∧ x.cell? ⟨w.heap.size, 1, none⟩ = some (.slice ma mn mc)) := fun x hb => ⟨box_cell hb 0 _ rfl, box_cell hb 1 _ rfl⟩
  clear h hM
  go_enter Tryz.func6, Tryz.ntmps6
  go_wp2_with fail
  refine (unitSpec _ _ _ _ _ _ L M _ (H.out.later B0.out) (HM.out.later B0.out)).mono ?_
  rintro e w1 ⟨rfl, hb1⟩
  have D0 : Hid (Below (w.heap.size + 1 + 1) ((w.alloc (.cells #[.slice ca cn cc, .slice ma mn mc] 38)).alloc (.cells #[.slice none 0 0, .slice none 0 0, .slice none 0 0, .int .i64 0, .int .i64 0, .bool false, .int .i64 0] 33)) w1) := by show Below _ _ _; simpa using hb1
  have rR : w1.heap[w.heap.size + 1]? = some (.cells #[.slice none 0 0, .slice none 0 0, .slice none 0 0, .int .i64 0, .int .i64 0, .bool false, .int .i64 0] 33 (0, 0)) := (D0.out.block _ (by omega)).trans (boxN _ _ _ _ (by simp))
  have s1 : w.heap.size + 1 < w1.heap.size := by have := D0.out.size; simp at this; omega
  clear hb1
  cases ok : unitB L M
  · have z0 : w1.cell? ⟨w.heap.size + 1, 0, none⟩ = some (.slice none 0 0) := (boxG rR 0).1
    have f0 : w1.frozen? ⟨w.heap.size + 1, 0, none⟩ = false := (boxG rR 0).2
    have z1 : w1.cell? ⟨w.heap.size + 1, 1, none⟩ = some (.slice none 0 0) := (boxG rR 1).1
    have f1 : w1.frozen? ⟨w.heap.size + 1, 1, none⟩ = false := (boxG rR 1).2
    have z2 : w1.cell? ⟨w.heap.size + 1, 2, none⟩ = some (.slice none 0 0) := (boxG rR 2).1
    have f2 : w1.frozen? ⟨w.heap.size + 1, 2, none⟩ = false := (boxG rR 2).2
    have z3 : w1.cell? ⟨w.heap.size + 1, 3, none⟩ = some (.int .i64 0) := (boxG rR 3).1
    have f3 : w1.frozen? ⟨w.heap.size + 1, 3, none⟩ = false := (boxG rR 3).2
    have z4 : w1.cell? ⟨w.heap.size + 1, 4, none⟩ = some (.int .i64 0) := (boxG rR 4).1
    have f4 : w1.frozen? ⟨w.heap.size + 1, 4, none⟩ = false := (boxG rR 4).2
    have z5 : w1.cell? ⟨w.heap.size + 1, 5, none⟩ = some (.bool false) := (boxG rR 5).1
    have f5 : w1.frozen? ⟨w.heap.size + 1, 5, none⟩ = false := (boxG rR 5).2
    have z6 : w1.cell? ⟨w.heap.size + 1, 6, none⟩ = some (.int .i64 0) := (boxG rR 6).1
    have f6 : w1.frozen? ⟨w.heap.size + 1, 6, none⟩ = false := (boxG rR 6).2
    go_wp2_with fail
    refine bodyPost_ret (v := .agg #[.slice none 0 0, .slice none 0 0, .slice none 0 0, .int .i64 0, .int .i64 0, .bool false, .int .i64 0]) ?_ rfl (.inl ⟨ok, rfl, ?_⟩)
    · simp [results, Tryz.results6, go_sem, *]
    · (repeat (refine Below.setCell ?_ (by simp only; omega) _))
      exact B0.out.trans (D0.out.mono (by omega))
  · obtain ⟨hx, hn, hn3⟩ := loc_ok ok
    have HX : Hid (M[0]? = some (me M 0)) := hx
    have HN : Hid ((me M 0).2.2.2.2.1 = (loc0 M : Int)) := hn
    obtain ⟨n, en⟩ : ∃ n, loc0 M = n := ⟨_, rfl⟩
    have EN : Hid (loc0 M = n) := en
    rw [en] at hn3 HN
    generalize me M 0 = x at *
    clear hx hn rR en
    replace D0 : Hid (Below (w.heap.size + 1 + 1) ((w.alloc (.cells #[.slice ca cn cc, .slice ma mn mc] 38)).alloc (.cells #[.slice none 0 0, .slice none 0 0, .slice none 0 0, .int .i64 0, .int .i64 0, .bool false, .int .i64 0] 33)) (w1.drewN 1)) := bdrew D0.out
    go_wp2_with fail
    refine wp_region_held_drew (S := fun x => x.cell? ⟨w.heap.size, 0, none⟩ = some (.slice ca cn cc) ∧ x.cell? ⟨w.heap.size, 1, none⟩ = some (.slice ma mn mc)) (by kernel_rfl) ?_ (fun hHeld => ?_)
    · exact KS.out _ (((Below.refl _ _).alloc (by simp) _).trans (D0.out.mono (by omega)))
    refine wpAnyH_take (i := 1) (v := .agg #[.slice ca cn cc, .slice ma mn mc]) rfl (by kernel_rfl) (by kernel_rfl) (by kernel_rfl) (fun _ _ _ h => h) (Or.inl ⟨by kernel_rfl, by (intro x hSx; (try dsimp only at hSx); go_simp)⟩) (by assumption) ?_
    try simp only [Act.put, List.getElem_toArray, List.getElem_cons_zero, List.getElem_cons_succ, List.setIfInBounds_toArray, List.set_cons_zero, List.set_cons_succ]
    refine wpAnyH_ready (rs := [0, 4]) (by kernel_rfl) (by simp) ?_
    refine AllReadyH.cons rfl (fun K hK => ?_) (AllReadyH.cons rfl (fun K hK => ?_) AllReadyH.nil)
    · go_simp
      go_at_call 21
      refine (faultsSpec _).mono ?_
      rintro e wa ⟨fa, fc, rfl, hS, hb⟩
      have D1 : Hid (Below (w.heap.size + 1 + 1) ((w.alloc (.cells #[.slice ca cn cc, .slice ma mn mc] 38)).alloc (.cells #[.slice none 0 0, .slice none 0 0, .slice none 0 0, .int .i64 0, .int .i64 0, .bool false, .int .i64 0] 33)) wa) := D0.out.trans (Below.mono (hb) (by have := D0.out.size; simpa using this))
      have PA : Hid (∀ y, Below wa.heap.size wa y → SlAt obR (fun b => w.heap.size + 1 + 1 ≤ b) y fa 7 faults) := fun y hy => (hS.mono (fun b hb1 _ => Nat.le_trans (by have := D0.out.size; simpa using this) hb1)).later hy
      clear hS hb
      go_wp2_with fail
      refine hK.out _ _ (KS.out _ (((Below.refl _ _).alloc (by simp) _).trans (D1.out.mono (by omega)))) (fun hHeld2 => ?_)
      clear hK K
      try simp only [Act.put, List.getElem_toArray, List.getElem_cons_zero, List.getElem_cons_succ, List.setIfInBounds_toArray, List.set_cons_zero, List.set_cons_succ]
      refine wpAnyH_ready (rs := [2, 4]) (by kernel_rfl) (by simp) ?_
      refine AllReadyH.cons rfl (fun K hK => ?_) (AllReadyH.cons rfl (fun K hK => ?_) AllReadyH.nil)
      · go_simp
        go_at_call 22
        refine (frame0Spec _ _ _ _ _ _ M n x _ (HM.out.later (B0.out.trans (D1.out.mono (by omega)))) HX.out HN.out hn3).mono ?_
        rintro e wb ⟨la, lc, sa, sc, rfl, hS, hb⟩
        replace PA : Hid (∀ y, Below wb.heap.size wb y → SlAt obR (fun b => w.heap.size + 1 + 1 ≤ b) y fa 7 faults) := fun y hy => PA.out y (Below.trans (hb) (hy.mono (Below.size (hb))))
        have D2 : Hid (Below (w.heap.size + 1 + 1) ((w.alloc (.cells #[.slice ca cn cc, .slice ma mn mc] 38)).alloc (.cells #[.slice none 0 0, .slice none 0 0, .slice none 0 0, .int .i64 0, .int .i64 0, .bool false, .int .i64 0] 33)) wb) := D1.out.trans (Below.mono (hb) (by have := D1.out.size; simpa using this))
        have PB : Hid (∀ y, Below wb.heap.size wb y → SlAt vaR (fun b => w.heap.size + 1 + 1 ≤ b) y la n (List.replicate n (false, 0))) := fun y hy => (hS.mono (fun b hb1 _ => Nat.le_trans (by have := D1.out.size; simpa using this) hb1)).later hy
        clear hS hb
        go_wp2_with fail
        refine hK.out _ _ (KS.out _ (((Below.refl _ _).alloc (by simp) _).trans (D2.out.mono (by omega)))) (fun hHeld3 => ?_)
        clear hK K
        try simp only [Act.put, List.getElem_toArray, List.getElem_cons_zero, List.getElem_cons_succ, List.setIfInBounds_toArray, List.set_cons_zero, List.set_cons_succ]
        refine wpAnyH_ready (rs := [3, 4]) (by kernel_rfl) (by simp) ?_
        refine AllReadyH.cons rfl (fun K hK => ?_) (AllReadyH.cons rfl (fun K hK => ?_) AllReadyH.nil)
        · go_simp
          replace PA : Hid (∀ y, Below (wb.alloc (.cells #[.int .i64 0, .int .i64 0, .slice la n lc, .slice sa 0 sc] 60)).heap.size (wb.alloc (.cells #[.int .i64 0, .int .i64 0, .slice la n lc, .slice sa 0 sc] 60)) y → SlAt obR (fun b => w.heap.size + 1 + 1 ≤ b) y fa 7 faults) := fun y hy => PA.out y (Below.trans ((Below.refl wb.heap.size wb).alloc (Nat.le_refl _) _) (hy.mono (Below.size ((Below.refl wb.heap.size wb).alloc (Nat.le_refl _) _))))
          replace PB : Hid (∀ y, Below (wb.alloc (.cells #[.int .i64 0, .int .i64 0, .slice la n lc, .slice sa 0 sc] 60)).heap.size (wb.alloc (.cells #[.int .i64 0, .int .i64 0, .slice la n lc, .slice sa 0 sc] 60)) y → SlAt vaR (fun b => w.heap.size + 1 + 1 ≤ b) y la n (List.replicate n (false, 0))) := fun y hy => PB.out y (Below.trans ((Below.refl wb.heap.size wb).alloc (Nat.le_refl _) _) (hy.mono (Below.size ((Below.refl wb.heap.size wb).alloc (Nat.le_refl _) _))))
          have D3 : Hid (Below (w.heap.size + 1 + 1) ((w.alloc (.cells #[.slice ca cn cc, .slice ma mn mc] 38)).alloc (.cells #[.slice none 0 0, .slice none 0 0, .slice none 0 0, .int .i64 0, .int .i64 0, .bool false, .int .i64 0] 33)) (wb.alloc (.cells #[.int .i64 0, .int .i64 0, .slice la n lc, .slice sa 0 sc] 60))) := D2.out.trans (Below.mono ((Below.refl wb.heap.size wb).alloc (Nat.le_refl _) _) (by have := D2.out.size; simpa using this))
          have hFB : w.heap.size + 1 + 1 ≤ wb.heap.size := by have := D2.out.size; simp at this; first | omega | (simp; omega)
          have PC : Hid (∀ y, Below (wb.alloc (.cells #[.int .i64 0, .int .i64 0, .slice la n lc, .slice sa 0 sc] 60)).heap.size (wb.alloc (.cells #[.int .i64 0, .int .i64 0, .slice la n lc, .slice sa 0 sc] 60)) y → y.heap[wb.heap.size]? = some (.cells #[.int .i64 0, .int .i64 0, .slice la n lc, .slice sa 0 sc] 60 (0, 0)) ∧ wb.heap.size < y.heap.size) := fun y hy => ⟨(hy.block _ (by simp)).trans (boxN _ _ _ _ (by simp)), Nat.lt_of_lt_of_le (by simp) hy.size⟩
          refine hK.out _ _ (KS.out _ (((Below.refl _ _).alloc (by simp) _).trans (D3.out.mono (by omega)))) (fun hHeld4 => ?_)
          clear hK K
          try simp only [Act.put, List.getElem_toArray, List.getElem_cons_zero, List.getElem_cons_succ, List.setIfInBounds_toArray, List.set_cons_zero, List.set_cons_succ]
          refine wpAnyH_ready (rs := [4]) (by kernel_rfl) (by simp) ?_
          refine AllReadyH.cons rfl (fun K hK => ?_) AllReadyH.nil
          go_simp
          replace PA : Hid (∀ y, Below ((wb.alloc (.cells #[.int .i64 0, .int .i64 0, .slice la n lc, .slice sa 0 sc] 60)).alloc (.cells #[] 3)).heap.size ((wb.alloc (.cells #[.int .i64 0, .int .i64 0, .slice la n lc, .slice sa 0 sc] 60)).alloc (.cells #[] 3)) y → SlAt obR (fun b => w.heap.size + 1 + 1 ≤ b) y fa 7 faults) := fun y hy => PA.out y (Below.trans ((Below.refl (wb.alloc (.cells #[.int .i64 0, .int .i64 0, .slice la n lc, .slice sa 0 sc] 60)).heap.size (wb.alloc (.cells #[.int .i64 0, .int .i64 0, .slice la n lc, .slice sa 0 sc] 60))).alloc (Nat.le_refl _) _) (hy.mono (Below.size ((Below.refl (wb.alloc (.cells #[.int .i64 0, .int .i64 0, .slice la n lc, .slice sa 0 sc] 60)).heap.size (wb.alloc (.cells #[.int .i64 0, .int .i64 0, .slice la n lc, .slice sa 0 sc] 60))).alloc (Nat.le_refl _) _))))
          replace PB : Hid (∀ y, Below ((wb.alloc (.cells #[.int .i64 0, .int .i64 0, .slice la n lc, .slice sa 0 sc] 60)).alloc (.cells #[] 3)).heap.size ((wb.alloc (.cells #[.int .i64 0, .int .i64 0, .slice la n lc, .slice sa 0 sc] 60)).alloc (.cells #[] 3)) y → SlAt vaR (fun b => w.heap.size + 1 + 1 ≤ b) y la n (List.replicate n (false, 0))) := fun y hy => PB.out y (Below.trans ((Below.refl (wb.alloc (.cells #[.int .i64 0, .int .i64 0, .slice la n lc, .slice sa 0 sc] 60)).heap.size (wb.alloc (.cells #[.int .i64 0, .int .i64 0, .slice la n lc, .slice sa 0 sc] 60))).alloc (Nat.le_refl _) _) (hy.mono (Below.size ((Below.refl (wb.alloc (.cells #[.int .i64 0, .int .i64 0, .slice la n lc, .slice sa 0 sc] 60)).heap.size (wb.alloc (.cells #[.int .i64 0, .int .i64 0, .slice la n lc, .slice sa 0 sc] 60))).alloc (Nat.le_refl _) _))))
          replace PC : Hid (∀ y, Below ((wb.alloc (.cells #[.int .i64 0, .int .i64 0, .slice la n lc, .slice sa 0 sc] 60)).alloc (.cells #[] 3)).heap.size ((wb.alloc (.cells #[.int .i64 0, .int .i64 0, .slice la n lc, .slice sa 0 sc] 60)).alloc (.cells #[] 3)) y → y.heap[wb.heap.size]? = some (.cells #[.int .i64 0, .int .i64 0, .slice la n lc, .slice sa 0 sc] 60 (0, 0)) ∧ wb.heap.size < y.heap.size) := fun y hy => PC.out y (Below.trans ((Below.refl (wb.alloc (.cells #[.int .i64 0, .int .i64 0, .slice la n lc, .slice sa 0 sc] 60)).heap.size (wb.alloc (.cells #[.int .i64 0, .int .i64 0, .slice la n lc, .slice sa 0 sc] 60))).alloc (Nat.le_refl _) _) (hy.mono (Below.size ((Below.refl (wb.alloc (.cells #[.int .i64 0, .int .i64 0, .slice la n lc, .slice sa 0 sc] 60)).heap.size (wb.alloc (.cells #[.int .i64 0, .int .i64 0, .slice la n lc, .slice sa 0 sc] 60))).alloc (Nat.le_refl _) _))))
          have D4 : Hid (Below (w.heap.size + 1 + 1) ((w.alloc (.cells #[.slice ca cn cc, .slice ma mn mc] 38)).alloc (.cells #[.slice none 0 0, .slice none 0 0, .slice none 0 0, .int .i64 0, .int .i64 0, .bool false, .int .i64 0] 33)) ((wb.alloc (.cells #[.int .i64 0, .int .i64 0, .slice la n lc, .slice sa 0 sc] 60)).alloc (.cells #[] 3))) := D3.out.trans (Below.mono ((Below.refl (wb.alloc (.cells #[.int .i64 0, .int .i64 0, .slice la n lc, .slice sa 0 sc] 60)).heap.size (wb.alloc (.cells #[.int .i64 0, .int .i64 0, .slice la n lc, .slice sa 0 sc] 60))).alloc (Nat.le_refl _) _) (by have := D3.out.size; simpa using this))
          refine hK.out _ _ (KS.out _ (((Below.refl _ _).alloc (by simp) _).trans (D4.out.mono (by omega)))) (fun hHeld5 => ?_)
          clear hK K
          try simp only [Act.put, List.getElem_toArray, List.getElem_cons_zero, List.getElem_cons_succ, List.setIfInBounds_toArray, List.set_cons_zero, List.set_cons_succ]
          refine wpAnyH_take (i := 5) (v := .agg #[.slice fa 7 fc, .slice (some ⟨wb.heap.size, 0, none⟩) 1 1, .slice (some ⟨wb.heap.size + 1, 0, none⟩) 0 0, .int .i64 0, .int .i64 0, .bool false, .int .i64 0]) rfl (by kernel_rfl) (by kernel_rfl) (by kernel_rfl) (fun _ _ _ h => h) (Or.inl ⟨by kernel_rfl, by (intro x hSx; (try dsimp only at hSx); go_simp)⟩) (by assumption) ?_
          try simp only [Act.put, List.getElem_toArray, List.getElem_cons_zero, List.getElem_cons_succ, List.setIfInBounds_toArray, List.set_cons_zero, List.set_cons_succ]
          refine wpAnyH_ready (rs := [6]) (by kernel_rfl) (by simp) ?_
          refine AllReadyH.cons rfl (fun K hK => ?_) AllReadyH.nil
          have rR : ((wb.alloc (.cells #[.int .i64 0, .int .i64 0, .slice la n lc, .slice sa 0 sc] 60)).alloc (.cells #[] 3)).heap[w.heap.size + 1]? = some (.cells #[.slice none 0 0, .slice none 0 0, .slice none 0 0, .int .i64 0, .int .i64 0, .bool false, .int .i64 0] 33 (0, 0)) := (D4.out.block _ (by omega)).trans (boxN _ _ _ _ (by simp))
          have z0 : ((wb.alloc (.cells #[.int .i64 0, .int .i64 0, .slice la n lc, .slice sa 0 sc] 60)).alloc (.cells #[] 3)).cell? ⟨w.heap.size + 1, 0, none⟩ = some (.slice none 0 0) := (boxG rR 0).1
          have f0 : ((wb.alloc (.cells #[.int .i64 0, .int .i64 0, .slice la n lc, .slice sa 0 sc] 60)).alloc (.cells #[] 3)).frozen? ⟨w.heap.size + 1, 0, none⟩ = false := (boxG rR 0).2
          have z1 : ((wb.alloc (.cells #[.int .i64 0, .int .i64 0, .slice la n lc, .slice sa 0 sc] 60)).alloc (.cells #[] 3)).cell? ⟨w.heap.size + 1, 1, none⟩ = some (.slice none 0 0) := (boxG rR 1).1
          have f1 : ((wb.alloc (.cells #[.int .i64 0, .int .i64 0, .slice la n lc, .slice sa 0 sc] 60)).alloc (.cells #[] 3)).frozen? ⟨w.heap.size + 1, 1, none⟩ = false := (boxG rR 1).2
          have z2 : ((wb.alloc (.cells #[.int .i64 0, .int .i64 0, .slice la n lc, .slice sa 0 sc] 60)).alloc (.cells #[] 3)).cell? ⟨w.heap.size + 1, 2, none⟩ = some (.slice none 0 0) := (boxG rR 2).1
          have f2 : ((wb.alloc (.cells #[.int .i64 0, .int .i64 0, .slice la n lc, .slice sa 0 sc] 60)).alloc (.cells #[] 3)).frozen? ⟨w.heap.size + 1, 2, none⟩ = false := (boxG rR 2).2
          have z3 : ((wb.alloc (.cells #[.int .i64 0, .int .i64 0, .slice la n lc, .slice sa 0 sc] 60)).alloc (.cells #[] 3)).cell? ⟨w.heap.size + 1, 3, none⟩ = some (.int .i64 0) := (boxG rR 3).1
          have f3 : ((wb.alloc (.cells #[.int .i64 0, .int .i64 0, .slice la n lc, .slice sa 0 sc] 60)).alloc (.cells #[] 3)).frozen? ⟨w.heap.size + 1, 3, none⟩ = false := (boxG rR 3).2
          have z4 : ((wb.alloc (.cells #[.int .i64 0, .int .i64 0, .slice la n lc, .slice sa 0 sc] 60)).alloc (.cells #[] 3)).cell? ⟨w.heap.size + 1, 4, none⟩ = some (.int .i64 0) := (boxG rR 4).1
          have f4 : ((wb.alloc (.cells #[.int .i64 0, .int .i64 0, .slice la n lc, .slice sa 0 sc] 60)).alloc (.cells #[] 3)).frozen? ⟨w.heap.size + 1, 4, none⟩ = false := (boxG rR 4).2
          have z5 : ((wb.alloc (.cells #[.int .i64 0, .int .i64 0, .slice la n lc, .slice sa 0 sc] 60)).alloc (.cells #[] 3)).cell? ⟨w.heap.size + 1, 5, none⟩ = some (.bool false) := (boxG rR 5).1
          have f5 : ((wb.alloc (.cells #[.int .i64 0, .int .i64 0, .slice la n lc, .slice sa 0 sc] 60)).alloc (.cells #[] 3)).frozen? ⟨w.heap.size + 1, 5, none⟩ = false := (boxG rR 5).2
          have z6 : ((wb.alloc (.cells #[.int .i64 0, .int .i64 0, .slice la n lc, .slice sa 0 sc] 60)).alloc (.cells #[] 3)).cell? ⟨w.heap.size + 1, 6, none⟩ = some (.int .i64 0) := (boxG rR 6).1
          have f6 : ((wb.alloc (.cells #[.int .i64 0, .int .i64 0, .slice la n lc, .slice sa 0 sc] 60)).alloc (.cells #[] 3)).frozen? ⟨w.heap.size + 1, 6, none⟩ = false := (boxG rR 6).2
          have X1 : SlAt frR (fun b => w.heap.size + 1 + 1 ≤ b) ((wb.alloc (.cells #[.int .i64 0, .int .i64 0, .slice la n lc, .slice sa 0 sc] 60)).alloc (.cells #[] 3)) (some ⟨wb.heap.size, 0, none⟩) 1 [(0, 0, List.replicate n (false, 0), [])] := frame_at (PC.out ((wb.alloc (.cells #[.int .i64 0, .int .i64 0, .slice la n lc, .slice sa 0 sc] 60)).alloc (.cells #[] 3)) (Below.refl _ _)).1 hFB (PB.out ((wb.alloc (.cells #[.int .i64 0, .int .i64 0, .slice la n lc, .slice sa 0 sc] 60)).alloc (.cells #[] 3)) (Below.refl _ _))
          have FIN : Hid (SlAt obR (fun b => w.heap.size + 1 + 1 ≤ b) (((((((((wb.alloc (.cells #[.int .i64 0, .int .i64 0, .slice la n lc, .slice sa 0 sc] 60)).alloc (.cells #[] 3)).setCell ⟨w.heap.size + 1, 0, none⟩ (.slice fa 7 fc)).setCell ⟨w.heap.size + 1, 1, none⟩ (.slice (some ⟨wb.heap.size, 0, none⟩) 1 1)).setCell ⟨w.heap.size + 1, 2, none⟩ (.slice (some ⟨wb.heap.size + 1, 0, none⟩) 0 0)).setCell ⟨w.heap.size + 1, 3, none⟩ (.int .i64 0)).setCell ⟨w.heap.size + 1, 4, none⟩ (.int .i64 0)).setCell ⟨w.heap.size + 1, 5, none⟩ (.bool false)).setCell ⟨w.heap.size + 1, 6, none⟩ (.int .i64 0)) fa 7 faults ∧ SlAt frR (fun b => w.heap.size + 1 + 1 ≤ b) (((((((((wb.alloc (.cells #[.int .i64 0, .int .i64 0, .slice la n lc, .slice sa 0 sc] 60)).alloc (.cells #[] 3)).setCell ⟨w.heap.size + 1, 0, none⟩ (.slice fa 7 fc)).setCell ⟨w.heap.size + 1, 1, none⟩ (.slice (some ⟨wb.heap.size, 0, none⟩) 1 1)).setCell ⟨w.heap.size + 1, 2, none⟩ (.slice (some ⟨wb.heap.size + 1, 0, none⟩) 0 0)).setCell ⟨w.heap.size + 1, 3, none⟩ (.int .i64 0)).setCell ⟨w.heap.size + 1, 4, none⟩ (.int .i64 0)).setCell ⟨w.heap.size + 1, 5, none⟩ (.bool false)).setCell ⟨w.heap.size + 1, 6, none⟩ (.int .i64 0)) (some ⟨wb.heap.size, 0, none⟩) 1 [(0, 0, List.replicate n (false, 0), [])] ∧ Below (w.heap.size + 1) (w.alloc (.cells #[.slice ca cn cc, .slice ma mn mc] 38)) (((((((((wb.alloc (.cells #[.int .i64 0, .int .i64 0, .slice la n lc, .slice sa 0 sc] 60)).alloc (.cells #[] 3)).setCell ⟨w.heap.size + 1, 0, none⟩ (.slice fa 7 fc)).setCell ⟨w.heap.size + 1, 1, none⟩ (.slice (some ⟨wb.heap.size, 0, none⟩) 1 1)).setCell ⟨w.heap.size + 1, 2, none⟩ (.slice (some ⟨wb.heap.size + 1, 0, none⟩) 0 0)).setCell ⟨w.heap.size + 1, 3, none⟩ (.int .i64 0)).setCell ⟨w.heap.size + 1, 4, none⟩ (.int .i64 0)).setCell ⟨w.heap.size + 1, 5, none⟩ (.bool false)).setCell ⟨w.heap.size + 1, 6, none⟩ (.int .i64 0))) := by
            refine ⟨((((((((PA.out ((wb.alloc (.cells #[.int .i64 0, .int .i64 0, .slice la n lc, .slice sa 0 sc] 60)).alloc (.cells #[] 3)) (Below.refl _ _)).set ⟨w.heap.size + 1, 0, none⟩ (.slice fa 7 fc) (by simp only; omega)).set ⟨w.heap.size + 1, 1, none⟩ (.slice (some ⟨wb.heap.size, 0, none⟩) 1 1) (by simp only; omega)).set ⟨w.heap.size + 1, 2, none⟩ (.slice (some ⟨wb.heap.size + 1, 0, none⟩) 0 0) (by simp only; omega)).set ⟨w.heap.size + 1, 3, none⟩ (.int .i64 0) (by simp only; omega)).set ⟨w.heap.size + 1, 4, none⟩ (.int .i64 0) (by simp only; omega)).set ⟨w.heap.size + 1, 5, none⟩ (.bool false) (by simp only; omega)).set ⟨w.heap.size + 1, 6, none⟩ (.int .i64 0) (by simp only; omega)), (((((((X1.set ⟨w.heap.size + 1, 0, none⟩ (.slice fa 7 fc) (by simp only; omega)).set ⟨w.heap.size + 1, 1, none⟩ (.slice (some ⟨wb.heap.size, 0, none⟩) 1 1) (by simp only; omega)).set ⟨w.heap.size + 1, 2, none⟩ (.slice (some ⟨wb.heap.size + 1, 0, none⟩) 0 0) (by simp only; omega)).set ⟨w.heap.size + 1, 3, none⟩ (.int .i64 0) (by simp only; omega)).set ⟨w.heap.size + 1, 4, none⟩ (.int .i64 0) (by simp only; omega)).set ⟨w.heap.size + 1, 5, none⟩ (.bool false) (by simp only; omega)).set ⟨w.heap.size + 1, 6, none⟩ (.int .i64 0) (by simp only; omega)), ?_⟩
            (repeat (refine Below.setCell ?_ (by simp only; omega) _))
            exact ((Below.refl _ _).alloc (by simp) _).trans (D4.out.mono (by omega))
          clear rR X1 PA PB PC
          go_simp
          refine hK.out _ _ ?_ (fun hHeld6 => ?_)
          · exact KS.out _ FIN.out.2.2
          clear hK K
          try simp only [Act.put, List.getElem_toArray, List.getElem_cons_zero, List.getElem_cons_succ, List.setIfInBounds_toArray, List.set_cons_zero, List.set_cons_succ]
          refine wpAnyH_done (by kernel_rfl) ?_ _
          clear hHeld hHeld2 hHeld3 hHeld4 hHeld5 hHeld6
          obtain ⟨wz, hwz⟩ : ∃ x, x = (((((((((wb.alloc (.cells #[.int .i64 0, .int .i64 0, .slice la n lc, .slice sa 0 sc] 60)).alloc (.cells #[] 3)).setCell ⟨w.heap.size + 1, 0, none⟩ (.slice fa 7 fc)).setCell ⟨w.heap.size + 1, 1, none⟩ (.slice (some ⟨wb.heap.size, 0, none⟩) 1 1)).setCell ⟨w.heap.size + 1, 2, none⟩ (.slice (some ⟨wb.heap.size + 1, 0, none⟩) 0 0)).setCell ⟨w.heap.size + 1, 3, none⟩ (.int .i64 0)).setCell ⟨w.heap.size + 1, 4, none⟩ (.int .i64 0)).setCell ⟨w.heap.size + 1, 5, none⟩ (.bool false)).setCell ⟨w.heap.size + 1, 6, none⟩ (.int .i64 0)) := ⟨_, rfl⟩
          have q0 : wz.cell? ⟨w.heap.size + 1, 0, none⟩ = some (.slice fa 7 fc) ∧ wz.cell? ⟨w.heap.size + 1, 1, none⟩ = some (.slice (some ⟨wb.heap.size, 0, none⟩) 1 1) ∧ wz.cell? ⟨w.heap.size + 1, 2, none⟩ = some (.slice (some ⟨wb.heap.size + 1, 0, none⟩) 0 0) ∧ wz.cell? ⟨w.heap.size + 1, 3, none⟩ = some (.int .i64 0) ∧ wz.cell? ⟨w.heap.size + 1, 4, none⟩ = some (.int .i64 0) ∧ wz.cell? ⟨w.heap.size + 1, 5, none⟩ = some (.bool false) ∧ wz.cell? ⟨w.heap.size + 1, 6, none⟩ = some (.int .i64 0) := ⟨by rw [hwz]; simp [go_sem, *], by rw [hwz]; simp [go_sem, *], by rw [hwz]; simp [go_sem, *], by rw [hwz]; simp [go_sem, *], by rw [hwz]; simp [go_sem, *], by rw [hwz]; simp [go_sem, *], by rw [hwz]; simp [go_sem, *]⟩
          rw [← hwz] at FIN
          rw [← hwz]
          clear hwz z0 f0 z1 f1 z2 f2 z3 f3 z4 f4 z5 f5 z6 f6
          obtain ⟨q0, q1, q2, q3, q4, q5, q6⟩ := q0
          go_wp2_with fail
          refine bodyPost_ret (v := .agg #[.slice fa 7 fc, .slice (some ⟨wb.heap.size, 0, none⟩) 1 1, .slice (some ⟨wb.heap.size + 1, 0, none⟩) 0 0, .int .i64 0, .int .i64 0, .bool false, .int .i64 0]) ?_ rfl ?_
          · simp [results, Tryz.results6, go_sem, *]
          · exact .inr ⟨ok, _, _, _, _, _, _, rfl, FIN.out.1.mono (fun b hb _ => by omega), by rw [EN.out]; exact FIN.out.2.1.mono (fun b hb _ => by omega), box_below FIN.out.2.2⟩
        · go_simp
          replace PA : Hid (∀ y, Below (wb.alloc (.cells #[] 3)).heap.size (wb.alloc (.cells #[] 3)) y → SlAt obR (fun b => w.heap.size + 1 + 1 ≤ b) y fa 7 faults) := fun y hy => PA.out y (Below.trans ((Below.refl wb.heap.size wb).alloc (Nat.le_refl _) _) (hy.mono (Below.size ((Below.refl wb.heap.size wb).alloc (Nat.le_refl _) _))))
          replace PB : Hid (∀ y, Below (wb.alloc (.cells #[] 3)).heap.size (wb.alloc (.cells #[] 3)) y → SlAt vaR (fun b => w.heap.size + 1 + 1 ≤ b) y la n (List.replicate n (false, 0))) := fun y hy => PB.out y (Below.trans ((Below.refl wb.heap.size wb).alloc (Nat.le_refl _) _) (hy.mono (Below.size ((Below.refl wb.heap.size wb).alloc (Nat.le_refl _) _))))
          have D3 : Hid (Below (w.heap.size + 1 + 1) ((w.alloc (.cells #[.slice ca cn cc, .slice ma mn mc] 38)).alloc (.cells #[.slice none 0 0, .slice none 0 0, .slice none 0 0, .int .i64 0, .int .i64 0, .bool false, .int .i64 0] 33)) (wb.alloc (.cells #[] 3))) := D2.out.trans (Below.mono ((Below.refl wb.heap.size wb).alloc (Nat.le_refl _) _) (by have := D2.out.size; simpa using this))
          refine hK.out _ _ (KS.out _ (((Below.refl _ _).alloc (by simp) _).trans (D3.out.mono (by omega)))) (fun hHeld4 => ?_)
          clear hK K
          try simp only [Act.put, List.getElem_toArray, List.getElem_cons_zero, List.getElem_cons_succ, List.setIfInBounds_toArray, List.set_cons_zero, List.set_cons_succ]
          refine wpAnyH_ready (rs := [3]) (by kernel_rfl) (by simp) ?_
          refine AllReadyH.cons rfl (fun K hK => ?_) AllReadyH.nil
          go_simp
          replace PA : Hid (∀ y, Below ((wb.alloc (.cells #[] 3)).alloc (.cells #[.int .i64 0, .int .i64 0, .slice la n lc, .slice sa 0 sc] 60)).heap.size ((wb.alloc (.cells #[] 3)).alloc (.cells #[.int .i64 0, .int .i64 0, .slice la n lc, .slice sa 0 sc] 60)) y → SlAt obR (fun b => w.heap.size + 1 + 1 ≤ b) y fa 7 faults) := fun y hy => PA.out y (Below.trans ((Below.refl (wb.alloc (.cells #[] 3)).heap.size (wb.alloc (.cells #[] 3))).alloc (Nat.le_refl _) _) (hy.mono (Below.size ((Below.refl (wb.alloc (.cells #[] 3)).heap.size (wb.alloc (.cells #[] 3))).alloc (Nat.le_refl _) _))))
          replace PB : Hid (∀ y, Below ((wb.alloc (.cells #[] 3)).alloc (.cells #[.int .i64 0, .int .i64 0, .slice la n lc, .slice sa 0 sc] 60)).heap.size ((wb.alloc (.cells #[] 3)).alloc (.cells #[.int .i64 0, .int .i64 0, .slice la n lc, .slice sa 0 sc] 60)) y → SlAt vaR (fun b => w.heap.size + 1 + 1 ≤ b) y la n (List.replicate n (false, 0))) := fun y hy => PB.out y (Below.trans ((Below.refl (wb.alloc (.cells #[] 3)).heap.size (wb.alloc (.cells #[] 3))).alloc (Nat.le_refl _) _) (hy.mono (Below.size ((Below.refl (wb.alloc (.cells #[] 3)).heap.size (wb.alloc (.cells #[] 3))).alloc (Nat.le_refl _) _))))
          have D4 : Hid (Below (w.heap.size + 1 + 1) ((w.alloc (.cells #[.slice ca cn cc, .slice ma mn mc] 38)).alloc (.cells #[.slice none 0 0, .slice none 0 0, .slice none 0 0, .int .i64 0, .int .i64 0, .bool false, .int .i64 0] 33)) ((wb.alloc (.cells #[] 3)).alloc (.cells #[.int .i64 0, .int .i64 0, .slice la n lc, .slice sa 0 sc] 60))) := D3.out.trans (Below.mono ((Below.refl (wb.alloc (.cells #[] 3)).heap.size (wb.alloc (.cells #[] 3))).alloc (Nat.le_refl _) _) (by have := D3.out.size; simpa using this))
          have hFB : w.heap.size + 1 + 1 ≤ wb.heap.size + 1 := by have := D3.out.size; simp at this; first | omega | (simp; omega)
          have PC : Hid (∀ y, Below ((wb.alloc (.cells #[] 3)).alloc (.cells #[.int .i64 0, .int .i64 0, .slice la n lc, .slice sa 0 sc] 60)).heap.size ((wb.alloc (.cells #[] 3)).alloc (.cells #[.int .i64 0, .int .i64 0, .slice la n lc, .slice sa 0 sc] 60)) y → y.heap[wb.heap.size + 1]? = some (.cells #[.int .i64 0, .int .i64 0, .slice la n lc, .slice sa 0 sc] 60 (0, 0)) ∧ wb.heap.size + 1 < y.heap.size) := fun y hy => ⟨(hy.block _ (by simp)).trans (boxN _ _ _ _ (by simp)), Nat.lt_of_lt_of_le (by simp) hy.size⟩
          refine hK.out _ _ (KS.out _ (((Below.refl _ _).alloc (by simp) _).trans (D4.out.mono (by omega)))) (fun hHeld5 => ?_)
          clear hK K
          try simp only [Act.put, List.getElem_toArray, List.getElem_cons_zero, List.getElem_cons_succ, List.setIfInBounds_toArray, List.set_cons_zero, List.set_cons_succ]
          refine wpAnyH_take (i := 5) (v := .agg #[.slice fa 7 fc, .slice (some ⟨wb.heap.size + 1, 0, none⟩) 1 1, .slice (some ⟨wb.heap.size, 0, none⟩) 0 0, .int .i64 0, .int .i64 0, .bool false, .int .i64 0]) rfl (by kernel_rfl) (by kernel_rfl) (by kernel_rfl) (fun _ _ _ h => h) (Or.inl ⟨by kernel_rfl, by (intro x hSx; (try dsimp only at hSx); go_simp)⟩) (by assumption) ?_
          try simp only [Act.put, List.getElem_toArray, List.getElem_cons_zero, List.getElem_cons_succ, List.setIfInBounds_toArray, List.set_cons_zero, List.set_cons_succ]
          refine wpAnyH_ready (rs := [6]) (by kernel_rfl) (by simp) ?_
          refine AllReadyH.cons rfl (fun K hK => ?_) AllReadyH.nil
          have rR : ((wb.alloc (.cells #[] 3)).alloc (.cells #[.int .i64 0, .int .i64 0, .slice la n lc, .slice sa 0 sc] 60)).heap[w.heap.size + 1]? = some (.cells #[.slice none 0 0, .slice none 0 0, .slice none 0 0, .int .i64 0, .int .i64 0, .bool false, .int .i64 0] 33 (0, 0)) := (D4.out.block _ (by omega)).trans (boxN _ _ _ _ (by simp))
          have z0 : ((wb.alloc (.cells #[] 3)).alloc (.cells #[.int .i64 0, .int .i64 0, .slice la n lc, .slice sa 0 sc] 60)).cell? ⟨w.heap.size + 1, 0, none⟩ = some (.slice none 0 0) := (boxG rR 0).1
          have f0 : ((wb.alloc (.cells #[] 3)).alloc (.cells #[.int .i64 0, .int .i64 0, .slice la n lc, .slice sa 0 sc] 60)).frozen? ⟨w.heap.size + 1, 0, none⟩ = false := (boxG rR 0).2
          have z1 : ((wb.alloc (.cells #[] 3)).alloc (.cells #[.int .i64 0, .int .i64 0, .slice la n lc, .slice sa 0 sc] 60)).cell? ⟨w.heap.size + 1, 1, none⟩ = some (.slice none 0 0) := (boxG rR 1).1
          have f1 : ((wb.alloc (.cells #[] 3)).alloc (.cells #[.int .i64 0, .int .i64 0, .slice la n lc, .slice sa 0 sc] 60)).frozen? ⟨w.heap.size + 1, 1, none⟩ = false := (boxG rR 1).2
          have z2 : ((wb.alloc (.cells #[] 3)).alloc (.cells #[.int .i64 0, .int .i64 0, .slice la n lc, .slice sa 0 sc] 60)).cell? ⟨w.heap.size + 1, 2, none⟩ = some (.slice none 0 0) := (boxG rR 2).1
          have f2 : ((wb.alloc (.cells #[] 3)).alloc (.cells #[.int .i64 0, .int .i64 0, .slice la n lc, .slice sa 0 sc] 60)).frozen? ⟨w.heap.size + 1, 2, none⟩ = false := (boxG rR 2).2
          have z3 : ((wb.alloc (.cells #[] 3)).alloc (.cells #[.int .i64 0, .int .i64 0, .slice la n lc, .slice sa 0 sc] 60)).cell? ⟨w.heap.size + 1, 3, none⟩ = some (.int .i64 0) := (boxG rR 3).1
          have f3 : ((wb.alloc (.cells #[] 3)).alloc (.cells #[.int .i64 0, .int .i64 0, .slice la n lc, .slice sa 0 sc] 60)).frozen? ⟨w.heap.size + 1, 3, none⟩ = false := (boxG rR 3).2
          have z4 : ((wb.alloc (.cells #[] 3)).alloc (.cells #[.int .i64 0, .int .i64 0, .slice la n lc, .slice sa 0 sc] 60)).cell? ⟨w.heap.size + 1, 4, none⟩ = some (.int .i64 0) := (boxG rR 4).1
          have f4 : ((wb.alloc (.cells #[] 3)).alloc (.cells #[.int .i64 0, .int .i64 0, .slice la n lc, .slice sa 0 sc] 60)).frozen? ⟨w.heap.size + 1, 4, none⟩ = false := (boxG rR 4).2
          have z5 : ((wb.alloc (.cells #[] 3)).alloc (.cells #[.int .i64 0, .int .i64 0, .slice la n lc, .slice sa 0 sc] 60)).cell? ⟨w.heap.size + 1, 5, none⟩ = some (.bool false) := (boxG rR 5).1
          have f5 : ((wb.alloc (.cells #[] 3)).alloc (.cells #[.int .i64 0, .int .i64 0, .slice la n lc, .slice sa 0 sc] 60)).frozen? ⟨w.heap.size + 1, 5, none⟩ = false := (boxG rR 5).2
          have z6 : ((wb.alloc (.cells #[] 3)).alloc (.cells #[.int .i64 0, .int .i64 0, .slice la n lc, .slice sa 0 sc] 60)).cell? ⟨w.heap.size + 1, 6, none⟩ = some (.int .i64 0) := (boxG rR 6).1
          have f6 : ((wb.alloc (.cells #[] 3)).alloc (.cells #[.int .i64 0, .int .i64 0, .slice la n lc, .slice sa 0 sc] 60)).frozen? ⟨w.heap.size + 1, 6, none⟩ = false := (boxG rR 6).2
          have X1 : SlAt frR (fun b => w.heap.size + 1 + 1 ≤ b) ((wb.alloc (.cells #[] 3)).alloc (.cells #[.int .i64 0, .int .i64 0, .slice la n lc, .slice sa 0 sc] 60)) (some ⟨wb.heap.size + 1, 0, none⟩) 1 [(0, 0, List.replicate n (false, 0), [])] := frame_at (PC.out ((wb.alloc (.cells #[] 3)).alloc (.cells #[.int .i64 0, .int .i64 0, .slice la n lc, .slice sa 0 sc] 60)) (Below.refl _ _)).1 hFB (PB.out ((wb.alloc (.cells #[] 3)).alloc (.cells #[.int .i64 0, .int .i64 0, .slice la n lc, .slice sa 0 sc] 60)) (Below.refl _ _))
          have FIN : Hid (SlAt obR (fun b => w.heap.size + 1 + 1 ≤ b) (((((((((wb.alloc (.cells #[] 3)).alloc (.cells #[.int .i64 0, .int .i64 0, .slice la n lc, .slice sa 0 sc] 60)).setCell ⟨w.heap.size + 1, 0, none⟩ (.slice fa 7 fc)).setCell ⟨w.heap.size + 1, 1, none⟩ (.slice (some ⟨wb.heap.size + 1, 0, none⟩) 1 1)).setCell ⟨w.heap.size + 1, 2, none⟩ (.slice (some ⟨wb.heap.size, 0, none⟩) 0 0)).setCell ⟨w.heap.size + 1, 3, none⟩ (.int .i64 0)).setCell ⟨w.heap.size + 1, 4, none⟩ (.int .i64 0)).setCell ⟨w.heap.size + 1, 5, none⟩ (.bool false)).setCell ⟨w.heap.size + 1, 6, none⟩ (.int .i64 0)) fa 7 faults ∧ SlAt frR (fun b => w.heap.size + 1 + 1 ≤ b) (((((((((wb.alloc (.cells #[] 3)).alloc (.cells #[.int .i64 0, .int .i64 0, .slice la n lc, .slice sa 0 sc] 60)).setCell ⟨w.heap.size + 1, 0, none⟩ (.slice fa 7 fc)).setCell ⟨w.heap.size + 1, 1, none⟩ (.slice (some ⟨wb.heap.size + 1, 0, none⟩) 1 1)).setCell ⟨w.heap.size + 1, 2, none⟩ (.slice (some ⟨wb.heap.size, 0, none⟩) 0 0)).setCell ⟨w.heap.size + 1, 3, none⟩ (.int .i64 0)).setCell ⟨w.heap.size + 1, 4, none⟩ (.int .i64 0)).setCell ⟨w.heap.size + 1, 5, none⟩ (.bool false)).setCell ⟨w.heap.size + 1, 6, none⟩ (.int .i64 0)) (some ⟨wb.heap.size + 1, 0, none⟩) 1 [(0, 0, List.replicate n (false, 0), [])] ∧ Below (w.heap.size + 1) (w.alloc (.cells #[.slice ca cn cc, .slice ma mn mc] 38)) (((((((((wb.alloc (.cells #[] 3)).alloc (.cells #[.int .i64 0, .int .i64 0, .slice la n lc, .slice sa 0 sc] 60)).setCell ⟨w.heap.size + 1, 0, none⟩ (.slice fa 7 fc)).setCell ⟨w.heap.size + 1, 1, none⟩ (.slice (some ⟨wb.heap.size + 1, 0, none⟩) 1 1)).setCell ⟨w.heap.size + 1, 2, none⟩ (.slice (some ⟨wb.heap.size, 0, none⟩) 0 0)).setCell ⟨w.heap.size + 1, 3, none⟩ (.int .i64 0)).setCell ⟨w.heap.size + 1, 4, none⟩ (.int .i64 0)).setCell ⟨w.heap.size + 1, 5, none⟩ (.bool false)).setCell ⟨w.heap.size + 1, 6, none⟩ (.int .i64 0))) := by
            refine ⟨((((((((PA.out ((wb.alloc (.cells #[] 3)).alloc (.cells #[.int .i64 0, .int .i64 0, .slice la n lc, .slice sa 0 sc] 60)) (Below.refl _ _)).set ⟨w.heap.size + 1, 0, none⟩ (.slice fa 7 fc) (by simp only; omega)).set ⟨w.heap.size + 1, 1, none⟩ (.slice (some ⟨wb.heap.size + 1, 0, none⟩) 1 1) (by simp only; omega)).set ⟨w.heap.size + 1, 2, none⟩ (.slice (some ⟨wb.heap.size, 0, none⟩) 0 0) (by simp only; omega)).set ⟨w.heap.size + 1, 3, none⟩ (.int .i64 0) (by simp only; omega)).set ⟨w.heap.size + 1, 4, none⟩ (.int .i64 0) (by simp only; omega)).set ⟨w.heap.size + 1, 5, none⟩ (.bool false) (by simp only; omega)).set ⟨w.heap.size + 1, 6, none⟩ (.int .i64 0) (by simp only; omega)), (((((((X1.set ⟨w.heap.size + 1, 0, none⟩ (.slice fa 7 fc) (by simp only; omega)).set ⟨w.heap.size + 1, 1, none⟩ (.slice (some ⟨wb.heap.size + 1, 0, none⟩) 1 1) (by simp only; omega)).set ⟨w.heap.size + 1, 2, none⟩ (.slice (some ⟨wb.heap.size, 0, none⟩) 0 0) (by simp only; omega)).set ⟨w.heap.size + 1, 3, none⟩ (.int .i64 0) (by simp only; omega)).set ⟨w.heap.size + 1, 4, none⟩ (.int .i64 0) (by simp only; omega)).set ⟨w.heap.size + 1, 5, none⟩ (.bool false) (by simp only; omega)).set ⟨w.heap.size + 1, 6, none⟩ (.int .i64 0) (by simp only; omega)), ?_⟩
            (repeat (refine Below.setCell ?_ (by simp only; omega) _))
            exact ((Below.refl _ _).alloc (by simp) _).trans (D4.out.mono (by omega))
          clear rR X1 PA PB PC
          go_simp
          refine hK.out _ _ ?_ (fun hHeld6 => ?_)
          · exact KS.out _ FIN.out.2.2
          clear hK K
          try simp only [Act.put, List.getElem_toArray, List.getElem_cons_zero, List.getElem_cons_succ, List.setIfInBounds_toArray, List.set_cons_zero, List.set_cons_succ]
          refine wpAnyH_done (by kernel_rfl) ?_ _
          clear hHeld hHeld2 hHeld3 hHeld4 hHeld5 hHeld6
          obtain ⟨wz, hwz⟩ : ∃ x, x = (((((((((wb.alloc (.cells #[] 3)).alloc (.cells #[.int .i64 0, .int .i64 0, .slice la n lc, .slice sa 0 sc] 60)).setCell ⟨w.heap.size + 1, 0, none⟩ (.slice fa 7 fc)).setCell ⟨w.heap.size + 1, 1, none⟩ (.slice (some ⟨wb.heap.size + 1, 0, none⟩) 1 1)).setCell ⟨w.heap.size + 1, 2, none⟩ (.slice (some ⟨wb.heap.size, 0, none⟩) 0 0)).setCell ⟨w.heap.size + 1, 3, none⟩ (.int .i64 0)).setCell ⟨w.heap.size + 1, 4, none⟩ (.int .i64 0)).setCell ⟨w.heap.size + 1, 5, none⟩ (.bool false)).setCell ⟨w.heap.size + 1, 6, none⟩ (.int .i64 0)) := ⟨_, rfl⟩
          have q0 : wz.cell? ⟨w.heap.size + 1, 0, none⟩ = some (.slice fa 7 fc) ∧ wz.cell? ⟨w.heap.size + 1, 1, none⟩ = some (.slice (some ⟨wb.heap.size + 1, 0, none⟩) 1 1) ∧ wz.cell? ⟨w.heap.size + 1, 2, none⟩ = some (.slice (some ⟨wb.heap.size, 0, none⟩) 0 0) ∧ wz.cell? ⟨w.heap.size + 1, 3, none⟩ = some (.int .i64 0) ∧ wz.cell? ⟨w.heap.size + 1, 4, none⟩ = some (.int .i64 0) ∧ wz.cell? ⟨w.heap.size + 1, 5, none⟩ = some (.bool false) ∧ wz.cell? ⟨w.heap.size + 1, 6, none⟩ = some (.int .i64 0) := ⟨by rw [hwz]; simp [go_sem, *], by rw [hwz]; simp [go_sem, *], by rw [hwz]; simp [go_sem, *], by rw [hwz]; simp [go_sem, *], by rw [hwz]; simp [go_sem, *], by rw [hwz]; simp [go_sem, *], by rw [hwz]; simp [go_sem, *]⟩
          rw [← hwz] at FIN
          rw [← hwz]
          clear hwz z0 f0 z1 f1 z2 f2 z3 f3 z4 f4 z5 f5 z6 f6
          obtain ⟨q0, q1, q2, q3, q4, q5, q6⟩ := q0
          go_wp2_with fail
          refine bodyPost_ret (v := .agg #[.slice fa 7 fc, .slice (some ⟨wb.heap.size + 1, 0, none⟩) 1 1, .slice (some ⟨wb.heap.size, 0, none⟩) 0 0, .int .i64 0, .int .i64 0, .bool false, .int .i64 0]) ?_ rfl ?_
          · simp [results, Tryz.results6, go_sem, *]
          · exact .inr ⟨ok, _, _, _, _, _, _, rfl, FIN.out.1.mono (fun b hb _ => by omega), by rw [EN.out]; exact FIN.out.2.1.mono (fun b hb _ => by omega), box_below FIN.out.2.2⟩
      · go_simp
        replace PA : Hid (∀ y, Below (wa.alloc (.cells #[] 3)).heap.size (wa.alloc (.cells #[] 3)) y → SlAt obR (fun b => w.heap.size + 1 + 1 ≤ b) y fa 7 faults) := fun y hy => PA.out y (Below.trans ((Below.refl wa.heap.size wa).alloc (Nat.le_refl _) _) (hy.mono (Below.size ((Below.refl wa.heap.size wa).alloc (Nat.le_refl _) _))))
        have D2 : Hid (Below (w.heap.size + 1 + 1) ((w.alloc (.cells #[.slice ca cn cc, .slice ma mn mc] 38)).alloc (.cells #[.slice none 0 0, .slice none 0 0, .slice none 0 0, .int .i64 0, .int .i64 0, .bool false, .int .i64 0] 33)) (wa.alloc (.cells #[] 3))) := D1.out.trans (Below.mono ((Below.refl wa.heap.size wa).alloc (Nat.le_refl _) _) (by have := D1.out.size; simpa using this))
        refine hK.out _ _ (KS.out _ (((Below.refl _ _).alloc (by simp) _).trans (D2.out.mono (by omega)))) (fun hHeld3 => ?_)
        clear hK K
        try simp only [Act.put, List.getElem_toArray, List.getElem_cons_zero, List.getElem_cons_succ, List.setIfInBounds_toArray, List.set_cons_zero, List.set_cons_succ]
        refine wpAnyH_ready (rs := [2]) (by kernel_rfl) (by simp) ?_
        refine AllReadyH.cons rfl (fun K hK => ?_) AllReadyH.nil
        go_simp
        go_at_call 22
        refine (frame0Spec _ _ _ _ _ _ M n x _ (HM.out.later (B0.out.trans (D2.out.mono (by omega)))) HX.out HN.out hn3).mono ?_
        rintro e wb ⟨la, lc, sa, sc, rfl, hS, hb⟩
        replace PA : Hid (∀ y, Below wb.heap.size wb y → SlAt obR (fun b => w.heap.size + 1 + 1 ≤ b) y fa 7 faults) := fun y hy => PA.out y (Below.trans (hb) (hy.mono (Below.size (hb))))
        have D3 : Hid (Below (w.heap.size + 1 + 1) ((w.alloc (.cells #[.slice ca cn cc, .slice ma mn mc] 38)).alloc (.cells #[.slice none 0 0, .slice none 0 0, .slice none 0 0, .int .i64 0, .int .i64 0, .bool false, .int .i64 0] 33)) wb) := D2.out.trans (Below.mono (hb) (by have := D2.out.size; simpa using this))
        have PB : Hid (∀ y, Below wb.heap.size wb y → SlAt vaR (fun b => w.heap.size + 1 + 1 ≤ b) y la n (List.replicate n (false, 0))) := fun y hy => (hS.mono (fun b hb1 _ => Nat.le_trans (by have := D2.out.size; simpa using this) hb1)).later hy
        clear hS hb
        go_wp2_with fail
        refine hK.out _ _ (KS.out _ (((Below.refl _ _).alloc (by simp) _).trans (D3.out.mono (by omega)))) (fun hHeld4 => ?_)
        clear hK K
        try simp only [Act.put, List.getElem_toArray, List.getElem_cons_zero, List.getElem_cons_succ, List.setIfInBounds_toArray, List.set_cons_zero, List.set_cons_succ]
        refine wpAnyH_ready (rs := [3]) (by kernel_rfl) (by simp) ?_
        refine AllReadyH.cons rfl (fun K hK => ?_) AllReadyH.nil
        go_simp
        replace PA : Hid (∀ y, Below (wb.alloc (.cells #[.int .i64 0, .int .i64 0, .slice la n lc, .slice sa 0 sc] 60)).heap.size (wb.alloc (.cells #[.int .i64 0, .int .i64 0, .slice la n lc, .slice sa 0 sc] 60)) y → SlAt obR (fun b => w.heap.size + 1 + 1 ≤ b) y fa 7 faults) := fun y hy => PA.out y (Below.trans ((Below.refl wb.heap.size wb).alloc (Nat.le_refl _) _) (hy.mono (Below.size ((Below.refl wb.heap.size wb).alloc (Nat.le_refl _) _))))
        replace PB : Hid (∀ y, Below (wb.alloc (.cells #[.int .i64 0, .int .i64 0, .slice la n lc, .slice sa 0 sc] 60)).heap.size (wb.alloc (.cells #[.int .i64 0, .int .i64 0, .slice la n lc, .slice sa 0 sc] 60)) y → SlAt vaR (fun b => w.heap.size + 1 + 1 ≤ b) y la n (List.replicate n (false, 0))) := fun y hy => PB.out y (Below.trans ((Below.refl wb.heap.size wb).alloc (Nat.le_refl _) _) (hy.mono (Below.size ((Below.refl wb.heap.size wb).alloc (Nat.le_refl _) _))))
        have D4 : Hid (Below (w.heap.size + 1 + 1) ((w.alloc (.cells #[.slice ca cn cc, .slice ma mn mc] 38)).alloc (.cells #[.slice none 0 0, .slice none 0 0, .slice none 0 0, .int .i64 0, .int .i64 0, .bool false, .int .i64 0] 33)) (wb.alloc (.cells #[.int .i64 0, .int .i64 0, .slice la n lc, .slice sa 0 sc] 60))) := D3.out.trans (Below.mono ((Below.refl wb.heap.size wb).alloc (Nat.le_refl _) _) (by have := D3.out.size; simpa using this))
        have hFB : w.heap.size + 1 + 1 ≤ wb.heap.size := by have := D3.out.size; simp at this; first | omega | (simp; omega)
        have PC : Hid (∀ y, Below (wb.alloc (.cells #[.int .i64 0, .int .i64 0, .slice la n lc, .slice sa 0 sc] 60)).heap.size (wb.alloc (.cells #[.int .i64 0, .int .i64 0, .slice la n lc, .slice sa 0 sc] 60)) y → y.heap[wb.heap.size]? = some (.cells #[.int .i64 0, .int .i64 0, .slice la n lc, .slice sa 0 sc] 60 (0, 0)) ∧ wb.heap.size < y.heap.size) := fun y hy => ⟨(hy.block _ (by simp)).trans (boxN _ _ _ _ (by simp)), Nat.lt_of_lt_of_le (by simp) hy.size⟩
        refine hK.out _ _ (KS.out _ (((Below.refl _ _).alloc (by simp) _).trans (D4.out.mono (by omega)))) (fun hHeld5 => ?_)
        clear hK K
        try simp only [Act.put, List.getElem_toArray, List.getElem_cons_zero, List.getElem_cons_succ, List.setIfInBounds_toArray, List.set_cons_zero, List.set_cons_succ]
        refine wpAnyH_take (i := 5) (v := .agg #[.slice fa 7 fc, .slice (some ⟨wb.heap.size, 0, none⟩) 1 1, .slice (some ⟨wa.heap.size, 0, none⟩) 0 0, .int .i64 0, .int .i64 0, .bool false, .int .i64 0]) rfl (by kernel_rfl) (by kernel_rfl) (by kernel_rfl) (fun _ _ _ h => h) (Or.inl ⟨by kernel_rfl, by (intro x hSx; (try dsimp only at hSx); go_simp)⟩) (by assumption) ?_
        try simp only [Act.put, List.getElem_toArray, List.getElem_cons_zero, List.getElem_cons_succ, List.setIfInBounds_toArray, List.set_cons_zero, List.set_cons_succ]
        refine wpAnyH_ready (rs := [6]) (by kernel_rfl) (by simp) ?_
        refine AllReadyH.cons rfl (fun K hK => ?_) AllReadyH.nil
        have rR : (wb.alloc (.cells #[.int .i64 0, .int .i64 0, .slice la n lc, .slice sa 0 sc] 60)).heap[w.heap.size + 1]? = some (.cells #[.slice none 0 0, .slice none 0 0, .slice none 0 0, .int .i64 0, .int .i64 0, .bool false, .int .i64 0] 33 (0, 0)) := (D4.out.block _ (by omega)).trans (boxN _ _ _ _ (by simp))
        have z0 : (wb.alloc (.cells #[.int .i64 0, .int .i64 0, .slice la n lc, .slice sa 0 sc] 60)).cell? ⟨w.heap.size + 1, 0, none⟩ = some (.slice none 0 0) := (boxG rR 0).1
        have f0 : (wb.alloc (.cells #[.int .i64 0, .int .i64 0, .slice la n lc, .slice sa 0 sc] 60)).frozen? ⟨w.heap.size + 1, 0, none⟩ = false := (boxG rR 0).2
        have z1 : (wb.alloc (.cells #[.int .i64 0, .int .i64 0, .slice la n lc, .slice sa 0 sc] 60)).cell? ⟨w.heap.size + 1, 1, none⟩ = some (.slice none 0 0) := (boxG rR 1).1
        have f1 : (wb.alloc (.cells #[.int .i64 0, .int .i64 0, .slice la n lc, .slice sa 0 sc] 60)).frozen? ⟨w.heap.size + 1, 1, none⟩ = false := (boxG rR 1).2
        have z2 : (wb.alloc (.cells #[.int .i64 0, .int .i64 0, .slice la n lc, .slice sa 0 sc] 60)).cell? ⟨w.heap.size + 1, 2, none⟩ = some (.slice none 0 0) := (boxG rR 2).1
        have f2 : (wb.alloc (.cells #[.int .i64 0, .int .i64 0, .slice la n lc, .slice sa 0 sc] 60)).frozen? ⟨w.heap.size + 1, 2, none⟩ = false := (boxG rR 2).2
        have z3 : (wb.alloc (.cells #[.int .i64 0, .int .i64 0, .slice la n lc, .slice sa 0 sc] 60)).cell? ⟨w.heap.size + 1, 3, none⟩ = some (.int .i64 0) := (boxG rR 3).1
        have f3 : (wb.alloc (.cells #[.int .i64 0, .int .i64 0, .slice la n lc, .slice sa 0 sc] 60)).frozen? ⟨w.heap.size + 1, 3, none⟩ = false := (boxG rR 3).2
        have z4 : (wb.alloc (.cells #[.int .i64 0, .int .i64 0, .slice la n lc, .slice sa 0 sc] 60)).cell? ⟨w.heap.size + 1, 4, none⟩ = some (.int .i64 0) := (boxG rR 4).1
        have f4 : (wb.alloc (.cells #[.int .i64 0, .int .i64 0, .slice la n lc, .slice sa 0 sc] 60)).frozen? ⟨w.heap.size + 1, 4, none⟩ = false := (boxG rR 4).2
        have z5 : (wb.alloc (.cells #[.int .i64 0, .int .i64 0, .slice la n lc, .slice sa 0 sc] 60)).cell? ⟨w.heap.size + 1, 5, none⟩ = some (.bool false) := (boxG rR 5).1
        have f5 : (wb.alloc (.cells #[.int .i64 0, .int .i64 0, .slice la n lc, .slice sa 0 sc] 60)).frozen? ⟨w.heap.size + 1, 5, none⟩ = false := (boxG rR 5).2
        have z6 : (wb.alloc (.cells #[.int .i64 0, .int .i64 0, .slice la n lc, .slice sa 0 sc] 60)).cell? ⟨w.heap.size + 1, 6, none⟩ = some (.int .i64 0) := (boxG rR 6).1
        have f6 : (wb.alloc (.cells #[.int .i64 0, .int .i64 0, .slice la n lc, .slice sa 0 sc] 60)).frozen? ⟨w.heap.size + 1, 6, none⟩ = false := (boxG rR 6).2
        have X1 : SlAt frR (fun b => w.heap.size + 1 + 1 ≤ b) (wb.alloc (.cells #[.int .i64 0, .int .i64 0, .slice la n lc, .slice sa 0 sc] 60)) (some ⟨wb.heap.size, 0, none⟩) 1 [(0, 0, List.replicate n (false, 0), [])] := frame_at (PC.out (wb.alloc (.cells #[.int .i64 0, .int .i64 0, .slice la n lc, .slice sa 0 sc] 60)) (Below.refl _ _)).1 hFB (PB.out (wb.alloc (.cells #[.int .i64 0, .int .i64 0, .slice la n lc, .slice sa 0 sc] 60)) (Below.refl _ _))
        have FIN : Hid (SlAt obR (fun b => w.heap.size + 1 + 1 ≤ b) ((((((((wb.alloc (.cells #[.int .i64 0, .int .i64 0, .slice la n lc, .slice sa 0 sc] 60)).setCell ⟨w.heap.size + 1, 0, none⟩ (.slice fa 7 fc)).setCell ⟨w.heap.size + 1, 1, none⟩ (.slice (some ⟨wb.heap.size, 0, none⟩) 1 1)).setCell ⟨w.heap.size + 1, 2, none⟩ (.slice (some ⟨wa.heap.size, 0, none⟩) 0 0)).setCell ⟨w.heap.size + 1, 3, none⟩ (.int .i64 0)).setCell ⟨w.heap.size + 1, 4, none⟩ (.int .i64 0)).setCell ⟨w.heap.size + 1, 5, none⟩ (.bool false)).setCell ⟨w.heap.size + 1, 6, none⟩ (.int .i64 0)) fa 7 faults ∧ SlAt frR (fun b => w.heap.size + 1 + 1 ≤ b) ((((((((wb.alloc (.cells #[.int .i64 0, .int .i64 0, .slice la n lc, .slice sa 0 sc] 60)).setCell ⟨w.heap.size + 1, 0, none⟩ (.slice fa 7 fc)).setCell ⟨w.heap.size + 1, 1, none⟩ (.slice (some ⟨wb.heap.size, 0, none⟩) 1 1)).setCell ⟨w.heap.size + 1, 2, none⟩ (.slice (some ⟨wa.heap.size, 0, none⟩) 0 0)).setCell ⟨w.heap.size + 1, 3, none⟩ (.int .i64 0)).setCell ⟨w.heap.size + 1, 4, none⟩ (.int .i64 0)).setCell ⟨w.heap.size + 1, 5, none⟩ (.bool false)).setCell ⟨w.heap.size + 1, 6, none⟩ (.int .i64 0)) (some ⟨wb.heap.size, 0, none⟩) 1 [(0, 0, List.replicate n (false, 0), [])] ∧ Below (w.heap.size + 1) (w.alloc (.cells #[.slice ca cn cc, .slice ma mn mc] 38)) ((((((((wb.alloc (.cells #[.int .i64 0, .int .i64 0, .slice la n lc, .slice sa 0 sc] 60)).setCell ⟨w.heap.size + 1, 0, none⟩ (.slice fa 7 fc)).setCell ⟨w.heap.size + 1, 1, none⟩ (.slice (some ⟨wb.heap.size, 0, none⟩) 1 1)).setCell ⟨w.heap.size + 1, 2, none⟩ (.slice (some ⟨wa.heap.size, 0, none⟩) 0 0)).setCell ⟨w.heap.size + 1, 3, none⟩ (.int .i64 0)).setCell ⟨w.heap.size + 1, 4, none⟩ (.int .i64 0)).setCell ⟨w.heap.size + 1, 5, none⟩ (.bool false)).setCell ⟨w.heap.size + 1, 6, none⟩ (.int .i64 0))) := by
          refine ⟨((((((((PA.out (wb.alloc (.cells #[.int .i64 0, .int .i64 0, .slice la n lc, .slice sa 0 sc] 60)) (Below.refl _ _)).set ⟨w.heap.size + 1, 0, none⟩ (.slice fa 7 fc) (by simp only; omega)).set ⟨w.heap.size + 1, 1, none⟩ (.slice (some ⟨wb.heap.size, 0, none⟩) 1 1) (by simp only; omega)).set ⟨w.heap.size + 1, 2, none⟩ (.slice (some ⟨wa.heap.size, 0, none⟩) 0 0) (by simp only; omega)).set ⟨w.heap.size + 1, 3, none⟩ (.int .i64 0) (by simp only; omega)).set ⟨w.heap.size + 1, 4, none⟩ (.int .i64 0) (by simp only; omega)).set ⟨w.heap.size + 1, 5, none⟩ (.bool false) (by simp only; omega)).set ⟨w.heap.size + 1, 6, none⟩ (.int .i64 0) (by simp only; omega)), (((((((X1.set ⟨w.heap.size + 1, 0, none⟩ (.slice fa 7 fc) (by simp only; omega)).set ⟨w.heap.size + 1, 1, none⟩ (.slice (some ⟨wb.heap.size, 0, none⟩) 1 1) (by simp only; omega)).set ⟨w.heap.size + 1, 2, none⟩ (.slice (some ⟨wa.heap.size, 0, none⟩) 0 0) (by simp only; omega)).set ⟨w.heap.size + 1, 3, none⟩ (.int .i64 0) (by simp only; omega)).set ⟨w.heap.size + 1, 4, none⟩ (.int .i64 0) (by simp only; omega)).set ⟨w.heap.size + 1, 5, none⟩ (.bool false) (by simp only; omega)).set ⟨w.heap.size + 1, 6, none⟩ (.int .i64 0) (by simp only; omega)), ?_⟩
          (repeat (refine Below.setCell ?_ (by simp only; omega) _))
          exact ((Below.refl _ _).alloc (by simp) _).trans (D4.out.mono (by omega))
        clear rR X1 PA PB PC
        go_simp
        refine hK.out _ _ ?_ (fun hHeld6 => ?_)
        · exact KS.out _ FIN.out.2.2
        clear hK K
        try simp only [Act.put, List.getElem_toArray, List.getElem_cons_zero, List.getElem_cons_succ, List.setIfInBounds_toArray, List.set_cons_zero, List.set_cons_succ]
        refine wpAnyH_done (by kernel_rfl) ?_ _
        clear hHeld hHeld2 hHeld3 hHeld4 hHeld5 hHeld6
        obtain ⟨wz, hwz⟩ : ∃ x, x = ((((((((wb.alloc (.cells #[.int .i64 0, .int .i64 0, .slice la n lc, .slice sa 0 sc] 60)).setCell ⟨w.heap.size + 1, 0, none⟩ (.slice fa 7 fc)).setCell ⟨w.heap.size + 1, 1, none⟩ (.slice (some ⟨wb.heap.size, 0, none⟩) 1 1)).setCell ⟨w.heap.size + 1, 2, none⟩ (.slice (some ⟨wa.heap.size, 0, none⟩) 0 0)).setCell ⟨w.heap.size + 1, 3, none⟩ (.int .i64 0)).setCell ⟨w.heap.size + 1, 4, none⟩ (.int .i64 0)).setCell ⟨w.heap.size + 1, 5, none⟩ (.bool false)).setCell ⟨w.heap.size + 1, 6, none⟩ (.int .i64 0)) := ⟨_, rfl⟩
        have q0 : wz.cell? ⟨w.heap.size + 1, 0, none⟩ = some (.slice fa 7 fc) ∧ wz.cell? ⟨w.heap.size + 1, 1, none⟩ = some (.slice (some ⟨wb.heap.size, 0, none⟩) 1 1) ∧ wz.cell? ⟨w.heap.size + 1, 2, none⟩ = some (.slice (some ⟨wa.heap.size, 0, none⟩) 0 0) ∧ wz.cell? ⟨w.heap.size + 1, 3, none⟩ = some (.int .i64 0) ∧ wz.cell? ⟨w.heap.size + 1, 4, none⟩ = some (.int .i64 0) ∧ wz.cell? ⟨w.heap.size + 1, 5, none⟩ = some (.bool false) ∧ wz.cell? ⟨w.heap.size + 1, 6, none⟩ = some (.int .i64 0) := ⟨by rw [hwz]; simp [go_sem, *], by rw [hwz]; simp [go_sem, *], by rw [hwz]; simp [go_sem, *], by rw [hwz]; simp [go_sem, *], by rw [hwz]; simp [go_sem, *], by rw [hwz]; simp [go_sem, *], by rw [hwz]; simp [go_sem, *]⟩
        rw [← hwz] at FIN
        rw [← hwz]
        clear hwz z0 f0 z1 f1 z2 f2 z3 f3 z4 f4 z5 f5 z6 f6
        obtain ⟨q0, q1, q2, q3, q4, q5, q6⟩ := q0
        go_wp2_with fail
        refine bodyPost_ret (v := .agg #[.slice fa 7 fc, .slice (some ⟨wb.heap.size, 0, none⟩) 1 1, .slice (some ⟨wa.heap.size, 0, none⟩) 0 0, .int .i64 0, .int .i64 0, .bool false, .int .i64 0]) ?_ rfl ?_
        · simp [results, Tryz.results6, go_sem, *]
        · exact .inr ⟨ok, _, _, _, _, _, _, rfl, FIN.out.1.mono (fun b hb _ => by omega), by rw [EN.out]; exact FIN.out.2.1.mono (fun b hb _ => by omega), box_below FIN.out.2.2⟩
    · go_simp
      have D1 : Hid (Below (w.heap.size + 1 + 1) ((w.alloc (.cells #[.slice ca cn cc, .slice ma mn mc] 38)).alloc (.cells #[.slice none 0 0, .slice none 0 0, .slice none 0 0, .int .i64 0, .int .i64 0, .bool false, .int .i64 0] 33)) ((w1.drewN 1).alloc (.cells #[] 3))) := D0.out.trans (Below.mono ((Below.refl (w1.drewN 1).heap.size (w1.drewN 1)).alloc (Nat.le_refl _) _) (by have := D0.out.size; simpa using this))
      refine hK.out _ _ (KS.out _ (((Below.refl _ _).alloc (by simp) _).trans (D1.out.mono (by omega)))) (fun hHeld2 => ?_)
      clear hK K
      try simp only [Act.put, List.getElem_toArray, List.getElem_cons_zero, List.getElem_cons_succ, List.setIfInBounds_toArray, List.set_cons_zero, List.set_cons_succ]
      refine wpAnyH_ready (rs := [0]) (by kernel_rfl) (by simp) ?_
      refine AllReadyH.cons rfl (fun K hK => ?_) AllReadyH.nil
      go_simp
      go_at_call 21
      refine (faultsSpec _).mono ?_
      rintro e wa ⟨fa, fc, rfl, hS, hb⟩
      have D2 : Hid (Below (w.heap.size + 1 + 1) ((w.alloc (.cells #[.slice ca cn cc, .slice ma mn mc] 38)).alloc (.cells #[.slice none 0 0, .slice none 0 0, .slice none 0 0, .int .i64 0, .int .i64 0, .bool false, .int .i64 0] 33)) wa) := D1.out.trans (Below.mono (hb) (by have := D1.out.size; simpa using this))
      have PA : Hid (∀ y, Below wa.heap.size wa y → SlAt obR (fun b => w.heap.size + 1 + 1 ≤ b) y fa 7 faults) := fun y hy => (hS.mono (fun b hb1 _ => Nat.le_trans (by have := D1.out.size; simpa using this) hb1)).later hy
      clear hS hb
      go_wp2_with fail
      refine hK.out _ _ (KS.out _ (((Below.refl _ _).alloc (by simp) _).trans (D2.out.mono (by omega)))) (fun hHeld3 => ?_)
      clear hK K
      try simp only [Act.put, List.getElem_toArray, List.getElem_cons_zero, List.getElem_cons_succ, List.setIfInBounds_toArray, List.set_cons_zero, List.set_cons_succ]
      refine wpAnyH_ready (rs := [2]) (by kernel_rfl) (by simp) ?_
      refine AllReadyH.cons rfl (fun K hK => ?_) AllReadyH.nil
      go_simp
      go_at_call 22
      refine (frame0Spec _ _ _ _ _ _ M n x _ (HM.out.later (B0.out.trans (D2.out.mono (by omega)))) HX.out HN.out hn3).mono ?_
      rintro e wb ⟨la, lc, sa, sc, rfl, hS, hb⟩
      replace PA : Hid (∀ y, Below wb.heap.size wb y → SlAt obR (fun b => w.heap.size + 1 + 1 ≤ b) y fa 7 faults) := fun y hy => PA.out y (Below.trans (hb) (hy.mono (Below.size (hb))))
      have D3 : Hid (Below (w.heap.size + 1 + 1) ((w.alloc (.cells #[.slice ca cn cc, .slice ma mn mc] 38)).alloc (.cells #[.slice none 0 0, .slice none 0 0, .slice none 0 0, .int .i64 0, .int .i64 0, .bool false, .int .i64 0] 33)) wb) := D2.out.trans (Below.mono (hb) (by have := D2.out.size; simpa using this))
      have PB : Hid (∀ y, Below wb.heap.size wb y → SlAt vaR (fun b => w.heap.size + 1 + 1 ≤ b) y la n (List.replicate n (false, 0))) := fun y hy => (hS.mono (fun b hb1 _ => Nat.le_trans (by have := D2.out.size; simpa using this) hb1)).later hy
      clear hS hb
      go_wp2_with fail
      refine hK.out _ _ (KS.out _ (((Below.refl _ _).alloc (by simp) _).trans (D3.out.mono (by omega)))) (fun hHeld4 => ?_)
      clear hK K
      try simp only [Act.put, List.getElem_toArray, List.getElem_cons_zero, List.getElem_cons_succ, List.setIfInBounds_toArray, List.set_cons_zero, List.set_cons_succ]
      refine wpAnyH_ready (rs := [3]) (by kernel_rfl) (by simp) ?_
      refine AllReadyH.cons rfl (fun K hK => ?_) AllReadyH.nil
      go_simp
      replace PA : Hid (∀ y, Below (wb.alloc (.cells #[.int .i64 0, .int .i64 0, .slice la n lc, .slice sa 0 sc] 60)).heap.size (wb.alloc (.cells #[.int .i64 0, .int .i64 0, .slice la n lc, .slice sa 0 sc] 60)) y → SlAt obR (fun b => w.heap.size + 1 + 1 ≤ b) y fa 7 faults) := fun y hy => PA.out y (Below.trans ((Below.refl wb.heap.size wb).alloc (Nat.le_refl _) _) (hy.mono (Below.size ((Below.refl wb.heap.size wb).alloc (Nat.le_refl _) _))))
      replace PB : Hid (∀ y, Below (wb.alloc (.cells #[.int .i64 0, .int .i64 0, .slice la n lc, .slice sa 0 sc] 60)).heap.size (wb.alloc (.cells #[.int .i64 0, .int .i64 0, .slice la n lc, .slice sa 0 sc] 60)) y → SlAt vaR (fun b => w.heap.size + 1 + 1 ≤ b) y la n (List.replicate n (false, 0))) := fun y hy => PB.out y (Below.trans ((Below.refl wb.heap.size wb).alloc (Nat.le_refl _) _) (hy.mono (Below.size ((Below.refl wb.heap.size wb).alloc (Nat.le_refl _) _))))
      have D4 : Hid (Below (w.heap.size + 1 + 1) ((w.alloc (.cells #[.slice ca cn cc, .slice ma mn mc] 38)).alloc (.cells #[.slice none 0 0, .slice none 0 0, .slice none 0 0, .int .i64 0, .int .i64 0, .bool false, .int .i64 0] 33)) (wb.alloc (.cells #[.int .i64 0, .int .i64 0, .slice la n lc, .slice sa 0 sc] 60))) := D3.out.trans (Below.mono ((Below.refl wb.heap.size wb).alloc (Nat.le_refl _) _) (by have := D3.out.size; simpa using this))
      have hFB : w.heap.size + 1 + 1 ≤ wb.heap.size := by have := D3.out.size; simp at this; first | omega | (simp; omega)
      have PC : Hid (∀ y, Below (wb.alloc (.cells #[.int .i64 0, .int .i64 0, .slice la n lc, .slice sa 0 sc] 60)).heap.size (wb.alloc (.cells #[.int .i64 0, .int .i64 0, .slice la n lc, .slice sa 0 sc] 60)) y → y.heap[wb.heap.size]? = some (.cells #[.int .i64 0, .int .i64 0, .slice la n lc, .slice sa 0 sc] 60 (0, 0)) ∧ wb.heap.size < y.heap.size) := fun y hy => ⟨(hy.block _ (by simp)).trans (boxN _ _ _ _ (by simp)), Nat.lt_of_lt_of_le (by simp) hy.size⟩
      refine hK.out _ _ (KS.out _ (((Below.refl _ _).alloc (by simp) _).trans (D4.out.mono (by omega)))) (fun hHeld5 => ?_)
      clear hK K
      try simp only [Act.put, List.getElem_toArray, List.getElem_cons_zero, List.getElem_cons_succ, List.setIfInBounds_toArray, List.set_cons_zero, List.set_cons_succ]
      refine wpAnyH_take (i := 5) (v := .agg #[.slice fa 7 fc, .slice (some ⟨wb.heap.size, 0, none⟩) 1 1, .slice (some ⟨w1.heap.size, 0, none⟩) 0 0, .int .i64 0, .int .i64 0, .bool false, .int .i64 0]) rfl (by kernel_rfl) (by kernel_rfl) (by kernel_rfl) (fun _ _ _ h => h) (Or.inl ⟨by kernel_rfl, by (intro x hSx; (try dsimp only at hSx); go_simp)⟩) (by assumption) ?_
      try simp only [Act.put, List.getElem_toArray, List.getElem_cons_zero, List.getElem_cons_succ, List.setIfInBounds_toArray, List.set_cons_zero, List.set_cons_succ]
      refine wpAnyH_ready (rs := [6]) (by kernel_rfl) (by simp) ?_
      refine AllReadyH.cons rfl (fun K hK => ?_) AllReadyH.nil
      have rR : (wb.alloc (.cells #[.int .i64 0, .int .i64 0, .slice la n lc, .slice sa 0 sc] 60)).heap[w.heap.size + 1]? = some (.cells #[.slice none 0 0, .slice none 0 0, .slice none 0 0, .int .i64 0, .int .i64 0, .bool false, .int .i64 0] 33 (0, 0)) := (D4.out.block _ (by omega)).trans (boxN _ _ _ _ (by simp))
      have z0 : (wb.alloc (.cells #[.int .i64 0, .int .i64 0, .slice la n lc, .slice sa 0 sc] 60)).cell? ⟨w.heap.size + 1, 0, none⟩ = some (.slice none 0 0) := (boxG rR 0).1
      have f0 : (wb.alloc (.cells #[.int .i64 0, .int .i64 0, .slice la n lc, .slice sa 0 sc] 60)).frozen? ⟨w.heap.size + 1, 0, none⟩ = false := (boxG rR 0).2
      have z1 : (wb.alloc (.cells #[.int .i64 0, .int .i64 0, .slice la n lc, .slice sa 0 sc] 60)).cell? ⟨w.heap.size + 1, 1, none⟩ = some (.slice none 0 0) := (boxG rR 1).1
      have f1 : (wb.alloc (.cells #[.int .i64 0, .int .i64 0, .slice la n lc, .slice sa 0 sc] 60)).frozen? ⟨w.heap.size + 1, 1, none⟩ = false := (boxG rR 1).2
      have z2 : (wb.alloc (.cells #[.int .i64 0, .int .i64 0, .slice la n lc, .slice sa 0 sc] 60)).cell? ⟨w.heap.size + 1, 2, none⟩ = some (.slice none 0 0) := (boxG rR 2).1
      have f2 : (wb.alloc (.cells #[.int .i64 0, .int .i64 0, .slice la n lc, .slice sa 0 sc] 60)).frozen? ⟨w.heap.size + 1, 2, none⟩ = false := (boxG rR 2).2
      have z3 : (wb.alloc (.cells #[.int .i64 0, .int .i64 0, .slice la n lc, .slice sa 0 sc] 60)).cell? ⟨w.heap.size + 1, 3, none⟩ = some (.int .i64 0) := (boxG rR 3).1
      have f3 : (wb.alloc (.cells #[.int .i64 0, .int .i64 0, .slice la n lc, .slice sa 0 sc] 60)).frozen? ⟨w.heap.size + 1, 3, none⟩ = false := (boxG rR 3).2
      have z4 : (wb.alloc (.cells #[.int .i64 0, .int .i64 0, .slice la n lc, .slice sa 0 sc] 60)).cell? ⟨w.heap.size + 1, 4, none⟩ = some (.int .i64 0) := (boxG rR 4).1
      have f4 : (wb.alloc (.cells #[.int .i64 0, .int .i64 0, .slice la n lc, .slice sa 0 sc] 60)).frozen? ⟨w.heap.size + 1, 4, none⟩ = false := (boxG rR 4).2
      have z5 : (wb.alloc (.cells #[.int .i64 0, .int .i64 0, .slice la n lc, .slice sa 0 sc] 60)).cell? ⟨w.heap.size + 1, 5, none⟩ = some (.bool false) := (boxG rR 5).1
      have f5 : (wb.alloc (.cells #[.int .i64 0, .int .i64 0, .slice la n lc, .slice sa 0 sc] 60)).frozen? ⟨w.heap.size + 1, 5, none⟩ = false := (boxG rR 5).2
      have z6 : (wb.alloc (.cells #[.int .i64 0, .int .i64 0, .slice la n lc, .slice sa 0 sc] 60)).cell? ⟨w.heap.size + 1, 6, none⟩ = some (.int .i64 0) := (boxG rR 6).1
      have f6 : (wb.alloc (.cells #[.int .i64 0, .int .i64 0, .slice la n lc, .slice sa 0 sc] 60)).frozen? ⟨w.heap.size + 1, 6, none⟩ = false := (boxG rR 6).2
      have X1 : SlAt frR (fun b => w.heap.size + 1 + 1 ≤ b) (wb.alloc (.cells #[.int .i64 0, .int .i64 0, .slice la n lc, .slice sa 0 sc] 60)) (some ⟨wb.heap.size, 0, none⟩) 1 [(0, 0, List.replicate n (false, 0), [])] := frame_at (PC.out (wb.alloc (.cells #[.int .i64 0, .int .i64 0, .slice la n lc, .slice sa 0 sc] 60)) (Below.refl _ _)).1 hFB (PB.out (wb.alloc (.cells #[.int .i64 0, .int .i64 0, .slice la n lc, .slice sa 0 sc] 60)) (Below.refl _ _))
      have FIN : Hid (SlAt obR (fun b => w.heap.size + 1 + 1 ≤ b) ((((((((wb.alloc (.cells #[.int .i64 0, .int .i64 0, .slice la n lc, .slice sa 0 sc] 60)).setCell ⟨w.heap.size + 1, 0, none⟩ (.slice fa 7 fc)).setCell ⟨w.heap.size + 1, 1, none⟩ (.slice (some ⟨wb.heap.size, 0, none⟩) 1 1)).setCell ⟨w.heap.size + 1, 2, none⟩ (.slice (some ⟨w1.heap.size, 0, none⟩) 0 0)).setCell ⟨w.heap.size + 1, 3, none⟩ (.int .i64 0)).setCell ⟨w.heap.size + 1, 4, none⟩ (.int .i64 0)).setCell ⟨w.heap.size + 1, 5, none⟩ (.bool false)).setCell ⟨w.heap.size + 1, 6, none⟩ (.int .i64 0)) fa 7 faults ∧ SlAt frR (fun b => w.heap.size + 1 + 1 ≤ b) ((((((((wb.alloc (.cells #[.int .i64 0, .int .i64 0, .slice la n lc, .slice sa 0 sc] 60)).setCell ⟨w.heap.size + 1, 0, none⟩ (.slice fa 7 fc)).setCell ⟨w.heap.size + 1, 1, none⟩ (.slice (some ⟨wb.heap.size, 0, none⟩) 1 1)).setCell ⟨w.heap.size + 1, 2, none⟩ (.slice (some ⟨w1.heap.size, 0, none⟩) 0 0)).setCell ⟨w.heap.size + 1, 3, none⟩ (.int .i64 0)).setCell ⟨w.heap.size + 1, 4, none⟩ (.int .i64 0)).setCell ⟨w.heap.size + 1, 5, none⟩ (.bool false)).setCell ⟨w.heap.size + 1, 6, none⟩ (.int .i64 0)) (some ⟨wb.heap.size, 0, none⟩) 1 [(0, 0, List.replicate n (false, 0), [])] ∧ Below (w.heap.size + 1) (w.alloc (.cells #[.slice ca cn cc, .slice ma mn mc] 38)) ((((((((wb.alloc (.cells #[.int .i64 0, .int .i64 0, .slice la n lc, .slice sa 0 sc] 60)).setCell ⟨w.heap.size + 1, 0, none⟩ (.slice fa 7 fc)).setCell ⟨w.heap.size + 1, 1, none⟩ (.slice (some ⟨wb.heap.size, 0, none⟩) 1 1)).setCell ⟨w.heap.size + 1, 2, none⟩ (.slice (some ⟨w1.heap.size, 0, none⟩) 0 0)).setCell ⟨w.heap.size + 1, 3, none⟩ (.int .i64 0)).setCell ⟨w.heap.size + 1, 4, none⟩ (.int .i64 0)).setCell ⟨w.heap.size + 1, 5, none⟩ (.bool false)).setCell ⟨w.heap.size + 1, 6, none⟩ (.int .i64 0))) := by
        refine ⟨((((((((PA.out (wb.alloc (.cells #[.int .i64 0, .int .i64 0, .slice la n lc, .slice sa 0 sc] 60)) (Below.refl _ _)).set ⟨w.heap.size + 1, 0, none⟩ (.slice fa 7 fc) (by simp only; omega)).set ⟨w.heap.size + 1, 1, none⟩ (.slice (some ⟨wb.heap.size, 0, none⟩) 1 1) (by simp only; omega)).set ⟨w.heap.size + 1, 2, none⟩ (.slice (some ⟨w1.heap.size, 0, none⟩) 0 0) (by simp only; omega)).set ⟨w.heap.size + 1, 3, none⟩ (.int .i64 0) (by simp only; omega)).set ⟨w.heap.size + 1, 4, none⟩ (.int .i64 0) (by simp only; omega)).set ⟨w.heap.size + 1, 5, none⟩ (.bool false) (by simp only; omega)).set ⟨w.heap.size + 1, 6, none⟩ (.int .i64 0) (by simp only; omega)), (((((((X1.set ⟨w.heap.size + 1, 0, none⟩ (.slice fa 7 fc) (by simp only; omega)).set ⟨w.heap.size + 1, 1, none⟩ (.slice (some ⟨wb.heap.size, 0, none⟩) 1 1) (by simp only; omega)).set ⟨w.heap.size + 1, 2, none⟩ (.slice (some ⟨w1.heap.size, 0, none⟩) 0 0) (by simp only; omega)).set ⟨w.heap.size + 1, 3, none⟩ (.int .i64 0) (by simp only; omega)).set ⟨w.heap.size + 1, 4, none⟩ (.int .i64 0) (by simp only; omega)).set ⟨w.heap.size + 1, 5, none⟩ (.bool false) (by simp only; omega)).set ⟨w.heap.size + 1, 6, none⟩ (.int .i64 0) (by simp only; omega)), ?_⟩
        (repeat (refine Below.setCell ?_ (by simp only; omega) _))
        exact ((Below.refl _ _).alloc (by simp) _).trans (D4.out.mono (by omega))
      clear rR X1 PA PB PC
      go_simp
      refine hK.out _ _ ?_ (fun hHeld6 => ?_)
      · exact KS.out _ FIN.out.2.2
      clear hK K
      try simp only [Act.put, List.getElem_toArray, List.getElem_cons_zero, List.getElem_cons_succ, List.setIfInBounds_toArray, List.set_cons_zero, List.set_cons_succ]
      refine wpAnyH_done (by kernel_rfl) ?_ _
      clear hHeld hHeld2 hHeld3 hHeld4 hHeld5 hHeld6
      obtain ⟨wz, hwz⟩ : ∃ x, x = ((((((((wb.alloc (.cells #[.int .i64 0, .int .i64 0, .slice la n lc, .slice sa 0 sc] 60)).setCell ⟨w.heap.size + 1, 0, none⟩ (.slice fa 7 fc)).setCell ⟨w.heap.size + 1, 1, none⟩ (.slice (some ⟨wb.heap.size, 0, none⟩) 1 1)).setCell ⟨w.heap.size + 1, 2, none⟩ (.slice (some ⟨w1.heap.size, 0, none⟩) 0 0)).setCell ⟨w.heap.size + 1, 3, none⟩ (.int .i64 0)).setCell ⟨w.heap.size + 1, 4, none⟩ (.int .i64 0)).setCell ⟨w.heap.size + 1, 5, none⟩ (.bool false)).setCell ⟨w.heap.size + 1, 6, none⟩ (.int .i64 0)) := ⟨_, rfl⟩
      have q0 : wz.cell? ⟨w.heap.size + 1, 0, none⟩ = some (.slice fa 7 fc) ∧ wz.cell? ⟨w.heap.size + 1, 1, none⟩ = some (.slice (some ⟨wb.heap.size, 0, none⟩) 1 1) ∧ wz.cell? ⟨w.heap.size + 1, 2, none⟩ = some (.slice (some ⟨w1.heap.size, 0, none⟩) 0 0) ∧ wz.cell? ⟨w.heap.size + 1, 3, none⟩ = some (.int .i64 0) ∧ wz.cell? ⟨w.heap.size + 1, 4, none⟩ = some (.int .i64 0) ∧ wz.cell? ⟨w.heap.size + 1, 5, none⟩ = some (.bool false) ∧ wz.cell? ⟨w.heap.size + 1, 6, none⟩ = some (.int .i64 0) := ⟨by rw [hwz]; simp [go_sem, *], by rw [hwz]; simp [go_sem, *], by rw [hwz]; simp [go_sem, *], by rw [hwz]; simp [go_sem, *], by rw [hwz]; simp [go_sem, *], by rw [hwz]; simp [go_sem, *], by rw [hwz]; simp [go_sem, *]⟩
      rw [← hwz] at FIN
      rw [← hwz]
      clear hwz z0 f0 z1 f1 z2 f2 z3 f3 z4 f4 z5 f5 z6 f6
      obtain ⟨q0, q1, q2, q3, q4, q5, q6⟩ := q0
      go_wp2_with fail
      refine bodyPost_ret (v := .agg #[.slice fa 7 fc, .slice (some ⟨wb.heap.size, 0, none⟩) 1 1, .slice (some ⟨w1.heap.size, 0, none⟩) 0 0, .int .i64 0, .int .i64 0, .bool false, .int .i64 0]) ?_ rfl ?_
      · simp [results, Tryz.results6, go_sem, *]
      · exact .inr ⟨ok, _, _, _, _, _, _, rfl, FIN.out.1.mono (fun b hb _ => by omega), by rw [EN.out]; exact FIN.out.2.1.mono (fun b hb _ => by omega), box_below FIN.out.2.2⟩


end Go.Proofs.YthdlccadcadopaaGreat
namespace Go.Proofs.YthdlccadcadopaaGreat
open Go.ChangeShapes Go.WideShapes Go.ChangeAt Go.RowKit

theorem WrV.one (w : World) (x : Vl) (hx : i64B x.2) : WrV (w.alloc (.cells #[.bool x.1, .int .i64 x.2] 31)) w.heap.size [x] := by
  refine ⟨fun j y hy => ?_, fun j hj => World.frozen?_alloc_at _ _ _ _ rfl⟩
  match j, hy with
  | 0, hy =>
    obtain rfl : x = y := by simpa using hy
    exact ⟨by rw [World.cell?_alloc_at _ _ _ _ rfl]; rfl, by rw [World.cell?_alloc_at _ _ _ _ rfl]; rfl, hx⟩

set_option maxRecDepth 100000 in
set_option maxHeartbeats 4000000 in
theorem newFaultsImpl (w : World) : Calls Tryz.prog 26 #[] w fun e w' => ∃ bs, e = .returned (.slice (some ⟨w.heap.size, 0, none⟩) 7 7) ∧ GrRow w' w.heap.size 7 faults 7 bs ∧ w.heap.size < w'.heap.size ∧ Below w.heap.size w w' := by
  have hmk : ∀ wx : World, (Instr.makeSlice 27 (.int .i64 7) (.int .i64 7)).run Tryz.prog wx = .ok (.slice (some ⟨wx.heap.size, 0, none⟩) 7 7) (wx.alloc (.cells (madeCells #[.int .i64 0, .slice none 0 0] (7 * 2)) 86)) := fun wx => make_Obj 7 (by omega) wx
  go_enter Tryz.func26, Tryz.ntmps26
  go_wp2_with fail
  go_loopw [6] (fun t wr => ∃ (k : Nat) (bs : Nat → Nat), k ≤ 7 ∧ t = .int .i64 k ∧ GrRow wr w.heap.size 7 faults k bs ∧ w.heap.size < wr.heap.size ∧ Below w.heap.size w wr) (fun t _ => 7 - (intOf t).toNat)
  case atStart => exact ⟨0, fun _ => 0, by omega, rfl, GrRow.made w _ 7 _ faults, by simp, by go_grown⟩
  case round =>
    obtain ⟨k, bs, hk, rfl, hR, hz, hB⟩ := hrel
    have HR : Hid (GrRow wr w.heap.size 7 faults k bs) := hR
    have HB : Hid (Below w.heap.size w wr) := hB
    clear hR hB
    by_cases hlt : k < 7
    · have FIN : Hid (∀ x : Ob, x = (1, [(false, (1 : Int) + k)]) → GrRow (putCells (wr.alloc (.cells #[.bool false, .int .i64 ((1 : Int) + k)] 31)) w.heap.size (k * 2) [.int .i64 1, .slice (some ⟨wr.heap.size, 0, none⟩) 1 1]) w.heap.size 7 faults (k + 1) (fun j => if j = k then wr.heap.size else bs j)) := fun x e => by
        subst e
        exact HR.out.step (x := (1, [(false, (1 : Int) + k)])) hz ((Below.refl _ _).alloc (Nat.le_refl _) _) hlt (by rw [faults_at k hlt, Int.add_comm]) (by unfold i64B; simp) (WrV.one wr (false, (1 : Int) + k) (by unfold i64B; simp only; omega)) (Nat.le_refl _) (by simp) rfl
      have FIN2 : Hid (GrRow (((wr.setCell ⟨w.heap.size, k * 2, none⟩ (.int .i64 1)).setCell ⟨w.heap.size, k * 2 + 1, none⟩ (.slice (some ⟨wr.heap.size, 0, none⟩) 1 1)).alloc (.cells #[.bool false, .int .i64 ((1 : Int) + k)] 31)) w.heap.size 7 faults (k + 1) (fun j => if j = k then wr.heap.size else bs j)) := by
        have := FIN.out _ rfl
        simp only [putCells] at this
        rw [World.setCell_alloc_past _ _ _ _ hz, World.setCell_alloc_past _ _ _ _ (by rw [World.size_setCell]; exact hz)] at this
        exact this
      obtain ⟨⟨v0, hv0⟩, g0⟩ := HR.out.free (k * 2) (by omega)
      obtain ⟨⟨v1, hv1⟩, g1⟩ := HR.out.free (k * 2 + 1) (by omega)
      have hz2 : w.heap.size < wr.heap.size + 1 := by omega
      go_wp2_with fail
      refine ⟨⟨k + 1, _, by omega, by go_num, FIN2.out, ?_, ?_⟩, by simp [intOf]; omega⟩
      · simp only [World.size_setCell, World.size_alloc]; omega
      · exact ((HB.out.setCell (by simp) _).setCell (by simp) _).alloc (by simp only [World.size_setCell]; omega) _
    · obtain rfl : k = 7 := by omega
      go_wp2_with fail
      go_ret
      exact ⟨bs, rfl, HR.out, hz, HB.out⟩

end Go.Proofs.YthdlccadcadopaaGreat
namespace Go.Proofs.YthdlccadcadopaaGreat
open Go.ChangeShapes Go.WideShapes Go.ChangeAt Go.RowKit

theorem GrRow.agree {w w' : World} {G n k : Nat} {gs : List Ob} {bs : Nat → Nat} (h : GrRow w G n gs k bs) (hG : w'.heap[G]? = w.heap[G]?) (hb : ∀ j, j < k → w'.heap[bs j]? = w.heap[bs j]?) (hs : w.heap.size ≤ w'.heap.size) : GrRow w' G n gs k bs :=
  ⟨fun j x hj hx => by
    obtain ⟨h1, h2, h3, h4⟩ := h.row j x hj hx
    exact ⟨(World.cell?_of_block (a := ⟨G, _, none⟩) hG).trans h1, (World.cell?_of_block (a := ⟨G, _, none⟩) hG).trans h2, h3, h4.keep (hb j hj)⟩, fun j hj => by
    obtain ⟨⟨v, hv⟩, hf⟩ := h.free j hj
    exact ⟨⟨v, (World.cell?_of_block (a := ⟨G, _, none⟩) hG).trans hv⟩, (World.frozen?_of_block (a := ⟨G, j, none⟩) hG).trans hf⟩, h.inc, fun j hj => ⟨(h.gt j hj).1, Nat.lt_of_lt_of_le (h.gt j hj).2 hs⟩⟩
/-- A machine at the beginning, in memory of its own. -/
structure NewM (w w' : World) (n G FB LB : Nat) (bs : Nat → Nat) : Prop where
  objs : GrRow w' G 7 faults 7 bs
  frame : w'.heap[FB]? = some (.cells #[.int .i64 0, .int .i64 0, .slice (some ⟨LB, 0, none⟩) n n, .slice none 0 0] 60 (0, 0))
  locs : WrV w' LB (List.replicate n (false, 0))
  lo : w.heap.size ≤ LB
  lg : LB < G
  lf : LB < FB
  fg : FB ≠ G
  fb : ∀ j, j < 7 → FB ≠ bs j
  hi : G < w'.heap.size ∧ FB < w'.heap.size ∧ LB < w'.heap.size
theorem made_vals (w : World) (n : Nat) : WrV (w.alloc (.cells (madeCells #[.bool false, .int .i64 0] (n * 2)) 31)) w.heap.size (List.replicate n (false, 0)) := by
  refine ⟨fun j x hx => ?_, fun j hj => World.frozen?_alloc_at _ _ _ _ rfl⟩
  have hj := (List.getElem?_eq_some_iff.1 hx).1
  rw [List.length_replicate] at hj
  obtain rfl := List.eq_of_mem_replicate (List.mem_of_getElem? hx)
  have h1 := (RowAt.made w #[.bool false, .int .i64 0] (n * 2) 31 (j * 2) (by omega)).1
  have h2 := (RowAt.made w #[.bool false, .int .i64 0] (n * 2) 31 (j * 2 + 1) (by omega)).1
  refine ⟨?_, ?_, by unfold i64B; simp⟩
  · rw [h1]; have : j * 2 % 2 = 0 := by omega
    simp [this]
  · rw [h2]; have : (j * 2 + 1) % 2 = 1 := by omega
    simp [this]

set_option maxRecDepth 100000 in
set_option maxHeartbeats 8000000 in
theorem machNewImpl (ca : Option Addr) (cn cc : Nat) (ma : Option Addr) (mn mc : Nat) (L : List Cl) (M : List Me) (w : World) {D E G : Nat → Prop} (h : ClsAt D E w ca cn L) (hM : SlAt meR G w ma mn M) (hmc : mn ≤ mc) :
    Calls Tryz.prog 8 #[.agg #[.slice ca cn cc, .slice ma mn mc]] w fun e w' => (unitB L M = false ∧ e = .returned (.agg #[.slice none 0 0, .slice none 0 0, .slice none 0 0, .int .i64 0, .int .i64 0, .bool false, .int .i64 0]) ∧ Below w.heap.size w w') ∨ (unitB L M = true ∧ ∃ G FB LB bs, e = .returned (.agg #[.slice (some ⟨G, 0, none⟩) 7 7, .slice (some ⟨FB, 0, none⟩) 1 1, .slice none 0 0, .int .i64 0, .int .i64 0, .bool false, .int .i64 0]) ∧ NewM w w' (loc0 M) G FB LB bs ∧ Below w.heap.size w w') := by
  have H : Hid (ClsAt D E w ca cn L) := h
  have HM : Hid (SlAt meR G w ma mn M) := hM
  have B0 : Hid (Below w.heap.size w ((w.alloc (.cells #[.slice ca cn cc, .slice ma mn mc] 38)).alloc (.cells #[.slice none 0 0, .slice none 0 0, .slice none 0 0, .int .i64 0, .int .i64 0, .bool false, .int .i64 0] 33))) := ((Below.refl _ _).alloc (Nat.le_refl _) _).alloc (by simp) _
  clear h hM
  go_enter Tryz.func8, Tryz.ntmps8
  go_wp2_with fail
  refine (unitImpl _ _ _ _ _ _ L M _ (H.out.later B0.out) (HM.out.later B0.out) hmc).mono ?_
  rintro e w1 ⟨rfl, hb1⟩
  have C0 : Hid (Below (w.heap.size + 1 + 1) ((w.alloc (.cells #[.slice ca cn cc, .slice ma mn mc] 38)).alloc (.cells #[.slice none 0 0, .slice none 0 0, .slice none 0 0, .int .i64 0, .int .i64 0, .bool false, .int .i64 0] 33)) w1) := by show Below _ _ _; simpa using hb1
  have rR : w1.heap[w.heap.size + 1]? = some (.cells #[.slice none 0 0, .slice none 0 0, .slice none 0 0, .int .i64 0, .int .i64 0, .bool false, .int .i64 0] 33 (0, 0)) := (C0.out.block _ (by omega)).trans (boxN _ _ _ _ (by simp))
  have s1 : w.heap.size + 1 < w1.heap.size := by have := C0.out.size; simp at this; omega
  clear hb1
  cases ok : unitB L M
  · have z0 : w1.cell? ⟨w.heap.size + 1, 0, none⟩ = some (.slice none 0 0) := (boxG rR 0).1
    have f0 : w1.frozen? ⟨w.heap.size + 1, 0, none⟩ = false := (boxG rR 0).2
    have z1 : w1.cell? ⟨w.heap.size + 1, 1, none⟩ = some (.slice none 0 0) := (boxG rR 1).1
    have f1 : w1.frozen? ⟨w.heap.size + 1, 1, none⟩ = false := (boxG rR 1).2
    have z2 : w1.cell? ⟨w.heap.size + 1, 2, none⟩ = some (.slice none 0 0) := (boxG rR 2).1
    have f2 : w1.frozen? ⟨w.heap.size + 1, 2, none⟩ = false := (boxG rR 2).2
    have z3 : w1.cell? ⟨w.heap.size + 1, 3, none⟩ = some (.int .i64 0) := (boxG rR 3).1
    have f3 : w1.frozen? ⟨w.heap.size + 1, 3, none⟩ = false := (boxG rR 3).2
    have z4 : w1.cell? ⟨w.heap.size + 1, 4, none⟩ = some (.int .i64 0) := (boxG rR 4).1
    have f4 : w1.frozen? ⟨w.heap.size + 1, 4, none⟩ = false := (boxG rR 4).2
    have z5 : w1.cell? ⟨w.heap.size + 1, 5, none⟩ = some (.bool false) := (boxG rR 5).1
    have f5 : w1.frozen? ⟨w.heap.size + 1, 5, none⟩ = false := (boxG rR 5).2
    have z6 : w1.cell? ⟨w.heap.size + 1, 6, none⟩ = some (.int .i64 0) := (boxG rR 6).1
    have f6 : w1.frozen? ⟨w.heap.size + 1, 6, none⟩ = false := (boxG rR 6).2
    go_wp2_with fail
    refine bodyPost_ret (v := .agg #[.slice none 0 0, .slice none 0 0, .slice none 0 0, .int .i64 0, .int .i64 0, .bool false, .int .i64 0]) ?_ rfl (.inl ⟨ok, rfl, ?_⟩)
    · simp [results, Tryz.results8, go_sem, *]
    · (repeat (refine Below.setCell ?_ (by simp only; omega) _))
      exact B0.out.trans (C0.out.mono (by omega))
  · obtain ⟨hx, hn, hn3⟩ := loc_ok ok
    obtain ⟨n, en⟩ : ∃ n, loc0 M = n := ⟨_, rfl⟩
    have EN : Hid (loc0 M = n) := en
    rw [en] at hn3 hn
    have B1 : Hid (Below w.heap.size w w1) := B0.out.trans (C0.out.mono (by omega))
    have RR : Hid (((w1.alloc (.cells (madeCells #[.bool false, .int .i64 0] (n * 2)) 31)).alloc (.cells #[.int .i64 0, .int .i64 0, .slice (some ⟨w1.heap.size, 0, none⟩) n n, .slice none 0 0] 60)).heap[w.heap.size + 1]? = some (.cells #[.slice none 0 0, .slice none 0 0, .slice none 0 0, .int .i64 0, .int .i64 0, .bool false, .int .i64 0] 33 (0, 0))) := (Below.heap_alloc _ _ _ (by simp; omega)).trans ((Below.heap_alloc _ _ _ s1).trans rR)
    replace B1 : Hid (Below w.heap.size w ((w1.alloc (.cells (madeCells #[.bool false, .int .i64 0] (n * 2)) 31)).alloc (.cells #[.int .i64 0, .int .i64 0, .slice (some ⟨w1.heap.size, 0, none⟩) n n, .slice none 0 0] 60))) := (B1.out.alloc (by omega) _).alloc (by simp; omega) _
    have KF : Hid (∀ x : World, x.heap[w1.heap.size + 1]? = some (.cells #[.int .i64 0, .int .i64 0, .slice (some ⟨w1.heap.size, 0, none⟩) n n, .slice none 0 0] 60 (0, 0)) → x.cell? ⟨w1.heap.size + 1, 0, none⟩ = some (.int .i64 0) ∧ x.cell? ⟨w1.heap.size + 1, 1, none⟩ = some (.int .i64 0) ∧ x.cell? ⟨w1.heap.size + 1, 2, none⟩ = some (.slice (some ⟨w1.heap.size, 0, none⟩) n n) ∧ x.cell? ⟨w1.heap.size + 1, 3, none⟩ = some (.slice none 0 0)) := fun x this => ⟨(boxG this 0).1, (boxG this 1).1, (boxG this 2).1, (boxG this 3).1⟩
    have KS : Hid (∀ x : World, Below (w1.heap.size + 1 + 1) ((w1.alloc (.cells (madeCells #[.bool false, .int .i64 0] (n * 2)) 31)).alloc (.cells #[.int .i64 0, .int .i64 0, .slice (some ⟨w1.heap.size, 0, none⟩) n n, .slice none 0 0] 60)) x → x.cell? ⟨w1.heap.size + 1, 0, none⟩ = some (.int .i64 0) ∧ x.cell? ⟨w1.heap.size + 1, 1, none⟩ = some (.int .i64 0) ∧ x.cell? ⟨w1.heap.size + 1, 2, none⟩ = some (.slice (some ⟨w1.heap.size, 0, none⟩) n n) ∧ x.cell? ⟨w1.heap.size + 1, 3, none⟩ = some (.slice none 0 0)) := fun x hb => KF.out x ((hb.block (w1.heap.size + 1) (by omega)).trans (boxN _ _ _ _ (by simp)))
    have PL : Hid (∀ x : World, Below (w1.heap.size + 1 + 1) ((w1.alloc (.cells (madeCells #[.bool false, .int .i64 0] (n * 2)) 31)).alloc (.cells #[.int .i64 0, .int .i64 0, .slice (some ⟨w1.heap.size, 0, none⟩) n n, .slice none 0 0] 60)) x → WrV x w1.heap.size (List.replicate n (false, 0))) := fun x hb => (made_vals w1 n).keep ((hb.block w1.heap.size (by omega)).trans (Below.heap_alloc _ _ _ (by simp)))
    have D0 : Hid (Below (w1.heap.size + 1 + 1) ((w1.alloc (.cells (madeCells #[.bool false, .int .i64 0] (n * 2)) 31)).alloc (.cells #[.int .i64 0, .int .i64 0, .slice (some ⟨w1.heap.size, 0, none⟩) n n, .slice none 0 0] 60)) (((w1.alloc (.cells (madeCells #[.bool false, .int .i64 0] (n * 2)) 31)).alloc (.cells #[.int .i64 0, .int .i64 0, .slice (some ⟨w1.heap.size, 0, none⟩) n n, .slice none 0 0] 60)).drewN 1)) := bdrew (Below.refl _ _)
    have mM0 : 0 < mn := by have := (List.getElem?_eq_some_iff.1 hx).1; rw [HM.out.size] at this; exact this
    obtain ⟨b1, o1, rfl, _, us, hu, hc⟩ := (HM.out.later (B0.out.trans (C0.out.mono (by omega)))).at 0 _ hx
    rcases hme : me M 0 with ⟨x0, x1, x2, x3, x4, x5, x6, x7⟩
    rw [hme] at hu hn
    obtain ⟨_, _, rfl, ⟨rfl, _⟩, _, _, rfl, ⟨rfl, _⟩, _, _, rfl, ⟨_, _, _, rfl, _⟩, _, _, rfl, ⟨rfl, _⟩, _, _, rfl, ⟨rfl, _⟩, _, _, rfl, ⟨_, _, _, rfl, _⟩, _, _, rfl, ⟨_, _, _, rfl, _⟩, _, _, _, rfl, _⟩ := hu
    have hn : x4 = n := hn
    subst hn
    have c4 : w1.cell? ⟨b1, o1 + 4, none⟩ = some (.int .i64 n) := by have := hc 4 _ rfl; simpa using this
    have u1 : w1.cell? ⟨w.heap.size, 1, none⟩ = some (.slice (some ⟨b1, o1, none⟩) mn mc) := (C0.out.cell (p := ⟨w.heap.size, 1, none⟩) (by simp only; omega)).trans (by rw [World.cell?_alloc_past _ _ _ (by simp), World.cell?_alloc_at _ _ _ _ rfl]; rfl)
    have hmk := make_Val n (by omega)
    clear hx rR en hc hme
    go_wp2_with fail
    clear c4 u1 hmk
    refine wp_region_held_drew (S := fun x => x.cell? ⟨w1.heap.size + 1, 0, none⟩ = some (.int .i64 0) ∧ x.cell? ⟨w1.heap.size + 1, 1, none⟩ = some (.int .i64 0) ∧ x.cell? ⟨w1.heap.size + 1, 2, none⟩ = some (.slice (some ⟨w1.heap.size, 0, none⟩) n n) ∧ x.cell? ⟨w1.heap.size + 1, 3, none⟩ = some (.slice none 0 0)) (by kernel_rfl) ?_ (fun hHeld => ?_)
    · exact KS.out _ D0.out
    refine wpAnyH_take (i := 1) (v := .agg #[.int .i64 0, .int .i64 0, .slice (some ⟨w1.heap.size, 0, none⟩) n n, .slice none 0 0]) rfl (by kernel_rfl) (by kernel_rfl) (by kernel_rfl) (fun _ _ _ h => h) (Or.inl ⟨by kernel_rfl, by (intro x hSx; (try dsimp only at hSx); go_simp)⟩) (by assumption) ?_
    try simp only [Act.put, List.getElem_toArray, List.getElem_cons_zero, List.getElem_cons_succ, List.setIfInBounds_toArray, List.set_cons_zero, List.set_cons_succ]
    refine wpAnyH_ready (rs := [0, 2]) (by kernel_rfl) (by simp) ?_
    refine AllReadyH.cons rfl (fun K hK => ?_) (AllReadyH.cons rfl (fun K hK => ?_) AllReadyH.nil)
    · go_simp
      go_at_call 26
      refine (newFaultsImpl _).mono ?_
      rintro e wa ⟨bs, rfl, hS, hG, hb⟩
      have D1 : Hid (Below (w1.heap.size + 1 + 1) ((w1.alloc (.cells (madeCells #[.bool false, .int .i64 0] (n * 2)) 31)).alloc (.cells #[.int .i64 0, .int .i64 0, .slice (some ⟨w1.heap.size, 0, none⟩) n n, .slice none 0 0] 60)) wa) := D0.out.trans (Below.mono (hb) (Nat.le_trans (Nat.le_of_eq (by simp)) D0.out.size))
      have hG : w1.heap.size + 1 + 1 < wa.heap.size := by simpa using hG
      have hS : GrRow wa (w1.heap.size + 1 + 1) 7 faults 7 bs := by simpa using hS
      have hGl : w1.heap.size + 1 + 1 ≤ w1.heap.size + 1 + 1 := by have := D0.out.size; simp at this; first | omega | (simp; omega)
      have HGT : Hid (∀ j, j < 7 → w1.heap.size + 1 + 1 < bs j ∧ bs j < wa.heap.size) := fun j hj => hS.gt j hj
      have PG : Hid (∀ y, Below wa.heap.size wa y → GrRow y (w1.heap.size + 1 + 1) 7 faults 7 bs ∧ w1.heap.size + 1 + 1 < y.heap.size) := fun y hy => ⟨hS.later hG hy, Nat.lt_of_lt_of_le hG hy.size⟩
      clear hS hb
      go_wp2_with fail
      refine hK.out _ _ (KS.out _ D1.out) (fun hHeld2 => ?_)
      clear hK K
      try simp only [Act.put, List.getElem_toArray, List.getElem_cons_zero, List.getElem_cons_succ, List.setIfInBounds_toArray, List.set_cons_zero, List.set_cons_succ]
      refine wpAnyH_ready (rs := [2]) (by kernel_rfl) (by simp) ?_
      refine AllReadyH.cons rfl (fun K hK => ?_) AllReadyH.nil
      go_simp
      replace PG : Hid (∀ y, Below (wa.alloc (.cells #[.int .i64 0, .int .i64 0, .slice (some ⟨w1.heap.size, 0, none⟩) n n, .slice none 0 0] 60)).heap.size (wa.alloc (.cells #[.int .i64 0, .int .i64 0, .slice (some ⟨w1.heap.size, 0, none⟩) n n, .slice none 0 0] 60)) y → GrRow y (w1.heap.size + 1 + 1) 7 faults 7 bs ∧ w1.heap.size + 1 + 1 < y.heap.size) := fun y hy => PG.out y (Below.trans ((Below.refl wa.heap.size wa).alloc (Nat.le_refl _) _) (hy.mono (Below.size ((Below.refl wa.heap.size wa).alloc (Nat.le_refl _) _))))
      have D2 : Hid (Below (w1.heap.size + 1 + 1) ((w1.alloc (.cells (madeCells #[.bool false, .int .i64 0] (n * 2)) 31)).alloc (.cells #[.int .i64 0, .int .i64 0, .slice (some ⟨w1.heap.size, 0, none⟩) n n, .slice none 0 0] 60)) (wa.alloc (.cells #[.int .i64 0, .int .i64 0, .slice (some ⟨w1.heap.size, 0, none⟩) n n, .slice none 0 0] 60))) := D1.out.trans (Below.mono ((Below.refl wa.heap.size wa).alloc (Nat.le_refl _) _) (Nat.le_trans (Nat.le_of_eq (by simp)) D1.out.size))
      have hFB : w1.heap.size + 1 + 1 ≤ wa.heap.size := by have := D1.out.size; simp at this; first | omega | (simp; omega)
      have PC : Hid (∀ y, Below (wa.alloc (.cells #[.int .i64 0, .int .i64 0, .slice (some ⟨w1.heap.size, 0, none⟩) n n, .slice none 0 0] 60)).heap.size (wa.alloc (.cells #[.int .i64 0, .int .i64 0, .slice (some ⟨w1.heap.size, 0, none⟩) n n, .slice none 0 0] 60)) y → y.heap[wa.heap.size]? = some (.cells #[.int .i64 0, .int .i64 0, .slice (some ⟨w1.heap.size, 0, none⟩) n n, .slice none 0 0] 60 (0, 0)) ∧ wa.heap.size < y.heap.size) := fun y hy => ⟨(hy.block _ (by simp)).trans (boxN _ _ _ _ (by simp)), Nat.lt_of_lt_of_le (by simp) hy.size⟩
      refine hK.out _ _ (KS.out _ D2.out) (fun hHeld3 => ?_)
      clear hK K
      try simp only [Act.put, List.getElem_toArray, List.getElem_cons_zero, List.getElem_cons_succ, List.setIfInBounds_toArray, List.set_cons_zero, List.set_cons_succ]
      refine wpAnyH_take (i := 3) (v := .agg #[.slice (some ⟨w1.heap.size + 1 + 1, 0, none⟩) 7 7, .slice (some ⟨wa.heap.size, 0, none⟩) 1 1, .slice none 0 0, .int .i64 0, .int .i64 0, .bool false, .int .i64 0]) rfl (by kernel_rfl) (by kernel_rfl) (by kernel_rfl) (fun _ _ _ h => h) (Or.inl ⟨by kernel_rfl, by (intro x hSx; (try dsimp only at hSx); go_simp)⟩) (by assumption) ?_
      try simp only [Act.put, List.getElem_toArray, List.getElem_cons_zero, List.getElem_cons_succ, List.setIfInBounds_toArray, List.set_cons_zero, List.set_cons_succ]
      refine wpAnyH_ready (rs := [4]) (by kernel_rfl) (by simp) ?_
      refine AllReadyH.cons rfl (fun K hK => ?_) AllReadyH.nil
      have rR : (wa.alloc (.cells #[.int .i64 0, .int .i64 0, .slice (some ⟨w1.heap.size, 0, none⟩) n n, .slice none 0 0] 60)).heap[w.heap.size + 1]? = some (.cells #[.slice none 0 0, .slice none 0 0, .slice none 0 0, .int .i64 0, .int .i64 0, .bool false, .int .i64 0] 33 (0, 0)) := (D2.out.block _ (by omega)).trans RR.out
      have z0 : (wa.alloc (.cells #[.int .i64 0, .int .i64 0, .slice (some ⟨w1.heap.size, 0, none⟩) n n, .slice none 0 0] 60)).cell? ⟨w.heap.size + 1, 0, none⟩ = some (.slice none 0 0) := (boxG rR 0).1
      have f0 : (wa.alloc (.cells #[.int .i64 0, .int .i64 0, .slice (some ⟨w1.heap.size, 0, none⟩) n n, .slice none 0 0] 60)).frozen? ⟨w.heap.size + 1, 0, none⟩ = false := (boxG rR 0).2
      have z1 : (wa.alloc (.cells #[.int .i64 0, .int .i64 0, .slice (some ⟨w1.heap.size, 0, none⟩) n n, .slice none 0 0] 60)).cell? ⟨w.heap.size + 1, 1, none⟩ = some (.slice none 0 0) := (boxG rR 1).1
      have f1 : (wa.alloc (.cells #[.int .i64 0, .int .i64 0, .slice (some ⟨w1.heap.size, 0, none⟩) n n, .slice none 0 0] 60)).frozen? ⟨w.heap.size + 1, 1, none⟩ = false := (boxG rR 1).2
      have z2 : (wa.alloc (.cells #[.int .i64 0, .int .i64 0, .slice (some ⟨w1.heap.size, 0, none⟩) n n, .slice none 0 0] 60)).cell? ⟨w.heap.size + 1, 2, none⟩ = some (.slice none 0 0) := (boxG rR 2).1
      have f2 : (wa.alloc (.cells #[.int .i64 0, .int .i64 0, .slice (some ⟨w1.heap.size, 0, none⟩) n n, .slice none 0 0] 60)).frozen? ⟨w.heap.size + 1, 2, none⟩ = false := (boxG rR 2).2
      have z3 : (wa.alloc (.cells #[.int .i64 0, .int .i64 0, .slice (some ⟨w1.heap.size, 0, none⟩) n n, .slice none 0 0] 60)).cell? ⟨w.heap.size + 1, 3, none⟩ = some (.int .i64 0) := (boxG rR 3).1
      have f3 : (wa.alloc (.cells #[.int .i64 0, .int .i64 0, .slice (some ⟨w1.heap.size, 0, none⟩) n n, .slice none 0 0] 60)).frozen? ⟨w.heap.size + 1, 3, none⟩ = false := (boxG rR 3).2
      have z4 : (wa.alloc (.cells #[.int .i64 0, .int .i64 0, .slice (some ⟨w1.heap.size, 0, none⟩) n n, .slice none 0 0] 60)).cell? ⟨w.heap.size + 1, 4, none⟩ = some (.int .i64 0) := (boxG rR 4).1
      have f4 : (wa.alloc (.cells #[.int .i64 0, .int .i64 0, .slice (some ⟨w1.heap.size, 0, none⟩) n n, .slice none 0 0] 60)).frozen? ⟨w.heap.size + 1, 4, none⟩ = false := (boxG rR 4).2
      have z5 : (wa.alloc (.cells #[.int .i64 0, .int .i64 0, .slice (some ⟨w1.heap.size, 0, none⟩) n n, .slice none 0 0] 60)).cell? ⟨w.heap.size + 1, 5, none⟩ = some (.bool false) := (boxG rR 5).1
      have f5 : (wa.alloc (.cells #[.int .i64 0, .int .i64 0, .slice (some ⟨w1.heap.size, 0, none⟩) n n, .slice none 0 0] 60)).frozen? ⟨w.heap.size + 1, 5, none⟩ = false := (boxG rR 5).2
      have z6 : (wa.alloc (.cells #[.int .i64 0, .int .i64 0, .slice (some ⟨w1.heap.size, 0, none⟩) n n, .slice none 0 0] 60)).cell? ⟨w.heap.size + 1, 6, none⟩ = some (.int .i64 0) := (boxG rR 6).1
      have f6 : (wa.alloc (.cells #[.int .i64 0, .int .i64 0, .slice (some ⟨w1.heap.size, 0, none⟩) n n, .slice none 0 0] 60)).frozen? ⟨w.heap.size + 1, 6, none⟩ = false := (boxG rR 6).2
      obtain ⟨pg, pgs⟩ := PG.out (wa.alloc (.cells #[.int .i64 0, .int .i64 0, .slice (some ⟨w1.heap.size, 0, none⟩) n n, .slice none 0 0] 60)) (Below.refl _ _)
      obtain ⟨pc, pcs⟩ := PC.out (wa.alloc (.cells #[.int .i64 0, .int .i64 0, .slice (some ⟨w1.heap.size, 0, none⟩) n n, .slice none 0 0] 60)) (Below.refl _ _)
      have FIN : Hid (NewM w ((((((((wa.alloc (.cells #[.int .i64 0, .int .i64 0, .slice (some ⟨w1.heap.size, 0, none⟩) n n, .slice none 0 0] 60)).setCell ⟨w.heap.size + 1, 0, none⟩ (.slice (some ⟨w1.heap.size + 1 + 1, 0, none⟩) 7 7)).setCell ⟨w.heap.size + 1, 1, none⟩ (.slice (some ⟨wa.heap.size, 0, none⟩) 1 1)).setCell ⟨w.heap.size + 1, 2, none⟩ (.slice none 0 0)).setCell ⟨w.heap.size + 1, 3, none⟩ (.int .i64 0)).setCell ⟨w.heap.size + 1, 4, none⟩ (.int .i64 0)).setCell ⟨w.heap.size + 1, 5, none⟩ (.bool false)).setCell ⟨w.heap.size + 1, 6, none⟩ (.int .i64 0)) n (w1.heap.size + 1 + 1) (wa.heap.size) (w1.heap.size) bs ∧ Below w.heap.size w ((((((((wa.alloc (.cells #[.int .i64 0, .int .i64 0, .slice (some ⟨w1.heap.size, 0, none⟩) n n, .slice none 0 0] 60)).setCell ⟨w.heap.size + 1, 0, none⟩ (.slice (some ⟨w1.heap.size + 1 + 1, 0, none⟩) 7 7)).setCell ⟨w.heap.size + 1, 1, none⟩ (.slice (some ⟨wa.heap.size, 0, none⟩) 1 1)).setCell ⟨w.heap.size + 1, 2, none⟩ (.slice none 0 0)).setCell ⟨w.heap.size + 1, 3, none⟩ (.int .i64 0)).setCell ⟨w.heap.size + 1, 4, none⟩ (.int .i64 0)).setCell ⟨w.heap.size + 1, 5, none⟩ (.bool false)).setCell ⟨w.heap.size + 1, 6, none⟩ (.int .i64 0)) ∧ ((((((((wa.alloc (.cells #[.int .i64 0, .int .i64 0, .slice (some ⟨w1.heap.size, 0, none⟩) n n, .slice none 0 0] 60)).setCell ⟨w.heap.size + 1, 0, none⟩ (.slice (some ⟨w1.heap.size + 1 + 1, 0, none⟩) 7 7)).setCell ⟨w.heap.size + 1, 1, none⟩ (.slice (some ⟨wa.heap.size, 0, none⟩) 1 1)).setCell ⟨w.heap.size + 1, 2, none⟩ (.slice none 0 0)).setCell ⟨w.heap.size + 1, 3, none⟩ (.int .i64 0)).setCell ⟨w.heap.size + 1, 4, none⟩ (.int .i64 0)).setCell ⟨w.heap.size + 1, 5, none⟩ (.bool false)).setCell ⟨w.heap.size + 1, 6, none⟩ (.int .i64 0)).heap[w1.heap.size + 1]? = some (.cells #[.int .i64 0, .int .i64 0, .slice (some ⟨w1.heap.size, 0, none⟩) n n, .slice none 0 0] 60 (0, 0))) := by
        have pl : WrV (wa.alloc (.cells #[.int .i64 0, .int .i64 0, .slice (some ⟨w1.heap.size, 0, none⟩) n n, .slice none 0 0] 60)) (w1.heap.size) (List.replicate n (false, 0)) := PL.out (wa.alloc (.cells #[.int .i64 0, .int .i64 0, .slice (some ⟨w1.heap.size, 0, none⟩) n n, .slice none 0 0] 60)) D2.out
        have kp : ∀ b, b ≠ w.heap.size + 1 → ((((((((wa.alloc (.cells #[.int .i64 0, .int .i64 0, .slice (some ⟨w1.heap.size, 0, none⟩) n n, .slice none 0 0] 60)).setCell ⟨w.heap.size + 1, 0, none⟩ (.slice (some ⟨w1.heap.size + 1 + 1, 0, none⟩) 7 7)).setCell ⟨w.heap.size + 1, 1, none⟩ (.slice (some ⟨wa.heap.size, 0, none⟩) 1 1)).setCell ⟨w.heap.size + 1, 2, none⟩ (.slice none 0 0)).setCell ⟨w.heap.size + 1, 3, none⟩ (.int .i64 0)).setCell ⟨w.heap.size + 1, 4, none⟩ (.int .i64 0)).setCell ⟨w.heap.size + 1, 5, none⟩ (.bool false)).setCell ⟨w.heap.size + 1, 6, none⟩ (.int .i64 0)).heap[b]? = (wa.alloc (.cells #[.int .i64 0, .int .i64 0, .slice (some ⟨w1.heap.size, 0, none⟩) n n, .slice none 0 0] 60)).heap[b]? := fun b hb => by
          (repeat (rw [Below.heap_setCell _ _ _ _ (by simpa using hb)]))
        have ksz : ((((((((wa.alloc (.cells #[.int .i64 0, .int .i64 0, .slice (some ⟨w1.heap.size, 0, none⟩) n n, .slice none 0 0] 60)).setCell ⟨w.heap.size + 1, 0, none⟩ (.slice (some ⟨w1.heap.size + 1 + 1, 0, none⟩) 7 7)).setCell ⟨w.heap.size + 1, 1, none⟩ (.slice (some ⟨wa.heap.size, 0, none⟩) 1 1)).setCell ⟨w.heap.size + 1, 2, none⟩ (.slice none 0 0)).setCell ⟨w.heap.size + 1, 3, none⟩ (.int .i64 0)).setCell ⟨w.heap.size + 1, 4, none⟩ (.int .i64 0)).setCell ⟨w.heap.size + 1, 5, none⟩ (.bool false)).setCell ⟨w.heap.size + 1, 6, none⟩ (.int .i64 0)).heap.size = (wa.alloc (.cells #[.int .i64 0, .int .i64 0, .slice (some ⟨w1.heap.size, 0, none⟩) n n, .slice none 0 0] 60)).heap.size := by simp only [World.size_setCell]
        refine ⟨⟨pg.agree (kp _ (by omega)) (fun j hj => kp _ (by have := HGT.out j hj; omega)) (by rw [ksz]; exact Nat.le_refl _), (kp _ (by omega)).trans pc, pl.keep (kp _ (by omega)), by omega, by omega, by omega, by omega, fun j hj => by have := HGT.out j hj; omega, by rw [ksz]; exact ⟨pgs, pcs, by have := D2.out.size; simp at this; omega⟩⟩, ?_, (kp _ (by omega)).trans ((D2.out.block _ (by omega)).trans (boxN _ _ _ _ (by simp)))⟩
        (repeat (refine Below.setCell ?_ (by simp only; omega) _))
        exact B1.out.trans (D2.out.mono (by omega))
      clear rR pg pgs pc pcs PG PC
      go_simp
      refine hK.out _ _ ?_ (fun hHeld4 => ?_)
      · exact KF.out _ FIN.out.2.2
      clear hK K
      try simp only [Act.put, List.getElem_toArray, List.getElem_cons_zero, List.getElem_cons_succ, List.setIfInBounds_toArray, List.set_cons_zero, List.set_cons_succ]
      refine wpAnyH_done (by kernel_rfl) ?_ _
      clear hHeld hHeld2 hHeld3 hHeld4
      obtain ⟨wz, hwz⟩ : ∃ x, x = ((((((((wa.alloc (.cells #[.int .i64 0, .int .i64 0, .slice (some ⟨w1.heap.size, 0, none⟩) n n, .slice none 0 0] 60)).setCell ⟨w.heap.size + 1, 0, none⟩ (.slice (some ⟨w1.heap.size + 1 + 1, 0, none⟩) 7 7)).setCell ⟨w.heap.size + 1, 1, none⟩ (.slice (some ⟨wa.heap.size, 0, none⟩) 1 1)).setCell ⟨w.heap.size + 1, 2, none⟩ (.slice none 0 0)).setCell ⟨w.heap.size + 1, 3, none⟩ (.int .i64 0)).setCell ⟨w.heap.size + 1, 4, none⟩ (.int .i64 0)).setCell ⟨w.heap.size + 1, 5, none⟩ (.bool false)).setCell ⟨w.heap.size + 1, 6, none⟩ (.int .i64 0)) := ⟨_, rfl⟩
      have q0 : wz.cell? ⟨w.heap.size + 1, 0, none⟩ = some (.slice (some ⟨w1.heap.size + 1 + 1, 0, none⟩) 7 7) ∧ wz.cell? ⟨w.heap.size + 1, 1, none⟩ = some (.slice (some ⟨wa.heap.size, 0, none⟩) 1 1) ∧ wz.cell? ⟨w.heap.size + 1, 2, none⟩ = some (.slice none 0 0) ∧ wz.cell? ⟨w.heap.size + 1, 3, none⟩ = some (.int .i64 0) ∧ wz.cell? ⟨w.heap.size + 1, 4, none⟩ = some (.int .i64 0) ∧ wz.cell? ⟨w.heap.size + 1, 5, none⟩ = some (.bool false) ∧ wz.cell? ⟨w.heap.size + 1, 6, none⟩ = some (.int .i64 0) := ⟨by rw [hwz]; simp [go_sem, *], by rw [hwz]; simp [go_sem, *], by rw [hwz]; simp [go_sem, *], by rw [hwz]; simp [go_sem, *], by rw [hwz]; simp [go_sem, *], by rw [hwz]; simp [go_sem, *], by rw [hwz]; simp [go_sem, *]⟩
      have FN : Hid (NewM w wz n (w1.heap.size + 1 + 1) (wa.heap.size) (w1.heap.size) bs ∧ Below w.heap.size w wz) := by rw [hwz]; exact ⟨FIN.out.1, FIN.out.2.1⟩
      rw [← hwz]
      clear FIN hwz z0 f0 z1 f1 z2 f2 z3 f3 z4 f4 z5 f5 z6 f6
      obtain ⟨q0, q1, q2, q3, q4, q5, q6⟩ := q0
      go_wp2_with fail
      refine bodyPost_ret (v := .agg #[.slice (some ⟨w1.heap.size + 1 + 1, 0, none⟩) 7 7, .slice (some ⟨wa.heap.size, 0, none⟩) 1 1, .slice none 0 0, .int .i64 0, .int .i64 0, .bool false, .int .i64 0]) ?_ rfl ?_
      · simp [results, Tryz.results8, go_sem, *]
      · exact .inr ⟨ok, _, _, _, _, rfl, by rw [EN.out]; exact FN.out.1, FN.out.2⟩
    · go_simp
      have D1 : Hid (Below (w1.heap.size + 1 + 1) ((w1.alloc (.cells (madeCells #[.bool false, .int .i64 0] (n * 2)) 31)).alloc (.cells #[.int .i64 0, .int .i64 0, .slice (some ⟨w1.heap.size, 0, none⟩) n n, .slice none 0 0] 60)) ((((w1.alloc (.cells (madeCells #[.bool false, .int .i64 0] (n * 2)) 31)).alloc (.cells #[.int .i64 0, .int .i64 0, .slice (some ⟨w1.heap.size, 0, none⟩) n n, .slice none 0 0] 60)).drewN 1).alloc (.cells #[.int .i64 0, .int .i64 0, .slice (some ⟨w1.heap.size, 0, none⟩) n n, .slice none 0 0] 60))) := D0.out.trans (Below.mono ((Below.refl (((w1.alloc (.cells (madeCells #[.bool false, .int .i64 0] (n * 2)) 31)).alloc (.cells #[.int .i64 0, .int .i64 0, .slice (some ⟨w1.heap.size, 0, none⟩) n n, .slice none 0 0] 60)).drewN 1).heap.size (((w1.alloc (.cells (madeCells #[.bool false, .int .i64 0] (n * 2)) 31)).alloc (.cells #[.int .i64 0, .int .i64 0, .slice (some ⟨w1.heap.size, 0, none⟩) n n, .slice none 0 0] 60)).drewN 1)).alloc (Nat.le_refl _) _) (Nat.le_trans (Nat.le_of_eq (by simp)) D0.out.size))
      have hFB : w1.heap.size + 1 + 1 ≤ w1.heap.size + 1 + 1 := by have := D0.out.size; simp at this; first | omega | (simp; omega)
      have PC : Hid (∀ y, Below ((((w1.alloc (.cells (madeCells #[.bool false, .int .i64 0] (n * 2)) 31)).alloc (.cells #[.int .i64 0, .int .i64 0, .slice (some ⟨w1.heap.size, 0, none⟩) n n, .slice none 0 0] 60)).drewN 1).alloc (.cells #[.int .i64 0, .int .i64 0, .slice (some ⟨w1.heap.size, 0, none⟩) n n, .slice none 0 0] 60)).heap.size ((((w1.alloc (.cells (madeCells #[.bool false, .int .i64 0] (n * 2)) 31)).alloc (.cells #[.int .i64 0, .int .i64 0, .slice (some ⟨w1.heap.size, 0, none⟩) n n, .slice none 0 0] 60)).drewN 1).alloc (.cells #[.int .i64 0, .int .i64 0, .slice (some ⟨w1.heap.size, 0, none⟩) n n, .slice none 0 0] 60)) y → y.heap[w1.heap.size + 1 + 1]? = some (.cells #[.int .i64 0, .int .i64 0, .slice (some ⟨w1.heap.size, 0, none⟩) n n, .slice none 0 0] 60 (0, 0)) ∧ w1.heap.size + 1 + 1 < y.heap.size) := fun y hy => ⟨(hy.block _ (by simp)).trans (boxN _ _ _ _ (by simp)), Nat.lt_of_lt_of_le (by simp) hy.size⟩
      refine hK.out _ _ (KS.out _ D1.out) (fun hHeld2 => ?_)
      clear hK K
      try simp only [Act.put, List.getElem_toArray, List.getElem_cons_zero, List.getElem_cons_succ, List.setIfInBounds_toArray, List.set_cons_zero, List.set_cons_succ]
      refine wpAnyH_ready (rs := [0]) (by kernel_rfl) (by simp) ?_
      refine AllReadyH.cons rfl (fun K hK => ?_) AllReadyH.nil
      go_simp
      go_at_call 26
      refine (newFaultsImpl _).mono ?_
      rintro e wa ⟨bs, rfl, hS, hG, hb⟩
      replace PC : Hid (∀ y, Below wa.heap.size wa y → y.heap[w1.heap.size + 1 + 1]? = some (.cells #[.int .i64 0, .int .i64 0, .slice (some ⟨w1.heap.size, 0, none⟩) n n, .slice none 0 0] 60 (0, 0)) ∧ w1.heap.size + 1 + 1 < y.heap.size) := fun y hy => PC.out y (Below.trans (hb) (hy.mono (Below.size (hb))))
      have D2 : Hid (Below (w1.heap.size + 1 + 1) ((w1.alloc (.cells (madeCells #[.bool false, .int .i64 0] (n * 2)) 31)).alloc (.cells #[.int .i64 0, .int .i64 0, .slice (some ⟨w1.heap.size, 0, none⟩) n n, .slice none 0 0] 60)) wa) := D1.out.trans (Below.mono (hb) (Nat.le_trans (Nat.le_of_eq (by simp)) D1.out.size))
      have hG : w1.heap.size + 1 + 1 + 1 < wa.heap.size := by simpa using hG
      have hS : GrRow wa (w1.heap.size + 1 + 1 + 1) 7 faults 7 bs := by simpa using hS
      have hGl : w1.heap.size + 1 + 1 ≤ w1.heap.size + 1 + 1 + 1 := by have := D1.out.size; simp at this; first | omega | (simp; omega)
      have HGT : Hid (∀ j, j < 7 → w1.heap.size + 1 + 1 + 1 < bs j ∧ bs j < wa.heap.size) := fun j hj => hS.gt j hj
      have PG : Hid (∀ y, Below wa.heap.size wa y → GrRow y (w1.heap.size + 1 + 1 + 1) 7 faults 7 bs ∧ w1.heap.size + 1 + 1 + 1 < y.heap.size) := fun y hy => ⟨hS.later hG hy, Nat.lt_of_lt_of_le hG hy.size⟩
      clear hS hb
      go_wp2_with fail
      refine hK.out _ _ (KS.out _ D2.out) (fun hHeld3 => ?_)
      clear hK K
      try simp only [Act.put, List.getElem_toArray, List.getElem_cons_zero, List.getElem_cons_succ, List.setIfInBounds_toArray, List.set_cons_zero, List.set_cons_succ]
      refine wpAnyH_take (i := 3) (v := .agg #[.slice (some ⟨w1.heap.size + 1 + 1 + 1, 0, none⟩) 7 7, .slice (some ⟨w1.heap.size + 1 + 1, 0, none⟩) 1 1, .slice none 0 0, .int .i64 0, .int .i64 0, .bool false, .int .i64 0]) rfl (by kernel_rfl) (by kernel_rfl) (by kernel_rfl) (fun _ _ _ h => h) (Or.inl ⟨by kernel_rfl, by (intro x hSx; (try dsimp only at hSx); go_simp)⟩) (by assumption) ?_
      try simp only [Act.put, List.getElem_toArray, List.getElem_cons_zero, List.getElem_cons_succ, List.setIfInBounds_toArray, List.set_cons_zero, List.set_cons_succ]
      refine wpAnyH_ready (rs := [4]) (by kernel_rfl) (by simp) ?_
      refine AllReadyH.cons rfl (fun K hK => ?_) AllReadyH.nil
      have rR : wa.heap[w.heap.size + 1]? = some (.cells #[.slice none 0 0, .slice none 0 0, .slice none 0 0, .int .i64 0, .int .i64 0, .bool false, .int .i64 0] 33 (0, 0)) := (D2.out.block _ (by omega)).trans RR.out
      have z0 : wa.cell? ⟨w.heap.size + 1, 0, none⟩ = some (.slice none 0 0) := (boxG rR 0).1
      have f0 : wa.frozen? ⟨w.heap.size + 1, 0, none⟩ = false := (boxG rR 0).2
      have z1 : wa.cell? ⟨w.heap.size + 1, 1, none⟩ = some (.slice none 0 0) := (boxG rR 1).1
      have f1 : wa.frozen? ⟨w.heap.size + 1, 1, none⟩ = false := (boxG rR 1).2
      have z2 : wa.cell? ⟨w.heap.size + 1, 2, none⟩ = some (.slice none 0 0) := (boxG rR 2).1
      have f2 : wa.frozen? ⟨w.heap.size + 1, 2, none⟩ = false := (boxG rR 2).2
      have z3 : wa.cell? ⟨w.heap.size + 1, 3, none⟩ = some (.int .i64 0) := (boxG rR 3).1
      have f3 : wa.frozen? ⟨w.heap.size + 1, 3, none⟩ = false := (boxG rR 3).2
      have z4 : wa.cell? ⟨w.heap.size + 1, 4, none⟩ = some (.int .i64 0) := (boxG rR 4).1
      have f4 : wa.frozen? ⟨w.heap.size + 1, 4, none⟩ = false := (boxG rR 4).2
      have z5 : wa.cell? ⟨w.heap.size + 1, 5, none⟩ = some (.bool false) := (boxG rR 5).1
      have f5 : wa.frozen? ⟨w.heap.size + 1, 5, none⟩ = false := (boxG rR 5).2
      have z6 : wa.cell? ⟨w.heap.size + 1, 6, none⟩ = some (.int .i64 0) := (boxG rR 6).1
      have f6 : wa.frozen? ⟨w.heap.size + 1, 6, none⟩ = false := (boxG rR 6).2
      obtain ⟨pg, pgs⟩ := PG.out wa (Below.refl _ _)
      obtain ⟨pc, pcs⟩ := PC.out wa (Below.refl _ _)
      have FIN : Hid (NewM w (((((((wa.setCell ⟨w.heap.size + 1, 0, none⟩ (.slice (some ⟨w1.heap.size + 1 + 1 + 1, 0, none⟩) 7 7)).setCell ⟨w.heap.size + 1, 1, none⟩ (.slice (some ⟨w1.heap.size + 1 + 1, 0, none⟩) 1 1)).setCell ⟨w.heap.size + 1, 2, none⟩ (.slice none 0 0)).setCell ⟨w.heap.size + 1, 3, none⟩ (.int .i64 0)).setCell ⟨w.heap.size + 1, 4, none⟩ (.int .i64 0)).setCell ⟨w.heap.size + 1, 5, none⟩ (.bool false)).setCell ⟨w.heap.size + 1, 6, none⟩ (.int .i64 0)) n (w1.heap.size + 1 + 1 + 1) (w1.heap.size + 1 + 1) (w1.heap.size) bs ∧ Below w.heap.size w (((((((wa.setCell ⟨w.heap.size + 1, 0, none⟩ (.slice (some ⟨w1.heap.size + 1 + 1 + 1, 0, none⟩) 7 7)).setCell ⟨w.heap.size + 1, 1, none⟩ (.slice (some ⟨w1.heap.size + 1 + 1, 0, none⟩) 1 1)).setCell ⟨w.heap.size + 1, 2, none⟩ (.slice none 0 0)).setCell ⟨w.heap.size + 1, 3, none⟩ (.int .i64 0)).setCell ⟨w.heap.size + 1, 4, none⟩ (.int .i64 0)).setCell ⟨w.heap.size + 1, 5, none⟩ (.bool false)).setCell ⟨w.heap.size + 1, 6, none⟩ (.int .i64 0)) ∧ (((((((wa.setCell ⟨w.heap.size + 1, 0, none⟩ (.slice (some ⟨w1.heap.size + 1 + 1 + 1, 0, none⟩) 7 7)).setCell ⟨w.heap.size + 1, 1, none⟩ (.slice (some ⟨w1.heap.size + 1 + 1, 0, none⟩) 1 1)).setCell ⟨w.heap.size + 1, 2, none⟩ (.slice none 0 0)).setCell ⟨w.heap.size + 1, 3, none⟩ (.int .i64 0)).setCell ⟨w.heap.size + 1, 4, none⟩ (.int .i64 0)).setCell ⟨w.heap.size + 1, 5, none⟩ (.bool false)).setCell ⟨w.heap.size + 1, 6, none⟩ (.int .i64 0)).heap[w1.heap.size + 1]? = some (.cells #[.int .i64 0, .int .i64 0, .slice (some ⟨w1.heap.size, 0, none⟩) n n, .slice none 0 0] 60 (0, 0))) := by
        have pl : WrV wa (w1.heap.size) (List.replicate n (false, 0)) := PL.out wa D2.out
        have kp : ∀ b, b ≠ w.heap.size + 1 → (((((((wa.setCell ⟨w.heap.size + 1, 0, none⟩ (.slice (some ⟨w1.heap.size + 1 + 1 + 1, 0, none⟩) 7 7)).setCell ⟨w.heap.size + 1, 1, none⟩ (.slice (some ⟨w1.heap.size + 1 + 1, 0, none⟩) 1 1)).setCell ⟨w.heap.size + 1, 2, none⟩ (.slice none 0 0)).setCell ⟨w.heap.size + 1, 3, none⟩ (.int .i64 0)).setCell ⟨w.heap.size + 1, 4, none⟩ (.int .i64 0)).setCell ⟨w.heap.size + 1, 5, none⟩ (.bool false)).setCell ⟨w.heap.size + 1, 6, none⟩ (.int .i64 0)).heap[b]? = wa.heap[b]? := fun b hb => by
          (repeat (rw [Below.heap_setCell _ _ _ _ (by simpa using hb)]))
        have ksz : (((((((wa.setCell ⟨w.heap.size + 1, 0, none⟩ (.slice (some ⟨w1.heap.size + 1 + 1 + 1, 0, none⟩) 7 7)).setCell ⟨w.heap.size + 1, 1, none⟩ (.slice (some ⟨w1.heap.size + 1 + 1, 0, none⟩) 1 1)).setCell ⟨w.heap.size + 1, 2, none⟩ (.slice none 0 0)).setCell ⟨w.heap.size + 1, 3, none⟩ (.int .i64 0)).setCell ⟨w.heap.size + 1, 4, none⟩ (.int .i64 0)).setCell ⟨w.heap.size + 1, 5, none⟩ (.bool false)).setCell ⟨w.heap.size + 1, 6, none⟩ (.int .i64 0)).heap.size = wa.heap.size := by simp only [World.size_setCell]
        refine ⟨⟨pg.agree (kp _ (by omega)) (fun j hj => kp _ (by have := HGT.out j hj; omega)) (by rw [ksz]; exact Nat.le_refl _), (kp _ (by omega)).trans pc, pl.keep (kp _ (by omega)), by omega, by omega, by omega, by omega, fun j hj => by have := HGT.out j hj; omega, by rw [ksz]; exact ⟨pgs, pcs, by have := D2.out.size; simp at this; omega⟩⟩, ?_, (kp _ (by omega)).trans ((D2.out.block _ (by omega)).trans (boxN _ _ _ _ (by simp)))⟩
        (repeat (refine Below.setCell ?_ (by simp only; omega) _))
        exact B1.out.trans (D2.out.mono (by omega))
      clear rR pg pgs pc pcs PG PC
      go_simp
      refine hK.out _ _ ?_ (fun hHeld4 => ?_)
      · exact KF.out _ FIN.out.2.2
      clear hK K
      try simp only [Act.put, List.getElem_toArray, List.getElem_cons_zero, List.getElem_cons_succ, List.setIfInBounds_toArray, List.set_cons_zero, List.set_cons_succ]
      refine wpAnyH_done (by kernel_rfl) ?_ _
      clear hHeld hHeld2 hHeld3 hHeld4
      obtain ⟨wz, hwz⟩ : ∃ x, x = (((((((wa.setCell ⟨w.heap.size + 1, 0, none⟩ (.slice (some ⟨w1.heap.size + 1 + 1 + 1, 0, none⟩) 7 7)).setCell ⟨w.heap.size + 1, 1, none⟩ (.slice (some ⟨w1.heap.size + 1 + 1, 0, none⟩) 1 1)).setCell ⟨w.heap.size + 1, 2, none⟩ (.slice none 0 0)).setCell ⟨w.heap.size + 1, 3, none⟩ (.int .i64 0)).setCell ⟨w.heap.size + 1, 4, none⟩ (.int .i64 0)).setCell ⟨w.heap.size + 1, 5, none⟩ (.bool false)).setCell ⟨w.heap.size + 1, 6, none⟩ (.int .i64 0)) := ⟨_, rfl⟩
      have q0 : wz.cell? ⟨w.heap.size + 1, 0, none⟩ = some (.slice (some ⟨w1.heap.size + 1 + 1 + 1, 0, none⟩) 7 7) ∧ wz.cell? ⟨w.heap.size + 1, 1, none⟩ = some (.slice (some ⟨w1.heap.size + 1 + 1, 0, none⟩) 1 1) ∧ wz.cell? ⟨w.heap.size + 1, 2, none⟩ = some (.slice none 0 0) ∧ wz.cell? ⟨w.heap.size + 1, 3, none⟩ = some (.int .i64 0) ∧ wz.cell? ⟨w.heap.size + 1, 4, none⟩ = some (.int .i64 0) ∧ wz.cell? ⟨w.heap.size + 1, 5, none⟩ = some (.bool false) ∧ wz.cell? ⟨w.heap.size + 1, 6, none⟩ = some (.int .i64 0) := ⟨by rw [hwz]; simp [go_sem, *], by rw [hwz]; simp [go_sem, *], by rw [hwz]; simp [go_sem, *], by rw [hwz]; simp [go_sem, *], by rw [hwz]; simp [go_sem, *], by rw [hwz]; simp [go_sem, *], by rw [hwz]; simp [go_sem, *]⟩
      have FN : Hid (NewM w wz n (w1.heap.size + 1 + 1 + 1) (w1.heap.size + 1 + 1) (w1.heap.size) bs ∧ Below w.heap.size w wz) := by rw [hwz]; exact ⟨FIN.out.1, FIN.out.2.1⟩
      rw [← hwz]
      clear FIN hwz z0 f0 z1 f1 z2 f2 z3 f3 z4 f4 z5 f5 z6 f6
      obtain ⟨q0, q1, q2, q3, q4, q5, q6⟩ := q0
      go_wp2_with fail
      refine bodyPost_ret (v := .agg #[.slice (some ⟨w1.heap.size + 1 + 1 + 1, 0, none⟩) 7 7, .slice (some ⟨w1.heap.size + 1 + 1, 0, none⟩) 1 1, .slice none 0 0, .int .i64 0, .int .i64 0, .bool false, .int .i64 0]) ?_ rfl ?_
      · simp [results, Tryz.results8, go_sem, *]
      · exact .inr ⟨ok, _, _, _, _, rfl, by rw [EN.out]; exact FN.out.1, FN.out.2⟩
end Go.Proofs.YthdlccadcadopaaGreat
namespace Go.Proofs.YthdlccadcadopaaGreat
open Go.ChangeShapes Go.WideShapes Go.ChangeAt Go.RowKit

theorem markNilObj (k : Int) (w : World) : Calls Tryz.prog 35 #[.slice none 0 0, .int .i64 k] w fun e w' => e = .returned (.int .i64 k) ∧ w = w' := by
  go_enter Tryz.func35, Tryz.ntmps35
  go_wp2_with fail
  refine wp_loop_rounds 1 ?_
  rw [rounds_succ]
  go_wp2_with fail
  go_ret
  exact ⟨rfl, rfl⟩
theorem markNilFrame (k : Int) (w : World) : Calls Tryz.prog 36 #[.slice none 0 0, .int .i64 k] w fun e w' => e = .returned (.int .i64 k) ∧ w = w' := by
  go_enter Tryz.func36, Tryz.ntmps36
  go_wp2_with fail
  refine wp_loop_rounds 1 ?_
  rw [rounds_succ]
  go_wp2_with fail
  go_ret
  exact ⟨rfl, rfl⟩
theorem markNilVal (k : Int) (w : World) : Calls Tryz.prog 74 #[.slice none 0 0, .int .i64 k] w fun e w' => e = .returned (.int .i64 k) ∧ w = w' := by
  go_enter Tryz.func74, Tryz.ntmps74
  go_wp2_with fail
  refine wp_loop_rounds 1 ?_
  rw [rounds_succ]
  go_wp2_with fail
  go_ret
  exact ⟨rfl, rfl⟩
theorem markNilInt (k : Int) (w : World) : Calls Tryz.prog 37 #[.slice none 0 0, .int .i64 k] w fun e w' => e = .returned (.int .i64 k) ∧ w = w' := by
  go_enter Tryz.func37, Tryz.ntmps37
  go_wp2_with fail
  refine wp_loop_rounds 1 ?_
  rw [rounds_succ]
  go_wp2_with fail
  go_ret
  exact ⟨rfl, rfl⟩
theorem heldNilObj (k : Int) (w : World) : Calls Tryz.prog 38 #[.slice none 0 0, .int .i64 k] w fun e w' => e = .returned (.int .i64 k) ∧ w = w' := by
  go_enter Tryz.func38, Tryz.ntmps38
  go_wp2_with fail
  refine wp_loop_rounds 1 ?_
  rw [rounds_succ]
  go_wp2_with fail
  go_ret
  exact ⟨rfl, rfl⟩
theorem heldNilFrame (k : Int) (w : World) : Calls Tryz.prog 39 #[.slice none 0 0, .int .i64 k] w fun e w' => e = .returned (.int .i64 k) ∧ w = w' := by
  go_enter Tryz.func39, Tryz.ntmps39
  go_wp2_with fail
  refine wp_loop_rounds 1 ?_
  rw [rounds_succ]
  go_wp2_with fail
  go_ret
  exact ⟨rfl, rfl⟩
theorem heldNilVal (k : Int) (w : World) : Calls Tryz.prog 75 #[.slice none 0 0, .int .i64 k] w fun e w' => e = .returned (.int .i64 k) ∧ w = w' := by
  go_enter Tryz.func75, Tryz.ntmps75
  go_wp2_with fail
  refine wp_loop_rounds 1 ?_
  rw [rounds_succ]
  go_wp2_with fail
  go_ret
  exact ⟨rfl, rfl⟩
theorem heldNilInt (k : Int) (w : World) : Calls Tryz.prog 40 #[.slice none 0 0, .int .i64 k] w fun e w' => e = .returned (.int .i64 k) ∧ w = w' := by
  go_enter Tryz.func40, Tryz.ntmps40
  go_wp2_with fail
  refine wp_loop_rounds 1 ?_
  rw [rounds_succ]
  go_wp2_with fail
  go_ret
  exact ⟨rfl, rfl⟩

def FrB (a b : Int) (LB n : Nat) : Obj := .cells #[.int .i64 a, .int .i64 b, .slice (some ⟨LB, 0, none⟩) n n, .slice none 0 0] 60 (0, 0)
set_option maxRecDepth 100000 in
set_option maxHeartbeats 4000000 in
theorem markFrame1 (FB LB n : Nat) (a b k : Int) (f : Nat → Vl) (w : World) (h : w.heap[FB]? = some (FrB a b LB n)) (hl : WrF w LB n f) (ne : FB ≠ LB) (hn : n ≤ 3) (k0 : 0 ≤ k) (k1 : k ≤ 1000) :
    Calls Tryz.prog 36 #[.slice (some ⟨FB, 0, none⟩) 1 1, .int .i64 k] w fun e w' => e = .returned (.int .i64 (k + 2 + 2 * n)) ∧ w'.heap[FB]? = some (FrB k (k + 1) LB n) ∧ WrF w' LB n (mV (k + 2)) ∧ Chg (fun b => b = FB ∨ b = LB) w w' := by
  have hF : FB < w.heap.size := (Array.getElem?_eq_some_iff.1 h).1
  have c0 : w.cell? ⟨FB, 0, none⟩ = some (.int .i64 a) := (boxG h 0).1
  have c1 : w.cell? ⟨FB, 1, none⟩ = some (.int .i64 b) := (boxG h 1).1
  have c2 : w.cell? ⟨FB, 2, none⟩ = some (.slice (some ⟨LB, 0, none⟩) n n) := (boxG h 2).1
  have c3 : w.cell? ⟨FB, 3, none⟩ = some (.slice none 0 0) := (boxG h 3).1
  have g0 := (boxG h 0).2
  have g1 := (boxG h 1).2
  obtain ⟨w1, hw1⟩ : ∃ x, x = (w.setCell ⟨FB, 0, none⟩ (.int .i64 k)).setCell ⟨FB, 1, none⟩ (.int .i64 (k + 1)) := ⟨_, rfl⟩
  have e1 : w1.heap[FB]? = some (FrB k (k + 1) LB n) := by rw [hw1]; exact boxS (boxS h 0 _) 1 _
  have HL : Hid (WrF w1 LB n f) := hl.keep (by rw [hw1, Below.heap_setCell _ _ _ _ (by simpa using ne.symm), Below.heap_setCell _ _ _ _ (by simpa using ne.symm)])
  have C1 : Hid (Chg (fun b => b = FB ∨ b = LB) w w1) := by
    rw [hw1]
    exact (Chg.set (D := fun b => b = FB ∨ b = LB) _ _ _ (.inl rfl)).trans (Chg.set (D := fun b => b = FB ∨ b = LB) _ _ _ (.inl rfl)) (fun _ _ h => h)
  have E1 : Hid (w1.heap[FB]? = some (FrB k (k + 1) LB n)) := e1
  have s1 : w1.heap.size = w.heap.size := by rw [hw1]; simp only [World.size_setCell]
  have hF1 : FB < w1.heap.size := by omega
  clear h hl e1
  go_enter Tryz.func36, Tryz.ntmps36
  go_wp2_with fail
  refine wp_loop_rounds 2 ?_
  rw [rounds_succ]
  go_wp2_with fail
  rw [← hw1]
  refine (markOwnV LB n n (k + 1 + 1) f w1 HL.out (by omega) (by omega) (by omega)).mono ?_
  rintro e w2 ⟨rfl, hW, hc⟩
  have e2 : w2.heap[FB]? = some (FrB k (k + 1) LB n) := (hc.block FB hF1 (fun e => ne e)).trans E1.out
  have d3 : w2.cell? ⟨FB, 3, none⟩ = some (.slice none 0 0) := (boxG e2 3).1
  have E2 : Hid (w2.heap[FB]? = some (FrB k (k + 1) LB n)) := e2
  have W2 : Hid (WrF w2 LB n (mV (k + 2))) := by have := hW; rwa [show k + 1 + 1 = k + 2 by omega] at this
  have C2 : Hid (Chg (fun b => b = FB ∨ b = LB) w w2) := C1.out.trans hc (fun _ _ h => .inr h)
  clear hW hc e2 hw1 c0 c1 c2 c3 g0 g1
  go_wp2_with fail
  refine (markNilVal _ _).mono ?_
  rintro e w3 ⟨rfl, rfl⟩
  go_wp2_with fail
  rw [rounds_succ]
  go_wp2_with fail
  go_ret
  exact ⟨by rw [show k + 1 + 1 + 2 * (n : Int) = k + 2 + 2 * n by omega]; rfl, E2.out, W2.out, C2.out⟩
set_option maxRecDepth 100000 in
set_option maxHeartbeats 4000000 in
theorem heldFrame1 (FB LB n : Nat) (k : Int) (w : World) (h : w.heap[FB]? = some (FrB k (k + 1) LB n)) (hl : WrF w LB n (mV (k + 2))) (hn : n ≤ 3) (k0 : 0 ≤ k) (k1 : k ≤ 1000) :
    Calls Tryz.prog 39 #[.slice (some ⟨FB, 0, none⟩) 1 1, .int .i64 k] w fun e w' => e = .returned (.int .i64 (k + 2 + 2 * n)) ∧ w = w' := by
  have hF : FB < w.heap.size := (Array.getElem?_eq_some_iff.1 h).1
  have c0 : w.cell? ⟨FB, 0, none⟩ = some (.int .i64 k) := (boxG h 0).1
  have c1 : w.cell? ⟨FB, 1, none⟩ = some (.int .i64 (k + 1)) := (boxG h 1).1
  have c2 : w.cell? ⟨FB, 2, none⟩ = some (.slice (some ⟨LB, 0, none⟩) n n) := (boxG h 2).1
  have c3 : w.cell? ⟨FB, 3, none⟩ = some (.slice none 0 0) := (boxG h 3).1
  have HL : Hid (WrF w LB n (mV (k + 2))) := hl
  have q0 : (k != k) = false := by simp
  have q1 : ((k + 1) != (k + 1)) = false := by simp
  have q2 : ¬ (k + 1 + 1 + 2 * (n : Int) < 0) := by omega
  have EK : k + 2 = k + 1 + 1 := by omega
  clear h hl
  go_enter Tryz.func39, Tryz.ntmps39
  go_wp2_with fail
  refine wp_loop_rounds 2 ?_
  rw [rounds_succ]
  go_wp2_with fail
  refine (heldOwnV LB n n (k + 1 + 1) w (by rw [← EK]; exact HL.out) (by omega) (by omega) (by omega)).mono ?_
  rintro e w2 ⟨rfl, rfl⟩
  clear EK
  go_wp2_with fail
  refine (heldNilVal _ _).mono ?_
  rintro e w3 ⟨rfl, rfl⟩
  go_wp2_with fail
  rw [rounds_succ]
  go_wp2_with fail
  go_ret
  exact ⟨by rw [show k + 1 + 1 + 2 * (n : Int) = k + 2 + 2 * n by omega]; rfl, rfl⟩

/-- Where a machine at the beginning lies, whatever its numbers. -/
structure MM (w : World) (n G FB LB : Nat) (bs : Nat → Nat) (cls : Nat → Int) (F : Nat → Nat → Vl) (a b : Int) (f : Nat → Vl) : Prop where
  objs : GrF w G 7 (fun _ => 1) bs cls F
  frame : w.heap[FB]? = some (FrB a b LB n)
  locs : WrF w LB n f
  lg : LB ≠ G
  lf : LB ≠ FB
  fg : FB ≠ G
  fb : ∀ j, j < 7 → bs j ≠ FB
  lb : ∀ j, j < 7 → bs j ≠ LB
  hi : G < w.heap.size ∧ FB < w.heap.size ∧ LB < w.heap.size
def MB (G FB LB : Nat) (bs : Nat → Nat) (b : Nat) : Prop := (b = G ∨ ∃ j, j < 7 ∧ b = bs j) ∨ b = FB ∨ b = LB
theorem MM.keep {w w' : World} {n G FB LB : Nat} {bs : Nat → Nat} {cls : Nat → Int} {F : Nat → Nat → Vl} {a b : Int} {f : Nat → Vl} (h : MM w n G FB LB bs cls F a b f) (hk : ∀ x, MB G FB LB bs x → w'.heap[x]? = w.heap[x]?) (hs : w.heap.size ≤ w'.heap.size) : MM w' n G FB LB bs cls F a b f :=
  ⟨h.objs.keep (hk _ (.inl (.inl rfl))) (fun j hj => hk _ (.inl (.inr ⟨j, hj, rfl⟩))) hs, (hk _ (.inr (.inl rfl))).trans h.frame, h.locs.keep (hk _ (.inr (.inr rfl))), h.lg, h.lf, h.fg, h.fb, h.lb, by have := h.hi; omega⟩
theorem MM.lt {w : World} {n G FB LB : Nat} {bs : Nat → Nat} {cls : Nat → Int} {F : Nat → Nat → Vl} {a b : Int} {f : Nat → Vl} (h : MM w n G FB LB bs cls F a b f) {x : Nat} (hx : MB G FB LB bs x) : x < w.heap.size := by
  rcases hx with (rfl | ⟨j, hj, rfl⟩) | rfl | rfl
  · exact h.hi.1
  · exact (h.objs.off j hj).2
  · exact h.hi.2.1
  · exact h.hi.2.2
theorem MM.later {w w' : World} {n G FB LB : Nat} {bs : Nat → Nat} {cls : Nat → Int} {F : Nat → Nat → Vl} {a b : Int} {f : Nat → Vl} (h : MM w n G FB LB bs cls F a b f) (hb : Below w.heap.size w w') : MM w' n G FB LB bs cls F a b f :=
  h.keep (fun x hx => hb.block x (h.lt hx)) hb.size
theorem NewM.mm {w w' : World} {n G FB LB : Nat} {bs : Nat → Nat} (h : NewM w w' n G FB LB bs) : ∃ cls F f, MM w' n G FB LB bs cls F 0 0 f := by
  refine ⟨fun _ => 1, fun j _ => (false, (j : Int) + 1), fun j => (List.replicate n ((false, 0) : Vl)).getD j (false, 0), ⟨fun j hj => ?_, fun j hj => (h.objs.free j hj).2, fun i j hi hj hne => ?_, fun j hj => ⟨by have := (h.objs.gt j hj).1; omega, (h.objs.gt j hj).2⟩⟩, h.frame, by have := h.locs.f; simpa using this, by have := h.lg; omega, by have := h.lf; omega, h.fg, fun j hj => (h.fb j hj).symm, fun j hj => by have := (h.objs.gt j hj).1; have := h.lg; omega, h.hi⟩
  · obtain ⟨h1, h2, _, h4⟩ := h.objs.row j _ hj (faults_at j hj)
    refine ⟨h1, h2, ⟨fun i hi => ?_, fun i hi => h4.free i hi⟩⟩
    obtain rfl : i = 0 := by omega
    obtain ⟨k1, k2, _⟩ := h4.at' 0 _ rfl
    exact ⟨k1, k2⟩
  · rcases Nat.lt_or_gt_of_ne hne with h1 | h1
    · have := h.objs.inc i j h1 hj; omega
    · have := h.objs.inc j i h1 hi; omega
theorem kAt7 : kAt 1 (fun _ => 1) 7 = 22 := rfl

abbrev Mkd7 (w : World) (n G FB LB : Nat) (bs : Nat → Nat) : Prop := MM w n G FB LB bs (kAt 1 (fun _ => 1)) (fun j => mV (kAt 1 (fun _ => 1) j + 1)) 22 23 (mV 24)
set_option maxRecDepth 100000 in
set_option maxHeartbeats 4000000 in
theorem markNew (n G FB LB : Nat) (bs : Nat → Nat) (cls : Nat → Int) (F : Nat → Nat → Vl) (a b : Int) (f : Nat → Vl) (w : World) (h : MM w n G FB LB bs cls F a b f) (hn : n ≤ 3) :
    Calls Tryz.prog 12 #[.agg #[.slice (some ⟨G, 0, none⟩) 7 7, .slice (some ⟨FB, 0, none⟩) 1 1, .slice none 0 0, .int .i64 0, .int .i64 0, .bool false, .int .i64 0], .int .i64 1] w fun e w' => e = .returned (.int .i64 (24 + 2 * n)) ∧ Mkd7 w' n G FB LB bs ∧ Chg (MB G FB LB bs) w w' := by
  have h0 := h.later ((Below.refl w.heap.size w).alloc (Nat.le_refl _) (.cells #[.slice (some ⟨G, 0, none⟩) 7 7, .slice (some ⟨FB, 0, none⟩) 1 1, .slice none 0 0, .int .i64 0, .int .i64 0, .bool false, .int .i64 0] 33))
  have H : Hid (MM (w.alloc (.cells #[.slice (some ⟨G, 0, none⟩) 7 7, .slice (some ⟨FB, 0, none⟩) 1 1, .slice none 0 0, .int .i64 0, .int .i64 0, .bool false, .int .i64 0] 33)) n G FB LB bs cls F a b f) := h0
  have HS : Hid (G < w.heap.size ∧ FB < w.heap.size ∧ LB < w.heap.size ∧ ∀ j, j < 7 → bs j < w.heap.size) := ⟨h.hi.1, h.hi.2.1, h.hi.2.2, fun j hj => (h.objs.off j hj).2⟩
  have CA : Hid (Chg (MB G FB LB bs) w (w.alloc (.cells #[.slice (some ⟨G, 0, none⟩) 7 7, .slice (some ⟨FB, 0, none⟩) 1 1, .slice none 0 0, .int .i64 0, .int .i64 0, .bool false, .int .i64 0] 33))) := Chg.alloc _ _ _
  have xb := boxN w #[.slice (some ⟨G, 0, none⟩) 7 7, .slice (some ⟨FB, 0, none⟩) 1 1, .slice none 0 0, .int .i64 0, .int .i64 0, .bool false, .int .i64 0] 33 w.heap.size rfl
  have XB : Hid ((w.alloc (.cells #[.slice (some ⟨G, 0, none⟩) 7 7, .slice (some ⟨FB, 0, none⟩) 1 1, .slice none 0 0, .int .i64 0, .int .i64 0, .bool false, .int .i64 0] 33)).heap[w.heap.size]? = some (.cells #[.slice (some ⟨G, 0, none⟩) 7 7, .slice (some ⟨FB, 0, none⟩) 1 1, .slice none 0 0, .int .i64 0, .int .i64 0, .bool false, .int .i64 0] 33 (0, 0))) := xb
  clear h h0 xb
  go_enter Tryz.func12, Tryz.ntmps12
  go_wp2_with fail
  refine (markOwnO G 7 7 1 (fun _ => 1) bs cls F _ H.out.objs (by omega) (fun _ _ => by omega) (by omega) (by omega)).mono ?_
  rintro e w1 ⟨rfl, hF, hc⟩
  rw [kAt7]
  have kp : ∀ x, x < w.heap.size + 1 → x ≠ G → (∀ j, j < 7 → x ≠ bs j) → w1.heap[x]? = (w.alloc (.cells #[.slice (some ⟨G, 0, none⟩) 7 7, .slice (some ⟨FB, 0, none⟩) 1 1, .slice none 0 0, .int .i64 0, .int .i64 0, .bool false, .int .i64 0] 33)).heap[x]? := fun x h1 h2 h3 => hc.block x (by simp; omega) (fun hd => by
    rcases hd with h | ⟨j, hj, h⟩
    · exact h2 h
    · exact h3 j hj h)
  have x1 : w1.heap[w.heap.size]? = some (.cells #[.slice (some ⟨G, 0, none⟩) 7 7, .slice (some ⟨FB, 0, none⟩) 1 1, .slice none 0 0, .int .i64 0, .int .i64 0, .bool false, .int .i64 0] 33 (0, 0)) := (kp _ (by omega) (by have := HS.out.1; omega) (fun j hj => by have := HS.out.2.2.2 j hj; omega)).trans XB.out
  have X1 : Hid (w1.heap[w.heap.size]? = some (.cells #[.slice (some ⟨G, 0, none⟩) 7 7, .slice (some ⟨FB, 0, none⟩) 1 1, .slice none 0 0, .int .i64 0, .int .i64 0, .bool false, .int .i64 0] 33 (0, 0))) := x1
  have M1 : Hid (MM w1 n G FB LB bs (kAt 1 (fun _ => 1)) (fun j => mV (kAt 1 (fun _ => 1) j + 1)) a b f) := by
    have q := H.out
    have hs := HS.out
    exact ⟨hF, (kp _ (by omega) q.fg (fun j hj => (q.fb j hj).symm)).trans q.frame, q.locs.keep (kp _ (by omega) q.lg (fun j hj => (q.lb j hj).symm)), q.lg, q.lf, q.fg, q.fb, q.lb, by have := hc.size; simp at this; omega⟩
  have C1 : Hid (Chg (MB G FB LB bs) w w1) := CA.out.trans hc (fun _ _ h => .inl h)
  have d1 : w1.cell? ⟨w.heap.size, 1, none⟩ = some (.slice (some ⟨FB, 0, none⟩) 1 1) := (boxG x1 1).1
  have s1 : w.heap.size < w1.heap.size := by have := hc.size; simp at this; omega
  clear hF hc kp x1
  go_wp2_with fail
  refine (markFrame1 FB LB n a b 22 f w1 M1.out.frame M1.out.locs (fun e => M1.out.lf e.symm) hn (by omega) (by omega)).mono ?_
  rintro e w2 ⟨rfl, hF, hW, hc⟩
  have x2 : w2.heap[w.heap.size]? = some (.cells #[.slice (some ⟨G, 0, none⟩) 7 7, .slice (some ⟨FB, 0, none⟩) 1 1, .slice none 0 0, .int .i64 0, .int .i64 0, .bool false, .int .i64 0] 33 (0, 0)) := (hc.block _ s1 (fun hd => by have := HS.out; rcases hd with h | h <;> omega)).trans X1.out
  have M2 : Hid (Mkd7 w2 n G FB LB bs) := by
    have q := M1.out
    have hs := HS.out
    refine ⟨q.objs.keep (hc.block _ q.hi.1 (fun hd => by rcases hd with h | h; exact q.fg h.symm; exact q.lg h.symm)) (fun j hj => hc.block _ (q.objs.off j hj).2 (fun hd => by rcases hd with h | h; exact q.fb j hj h; exact q.lb j hj h)) hc.size, hF, hW, q.lg, q.lf, q.fg, q.fb, q.lb, by have := hc.size; have := q.hi; omega⟩
  have C2 : Hid (Chg (MB G FB LB bs) w w2) := C1.out.trans hc (fun _ _ h => .inr h)
  have d2 : w2.cell? ⟨w.heap.size, 2, none⟩ = some (.slice none 0 0) := (boxG x2 2).1
  have s2 : w.heap.size < w2.heap.size := by have := hc.size; omega
  clear hF hc hW x2 d1
  go_wp2_with fail
  refine (markNilInt _ _).mono ?_
  rintro e w3 ⟨rfl, rfl⟩
  go_wp2_with fail
  go_ret
  exact ⟨rfl, M2.out, C2.out⟩
set_option maxRecDepth 100000 in
set_option maxHeartbeats 4000000 in
theorem heldNew (n G FB LB : Nat) (bs : Nat → Nat) (w : World) (h : Mkd7 w n G FB LB bs) (hn : n ≤ 3) :
    Calls Tryz.prog 13 #[.agg #[.slice (some ⟨G, 0, none⟩) 7 7, .slice (some ⟨FB, 0, none⟩) 1 1, .slice none 0 0, .int .i64 0, .int .i64 0, .bool false, .int .i64 0], .int .i64 1] w fun e w' => e = .returned (.int .i64 (24 + 2 * n)) ∧ Below w.heap.size w w' := by
  have h0 := h.later ((Below.refl w.heap.size w).alloc (Nat.le_refl _) (.cells #[.slice (some ⟨G, 0, none⟩) 7 7, .slice (some ⟨FB, 0, none⟩) 1 1, .slice none 0 0, .int .i64 0, .int .i64 0, .bool false, .int .i64 0] 33))
  have H : Hid (Mkd7 (w.alloc (.cells #[.slice (some ⟨G, 0, none⟩) 7 7, .slice (some ⟨FB, 0, none⟩) 1 1, .slice none 0 0, .int .i64 0, .int .i64 0, .bool false, .int .i64 0] 33)) n G FB LB bs) := h0
  clear h h0
  go_enter Tryz.func13, Tryz.ntmps13
  go_wp2_with fail
  refine (heldOwnO G 7 7 1 (fun _ => 1) bs _ H.out.objs (by omega) (fun _ _ => by omega) (by omega) (by omega)).mono ?_
  rintro e w1 ⟨rfl, rfl⟩
  rw [kAt7]
  go_wp2_with fail
  refine (heldFrame1 FB LB n 22 _ H.out.frame H.out.locs hn (by omega) (by omega)).mono ?_
  rintro e w2 ⟨rfl, rfl⟩
  have q2 : ¬ ((22 : Int) + 2 + 2 * (n : Int) < 0) := by omega
  go_wp2_with fail
  refine (heldNilInt _ _).mono ?_
  rintro e w3 ⟨rfl, rfl⟩
  go_wp2_with fail
  go_ret
  exact ⟨rfl, (Below.refl _ _).alloc (Nat.le_refl _) _⟩

theorem markNone (w : World) : Calls Tryz.prog 12 #[.agg #[.slice none 0 0, .slice none 0 0, .slice none 0 0, .int .i64 0, .int .i64 0, .bool false, .int .i64 0], .int .i64 1] w fun e w' => e = .returned (.int .i64 1) ∧ Below w.heap.size w w' := by
  go_enter Tryz.func12, Tryz.ntmps12
  go_wp2_with fail
  refine (markNilObj _ _).mono ?_
  rintro e w1 ⟨rfl, rfl⟩
  go_wp2_with fail
  refine (markNilFrame _ _).mono ?_
  rintro e w2 ⟨rfl, rfl⟩
  go_wp2_with fail
  refine (markNilInt _ _).mono ?_
  rintro e w3 ⟨rfl, rfl⟩
  go_wp2_with fail
  go_ret
  exact ⟨rfl, by go_grown⟩
theorem heldNone (w : World) : Calls Tryz.prog 13 #[.agg #[.slice none 0 0, .slice none 0 0, .slice none 0 0, .int .i64 0, .int .i64 0, .bool false, .int .i64 0], .int .i64 1] w fun e w' => e = .returned (.int .i64 1) ∧ Below w.heap.size w w' := by
  go_enter Tryz.func13, Tryz.ntmps13
  go_wp2_with fail
  refine (heldNilObj _ _).mono ?_
  rintro e w1 ⟨rfl, rfl⟩
  go_wp2_with fail
  refine (heldNilFrame _ _).mono ?_
  rintro e w2 ⟨rfl, rfl⟩
  go_wp2_with fail
  refine (heldNilInt _ _).mono ?_
  rintro e w3 ⟨rfl, rfl⟩
  go_wp2_with fail
  go_ret
  exact ⟨rfl, by go_grown⟩
theorem NewM.keep {w w1 w2 : World} {n G FB LB : Nat} {bs : Nat → Nat} (h : NewM w w1 n G FB LB bs) (hk : ∀ x, MB G FB LB bs x → w2.heap[x]? = w1.heap[x]?) (hs : w1.heap.size ≤ w2.heap.size) : NewM w w2 n G FB LB bs :=
  ⟨h.objs.agree (hk _ (.inl (.inl rfl))) (fun j hj => hk _ (.inl (.inr ⟨j, hj, rfl⟩))) hs, (hk _ (.inr (.inl rfl))).trans h.frame, h.locs.keep (hk _ (.inr (.inr rfl))), h.lo, h.lg, h.lf, h.fg, h.fb, by have := h.hi; omega⟩
theorem NewM.nd {w w1 : World} {n G FB LB : Nat} {bs : Nat → Nat} (h : NewM w w1 n G FB LB bs) {b : Nat} (hb : MB G FB LB bs b) : w.heap.size ≤ b ∧ b < w1.heap.size := by
  have h1 := h.lo
  have h2 := h.lg
  have h3 := h.lf
  have h4 := h.hi
  rcases hb with (rfl | ⟨j, hj, rfl⟩) | rfl | rfl
  · omega
  · have := h.objs.gt j hj; omega
  · omega
  · omega
theorem NewM.later {w w1 w2 : World} {n G FB LB : Nat} {bs : Nat → Nat} (h : NewM w w1 n G FB LB bs) (hb : Below w1.heap.size w1 w2) : NewM w w2 n G FB LB bs :=
  h.keep (fun x hx => hb.block x (h.nd hx).2) hb.size
theorem NewM.sls {w w1 : World} {n G FB LB : Nat} {bs : Nat → Nat} (h : NewM w w1 n G FB LB bs) (hn : n ≤ 3) : SlAt obR (fun _ => True) w1 (some ⟨G, 0, none⟩) 7 faults ∧ SlAt frR (fun _ => True) w1 (some ⟨FB, 0, none⟩) 1 [(0, 0, List.replicate n (false, 0), [])] := by
  refine ⟨(h.objs.sl rfl (by omega) (fun x hx => (faults_ok x hx).1)).mono (fun _ _ _ => trivial), frame_at h.frame trivial ?_⟩
  have := (h.locs.sl (by simp; omega)).mono (E := fun _ => True) (fun _ _ _ => trivial)
  simpa using this
theorem sl_zero {α : Type} {R : Rep α} {D : Nat → Prop} (w : World) (a : Option Addr) : SlAt R D w a 0 [] := ⟨rfl, by omega, .inl rfl⟩

end Go.Proofs.YthdlccadcadopaaGreat
