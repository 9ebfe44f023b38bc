/-
  To append nothing leaves a slice as it is; what is appended may lie anywhere.
-/
import Derived.Test.YtjbmcdekhhbiaaaGreatInts2
import Derived.Test.YtjbmcdekhhbiaaaGreatClsSpec
import Derived.Deep.AppendLies
import Derived.Deep.RegionLaw
import Derived.Laws.OwnMore
namespace Go.Proofs.YtjbmcdekhhbiaaaGreat
open Go.ChangeShapes Go.WideShapes Go.ChangeAt Go.RowKit

theorem run_append_empty {P : Program} {w : World} (base : Nat) (t ty e : TypeId) (i : TypeInfo) (size : Nat) (ht : P.underlying t = some (.slice e)) (hi : P.info? e = some i)
    (v : Value) (n : Nat) (xs : List Value) (hown : w.ownsRow base e size v n xs) (sa : Option Addr) (sc : Nat) :
    (Builtin.append_ #[t, t] ty #[v, .slice sa 0 sc]).run P w = .ok v w := by
  rcases hown.2 with ⟨rfl, rfl⟩ | ⟨g, cap, cur, rfl, _, _, hnc, _⟩
  · cases sa <;> simp [Builtin.append_, run_underlying ht, sizeOf, typeInfo, hi, Builtin.lenOf, Builtin.firstCells, loadCells, loadCellsFrom]
  · cases sa <;> simp [Builtin.append_, run_underlying ht, sizeOf, typeInfo, hi, Builtin.lenOf, Builtin.firstCells, hnc, storeCells, loadCells, loadCellsFrom]

theorem step_append_empty {P : Program} {w : World} {ops : Array Oper} {o : Oper} {a : Act} {K : Act → World → Prop} {Q : Exit → Act → World → Prop} {E : Prop} (hgd : o.guard = none) (s x : Operand) (t : TypeId)
    (ho : o.op = .call { callee := .builtin .append, args := #[s, x], argTypes := #[t, t] }) (base : Nat) (e : TypeId) (i : TypeInfo) (size : Nat) (ht : P.underlying t = some (.slice e)) (hi : P.info? e = some i)
    (v : Value) (n : Nat) (xs : List Value) (hs : a.eval s = v) (hown : w.ownsRow base e size v n xs) (sa : Option Addr) (sc : Nat) (hx : a.eval x = .slice sa 0 sc) (h : K (a.put o.dst v) w) :
    if Region.wanted o (yielded ops a.tmps) = true then Oper.wp P o a w K Q else E := by
  have hw : Region.wanted o (yielded ops a.tmps) = true := by simp [Region.wanted, hgd]
  rw [if_pos hw]
  have hr := run_append_empty (P := P) (w := w) base t o.type e i size ht hi v n xs hown sa sc
  unfold Oper.wp execOp
  simp only [ho, resolve, invoke, builtin, Sem.run_bind, Sem.run_pure, Result.andThen_ok, List.map_toArray, List.map_cons, List.map_nil, hs, hx, hr]
  exact h

/-- All fields of a class: those of the one above first. -/
def fldN (L : List Cl) : Nat → Nat → List Int
  | 0, _ => []
  | f + 1, c => if c = 0 then [] else fldN L f (sup L c) ++ (cl L c).2
def fld (L : List Cl) (c : Nat) : List Int := fldN L c c
theorem fldN_more {L : List Cl} (h : clsOk L = true) : ∀ (c f : Nat), c < L.length → c ≤ f → fldN L f c = fldN L c c := by
  intro c
  induction c using Nat.strongRecOn with
  | ind c ih =>
    intro f hl hf
    match c, f, hf with
    | 0, 0, _ => rfl
    | 0, f + 1, _ => simp [fldN]
    | c + 1, f + 1, _ =>
      have hs := (sup_lt h (c + 1) (by omega) hl).1
      rw [fldN, fldN, if_neg (by omega), if_neg (by omega), ih (sup L (c + 1)) hs f (by omega) (by omega), ih (sup L (c + 1)) hs c (by omega) (by omega)]
theorem fld_zero (L : List Cl) : fld L 0 = [] := rfl
theorem fld_step {L : List Cl} (h : clsOk L = true) (c : Nat) (hl : c < L.length) (h1 : 1 ≤ c) : fld L c = fld L (sup L c) ++ (cl L c).2 := by
  have hs := (sup_lt h c h1 hl).1
  unfold fld
  match c, h1 with
  | c + 1, _ => rw [fldN, if_neg (by omega), fldN_more h (sup L (c + 1)) c (by omega) (by omega)]
theorem own_short {L : List Cl} (h : clsOk L = true) (c : Nat) (hl : c < L.length) : (cl L c).2.length ≤ 2 := by
  have h1 := ok_head h c hl
  unfold headB at h1
  split at h1
  · simp at h1; rw [h1.2]; simp
  · split at h1
    · simp at h1; omega
    · simp at h1; omega
theorem fld_short {L : List Cl} (h : clsOk L = true) : ∀ (c : Nat), c < L.length → (fld L c).length ≤ 2 * c := by
  intro c
  induction c using Nat.strongRecOn with
  | ind c ih =>
    intro hl
    by_cases h0 : c = 0
    · subst h0; simp [fld_zero]
    · have hs := (sup_lt h c (by omega) hl).1
      rw [fld_step h c hl (by omega), List.length_append]
      have := ih _ hs (by omega)
      have := own_short h c hl
      omega

theorem own_one0 {w : World} {base : Nat} {e : TypeId} {size n : Nat} {v : Value} {xs : List Value} (h : w.ownsRow base e size v n xs) : v.oneCell' = true := by
  rcases h.2 with ⟨rfl, _⟩ | ⟨g, cap, cur, rfl, _⟩ <;> rfl
theorem own_ge {w : World} {base : Nat} {e : TypeId} {size n : Nat} {v : Value} {xs : List Value} (h : w.ownsRow base e size v n xs) (k : Nat) (hk : some k = v.ownBlock) : base ≤ k := by
  rcases h.2 with ⟨rfl, _⟩ | ⟨g, cap, cur, rfl, hb, _⟩
  · simp [Value.ownBlock] at hk
  · simp [Value.ownBlock] at hk; omega

/-- A list of ints in new memory. -/
def NewInts (w : World) (v : Value) (w' : World) (xs : List Int) : Prop := w'.ownsRow w.heap.size 3 1 v xs.length (xs.map (Value.int .i64)) ∧ Below w.heap.size w w'

theorem info_int3 : (Tryz.prog.info? 3).map (fun i => (i.zero, i.size, i.bytes)) = some (some (.int .i64 0), 1, 8) := by kernel_rfl

theorem ints_one (xs : List Int) : ∀ u ∈ xs.map (Value.int .i64), u.oneCell' = true := by
  intro u hu
  obtain ⟨x, _, rfl⟩ := List.mem_map.1 hu
  rfl

set_option maxHeartbeats 1000000 in
theorem l2FieldsSpec (a : Option Addr) (len cap : Nat) (L : List Cl) {D E : Nat → Prop} (ok : clsOk L = true) (hS : L.length = len) : ∀ (c : Nat) (w : World), c < len → ClsAt D E w a len L →
    Calls Tryz.prog 62 #[.slice a len cap, .int .i64 c] w fun e w' => ∃ v, e = .returned v ∧ NewInts w v w' (fld L c) := by
  intro c
  induction c using Nat.strongRecOn with
  | ind c ih =>
    intro w hc h
    have IH : Hid (∀ (m : Nat), m < c → ∀ (w : World), m < len → ClsAt D E w a len L → Calls Tryz.prog 62 #[.slice a len cap, .int .i64 m] w fun e w' => ∃ v, e = .returned v ∧ NewInts w v w' (fld L m)) := ih
    have OK : Hid (clsOk L = true) := ok
    have HS : Hid (L.length = len) := hS
    have H : Hid (ClsAt D E w a len L) := h
    clear ih
    by_cases h0 : c = 0
    · subst h0
      go_enter Tryz.func62, Tryz.ntmps62
      go_wp2_with fail
      go_ret
      exact ⟨_, rfl, World.ownsRow_lit (base := w.heap.size) (e := 3) (size := 1) w #[] 0 (Nat.le_refl _) (by unfold maxLen; omega) rfl, by go_grown⟩
    · have e0 : ((c : Int) == 0) = false := by simp; omega
      obtain ⟨b, off, rfl, h1, fa, fl, fc, h2, h3⟩ : ∃ b off, a = some ⟨b, off, none⟩ ∧ w.cell? ⟨b, off + c * 2, none⟩ = some (.int .i64 (cl L c).1) ∧ ∃ fa fl fc, w.cell? ⟨b, off + c * 2 + 1, none⟩ = some (.slice fa fl fc) ∧ IntsAt E w fa fl (cl L c).2 := by
        rcases h.cells with h0 | ⟨b, off, ha, _, hc'⟩
        · omega
        · exact ⟨b, off, ha, hc' c hc⟩
      have hs := sup_lt ok c (by omega) (by rw [hS]; exact hc)
      rw [hs.2] at h1
      have hs1 := hs.1
      have hbl := World.block_lt_of_cell? w _ h1
      simp only at hbl
      have HI : Hid (IntsAt E w fa fl (cl L c).2) := h3
      have HF : Hid (fld L c = fld L (sup L c) ++ (cl L c).2) := fld_step ok c (by rw [hS]; exact hc) (by omega)
      have hsh := own_short ok c (by rw [hS]; exact hc)
      rw [h3.size] at hsh
      have hfs := fld_short ok (sup L c) (by rw [hS]; omega)
      have hl5 := (ok_len ok).2
      have hl5' : len ≤ 5 := by rw [← hS]; exact hl5
      have KC : Hid (∀ w1, Below w.heap.size w w1 → w1.cell? ⟨b, off + c * 2, none⟩ = some (.int .i64 (sup L c : Nat)) ∧ w1.cell? ⟨b, off + c * 2 + 1, none⟩ = some (.slice fa fl fc)) :=
        fun w1 hb => ⟨(hb.cell (p := ⟨b, off + c * 2, none⟩) hbl).trans h1, (hb.cell (p := ⟨b, off + c * 2 + 1, none⟩) hbl).trans h2⟩
      obtain ⟨i0, hi0, hz0, hz1, hz2⟩ := info_parts info_int3
      clear hs h3 h hS ok hl5
      by_cases hfl : fl = 0
      · subst hfl
        go_enter Tryz.func62, Tryz.ntmps62
        go_wp2_with fail
        go_region_law (first
          | (go_simp
             go_at_call 62
             refine (IH.out (sup L c) hs1 _ (by omega) (H.out.later (by go_grown))).mono ?_
             rintro e w1 ⟨v, rfl, own1, hb1⟩
             have hb1' : Below w.heap.size w w1 := ⟨hb1.os, hb1.tape, hb1.output, hb1.size, hb1.block⟩
             have d1 := (KC.out w1 hb1').2
             have own1' : w1.ownsRow w.heap.size 3 1 v (fld L (sup L c)).length ((fld L (sup L c)).map (Value.int .i64)) := own1)
          | (refine step_append_empty (by rfl) _ _ _ (by rfl) w.heap.size 3 i0 1 Tryz.underlying23 hi0 v _ _ (by rfl) own1' fa fc (by rfl) ?_))
        all_goals
          have P : Hid (NewInts w v w1 (fld L c)) := by
            have hn : (cl L c).2 = [] := List.eq_nil_of_length_eq_zero HI.out.size
            rw [HF.out, hn, List.append_nil]
            exact ⟨own1', hb1'⟩
          have hone := own_one0 own1'
          clear own1 own1' hb1 hb1' d1
          go_wp2_with fail
          go_ret
          exact ⟨_, rfl, P.out⟩
      · obtain ⟨fb, fo, rfl, hcell⟩ : ∃ fb fo, fa = some ⟨fb, fo, none⟩ ∧ ∀ j, j < fl → w.cell? ⟨fb, fo + j, none⟩ = some (.int .i64 ((cl L c).2.getD j 0)) := by
          rcases HI.out.cells with h0' | ⟨fb, fo, ha, _, hcs⟩
          · omega
          · exact ⟨fb, fo, ha, hcs⟩
        have KN : Hid (∀ w1, Below w.heap.size w w1 → ∀ j u, ((cl L c).2.map (Value.int .i64))[j]? = some u → w1.cell? ((⟨fb, fo, none⟩ : Addr).add j) = some u) := by
          intro w1 hb j u hu
          have hj : j < fl := by
            have := (List.getElem?_eq_some_iff.1 hu).1
            rw [List.length_map, HI.out.size] at this
            exact this
          rw [Addr.add_lit, hb.cell (p := ⟨fb, fo + j, none⟩) (World.block_lt_of_cell? w _ (hcell j hj)), hcell j hj, ← hu, List.getElem?_map, List.getD_eq_getElem?_getD, List.getElem?_eq_getElem (by rw [HI.out.size]; exact hj)]
          rfl
        have HL : Hid (((cl L c).2.map (Value.int .i64)).length = fl * 1) := by show _ = _; rw [List.length_map, HI.out.size, Nat.mul_one]
        clear hcell
        go_enter Tryz.func62, Tryz.ntmps62
        go_wp2_with fail
        go_region_law (first
          | (go_simp
             go_at_call 62
             refine (IH.out (sup L c) hs1 _ (by omega) (H.out.later (by go_grown))).mono ?_
             rintro e w1 ⟨v, rfl, own1, hb1⟩
             have hb1' : Below w.heap.size w w1 := ⟨hb1.os, hb1.tape, hb1.output, hb1.size, hb1.block⟩
             have d1 := (KC.out w1 hb1').2
             have own1' : w1.ownsRow w.heap.size 3 1 v (fld L (sup L c)).length ((fld L (sup L c)).map (Value.int .i64)) := own1)
          | (refine step_append_lies _ (by rfl) _ _ _ (by rfl) w.heap.size 3 i0 _ 1 8 Tryz.underlying23 hi0 hz0 hz1 hz2 rfl (by omega) v _ _ (by rfl) own1' ⟨fb, fo, none⟩ fl fc ((cl L c).2.map (Value.int .i64)) (by rfl) HL.out (KN.out w1 hb1') (ints_one _) (by omega) (by unfold maxLen; omega) (by omega) hb1'.size _ rfl ?_
             intro gg cap' w2 hown2 hgrow2 hat2 hlt2))
        all_goals
          have P : Hid (NewInts w (.slice (some ⟨gg, 0, none⟩) ((fld L (sup L c)).length + fl) cap') w2 (fld L c)) := by
            show NewInts _ _ _ _
            rw [HF.out]
            refine ⟨?_, ?_⟩
            · rw [List.length_append, HI.out.size, List.map_append]; exact hown2
            · exact hb1'.grown hgrow2 hb1'.size (fun k e => own_ge own1' k e.symm)
          clear own1 own1' hb1 hb1' d1 hown2 hgrow2 hat2
          go_wp2_with fail
          go_ret
          exact ⟨_, rfl, P.out⟩

end Go.Proofs.YtjbmcdekhhbiaaaGreat
