/-
  The specification's walk comes to a value: the thing to which it leads gets the next number, if it has none.
-/
import Derived.Test.YtacapffmdmpnkaaGrRow
import Derived.Test.YtacapffmdmpnkaaAppI
import Derived.RangeFuncBox
import Derived.Maps.AppendAt
namespace Go.Proofs.Ytacapffmdmpnkaa
open Go.ChangeShapes Go.WideShapes Go.ChangeAt Go.RowKit

def comeV (o : List Int) (v : Vl) : List Int := if v.1 = true ∧ v.2 ≠ 0 then comeN o v.2 else o
theorem comeV_fold : ∀ (xs : List Vl) (o : List Int), xs.foldl comeV o = (leads xs).foldl comeN o
  | [], _ => rfl
  | v :: vs, o => by
    rw [List.foldl_cons, comeV_fold vs]
    have e : leads (v :: vs) = (if v.1 = true ∧ v.2 ≠ 0 then [v.2] else []) ++ leads vs := by
      by_cases h : v.1 = true ∧ v.2 ≠ 0
      · rw [if_pos h]; unfold leads; rw [List.filterMap_cons, if_pos h]; rfl
      · rw [if_neg h]; unfold leads; rw [List.filterMap_cons, if_neg h]; rfl
    rw [e, List.foldl_append]
    by_cases h : v.1 = true ∧ v.2 ≠ 0
    · rw [comeV, if_pos h, if_pos h]; rfl
    · rw [comeV, if_neg h, if_neg h]; rfl
theorem idxN_zero {o : List Int} {n : Int} : idxN o n = 0 ↔ n ∉ o := by
  unfold idxN
  by_cases h : n ∈ o
  · rw [if_pos h]; exact ⟨fun e => by omega, fun e => absurd h e⟩
  · rw [if_neg h]; exact ⟨fun _ => h, fun _ => rfl⟩
theorem idxN_snoc {o : List Int} {x : Int} (hx : x ∉ o) (n : Int) : idxN (o ++ [x]) n = if n = x then (o.length : Int) + 1 else idxN o n := by
  by_cases hn : n = x
  · subst hn
    rw [if_pos rfl, idxN, if_pos (by simp), List.idxOf_append, if_neg hx]
    simp
  · rw [if_neg hn]
    unfold idxN
    by_cases hm : n ∈ o
    · rw [if_pos hm, if_pos (List.mem_append_left _ hm), List.idxOf_append, if_pos hm]
    · rw [if_neg hm, if_neg (by simp [hm, hn])]

/-- An append whose run is known. -/
theorem op_appP {P : Program} {w w' : World} {ops : Array Oper} {o : Oper} {a : Act} {K : Act → World → Prop} {Q : Exit → Act → World → Prop} {E : Prop} (hg : o.guard = none) (s x : Operand) (t : TypeId) (hop : o.op = Op.call { callee := Callee.builtin Builtin.append, args := #[s, x], argTypes := #[t, t] })
    (v xv v' : Value) (hs : a.eval s = v) (hx : a.eval x = xv) (hrun : (Builtin.append_ #[t, t] o.type #[v, xv]).run P w = .ok v' w') (h : K (a.put o.dst v') w') : if Region.wanted o (yielded ops a.tmps) = true then Oper.wp P o a w K Q else E := by
  rw [if_pos (by simp [Region.wanted, hg])]
  unfold Oper.wp
  simp [execOp, hop, resolve, invoke, builtin, hs, hx, hrun, Result.andThen]
  exact h

/-- What the walk has in its memory. -/
structure Wk (base P NB N : Nat) (o : List Int) (W : World) : Prop where
  p0 : W.cell? ⟨P, 0, none⟩ = some (.slice (some ⟨NB, 0, none⟩) N N)
  p1 : ∃ a c, W.cell? ⟨P, 1, none⟩ = some (.slice a o.length c) ∧ W.ownsRow base 3 1 (.slice a o.length c) o.length ((o.map (fun n => n - 1)).map (Value.int .i64))
  pf : W.frozen? ⟨P, 1, none⟩ = false
  num : ∀ j, j < N → W.cell? ⟨NB, j, none⟩ = some (.int .i64 (idxN o ((j : Int) + 1))) ∧ W.frozen? ⟨NB, j, none⟩ = false
  lt : NB < P ∧ P < base ∧ base ≤ W.heap.size
theorem Wk.later {base P NB N : Nat} {o : List Int} {W W' : World} (h : Wk base P NB N o W) (b : Below W.heap.size W W') : Wk base P NB N o W' := by
  obtain ⟨a, c, h1, h2⟩ := h.p1
  have hl := h.lt
  have hs := b.size
  refine ⟨(b.cell (p := ⟨P, 0, none⟩) (by simp only; omega)).trans h.p0, ⟨a, c, (b.cell (p := ⟨P, 1, none⟩) (by simp only; omega)).trans h1, own_keep' h2 (fun g hg => b.block g (own_lt' h2 g hg))⟩, (b.frozen (p := ⟨P, 1, none⟩) (by simp only; omega)).trans h.pf, fun j hj => ?_, by omega⟩
  exact ⟨(b.cell (p := ⟨NB, j, none⟩) (by simp only; omega)).trans (h.num j hj).1, (b.frozen (p := ⟨NB, j, none⟩) (by simp only; omega)).trans (h.num j hj).2⟩

set_option maxRecDepth 100000 in
set_option maxHeartbeats 4000000 in
theorem comeSpec (base P NB N : Nat) (o : List Int) (x0 : Bool) (x1 : Int) (W : World) (h : Wk base P NB N o W) (ho : Ordr N o) (hv : valB N (x0, x1) = true) (hN : N ≤ 1048576) :
    Calls Try.prog 29 #[.pointer (some ⟨P, 0, none⟩), .agg #[.bool x0, .int .i64 x1]] W fun e W' => (∃ u, e = .returned u) ∧ Wk base P NB N (comeV o (x0, x1)) W' ∧ Below NB W W' := by
  have H : Hid (Wk base P NB N o W) := h
  have HO : Hid (Ordr N o) := ho
  have hp0 := h.p0
  obtain ⟨oa, oc, hp1, hown⟩ := h.p1
  have hpf := h.pf
  have hl := h.lt
  obtain ⟨l1, l2, l3⟩ := hl
  have lP : P < W.heap.size := by omega
  have lP1 : P < W.heap.size + 1 := by omega
  have lN : NB < W.heap.size := by omega
  have lN1 : NB < W.heap.size + 1 := by omega
  have hol := ho.le
  have HW : Hid (W.ownsRow base 3 1 (.slice oa o.length oc) o.length ((o.map (fun n => n - 1)).map (Value.int .i64))) := hown
  have HA : Hid (∀ n : Nat, comeV o (x0, x1) = o → Wk base P NB N (comeV o (x0, x1)) ((W.alloc (.cells #[.bool x0, .int .i64 x1] 32)).drewN n) ∧ Below NB W ((W.alloc (.cells #[.bool x0, .int .i64 x1] 32)).drewN n)) := fun n he => by
    have b : Below W.heap.size W ((W.alloc (.cells #[.bool x0, .int .i64 x1] 32)).drewN n) := below_drewN ((Below.refl _ W).alloc (Nat.le_refl _) _) n
    rw [he]
    exact ⟨H.out.later b, b.mono (by omega)⟩
  clear h ho hown
  cases x0
  · have e1 : comeV o (false, x1) = o := by simp [comeV]
    go_enter Try.func29, Try.ntmps29
    go_wp2_with fail
    go_region
    go_wp2_with fail
    go_end0
    exact ⟨⟨_, rfl⟩, HA.out 1 e1⟩
  · by_cases hz : x1 = 0
    · subst hz
      have e1 : comeV o (true, 0) = o := by simp [comeV]
      go_enter Try.func29, Try.ntmps29
      go_wp2_with fail
      go_region
      go_wp2_with fail
      go_end0
      exact ⟨⟨_, rfl⟩, HA.out 1 e1⟩
    · obtain ⟨m, rfl⟩ : ∃ m : Nat, x1 = (m : Int) + 1 := ⟨(x1 - 1).toNat, by simp [valB] at hv; omega⟩
      have hm : m < N := by simp [valB] at hv; omega
      obtain ⟨cn, cf⟩ := H.out.num m hm
      have hw1 : IntKind.i64.wrap (m : Int) = (m : Int) := by rw [IntKind.wrap_i64]; omega
      have hmi : (m : Int) < (N : Int) := by omega
      by_cases hin : ((m : Int) + 1) ∈ o
      · have e1 : comeV o (true, (m : Int) + 1) = o := by rw [comeV, if_pos ⟨rfl, by simp; omega⟩, comeN, if_pos hin]
        have hq : idxN o ((m : Int) + 1) ≠ 0 := fun e => idxN_zero.1 e hin
        have hq2 : (idxN o ((m : Int) + 1) == 0) = false := by simpa using hq
        generalize idxN o ((m : Int) + 1) = q at cn hq hq2
        clear hv hz
        go_enter Try.func29, Try.ntmps29
        go_wp2_with fail
        go_region
        go_wp2_with fail
        go_end0
        exact ⟨⟨_, rfl⟩, HA.out 1 e1⟩
      · have e1 : comeV o (true, (m : Int) + 1) = o ++ [(m : Int) + 1] := by rw [comeV, if_pos ⟨rfl, by simp; omega⟩, comeN, if_neg hin]
        have hq : idxN o ((m : Int) + 1) = 0 := idxN_zero.2 hin
        rw [hq] at cn
        have hol2 : o.length < N := by
          have := (HO.out.come (n := (m : Int) + 1) ⟨by omega, by omega⟩).le
          rw [comeN, if_neg hin] at this
          simp at this
          omega
        obtain ⟨i0, hi0, hz0, hz1, hz2⟩ := info_parts info_int3
        obtain ⟨A, hA⟩ : ∃ A, A = ((W.alloc (.cells #[.bool true, .int .i64 ((m : Int) + 1)] 32)).drewN 2).alloc (.cells #[.int .i64 m] 3) := ⟨_, rfl⟩
        have bA : Below W.heap.size W A := by rw [hA]; exact (below_drewN ((Below.refl _ W).alloc (Nat.le_refl _) _) 2).alloc (by simp) _
        have sA : A.heap.size = W.heap.size + 1 + 1 := by rw [hA]; simp
        have ownA := own_keep' HW.out (fun g hg => bA.block g (own_lt' HW.out g hg))
        have newA : ∀ j u, [Value.int .i64 (m : Int)][j]? = some u → A.cell? ((⟨W.heap.size + 1, 0, none⟩ : Addr).add j) = some u := by
          rw [hA]
          have := cell_one_new ((W.alloc (.cells #[.bool true, .int .i64 ((m : Int) + 1)] 32)).drewN 2) (.int .i64 m) 3
          simpa using this
        obtain ⟨v', w4, hrun, r1, r2, _⟩ := run_append_own (P := Try.prog) A base 41 41 3 i0 (.int .i64 0) 1 8 Try.underlying41 hi0 hz0 hz1 hz2 rfl (by decide) (.slice oa o.length oc) o.length _ ownA ⟨W.heap.size + 1, 0, none⟩ 1 1 [.int .i64 m] rfl newA (by simp [Value.oneCell']) (by unfold maxLen; omega) (by omega) (by omega)
        obtain ⟨g', cap', rfl⟩ := ownsRow_succ r1
        have hge : ∀ b, some b = (Value.slice oa o.length oc).ownBlock → base ≤ b := fun b hb => own_ge HW.out b hb
        have k4 : ∀ b, b < W.heap.size + 1 → b < base ∨ b = W.heap.size → w4.heap[b]? = A.heap[b]? := fun b hb hb2 => r2.block b (by omega) (fun e => by
          rcases hb2 with h1 | h1
          · have := hge b e; omega
          · have := own_lt' HW.out b e.symm; omega)
        have c40 : w4.cell? ⟨P, 0, none⟩ = some (.slice (some ⟨NB, 0, none⟩) N N) := (World.cell?_of_block (a := ⟨P, 0, none⟩) (k4 P (by omega) (.inl l2))).trans ((bA.cell (p := ⟨P, 0, none⟩) lP).trans hp0)
        have c41 : w4.cell? ⟨P, 1, none⟩ = some (.slice oa o.length oc) := (World.cell?_of_block (a := ⟨P, 1, none⟩) (k4 P (by omega) (.inl l2))).trans ((bA.cell (p := ⟨P, 1, none⟩) lP).trans hp1)
        have f41 : w4.frozen? ⟨P, 1, none⟩ = false := (World.frozen?_of_block (a := ⟨P, 1, none⟩) (k4 P (by omega) (.inl l2))).trans ((bA.frozen (p := ⟨P, 1, none⟩) lP).trans hpf)
        have c4b : w4.cell? ⟨W.heap.size, 1, none⟩ = some (.int .i64 ((m : Int) + 1)) := (World.cell?_of_block (a := ⟨W.heap.size, 1, none⟩) (k4 W.heap.size (by omega) (.inr rfl))).trans (by rw [hA]; simp [go_sem])
        have c4n : w4.cell? ⟨NB, m, none⟩ = some (.int .i64 0) := (World.cell?_of_block (a := ⟨NB, m, none⟩) (k4 NB (by omega) (.inl (by omega)))).trans ((bA.cell (p := ⟨NB, m, none⟩) lN).trans cn)
        have f4n : w4.frozen? ⟨NB, m, none⟩ = false := (World.frozen?_of_block (a := ⟨NB, m, none⟩) (k4 NB (by omega) (.inl (by omega)))).trans ((bA.frozen (p := ⟨NB, m, none⟩) lN).trans cf)
        have hnP : NB ≠ P := by omega
        have hWP : W.heap.size ≠ P := by omega
        have FIN : Hid (∀ n : Nat, Wk base P NB N (comeV o (true, (m : Int) + 1)) (((w4.setCell ⟨P, 1, none⟩ (.slice (some ⟨g', 0, none⟩) (o.length + 1) cap')).setCell ⟨NB, m, none⟩ (.int .i64 ((o.length : Int) + 1))).drewN n) ∧ Below NB W (((w4.setCell ⟨P, 1, none⟩ (.slice (some ⟨g', 0, none⟩) (o.length + 1) cap')).setCell ⟨NB, m, none⟩ (.int .i64 ((o.length : Int) + 1))).drewN n)) := by
          intro n
          have hnx : ∀ {j : Nat}, (⟨P, 1, none⟩ : Addr) ≠ ⟨NB, j, none⟩ := fun e => hnP (congrArg Addr.block e).symm
          have W5 : Wk base P NB N (o ++ [(m : Int) + 1]) ((w4.setCell ⟨P, 1, none⟩ (.slice (some ⟨g', 0, none⟩) (o.length + 1) cap')).setCell ⟨NB, m, none⟩ (.int .i64 ((o.length : Int) + 1))) := by
            refine ⟨?_, ⟨some ⟨g', 0, none⟩, cap', ?_, ?_⟩, ?_, fun j hj => ⟨?_, ?_⟩, l1, l2, ?_⟩
            · rw [World.cell?_setCell_other _ _ _ _ (fun e => hnP (congrArg Addr.block e)), World.cell?_setCell_other _ _ _ _ (fun e => by have := congrArg Addr.off e; simp at this)]
              exact c40
            · rw [World.cell?_setCell_other _ _ _ _ (fun e => hnP (congrArg Addr.block e)), World.cell?_setCell_same w4 _ _ c41]
              simp
            · have := own_set (own_set r1 ⟨P, 1, none⟩ (.slice (some ⟨g', 0, none⟩) (o.length + 1) cap') l2) ⟨NB, m, none⟩ (.int .i64 ((o.length : Int) + 1)) (by simp only; omega)
              simpa using this
            · rw [World.frozen?_setCell, World.frozen?_setCell]; exact f41
            · have c4j : w4.cell? ⟨NB, j, none⟩ = some (.int .i64 (idxN o ((j : Int) + 1))) := (World.cell?_of_block (a := ⟨NB, j, none⟩) (k4 NB (by omega) (.inl (by omega)))).trans ((bA.cell (p := ⟨NB, j, none⟩) lN).trans (H.out.num j hj).1)
              rw [idxN_snoc hin]
              by_cases e : j = m
              · subst e
                rw [if_pos rfl]
                exact World.cell?_setCell_same _ _ _ (by rw [World.cell?_setCell_other _ _ _ _ hnx]; exact c4j)
              · rw [if_neg (by omega), World.cell?_setCell_other _ _ _ _ (fun e' => by have := congrArg Addr.off e'; simp at this; omega), World.cell?_setCell_other _ _ _ _ hnx]
                exact c4j
            · rw [World.frozen?_setCell, World.frozen?_setCell]
              exact (World.frozen?_of_block (a := ⟨NB, j, none⟩) (k4 NB (by omega) (.inl (by omega)))).trans ((bA.frozen (p := ⟨NB, j, none⟩) lN).trans (H.out.num j hj).2)
            · have := r2.size
              rw [World.size_setCell, World.size_setCell]
              omega
          have b5 : Below NB W ((w4.setCell ⟨P, 1, none⟩ (.slice (some ⟨g', 0, none⟩) (o.length + 1) cap')).setCell ⟨NB, m, none⟩ (.int .i64 ((o.length : Int) + 1))) := by
            have b4 : Below NB W w4 := (bA.mono (by omega)).grown r2 (by omega) (fun b hb => by have := hge b hb.symm; omega)
            exact (b4.setCell (p := ⟨P, 1, none⟩) (by simp only; omega) _).setCell (p := ⟨NB, m, none⟩) (Nat.le_refl _) _
          rw [e1]
          exact ⟨W5.later (below_drewN (Below.refl _ _) n), b5.trans (below_drewN (Below.refl _ _) n)⟩
        have HR : Hid ((Builtin.append_ #[41, 41] 41 #[.slice oa o.length oc, .slice (some ⟨W.heap.size + 1, 0, none⟩) 1 1]).run Try.prog A = .ok (.slice (some ⟨g', 0, none⟩) (o.length + 1) cap') w4) := hrun
        rw [hA] at HR
        clear hA bA sA ownA newA hrun r1 r2 hge k4 hin hz hv hq
        go_enter Try.func29, Try.ntmps29
        go_wp2_with fail
        go_region
        go_wp2_with fail
        refine wp_region_any (by kernel_rfl) ?_
        change wpAny _ _ _ _ _ _ _ (World.drew _)
        refine wpAny_take (i := 0) (v := .pointer (some ⟨P, 0, none⟩)) rfl (by kernel_rfl) (by kernel_rfl) (by kernel_rfl) (fun _ _ _ h => h) (Or.inl ⟨by rfl, by (intro w; go_simp)⟩) ?_
        try simp only [Act.put, List.getElem_toArray, List.getElem_cons_zero, List.setIfInBounds_toArray, List.set_cons_zero, List.set_cons_succ]
        refine wpAny_take (i := 1) (v := .pointer (some ⟨P, 0, none⟩)) rfl (by kernel_rfl) (by kernel_rfl) (by kernel_rfl) (fun _ _ _ h => h) (Or.inl ⟨by rfl, by (intro w; go_simp)⟩) ?_
        try simp only [Act.put, List.getElem_toArray, List.getElem_cons_zero, List.getElem_cons_succ, List.setIfInBounds_toArray, List.set_cons_zero, List.set_cons_succ]
        refine wpAny_take (i := 2) (v := .pointer (some ⟨P, 0, none⟩)) rfl (by kernel_rfl) (by kernel_rfl) (by kernel_rfl) (fun _ _ _ h => h) (Or.inl ⟨by rfl, by (intro w; go_simp)⟩) ?_
        try simp only [Act.put, List.getElem_toArray, List.getElem_cons_zero, List.getElem_cons_succ, List.setIfInBounds_toArray, List.set_cons_zero, List.set_cons_succ]
        refine wpAny_take (i := 3) (v := .pointer (some ⟨P, 1, none⟩)) rfl (by kernel_rfl) (by kernel_rfl) (by kernel_rfl) (fun _ _ _ h => h) (Or.inl ⟨by rfl, by (intro w; go_simp)⟩) ?_
        try simp only [Act.put, List.getElem_toArray, List.getElem_cons_zero, List.getElem_cons_succ, List.setIfInBounds_toArray, List.set_cons_zero, List.set_cons_succ]
        refine wpAny_take (i := 5) (v := .pointer (some ⟨W.heap.size, 1, none⟩)) rfl (by kernel_rfl) (by kernel_rfl) (by kernel_rfl) (fun _ _ _ h => h) (Or.inl ⟨by rfl, by (intro w; go_simp)⟩) ?_
        try simp only [Act.put, List.getElem_toArray, List.getElem_cons_zero, List.getElem_cons_succ, List.setIfInBounds_toArray, List.set_cons_zero, List.set_cons_succ]
        refine wpAny_ready (rs := [4, 6]) (by kernel_rfl) (by simp) ?_
        refine AllReady.cons rfl (fun K hK => ?_) ?_
        · go_simp
          refine hK _ _ ?_
          clear hK K
          try simp only [Act.put, List.getElem_toArray, List.getElem_cons_zero, List.getElem_cons_succ, List.setIfInBounds_toArray, List.set_cons_zero, List.set_cons_succ]
          refine wpAny_ready (rs := [6]) (by kernel_rfl) (by simp) ?_
          refine AllReady.cons rfl (fun K hK => ?_) AllReady.nil
          go_simp
          refine hK _ _ ?_
          clear hK K
          try simp only [Act.put, List.getElem_toArray, List.getElem_cons_zero, List.getElem_cons_succ, List.setIfInBounds_toArray, List.set_cons_zero, List.set_cons_succ]
          refine wpAny_take (i := 7) (v := .int .i64 (m : Int)) rfl (by kernel_rfl) (by kernel_rfl) (by kernel_rfl) (fun _ _ _ h => h) (Or.inl ⟨by rfl, by (intro w; go_simp)⟩) ?_
          try simp only [Act.put, List.getElem_toArray, List.getElem_cons_zero, List.getElem_cons_succ, List.setIfInBounds_toArray, List.set_cons_zero, List.set_cons_succ]
          refine wpAny_ready (rs := [8]) (by kernel_rfl) (by simp) ?_
          refine AllReady.cons rfl (fun K hK => ?_) AllReady.nil
          go_simp
          refine hK _ _ ?_
          clear hK K
          try simp only [Act.put, List.getElem_toArray, List.getElem_cons_zero, List.getElem_cons_succ, List.setIfInBounds_toArray, List.set_cons_zero, List.set_cons_succ]
          refine wpAny_ready (rs := [9]) (by kernel_rfl) (by simp) ?_
          refine AllReady.cons rfl (fun K hK => ?_) AllReady.nil
          refine op_appP rfl _ _ _ rfl _ _ _ rfl rfl HR.out ?_
          refine hK _ _ ?_
          clear hK K
          try simp only [Act.put, List.getElem_toArray, List.getElem_cons_zero, List.getElem_cons_succ, List.setIfInBounds_toArray, List.set_cons_zero, List.set_cons_succ]
          refine wpAny_take (i := 10) (v := .pointer (some ⟨P, 0, none⟩)) rfl (by kernel_rfl) (by kernel_rfl) (by kernel_rfl) (fun _ _ _ h => h) (Or.inl ⟨by rfl, by (intro w; go_simp)⟩) ?_
          try simp only [Act.put, List.getElem_toArray, List.getElem_cons_zero, List.getElem_cons_succ, List.setIfInBounds_toArray, List.set_cons_zero, List.set_cons_succ]
          refine wpAny_take (i := 11) (v := .pointer (some ⟨P, 1, none⟩)) rfl (by kernel_rfl) (by kernel_rfl) (by kernel_rfl) (fun _ _ _ h => h) (Or.inl ⟨by rfl, by (intro w; go_simp)⟩) ?_
          try simp only [Act.put, List.getElem_toArray, List.getElem_cons_zero, List.getElem_cons_succ, List.setIfInBounds_toArray, List.set_cons_zero, List.set_cons_succ]
          refine wpAny_ready (rs := [12]) (by kernel_rfl) (by simp) ?_
          refine AllReady.cons rfl (fun K hK => ?_) AllReady.nil
          go_simp
          refine hK _ _ ?_
          clear hK K
          try simp only [Act.put, List.getElem_toArray, List.getElem_cons_zero, List.getElem_cons_succ, List.setIfInBounds_toArray, List.set_cons_zero, List.set_cons_succ]
          refine wpAny_done (by kernel_rfl) ?_ _
          go_wp2_with fail
          go_region
          all_goals
            go_wp2_with fail
            go_end0
            exact ⟨⟨_, rfl⟩, FIN.out 1⟩
        refine AllReady.cons rfl (fun K hK => ?_) AllReady.nil
        go_simp
        refine hK _ _ ?_
        clear hK K
        try simp only [Act.put, List.getElem_toArray, List.getElem_cons_zero, List.getElem_cons_succ, List.setIfInBounds_toArray, List.set_cons_zero, List.set_cons_succ]
        refine wpAny_take (i := 7) (v := .int .i64 (m : Int)) rfl (by kernel_rfl) (by kernel_rfl) (by kernel_rfl) (fun _ _ _ h => h) (Or.inl ⟨by rfl, by (intro w; go_simp)⟩) ?_
        try simp only [Act.put, List.getElem_toArray, List.getElem_cons_zero, List.getElem_cons_succ, List.setIfInBounds_toArray, List.set_cons_zero, List.set_cons_succ]
        refine wpAny_ready (rs := [4, 8]) (by kernel_rfl) (by simp) ?_
        refine AllReady.cons rfl (fun K hK => ?_) ?_
        · go_simp
          refine hK _ _ ?_
          clear hK K
          try simp only [Act.put, List.getElem_toArray, List.getElem_cons_zero, List.getElem_cons_succ, List.setIfInBounds_toArray, List.set_cons_zero, List.set_cons_succ]
          refine wpAny_ready (rs := [8]) (by kernel_rfl) (by simp) ?_
          refine AllReady.cons rfl (fun K hK => ?_) AllReady.nil
          go_simp
          refine hK _ _ ?_
          clear hK K
          try simp only [Act.put, List.getElem_toArray, List.getElem_cons_zero, List.getElem_cons_succ, List.setIfInBounds_toArray, List.set_cons_zero, List.set_cons_succ]
          refine wpAny_ready (rs := [9]) (by kernel_rfl) (by simp) ?_
          refine AllReady.cons rfl (fun K hK => ?_) AllReady.nil
          refine op_appP rfl _ _ _ rfl _ _ _ rfl rfl HR.out ?_
          refine hK _ _ ?_
          clear hK K
          try simp only [Act.put, List.getElem_toArray, List.getElem_cons_zero, List.getElem_cons_succ, List.setIfInBounds_toArray, List.set_cons_zero, List.set_cons_succ]
          refine wpAny_take (i := 10) (v := .pointer (some ⟨P, 0, none⟩)) rfl (by kernel_rfl) (by kernel_rfl) (by kernel_rfl) (fun _ _ _ h => h) (Or.inl ⟨by rfl, by (intro w; go_simp)⟩) ?_
          try simp only [Act.put, List.getElem_toArray, List.getElem_cons_zero, List.getElem_cons_succ, List.setIfInBounds_toArray, List.set_cons_zero, List.set_cons_succ]
          refine wpAny_take (i := 11) (v := .pointer (some ⟨P, 1, none⟩)) rfl (by kernel_rfl) (by kernel_rfl) (by kernel_rfl) (fun _ _ _ h => h) (Or.inl ⟨by rfl, by (intro w; go_simp)⟩) ?_
          try simp only [Act.put, List.getElem_toArray, List.getElem_cons_zero, List.getElem_cons_succ, List.setIfInBounds_toArray, List.set_cons_zero, List.set_cons_succ]
          refine wpAny_ready (rs := [12]) (by kernel_rfl) (by simp) ?_
          refine AllReady.cons rfl (fun K hK => ?_) AllReady.nil
          go_simp
          refine hK _ _ ?_
          clear hK K
          try simp only [Act.put, List.getElem_toArray, List.getElem_cons_zero, List.getElem_cons_succ, List.setIfInBounds_toArray, List.set_cons_zero, List.set_cons_succ]
          refine wpAny_done (by kernel_rfl) ?_ _
          go_wp2_with fail
          go_region
          all_goals
            go_wp2_with fail
            go_end0
            exact ⟨⟨_, rfl⟩, FIN.out 1⟩
        refine AllReady.cons rfl (fun K hK => ?_) AllReady.nil
        go_simp
        refine hK _ _ ?_
        clear hK K
        try simp only [Act.put, List.getElem_toArray, List.getElem_cons_zero, List.getElem_cons_succ, List.setIfInBounds_toArray, List.set_cons_zero, List.set_cons_succ]
        refine wpAny_ready (rs := [4]) (by kernel_rfl) (by simp) ?_
        refine AllReady.cons rfl (fun K hK => ?_) AllReady.nil
        go_simp
        refine hK _ _ ?_
        clear hK K
        try simp only [Act.put, List.getElem_toArray, List.getElem_cons_zero, List.getElem_cons_succ, List.setIfInBounds_toArray, List.set_cons_zero, List.set_cons_succ]
        refine wpAny_ready (rs := [9]) (by kernel_rfl) (by simp) ?_
        refine AllReady.cons rfl (fun K hK => ?_) AllReady.nil
        refine op_appP rfl _ _ _ rfl _ _ _ rfl rfl HR.out ?_
        refine hK _ _ ?_
        clear hK K
        try simp only [Act.put, List.getElem_toArray, List.getElem_cons_zero, List.getElem_cons_succ, List.setIfInBounds_toArray, List.set_cons_zero, List.set_cons_succ]
        refine wpAny_take (i := 10) (v := .pointer (some ⟨P, 0, none⟩)) rfl (by kernel_rfl) (by kernel_rfl) (by kernel_rfl) (fun _ _ _ h => h) (Or.inl ⟨by rfl, by (intro w; go_simp)⟩) ?_
        try simp only [Act.put, List.getElem_toArray, List.getElem_cons_zero, List.getElem_cons_succ, List.setIfInBounds_toArray, List.set_cons_zero, List.set_cons_succ]
        refine wpAny_take (i := 11) (v := .pointer (some ⟨P, 1, none⟩)) rfl (by kernel_rfl) (by kernel_rfl) (by kernel_rfl) (fun _ _ _ h => h) (Or.inl ⟨by rfl, by (intro w; go_simp)⟩) ?_
        try simp only [Act.put, List.getElem_toArray, List.getElem_cons_zero, List.getElem_cons_succ, List.setIfInBounds_toArray, List.set_cons_zero, List.set_cons_succ]
        refine wpAny_ready (rs := [12]) (by kernel_rfl) (by simp) ?_
        refine AllReady.cons rfl (fun K hK => ?_) AllReady.nil
        go_simp
        refine hK _ _ ?_
        clear hK K
        try simp only [Act.put, List.getElem_toArray, List.getElem_cons_zero, List.getElem_cons_succ, List.setIfInBounds_toArray, List.set_cons_zero, List.set_cons_succ]
        refine wpAny_done (by kernel_rfl) ?_ _
        go_wp2_with fail
        go_region
        all_goals
          go_wp2_with fail
          go_end0
          exact ⟨⟨_, rfl⟩, FIN.out 1⟩

end Go.Proofs.Ytacapffmdmpnkaa
