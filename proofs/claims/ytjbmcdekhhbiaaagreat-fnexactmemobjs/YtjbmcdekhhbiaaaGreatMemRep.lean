/-
  A list of one number again and again, laid anew.
-/
import Derived.Test.YtjbmcdekhhbiaaaGreatMemM
import Derived.Test.YtjbmcdekhhbiaaaGreatSxB
import Derived.Laws.IdiomCopy
import Derived.Deep.RegionHeld3
namespace Go.Proofs.YtjbmcdekhhbiaaaGreat
open Go.ChangeShapes Go.WideShapes Go.ChangeAt Go.RowKit
set_option linter.unusedVariables false

theorem mul64 (m : Nat) (hm : m ≤ 6) (w : World) : Calls Tryz.prog 132 #[.int .u64 1, .int .u64 m] w fun e w' => e = .returned (.tuple #[.int .u64 0, .int .u64 m]) ∧ w = w' := by
  have hc : m = 0 ∨ m = 1 ∨ m = 2 ∨ m = 3 ∨ m = 4 ∨ m = 5 ∨ m = 6 := by omega
  rcases hc with rfl | rfl | rfl | rfl | rfl | rfl | rfl
  all_goals
    go_enter Tryz.func132, Tryz.ntmps132
    go_wp2_with fail
    go_ret2
    exact ⟨rfl, rfl⟩
theorem mulW (m : Nat) (hm : m ≤ 6) (w : World) : Calls Tryz.prog 123 #[.int .u64 1, .int .u64 m] w fun e w' => e = .returned (.tuple #[.int .u64 0, .int .u64 m]) ∧ w = w' := by
  go_enter Tryz.func123, Tryz.ntmps123
  go_wp2_with fail
  refine (mul64 m hm _).mono ?_
  rintro e w' ⟨rfl, rfl⟩
  go_wp2_with fail
  go_ret2
  exact ⟨rfl, rfl⟩

/-- So many first ones of a row are the number. -/
def RepR (w : World) (G m : Nat) (v : Int) (k : Nat) : Prop := ∀ j, j < m → w.cell? ⟨G, j, none⟩ = some (.int .i64 (if j < k then v else 0)) ∧ w.frozen? ⟨G, j, none⟩ = false
theorem info_one' : (Tryz.prog.info? 3).map (·.size) = some 1 := by kernel_rfl
theorem setCells_cell : ∀ (cs : List Value) (w : World) (b o b2 k : Nat), (b2 ≠ b ∨ k < o ∨ o + cs.length ≤ k) → (w.setCells b o cs).cell? ⟨b2, k, none⟩ = w.cell? ⟨b2, k, none⟩
  | [], w, b, o, b2, k, h => rfl
  | c :: cs, w, b, o, b2, k, h => by
    rw [World.setCells, setCells_cell cs _ _ _ _ _ (by rcases h with h | h | h; exact .inl h; exact .inr (.inl (by omega)); exact .inr (.inr (by simp at h; omega)))]
    exact World.cell?_setCell_other _ _ _ _ (by intro e; have e1 := congrArg Addr.block e; have e2 := congrArg Addr.off e; simp at e1 e2 h; omega)
theorem setCells_frozen : ∀ (cs : List Value) (w : World) (b o : Nat) (a : Addr), (w.setCells b o cs).frozen? a = w.frozen? a
  | [], w, b, o, a => rfl
  | c :: cs, w, b, o, a => by rw [World.setCells, setCells_frozen cs, World.frozen?_setCell]
theorem setCells_at : ∀ (cs : List Value) (w : World) (b o j : Nat) (c : Value), (∀ i, i < cs.length → ∃ u, w.cell? ⟨b, o + i, none⟩ = some u) → cs[j]? = some c → (w.setCells b o cs).cell? ⟨b, o + j, none⟩ = some c
  | [], w, b, o, j, c, h, hc => by simp at hc
  | d :: cs, w, b, o, 0, c, h, hc => by
    simp at hc
    subst hc
    obtain ⟨u, hu⟩ := h 0 (by simp)
    rw [World.setCells, setCells_cell cs _ _ _ _ _ (.inr (.inl (by omega)))]
    exact World.cell?_setCell_same w _ _ hu
  | d :: cs, w, b, o, j + 1, c, h, hc => by
    rw [World.setCells, show o + (j + 1) = o + 1 + j by omega]
    refine setCells_at cs _ b (o + 1) j c (fun i hi => ?_) (by simpa using hc)
    obtain ⟨u, hu⟩ := h (i + 1) (by simp; omega)
    exact ⟨u, by rw [World.cell?_setCell_other _ _ _ _ (by intro e; have e2 := congrArg Addr.off e; simp at e2; omega), show o + 1 + i = o + (i + 1) by omega]; exact hu⟩
theorem setCells_below : ∀ (cs : List Value) (w0 w : World) (b o B : Nat), B ≤ b → Below B w0 w → Below B w0 (w.setCells b o cs)
  | [], _, _, _, _, _, _, h => h
  | c :: cs, w0, w, b, o, B, hB, h => by rw [World.setCells]; exact setCells_below cs _ _ _ _ _ hB (h.setCell hB _)
theorem setCells_heap : ∀ (cs : List Value) (w : World) (b o : Nat) (cur : Array Value) (t : TypeId), w.heap[b]? = some (.cells cur t (0, 0)) → ∃ cur', (w.setCells b o cs).heap[b]? = some (.cells cur' t (0, 0)) ∧ cur'.size = cur.size
  | [], _, _, _, cur, _, h => ⟨cur, h, rfl⟩
  | c :: cs, w, b, o, cur, t, h => by
    obtain ⟨cur', h1, h2⟩ := setCells_heap cs (w.setCell ⟨b, o, none⟩ c) b (o + 1) _ t (boxS h o c)
    exact ⟨cur', h1, by rw [h2, Array.size_setIfInBounds]⟩
/-- Such a row, and that it is a whole block. -/
def RepB (w : World) (G m : Nat) (v : Int) (k : Nat) : Prop := RepR w G m v k ∧ ∃ cur, w.heap[G]? = some (.cells cur 3 (0, 0)) ∧ cur.size = m
theorem RepB.later {w w' : World} {G m : Nat} {v : Int} {k : Nat} (h : RepB w G m v k) (b : Below w.heap.size w w') (hG : G < w.heap.size) : RepB w' G m v k :=
  ⟨fun j hj => ⟨(b.cell (p := ⟨G, j, none⟩) hG).trans (h.1 j hj).1, (b.frozen (p := ⟨G, j, none⟩) hG).trans (h.1 j hj).2⟩, by
    obtain ⟨cur, h1, h2⟩ := h.2
    exact ⟨cur, (b.block G hG).trans h1, h2⟩⟩
theorem op_copyP {P : Program} {w w' : World} {ops : Array Oper} {o : Oper} {a : Act} {K : Act → World → Prop} {Q : Exit → Act → World → Prop} {E : Prop} (hg : o.guard = none) (s x : Operand) (t : TypeId) (hop : o.op = Op.call { callee := Callee.builtin Builtin.copy, args := #[s, x], argTypes := #[t, t] })
    (v xv v' : Value) (hs : a.eval s = v) (hx : a.eval x = xv) (hrun : (Builtin.copy_ #[t, t] o.type #[v, xv]).run P w = .ok v' w') (h : K (a.put o.dst v') w') : if Region.wanted o (yielded ops a.tmps) = true then Oper.wp P o a w K Q else E := by
  rw [if_pos (by simp [Region.wanted, hg])]
  unfold Oper.wp
  simp [execOp, hop, resolve, invoke, builtin, hs, hx, hrun, Result.andThen]
  exact h
/-- A copy of the first ones behind them. -/
theorem RepR.copy {w : World} {G m : Nat} {v : Int} {k : Nat} (hB : RepB w G m v k) (hk : 1 ≤ k) (hm : k ≤ m) (hm6 : m ≤ 6) (sb so c1 c2 sl : Nat) (hs : sb = G ∧ so = 0 ∧ sl = k) (ty : TypeId) :
    ∃ w', (Builtin.copy_ #[23, 23] ty #[.slice (some ⟨G, k, none⟩) (m - k) c1, .slice (some ⟨sb, so, none⟩) sl c2]).run Tryz.prog w = .ok (goInt ((min k (m - k) : Nat) : Int)) w' ∧ RepB w' G m v (k + min k (m - k)) ∧ ∀ B w0, B ≤ G → Below B w0 w → Below B w0 w' := by
  obtain ⟨rfl, rfl, rfl⟩ := hs
  obtain ⟨h, cur, hcur, hsz⟩ := hB
  obtain ⟨cur', hc1, hc2⟩ := setCells_heap (List.replicate (min sl (m - sl)) (Value.int .i64 v)) w sb sl cur _ hcur
  have hn : (List.replicate (min sl (m - sl)) (Value.int .i64 v)).length = min sl (m - sl) := List.length_replicate
  have hr := run_copy_cells (P := Tryz.prog) w 23 23 ty 3 sb sl (m - sl) c1 ⟨sb, 0, none⟩ sl c2 (List.replicate (min sl (m - sl)) (Value.int .i64 v)) Tryz.underlying23 info_one' hn (fun j u hu => by
    have hj := (List.getElem?_eq_some_iff.1 hu).1
    rw [hn] at hj
    have := (h j (by omega)).1
    rw [if_pos (by omega)] at this
    rw [Addr.add_lit, Nat.zero_add, this, ← hu, List.getElem?_replicate, if_pos hj]) (fun j hj => by
    rw [hn] at hj
    rw [(h (sl + j) (by omega)).1]; rfl) (fun j hj => by
    rw [hn] at hj
    exact (h (sl + j) (by omega)).2) (fun u hu => by obtain ⟨_, rfl⟩ := List.mem_replicate.1 hu; rfl)
  rw [hn] at hr
  refine ⟨_, hr, ⟨fun j hj => ⟨?_, ?_⟩, cur', hc1, hc2.trans hsz⟩, fun B w0 hB hb => setCells_below _ _ _ _ _ _ hB hb⟩
  · by_cases e : j < sl
    · rw [setCells_cell _ _ _ _ _ _ (.inr (.inl e)), (h j hj).1, if_pos e, if_pos (by omega)]
    · by_cases e2 : j < sl + min sl (m - sl)
      · rw [if_pos e2, show j = sl + (j - sl) by omega]
        exact setCells_at _ _ _ _ _ _ (fun i hi => ⟨_, (h (sl + i) (by rw [hn] at hi; omega)).1⟩) (by rw [List.getElem?_replicate, if_pos (by omega)])
      · rw [setCells_cell _ _ _ _ _ _ (.inr (.inr (by rw [hn]; omega))), (h j hj).1, if_neg e, if_neg e2]
  · rw [setCells_frozen]; exact (h j hj).2

set_option maxRecDepth 100000 in
set_option maxHeartbeats 4000000 in
/-- m times the number, laid anew. -/
theorem repeatImpl (b : Nat) (v : Int) (hv : i64B v) (m : Nat) (hm : m ≤ 6) (w : World) (hc : w.cell? ⟨b, 0, none⟩ = some (.int .i64 v)) :
    Calls Tryz.prog 109 #[.slice (some ⟨b, 0, none⟩) 1 1, .int .i64 m] w fun e w' => ∃ u, e = .returned u ∧ NewInts w u w' (List.replicate m v) := by
  have hmk := fun wx => run_make_row' (P := Tryz.prog) 23 3 (.int .i64 0) 8 Tryz.underlying23 info_int rfl .i64 .i64 m (by omega) (by omega) wx
  have hb := World.block_lt_of_cell? w _ hc
  simp only at hb
  have MK := RowAt.made w #[.int .i64 0] m 3
  have R0 : Hid (RepB (w.alloc (.cells (madeCells #[.int .i64 0] m) 3)) w.heap.size m v 0) := by
    refine ⟨fun j hj => ?_, _, World.alloc_heap_new w _, ?_⟩
    · have := MK j hj
      refine ⟨?_, this.2⟩
      rw [if_neg (by omega)]
      simpa [Nat.mod_one] using this.1
    · rw [size_madeCells]
  have B0 : Hid (Below w.heap.size w (w.alloc (.cells (madeCells #[.int .i64 0] m) 3))) := (Below.refl _ _).alloc (Nat.le_refl _) _
  have OWN : Hid (∀ wr, RepB wr w.heap.size m v m → Below w.heap.size w wr → NewInts w (.slice (some ⟨w.heap.size, 0, none⟩) m m) wr (List.replicate m v)) := fun wr ⟨hr, cur, hcur, hsz⟩ hb => by
    refine ⟨⟨by simp, .inr ⟨w.heap.size, m, cur, by simp, Nat.le_refl _, hcur, by simp, by unfold maxLen; omega, by simp [hsz], ?_⟩⟩, hb⟩
    apply List.ext_getElem?
    intro j
    rw [List.map_replicate, List.getElem?_replicate]
    by_cases hj : j < m
    · have h1 := (hr j hj).1
      rw [if_pos hj] at h1 ⊢
      simp only [World.cell?, hcur] at h1
      rw [List.getElem?_take]
      simp at h1 ⊢
      exact ⟨hj, h1⟩
    · rw [if_neg hj, List.getElem?_take]
      simp [hj]
  have C0 : Hid (∃ w', (Builtin.copy_ #[23, 23] 3 #[.slice (some ⟨w.heap.size, 0, none⟩) m m, .slice (some ⟨b, 0, none⟩) 1 1]).run Tryz.prog (w.alloc (.cells (madeCells #[.int .i64 0] m) 3)) = .ok (goInt ((min 1 m : Nat) : Int)) w' ∧ RepB w' w.heap.size m v (min 1 m) ∧ Below w.heap.size w w') := by
    by_cases h0 : m = 0
    · subst h0
      exact ⟨_, run_copy_none (P := Tryz.prog) _ _ _ _ 3 _ _ _ _ _ _ Tryz.underlying23 info_one' rfl, R0.out, B0.out⟩
    · obtain ⟨h, cur, hcur, hsz⟩ := R0.out
      have hn : [Value.int .i64 v].length = Nat.min 1 m := by show 1 = min 1 m; omega
      have hr := run_copy_cells (P := Tryz.prog) (w.alloc (.cells (madeCells #[.int .i64 0] m) 3)) 23 23 3 3 w.heap.size 0 m m ⟨b, 0, none⟩ 1 1 [.int .i64 v] Tryz.underlying23 info_one' hn (fun j u hu => by
        match j, hu with
        | 0, hu => simp at hu; subst hu; rw [Addr.add_lit, World.cell?_alloc_past _ _ _ hb]; exact hc) (fun j hj => by
        simp at hj; subst hj
        rw [(h 0 (by omega)).1]; rfl) (fun j hj => by
        simp at hj; subst hj
        exact (h 0 (by omega)).2) (by simp; rfl)
      obtain ⟨cur', hc1, hc2⟩ := setCells_heap [Value.int .i64 v] _ w.heap.size 0 cur _ hcur
      rw [hn] at hr
      refine ⟨_, hr, ⟨fun j hj => ⟨?_, ?_⟩, cur', hc1, hc2.trans hsz⟩, setCells_below _ _ _ _ _ _ (Nat.le_refl _) B0.out⟩
      · by_cases e : j = 0
        · subst e
          rw [if_pos (by omega)]
          exact setCells_at [Value.int .i64 v] _ _ 0 0 _ (fun i hi => ⟨_, by rw [Nat.zero_add]; exact (h i (by simp at hi; omega)).1⟩) rfl
        · rw [setCells_cell _ _ _ _ _ _ (.inr (.inr (by simp; omega))), (h j hj).1, if_neg (by omega), if_neg (by omega)]
      · rw [setCells_frozen]; exact (h j hj).2
  obtain ⟨wc, hrun, hR, hB⟩ := C0.out
  have R1 : Hid (RepB wc w.heap.size m v (min 1 m)) := hR
  have B1 : Hid (Below w.heap.size w wc) := hB
  clear hR hB C0 R0 MK
  go_enter Tryz.func109, Tryz.ntmps109
  go_wp2_with fail
  refine (mulW m hm _).mono ?_
  rintro e w' ⟨rfl, rfl⟩
  go_wp2_with fail
  go_loopw [8] (fun t wr => ∃ k : Nat, min 1 m ≤ k ∧ k ≤ m ∧ t = .int .i64 k ∧ RepB wr w.heap.size m v k ∧ Below w.heap.size w wr) (fun t _ => m - (intOf t).toNat)
  case atStart => exact ⟨min 1 m, Nat.le_refl _, by omega, rfl, R1.out, B1.out⟩
  case round =>
    obtain ⟨k, hk1, hk, rfl, hr, hbb⟩ := hrel
    have HR : Hid (RepB wr w.heap.size m v k) := hr
    have HB : Hid (Below w.heap.size w wr) := hbb
    clear hr hbb hrun
    by_cases hlt : k < m
    · obtain ⟨w2, hrun2, hr2, hb2⟩ := RepR.copy (HR.out.later (bdrew (Below.refl _ _)) ((Array.getElem?_eq_some_iff.1 HR.out.2.choose_spec.1).1)) (by omega) hk hm w.heap.size 0 (m - k) m k ⟨rfl, rfl, rfl⟩ 3
      obtain ⟨c, hcm⟩ : ∃ c, min k (m - k) = c := ⟨_, rfl⟩
      rw [hcm] at hrun2 hr2
      have hc1 : 1 ≤ c ∧ k + c ≤ m := by omega
      have R2 : Hid (RepB w2 w.heap.size m v (k + c)) := hr2
      have B2 : Hid (Below w.heap.size w w2) := hb2 _ _ (Nat.le_refl _) (bdrew HB.out)
      have hmk2 : ¬ m = k := by omega
      have hwr : IntKind.i64.wrap ((k : Int) + (c : Int)) = ((k + c : Nat) : Int) := by rw [IntKind.wrap_i64] <;> omega
      clear hr2 hb2 hcm
      go_wp2_with fail
      refine wp_region_held_drew (S := fun x => True) (by kernel_rfl) ?_ (fun hHeld => ?_)
      · exact trivial
      refine tV 0 (v := ?_) rfl (by kernel_rfl) (fun _ _ _ h => h) ?_ (by assumption) ?_
      rotate_left 1
      · (intro x hSx; (try dsimp only at hSx); go_simp; try with_reducible rfl)
      try simp only [Act.put, zgT, zg0, zsT, zs0, zsS]
      refine tV 1 (v := ?_) rfl (by kernel_rfl) (fun _ _ _ h => h) ?_ (by assumption) ?_
      rotate_left 1
      · (intro x hSx; (try dsimp only at hSx); go_simp; try with_reducible rfl)
      try simp only [Act.put, zgT, zg0, zgS, zsT, zs0, zsS]
      refine tV 2 (v := ?_) rfl (by kernel_rfl) (fun _ _ _ h => h) ?_ (by assumption) ?_
      rotate_left 1
      · (intro x hSx; (try dsimp only at hSx); go_simp; try with_reducible rfl)
      try simp only [Act.put, zgT, zg0, zgS, zsT, zs0, zsS]
      refine wpAnyH_take (i := 3) (v := .slice (some ⟨w.heap.size, k, none⟩) (m - k) (m - k)) rfl (by kernel_rfl) (by kernel_rfl) (by kernel_rfl) (fun _ _ _ h => h) (Or.inl ⟨by kernel_rfl, by (intro x hSx; (try dsimp only at hSx); go_simp)⟩) (by assumption) ?_
      try simp only [Act.put, List.getElem_toArray, List.getElem_cons_zero, List.getElem_cons_succ, List.setIfInBounds_toArray, List.set_cons_zero, List.set_cons_succ]
      refine tV 4 (v := ?_) rfl (by kernel_rfl) (fun _ _ _ h => h) ?_ (by assumption) ?_
      rotate_left 1
      · (intro x hSx; (try dsimp only at hSx); go_simp; try with_reducible rfl)
      try simp only [Act.put, zgT, zg0, zgS, zsT, zs0, zsS]
      refine tV 5 (v := ?_) rfl (by kernel_rfl) (fun _ _ _ h => h) ?_ (by assumption) ?_
      rotate_left 1
      · (intro x hSx; (try dsimp only at hSx); go_simp; try with_reducible rfl)
      try simp only [Act.put, zgT, zg0, zgS, zsT, zs0, zsS]
      refine tV 6 (v := ?_) rfl (by kernel_rfl) (fun _ _ _ h => h) ?_ (by assumption) ?_
      rotate_left 1
      · (intro x hSx; (try dsimp only at hSx); go_simp; try with_reducible rfl)
      try simp only [Act.put, zgT, zg0, zgS, zsT, zs0, zsS]
      refine wpAnyH_ready (rs := [7]) (by kernel_rfl) (by simp) ?_
      refine AllReadyH.cons rfl (fun K hK => ?_) AllReadyH.nil
      refine op_copyP (by rfl) _ _ _ (by rfl) _ _ _ (by rfl) (by rfl) hrun2 ?_
      refine hK.out _ _ (trivial) (fun hHeld2 => ?_)
      clear hK K
      try simp only [Act.put, zgT, zg0, zgS, zsT, zs0, zsS]
      refine tV 8 (v := ?_) rfl (by kernel_rfl) (fun _ _ _ h => h) ?_ (by assumption) ?_
      rotate_left 1
      · (intro x hSx; (try dsimp only at hSx); go_simp; try with_reducible rfl)
      try simp only [Act.put, zgT, zg0, zgS, zsT, zs0, zsS]
      refine tV 9 (v := ?_) rfl (by kernel_rfl) (fun _ _ _ h => h) ?_ (by assumption) ?_
      rotate_left 1
      · (intro x hSx; (try dsimp only at hSx); go_simp; try with_reducible rfl)
      try simp only [Act.put, zgT, zg0, zgS, zsT, zs0, zsS]
      refine wpAnyH_done (by kernel_rfl) ?_ _
      clear hHeld hHeld2
      go_wp2_with fail
      exact ⟨⟨k + c, by omega, by omega, by go_num, R2.out, B2.out⟩, by simp [intOf]; omega⟩
    · have ek : k = m := by omega
      subst ek
      go_wp2_with fail
      go_ret
      exact ⟨_, rfl, OWN.out _ HR.out HB.out⟩

end Go.Proofs.YtjbmcdekhhbiaaaGreat
