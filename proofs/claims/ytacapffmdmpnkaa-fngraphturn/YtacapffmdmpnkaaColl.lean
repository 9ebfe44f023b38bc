/-
  What the library collects of the iterator: the numbers of the things to which one comes, in their order, in a slice of its own.
-/
import Derived.Test.YtacapffmdmpnkaaReach
import Derived.Test.YtacapffmdmpnkaaAppE
import Derived.Maps.AppendAt
namespace Go.Proofs.Ytacapffmdmpnkaa
open Go.ChangeShapes Go.WideShapes Go.ChangeAt Go.RowKit Go.Shelf

attribute [local go_sem] Oper.semAt_some

/-- What the loop that collects has in its memory. -/
structure Col (b l D0 : Nat) (rec : Loop) (w : World) (pre : List Int) (V : World) : Prop where
  row : ∃ v, Boxed V b 41 v ∧ V.ownsRow w.heap.size 3 1 v pre.length (pre.map (Value.int .i64))
  lop : V.heap[l]? = some (.loop rec)
  def0 : V.heap[D0]? = some (.deferred (some []))
  bel : Below w.heap.size w V
theorem Col.abd {b l D0 n0 : Nat} {rec : Loop} {w A B : World} {s : List Int} (h : Col b l D0 rec w s A) (k : Abd n0 A B) (hl : l < n0) (hD : D0 < n0) (hw : w.heap.size ≤ n0) : Col b l D0 rec w s B := by
  obtain ⟨v, h1, h2⟩ := h.row
  refine ⟨⟨v, k.keep _ _ h1 (.inr rfl), h2.1, ?_⟩, k.keep _ _ h.lop (.inl hl), k.keep _ _ h.def0 (.inl hD), h.bel.trans (k.below hw h.bel.size)⟩
  rcases h2.2 with h3 | ⟨g, cap, cur, e, hb, hg, h4⟩
  · exact .inl h3
  · exact .inr ⟨g, cap, cur, e, hb, k.keep _ _ hg (.inr rfl), h4⟩

theorem own_ne {A : World} {base n : Nat} {v : Value} {xs : List Value} (h : A.ownsRow base 3 1 v n xs) {k : Nat} {o : Obj} (hk : A.heap[k]? = some o) (hi : inty o = false) : some k ≠ v.ownBlock := by
  rcases h.2 with ⟨rfl, _⟩ | ⟨g, cap, cur, rfl, _, hg, _⟩
  · simp [Value.ownBlock]
  · intro e
    obtain rfl : k = g := by simpa [Value.ownBlock] using e
    rw [hg] at hk
    cases hk
    cases hi

set_option maxRecDepth 100000 in
set_option maxHeartbeats 4000000 in
theorem appendSeq_in (n : Nat) (hn : 8 ≤ n) (BO BR : Nat) (oa : Option Addr) (ol oc : Nat) (ra : Option Addr) (rl rc : Nat) (X : List Ob) (r : List Vl) (w : World) (hBO : Boxed w BO 23 (.slice oa ol oc)) (hBR : Boxed w BR 24 (.slice ra rl rc))
    (hX : SlAt obR (fun b => b < w.heap.size) w oa ol X) (hR : SlAt vaR (fun b => b < w.heap.size) w ra rl r) (ok : heapB X r = true) (hN : X.length ≤ 1048576) :
    CallsIn Fence.wide n Try.prog 26 #[.slice none 0 0, .func (.func 27) #[] #[.pointer (some ⟨BO, 0, none⟩), .pointer (some ⟨BR, 0, none⟩)]] w
      fun e w' => ∃ v, e = .returned v ∧ w'.ownsRow w.heap.size 3 1 v (orderOf X r).length ((orderOf X r).map (Value.int .i64)) ∧ Below w.heap.size w w' := by
  have HX : Hid (SlAt obR (fun b => b < w.heap.size) w oa ol X) := hX
  have HR : Hid (SlAt vaR (fun b => b < w.heap.size) w ra rl r) := hR
  have HO : Hid (Boxed w BO 23 (.slice oa ol oc)) := hBO
  have HQ : Hid (Boxed w BR 24 (.slice ra rl rc)) := hBR
  have OK : Hid (heapB X r = true) := ok
  have h1 : 1 ≤ n := by omega
  clear hX hR hBO hBR ok
  refine callsIn_of_wp_marks Try.func26 rfl trivial ?_
  simp only [Try.ntmps26, List.size_toArray, List.length_cons, List.length_nil, Nat.reduceAdd, Nat.reduceSub, Array.replicate_succ, Array.replicate_zero, List.push_toArray, List.append_toArray, List.nil_append, List.cons_append]
  gi_wp2
  obtain ⟨i0, hi0, hz0, hz1, hz2⟩ := info_parts info_int3
  refine wpIn_rangeFunc ?_
  intro fn hfn
  generalize hcode : (Code.region 2 _ false) = assign
  generalize hbody : (Code.block 1 _) = body
  have sO := HO.out.lt
  have sR := HQ.out.lt
  obtain ⟨tm, htm⟩ : ∃ tm : Array Value, tm = #[.slice none 0 0, .func (.func 27) #[] #[.pointer (some ⟨BO, 0, none⟩), .pointer (some ⟨BR, 0, none⟩)], .pointer (some ⟨w.heap.size, 0, none⟩), undef, .slice none 0 0, undef, .func (.func 27) #[] #[.pointer (some ⟨BO, 0, none⟩), .pointer (some ⟨BR, 0, none⟩)], undef, undef, undef, undef, undef, undef] := ⟨_, rfl⟩
  rw [← htm]
  obtain ⟨rec, hrec⟩ : ∃ rec : LoopState → Option Code → Loop, rec = fun st pe => { state := st, pending := pe, fn, tmps := tm, params := #[7], assign, body, defers := w.heap.size + 1 } := ⟨_, rfl⟩
  obtain ⟨W1, hW1⟩ : ∃ W1, ((w.alloc (.cells #[.slice none 0 0] 41)).alloc (.deferred (some []))).alloc (.loop (rec .ready none)) = W1 := ⟨_, rfl⟩
  have sz1 : W1.heap.size = w.heap.size + 1 + 1 + 1 := by rw [← hW1]; simp
  have hL1 : W1.heap[w.heap.size + 1 + 1]? = some (.loop (rec .ready none)) := by rw [← hW1]; exact heap_new (by simp) _
  have hK1 : W1.heap[w.heap.size + 1]? = some (.deferred (some [])) := by rw [← hW1]; exact (Below.heap_alloc _ _ _ (by simp)).trans (heap_new (by simp) _)
  have hB1 : Boxed W1 w.heap.size 41 (.slice none 0 0) := by rw [← hW1]; exact (Below.heap_alloc _ _ _ (by simp <;> omega)).trans ((Below.heap_alloc _ _ _ (by simp)).trans (heap_new rfl _))
  have bl1 : Below w.heap.size w W1 := by rw [← hW1]; exact (((Below.refl _ w).alloc (Nat.le_refl _) _).alloc (by simp) _).alloc (by simp <;> omega) _
  have C1 : Col w.heap.size (w.heap.size + 1 + 1) (w.heap.size + 1) (rec .ready none) w [] W1 := ⟨⟨_, hB1, by simp, .inl ⟨rfl, by simp⟩⟩, hL1, hK1, bl1⟩
  refine ⟨w.heap.size + 1 + 1, [markOf (w.heap.size + 1)], W1, { target := .fn (.func 27) #[.pointer (some ⟨BO, 0, none⟩), .pointer (some ⟨BR, 0, none⟩)], args := #[.func (.yield (w.heap.size + 1 + 1)) #[] #[]] }, W1, 27,
    #[.func (.yield (w.heap.size + 1 + 1)) #[] #[], .pointer (some ⟨BO, 0, none⟩), .pointer (some ⟨BR, 0, none⟩)], W1, ?_, ?_, ?_, ?_, fun _ => h1, ?_⟩
  · rw [← hW1, hrec]
    have := run_enterLoop_outer (P := Try.prog) (w := w.alloc (.cells #[.slice none 0 0] 41)) fn tm #[7] assign body
    simpa [markOf] using this
  · rw [htm]
    simp [resolve, go_sem, Act.eval]
  · intro f' _
    trivial
  · simp [invoke, go_sem]
  · refine (reached_in (n - 1) (by omega) (w.heap.size + 1 + 1) w.heap.size BO BR oa ol oc ra rl rc X r (fun pre V => Col w.heap.size (w.heap.size + 1 + 1) (w.heap.size + 1) (rec .ready none) w pre V) W1 (by omega) (by omega) (by omega)
      (fun s A B h k => h.abd k (by omega) (by omega) (by omega)) ?yield ((bl1.block BO sO).trans HO.out) ((bl1.block BR sR).trans HQ.out) (HX.out.later bl1) (HR.out.later bl1) OK.out hN C1).mono ?after
    case after =>
      rintro e W2 ⟨⟨v, rfl⟩, hC⟩
      obtain ⟨rx, hrx⟩ : ∃ rx : Loop, rx = { rec .ready none with state := .exhausted } := ⟨_, rfl⟩
      refine ⟨none, W2.putObj (w.heap.size + 1 + 1) (.loop rx), ?_, ?_⟩
      · have := run_endLoop (P := Try.prog) hC.lop (by rw [hrec]; simp)
        rw [hrx, hrec]
        rw [hrec] at this
        exact this
      · obtain ⟨v, hv, hrow⟩ := hC.row
        have hlop := hC.lop
        have hv2 : Boxed (W2.putObj (w.heap.size + 1 + 1) (.loop rx)) w.heap.size 41 v := hv.kept (grownBy_putObj' W2 (w.heap.size + 1 + 1) (.loop rx)) (by simp <;> omega)
        have cv := hv2.cell
        have HR2 : Hid ((W2.putObj (w.heap.size + 1 + 1) (.loop rx)).ownsRow w.heap.size 3 1 v (orderOf X r).length ((orderOf X r).map (Value.int .i64))) := ownsRow_putObj hrow (.loop rx) hlop rfl
        have HD2 : Hid ((W2.putObj (w.heap.size + 1 + 1) (.loop rx)).heap[w.heap.size + 1]? = some (.deferred (some []))) := (World.putObj_heap_other (by omega)).trans hC.def0
        have HB2 : Hid (Below w.heap.size w (W2.putObj (w.heap.size + 1 + 1) (.loop rx))) := hC.bel.trans (belowK_b (w := w) (Nat.le_refl _) W2 (w.heap.size + 1 + 1) _ (.loop rx) (by omega) hlop rfl rfl)
        have hvs : (∃ g c, v = .slice (some ⟨g, 0, none⟩) (orderOf X r).length c) ∨ (v = .slice none 0 0 ∧ (orderOf X r).length = 0) := by
          rcases hrow.2 with ⟨e1, e2⟩ | ⟨g, cap, cur, e1, _⟩
          · exact .inr ⟨e1, e2⟩
          · exact .inl ⟨g, cap, e1⟩
        generalize W2.putObj (w.heap.size + 1 + 1) (.loop rx) = W3 at hv2 cv HR2 HD2 HB2 ⊢
        clear hv hrow hv2 hlop C1 hC bl1 hB1 hK1 hL1 hW1 hrec hrx
        rw [htm]
        have fin : LeavesInM Fence.wide n Try.prog Try.f26 (#[.slice none 0 0, .func (.func 27) #[] #[.pointer (some ⟨BO, 0, none⟩), .pointer (some ⟨BR, 0, none⟩)], .pointer (some ⟨w.heap.size, 0, none⟩), undef, v, undef, .func (.func 27) #[] #[.pointer (some ⟨BO, 0, none⟩), .pointer (some ⟨BR, 0, none⟩)], undef, undef, undef, undef, undef, v])
            (fun e w' => ∃ v, e = .returned v ∧ w'.ownsRow w.heap.size 3 1 v (orderOf X r).length ((orderOf X r).map (Value.int .i64)) ∧ Below w.heap.size w w') [markOf (w.heap.size + 1)] .returning W3 := by
          refine ⟨by simp, .inl ⟨_, _, rfl, run_takeDeferred HD2.out, ?_⟩⟩
          exact ⟨_, results_tmp rfl _ _ _, v, rfl, ownsRow_putObj HR2.out _ HD2.out rfl, HB2.out.trans (belowK_b (w := w) (Nat.le_refl _) W3 (w.heap.size + 1) _ _ (by omega) HD2.out rfl rfl)⟩
        have FIN : Hid (LeavesInM _ _ _ _ _ _ _ _ _) := fin
        clear fin HR2 HD2 HB2
        rcases hvs with ⟨g, c, rfl⟩ | ⟨rfl, hz⟩
        · gi_wp2
          exact FIN.out
        · gi_wp2
          exact FIN.out
    case yield =>
      intro pre x A hC hlen
      obtain ⟨v, hv, hrow⟩ := hC.row
      have hl := hC.lop
      have hy := run_yield (P := Try.prog) (args := #[.int .i64 x]) hl (by rw [hrec]; rfl)
      rw [hrec] at hy
      refine ⟨fn, _, assign, body, hy, roundIn_of_wpIn trivial ?_⟩
      have hlA : w.heap.size + 1 + 1 < A.heap.size := (Array.getElem?_eq_some_iff.1 hl).1
      obtain ⟨rb, hrb⟩ : ∃ rb : Loop, rb = { rec .ready none with state := .busy } := ⟨_, rfl⟩
      obtain ⟨A1, hA1⟩ : ∃ A1, A.putObj (w.heap.size + 1 + 1) (.loop rb) = A1 := ⟨_, rfl⟩
      have hbr : (Instr.beginRound (w.heap.size + 1 + 1)).run Try.prog A = .ok () A1 := by
        rw [← hA1, hrb]
        exact run_beginRound hl (by rw [hrec])
      have sA : A1.heap.size = A.heap.size := by rw [← hA1]; simp
      have oth : ∀ k : Nat, k ≠ w.heap.size + 1 + 1 → A1.heap[k]? = A.heap[k]? := fun k hk => by rw [← hA1]; exact World.putObj_heap_other hk
      have hl1 : A1.heap[w.heap.size + 1 + 1]? = some (.loop rb) := by rw [← hA1]; exact World.putObj_heap_same hlA
      have hd1 : A1.heap[w.heap.size + 1]? = some (.deferred (some [])) := (oth _ (by omega)).trans hC.def0
      have hv1 : Boxed A1 w.heap.size 41 v := (oth _ (by omega)).trans hv
      have hr1 : A1.ownsRow w.heap.size 3 1 v pre.length (pre.map (Value.int .i64)) := by rw [← hA1]; exact ownsRow_putObj hrow _ hl rfl
      have bA : Below w.heap.size A A1 := by rw [← hA1]; exact belowK_b (w := w) (Nat.le_refl _) A _ _ _ (by omega) hl rfl rfl
      have hs1 : w.heap.size ≤ A1.heap.size := by omega
      have cv := hv1.cell
      have fv := hv1.frozen
      -- what is left to be said of the round's end
      have fin : ∀ v' W', Boxed W' w.heap.size 41 v' → W'.ownsRow w.heap.size 3 1 v' (pre.length + 1) (pre.map (Value.int .i64) ++ [.int .i64 x]) → KeepsOthers A1 W' → Below w.heap.size A1 W' → (∀ (k : Nat) (o : Obj), A1.heap[k]? = some o → inty o = false → W'.heap[k]? = some o) →
          ∃ u W'', (Instr.endRound (w.heap.size + 1 + 1) none).run Try.prog W' = .ok u W'' ∧ (Ending.returned u = .returned (.bool true) ∧ Col w.heap.size (w.heap.size + 1 + 1) (w.heap.size + 1) (rec .ready none) w (pre ++ [x]) W'' ∧ Kr (w.heap.size + 1 + 1) w.heap.size A W'') := by
        intro v' W' k1 k2 k3 k4 k5
        have hl3 := k3.same _ _ hl1 rfl
        have hd3 := k3.same _ _ hd1 rfl
        have he := run_endRound (P := Try.prog) none hl3
        have erx : ({ rb with state := if (none : Option Code).isNone = true then LoopState.ready else LoopState.done, pending := none } : Loop) = rec .ready none := by rw [hrb, hrec]; rfl
        rw [erx] at he
        refine ⟨_, _, he, rfl, ⟨⟨v', k1.kept (grownBy_putObj' W' _ _) (by simp <;> omega), ?_⟩, World.putObj_heap_same (Array.getElem?_eq_some_iff.1 hl3).1, (World.putObj_heap_other (by omega)).trans hd3, ?_⟩, ?_, fun k o hk hi hne => ?_⟩
        · have := ownsRow_putObj k2 (.loop (rec .ready none)) hl3 rfl
          simpa using this
        · exact hC.bel.trans (bA.trans (k4.trans (belowK_b (w := w) (Nat.le_refl _) W' _ _ _ (by omega) hl3 rfl rfl)))
        · exact bA.trans (k4.trans (belowK_b (w := w) (Nat.le_refl _) W' _ _ _ (by omega) hl3 rfl rfl))
        · exact (World.putObj_heap_other hne).trans (k5 k o ((oth k hne).trans hk) hi)
      have FIN : Hid (∀ v' W', Boxed W' w.heap.size 41 v' → W'.ownsRow w.heap.size 3 1 v' (pre.length + 1) (pre.map (Value.int .i64) ++ [.int .i64 x]) → KeepsOthers A1 W' → Below w.heap.size A1 W' → (∀ (k : Nat) (o : Obj), A1.heap[k]? = some o → inty o = false → W'.heap[k]? = some o) →
          ∃ u W'', (Instr.endRound (w.heap.size + 1 + 1) none).run Try.prog W' = .ok u W'' ∧ (Ending.returned u = .returned (.bool true) ∧ Col w.heap.size (w.heap.size + 1 + 1) (w.heap.size + 1) (rec .ready none) w (pre ++ [x]) W'' ∧ Kr (w.heap.size + 1 + 1) w.heap.size A W'')) := fin
      have HBR : Hid ((Instr.beginRound (w.heap.size + 1 + 1)).run Try.prog A = .ok () A1) := hbr
      have HV1 : Hid (Boxed A1 w.heap.size 41 v) := hv1
      have HR1 : Hid (A1.ownsRow w.heap.size 3 1 v pre.length (pre.map (Value.int .i64))) := hr1
      have hvs : (∃ g c, v = .slice (some ⟨g, 0, none⟩) pre.length c) ∨ v = .slice none 0 0 := by
        rcases hrow.2 with ⟨e1, e2⟩ | ⟨g, cap, cur, e1, _⟩
        · exact .inr e1
        · exact .inl ⟨g, cap, e1⟩
      have hlen2 : pre.length + 1 ≤ 1048576 := by omega
      clear fin hbr hv1 hr1 hrow hv hl1 hd1 oth bA hC C1 hB1 hK1 hL1 hW1 hA1 hl hy hrb bl1 sA hlA
      subst hcode
      subst hbody
      rw [htm]
      gi_wp2
      refine ⟨A1, HBR.out, ?_⟩
      clear hrec HBR
      rcases hvs with ⟨g, c, rfl⟩ | rfl
      all_goals
        gi_wp2_with (gi_at_builtin; refine wpListIn_append_own _ rfl _ _ 41 rfl w.heap.size 3 i0 (.int .i64 0) 1 8 Try.underlying41 hi0 hz0 hz1 hz2 rfl (by decide) _ pre.length _ rfl (HR1.out.alloc _) ⟨A1.heap.size, 0, none⟩ 1 1 [.int .i64 x] rfl rfl (cell_one_new _ _ _) (by simp [Value.oneCell']) (by unfold maxLen; omega) (by omega) (by simp; omega) ?_; intro v' w1 hown' hgrow _; obtain ⟨g', cap', rfl⟩ := ownsRow_succ hown'; obtain ⟨hv3, hv2, hr2, hk2, hb2⟩ := HV1.out.appended (by decide) HR1.out hs1 (Nat.le_refl _) hown' hgrow; have hc1 := hv3.cell; have hf1 := hv3.frozen)
        refine FIN.out _ _ hv2 hr2 hk2 hb2 (fun k o hk hi => ?_)
        have hkl := (Array.getElem?_eq_some_iff.1 hk).1
        refine (Below.heap_setCell w1 _ _ k (fun e => ?_)).trans ((hgrow.block k (by simp; omega) (fun e => ?_)).trans ((Below.heap_alloc A1 _ k hkl).trans hk))
        · rw [e] at hk
          have hk' : A1.heap[w.heap.size]? = some o := hk
          rw [show A1.heap[w.heap.size]? = _ from HV1.out] at hk'
          cases hk'
          cases hi
        · exact own_ne HR1.out hk hi e

theorem collect_in (n : Nat) (hn : 9 ≤ n) (BO BR : Nat) (oa : Option Addr) (ol oc : Nat) (ra : Option Addr) (rl rc : Nat) (X : List Ob) (r : List Vl) (w : World) (hBO : Boxed w BO 23 (.slice oa ol oc)) (hBR : Boxed w BR 24 (.slice ra rl rc))
    (hX : SlAt obR (fun b => b < w.heap.size) w oa ol X) (hR : SlAt vaR (fun b => b < w.heap.size) w ra rl r) (ok : heapB X r = true) (hN : X.length ≤ 1048576) :
    CallsIn Fence.wide n Try.prog 15 #[.func (.func 27) #[] #[.pointer (some ⟨BO, 0, none⟩), .pointer (some ⟨BR, 0, none⟩)]] w
      fun e w' => ∃ v, e = .returned v ∧ w'.ownsRow w.heap.size 3 1 v (orderOf X r).length ((orderOf X r).map (Value.int .i64)) ∧ Below w.heap.size w w' := by
  have HA := appendSeq_in (n - 1) (by omega) BO BR oa ol oc ra rl rc X r w hBO hBR hX hR ok hN
  have HA' : Hid (CallsIn Fence.wide (n - 1) Try.prog 26 #[.slice none 0 0, .func (.func 27) #[] #[.pointer (some ⟨BO, 0, none⟩), .pointer (some ⟨BR, 0, none⟩)]] w fun e w' => ∃ v, e = .returned v ∧ w'.ownsRow w.heap.size 3 1 v (orderOf X r).length ((orderOf X r).map (Value.int .i64)) ∧ Below w.heap.size w w') := HA
  clear HA hBO hBR hX hR ok
  refine callsIn_of_wp Try.func15 rfl trivial ?_
  simp only [Try.ntmps15, List.size_toArray, List.length_cons, List.length_nil, Nat.reduceAdd, Nat.reduceSub, Array.replicate_succ, Array.replicate_zero, List.push_toArray, List.append_toArray, List.nil_append, List.cons_append]
  gi_wp2
  refine ⟨trivial, fun _ => by omega, HA'.out.mono ?_⟩
  rintro e w' ⟨v, rfl, h1, h2⟩
  have H1 : Hid (w'.ownsRow w.heap.size 3 1 v (orderOf X r).length ((orderOf X r).map (Value.int .i64))) := h1
  have H2 : Hid (Below w.heap.size w w') := h2
  rcases h1.2 with ⟨rfl, _⟩ | ⟨g, c, cur, rfl, _⟩
  all_goals
    clear h1 h2 HA'
    gi_wp2
    go_ret
    exact ⟨_, rfl, H1.out, H2.out⟩

theorem collectImpl (BO BR : Nat) (oa : Option Addr) (ol oc : Nat) (ra : Option Addr) (rl rc : Nat) (X : List Ob) (r : List Vl) (w : World) (hBO : Boxed w BO 23 (.slice oa ol oc)) (hBR : Boxed w BR 24 (.slice ra rl rc))
    (hX : SlAt obR (fun b => b < w.heap.size) w oa ol X) (hR : SlAt vaR (fun b => b < w.heap.size) w ra rl r) (ok : heapB X r = true) (hN : X.length ≤ 1048576) :
    Calls Try.prog 15 #[.func (.func 27) #[] #[.pointer (some ⟨BO, 0, none⟩), .pointer (some ⟨BR, 0, none⟩)]] w
      fun e w' => ∃ v, e = .returned v ∧ w'.ownsRow w.heap.size 3 1 v (orderOf X r).length ((orderOf X r).map (Value.int .i64)) ∧ Below w.heap.size w w' :=
  (callsIn_wide (n := 9)).1 (collect_in 9 (Nat.le_refl _) BO BR oa ol oc ra rl rc X r w hBO hBR hX hR ok hN)

/-- The function whose value is the iterator: things and roots are boxed. -/
theorem reachedImpl (oa : Option Addr) (ol oc : Nat) (ra : Option Addr) (rl rc : Nat) (w : World) :
    Calls Try.prog 16 #[.slice oa ol oc, .slice ra rl rc] w fun e w' => e = .returned (.func (.func 27) #[] #[.pointer (some ⟨w.heap.size, 0, none⟩), .pointer (some ⟨w.heap.size + 1, 0, none⟩)]) ∧ w' = (w.alloc (.cells #[.slice oa ol oc] 23)).alloc (.cells #[.slice ra rl rc] 24) := by
  have hmf : ∀ (fn : Fn) (first cap : Array Value) (w : World), (Instr.makeFunc fn first cap).run Try.prog w = .ok (.func fn first cap) w := fun _ _ _ _ => rfl
  go_enter Try.func16, Try.ntmps16
  go_wp2_with fail
  go_ret
  exact ⟨rfl, rfl⟩

end Go.Proofs.Ytacapffmdmpnkaa
