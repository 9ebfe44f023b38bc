/-
  The iterator over the things to which one comes from roots: it keeps what it has seen, and a queue of lists.
-/
import Derived.Test.YtacapffmdmpnkaaQue
import Derived.Test.YtacapffmdmpnkaaGrMath
namespace Go.Proofs.Ytacapffmdmpnkaa
open Go.ChangeShapes Go.WideShapes Go.ChangeAt Go.RowKit Go.Shelf

attribute [local go_sem] Oper.semAt_some

theorem info_bool : (Try.prog.info? 4).map (fun i => (i.zero, i.size, i.bytes)) = some (some (.bool false), 1, 1) := by kernel_rfl

/-- What the iterator has in its memory. -/
structure St (n0 l N B3 B4 B5 sb : Nat) (hs : List Value) (o : List Int) (W : World) : Prop where
  y : Boxed W B3 56 (.func (.yield l) #[] #[])
  s : Boxed W B4 57 (.slice (some ⟨sb, 0, none⟩) (N + 1) (N + 1))
  row : ∃ cur, W.heap[sb]? = some (.cells cur 4 (0, 0)) ∧ cur.size = N + 1 ∧ ∀ j, j ≤ N → cur[j]? = some (.bool (decide ((j : Int) ∈ o)))
  q : Que n0 W B5 hs
  low : n0 ≤ B3 ∧ n0 ≤ B4 ∧ n0 ≤ B5 ∧ n0 ≤ sb
theorem St.kept {n0 l N B3 B4 B5 sb : Nat} {hs : List Value} {o : List Int} {W W' : World} (h : St n0 l N B3 B4 B5 sb hs o W) (hk : ∀ (k : Nat) (o : Obj), W.heap[k]? = some o → o.isCells = true → inty o = false → W'.heap[k]? = some o) : St n0 l N B3 B4 B5 sb hs o W' := by
  obtain ⟨cur, h1, h2⟩ := h.row
  exact ⟨hk _ _ h.y rfl rfl, hk _ _ h.s rfl rfl, ⟨cur, hk _ _ h1 rfl rfl, h2⟩, h.q.kept hk, h.low⟩

/-- The marks that loops over iterators leave are taken, one behind the other. -/
def markOf (D : Nat) : Deferred := { target := .collected D, args := #[] }
theorem leaves_marks {F : Fence} {n : Nat} {P : Program} {fn : Func} {tmps : Array Value} {R : Ending → World → Prop} : ∀ (Ds : List Nat) (W : World), Ds.Nodup → (∀ D ∈ Ds, W.heap[D]? = some (.deferred (some []))) →
    (∀ W' : World, W'.os = W.os → W'.tape = W.tape → W'.output = W.output → W'.heap.size = W.heap.size → (∀ k : Nat, k ∉ Ds → W'.heap[k]? = W.heap[k]?) → LeavesIn F n P fn tmps R [] .returning W') → LeavesInM F n P fn tmps R (Ds.map markOf) .returning W
  | [], W, _, _, h => h W rfl rfl rfl rfl (fun _ _ => rfl)
  | D :: Ds, W, nd, hD, h => by
    obtain ⟨n1, n2⟩ := List.nodup_cons.1 nd
    refine ⟨by simp, .inl ⟨D, _, rfl, run_takeDeferred (hD D (List.mem_cons_self ..)), ?_⟩⟩
    refine leaves_marks Ds _ n2 (fun E hE => (World.putObj_heap_other (fun e => n1 (by rw [← e]; exact hE))).trans (hD E (List.mem_cons_of_mem _ hE))) ?_
    intro W' h1 h2 h3 h4 h5
    refine h W' h1 h2 h3 (by simpa using h4) (fun k hk => ?_)
    rw [List.mem_cons] at hk
    rw [h5 k (fun e => hk (.inr e)), World.putObj_heap_other (fun e => hk (.inl e))]
theorem round_wide {m m' l' l : Nat} {P : Program} {f : FuncId} {tmps : Array Value} {assign body : Code} {w : World} {R : Ending → World → Prop} (h : RoundIn Fence.wide m P l f tmps assign body w R) : RoundIn (Fence.wide.inRound l') m' P l f tmps assign body w R :=
  ⟨trivial, fun c cs _ => h.2 c cs (room_wide _)⟩

/-- The headers of the lists. -/
structure Hds (X : List Ob) (n₀ : Nat) (W : World) (oa : Option Addr) (hd : Int → Value) : Prop where
  one : ∀ n, isN X.length n → ∃ b off a l c, oa = some ⟨b, off, none⟩ ∧ b < n₀ ∧ W.cell? ⟨b, off + (n.toNat - 1) * 2 + 1, none⟩ = some (hd n) ∧ hd n = .slice a l c ∧ SlAt vaR (fun b => b < n₀) W a l (valsOf X n)
theorem hds_of {X : List Ob} {n₀ : Nat} {W : World} {oa : Option Addr} {ol : Nat} (h : SlAt obR (fun b => b < n₀) W oa ol X) : ∃ hd, Hds X n₀ W oa hd := by
  have key : ∀ n : Int, ∃ v : Value, isN X.length n → ∃ b off a l c, oa = some ⟨b, off, none⟩ ∧ b < n₀ ∧ W.cell? ⟨b, off + (n.toNat - 1) * 2 + 1, none⟩ = some v ∧ v = .slice a l c ∧ SlAt vaR (fun b => b < n₀) W a l (valsOf X n) := by
    intro n
    by_cases hn : isN X.length n
    · have hn' := hn
      unfold isN at hn'
      have hi : n.toNat - 1 < X.length := by omega
      obtain ⟨b, off, ha, hb, vs, hv, hc⟩ := h.at (n.toNat - 1) (X[n.toNat - 1]'hi) (List.getElem?_eq_getElem _)
      obtain ⟨_, _, rfl, ⟨rfl, _⟩, va, vl, vc, rfl, hL⟩ := hv
      have c1 := hc 1 (.slice va vl vc) rfl
      have ev : valsOf X n = (X[n.toNat - 1]'hi).2 := by rw [valsOf, List.getD_eq_getElem?_getD, List.getElem?_eq_getElem hi]; rfl
      exact ⟨.slice va vl vc, fun _ => ⟨b, off, va, vl, vc, ha, hb, c1, rfl, by rw [ev]; exact hL⟩⟩
    · exact ⟨undef, fun h => absurd h hn⟩
  exact ⟨fun n => Classical.choose (key n), ⟨fun n hn => Classical.choose_spec (key n) hn⟩⟩
def hlist (ra : Option Addr) (rl rc : Nat) (hd : Int → Value) (o : List Int) : List Value := .slice ra rl rc :: o.map hd
theorem hlist_at {X : List Ob} {r : List Vl} {n₀ : Nat} {W : World} {oa ra : Option Addr} {rl rc : Nat} {hd : Int → Value} {o : List Int} (h : Hds X n₀ W oa hd) (hr : SlAt vaR (fun b => b < n₀) W ra rl r) (ho : ∀ n ∈ o, isN X.length n) {i : Nat} {v : Value} (hv : (hlist ra rl rc hd o)[i]? = some v) :
    ∃ a l c vs, v = .slice a l c ∧ (listsOf X r o)[i]? = some vs ∧ SlAt vaR (fun b => b < n₀) W a l vs := by
  cases i with
  | zero =>
    simp [hlist] at hv
    exact ⟨ra, rl, rc, r, hv.symm, by simp [listsOf], hr⟩
  | succ i =>
    simp [hlist] at hv
    obtain ⟨n, hn, rfl⟩ := hv
    obtain ⟨b, off, a, l, c, _, _, _, e, hs⟩ := h.one n (ho n (List.mem_of_getElem? hn))
    exact ⟨a, l, c, valsOf X n, e, by simp [listsOf, hn], hs⟩

theorem St.setQ {n0 l N B3 B4 B5 sb : Nat} {hs hs' : List Value} {o : List Int} {W : World} {v : Value} (h : St n0 l N B3 B4 B5 sb hs o W) (q : Que n0 (W.setCell ⟨B5, 0, none⟩ v) B5 hs') : St n0 l N B3 B4 B5 sb hs' o (W.setCell ⟨B5, 0, none⟩ v) := by
  obtain ⟨g, off, cap, cu, q1, _⟩ := h.q.ex
  obtain ⟨cur, h1, h2⟩ := h.row
  exact ⟨(Below.heap_setCell W _ _ B3 (not_same q1 h.y (by decide))).trans h.y, (Below.heap_setCell W _ _ B4 (not_same q1 h.s (by decide))).trans h.s, ⟨cur, (Below.heap_setCell W _ _ sb (not_same q1 h1 (by decide))).trans h1, h2⟩, q, h.low⟩

/-- All that stands while the iterator runs. -/
structure Inn (n0 l ol n₀ BO : Nat) (oa : Option Addr) (oc : Nat) (W : World) (J : List Int → World → Prop) (Ds : List Nat) (hs : List Value) (o : List Int) (V : World) : Prop where
  st : St n0 l ol n0 (n0 + 1 + 1) (n0 + 1 + 1 + 1 + 1) (n0 + 1) hs o V
  j : J o V
  bo : Boxed V BO 23 (.slice oa ol oc)
  bl : Below n₀ W V
  ds : ∀ D ∈ Ds, n0 ≤ D ∧ V.heap[D]? = some (.deferred (some []))
  sz : n0 ≤ V.heap.size
theorem Inn.grown {n0 l ol n₀ BO : Nat} {oa : Option Addr} {oc : Nat} {W : World} {J : List Int → World → Prop} {Ds : List Nat} {hs : List Value} {o : List Int} {V V' : World} {row : Option Nat} (h : Inn n0 l ol n₀ BO oa oc W J Ds hs o V) (hJ : ∀ s A B, J s A → Abd n0 A B → J s B) (hn : n₀ ≤ n0)
    (hg : V.grownBy V' row) (hr : ∀ r, row = some r → n0 ≤ r ∧ r ∉ Ds ∧ ∀ o, V.heap[r]? = some o → o.isCells = false) : Inn n0 l ol n₀ BO oa oc W J Ds hs o V' := by
  have hk : ∀ (k : Nat) (o : Obj), V.heap[k]? = some o → o.isCells = true → V'.heap[k]? = some o := fun k o hk hc =>
    (hg.block k (Array.getElem?_eq_some_iff.1 hk).1 (fun e => by have := (hr k e.symm).2.2 o hk; rw [hc] at this; cases this)).trans hk
  have ab : Abd n0 V V' := Abd.grown hg (fun r e => ⟨(hr r e).1, fun o ho => by have := (hr r e).2.2 o ho; cases o <;> simp_all [inty, Obj.isCells]⟩)
  refine ⟨h.st.kept (fun k o h1 h2 _ => hk k o h1 h2), hJ _ _ _ h.j ab, hk _ _ h.bo rfl, h.bl.trans (ab.below hn (by have := h.sz; omega)), fun D hD => ⟨(h.ds D hD).1, ?_⟩, Nat.le_trans h.sz hg.size⟩
  exact (hg.block D (Array.getElem?_eq_some_iff.1 (h.ds D hD).2).1 (fun e => (hr D e.symm).2.1 hD)).trans (h.ds D hD).2
/-- A store into the queue's box. -/
theorem Inn.setQ {n0 l ol n₀ BO : Nat} {oa : Option Addr} {oc : Nat} {W : World} {J : List Int → World → Prop} {Ds : List Nat} {hs hs' : List Value} {o : List Int} {V : World} {v : Value} (h : Inn n0 l ol n₀ BO oa oc W J Ds hs o V) (hJ : ∀ s A B, J s A → Abd n0 A B → J s B) (hn : n₀ ≤ n0)
    (q : Que n0 (V.setCell ⟨n0 + 1 + 1 + 1 + 1, 0, none⟩ v) (n0 + 1 + 1 + 1 + 1) hs') : Inn n0 l ol n₀ BO oa oc W J Ds hs' o (V.setCell ⟨n0 + 1 + 1 + 1 + 1, 0, none⟩ v) := by
  obtain ⟨g, off, cap, cu, q1, _⟩ := h.st.q.ex
  have ab : Abd n0 V (V.setCell ⟨n0 + 1 + 1 + 1 + 1, 0, none⟩ v) := Abd.grown (grown_set V _ 0 v) (fun r e => by
    cases e
    exact ⟨by omega, fun o ho => by rw [show V.heap[n0 + 1 + 1 + 1 + 1]? = _ from q1] at ho; cases ho; rfl⟩)
  refine ⟨h.st.setQ q, hJ _ _ _ h.j ab, (Below.heap_setCell V _ _ BO (not_same q1 h.bo (by decide))).trans h.bo, h.bl.trans (ab.below hn (by have := h.sz; omega)), fun D hD => ⟨(h.ds D hD).1, ?_⟩, by rw [World.size_setCell]; exact h.sz⟩
  refine (Below.heap_setCell V _ _ D ?_).trans (h.ds D hD).2
  rintro rfl
  have := (show V.heap[n0 + 1 + 1 + 1 + 1]? = _ from q1).symm.trans (h.ds _ hD).2
  cases this
def numsOf {N : Nat} (pre : List { n : Int // isN N n }) : List Int := pre.map fun x => x.1
theorem numsOf_snoc {N : Nat} (pre : List { n : Int // isN N n }) (x : { n : Int // isN N n }) (o : List Int) : (numsOf (pre ++ [x])).foldl comeN o = comeN ((numsOf pre).foldl comeN o) x.1 := by simp [numsOf]
theorem led_map {N : Nat} {xs : List Vl} (h : xs.all (valB N) = true) : numsOf (ledL (isN N) xs) = leads xs := by
  unfold numsOf
  induction xs with
  | nil => rfl
  | cons v vs ih =>
    rw [List.all_cons, Bool.and_eq_true] at h
    have hv := leads_in (N := N) (xs := [v]) (by simp [h.1])
    have e1 : leads (v :: vs) = leads [v] ++ leads vs := by
      rw [show v :: vs = [v] ++ vs from rfl, leads, List.filterMap_append]; rfl
    have e2 : ledL (isN N) (v :: vs) = ledL (isN N) [v] ++ ledL (isN N) vs := by
      rw [show v :: vs = [v] ++ vs from rfl, ledL, List.filterMap_append]; rfl
    rw [e1, e2, List.map_append, ih h.2]
    congr 1
    obtain ⟨b, x⟩ := v
    by_cases e : b = true ∧ x ≠ 0
    · have := hv x (by simp [leads, e])
      have e7 : ledV (isN N) (b, x) = some ⟨x, this⟩ := by rw [ledV, dif_pos ⟨e, this⟩]
      have e8 : ledL (isN N) [(b, x)] = [⟨x, this⟩] := by rw [ledL, List.filterMap_cons, e7]; rfl
      have e9 : leads [(b, x)] = [x] := by rw [leads, List.filterMap_cons, if_pos e]; rfl
      rw [e8, e9]; rfl
    · simp [ledL, ledV, leads, e]

/-- A number is seen, and what the loop's round leaves. -/
theorem Inn.seen {n0 l ol n₀ BO : Nat} {oa : Option Addr} {oc : Nat} {W : World} {J : List Int → World → Prop} {Ds : List Nat} {hs : List Value} {o : List Int} {V V3 : World} {k : Nat} (h : Inn n0 l ol n₀ BO oa oc W J Ds hs o V) (hn : n₀ ≤ n0) (hl : l < n0) (hlO : BO ≠ l) (hk : k ≤ ol)
    (hr : Kr l n₀ (V.setCell ⟨n0 + 1, k, none⟩ (.bool true)) V3) (hj : J (o ++ [(k : Int)]) V3) : Inn n0 l ol n₀ BO oa oc W J Ds hs (o ++ [(k : Int)]) V3 := by
  obtain ⟨cur, c1, c2, c3⟩ := h.st.row
  have ho : ∀ (i : Nat) (ob : Obj), V.heap[i]? = some ob → inty ob = false → i ≠ l → i ≠ n0 + 1 → V3.heap[i]? = some ob := fun i ob h1 h2 h3 h4 =>
    hr.keep i ob ((Below.heap_setCell V ⟨n0 + 1, k, none⟩ (.bool true) i h4).trans h1) h2 h3
  have hlow := h.st.low
  have hne : ∀ {b : Nat} {t : TypeId} {v : Value}, Boxed V b t v → t ≠ 4 → b ≠ n0 + 1 := fun hb ht => (not_same hb c1 ht).symm
  have hq : Que n0 V3 (n0 + 1 + 1 + 1 + 1) hs := by
    obtain ⟨g, off, cap, cu, q1, q2, q3, q4, q5, q6⟩ := h.st.q.ex
    refine ⟨g, off, cap, cu, ho _ _ q1 rfl (by omega) (by omega), q2, ho _ _ q3 rfl (by omega) (fun e => ?_), q4, q5, q6⟩
    subst e
    rw [c1] at q3
    cases q3
  refine ⟨⟨ho _ _ h.st.y rfl (by omega) (by omega), ho _ _ h.st.s rfl (by omega) (by omega), ⟨cur.setIfInBounds k (.bool true), hr.keep _ _ (heap_set_same c1 _) rfl (by omega), by simpa using c2, fun j hj' => ?_⟩, hq, hlow⟩, hj, ho _ _ h.bo rfl hlO (hne h.bo (by decide)), ?_, fun D hD => ⟨(h.ds D hD).1, ?_⟩, ?_⟩
  · rw [Array.getElem?_setIfInBounds]
    by_cases e : k = j
    · subst e
      rw [if_pos rfl, if_pos (by omega)]
      simp
    · rw [if_neg e, c3 j hj']
      congr 2
      have : ¬ ((j : Int) = k) := by omega
      simp [this]
  · exact h.bl.trans (((Below.refl n₀ V).setCell (p := ⟨n0 + 1, k, none⟩) (by simp; omega) _).trans hr.low)
  · refine ho D _ (h.ds D hD).2 rfl (by have := (h.ds D hD).1; omega) ?_
    rintro rfl
    have := (h.ds _ hD).2
    rw [c1] at this
    cases this
  · have := hr.low.size
    rw [World.size_setCell] at this
    have := h.sz
    omega

/-- An append whose run is known. -/
theorem op_append {F : Fence} {n : Nat} {P : Program} {w w' : World} {ops : Array Oper} {o : Oper} {a : Act} {K : Act → World → Prop} {Q : Exit → Act → World → Prop} {E : Prop} (hg : o.guard = none) (s x : Operand) (t : TypeId) (hop : o.op = Op.call { callee := Callee.builtin Builtin.append, args := #[s, x], argTypes := #[t, t] })
    (v xv v' : Value) (hs : a.eval s = v) (hx : a.eval x = xv) (hrun : (Builtin.append_ #[t, t] o.type #[v, xv]).run P w = .ok v' w') (h : K (a.put o.dst v') w') : if Region.wanted o (yielded ops a.tmps) = true then Oper.wpIn F n P o a w K Q else E := by
  rw [if_pos (by simp [Region.wanted, hg])]
  unfold Oper.wpIn
  refine ⟨?_, ?_⟩
  · simp [Oper.about, hop, resolve, Target.leads, Sem.run_pure]
  · rw [Oper.semAt_plain F _ _ (by rw [hop]; intro c hc'; cases hc')]
    simp [execOp, hop, resolve, invoke, builtin, hs, hx, hrun, Result.andThen]
    exact h
theorem Inn.push {n0 l ol n₀ BO : Nat} {oa : Option Addr} {oc : Nat} {W : World} {J : List Int → World → Prop} {Ds : List Nat} {hs hs' : List Value} {o : List Int} {V W4 : World} {v : Value} {tmp : Obj} {g3 : Nat} {cu3 : Array Value} (h : Inn n0 l ol n₀ BO oa oc W J Ds hs o V) (hJ : ∀ s A B, J s A → Abd n0 A B → J s B) (hn : n₀ ≤ n0)
    (p3 : V.heap[g3]? = some (.cells cu3 24 (0, 0))) (p2 : n0 ≤ g3) (hg : (V.drew.alloc tmp).grownBy W4 (some g3)) (q : Que n0 (W4.setCell ⟨n0 + 1 + 1 + 1 + 1, 0, none⟩ v) (n0 + 1 + 1 + 1 + 1) hs') :
    Inn n0 l ol n₀ BO oa oc W J Ds hs' o (W4.setCell ⟨n0 + 1 + 1 + 1 + 1, 0, none⟩ v) ∧ Below n₀ V (W4.setCell ⟨n0 + 1 + 1 + 1 + 1, 0, none⟩ v) ∧ KeepsFrom 0 V (W4.setCell ⟨n0 + 1 + 1 + 1 + 1, 0, none⟩ v) := by
  obtain ⟨g, off, cap, cu, q1, _⟩ := h.st.q.ex
  have ho : ∀ (i : Nat) (ob : Obj), V.heap[i]? = some ob → i ≠ g3 → i ≠ n0 + 1 + 1 + 1 + 1 → (W4.setCell ⟨n0 + 1 + 1 + 1 + 1, 0, none⟩ v).heap[i]? = some ob := fun i ob h1 h2 h3 => by
    have hlt := (Array.getElem?_eq_some_iff.1 h1).1
    refine (Below.heap_setCell W4 _ _ i h3).trans ((hg.block i (by simp; omega) (fun e => h2 (by simpa using e))).trans ((Below.heap_alloc V.drew tmp i hlt).trans h1))
  have a1 : Abd n0 V W4 := by
    refine ((Abd.drew n0 V).trans (Abd.grown (World.grownBy_alloc V.drew tmp none) (by simp))).trans (Abd.grown hg (fun r e => ?_))
    cases e
    refine ⟨p2, fun ob hob => ?_⟩
    rw [Below.heap_alloc V.drew tmp g3 (Array.getElem?_eq_some_iff.1 p3).1] at hob
    have : V.heap[g3]? = some ob := hob
    rw [p3] at this
    cases this
    rfl
  have b5 : W4.heap[n0 + 1 + 1 + 1 + 1]? = V.heap[n0 + 1 + 1 + 1 + 1]? := by
    refine (hg.block _ (by have := q1.lt; simp; omega) (fun e => ?_)).trans (Below.heap_alloc V.drew tmp _ q1.lt)
    exact not_same q1 p3 (by decide) (by simpa using e.symm)
  have ab : Abd n0 V (W4.setCell ⟨n0 + 1 + 1 + 1 + 1, 0, none⟩ v) := a1.trans (Abd.grown (grown_set W4 _ 0 v) (fun r e => by
    cases e
    refine ⟨by omega, fun ob hob => ?_⟩
    rw [b5, show V.heap[n0 + 1 + 1 + 1 + 1]? = _ from q1] at hob
    cases hob
    rfl))
  have bw : Below n₀ V (W4.setCell ⟨n0 + 1 + 1 + 1 + 1, 0, none⟩ v) := ab.below hn (by have := h.sz; omega)
  obtain ⟨cur, c1, c2⟩ := h.st.row
  refine ⟨⟨⟨ho _ _ h.st.y (fun e => not_same (e ▸ h.st.y) p3 (by decide) rfl) (not_same q1 h.st.y (by decide)), ho _ _ h.st.s (fun e => not_same (e ▸ h.st.s) p3 (by decide) rfl) (not_same q1 h.st.s (by decide)), ⟨cur, ho _ _ c1 (fun e => ?_) (not_same q1 c1 (by decide)), c2⟩, q, h.st.low⟩, hJ _ _ _ h.j ab, ho _ _ h.bo (fun e => not_same (e ▸ h.bo) p3 (by decide) rfl) (not_same q1 h.bo (by decide)), h.bl.trans bw, fun D hD => ⟨(h.ds D hD).1, ho _ _ (h.ds D hD).2 (fun e => ?_) (fun e => ?_)⟩, by have := ab.size; have := h.sz; omega⟩, bw, ⟨ab.size, fun i ob _ h1 h2 => ho i ob h1 (fun e => ?_) (fun e => ?_)⟩⟩
  · rw [e] at c1; rw [c1] at p3; cases p3
  · have := (h.ds D hD).2; rw [e, p3] at this; cases this
  · have := (h.ds D hD).2; rw [e, show V.heap[n0 + 1 + 1 + 1 + 1]? = _ from q1] at this; cases this
  · rw [e, p3] at h1; cases h1; cases h2
  · rw [e, show V.heap[n0 + 1 + 1 + 1 + 1]? = _ from q1] at h1; cases h1; cases h2

theorem heap_new {A : World} {k : Nat} (h : A.heap.size = k) (o : Obj) : (A.alloc o).heap[k]? = some o := by
  subst h
  exact World.alloc_heap_new A o

set_option maxRecDepth 100000 in
set_option maxHeartbeats 4000000 in
theorem reached_in (n : Nat) (hn : 6 ≤ n) (l n₀ BO BR : Nat) (oa : Option Addr) (ol oc : Nat) (ra : Option Addr) (rl rc : Nat) (X : List Ob) (r : List Vl) (J : List Int → World → Prop) (W : World) (hl : l < W.heap.size) (hlO : BO ≠ l) (hn₀ : n₀ ≤ W.heap.size)
    (hJ : ∀ s A B, J s A → Abd W.heap.size A B → J s B)
    (hY : ∀ pre x A, J pre A → pre.length < X.length → YieldAt Fence.wide n Try.prog l #[.int .i64 x] A fun e A' => e = .returned (.bool true) ∧ J (pre ++ [x]) A' ∧ Kr l n₀ A A')
    (hBO : Boxed W BO 23 (.slice oa ol oc)) (hBR : Boxed W BR 24 (.slice ra rl rc))
    (hX : SlAt obR (fun b => b < n₀) W oa ol X) (hR : SlAt vaR (fun b => b < n₀) W ra rl r) (ok : heapB X r = true) (hN : X.length ≤ 1048576) (h0 : J [] W) :
    CallsIn Fence.wide n Try.prog 27 #[.func (.yield l) #[] #[], .pointer (some ⟨BO, 0, none⟩), .pointer (some ⟨BR, 0, none⟩)] W fun e W' => (∃ v, e = .returned v) ∧ J (orderOf X r) W' := by
  have h1 : 1 ≤ n := by omega
  have el : X.length = ol := hX.size
  have hol : ol ≤ 1048576 := by omega
  have hmk : ∀ wx : World, (Instr.makeSlice 57 (.int .i64 ((ol : Int) + 1)) (.int .i64 ((ol : Int) + 1))).run Try.prog wx = .ok (.slice (some ⟨wx.heap.size, 0, none⟩) (ol + 1) (ol + 1)) (wx.alloc (.cells (madeCells #[.bool false] (ol + 1)) 4)) := fun wx => by
    have := run_make_row' (P := Try.prog) 57 4 (.bool false) 1 Try.underlying57 info_bool rfl .i64 .i64 (ol + 1) (by omega) (by omega) wx
    rw [show ((ol + 1 : Nat) : Int) = (ol : Int) + 1 by simp] at this
    exact this
  have HY : Hid (∀ pre x A, J pre A → pre.length < X.length → YieldAt Fence.wide n Try.prog l #[.int .i64 x] A fun e A' => e = .returned (.bool true) ∧ J (pre ++ [x]) A' ∧ Kr l n₀ A A') := hY
  have HJ : Hid (∀ s A B, J s A → Abd W.heap.size A B → J s B) := hJ
  have HX : Hid (SlAt obR (fun b => b < n₀) W oa ol X) := hX
  have HR : Hid (SlAt vaR (fun b => b < n₀) W ra rl r) := hR
  have OK : Hid (heapB X r = true) := ok
  have HO : Hid (Boxed W BO 23 (.slice oa ol oc)) := hBO
  have HQ : Hid (Boxed W BR 24 (.slice ra rl rc)) := hBR
  have H0 : Hid (J [] W) := h0
  have EL : Hid (X.length = ol) := el
  have cO := hBO.cell
  have cR := hBR.cell
  have lO := hBO.lt
  have lR := hBR.lt
  have lR1 : BR < W.heap.size + 1 := by omega
  have lR2 : BR < W.heap.size + 1 + 1 := by omega
  have lR3 : BR < W.heap.size + 1 + 1 + 1 := by omega
  clear hY hJ hX hR ok hBO hBR h0 el
  refine callsIn_of_wp_marks Try.func27 rfl trivial ?_
  simp only [Try.ntmps27, List.size_toArray, List.length_cons, List.length_nil, Nat.reduceAdd, Nat.reduceSub, Array.replicate_succ, Array.replicate_zero, List.push_toArray, List.append_toArray, List.nil_append, List.cons_append]
  gi_wp2
  obtain ⟨hd, hH⟩ := hds_of HX.out
  have HH : Hid (Hds X n₀ W oa hd) := hH
  clear hH
  have HIN : Hid (Inn W.heap.size l ol n₀ BO oa oc W J [] ((hlist ra rl rc hd (ordL X r 0)).drop 0) (ordL X r 0) (((((W.alloc (.cells #[.func (.yield l) #[] #[]] 56)).alloc (.cells (madeCells #[.bool false] (ol + 1)) 4)).alloc (.cells #[.slice (some ⟨W.heap.size + 1, 0, none⟩) (ol + 1) (ol + 1)] 57)).alloc (.cells #[.slice ra rl rc] 24)).alloc (.cells #[.slice (some ⟨W.heap.size + 1 + 1 + 1, 0, none⟩) 1 1] 58))) := by
    have e0 : ordL X r 0 = [] := rfl
    rw [e0]
    have gr : W.grownBy (((((W.alloc (.cells #[.func (.yield l) #[] #[]] 56)).alloc (.cells (madeCells #[.bool false] (ol + 1)) 4)).alloc (.cells #[.slice (some ⟨W.heap.size + 1, 0, none⟩) (ol + 1) (ol + 1)] 57)).alloc (.cells #[.slice ra rl rc] 24)).alloc (.cells #[.slice (some ⟨W.heap.size + 1 + 1 + 1, 0, none⟩) 1 1] 58)) none :=
      ⟨rfl, rfl, rfl, by simp; omega, fun k hk _ => by
        rw [Below.heap_alloc _ _ _ (by simp; omega), Below.heap_alloc _ _ _ (by simp; omega), Below.heap_alloc _ _ _ (by simp; omega), Below.heap_alloc _ _ _ (by simp; omega), Below.heap_alloc _ _ _ hk]⟩
    have hz : ∀ j, j ≤ ol → (madeCells #[Value.bool false] (ol + 1))[j]? = some (.bool (decide ((j : Int) ∈ ([] : List Int)))) := fun j hj => by
      have := (RowAt.made W #[.bool false] (ol + 1) 4 j (by omega)).1
      rw [cell_of_block (World.alloc_heap_new W _)] at this
      simpa [Nat.mod_one] using this
    refine ⟨⟨?_, ?_, ⟨_, ?_, ?_, hz⟩, ⟨W.heap.size + 1 + 1 + 1, 0, 1, #[.slice ra rl rc], ?_, by omega, ?_, by simp [hlist], by simp, ?_⟩, by omega, by omega, by omega, by omega⟩, HJ.out _ _ _ H0.out (Abd.grown gr (by simp)), (gr.block BO lO (by simp)).trans HO.out, (Below.refl n₀ W).grown gr hn₀ (by simp), by simp, gr.size⟩
    · exact (Below.heap_alloc _ _ _ (by simp <;> omega)).trans ((Below.heap_alloc _ _ _ (by simp <;> omega)).trans ((Below.heap_alloc _ _ _ (by simp <;> omega)).trans ((Below.heap_alloc _ _ _ (by simp)).trans (heap_new rfl _))))
    · exact (Below.heap_alloc _ _ _ (by simp <;> omega)).trans ((Below.heap_alloc _ _ _ (by simp)).trans (heap_new (by simp) _))
    · exact (Below.heap_alloc _ _ _ (by simp <;> omega)).trans ((Below.heap_alloc _ _ _ (by simp <;> omega)).trans ((Below.heap_alloc _ _ _ (by simp)).trans (heap_new (by simp) _)))
    · simp [madeCells]
    · exact heap_new (by simp) _
    · exact (Below.heap_alloc _ _ _ (by simp)).trans (heap_new (by simp) _)
    · intro j h hj
      match j, hj with
      | 0, hj => simpa [hlist] using hj
  refine wpIn_loop_ghost (fun g a' Wr => ∃ (i : Nat) (u6 u7 u14 u15 u16 u17 u18 u19 u20 u21 u22 u23 u24 u25 u26 u27 u28 u29 u30 u31 u32 u33 u34 u35 u36 u37 u38 u39 u40 u41 u42 u43 u44 : Value) (Ds : List Nat), g = ol + 1 - i ∧ i ≤ (ordL X r i).length + 1 ∧ a' = { tmps := #[.func (.yield l) #[] #[], .pointer (some ⟨BO, 0, none⟩), .pointer (some ⟨BR, 0, none⟩), .pointer (some ⟨W.heap.size, 0, none⟩), .pointer (some ⟨W.heap.size + 1 + 1, 0, none⟩), .pointer (some ⟨W.heap.size + 1 + 1 + 1 + 1, 0, none⟩), u6, u7, .slice oa ol oc, .int .i64 ol, .int .i64 ((ol : Int) + 1), .slice (some ⟨W.heap.size + 1, 0, none⟩) (ol + 1) (ol + 1), .slice ra rl rc, .slice (some ⟨W.heap.size + 1 + 1 + 1, 0, none⟩) 1 1, u14, u15, u16, u17, u18, u19, u20, u21, u22, u23, u24, u25, u26, u27, u28, u29, u30, u31, u32, u33, u34, u35, u36, u37, u38, u39, u40, u41, u42, u43, u44], defers := Ds.map markOf } ∧
      Inn W.heap.size l ol n₀ BO oa oc W J Ds ((hlist ra rl rc hd (ordL X r i)).drop i) (ordL X r i) Wr ∧ Ds.Nodup)
    (ol + 1) ?start ?round
  case start => exact ⟨0, undef, undef, undef, undef, undef, undef, undef, undef, undef, undef, undef, undef, undef, undef, undef, undef, undef, undef, undef, undef, undef, undef, undef, undef, undef, undef, undef, undef, undef, undef, undef, undef, undef, [], by simp, by simp, rfl, HIN.out, by simp⟩
  case round =>
    rintro g a' Wr ⟨i, u6, u7, u14, u15, u16, u17, u18, u19, u20, u21, u22, u23, u24, u25, u26, u27, u28, u29, u30, u31, u32, u33, u34, u35, u36, u37, u38, u39, u40, u41, u42, u43, u44, Ds, hg, hi, rfl, hIn, hnd⟩
    have HIr : Hid (Inn W.heap.size l ol n₀ BO oa oc W J Ds ((hlist ra rl rc hd (ordL X r i)).drop i) (ordL X r i) Wr) := hIn
    have HI : Hid (i ≤ (ordL X r i).length + 1) := hi
    have HG : Hid (g = ol + 1 - i) := hg
    have HND : Hid Ds.Nodup := hnd
    have HOr : Hid (Ordr X.length (ordL X r i)) := ordr_at OK.out i
    clear cO cR HIN
    obtain ⟨qg, qo, qc, cur, q1, q2, q3, q4, q5, q6⟩ := hIn.st.q.ex
    have cq := q1.cell
    have fq := q1.frozen
    have QQ : Hid (Boxed Wr (W.heap.size + 1 + 1 + 1 + 1) 58 (.slice (some ⟨qg, qo, none⟩) ((hlist ra rl rc hd (ordL X r i)).drop i).length qc) ∧ W.heap.size ≤ qg ∧ Wr.heap[qg]? = some (.cells cur 24 (0, 0)) ∧ qo + qc ≤ cur.size) := ⟨q1, q2, q3, q5⟩
    have Q6 : Hid (∀ (j : Nat) (h : Value), ((hlist ra rl rc hd (ordL X r i)).drop i)[j]? = some h → cur[qo + j]? = some h) := q6
    have hlen : ((hlist ra rl rc hd (ordL X r i)).drop i).length = (ordL X r i).length + 1 - i := by simp [hlist]
    have hol2 : (ordL X r i).length ≤ ol := by have := HOr.out.le; rw [EL.out] at this; exact this
    rw [hlen] at cq q4
    clear hIn hi hg hnd q1 q2 q3 q5 q6
    by_cases hend : (ordL X r i).length + 1 - i = 0
    · rw [hend] at cq
      have HE : Hid (ordL X r i = orderOf X r) := order_eq OK.out (by have := HI.out; omega)
      gi_wp2
      refine leaves_marks Ds Wr HND.out (fun D hD => (HIr.out.ds D hD).2) ?_
      intro W' e1 e2 e3 e4 e5
      refine ⟨_, results_none rfl _ _ _, ⟨_, rfl⟩, ?_⟩
      rw [← HE.out]
      refine HJ.out _ _ _ HIr.out.j ⟨e1, e2, e3, by omega, fun k o hk ho => (e5 k (fun hm => ?_)).trans hk⟩
      have hd' := HIr.out.ds k hm
      rw [hk] at hd'
      have := hd'.2
      cases this
      rcases ho with ho | ho
      · have := hd'.1; omega
      · cases ho
    · have hpos : 0 < (ordL X r i).length + 1 - i := by omega
      obtain ⟨v, hv⟩ : ∃ v, (hlist ra rl rc hd (ordL X r i))[i]? = some v := ⟨(hlist ra rl rc hd (ordL X r i))[i]'(by simp [hlist]; omega), List.getElem?_eq_getElem _⟩
      obtain ⟨va, vl, vc, vs, rfl, hvs, hS⟩ := hlist_at HH.out HR.out HOr.out.inn hv
      have cv : Wr.cell? ⟨qg, qo, none⟩ = some (.slice va vl vc) := by
        rw [cell_of_block QQ.out.2.2.1]
        have := Q6.out 0 (.slice va vl vc) (by rw [List.getElem?_drop]; exact hv)
        simpa using this
      have HVS : Hid ((listsOf X r (ordL X r i))[i]? = some vs) := hvs
      have HS : Hid (SlAt vaR (fun b => b < n₀) W va vl vs) := hS
      have hlen2 : ((hlist ra rl rc hd (ordL X r i)).drop (i + 1)).length = (ordL X r i).length + 1 - i - 1 := by simp [hlist]; omega
      have HP : Hid (∀ off' cap', (ordL X r i).length + 1 - i - 1 ≤ cap' → off' + cap' ≤ cur.size → (0 < (ordL X r i).length + 1 - i - 1 → off' = qo + 1) →
          Inn W.heap.size l ol n₀ BO oa oc W J Ds ((hlist ra rl rc hd (ordL X r i)).drop (i + 1)) (ordL X r i) (Wr.setCell ⟨W.heap.size + 1 + 1 + 1 + 1, 0, none⟩ (.slice (some ⟨qg, off', none⟩) ((ordL X r i).length + 1 - i - 1) cap'))) := by
        intro off' cap' k1 k2 k3
        refine HIr.out.setQ HJ.out hn₀ (Que.put QQ.out.1 QQ.out.2.1 QQ.out.2.2.1 (by rw [hlen2]; exact k1) k2 (fun j h hj => ?_) hlen2)
        have hj2 := (List.getElem?_eq_some_iff.1 hj).1
        rw [hlen2] at hj2
        rw [k3 (by omega), show qo + 1 + j = qo + (j + 1) by omega]
        refine Q6.out (j + 1) h ?_
        rw [List.getElem?_drop] at hj ⊢
        rw [← hj]; congr 1; omega
      clear hv hvs hS hlen2
      have hsz5 := QQ.out.2.2.2
      generalize hm : (ordL X r i).length + 1 - i = m at cq q4 hpos hend hlen HP
      gi_wp2
      case inl =>
        rename_i hq1
        have hI1 := HP.out qo 0 (by omega) (by omega) (by omega)
        generalize Wr.setCell ⟨W.heap.size + 1 + 1 + 1 + 1, 0, none⟩ (.slice (some ⟨qg, qo, none⟩) (m - 1) 0) = W1 at hI1 ⊢
        have HI1 : Hid (Inn W.heap.size l ol n₀ BO oa oc W J Ds ((hlist ra rl rc hd (ordL X r i)).drop (i + 1)) (ordL X r i) W1) := hI1
        clear hI1 HP Q6 QQ HIr cq cv fq
        refine ⟨trivial, (ledTo_in _ _ _ _ _).mono ?_⟩
        rintro e w' ⟨rfl, rfl⟩
        have hb2 := one_new W1 (.slice va vl vc) 24
        have hI2 : Inn W.heap.size l ol n₀ BO oa oc W J Ds ((hlist ra rl rc hd (ordL X r i)).drop (i + 1)) (ordL X r i) (W1.alloc (.cells #[.slice va vl vc] 24)) := HI1.out.grown HJ.out hn₀ (World.grownBy_alloc W1 _ none) (by simp)
        obtain ⟨Bs, hBs⟩ : ∃ Bs, W1.heap.size = Bs := ⟨_, rfl⟩
        have hsz2 : (W1.alloc (.cells #[.slice va vl vc] 24)).heap.size = Bs + 1 := by simp [hBs]
        rw [hBs] at hb2
        generalize W1.alloc (.cells #[.slice va vl vc] 24) = W2 at hb2 hI2 hsz2 ⊢
        have HI2 : Hid (Inn W.heap.size l ol n₀ BO oa oc W J Ds ((hlist ra rl rc hd (ordL X r i)).drop (i + 1)) (ordL X r i) W2) := hI2
        have hs2 := hI2.sz
        have HDl : Hid (∀ D ∈ Ds, D < W2.heap.size) := fun D hD => (Array.getElem?_eq_some_iff.1 (hI2.ds D hD).2).1
        have hStp := led_stops (p := isN X.length) (n - 1) (by omega) Bs n₀ va vl vc vs (fun v hv h1 h2 => leads_in (lists_ok OK.out _ vs (List.mem_of_getElem? HVS.out)) v.2 (List.mem_filterMap.2 ⟨v, hv, by simp [h1, h2]⟩)) W2 (by omega) (by omega) hb2.1 (HS.out.keep (fun b o hb _ => hI2.bl.cell (p := ⟨b, o, none⟩) hb))
        have HStp : Hid (SeqStopsK Fence.wide (n - 1) Try.prog 34 #[.pointer (some ⟨Bs, 0, none⟩)] (fun x : { n : Int // isN X.length n } => #[Value.int .i64 x.1]) (Below n₀) (fun ys => ys = ledL (isN X.length) vs) (fun pre => pre <+: ledL (isN X.length) vs) vs.length W2) := hStp
        clear hI2 hb2 hStp HI1
        rw [hBs]
        gi_wp2
        refine wpIn_rangeFunc_ownG rfl h1 (gf := 34) (lb := #[.pointer (some ⟨Bs, 0, none⟩)]) rfl trivial (enters_of Try.func34 (by kernel_rfl) rfl)
          HStp.out belowK_t (belowK_b (by omega)) (Below.refl _ _) (fun _ => rfl)
          (fun pre V => Inn W.heap.size l ol n₀ BO oa oc W J Ds ((hlist ra rl rc hd ((numsOf pre).foldl comeN (ordL X r i))).drop (i + 1)) ((numsOf pre).foldl comeN (ordL X r i)) V)
          (fun _ _ _ => False)
          (fun pre V V' row h hg hr => h.grown HJ.out hn₀ hg (fun q e => by
            obtain ⟨k1, o', k2, k3⟩ := hr q e
            exact ⟨by omega, fun hD => by have := HDl.out q hD; omega, fun o ho => by rw [k2] at ho; cases ho; exact k3⟩))
          (fun _ _ _ _ _ h _ _ => h) HI2.out ?a1 ?assign ?body ?done ?stop
        case assign =>
          intro l' x V K hK
          gi_wp2
          exact hK
        case done =>
          rintro D ys V hD rfl hV hK
          have EO : Hid ((numsOf (ledL (isN X.length) vs)).foldl comeN (ordL X r i) = ordL X r (i + 1)) := by
            show _ = _
            rw [led_map (lists_ok OK.out _ vs (List.mem_of_getElem? HVS.out))]
            conv => rhs; rw [ordL, HVS.out]
          rw [EO.out] at hV
          have HVI : Hid (Inn W.heap.size l ol n₀ BO oa oc W J Ds ((hlist ra rl rc hd (ordL X r (i + 1))).drop (i + 1)) (ordL X r (i + 1)) V) := hV
          have HKD : Hid (V.heap[D]? = some (.deferred (some []))) := hK
          have HLE : Hid ((ordL X r i).length ≤ (ordL X r (i + 1)).length) := (ord_pre i).length_le
          clear hV hK
          gi_wp2
          refine ⟨ol + 1 - (i + 1), ?_, i + 1, _, _, _, _, _, _, _, _, _, _, _, _, _, _, _, _, _, _, _, _, _, _, _, _, _, _, _, _, _, _, _, _, _, D :: Ds, rfl, ?_, rfl, ?_, ?_⟩
          · have := HI.out; have := HG.out; omega
          · have := HI.out; have := HLE.out; omega
          · refine ⟨HVI.out.st, HVI.out.j, HVI.out.bo, HVI.out.bl, fun E hE => ?_, HVI.out.sz⟩
            rcases List.mem_cons.1 hE with rfl | hE
            · exact ⟨by omega, HKD.out⟩
            · exact HVI.out.ds E hE
          · exact List.nodup_cons.2 ⟨fun hm' => by have := HDl.out D hm'; omega, HND.out⟩
        case stop =>
          rintro D c pre V _ _ h _
          exact h.elim
        case body =>
          rintro l' pre ⟨x, hx⟩ V hV _
          obtain ⟨k, rfl⟩ : ∃ k : Nat, x = k := ⟨x.toNat, by unfold isN at hx; omega⟩
          have hx2 := hx
          unfold isN at hx2
          rw [EL.out] at hx2
          have hk0 : 0 < k := by omega
          have hk1 : k ≤ ol := by omega
          have hOP : Ordr X.length ((numsOf pre).foldl comeN (ordL X r i)) := Ordr.fold _ HOr.out (fun n hn => by obtain ⟨y, _, rfl⟩ := List.mem_map.1 hn; exact y.2)
          have hPL : (ordL X r i).length ≤ ((numsOf pre).foldl comeN (ordL X r i)).length := (fold_pre _ _).length_le
          have HSN : Hid ((numsOf (pre ++ [⟨(k : Int), hx⟩])).foldl comeN (ordL X r i) = comeN ((numsOf pre).foldl comeN (ordL X r i)) k) := numsOf_snoc pre ⟨(k : Int), hx⟩ _
          clear hx2
          generalize (numsOf pre).foldl comeN (ordL X r i) = o at hV hOP HSN hPL
          have HV : Hid (Inn W.heap.size l ol n₀ BO oa oc W J Ds ((hlist ra rl rc hd o).drop (i + 1)) o V) := hV
          have HOP : Hid (Ordr X.length o) := hOP
          have HPL : Hid ((ordL X r i).length ≤ o.length) := hPL
          obtain ⟨cu, r1, r2, r3⟩ := hV.st.row
          have cs := hV.st.s.cell
          have cy := hV.st.y.cell
          have ck : V.cell? ⟨W.heap.size + 1, k, none⟩ = some (.bool (decide ((k : Int) ∈ o))) := (cell_of_block r1 k).trans (r3 k hk1)
          have fk : V.frozen? ⟨W.heap.size + 1, k, none⟩ = false := free_of_block r1 k
          have hkb : (k : Int) < (ol : Int) + 1 := by omega
          have R1 : Hid (V.heap[W.heap.size + 1]? = some (.cells cu 4 (0, 0))) := r1
          clear hV hOP hPL r1 r2 r3 HStp
          by_cases hin : (k : Int) ∈ o
          · rw [decide_eq_true hin] at ck
            have HC : Hid (comeN o k = o) := by show _ = _; rw [comeN, if_pos hin]
            clear hin
            gi_wp2
            refine ⟨KeepsFrom.refl _ _, Below.refl _ _, ?_⟩
            show Inn W.heap.size l ol n₀ BO oa oc W J Ds ((hlist ra rl rc hd ((numsOf (pre ++ [⟨(k : Int), hx⟩])).foldl comeN (ordL X r i))).drop (i + 1)) ((numsOf (pre ++ [⟨(k : Int), hx⟩])).foldl comeN (ordL X r i)) V
            rw [HSN.out, HC.out]
            exact HV.out
          · rw [decide_eq_false hin] at ck
            have HC : Hid (comeN o k = o ++ [(k : Int)]) := by show _ = _; rw [comeN, if_neg hin]
            have hol3 : o.length < X.length := by
              have := (HOP.out.come hx).le
              rw [HC.out] at this
              simp at this
              omega
            clear hin
            have hJs : J o (V.setCell ⟨W.heap.size + 1, k, none⟩ (.bool true)) := HJ.out _ _ _ HV.out.j (Abd.grown (grown_set V _ k _) (fun q e => by
              cases e
              exact ⟨by omega, fun ob hob => by rw [R1.out] at hob; cases hob; rfl⟩))
            obtain ⟨fn, tmps, assign, body, hy, hR⟩ := HY.out o (k : Int) _ hJs hol3
            have HRd : Hid (RoundIn Fence.wide n Try.prog l fn tmps assign body _ _) := hR
            clear hR hJs
            gi_wp2
            refine ⟨fun _ => by omega, (round_wide HRd.out).mono ?_⟩
            rintro e V3 ⟨rfl, hJ3, hKr⟩
            have hI3 := HV.out.seen hn₀ hl hlO hk1 hKr hJ3
            have HV3 : Hid (Inn W.heap.size l ol n₀ BO oa oc W J Ds ((hlist ra rl rc hd o).drop (i + 1)) (o ++ [(k : Int)]) V3) := hI3
            have HKr : Hid (Kr l n₀ (V.setCell ⟨W.heap.size + 1, k, none⟩ (.bool true)) V3) := hKr
            have cO3 := hI3.bo.cell
            have lO3 := hI3.bo.lt
            obtain ⟨ob, oo, ha, hl2, hc, rfl, hob, hcell, hhd, _⟩ := HH.out.one (k : Int) hx
            rw [hhd] at hcell
            have ch3 : V3.cell? ⟨ob, oo + (k - 1) * 2 + 1, none⟩ = some (.slice ha hl2 hc) := (hI3.bl.cell (p := ⟨ob, oo + (k - 1) * 2 + 1, none⟩) hob).trans (by simpa using hcell)
            have lob : ob < V3.heap.size := by have := hI3.sz; omega
            obtain ⟨g3, o3, c3, cu3, p1, p2, p3, p4, p5, p6⟩ := hI3.st.q.ex
            have cq3 := p1.cell
            have fq3 := p1.frozen
            have lq3 := p1.lt
            have hqs : ((hlist ra rl rc hd o).drop (i + 1)).length ≤ 2000000 := by simp [hlist]; omega
            obtain ⟨g4, o4, c4, cu4, W4, hrun, s1, s2, s3, s4, s5, s6⟩ := que_push (W := V3.drew.alloc (.cells #[.slice ha hl2 hc] 24)) (s := V3.heap.size) 58 (by simp; have := hI3.sz; omega) p2 ((Below.heap_alloc V3.drew _ g3 (Array.getElem?_eq_some_iff.1 p3).1).trans p3) p4 p5 p6 (one_new V3.drew (.slice ha hl2 hc) 24).1 hqs
            have hb4 : W4.heap[W.heap.size + 1 + 1 + 1 + 1]? = V3.heap[W.heap.size + 1 + 1 + 1 + 1]? := by
              rw [s6.block _ (by simp; omega) (fun e => ?_)]
              · exact Below.heap_alloc V3.drew _ _ lq3
              · have e' : g3 = W.heap.size + 1 + 1 + 1 + 1 := by simpa using e.symm
                exact not_same p1 p3 (by decide) e'
            have q4 : Boxed W4 (W.heap.size + 1 + 1 + 1 + 1) 58 (.slice (some ⟨g3, o3, none⟩) ((hlist ra rl rc hd o).drop (i + 1)).length c3) := hb4.trans p1
            have cq4 := q4.cell
            have fq4 := q4.frozen
            have HQ4 : Que W.heap.size (W4.setCell ⟨W.heap.size + 1 + 1 + 1 + 1, 0, none⟩ (.slice (some ⟨g4, o4, none⟩) (((hlist ra rl rc hd o).drop (i + 1)).length + 1) c4)) (W.heap.size + 1 + 1 + 1 + 1) ((hlist ra rl rc hd o).drop (i + 1) ++ [.slice ha hl2 hc]) :=
              Que.put q4 s1 s2 (by simpa using s3) s4 s5 (by simp)
            obtain ⟨f1, f2, f3⟩ := hI3.push HJ.out hn₀ p3 p2 s6 HQ4
            have hdr : (hlist ra rl rc hd o).drop (i + 1) ++ [.slice ha hl2 hc] = (hlist ra rl rc hd (o ++ [(k : Int)])).drop (i + 1) := by
              rw [← hhd]
              have e5 : hlist ra rl rc hd (o ++ [(k : Int)]) = hlist ra rl rc hd o ++ [hd k] := by simp [hlist]
              rw [e5, List.drop_append_of_le_length]
              have := HPL.out
              simp [hlist]; omega
            rw [hdr] at f1
            have F1 : Hid (Inn W.heap.size l ol n₀ BO _ oc W J Ds ((hlist ra rl rc hd (o ++ [(k : Int)])).drop (i + 1)) (o ++ [(k : Int)]) (W4.setCell ⟨W.heap.size + 1 + 1 + 1 + 1, 0, none⟩ (.slice (some ⟨g4, o4, none⟩) (((hlist ra rl rc hd o).drop (i + 1)).length + 1) c4))) := f1
            have F2 : Hid (Below n₀ V (W4.setCell ⟨W.heap.size + 1 + 1 + 1 + 1, 0, none⟩ (.slice (some ⟨g4, o4, none⟩) (((hlist ra rl rc hd o).drop (i + 1)).length + 1) c4))) := ((Below.refl n₀ V).setCell (p := ⟨W.heap.size + 1, k, none⟩) (by simp; omega) _).trans (hKr.low.trans f2)
            have F3 : Hid (KeepsFrom W2.heap.size V (W4.setCell ⟨W.heap.size + 1 + 1 + 1 + 1, 0, none⟩ (.slice (some ⟨g4, o4, none⟩) (((hlist ra rl rc hd o).drop (i + 1)).length + 1) c4))) := by
              refine ⟨F2.out.size, fun j ob hj h2 h3 => f3.same j ob (Nat.zero_le _) (hKr.keep j ob ?_ (by cases ob <;> simp_all [inty, Obj.isCells]) (by omega)) h3⟩
              refine (Below.heap_setCell V _ _ j (fun e => ?_)).trans h2
              rw [e] at h2
              have h2' : V.heap[W.heap.size + 1]? = some ob := h2
              rw [R1.out] at h2'
              cases h2'
              cases h3
            clear hI3 hKr hJ3 p1 p2 p3 p5 p6 q4 s1 s2 s4 s5 s6 hhd hcell hb4 HKr HQ4 f1 f2 f3 hdr
            generalize ((hlist ra rl rc hd o).drop (i + 1)).length = m3 at *
            have hk5 : (0 : Int) ≤ (k : Int) - 1 := by omega
            have hk6 : (k : Int) - 1 < (ol : Int) := by omega
            have hk7 : ((k : Int) - 1).toNat = k - 1 := by omega
            have hk8 : IntKind.i64.wrap ((k : Int) - 1) = (k : Int) - 1 := by rw [IntKind.wrap_i64]; omega
            have hmx : Try.prog.follows .mixedOrders = true := by kernel_rfl
            gi_wp2
            refine wpIn_region_any hmx ?_
            change wpAnyIn _ _ _ _ _ _ _ _ _ (World.drew _)
            refine wpAnyIn_ready (rs := [0, 1, 2]) (by kernel_rfl) (by simp) ?_
            refine AllReadyIn.cons rfl (fun K hK => ?_) ?_
            · go_simp
              refine hK _ _ ?_
              clear hK K
              refine wpAnyIn_ready (rs := [1, 2]) (by kernel_rfl) (by simp) ?_
              refine AllReadyIn.cons rfl (fun K hK => ?_) ?_
              · go_simp
                refine hK _ _ ?_
                clear hK K
                refine wpAnyIn_ready (rs := [2]) (by kernel_rfl) (by simp) ?_
                refine AllReadyIn.cons rfl (fun K hK => ?_) AllReadyIn.nil
                go_simp
                refine hK _ _ ?_
                clear hK K
                refine wpAnyIn_ready (rs := [3]) (by kernel_rfl) (by simp) ?_
                refine AllReadyIn.cons rfl (fun K hK => ?_) AllReadyIn.nil
                go_simp
                refine hK _ _ ?_
                clear hK K
                refine wpAnyIn_ready (rs := [4]) (by kernel_rfl) (by simp) ?_
                refine AllReadyIn.cons rfl (fun K hK => ?_) AllReadyIn.nil
                go_simp
                gi_wp2
                refine wpAnyIn_ready (rs := [5]) (by kernel_rfl) (by simp) ?_
                refine AllReadyIn.cons rfl (fun K hK => ?_) AllReadyIn.nil
                go_simp
                refine hK _ _ ?_
                clear hK K
                refine wpAnyIn_ready (rs := [6]) (by kernel_rfl) (by simp) ?_
                refine AllReadyIn.cons rfl (fun K hK => ?_) AllReadyIn.nil
                go_simp
                refine hK _ _ ?_
                clear hK K
                refine wpAnyIn_ready (rs := [7]) (by kernel_rfl) (by simp) ?_
                refine AllReadyIn.cons rfl (fun K hK => ?_) AllReadyIn.nil
                go_simp
                refine hK _ _ ?_
                clear hK K
                refine wpAnyIn_ready (rs := [8]) (by kernel_rfl) (by simp) ?_
                refine AllReadyIn.cons rfl (fun K hK => ?_) AllReadyIn.nil
                refine op_append rfl _ _ _ rfl _ _ _ rfl rfl hrun ?_
                refine hK _ _ ?_
                clear hK K
                refine wpAnyIn_ready (rs := [9]) (by kernel_rfl) (by simp) ?_
                refine AllReadyIn.cons rfl (fun K hK => ?_) AllReadyIn.nil
                go_simp
                refine hK _ _ ?_
                clear hK K
                refine wpAnyIn_done (by kernel_rfl) ?_ _
                gi_wp2
                refine ⟨F3.out, F2.out, ?_⟩
                show Inn W.heap.size l ol n₀ BO _ oc W J Ds ((hlist ra rl rc hd ((numsOf (pre ++ [⟨(k : Int), hx⟩])).foldl comeN (ordL X r i))).drop (i + 1)) ((numsOf (pre ++ [⟨(k : Int), hx⟩])).foldl comeN (ordL X r i)) _
                rw [HSN.out, HC.out]
                exact F1.out
              refine AllReadyIn.cons rfl (fun K hK => ?_) AllReadyIn.nil
              go_simp
              refine hK _ _ ?_
              clear hK K
              refine wpAnyIn_ready (rs := [1, 3]) (by kernel_rfl) (by simp) ?_
              refine AllReadyIn.cons rfl (fun K hK => ?_) ?_
              · go_simp
                refine hK _ _ ?_
                clear hK K
                refine wpAnyIn_ready (rs := [3]) (by kernel_rfl) (by simp) ?_
                refine AllReadyIn.cons rfl (fun K hK => ?_) AllReadyIn.nil
                go_simp
                refine hK _ _ ?_
                clear hK K
                refine wpAnyIn_ready (rs := [4]) (by kernel_rfl) (by simp) ?_
                refine AllReadyIn.cons rfl (fun K hK => ?_) AllReadyIn.nil
                go_simp
                gi_wp2
                refine wpAnyIn_ready (rs := [5]) (by kernel_rfl) (by simp) ?_
                refine AllReadyIn.cons rfl (fun K hK => ?_) AllReadyIn.nil
                go_simp
                refine hK _ _ ?_
                clear hK K
                refine wpAnyIn_ready (rs := [6]) (by kernel_rfl) (by simp) ?_
                refine AllReadyIn.cons rfl (fun K hK => ?_) AllReadyIn.nil
                go_simp
                refine hK _ _ ?_
                clear hK K
                refine wpAnyIn_ready (rs := [7]) (by kernel_rfl) (by simp) ?_
                refine AllReadyIn.cons rfl (fun K hK => ?_) AllReadyIn.nil
                go_simp
                refine hK _ _ ?_
                clear hK K
                refine wpAnyIn_ready (rs := [8]) (by kernel_rfl) (by simp) ?_
                refine AllReadyIn.cons rfl (fun K hK => ?_) AllReadyIn.nil
                refine op_append rfl _ _ _ rfl _ _ _ rfl rfl hrun ?_
                refine hK _ _ ?_
                clear hK K
                refine wpAnyIn_ready (rs := [9]) (by kernel_rfl) (by simp) ?_
                refine AllReadyIn.cons rfl (fun K hK => ?_) AllReadyIn.nil
                go_simp
                refine hK _ _ ?_
                clear hK K
                refine wpAnyIn_done (by kernel_rfl) ?_ _
                gi_wp2
                refine ⟨F3.out, F2.out, ?_⟩
                show Inn W.heap.size l ol n₀ BO _ oc W J Ds ((hlist ra rl rc hd ((numsOf (pre ++ [⟨(k : Int), hx⟩])).foldl comeN (ordL X r i))).drop (i + 1)) ((numsOf (pre ++ [⟨(k : Int), hx⟩])).foldl comeN (ordL X r i)) _
                rw [HSN.out, HC.out]
                exact F1.out
              refine AllReadyIn.cons rfl (fun K hK => ?_) AllReadyIn.nil
              go_simp
              refine hK _ _ ?_
              clear hK K
              refine wpAnyIn_ready (rs := [1]) (by kernel_rfl) (by simp) ?_
              refine AllReadyIn.cons rfl (fun K hK => ?_) AllReadyIn.nil
              go_simp
              refine hK _ _ ?_
              clear hK K
              refine wpAnyIn_ready (rs := [4]) (by kernel_rfl) (by simp) ?_
              refine AllReadyIn.cons rfl (fun K hK => ?_) AllReadyIn.nil
              go_simp
              gi_wp2
              refine wpAnyIn_ready (rs := [5]) (by kernel_rfl) (by simp) ?_
              refine AllReadyIn.cons rfl (fun K hK => ?_) AllReadyIn.nil
              go_simp
              refine hK _ _ ?_
              clear hK K
              refine wpAnyIn_ready (rs := [6]) (by kernel_rfl) (by simp) ?_
              refine AllReadyIn.cons rfl (fun K hK => ?_) AllReadyIn.nil
              go_simp
              refine hK _ _ ?_
              clear hK K
              refine wpAnyIn_ready (rs := [7]) (by kernel_rfl) (by simp) ?_
              refine AllReadyIn.cons rfl (fun K hK => ?_) AllReadyIn.nil
              go_simp
              refine hK _ _ ?_
              clear hK K
              refine wpAnyIn_ready (rs := [8]) (by kernel_rfl) (by simp) ?_
              refine AllReadyIn.cons rfl (fun K hK => ?_) AllReadyIn.nil
              refine op_append rfl _ _ _ rfl _ _ _ rfl rfl hrun ?_
              refine hK _ _ ?_
              clear hK K
              refine wpAnyIn_ready (rs := [9]) (by kernel_rfl) (by simp) ?_
              refine AllReadyIn.cons rfl (fun K hK => ?_) AllReadyIn.nil
              go_simp
              refine hK _ _ ?_
              clear hK K
              refine wpAnyIn_done (by kernel_rfl) ?_ _
              gi_wp2
              refine ⟨F3.out, F2.out, ?_⟩
              show Inn W.heap.size l ol n₀ BO _ oc W J Ds ((hlist ra rl rc hd ((numsOf (pre ++ [⟨(k : Int), hx⟩])).foldl comeN (ordL X r i))).drop (i + 1)) ((numsOf (pre ++ [⟨(k : Int), hx⟩])).foldl comeN (ordL X r i)) _
              rw [HSN.out, HC.out]
              exact F1.out
            refine AllReadyIn.cons rfl (fun K hK => ?_) ?_
            · go_simp
              refine hK _ _ ?_
              clear hK K
              refine wpAnyIn_ready (rs := [0, 2]) (by kernel_rfl) (by simp) ?_
              refine AllReadyIn.cons rfl (fun K hK => ?_) ?_
              · go_simp
                refine hK _ _ ?_
                clear hK K
                refine wpAnyIn_ready (rs := [2]) (by kernel_rfl) (by simp) ?_
                refine AllReadyIn.cons rfl (fun K hK => ?_) AllReadyIn.nil
                go_simp
                refine hK _ _ ?_
                clear hK K
                refine wpAnyIn_ready (rs := [3]) (by kernel_rfl) (by simp) ?_
                refine AllReadyIn.cons rfl (fun K hK => ?_) AllReadyIn.nil
                go_simp
                refine hK _ _ ?_
                clear hK K
                refine wpAnyIn_ready (rs := [4]) (by kernel_rfl) (by simp) ?_
                refine AllReadyIn.cons rfl (fun K hK => ?_) AllReadyIn.nil
                go_simp
                gi_wp2
                refine wpAnyIn_ready (rs := [5]) (by kernel_rfl) (by simp) ?_
                refine AllReadyIn.cons rfl (fun K hK => ?_) AllReadyIn.nil
                go_simp
                refine hK _ _ ?_
                clear hK K
                refine wpAnyIn_ready (rs := [6]) (by kernel_rfl) (by simp) ?_
                refine AllReadyIn.cons rfl (fun K hK => ?_) AllReadyIn.nil
                go_simp
                refine hK _ _ ?_
                clear hK K
                refine wpAnyIn_ready (rs := [7]) (by kernel_rfl) (by simp) ?_
                refine AllReadyIn.cons rfl (fun K hK => ?_) AllReadyIn.nil
                go_simp
                refine hK _ _ ?_
                clear hK K
                refine wpAnyIn_ready (rs := [8]) (by kernel_rfl) (by simp) ?_
                refine AllReadyIn.cons rfl (fun K hK => ?_) AllReadyIn.nil
                refine op_append rfl _ _ _ rfl _ _ _ rfl rfl hrun ?_
                refine hK _ _ ?_
                clear hK K
                refine wpAnyIn_ready (rs := [9]) (by kernel_rfl) (by simp) ?_
                refine AllReadyIn.cons rfl (fun K hK => ?_) AllReadyIn.nil
                go_simp
                refine hK _ _ ?_
                clear hK K
                refine wpAnyIn_done (by kernel_rfl) ?_ _
                gi_wp2
                refine ⟨F3.out, F2.out, ?_⟩
                show Inn W.heap.size l ol n₀ BO _ oc W J Ds ((hlist ra rl rc hd ((numsOf (pre ++ [⟨(k : Int), hx⟩])).foldl comeN (ordL X r i))).drop (i + 1)) ((numsOf (pre ++ [⟨(k : Int), hx⟩])).foldl comeN (ordL X r i)) _
                rw [HSN.out, HC.out]
                exact F1.out
              refine AllReadyIn.cons rfl (fun K hK => ?_) AllReadyIn.nil
              go_simp
              refine hK _ _ ?_
              clear hK K
              refine wpAnyIn_ready (rs := [0, 3]) (by kernel_rfl) (by simp) ?_
              refine AllReadyIn.cons rfl (fun K hK => ?_) ?_
              · go_simp
                refine hK _ _ ?_
                clear hK K
                refine wpAnyIn_ready (rs := [3]) (by kernel_rfl) (by simp) ?_
                refine AllReadyIn.cons rfl (fun K hK => ?_) AllReadyIn.nil
                go_simp
                refine hK _ _ ?_
                clear hK K
                refine wpAnyIn_ready (rs := [4]) (by kernel_rfl) (by simp) ?_
                refine AllReadyIn.cons rfl (fun K hK => ?_) AllReadyIn.nil
                go_simp
                gi_wp2
                refine wpAnyIn_ready (rs := [5]) (by kernel_rfl) (by simp) ?_
                refine AllReadyIn.cons rfl (fun K hK => ?_) AllReadyIn.nil
                go_simp
                refine hK _ _ ?_
                clear hK K
                refine wpAnyIn_ready (rs := [6]) (by kernel_rfl) (by simp) ?_
                refine AllReadyIn.cons rfl (fun K hK => ?_) AllReadyIn.nil
                go_simp
                refine hK _ _ ?_
                clear hK K
                refine wpAnyIn_ready (rs := [7]) (by kernel_rfl) (by simp) ?_
                refine AllReadyIn.cons rfl (fun K hK => ?_) AllReadyIn.nil
                go_simp
                refine hK _ _ ?_
                clear hK K
                refine wpAnyIn_ready (rs := [8]) (by kernel_rfl) (by simp) ?_
                refine AllReadyIn.cons rfl (fun K hK => ?_) AllReadyIn.nil
                refine op_append rfl _ _ _ rfl _ _ _ rfl rfl hrun ?_
                refine hK _ _ ?_
                clear hK K
                refine wpAnyIn_ready (rs := [9]) (by kernel_rfl) (by simp) ?_
                refine AllReadyIn.cons rfl (fun K hK => ?_) AllReadyIn.nil
                go_simp
                refine hK _ _ ?_
                clear hK K
                refine wpAnyIn_done (by kernel_rfl) ?_ _
                gi_wp2
                refine ⟨F3.out, F2.out, ?_⟩
                show Inn W.heap.size l ol n₀ BO _ oc W J Ds ((hlist ra rl rc hd ((numsOf (pre ++ [⟨(k : Int), hx⟩])).foldl comeN (ordL X r i))).drop (i + 1)) ((numsOf (pre ++ [⟨(k : Int), hx⟩])).foldl comeN (ordL X r i)) _
                rw [HSN.out, HC.out]
                exact F1.out
              refine AllReadyIn.cons rfl (fun K hK => ?_) AllReadyIn.nil
              go_simp
              refine hK _ _ ?_
              clear hK K
              refine wpAnyIn_ready (rs := [0, 4]) (by kernel_rfl) (by simp) ?_
              refine AllReadyIn.cons rfl (fun K hK => ?_) ?_
              · go_simp
                refine hK _ _ ?_
                clear hK K
                refine wpAnyIn_ready (rs := [4]) (by kernel_rfl) (by simp) ?_
                refine AllReadyIn.cons rfl (fun K hK => ?_) AllReadyIn.nil
                go_simp
                gi_wp2
                refine wpAnyIn_ready (rs := [5]) (by kernel_rfl) (by simp) ?_
                refine AllReadyIn.cons rfl (fun K hK => ?_) AllReadyIn.nil
                go_simp
                refine hK _ _ ?_
                clear hK K
                refine wpAnyIn_ready (rs := [6]) (by kernel_rfl) (by simp) ?_
                refine AllReadyIn.cons rfl (fun K hK => ?_) AllReadyIn.nil
                go_simp
                refine hK _ _ ?_
                clear hK K
                refine wpAnyIn_ready (rs := [7]) (by kernel_rfl) (by simp) ?_
                refine AllReadyIn.cons rfl (fun K hK => ?_) AllReadyIn.nil
                go_simp
                refine hK _ _ ?_
                clear hK K
                refine wpAnyIn_ready (rs := [8]) (by kernel_rfl) (by simp) ?_
                refine AllReadyIn.cons rfl (fun K hK => ?_) AllReadyIn.nil
                refine op_append rfl _ _ _ rfl _ _ _ rfl rfl hrun ?_
                refine hK _ _ ?_
                clear hK K
                refine wpAnyIn_ready (rs := [9]) (by kernel_rfl) (by simp) ?_
                refine AllReadyIn.cons rfl (fun K hK => ?_) AllReadyIn.nil
                go_simp
                refine hK _ _ ?_
                clear hK K
                refine wpAnyIn_done (by kernel_rfl) ?_ _
                gi_wp2
                refine ⟨F3.out, F2.out, ?_⟩
                show Inn W.heap.size l ol n₀ BO _ oc W J Ds ((hlist ra rl rc hd ((numsOf (pre ++ [⟨(k : Int), hx⟩])).foldl comeN (ordL X r i))).drop (i + 1)) ((numsOf (pre ++ [⟨(k : Int), hx⟩])).foldl comeN (ordL X r i)) _
                rw [HSN.out, HC.out]
                exact F1.out
              refine AllReadyIn.cons rfl (fun K hK => ?_) AllReadyIn.nil
              go_simp
              gi_wp2
              refine wpAnyIn_ready (rs := [0, 5]) (by kernel_rfl) (by simp) ?_
              refine AllReadyIn.cons rfl (fun K hK => ?_) ?_
              · go_simp
                refine hK _ _ ?_
                clear hK K
                refine wpAnyIn_ready (rs := [5]) (by kernel_rfl) (by simp) ?_
                refine AllReadyIn.cons rfl (fun K hK => ?_) AllReadyIn.nil
                go_simp
                refine hK _ _ ?_
                clear hK K
                refine wpAnyIn_ready (rs := [6]) (by kernel_rfl) (by simp) ?_
                refine AllReadyIn.cons rfl (fun K hK => ?_) AllReadyIn.nil
                go_simp
                refine hK _ _ ?_
                clear hK K
                refine wpAnyIn_ready (rs := [7]) (by kernel_rfl) (by simp) ?_
                refine AllReadyIn.cons rfl (fun K hK => ?_) AllReadyIn.nil
                go_simp
                refine hK _ _ ?_
                clear hK K
                refine wpAnyIn_ready (rs := [8]) (by kernel_rfl) (by simp) ?_
                refine AllReadyIn.cons rfl (fun K hK => ?_) AllReadyIn.nil
                refine op_append rfl _ _ _ rfl _ _ _ rfl rfl hrun ?_
                refine hK _ _ ?_
                clear hK K
                refine wpAnyIn_ready (rs := [9]) (by kernel_rfl) (by simp) ?_
                refine AllReadyIn.cons rfl (fun K hK => ?_) AllReadyIn.nil
                go_simp
                refine hK _ _ ?_
                clear hK K
                refine wpAnyIn_done (by kernel_rfl) ?_ _
                gi_wp2
                refine ⟨F3.out, F2.out, ?_⟩
                show Inn W.heap.size l ol n₀ BO _ oc W J Ds ((hlist ra rl rc hd ((numsOf (pre ++ [⟨(k : Int), hx⟩])).foldl comeN (ordL X r i))).drop (i + 1)) ((numsOf (pre ++ [⟨(k : Int), hx⟩])).foldl comeN (ordL X r i)) _
                rw [HSN.out, HC.out]
                exact F1.out
              refine AllReadyIn.cons rfl (fun K hK => ?_) AllReadyIn.nil
              go_simp
              refine hK _ _ ?_
              clear hK K
              refine wpAnyIn_ready (rs := [0, 6]) (by kernel_rfl) (by simp) ?_
              refine AllReadyIn.cons rfl (fun K hK => ?_) ?_
              · go_simp
                refine hK _ _ ?_
                clear hK K
                refine wpAnyIn_ready (rs := [6]) (by kernel_rfl) (by simp) ?_
                refine AllReadyIn.cons rfl (fun K hK => ?_) AllReadyIn.nil
                go_simp
                refine hK _ _ ?_
                clear hK K
                refine wpAnyIn_ready (rs := [7]) (by kernel_rfl) (by simp) ?_
                refine AllReadyIn.cons rfl (fun K hK => ?_) AllReadyIn.nil
                go_simp
                refine hK _ _ ?_
                clear hK K
                refine wpAnyIn_ready (rs := [8]) (by kernel_rfl) (by simp) ?_
                refine AllReadyIn.cons rfl (fun K hK => ?_) AllReadyIn.nil
                refine op_append rfl _ _ _ rfl _ _ _ rfl rfl hrun ?_
                refine hK _ _ ?_
                clear hK K
                refine wpAnyIn_ready (rs := [9]) (by kernel_rfl) (by simp) ?_
                refine AllReadyIn.cons rfl (fun K hK => ?_) AllReadyIn.nil
                go_simp
                refine hK _ _ ?_
                clear hK K
                refine wpAnyIn_done (by kernel_rfl) ?_ _
                gi_wp2
                refine ⟨F3.out, F2.out, ?_⟩
                show Inn W.heap.size l ol n₀ BO _ oc W J Ds ((hlist ra rl rc hd ((numsOf (pre ++ [⟨(k : Int), hx⟩])).foldl comeN (ordL X r i))).drop (i + 1)) ((numsOf (pre ++ [⟨(k : Int), hx⟩])).foldl comeN (ordL X r i)) _
                rw [HSN.out, HC.out]
                exact F1.out
              refine AllReadyIn.cons rfl (fun K hK => ?_) AllReadyIn.nil
              go_simp
              refine hK _ _ ?_
              clear hK K
              refine wpAnyIn_ready (rs := [0, 7]) (by kernel_rfl) (by simp) ?_
              refine AllReadyIn.cons rfl (fun K hK => ?_) ?_
              · go_simp
                refine hK _ _ ?_
                clear hK K
                refine wpAnyIn_ready (rs := [7]) (by kernel_rfl) (by simp) ?_
                refine AllReadyIn.cons rfl (fun K hK => ?_) AllReadyIn.nil
                go_simp
                refine hK _ _ ?_
                clear hK K
                refine wpAnyIn_ready (rs := [8]) (by kernel_rfl) (by simp) ?_
                refine AllReadyIn.cons rfl (fun K hK => ?_) AllReadyIn.nil
                refine op_append rfl _ _ _ rfl _ _ _ rfl rfl hrun ?_
                refine hK _ _ ?_
                clear hK K
                refine wpAnyIn_ready (rs := [9]) (by kernel_rfl) (by simp) ?_
                refine AllReadyIn.cons rfl (fun K hK => ?_) AllReadyIn.nil
                go_simp
                refine hK _ _ ?_
                clear hK K
                refine wpAnyIn_done (by kernel_rfl) ?_ _
                gi_wp2
                refine ⟨F3.out, F2.out, ?_⟩
                show Inn W.heap.size l ol n₀ BO _ oc W J Ds ((hlist ra rl rc hd ((numsOf (pre ++ [⟨(k : Int), hx⟩])).foldl comeN (ordL X r i))).drop (i + 1)) ((numsOf (pre ++ [⟨(k : Int), hx⟩])).foldl comeN (ordL X r i)) _
                rw [HSN.out, HC.out]
                exact F1.out
              refine AllReadyIn.cons rfl (fun K hK => ?_) AllReadyIn.nil
              go_simp
              refine hK _ _ ?_
              clear hK K
              refine wpAnyIn_ready (rs := [0]) (by kernel_rfl) (by simp) ?_
              refine AllReadyIn.cons rfl (fun K hK => ?_) AllReadyIn.nil
              go_simp
              refine hK _ _ ?_
              clear hK K
              refine wpAnyIn_ready (rs := [8]) (by kernel_rfl) (by simp) ?_
              refine AllReadyIn.cons rfl (fun K hK => ?_) AllReadyIn.nil
              refine op_append rfl _ _ _ rfl _ _ _ rfl rfl hrun ?_
              refine hK _ _ ?_
              clear hK K
              refine wpAnyIn_ready (rs := [9]) (by kernel_rfl) (by simp) ?_
              refine AllReadyIn.cons rfl (fun K hK => ?_) AllReadyIn.nil
              go_simp
              refine hK _ _ ?_
              clear hK K
              refine wpAnyIn_done (by kernel_rfl) ?_ _
              gi_wp2
              refine ⟨F3.out, F2.out, ?_⟩
              show Inn W.heap.size l ol n₀ BO _ oc W J Ds ((hlist ra rl rc hd ((numsOf (pre ++ [⟨(k : Int), hx⟩])).foldl comeN (ordL X r i))).drop (i + 1)) ((numsOf (pre ++ [⟨(k : Int), hx⟩])).foldl comeN (ordL X r i)) _
              rw [HSN.out, HC.out]
              exact F1.out
            refine AllReadyIn.cons rfl (fun K hK => ?_) AllReadyIn.nil
            go_simp
            refine hK _ _ ?_
            clear hK K
            refine wpAnyIn_ready (rs := [0, 1, 3]) (by kernel_rfl) (by simp) ?_
            refine AllReadyIn.cons rfl (fun K hK => ?_) ?_
            · go_simp
              refine hK _ _ ?_
              clear hK K
              refine wpAnyIn_ready (rs := [1, 3]) (by kernel_rfl) (by simp) ?_
              refine AllReadyIn.cons rfl (fun K hK => ?_) ?_
              · go_simp
                refine hK _ _ ?_
                clear hK K
                refine wpAnyIn_ready (rs := [3]) (by kernel_rfl) (by simp) ?_
                refine AllReadyIn.cons rfl (fun K hK => ?_) AllReadyIn.nil
                go_simp
                refine hK _ _ ?_
                clear hK K
                refine wpAnyIn_ready (rs := [4]) (by kernel_rfl) (by simp) ?_
                refine AllReadyIn.cons rfl (fun K hK => ?_) AllReadyIn.nil
                go_simp
                gi_wp2
                refine wpAnyIn_ready (rs := [5]) (by kernel_rfl) (by simp) ?_
                refine AllReadyIn.cons rfl (fun K hK => ?_) AllReadyIn.nil
                go_simp
                refine hK _ _ ?_
                clear hK K
                refine wpAnyIn_ready (rs := [6]) (by kernel_rfl) (by simp) ?_
                refine AllReadyIn.cons rfl (fun K hK => ?_) AllReadyIn.nil
                go_simp
                refine hK _ _ ?_
                clear hK K
                refine wpAnyIn_ready (rs := [7]) (by kernel_rfl) (by simp) ?_
                refine AllReadyIn.cons rfl (fun K hK => ?_) AllReadyIn.nil
                go_simp
                refine hK _ _ ?_
                clear hK K
                refine wpAnyIn_ready (rs := [8]) (by kernel_rfl) (by simp) ?_
                refine AllReadyIn.cons rfl (fun K hK => ?_) AllReadyIn.nil
                refine op_append rfl _ _ _ rfl _ _ _ rfl rfl hrun ?_
                refine hK _ _ ?_
                clear hK K
                refine wpAnyIn_ready (rs := [9]) (by kernel_rfl) (by simp) ?_
                refine AllReadyIn.cons rfl (fun K hK => ?_) AllReadyIn.nil
                go_simp
                refine hK _ _ ?_
                clear hK K
                refine wpAnyIn_done (by kernel_rfl) ?_ _
                gi_wp2
                refine ⟨F3.out, F2.out, ?_⟩
                show Inn W.heap.size l ol n₀ BO _ oc W J Ds ((hlist ra rl rc hd ((numsOf (pre ++ [⟨(k : Int), hx⟩])).foldl comeN (ordL X r i))).drop (i + 1)) ((numsOf (pre ++ [⟨(k : Int), hx⟩])).foldl comeN (ordL X r i)) _
                rw [HSN.out, HC.out]
                exact F1.out
              refine AllReadyIn.cons rfl (fun K hK => ?_) AllReadyIn.nil
              go_simp
              refine hK _ _ ?_
              clear hK K
              refine wpAnyIn_ready (rs := [1]) (by kernel_rfl) (by simp) ?_
              refine AllReadyIn.cons rfl (fun K hK => ?_) AllReadyIn.nil
              go_simp
              refine hK _ _ ?_
              clear hK K
              refine wpAnyIn_ready (rs := [4]) (by kernel_rfl) (by simp) ?_
              refine AllReadyIn.cons rfl (fun K hK => ?_) AllReadyIn.nil
              go_simp
              gi_wp2
              refine wpAnyIn_ready (rs := [5]) (by kernel_rfl) (by simp) ?_
              refine AllReadyIn.cons rfl (fun K hK => ?_) AllReadyIn.nil
              go_simp
              refine hK _ _ ?_
              clear hK K
              refine wpAnyIn_ready (rs := [6]) (by kernel_rfl) (by simp) ?_
              refine AllReadyIn.cons rfl (fun K hK => ?_) AllReadyIn.nil
              go_simp
              refine hK _ _ ?_
              clear hK K
              refine wpAnyIn_ready (rs := [7]) (by kernel_rfl) (by simp) ?_
              refine AllReadyIn.cons rfl (fun K hK => ?_) AllReadyIn.nil
              go_simp
              refine hK _ _ ?_
              clear hK K
              refine wpAnyIn_ready (rs := [8]) (by kernel_rfl) (by simp) ?_
              refine AllReadyIn.cons rfl (fun K hK => ?_) AllReadyIn.nil
              refine op_append rfl _ _ _ rfl _ _ _ rfl rfl hrun ?_
              refine hK _ _ ?_
              clear hK K
              refine wpAnyIn_ready (rs := [9]) (by kernel_rfl) (by simp) ?_
              refine AllReadyIn.cons rfl (fun K hK => ?_) AllReadyIn.nil
              go_simp
              refine hK _ _ ?_
              clear hK K
              refine wpAnyIn_done (by kernel_rfl) ?_ _
              gi_wp2
              refine ⟨F3.out, F2.out, ?_⟩
              show Inn W.heap.size l ol n₀ BO _ oc W J Ds ((hlist ra rl rc hd ((numsOf (pre ++ [⟨(k : Int), hx⟩])).foldl comeN (ordL X r i))).drop (i + 1)) ((numsOf (pre ++ [⟨(k : Int), hx⟩])).foldl comeN (ordL X r i)) _
              rw [HSN.out, HC.out]
              exact F1.out
            refine AllReadyIn.cons rfl (fun K hK => ?_) ?_
            · go_simp
              refine hK _ _ ?_
              clear hK K
              refine wpAnyIn_ready (rs := [0, 3]) (by kernel_rfl) (by simp) ?_
              refine AllReadyIn.cons rfl (fun K hK => ?_) ?_
              · go_simp
                refine hK _ _ ?_
                clear hK K
                refine wpAnyIn_ready (rs := [3]) (by kernel_rfl) (by simp) ?_
                refine AllReadyIn.cons rfl (fun K hK => ?_) AllReadyIn.nil
                go_simp
                refine hK _ _ ?_
                clear hK K
                refine wpAnyIn_ready (rs := [4]) (by kernel_rfl) (by simp) ?_
                refine AllReadyIn.cons rfl (fun K hK => ?_) AllReadyIn.nil
                go_simp
                gi_wp2
                refine wpAnyIn_ready (rs := [5]) (by kernel_rfl) (by simp) ?_
                refine AllReadyIn.cons rfl (fun K hK => ?_) AllReadyIn.nil
                go_simp
                refine hK _ _ ?_
                clear hK K
                refine wpAnyIn_ready (rs := [6]) (by kernel_rfl) (by simp) ?_
                refine AllReadyIn.cons rfl (fun K hK => ?_) AllReadyIn.nil
                go_simp
                refine hK _ _ ?_
                clear hK K
                refine wpAnyIn_ready (rs := [7]) (by kernel_rfl) (by simp) ?_
                refine AllReadyIn.cons rfl (fun K hK => ?_) AllReadyIn.nil
                go_simp
                refine hK _ _ ?_
                clear hK K
                refine wpAnyIn_ready (rs := [8]) (by kernel_rfl) (by simp) ?_
                refine AllReadyIn.cons rfl (fun K hK => ?_) AllReadyIn.nil
                refine op_append rfl _ _ _ rfl _ _ _ rfl rfl hrun ?_
                refine hK _ _ ?_
                clear hK K
                refine wpAnyIn_ready (rs := [9]) (by kernel_rfl) (by simp) ?_
                refine AllReadyIn.cons rfl (fun K hK => ?_) AllReadyIn.nil
                go_simp
                refine hK _ _ ?_
                clear hK K
                refine wpAnyIn_done (by kernel_rfl) ?_ _
                gi_wp2
                refine ⟨F3.out, F2.out, ?_⟩
                show Inn W.heap.size l ol n₀ BO _ oc W J Ds ((hlist ra rl rc hd ((numsOf (pre ++ [⟨(k : Int), hx⟩])).foldl comeN (ordL X r i))).drop (i + 1)) ((numsOf (pre ++ [⟨(k : Int), hx⟩])).foldl comeN (ordL X r i)) _
                rw [HSN.out, HC.out]
                exact F1.out
              refine AllReadyIn.cons rfl (fun K hK => ?_) AllReadyIn.nil
              go_simp
              refine hK _ _ ?_
              clear hK K
              refine wpAnyIn_ready (rs := [0, 4]) (by kernel_rfl) (by simp) ?_
              refine AllReadyIn.cons rfl (fun K hK => ?_) ?_
              · go_simp
                refine hK _ _ ?_
                clear hK K
                refine wpAnyIn_ready (rs := [4]) (by kernel_rfl) (by simp) ?_
                refine AllReadyIn.cons rfl (fun K hK => ?_) AllReadyIn.nil
                go_simp
                gi_wp2
                refine wpAnyIn_ready (rs := [5]) (by kernel_rfl) (by simp) ?_
                refine AllReadyIn.cons rfl (fun K hK => ?_) AllReadyIn.nil
                go_simp
                refine hK _ _ ?_
                clear hK K
                refine wpAnyIn_ready (rs := [6]) (by kernel_rfl) (by simp) ?_
                refine AllReadyIn.cons rfl (fun K hK => ?_) AllReadyIn.nil
                go_simp
                refine hK _ _ ?_
                clear hK K
                refine wpAnyIn_ready (rs := [7]) (by kernel_rfl) (by simp) ?_
                refine AllReadyIn.cons rfl (fun K hK => ?_) AllReadyIn.nil
                go_simp
                refine hK _ _ ?_
                clear hK K
                refine wpAnyIn_ready (rs := [8]) (by kernel_rfl) (by simp) ?_
                refine AllReadyIn.cons rfl (fun K hK => ?_) AllReadyIn.nil
                refine op_append rfl _ _ _ rfl _ _ _ rfl rfl hrun ?_
                refine hK _ _ ?_
                clear hK K
                refine wpAnyIn_ready (rs := [9]) (by kernel_rfl) (by simp) ?_
                refine AllReadyIn.cons rfl (fun K hK => ?_) AllReadyIn.nil
                go_simp
                refine hK _ _ ?_
                clear hK K
                refine wpAnyIn_done (by kernel_rfl) ?_ _
                gi_wp2
                refine ⟨F3.out, F2.out, ?_⟩
                show Inn W.heap.size l ol n₀ BO _ oc W J Ds ((hlist ra rl rc hd ((numsOf (pre ++ [⟨(k : Int), hx⟩])).foldl comeN (ordL X r i))).drop (i + 1)) ((numsOf (pre ++ [⟨(k : Int), hx⟩])).foldl comeN (ordL X r i)) _
                rw [HSN.out, HC.out]
                exact F1.out
              refine AllReadyIn.cons rfl (fun K hK => ?_) AllReadyIn.nil
              go_simp
              gi_wp2
              refine wpAnyIn_ready (rs := [0, 5]) (by kernel_rfl) (by simp) ?_
              refine AllReadyIn.cons rfl (fun K hK => ?_) ?_
              · go_simp
                refine hK _ _ ?_
                clear hK K
                refine wpAnyIn_ready (rs := [5]) (by kernel_rfl) (by simp) ?_
                refine AllReadyIn.cons rfl (fun K hK => ?_) AllReadyIn.nil
                go_simp
                refine hK _ _ ?_
                clear hK K
                refine wpAnyIn_ready (rs := [6]) (by kernel_rfl) (by simp) ?_
                refine AllReadyIn.cons rfl (fun K hK => ?_) AllReadyIn.nil
                go_simp
                refine hK _ _ ?_
                clear hK K
                refine wpAnyIn_ready (rs := [7]) (by kernel_rfl) (by simp) ?_
                refine AllReadyIn.cons rfl (fun K hK => ?_) AllReadyIn.nil
                go_simp
                refine hK _ _ ?_
                clear hK K
                refine wpAnyIn_ready (rs := [8]) (by kernel_rfl) (by simp) ?_
                refine AllReadyIn.cons rfl (fun K hK => ?_) AllReadyIn.nil
                refine op_append rfl _ _ _ rfl _ _ _ rfl rfl hrun ?_
                refine hK _ _ ?_
                clear hK K
                refine wpAnyIn_ready (rs := [9]) (by kernel_rfl) (by simp) ?_
                refine AllReadyIn.cons rfl (fun K hK => ?_) AllReadyIn.nil
                go_simp
                refine hK _ _ ?_
                clear hK K
                refine wpAnyIn_done (by kernel_rfl) ?_ _
                gi_wp2
                refine ⟨F3.out, F2.out, ?_⟩
                show Inn W.heap.size l ol n₀ BO _ oc W J Ds ((hlist ra rl rc hd ((numsOf (pre ++ [⟨(k : Int), hx⟩])).foldl comeN (ordL X r i))).drop (i + 1)) ((numsOf (pre ++ [⟨(k : Int), hx⟩])).foldl comeN (ordL X r i)) _
                rw [HSN.out, HC.out]
                exact F1.out
              refine AllReadyIn.cons rfl (fun K hK => ?_) AllReadyIn.nil
              go_simp
              refine hK _ _ ?_
              clear hK K
              refine wpAnyIn_ready (rs := [0, 6]) (by kernel_rfl) (by simp) ?_
              refine AllReadyIn.cons rfl (fun K hK => ?_) ?_
              · go_simp
                refine hK _ _ ?_
                clear hK K
                refine wpAnyIn_ready (rs := [6]) (by kernel_rfl) (by simp) ?_
                refine AllReadyIn.cons rfl (fun K hK => ?_) AllReadyIn.nil
                go_simp
                refine hK _ _ ?_
                clear hK K
                refine wpAnyIn_ready (rs := [7]) (by kernel_rfl) (by simp) ?_
                refine AllReadyIn.cons rfl (fun K hK => ?_) AllReadyIn.nil
                go_simp
                refine hK _ _ ?_
                clear hK K
                refine wpAnyIn_ready (rs := [8]) (by kernel_rfl) (by simp) ?_
                refine AllReadyIn.cons rfl (fun K hK => ?_) AllReadyIn.nil
                refine op_append rfl _ _ _ rfl _ _ _ rfl rfl hrun ?_
                refine hK _ _ ?_
                clear hK K
                refine wpAnyIn_ready (rs := [9]) (by kernel_rfl) (by simp) ?_
                refine AllReadyIn.cons rfl (fun K hK => ?_) AllReadyIn.nil
                go_simp
                refine hK _ _ ?_
                clear hK K
                refine wpAnyIn_done (by kernel_rfl) ?_ _
                gi_wp2
                refine ⟨F3.out, F2.out, ?_⟩
                show Inn W.heap.size l ol n₀ BO _ oc W J Ds ((hlist ra rl rc hd ((numsOf (pre ++ [⟨(k : Int), hx⟩])).foldl comeN (ordL X r i))).drop (i + 1)) ((numsOf (pre ++ [⟨(k : Int), hx⟩])).foldl comeN (ordL X r i)) _
                rw [HSN.out, HC.out]
                exact F1.out
              refine AllReadyIn.cons rfl (fun K hK => ?_) AllReadyIn.nil
              go_simp
              refine hK _ _ ?_
              clear hK K
              refine wpAnyIn_ready (rs := [0, 7]) (by kernel_rfl) (by simp) ?_
              refine AllReadyIn.cons rfl (fun K hK => ?_) ?_
              · go_simp
                refine hK _ _ ?_
                clear hK K
                refine wpAnyIn_ready (rs := [7]) (by kernel_rfl) (by simp) ?_
                refine AllReadyIn.cons rfl (fun K hK => ?_) AllReadyIn.nil
                go_simp
                refine hK _ _ ?_
                clear hK K
                refine wpAnyIn_ready (rs := [8]) (by kernel_rfl) (by simp) ?_
                refine AllReadyIn.cons rfl (fun K hK => ?_) AllReadyIn.nil
                refine op_append rfl _ _ _ rfl _ _ _ rfl rfl hrun ?_
                refine hK _ _ ?_
                clear hK K
                refine wpAnyIn_ready (rs := [9]) (by kernel_rfl) (by simp) ?_
                refine AllReadyIn.cons rfl (fun K hK => ?_) AllReadyIn.nil
                go_simp
                refine hK _ _ ?_
                clear hK K
                refine wpAnyIn_done (by kernel_rfl) ?_ _
                gi_wp2
                refine ⟨F3.out, F2.out, ?_⟩
                show Inn W.heap.size l ol n₀ BO _ oc W J Ds ((hlist ra rl rc hd ((numsOf (pre ++ [⟨(k : Int), hx⟩])).foldl comeN (ordL X r i))).drop (i + 1)) ((numsOf (pre ++ [⟨(k : Int), hx⟩])).foldl comeN (ordL X r i)) _
                rw [HSN.out, HC.out]
                exact F1.out
              refine AllReadyIn.cons rfl (fun K hK => ?_) AllReadyIn.nil
              go_simp
              refine hK _ _ ?_
              clear hK K
              refine wpAnyIn_ready (rs := [0]) (by kernel_rfl) (by simp) ?_
              refine AllReadyIn.cons rfl (fun K hK => ?_) AllReadyIn.nil
              go_simp
              refine hK _ _ ?_
              clear hK K
              refine wpAnyIn_ready (rs := [8]) (by kernel_rfl) (by simp) ?_
              refine AllReadyIn.cons rfl (fun K hK => ?_) AllReadyIn.nil
              refine op_append rfl _ _ _ rfl _ _ _ rfl rfl hrun ?_
              refine hK _ _ ?_
              clear hK K
              refine wpAnyIn_ready (rs := [9]) (by kernel_rfl) (by simp) ?_
              refine AllReadyIn.cons rfl (fun K hK => ?_) AllReadyIn.nil
              go_simp
              refine hK _ _ ?_
              clear hK K
              refine wpAnyIn_done (by kernel_rfl) ?_ _
              gi_wp2
              refine ⟨F3.out, F2.out, ?_⟩
              show Inn W.heap.size l ol n₀ BO _ oc W J Ds ((hlist ra rl rc hd ((numsOf (pre ++ [⟨(k : Int), hx⟩])).foldl comeN (ordL X r i))).drop (i + 1)) ((numsOf (pre ++ [⟨(k : Int), hx⟩])).foldl comeN (ordL X r i)) _
              rw [HSN.out, HC.out]
              exact F1.out
            refine AllReadyIn.cons rfl (fun K hK => ?_) AllReadyIn.nil
            go_simp
            refine hK _ _ ?_
            clear hK K
            refine wpAnyIn_ready (rs := [0, 1]) (by kernel_rfl) (by simp) ?_
            refine AllReadyIn.cons rfl (fun K hK => ?_) ?_
            · go_simp
              refine hK _ _ ?_
              clear hK K
              refine wpAnyIn_ready (rs := [1]) (by kernel_rfl) (by simp) ?_
              refine AllReadyIn.cons rfl (fun K hK => ?_) AllReadyIn.nil
              go_simp
              refine hK _ _ ?_
              clear hK K
              refine wpAnyIn_ready (rs := [4]) (by kernel_rfl) (by simp) ?_
              refine AllReadyIn.cons rfl (fun K hK => ?_) AllReadyIn.nil
              go_simp
              gi_wp2
              refine wpAnyIn_ready (rs := [5]) (by kernel_rfl) (by simp) ?_
              refine AllReadyIn.cons rfl (fun K hK => ?_) AllReadyIn.nil
              go_simp
              refine hK _ _ ?_
              clear hK K
              refine wpAnyIn_ready (rs := [6]) (by kernel_rfl) (by simp) ?_
              refine AllReadyIn.cons rfl (fun K hK => ?_) AllReadyIn.nil
              go_simp
              refine hK _ _ ?_
              clear hK K
              refine wpAnyIn_ready (rs := [7]) (by kernel_rfl) (by simp) ?_
              refine AllReadyIn.cons rfl (fun K hK => ?_) AllReadyIn.nil
              go_simp
              refine hK _ _ ?_
              clear hK K
              refine wpAnyIn_ready (rs := [8]) (by kernel_rfl) (by simp) ?_
              refine AllReadyIn.cons rfl (fun K hK => ?_) AllReadyIn.nil
              refine op_append rfl _ _ _ rfl _ _ _ rfl rfl hrun ?_
              refine hK _ _ ?_
              clear hK K
              refine wpAnyIn_ready (rs := [9]) (by kernel_rfl) (by simp) ?_
              refine AllReadyIn.cons rfl (fun K hK => ?_) AllReadyIn.nil
              go_simp
              refine hK _ _ ?_
              clear hK K
              refine wpAnyIn_done (by kernel_rfl) ?_ _
              gi_wp2
              refine ⟨F3.out, F2.out, ?_⟩
              show Inn W.heap.size l ol n₀ BO _ oc W J Ds ((hlist ra rl rc hd ((numsOf (pre ++ [⟨(k : Int), hx⟩])).foldl comeN (ordL X r i))).drop (i + 1)) ((numsOf (pre ++ [⟨(k : Int), hx⟩])).foldl comeN (ordL X r i)) _
              rw [HSN.out, HC.out]
              exact F1.out
            refine AllReadyIn.cons rfl (fun K hK => ?_) AllReadyIn.nil
            go_simp
            refine hK _ _ ?_
            clear hK K
            refine wpAnyIn_ready (rs := [0, 4]) (by kernel_rfl) (by simp) ?_
            refine AllReadyIn.cons rfl (fun K hK => ?_) ?_
            · go_simp
              refine hK _ _ ?_
              clear hK K
              refine wpAnyIn_ready (rs := [4]) (by kernel_rfl) (by simp) ?_
              refine AllReadyIn.cons rfl (fun K hK => ?_) AllReadyIn.nil
              go_simp
              gi_wp2
              refine wpAnyIn_ready (rs := [5]) (by kernel_rfl) (by simp) ?_
              refine AllReadyIn.cons rfl (fun K hK => ?_) AllReadyIn.nil
              go_simp
              refine hK _ _ ?_
              clear hK K
              refine wpAnyIn_ready (rs := [6]) (by kernel_rfl) (by simp) ?_
              refine AllReadyIn.cons rfl (fun K hK => ?_) AllReadyIn.nil
              go_simp
              refine hK _ _ ?_
              clear hK K
              refine wpAnyIn_ready (rs := [7]) (by kernel_rfl) (by simp) ?_
              refine AllReadyIn.cons rfl (fun K hK => ?_) AllReadyIn.nil
              go_simp
              refine hK _ _ ?_
              clear hK K
              refine wpAnyIn_ready (rs := [8]) (by kernel_rfl) (by simp) ?_
              refine AllReadyIn.cons rfl (fun K hK => ?_) AllReadyIn.nil
              refine op_append rfl _ _ _ rfl _ _ _ rfl rfl hrun ?_
              refine hK _ _ ?_
              clear hK K
              refine wpAnyIn_ready (rs := [9]) (by kernel_rfl) (by simp) ?_
              refine AllReadyIn.cons rfl (fun K hK => ?_) AllReadyIn.nil
              go_simp
              refine hK _ _ ?_
              clear hK K
              refine wpAnyIn_done (by kernel_rfl) ?_ _
              gi_wp2
              refine ⟨F3.out, F2.out, ?_⟩
              show Inn W.heap.size l ol n₀ BO _ oc W J Ds ((hlist ra rl rc hd ((numsOf (pre ++ [⟨(k : Int), hx⟩])).foldl comeN (ordL X r i))).drop (i + 1)) ((numsOf (pre ++ [⟨(k : Int), hx⟩])).foldl comeN (ordL X r i)) _
              rw [HSN.out, HC.out]
              exact F1.out
            refine AllReadyIn.cons rfl (fun K hK => ?_) AllReadyIn.nil
            go_simp
            gi_wp2
            refine wpAnyIn_ready (rs := [0, 5]) (by kernel_rfl) (by simp) ?_
            refine AllReadyIn.cons rfl (fun K hK => ?_) ?_
            · go_simp
              refine hK _ _ ?_
              clear hK K
              refine wpAnyIn_ready (rs := [5]) (by kernel_rfl) (by simp) ?_
              refine AllReadyIn.cons rfl (fun K hK => ?_) AllReadyIn.nil
              go_simp
              refine hK _ _ ?_
              clear hK K
              refine wpAnyIn_ready (rs := [6]) (by kernel_rfl) (by simp) ?_
              refine AllReadyIn.cons rfl (fun K hK => ?_) AllReadyIn.nil
              go_simp
              refine hK _ _ ?_
              clear hK K
              refine wpAnyIn_ready (rs := [7]) (by kernel_rfl) (by simp) ?_
              refine AllReadyIn.cons rfl (fun K hK => ?_) AllReadyIn.nil
              go_simp
              refine hK _ _ ?_
              clear hK K
              refine wpAnyIn_ready (rs := [8]) (by kernel_rfl) (by simp) ?_
              refine AllReadyIn.cons rfl (fun K hK => ?_) AllReadyIn.nil
              refine op_append rfl _ _ _ rfl _ _ _ rfl rfl hrun ?_
              refine hK _ _ ?_
              clear hK K
              refine wpAnyIn_ready (rs := [9]) (by kernel_rfl) (by simp) ?_
              refine AllReadyIn.cons rfl (fun K hK => ?_) AllReadyIn.nil
              go_simp
              refine hK _ _ ?_
              clear hK K
              refine wpAnyIn_done (by kernel_rfl) ?_ _
              gi_wp2
              refine ⟨F3.out, F2.out, ?_⟩
              show Inn W.heap.size l ol n₀ BO _ oc W J Ds ((hlist ra rl rc hd ((numsOf (pre ++ [⟨(k : Int), hx⟩])).foldl comeN (ordL X r i))).drop (i + 1)) ((numsOf (pre ++ [⟨(k : Int), hx⟩])).foldl comeN (ordL X r i)) _
              rw [HSN.out, HC.out]
              exact F1.out
            refine AllReadyIn.cons rfl (fun K hK => ?_) AllReadyIn.nil
            go_simp
            refine hK _ _ ?_
            clear hK K
            refine wpAnyIn_ready (rs := [0, 6]) (by kernel_rfl) (by simp) ?_
            refine AllReadyIn.cons rfl (fun K hK => ?_) ?_
            · go_simp
              refine hK _ _ ?_
              clear hK K
              refine wpAnyIn_ready (rs := [6]) (by kernel_rfl) (by simp) ?_
              refine AllReadyIn.cons rfl (fun K hK => ?_) AllReadyIn.nil
              go_simp
              refine hK _ _ ?_
              clear hK K
              refine wpAnyIn_ready (rs := [7]) (by kernel_rfl) (by simp) ?_
              refine AllReadyIn.cons rfl (fun K hK => ?_) AllReadyIn.nil
              go_simp
              refine hK _ _ ?_
              clear hK K
              refine wpAnyIn_ready (rs := [8]) (by kernel_rfl) (by simp) ?_
              refine AllReadyIn.cons rfl (fun K hK => ?_) AllReadyIn.nil
              refine op_append rfl _ _ _ rfl _ _ _ rfl rfl hrun ?_
              refine hK _ _ ?_
              clear hK K
              refine wpAnyIn_ready (rs := [9]) (by kernel_rfl) (by simp) ?_
              refine AllReadyIn.cons rfl (fun K hK => ?_) AllReadyIn.nil
              go_simp
              refine hK _ _ ?_
              clear hK K
              refine wpAnyIn_done (by kernel_rfl) ?_ _
              gi_wp2
              refine ⟨F3.out, F2.out, ?_⟩
              show Inn W.heap.size l ol n₀ BO _ oc W J Ds ((hlist ra rl rc hd ((numsOf (pre ++ [⟨(k : Int), hx⟩])).foldl comeN (ordL X r i))).drop (i + 1)) ((numsOf (pre ++ [⟨(k : Int), hx⟩])).foldl comeN (ordL X r i)) _
              rw [HSN.out, HC.out]
              exact F1.out
            refine AllReadyIn.cons rfl (fun K hK => ?_) AllReadyIn.nil
            go_simp
            refine hK _ _ ?_
            clear hK K
            refine wpAnyIn_ready (rs := [0, 7]) (by kernel_rfl) (by simp) ?_
            refine AllReadyIn.cons rfl (fun K hK => ?_) ?_
            · go_simp
              refine hK _ _ ?_
              clear hK K
              refine wpAnyIn_ready (rs := [7]) (by kernel_rfl) (by simp) ?_
              refine AllReadyIn.cons rfl (fun K hK => ?_) AllReadyIn.nil
              go_simp
              refine hK _ _ ?_
              clear hK K
              refine wpAnyIn_ready (rs := [8]) (by kernel_rfl) (by simp) ?_
              refine AllReadyIn.cons rfl (fun K hK => ?_) AllReadyIn.nil
              refine op_append rfl _ _ _ rfl _ _ _ rfl rfl hrun ?_
              refine hK _ _ ?_
              clear hK K
              refine wpAnyIn_ready (rs := [9]) (by kernel_rfl) (by simp) ?_
              refine AllReadyIn.cons rfl (fun K hK => ?_) AllReadyIn.nil
              go_simp
              refine hK _ _ ?_
              clear hK K
              refine wpAnyIn_done (by kernel_rfl) ?_ _
              gi_wp2
              refine ⟨F3.out, F2.out, ?_⟩
              show Inn W.heap.size l ol n₀ BO _ oc W J Ds ((hlist ra rl rc hd ((numsOf (pre ++ [⟨(k : Int), hx⟩])).foldl comeN (ordL X r i))).drop (i + 1)) ((numsOf (pre ++ [⟨(k : Int), hx⟩])).foldl comeN (ordL X r i)) _
              rw [HSN.out, HC.out]
              exact F1.out
            refine AllReadyIn.cons rfl (fun K hK => ?_) AllReadyIn.nil
            go_simp
            refine hK _ _ ?_
            clear hK K
            refine wpAnyIn_ready (rs := [0]) (by kernel_rfl) (by simp) ?_
            refine AllReadyIn.cons rfl (fun K hK => ?_) AllReadyIn.nil
            go_simp
            refine hK _ _ ?_
            clear hK K
            refine wpAnyIn_ready (rs := [8]) (by kernel_rfl) (by simp) ?_
            refine AllReadyIn.cons rfl (fun K hK => ?_) AllReadyIn.nil
            refine op_append rfl _ _ _ rfl _ _ _ rfl rfl hrun ?_
            refine hK _ _ ?_
            clear hK K
            refine wpAnyIn_ready (rs := [9]) (by kernel_rfl) (by simp) ?_
            refine AllReadyIn.cons rfl (fun K hK => ?_) AllReadyIn.nil
            go_simp
            refine hK _ _ ?_
            clear hK K
            refine wpAnyIn_done (by kernel_rfl) ?_ _
            gi_wp2
            refine ⟨F3.out, F2.out, ?_⟩
            show Inn W.heap.size l ol n₀ BO _ oc W J Ds ((hlist ra rl rc hd ((numsOf (pre ++ [⟨(k : Int), hx⟩])).foldl comeN (ordL X r i))).drop (i + 1)) ((numsOf (pre ++ [⟨(k : Int), hx⟩])).foldl comeN (ordL X r i)) _
            rw [HSN.out, HC.out]
            exact F1.out
      case inr =>
        rename_i hq1
        have hI1 := HP.out (qo + 1) (qc - 1) (by omega) (by omega) (by omega)
        generalize Wr.setCell ⟨W.heap.size + 1 + 1 + 1 + 1, 0, none⟩ (.slice (some ⟨qg, qo + 1, none⟩) (m - 1) (qc - 1)) = W1 at hI1 ⊢
        have HI1 : Hid (Inn W.heap.size l ol n₀ BO oa oc W J Ds ((hlist ra rl rc hd (ordL X r i)).drop (i + 1)) (ordL X r i) W1) := hI1
        clear hI1 HP Q6 QQ HIr cq cv fq
        refine ⟨trivial, (ledTo_in _ _ _ _ _).mono ?_⟩
        rintro e w' ⟨rfl, rfl⟩
        have hb2 := one_new W1 (.slice va vl vc) 24
        have hI2 : Inn W.heap.size l ol n₀ BO oa oc W J Ds ((hlist ra rl rc hd (ordL X r i)).drop (i + 1)) (ordL X r i) (W1.alloc (.cells #[.slice va vl vc] 24)) := HI1.out.grown HJ.out hn₀ (World.grownBy_alloc W1 _ none) (by simp)
        obtain ⟨Bs, hBs⟩ : ∃ Bs, W1.heap.size = Bs := ⟨_, rfl⟩
        have hsz2 : (W1.alloc (.cells #[.slice va vl vc] 24)).heap.size = Bs + 1 := by simp [hBs]
        rw [hBs] at hb2
        generalize W1.alloc (.cells #[.slice va vl vc] 24) = W2 at hb2 hI2 hsz2 ⊢
        have HI2 : Hid (Inn W.heap.size l ol n₀ BO oa oc W J Ds ((hlist ra rl rc hd (ordL X r i)).drop (i + 1)) (ordL X r i) W2) := hI2
        have hs2 := hI2.sz
        have HDl : Hid (∀ D ∈ Ds, D < W2.heap.size) := fun D hD => (Array.getElem?_eq_some_iff.1 (hI2.ds D hD).2).1
        have hStp := led_stops (p := isN X.length) (n - 1) (by omega) Bs n₀ va vl vc vs (fun v hv h1 h2 => leads_in (lists_ok OK.out _ vs (List.mem_of_getElem? HVS.out)) v.2 (List.mem_filterMap.2 ⟨v, hv, by simp [h1, h2]⟩)) W2 (by omega) (by omega) hb2.1 (HS.out.keep (fun b o hb _ => hI2.bl.cell (p := ⟨b, o, none⟩) hb))
        have HStp : Hid (SeqStopsK Fence.wide (n - 1) Try.prog 34 #[.pointer (some ⟨Bs, 0, none⟩)] (fun x : { n : Int // isN X.length n } => #[Value.int .i64 x.1]) (Below n₀) (fun ys => ys = ledL (isN X.length) vs) (fun pre => pre <+: ledL (isN X.length) vs) vs.length W2) := hStp
        clear hI2 hb2 hStp HI1
        rw [hBs]
        gi_wp2
        refine wpIn_rangeFunc_ownG rfl h1 (gf := 34) (lb := #[.pointer (some ⟨Bs, 0, none⟩)]) rfl trivial (enters_of Try.func34 (by kernel_rfl) rfl)
          HStp.out belowK_t (belowK_b (by omega)) (Below.refl _ _) (fun _ => rfl)
          (fun pre V => Inn W.heap.size l ol n₀ BO oa oc W J Ds ((hlist ra rl rc hd ((numsOf pre).foldl comeN (ordL X r i))).drop (i + 1)) ((numsOf pre).foldl comeN (ordL X r i)) V)
          (fun _ _ _ => False)
          (fun pre V V' row h hg hr => h.grown HJ.out hn₀ hg (fun q e => by
            obtain ⟨k1, o', k2, k3⟩ := hr q e
            exact ⟨by omega, fun hD => by have := HDl.out q hD; omega, fun o ho => by rw [k2] at ho; cases ho; exact k3⟩))
          (fun _ _ _ _ _ h _ _ => h) HI2.out ?a2 ?assign ?body ?done ?stop
        case assign =>
          intro l' x V K hK
          gi_wp2
          exact hK
        case done =>
          rintro D ys V hD rfl hV hK
          have EO : Hid ((numsOf (ledL (isN X.length) vs)).foldl comeN (ordL X r i) = ordL X r (i + 1)) := by
            show _ = _
            rw [led_map (lists_ok OK.out _ vs (List.mem_of_getElem? HVS.out))]
            conv => rhs; rw [ordL, HVS.out]
          rw [EO.out] at hV
          have HVI : Hid (Inn W.heap.size l ol n₀ BO oa oc W J Ds ((hlist ra rl rc hd (ordL X r (i + 1))).drop (i + 1)) (ordL X r (i + 1)) V) := hV
          have HKD : Hid (V.heap[D]? = some (.deferred (some []))) := hK
          have HLE : Hid ((ordL X r i).length ≤ (ordL X r (i + 1)).length) := (ord_pre i).length_le
          clear hV hK
          gi_wp2
          refine ⟨ol + 1 - (i + 1), ?_, i + 1, _, _, _, _, _, _, _, _, _, _, _, _, _, _, _, _, _, _, _, _, _, _, _, _, _, _, _, _, _, _, _, _, _, D :: Ds, rfl, ?_, rfl, ?_, ?_⟩
          · have := HI.out; have := HG.out; omega
          · have := HI.out; have := HLE.out; omega
          · refine ⟨HVI.out.st, HVI.out.j, HVI.out.bo, HVI.out.bl, fun E hE => ?_, HVI.out.sz⟩
            rcases List.mem_cons.1 hE with rfl | hE
            · exact ⟨by omega, HKD.out⟩
            · exact HVI.out.ds E hE
          · exact List.nodup_cons.2 ⟨fun hm' => by have := HDl.out D hm'; omega, HND.out⟩
        case stop =>
          rintro D c pre V _ _ h _
          exact h.elim
        case body =>
          rintro l' pre ⟨x, hx⟩ V hV _
          obtain ⟨k, rfl⟩ : ∃ k : Nat, x = k := ⟨x.toNat, by unfold isN at hx; omega⟩
          have hx2 := hx
          unfold isN at hx2
          rw [EL.out] at hx2
          have hk0 : 0 < k := by omega
          have hk1 : k ≤ ol := by omega
          have hOP : Ordr X.length ((numsOf pre).foldl comeN (ordL X r i)) := Ordr.fold _ HOr.out (fun n hn => by obtain ⟨y, _, rfl⟩ := List.mem_map.1 hn; exact y.2)
          have hPL : (ordL X r i).length ≤ ((numsOf pre).foldl comeN (ordL X r i)).length := (fold_pre _ _).length_le
          have HSN : Hid ((numsOf (pre ++ [⟨(k : Int), hx⟩])).foldl comeN (ordL X r i) = comeN ((numsOf pre).foldl comeN (ordL X r i)) k) := numsOf_snoc pre ⟨(k : Int), hx⟩ _
          clear hx2
          generalize (numsOf pre).foldl comeN (ordL X r i) = o at hV hOP HSN hPL
          have HV : Hid (Inn W.heap.size l ol n₀ BO oa oc W J Ds ((hlist ra rl rc hd o).drop (i + 1)) o V) := hV
          have HOP : Hid (Ordr X.length o) := hOP
          have HPL : Hid ((ordL X r i).length ≤ o.length) := hPL
          obtain ⟨cu, r1, r2, r3⟩ := hV.st.row
          have cs := hV.st.s.cell
          have cy := hV.st.y.cell
          have ck : V.cell? ⟨W.heap.size + 1, k, none⟩ = some (.bool (decide ((k : Int) ∈ o))) := (cell_of_block r1 k).trans (r3 k hk1)
          have fk : V.frozen? ⟨W.heap.size + 1, k, none⟩ = false := free_of_block r1 k
          have hkb : (k : Int) < (ol : Int) + 1 := by omega
          have R1 : Hid (V.heap[W.heap.size + 1]? = some (.cells cu 4 (0, 0))) := r1
          clear hV hOP hPL r1 r2 r3 HStp
          by_cases hin : (k : Int) ∈ o
          · rw [decide_eq_true hin] at ck
            have HC : Hid (comeN o k = o) := by show _ = _; rw [comeN, if_pos hin]
            clear hin
            gi_wp2
            refine ⟨KeepsFrom.refl _ _, Below.refl _ _, ?_⟩
            show Inn W.heap.size l ol n₀ BO oa oc W J Ds ((hlist ra rl rc hd ((numsOf (pre ++ [⟨(k : Int), hx⟩])).foldl comeN (ordL X r i))).drop (i + 1)) ((numsOf (pre ++ [⟨(k : Int), hx⟩])).foldl comeN (ordL X r i)) V
            rw [HSN.out, HC.out]
            exact HV.out
          · rw [decide_eq_false hin] at ck
            have HC : Hid (comeN o k = o ++ [(k : Int)]) := by show _ = _; rw [comeN, if_neg hin]
            have hol3 : o.length < X.length := by
              have := (HOP.out.come hx).le
              rw [HC.out] at this
              simp at this
              omega
            clear hin
            have hJs : J o (V.setCell ⟨W.heap.size + 1, k, none⟩ (.bool true)) := HJ.out _ _ _ HV.out.j (Abd.grown (grown_set V _ k _) (fun q e => by
              cases e
              exact ⟨by omega, fun ob hob => by rw [R1.out] at hob; cases hob; rfl⟩))
            obtain ⟨fn, tmps, assign, body, hy, hR⟩ := HY.out o (k : Int) _ hJs hol3
            have HRd : Hid (RoundIn Fence.wide n Try.prog l fn tmps assign body _ _) := hR
            clear hR hJs
            gi_wp2
            refine ⟨fun _ => by omega, (round_wide HRd.out).mono ?_⟩
            rintro e V3 ⟨rfl, hJ3, hKr⟩
            have hI3 := HV.out.seen hn₀ hl hlO hk1 hKr hJ3
            have HV3 : Hid (Inn W.heap.size l ol n₀ BO oa oc W J Ds ((hlist ra rl rc hd o).drop (i + 1)) (o ++ [(k : Int)]) V3) := hI3
            have HKr : Hid (Kr l n₀ (V.setCell ⟨W.heap.size + 1, k, none⟩ (.bool true)) V3) := hKr
            have cO3 := hI3.bo.cell
            have lO3 := hI3.bo.lt
            obtain ⟨ob, oo, ha, hl2, hc, rfl, hob, hcell, hhd, _⟩ := HH.out.one (k : Int) hx
            rw [hhd] at hcell
            have ch3 : V3.cell? ⟨ob, oo + (k - 1) * 2 + 1, none⟩ = some (.slice ha hl2 hc) := (hI3.bl.cell (p := ⟨ob, oo + (k - 1) * 2 + 1, none⟩) hob).trans (by simpa using hcell)
            have lob : ob < V3.heap.size := by have := hI3.sz; omega
            obtain ⟨g3, o3, c3, cu3, p1, p2, p3, p4, p5, p6⟩ := hI3.st.q.ex
            have cq3 := p1.cell
            have fq3 := p1.frozen
            have lq3 := p1.lt
            have hqs : ((hlist ra rl rc hd o).drop (i + 1)).length ≤ 2000000 := by simp [hlist]; omega
            obtain ⟨g4, o4, c4, cu4, W4, hrun, s1, s2, s3, s4, s5, s6⟩ := que_push (W := V3.drew.alloc (.cells #[.slice ha hl2 hc] 24)) (s := V3.heap.size) 58 (by simp; have := hI3.sz; omega) p2 ((Below.heap_alloc V3.drew _ g3 (Array.getElem?_eq_some_iff.1 p3).1).trans p3) p4 p5 p6 (one_new V3.drew (.slice ha hl2 hc) 24).1 hqs
            have hb4 : W4.heap[W.heap.size + 1 + 1 + 1 + 1]? = V3.heap[W.heap.size + 1 + 1 + 1 + 1]? := by
              rw [s6.block _ (by simp; omega) (fun e => ?_)]
              · exact Below.heap_alloc V3.drew _ _ lq3
              · have e' : g3 = W.heap.size + 1 + 1 + 1 + 1 := by simpa using e.symm
                exact not_same p1 p3 (by decide) e'
            have q4 : Boxed W4 (W.heap.size + 1 + 1 + 1 + 1) 58 (.slice (some ⟨g3, o3, none⟩) ((hlist ra rl rc hd o).drop (i + 1)).length c3) := hb4.trans p1
            have cq4 := q4.cell
            have fq4 := q4.frozen
            have HQ4 : Que W.heap.size (W4.setCell ⟨W.heap.size + 1 + 1 + 1 + 1, 0, none⟩ (.slice (some ⟨g4, o4, none⟩) (((hlist ra rl rc hd o).drop (i + 1)).length + 1) c4)) (W.heap.size + 1 + 1 + 1 + 1) ((hlist ra rl rc hd o).drop (i + 1) ++ [.slice ha hl2 hc]) :=
              Que.put q4 s1 s2 (by simpa using s3) s4 s5 (by simp)
            obtain ⟨f1, f2, f3⟩ := hI3.push HJ.out hn₀ p3 p2 s6 HQ4
            have hdr : (hlist ra rl rc hd o).drop (i + 1) ++ [.slice ha hl2 hc] = (hlist ra rl rc hd (o ++ [(k : Int)])).drop (i + 1) := by
              rw [← hhd]
              have e5 : hlist ra rl rc hd (o ++ [(k : Int)]) = hlist ra rl rc hd o ++ [hd k] := by simp [hlist]
              rw [e5, List.drop_append_of_le_length]
              have := HPL.out
              simp [hlist]; omega
            rw [hdr] at f1
            have F1 : Hid (Inn W.heap.size l ol n₀ BO _ oc W J Ds ((hlist ra rl rc hd (o ++ [(k : Int)])).drop (i + 1)) (o ++ [(k : Int)]) (W4.setCell ⟨W.heap.size + 1 + 1 + 1 + 1, 0, none⟩ (.slice (some ⟨g4, o4, none⟩) (((hlist ra rl rc hd o).drop (i + 1)).length + 1) c4))) := f1
            have F2 : Hid (Below n₀ V (W4.setCell ⟨W.heap.size + 1 + 1 + 1 + 1, 0, none⟩ (.slice (some ⟨g4, o4, none⟩) (((hlist ra rl rc hd o).drop (i + 1)).length + 1) c4))) := ((Below.refl n₀ V).setCell (p := ⟨W.heap.size + 1, k, none⟩) (by simp; omega) _).trans (hKr.low.trans f2)
            have F3 : Hid (KeepsFrom W2.heap.size V (W4.setCell ⟨W.heap.size + 1 + 1 + 1 + 1, 0, none⟩ (.slice (some ⟨g4, o4, none⟩) (((hlist ra rl rc hd o).drop (i + 1)).length + 1) c4))) := by
              refine ⟨F2.out.size, fun j ob hj h2 h3 => f3.same j ob (Nat.zero_le _) (hKr.keep j ob ?_ (by cases ob <;> simp_all [inty, Obj.isCells]) (by omega)) h3⟩
              refine (Below.heap_setCell V _ _ j (fun e => ?_)).trans h2
              rw [e] at h2
              have h2' : V.heap[W.heap.size + 1]? = some ob := h2
              rw [R1.out] at h2'
              cases h2'
              cases h3
            clear hI3 hKr hJ3 p1 p2 p3 p5 p6 q4 s1 s2 s4 s5 s6 hhd hcell hb4 HKr HQ4 f1 f2 f3 hdr
            generalize ((hlist ra rl rc hd o).drop (i + 1)).length = m3 at *
            have hk5 : (0 : Int) ≤ (k : Int) - 1 := by omega
            have hk6 : (k : Int) - 1 < (ol : Int) := by omega
            have hk7 : ((k : Int) - 1).toNat = k - 1 := by omega
            have hk8 : IntKind.i64.wrap ((k : Int) - 1) = (k : Int) - 1 := by rw [IntKind.wrap_i64]; omega
            have hmx : Try.prog.follows .mixedOrders = true := by kernel_rfl
            gi_wp2
            refine wpIn_region_any hmx ?_
            change wpAnyIn _ _ _ _ _ _ _ _ _ (World.drew _)
            refine wpAnyIn_ready (rs := [0, 1, 2]) (by kernel_rfl) (by simp) ?_
            refine AllReadyIn.cons rfl (fun K hK => ?_) ?_
            · go_simp
              refine hK _ _ ?_
              clear hK K
              refine wpAnyIn_ready (rs := [1, 2]) (by kernel_rfl) (by simp) ?_
              refine AllReadyIn.cons rfl (fun K hK => ?_) ?_
              · go_simp
                refine hK _ _ ?_
                clear hK K
                refine wpAnyIn_ready (rs := [2]) (by kernel_rfl) (by simp) ?_
                refine AllReadyIn.cons rfl (fun K hK => ?_) AllReadyIn.nil
                go_simp
                refine hK _ _ ?_
                clear hK K
                refine wpAnyIn_ready (rs := [3]) (by kernel_rfl) (by simp) ?_
                refine AllReadyIn.cons rfl (fun K hK => ?_) AllReadyIn.nil
                go_simp
                refine hK _ _ ?_
                clear hK K
                refine wpAnyIn_ready (rs := [4]) (by kernel_rfl) (by simp) ?_
                refine AllReadyIn.cons rfl (fun K hK => ?_) AllReadyIn.nil
                go_simp
                gi_wp2
                refine wpAnyIn_ready (rs := [5]) (by kernel_rfl) (by simp) ?_
                refine AllReadyIn.cons rfl (fun K hK => ?_) AllReadyIn.nil
                go_simp
                refine hK _ _ ?_
                clear hK K
                refine wpAnyIn_ready (rs := [6]) (by kernel_rfl) (by simp) ?_
                refine AllReadyIn.cons rfl (fun K hK => ?_) AllReadyIn.nil
                go_simp
                refine hK _ _ ?_
                clear hK K
                refine wpAnyIn_ready (rs := [7]) (by kernel_rfl) (by simp) ?_
                refine AllReadyIn.cons rfl (fun K hK => ?_) AllReadyIn.nil
                go_simp
                refine hK _ _ ?_
                clear hK K
                refine wpAnyIn_ready (rs := [8]) (by kernel_rfl) (by simp) ?_
                refine AllReadyIn.cons rfl (fun K hK => ?_) AllReadyIn.nil
                refine op_append rfl _ _ _ rfl _ _ _ rfl rfl hrun ?_
                refine hK _ _ ?_
                clear hK K
                refine wpAnyIn_ready (rs := [9]) (by kernel_rfl) (by simp) ?_
                refine AllReadyIn.cons rfl (fun K hK => ?_) AllReadyIn.nil
                go_simp
                refine hK _ _ ?_
                clear hK K
                refine wpAnyIn_done (by kernel_rfl) ?_ _
                gi_wp2
                refine ⟨F3.out, F2.out, ?_⟩
                show Inn W.heap.size l ol n₀ BO _ oc W J Ds ((hlist ra rl rc hd ((numsOf (pre ++ [⟨(k : Int), hx⟩])).foldl comeN (ordL X r i))).drop (i + 1)) ((numsOf (pre ++ [⟨(k : Int), hx⟩])).foldl comeN (ordL X r i)) _
                rw [HSN.out, HC.out]
                exact F1.out
              refine AllReadyIn.cons rfl (fun K hK => ?_) AllReadyIn.nil
              go_simp
              refine hK _ _ ?_
              clear hK K
              refine wpAnyIn_ready (rs := [1, 3]) (by kernel_rfl) (by simp) ?_
              refine AllReadyIn.cons rfl (fun K hK => ?_) ?_
              · go_simp
                refine hK _ _ ?_
                clear hK K
                refine wpAnyIn_ready (rs := [3]) (by kernel_rfl) (by simp) ?_
                refine AllReadyIn.cons rfl (fun K hK => ?_) AllReadyIn.nil
                go_simp
                refine hK _ _ ?_
                clear hK K
                refine wpAnyIn_ready (rs := [4]) (by kernel_rfl) (by simp) ?_
                refine AllReadyIn.cons rfl (fun K hK => ?_) AllReadyIn.nil
                go_simp
                gi_wp2
                refine wpAnyIn_ready (rs := [5]) (by kernel_rfl) (by simp) ?_
                refine AllReadyIn.cons rfl (fun K hK => ?_) AllReadyIn.nil
                go_simp
                refine hK _ _ ?_
                clear hK K
                refine wpAnyIn_ready (rs := [6]) (by kernel_rfl) (by simp) ?_
                refine AllReadyIn.cons rfl (fun K hK => ?_) AllReadyIn.nil
                go_simp
                refine hK _ _ ?_
                clear hK K
                refine wpAnyIn_ready (rs := [7]) (by kernel_rfl) (by simp) ?_
                refine AllReadyIn.cons rfl (fun K hK => ?_) AllReadyIn.nil
                go_simp
                refine hK _ _ ?_
                clear hK K
                refine wpAnyIn_ready (rs := [8]) (by kernel_rfl) (by simp) ?_
                refine AllReadyIn.cons rfl (fun K hK => ?_) AllReadyIn.nil
                refine op_append rfl _ _ _ rfl _ _ _ rfl rfl hrun ?_
                refine hK _ _ ?_
                clear hK K
                refine wpAnyIn_ready (rs := [9]) (by kernel_rfl) (by simp) ?_
                refine AllReadyIn.cons rfl (fun K hK => ?_) AllReadyIn.nil
                go_simp
                refine hK _ _ ?_
                clear hK K
                refine wpAnyIn_done (by kernel_rfl) ?_ _
                gi_wp2
                refine ⟨F3.out, F2.out, ?_⟩
                show Inn W.heap.size l ol n₀ BO _ oc W J Ds ((hlist ra rl rc hd ((numsOf (pre ++ [⟨(k : Int), hx⟩])).foldl comeN (ordL X r i))).drop (i + 1)) ((numsOf (pre ++ [⟨(k : Int), hx⟩])).foldl comeN (ordL X r i)) _
                rw [HSN.out, HC.out]
                exact F1.out
              refine AllReadyIn.cons rfl (fun K hK => ?_) AllReadyIn.nil
              go_simp
              refine hK _ _ ?_
              clear hK K
              refine wpAnyIn_ready (rs := [1]) (by kernel_rfl) (by simp) ?_
              refine AllReadyIn.cons rfl (fun K hK => ?_) AllReadyIn.nil
              go_simp
              refine hK _ _ ?_
              clear hK K
              refine wpAnyIn_ready (rs := [4]) (by kernel_rfl) (by simp) ?_
              refine AllReadyIn.cons rfl (fun K hK => ?_) AllReadyIn.nil
              go_simp
              gi_wp2
              refine wpAnyIn_ready (rs := [5]) (by kernel_rfl) (by simp) ?_
              refine AllReadyIn.cons rfl (fun K hK => ?_) AllReadyIn.nil
              go_simp
              refine hK _ _ ?_
              clear hK K
              refine wpAnyIn_ready (rs := [6]) (by kernel_rfl) (by simp) ?_
              refine AllReadyIn.cons rfl (fun K hK => ?_) AllReadyIn.nil
              go_simp
              refine hK _ _ ?_
              clear hK K
              refine wpAnyIn_ready (rs := [7]) (by kernel_rfl) (by simp) ?_
              refine AllReadyIn.cons rfl (fun K hK => ?_) AllReadyIn.nil
              go_simp
              refine hK _ _ ?_
              clear hK K
              refine wpAnyIn_ready (rs := [8]) (by kernel_rfl) (by simp) ?_
              refine AllReadyIn.cons rfl (fun K hK => ?_) AllReadyIn.nil
              refine op_append rfl _ _ _ rfl _ _ _ rfl rfl hrun ?_
              refine hK _ _ ?_
              clear hK K
              refine wpAnyIn_ready (rs := [9]) (by kernel_rfl) (by simp) ?_
              refine AllReadyIn.cons rfl (fun K hK => ?_) AllReadyIn.nil
              go_simp
              refine hK _ _ ?_
              clear hK K
              refine wpAnyIn_done (by kernel_rfl) ?_ _
              gi_wp2
              refine ⟨F3.out, F2.out, ?_⟩
              show Inn W.heap.size l ol n₀ BO _ oc W J Ds ((hlist ra rl rc hd ((numsOf (pre ++ [⟨(k : Int), hx⟩])).foldl comeN (ordL X r i))).drop (i + 1)) ((numsOf (pre ++ [⟨(k : Int), hx⟩])).foldl comeN (ordL X r i)) _
              rw [HSN.out, HC.out]
              exact F1.out
            refine AllReadyIn.cons rfl (fun K hK => ?_) ?_
            · go_simp
              refine hK _ _ ?_
              clear hK K
              refine wpAnyIn_ready (rs := [0, 2]) (by kernel_rfl) (by simp) ?_
              refine AllReadyIn.cons rfl (fun K hK => ?_) ?_
              · go_simp
                refine hK _ _ ?_
                clear hK K
                refine wpAnyIn_ready (rs := [2]) (by kernel_rfl) (by simp) ?_
                refine AllReadyIn.cons rfl (fun K hK => ?_) AllReadyIn.nil
                go_simp
                refine hK _ _ ?_
                clear hK K
                refine wpAnyIn_ready (rs := [3]) (by kernel_rfl) (by simp) ?_
                refine AllReadyIn.cons rfl (fun K hK => ?_) AllReadyIn.nil
                go_simp
                refine hK _ _ ?_
                clear hK K
                refine wpAnyIn_ready (rs := [4]) (by kernel_rfl) (by simp) ?_
                refine AllReadyIn.cons rfl (fun K hK => ?_) AllReadyIn.nil
                go_simp
                gi_wp2
                refine wpAnyIn_ready (rs := [5]) (by kernel_rfl) (by simp) ?_
                refine AllReadyIn.cons rfl (fun K hK => ?_) AllReadyIn.nil
                go_simp
                refine hK _ _ ?_
                clear hK K
                refine wpAnyIn_ready (rs := [6]) (by kernel_rfl) (by simp) ?_
                refine AllReadyIn.cons rfl (fun K hK => ?_) AllReadyIn.nil
                go_simp
                refine hK _ _ ?_
                clear hK K
                refine wpAnyIn_ready (rs := [7]) (by kernel_rfl) (by simp) ?_
                refine AllReadyIn.cons rfl (fun K hK => ?_) AllReadyIn.nil
                go_simp
                refine hK _ _ ?_
                clear hK K
                refine wpAnyIn_ready (rs := [8]) (by kernel_rfl) (by simp) ?_
                refine AllReadyIn.cons rfl (fun K hK => ?_) AllReadyIn.nil
                refine op_append rfl _ _ _ rfl _ _ _ rfl rfl hrun ?_
                refine hK _ _ ?_
                clear hK K
                refine wpAnyIn_ready (rs := [9]) (by kernel_rfl) (by simp) ?_
                refine AllReadyIn.cons rfl (fun K hK => ?_) AllReadyIn.nil
                go_simp
                refine hK _ _ ?_
                clear hK K
                refine wpAnyIn_done (by kernel_rfl) ?_ _
                gi_wp2
                refine ⟨F3.out, F2.out, ?_⟩
                show Inn W.heap.size l ol n₀ BO _ oc W J Ds ((hlist ra rl rc hd ((numsOf (pre ++ [⟨(k : Int), hx⟩])).foldl comeN (ordL X r i))).drop (i + 1)) ((numsOf (pre ++ [⟨(k : Int), hx⟩])).foldl comeN (ordL X r i)) _
                rw [HSN.out, HC.out]
                exact F1.out
              refine AllReadyIn.cons rfl (fun K hK => ?_) AllReadyIn.nil
              go_simp
              refine hK _ _ ?_
              clear hK K
              refine wpAnyIn_ready (rs := [0, 3]) (by kernel_rfl) (by simp) ?_
              refine AllReadyIn.cons rfl (fun K hK => ?_) ?_
              · go_simp
                refine hK _ _ ?_
                clear hK K
                refine wpAnyIn_ready (rs := [3]) (by kernel_rfl) (by simp) ?_
                refine AllReadyIn.cons rfl (fun K hK => ?_) AllReadyIn.nil
                go_simp
                refine hK _ _ ?_
                clear hK K
                refine wpAnyIn_ready (rs := [4]) (by kernel_rfl) (by simp) ?_
                refine AllReadyIn.cons rfl (fun K hK => ?_) AllReadyIn.nil
                go_simp
                gi_wp2
                refine wpAnyIn_ready (rs := [5]) (by kernel_rfl) (by simp) ?_
                refine AllReadyIn.cons rfl (fun K hK => ?_) AllReadyIn.nil
                go_simp
                refine hK _ _ ?_
                clear hK K
                refine wpAnyIn_ready (rs := [6]) (by kernel_rfl) (by simp) ?_
                refine AllReadyIn.cons rfl (fun K hK => ?_) AllReadyIn.nil
                go_simp
                refine hK _ _ ?_
                clear hK K
                refine wpAnyIn_ready (rs := [7]) (by kernel_rfl) (by simp) ?_
                refine AllReadyIn.cons rfl (fun K hK => ?_) AllReadyIn.nil
                go_simp
                refine hK _ _ ?_
                clear hK K
                refine wpAnyIn_ready (rs := [8]) (by kernel_rfl) (by simp) ?_
                refine AllReadyIn.cons rfl (fun K hK => ?_) AllReadyIn.nil
                refine op_append rfl _ _ _ rfl _ _ _ rfl rfl hrun ?_
                refine hK _ _ ?_
                clear hK K
                refine wpAnyIn_ready (rs := [9]) (by kernel_rfl) (by simp) ?_
                refine AllReadyIn.cons rfl (fun K hK => ?_) AllReadyIn.nil
                go_simp
                refine hK _ _ ?_
                clear hK K
                refine wpAnyIn_done (by kernel_rfl) ?_ _
                gi_wp2
                refine ⟨F3.out, F2.out, ?_⟩
                show Inn W.heap.size l ol n₀ BO _ oc W J Ds ((hlist ra rl rc hd ((numsOf (pre ++ [⟨(k : Int), hx⟩])).foldl comeN (ordL X r i))).drop (i + 1)) ((numsOf (pre ++ [⟨(k : Int), hx⟩])).foldl comeN (ordL X r i)) _
                rw [HSN.out, HC.out]
                exact F1.out
              refine AllReadyIn.cons rfl (fun K hK => ?_) AllReadyIn.nil
              go_simp
              refine hK _ _ ?_
              clear hK K
              refine wpAnyIn_ready (rs := [0, 4]) (by kernel_rfl) (by simp) ?_
              refine AllReadyIn.cons rfl (fun K hK => ?_) ?_
              · go_simp
                refine hK _ _ ?_
                clear hK K
                refine wpAnyIn_ready (rs := [4]) (by kernel_rfl) (by simp) ?_
                refine AllReadyIn.cons rfl (fun K hK => ?_) AllReadyIn.nil
                go_simp
                gi_wp2
                refine wpAnyIn_ready (rs := [5]) (by kernel_rfl) (by simp) ?_
                refine AllReadyIn.cons rfl (fun K hK => ?_) AllReadyIn.nil
                go_simp
                refine hK _ _ ?_
                clear hK K
                refine wpAnyIn_ready (rs := [6]) (by kernel_rfl) (by simp) ?_
                refine AllReadyIn.cons rfl (fun K hK => ?_) AllReadyIn.nil
                go_simp
                refine hK _ _ ?_
                clear hK K
                refine wpAnyIn_ready (rs := [7]) (by kernel_rfl) (by simp) ?_
                refine AllReadyIn.cons rfl (fun K hK => ?_) AllReadyIn.nil
                go_simp
                refine hK _ _ ?_
                clear hK K
                refine wpAnyIn_ready (rs := [8]) (by kernel_rfl) (by simp) ?_
                refine AllReadyIn.cons rfl (fun K hK => ?_) AllReadyIn.nil
                refine op_append rfl _ _ _ rfl _ _ _ rfl rfl hrun ?_
                refine hK _ _ ?_
                clear hK K
                refine wpAnyIn_ready (rs := [9]) (by kernel_rfl) (by simp) ?_
                refine AllReadyIn.cons rfl (fun K hK => ?_) AllReadyIn.nil
                go_simp
                refine hK _ _ ?_
                clear hK K
                refine wpAnyIn_done (by kernel_rfl) ?_ _
                gi_wp2
                refine ⟨F3.out, F2.out, ?_⟩
                show Inn W.heap.size l ol n₀ BO _ oc W J Ds ((hlist ra rl rc hd ((numsOf (pre ++ [⟨(k : Int), hx⟩])).foldl comeN (ordL X r i))).drop (i + 1)) ((numsOf (pre ++ [⟨(k : Int), hx⟩])).foldl comeN (ordL X r i)) _
                rw [HSN.out, HC.out]
                exact F1.out
              refine AllReadyIn.cons rfl (fun K hK => ?_) AllReadyIn.nil
              go_simp
              gi_wp2
              refine wpAnyIn_ready (rs := [0, 5]) (by kernel_rfl) (by simp) ?_
              refine AllReadyIn.cons rfl (fun K hK => ?_) ?_
              · go_simp
                refine hK _ _ ?_
                clear hK K
                refine wpAnyIn_ready (rs := [5]) (by kernel_rfl) (by simp) ?_
                refine AllReadyIn.cons rfl (fun K hK => ?_) AllReadyIn.nil
                go_simp
                refine hK _ _ ?_
                clear hK K
                refine wpAnyIn_ready (rs := [6]) (by kernel_rfl) (by simp) ?_
                refine AllReadyIn.cons rfl (fun K hK => ?_) AllReadyIn.nil
                go_simp
                refine hK _ _ ?_
                clear hK K
                refine wpAnyIn_ready (rs := [7]) (by kernel_rfl) (by simp) ?_
                refine AllReadyIn.cons rfl (fun K hK => ?_) AllReadyIn.nil
                go_simp
                refine hK _ _ ?_
                clear hK K
                refine wpAnyIn_ready (rs := [8]) (by kernel_rfl) (by simp) ?_
                refine AllReadyIn.cons rfl (fun K hK => ?_) AllReadyIn.nil
                refine op_append rfl _ _ _ rfl _ _ _ rfl rfl hrun ?_
                refine hK _ _ ?_
                clear hK K
                refine wpAnyIn_ready (rs := [9]) (by kernel_rfl) (by simp) ?_
                refine AllReadyIn.cons rfl (fun K hK => ?_) AllReadyIn.nil
                go_simp
                refine hK _ _ ?_
                clear hK K
                refine wpAnyIn_done (by kernel_rfl) ?_ _
                gi_wp2
                refine ⟨F3.out, F2.out, ?_⟩
                show Inn W.heap.size l ol n₀ BO _ oc W J Ds ((hlist ra rl rc hd ((numsOf (pre ++ [⟨(k : Int), hx⟩])).foldl comeN (ordL X r i))).drop (i + 1)) ((numsOf (pre ++ [⟨(k : Int), hx⟩])).foldl comeN (ordL X r i)) _
                rw [HSN.out, HC.out]
                exact F1.out
              refine AllReadyIn.cons rfl (fun K hK => ?_) AllReadyIn.nil
              go_simp
              refine hK _ _ ?_
              clear hK K
              refine wpAnyIn_ready (rs := [0, 6]) (by kernel_rfl) (by simp) ?_
              refine AllReadyIn.cons rfl (fun K hK => ?_) ?_
              · go_simp
                refine hK _ _ ?_
                clear hK K
                refine wpAnyIn_ready (rs := [6]) (by kernel_rfl) (by simp) ?_
                refine AllReadyIn.cons rfl (fun K hK => ?_) AllReadyIn.nil
                go_simp
                refine hK _ _ ?_
                clear hK K
                refine wpAnyIn_ready (rs := [7]) (by kernel_rfl) (by simp) ?_
                refine AllReadyIn.cons rfl (fun K hK => ?_) AllReadyIn.nil
                go_simp
                refine hK _ _ ?_
                clear hK K
                refine wpAnyIn_ready (rs := [8]) (by kernel_rfl) (by simp) ?_
                refine AllReadyIn.cons rfl (fun K hK => ?_) AllReadyIn.nil
                refine op_append rfl _ _ _ rfl _ _ _ rfl rfl hrun ?_
                refine hK _ _ ?_
                clear hK K
                refine wpAnyIn_ready (rs := [9]) (by kernel_rfl) (by simp) ?_
                refine AllReadyIn.cons rfl (fun K hK => ?_) AllReadyIn.nil
                go_simp
                refine hK _ _ ?_
                clear hK K
                refine wpAnyIn_done (by kernel_rfl) ?_ _
                gi_wp2
                refine ⟨F3.out, F2.out, ?_⟩
                show Inn W.heap.size l ol n₀ BO _ oc W J Ds ((hlist ra rl rc hd ((numsOf (pre ++ [⟨(k : Int), hx⟩])).foldl comeN (ordL X r i))).drop (i + 1)) ((numsOf (pre ++ [⟨(k : Int), hx⟩])).foldl comeN (ordL X r i)) _
                rw [HSN.out, HC.out]
                exact F1.out
              refine AllReadyIn.cons rfl (fun K hK => ?_) AllReadyIn.nil
              go_simp
              refine hK _ _ ?_
              clear hK K
              refine wpAnyIn_ready (rs := [0, 7]) (by kernel_rfl) (by simp) ?_
              refine AllReadyIn.cons rfl (fun K hK => ?_) ?_
              · go_simp
                refine hK _ _ ?_
                clear hK K
                refine wpAnyIn_ready (rs := [7]) (by kernel_rfl) (by simp) ?_
                refine AllReadyIn.cons rfl (fun K hK => ?_) AllReadyIn.nil
                go_simp
                refine hK _ _ ?_
                clear hK K
                refine wpAnyIn_ready (rs := [8]) (by kernel_rfl) (by simp) ?_
                refine AllReadyIn.cons rfl (fun K hK => ?_) AllReadyIn.nil
                refine op_append rfl _ _ _ rfl _ _ _ rfl rfl hrun ?_
                refine hK _ _ ?_
                clear hK K
                refine wpAnyIn_ready (rs := [9]) (by kernel_rfl) (by simp) ?_
                refine AllReadyIn.cons rfl (fun K hK => ?_) AllReadyIn.nil
                go_simp
                refine hK _ _ ?_
                clear hK K
                refine wpAnyIn_done (by kernel_rfl) ?_ _
                gi_wp2
                refine ⟨F3.out, F2.out, ?_⟩
                show Inn W.heap.size l ol n₀ BO _ oc W J Ds ((hlist ra rl rc hd ((numsOf (pre ++ [⟨(k : Int), hx⟩])).foldl comeN (ordL X r i))).drop (i + 1)) ((numsOf (pre ++ [⟨(k : Int), hx⟩])).foldl comeN (ordL X r i)) _
                rw [HSN.out, HC.out]
                exact F1.out
              refine AllReadyIn.cons rfl (fun K hK => ?_) AllReadyIn.nil
              go_simp
              refine hK _ _ ?_
              clear hK K
              refine wpAnyIn_ready (rs := [0]) (by kernel_rfl) (by simp) ?_
              refine AllReadyIn.cons rfl (fun K hK => ?_) AllReadyIn.nil
              go_simp
              refine hK _ _ ?_
              clear hK K
              refine wpAnyIn_ready (rs := [8]) (by kernel_rfl) (by simp) ?_
              refine AllReadyIn.cons rfl (fun K hK => ?_) AllReadyIn.nil
              refine op_append rfl _ _ _ rfl _ _ _ rfl rfl hrun ?_
              refine hK _ _ ?_
              clear hK K
              refine wpAnyIn_ready (rs := [9]) (by kernel_rfl) (by simp) ?_
              refine AllReadyIn.cons rfl (fun K hK => ?_) AllReadyIn.nil
              go_simp
              refine hK _ _ ?_
              clear hK K
              refine wpAnyIn_done (by kernel_rfl) ?_ _
              gi_wp2
              refine ⟨F3.out, F2.out, ?_⟩
              show Inn W.heap.size l ol n₀ BO _ oc W J Ds ((hlist ra rl rc hd ((numsOf (pre ++ [⟨(k : Int), hx⟩])).foldl comeN (ordL X r i))).drop (i + 1)) ((numsOf (pre ++ [⟨(k : Int), hx⟩])).foldl comeN (ordL X r i)) _
              rw [HSN.out, HC.out]
              exact F1.out
            refine AllReadyIn.cons rfl (fun K hK => ?_) AllReadyIn.nil
            go_simp
            refine hK _ _ ?_
            clear hK K
            refine wpAnyIn_ready (rs := [0, 1, 3]) (by kernel_rfl) (by simp) ?_
            refine AllReadyIn.cons rfl (fun K hK => ?_) ?_
            · go_simp
              refine hK _ _ ?_
              clear hK K
              refine wpAnyIn_ready (rs := [1, 3]) (by kernel_rfl) (by simp) ?_
              refine AllReadyIn.cons rfl (fun K hK => ?_) ?_
              · go_simp
                refine hK _ _ ?_
                clear hK K
                refine wpAnyIn_ready (rs := [3]) (by kernel_rfl) (by simp) ?_
                refine AllReadyIn.cons rfl (fun K hK => ?_) AllReadyIn.nil
                go_simp
                refine hK _ _ ?_
                clear hK K
                refine wpAnyIn_ready (rs := [4]) (by kernel_rfl) (by simp) ?_
                refine AllReadyIn.cons rfl (fun K hK => ?_) AllReadyIn.nil
                go_simp
                gi_wp2
                refine wpAnyIn_ready (rs := [5]) (by kernel_rfl) (by simp) ?_
                refine AllReadyIn.cons rfl (fun K hK => ?_) AllReadyIn.nil
                go_simp
                refine hK _ _ ?_
                clear hK K
                refine wpAnyIn_ready (rs := [6]) (by kernel_rfl) (by simp) ?_
                refine AllReadyIn.cons rfl (fun K hK => ?_) AllReadyIn.nil
                go_simp
                refine hK _ _ ?_
                clear hK K
                refine wpAnyIn_ready (rs := [7]) (by kernel_rfl) (by simp) ?_
                refine AllReadyIn.cons rfl (fun K hK => ?_) AllReadyIn.nil
                go_simp
                refine hK _ _ ?_
                clear hK K
                refine wpAnyIn_ready (rs := [8]) (by kernel_rfl) (by simp) ?_
                refine AllReadyIn.cons rfl (fun K hK => ?_) AllReadyIn.nil
                refine op_append rfl _ _ _ rfl _ _ _ rfl rfl hrun ?_
                refine hK _ _ ?_
                clear hK K
                refine wpAnyIn_ready (rs := [9]) (by kernel_rfl) (by simp) ?_
                refine AllReadyIn.cons rfl (fun K hK => ?_) AllReadyIn.nil
                go_simp
                refine hK _ _ ?_
                clear hK K
                refine wpAnyIn_done (by kernel_rfl) ?_ _
                gi_wp2
                refine ⟨F3.out, F2.out, ?_⟩
                show Inn W.heap.size l ol n₀ BO _ oc W J Ds ((hlist ra rl rc hd ((numsOf (pre ++ [⟨(k : Int), hx⟩])).foldl comeN (ordL X r i))).drop (i + 1)) ((numsOf (pre ++ [⟨(k : Int), hx⟩])).foldl comeN (ordL X r i)) _
                rw [HSN.out, HC.out]
                exact F1.out
              refine AllReadyIn.cons rfl (fun K hK => ?_) AllReadyIn.nil
              go_simp
              refine hK _ _ ?_
              clear hK K
              refine wpAnyIn_ready (rs := [1]) (by kernel_rfl) (by simp) ?_
              refine AllReadyIn.cons rfl (fun K hK => ?_) AllReadyIn.nil
              go_simp
              refine hK _ _ ?_
              clear hK K
              refine wpAnyIn_ready (rs := [4]) (by kernel_rfl) (by simp) ?_
              refine AllReadyIn.cons rfl (fun K hK => ?_) AllReadyIn.nil
              go_simp
              gi_wp2
              refine wpAnyIn_ready (rs := [5]) (by kernel_rfl) (by simp) ?_
              refine AllReadyIn.cons rfl (fun K hK => ?_) AllReadyIn.nil
              go_simp
              refine hK _ _ ?_
              clear hK K
              refine wpAnyIn_ready (rs := [6]) (by kernel_rfl) (by simp) ?_
              refine AllReadyIn.cons rfl (fun K hK => ?_) AllReadyIn.nil
              go_simp
              refine hK _ _ ?_
              clear hK K
              refine wpAnyIn_ready (rs := [7]) (by kernel_rfl) (by simp) ?_
              refine AllReadyIn.cons rfl (fun K hK => ?_) AllReadyIn.nil
              go_simp
              refine hK _ _ ?_
              clear hK K
              refine wpAnyIn_ready (rs := [8]) (by kernel_rfl) (by simp) ?_
              refine AllReadyIn.cons rfl (fun K hK => ?_) AllReadyIn.nil
              refine op_append rfl _ _ _ rfl _ _ _ rfl rfl hrun ?_
              refine hK _ _ ?_
              clear hK K
              refine wpAnyIn_ready (rs := [9]) (by kernel_rfl) (by simp) ?_
              refine AllReadyIn.cons rfl (fun K hK => ?_) AllReadyIn.nil
              go_simp
              refine hK _ _ ?_
              clear hK K
              refine wpAnyIn_done (by kernel_rfl) ?_ _
              gi_wp2
              refine ⟨F3.out, F2.out, ?_⟩
              show Inn W.heap.size l ol n₀ BO _ oc W J Ds ((hlist ra rl rc hd ((numsOf (pre ++ [⟨(k : Int), hx⟩])).foldl comeN (ordL X r i))).drop (i + 1)) ((numsOf (pre ++ [⟨(k : Int), hx⟩])).foldl comeN (ordL X r i)) _
              rw [HSN.out, HC.out]
              exact F1.out
            refine AllReadyIn.cons rfl (fun K hK => ?_) ?_
            · go_simp
              refine hK _ _ ?_
              clear hK K
              refine wpAnyIn_ready (rs := [0, 3]) (by kernel_rfl) (by simp) ?_
              refine AllReadyIn.cons rfl (fun K hK => ?_) ?_
              · go_simp
                refine hK _ _ ?_
                clear hK K
                refine wpAnyIn_ready (rs := [3]) (by kernel_rfl) (by simp) ?_
                refine AllReadyIn.cons rfl (fun K hK => ?_) AllReadyIn.nil
                go_simp
                refine hK _ _ ?_
                clear hK K
                refine wpAnyIn_ready (rs := [4]) (by kernel_rfl) (by simp) ?_
                refine AllReadyIn.cons rfl (fun K hK => ?_) AllReadyIn.nil
                go_simp
                gi_wp2
                refine wpAnyIn_ready (rs := [5]) (by kernel_rfl) (by simp) ?_
                refine AllReadyIn.cons rfl (fun K hK => ?_) AllReadyIn.nil
                go_simp
                refine hK _ _ ?_
                clear hK K
                refine wpAnyIn_ready (rs := [6]) (by kernel_rfl) (by simp) ?_
                refine AllReadyIn.cons rfl (fun K hK => ?_) AllReadyIn.nil
                go_simp
                refine hK _ _ ?_
                clear hK K
                refine wpAnyIn_ready (rs := [7]) (by kernel_rfl) (by simp) ?_
                refine AllReadyIn.cons rfl (fun K hK => ?_) AllReadyIn.nil
                go_simp
                refine hK _ _ ?_
                clear hK K
                refine wpAnyIn_ready (rs := [8]) (by kernel_rfl) (by simp) ?_
                refine AllReadyIn.cons rfl (fun K hK => ?_) AllReadyIn.nil
                refine op_append rfl _ _ _ rfl _ _ _ rfl rfl hrun ?_
                refine hK _ _ ?_
                clear hK K
                refine wpAnyIn_ready (rs := [9]) (by kernel_rfl) (by simp) ?_
                refine AllReadyIn.cons rfl (fun K hK => ?_) AllReadyIn.nil
                go_simp
                refine hK _ _ ?_
                clear hK K
                refine wpAnyIn_done (by kernel_rfl) ?_ _
                gi_wp2
                refine ⟨F3.out, F2.out, ?_⟩
                show Inn W.heap.size l ol n₀ BO _ oc W J Ds ((hlist ra rl rc hd ((numsOf (pre ++ [⟨(k : Int), hx⟩])).foldl comeN (ordL X r i))).drop (i + 1)) ((numsOf (pre ++ [⟨(k : Int), hx⟩])).foldl comeN (ordL X r i)) _
                rw [HSN.out, HC.out]
                exact F1.out
              refine AllReadyIn.cons rfl (fun K hK => ?_) AllReadyIn.nil
              go_simp
              refine hK _ _ ?_
              clear hK K
              refine wpAnyIn_ready (rs := [0, 4]) (by kernel_rfl) (by simp) ?_
              refine AllReadyIn.cons rfl (fun K hK => ?_) ?_
              · go_simp
                refine hK _ _ ?_
                clear hK K
                refine wpAnyIn_ready (rs := [4]) (by kernel_rfl) (by simp) ?_
                refine AllReadyIn.cons rfl (fun K hK => ?_) AllReadyIn.nil
                go_simp
                gi_wp2
                refine wpAnyIn_ready (rs := [5]) (by kernel_rfl) (by simp) ?_
                refine AllReadyIn.cons rfl (fun K hK => ?_) AllReadyIn.nil
                go_simp
                refine hK _ _ ?_
                clear hK K
                refine wpAnyIn_ready (rs := [6]) (by kernel_rfl) (by simp) ?_
                refine AllReadyIn.cons rfl (fun K hK => ?_) AllReadyIn.nil
                go_simp
                refine hK _ _ ?_
                clear hK K
                refine wpAnyIn_ready (rs := [7]) (by kernel_rfl) (by simp) ?_
                refine AllReadyIn.cons rfl (fun K hK => ?_) AllReadyIn.nil
                go_simp
                refine hK _ _ ?_
                clear hK K
                refine wpAnyIn_ready (rs := [8]) (by kernel_rfl) (by simp) ?_
                refine AllReadyIn.cons rfl (fun K hK => ?_) AllReadyIn.nil
                refine op_append rfl _ _ _ rfl _ _ _ rfl rfl hrun ?_
                refine hK _ _ ?_
                clear hK K
                refine wpAnyIn_ready (rs := [9]) (by kernel_rfl) (by simp) ?_
                refine AllReadyIn.cons rfl (fun K hK => ?_) AllReadyIn.nil
                go_simp
                refine hK _ _ ?_
                clear hK K
                refine wpAnyIn_done (by kernel_rfl) ?_ _
                gi_wp2
                refine ⟨F3.out, F2.out, ?_⟩
                show Inn W.heap.size l ol n₀ BO _ oc W J Ds ((hlist ra rl rc hd ((numsOf (pre ++ [⟨(k : Int), hx⟩])).foldl comeN (ordL X r i))).drop (i + 1)) ((numsOf (pre ++ [⟨(k : Int), hx⟩])).foldl comeN (ordL X r i)) _
                rw [HSN.out, HC.out]
                exact F1.out
              refine AllReadyIn.cons rfl (fun K hK => ?_) AllReadyIn.nil
              go_simp
              gi_wp2
              refine wpAnyIn_ready (rs := [0, 5]) (by kernel_rfl) (by simp) ?_
              refine AllReadyIn.cons rfl (fun K hK => ?_) ?_
              · go_simp
                refine hK _ _ ?_
                clear hK K
                refine wpAnyIn_ready (rs := [5]) (by kernel_rfl) (by simp) ?_
                refine AllReadyIn.cons rfl (fun K hK => ?_) AllReadyIn.nil
                go_simp
                refine hK _ _ ?_
                clear hK K
                refine wpAnyIn_ready (rs := [6]) (by kernel_rfl) (by simp) ?_
                refine AllReadyIn.cons rfl (fun K hK => ?_) AllReadyIn.nil
                go_simp
                refine hK _ _ ?_
                clear hK K
                refine wpAnyIn_ready (rs := [7]) (by kernel_rfl) (by simp) ?_
                refine AllReadyIn.cons rfl (fun K hK => ?_) AllReadyIn.nil
                go_simp
                refine hK _ _ ?_
                clear hK K
                refine wpAnyIn_ready (rs := [8]) (by kernel_rfl) (by simp) ?_
                refine AllReadyIn.cons rfl (fun K hK => ?_) AllReadyIn.nil
                refine op_append rfl _ _ _ rfl _ _ _ rfl rfl hrun ?_
                refine hK _ _ ?_
                clear hK K
                refine wpAnyIn_ready (rs := [9]) (by kernel_rfl) (by simp) ?_
                refine AllReadyIn.cons rfl (fun K hK => ?_) AllReadyIn.nil
                go_simp
                refine hK _ _ ?_
                clear hK K
                refine wpAnyIn_done (by kernel_rfl) ?_ _
                gi_wp2
                refine ⟨F3.out, F2.out, ?_⟩
                show Inn W.heap.size l ol n₀ BO _ oc W J Ds ((hlist ra rl rc hd ((numsOf (pre ++ [⟨(k : Int), hx⟩])).foldl comeN (ordL X r i))).drop (i + 1)) ((numsOf (pre ++ [⟨(k : Int), hx⟩])).foldl comeN (ordL X r i)) _
                rw [HSN.out, HC.out]
                exact F1.out
              refine AllReadyIn.cons rfl (fun K hK => ?_) AllReadyIn.nil
              go_simp
              refine hK _ _ ?_
              clear hK K
              refine wpAnyIn_ready (rs := [0, 6]) (by kernel_rfl) (by simp) ?_
              refine AllReadyIn.cons rfl (fun K hK => ?_) ?_
              · go_simp
                refine hK _ _ ?_
                clear hK K
                refine wpAnyIn_ready (rs := [6]) (by kernel_rfl) (by simp) ?_
                refine AllReadyIn.cons rfl (fun K hK => ?_) AllReadyIn.nil
                go_simp
                refine hK _ _ ?_
                clear hK K
                refine wpAnyIn_ready (rs := [7]) (by kernel_rfl) (by simp) ?_
                refine AllReadyIn.cons rfl (fun K hK => ?_) AllReadyIn.nil
                go_simp
                refine hK _ _ ?_
                clear hK K
                refine wpAnyIn_ready (rs := [8]) (by kernel_rfl) (by simp) ?_
                refine AllReadyIn.cons rfl (fun K hK => ?_) AllReadyIn.nil
                refine op_append rfl _ _ _ rfl _ _ _ rfl rfl hrun ?_
                refine hK _ _ ?_
                clear hK K
                refine wpAnyIn_ready (rs := [9]) (by kernel_rfl) (by simp) ?_
                refine AllReadyIn.cons rfl (fun K hK => ?_) AllReadyIn.nil
                go_simp
                refine hK _ _ ?_
                clear hK K
                refine wpAnyIn_done (by kernel_rfl) ?_ _
                gi_wp2
                refine ⟨F3.out, F2.out, ?_⟩
                show Inn W.heap.size l ol n₀ BO _ oc W J Ds ((hlist ra rl rc hd ((numsOf (pre ++ [⟨(k : Int), hx⟩])).foldl comeN (ordL X r i))).drop (i + 1)) ((numsOf (pre ++ [⟨(k : Int), hx⟩])).foldl comeN (ordL X r i)) _
                rw [HSN.out, HC.out]
                exact F1.out
              refine AllReadyIn.cons rfl (fun K hK => ?_) AllReadyIn.nil
              go_simp
              refine hK _ _ ?_
              clear hK K
              refine wpAnyIn_ready (rs := [0, 7]) (by kernel_rfl) (by simp) ?_
              refine AllReadyIn.cons rfl (fun K hK => ?_) ?_
              · go_simp
                refine hK _ _ ?_
                clear hK K
                refine wpAnyIn_ready (rs := [7]) (by kernel_rfl) (by simp) ?_
                refine AllReadyIn.cons rfl (fun K hK => ?_) AllReadyIn.nil
                go_simp
                refine hK _ _ ?_
                clear hK K
                refine wpAnyIn_ready (rs := [8]) (by kernel_rfl) (by simp) ?_
                refine AllReadyIn.cons rfl (fun K hK => ?_) AllReadyIn.nil
                refine op_append rfl _ _ _ rfl _ _ _ rfl rfl hrun ?_
                refine hK _ _ ?_
                clear hK K
                refine wpAnyIn_ready (rs := [9]) (by kernel_rfl) (by simp) ?_
                refine AllReadyIn.cons rfl (fun K hK => ?_) AllReadyIn.nil
                go_simp
                refine hK _ _ ?_
                clear hK K
                refine wpAnyIn_done (by kernel_rfl) ?_ _
                gi_wp2
                refine ⟨F3.out, F2.out, ?_⟩
                show Inn W.heap.size l ol n₀ BO _ oc W J Ds ((hlist ra rl rc hd ((numsOf (pre ++ [⟨(k : Int), hx⟩])).foldl comeN (ordL X r i))).drop (i + 1)) ((numsOf (pre ++ [⟨(k : Int), hx⟩])).foldl comeN (ordL X r i)) _
                rw [HSN.out, HC.out]
                exact F1.out
              refine AllReadyIn.cons rfl (fun K hK => ?_) AllReadyIn.nil
              go_simp
              refine hK _ _ ?_
              clear hK K
              refine wpAnyIn_ready (rs := [0]) (by kernel_rfl) (by simp) ?_
              refine AllReadyIn.cons rfl (fun K hK => ?_) AllReadyIn.nil
              go_simp
              refine hK _ _ ?_
              clear hK K
              refine wpAnyIn_ready (rs := [8]) (by kernel_rfl) (by simp) ?_
              refine AllReadyIn.cons rfl (fun K hK => ?_) AllReadyIn.nil
              refine op_append rfl _ _ _ rfl _ _ _ rfl rfl hrun ?_
              refine hK _ _ ?_
              clear hK K
              refine wpAnyIn_ready (rs := [9]) (by kernel_rfl) (by simp) ?_
              refine AllReadyIn.cons rfl (fun K hK => ?_) AllReadyIn.nil
              go_simp
              refine hK _ _ ?_
              clear hK K
              refine wpAnyIn_done (by kernel_rfl) ?_ _
              gi_wp2
              refine ⟨F3.out, F2.out, ?_⟩
              show Inn W.heap.size l ol n₀ BO _ oc W J Ds ((hlist ra rl rc hd ((numsOf (pre ++ [⟨(k : Int), hx⟩])).foldl comeN (ordL X r i))).drop (i + 1)) ((numsOf (pre ++ [⟨(k : Int), hx⟩])).foldl comeN (ordL X r i)) _
              rw [HSN.out, HC.out]
              exact F1.out
            refine AllReadyIn.cons rfl (fun K hK => ?_) AllReadyIn.nil
            go_simp
            refine hK _ _ ?_
            clear hK K
            refine wpAnyIn_ready (rs := [0, 1]) (by kernel_rfl) (by simp) ?_
            refine AllReadyIn.cons rfl (fun K hK => ?_) ?_
            · go_simp
              refine hK _ _ ?_
              clear hK K
              refine wpAnyIn_ready (rs := [1]) (by kernel_rfl) (by simp) ?_
              refine AllReadyIn.cons rfl (fun K hK => ?_) AllReadyIn.nil
              go_simp
              refine hK _ _ ?_
              clear hK K
              refine wpAnyIn_ready (rs := [4]) (by kernel_rfl) (by simp) ?_
              refine AllReadyIn.cons rfl (fun K hK => ?_) AllReadyIn.nil
              go_simp
              gi_wp2
              refine wpAnyIn_ready (rs := [5]) (by kernel_rfl) (by simp) ?_
              refine AllReadyIn.cons rfl (fun K hK => ?_) AllReadyIn.nil
              go_simp
              refine hK _ _ ?_
              clear hK K
              refine wpAnyIn_ready (rs := [6]) (by kernel_rfl) (by simp) ?_
              refine AllReadyIn.cons rfl (fun K hK => ?_) AllReadyIn.nil
              go_simp
              refine hK _ _ ?_
              clear hK K
              refine wpAnyIn_ready (rs := [7]) (by kernel_rfl) (by simp) ?_
              refine AllReadyIn.cons rfl (fun K hK => ?_) AllReadyIn.nil
              go_simp
              refine hK _ _ ?_
              clear hK K
              refine wpAnyIn_ready (rs := [8]) (by kernel_rfl) (by simp) ?_
              refine AllReadyIn.cons rfl (fun K hK => ?_) AllReadyIn.nil
              refine op_append rfl _ _ _ rfl _ _ _ rfl rfl hrun ?_
              refine hK _ _ ?_
              clear hK K
              refine wpAnyIn_ready (rs := [9]) (by kernel_rfl) (by simp) ?_
              refine AllReadyIn.cons rfl (fun K hK => ?_) AllReadyIn.nil
              go_simp
              refine hK _ _ ?_
              clear hK K
              refine wpAnyIn_done (by kernel_rfl) ?_ _
              gi_wp2
              refine ⟨F3.out, F2.out, ?_⟩
              show Inn W.heap.size l ol n₀ BO _ oc W J Ds ((hlist ra rl rc hd ((numsOf (pre ++ [⟨(k : Int), hx⟩])).foldl comeN (ordL X r i))).drop (i + 1)) ((numsOf (pre ++ [⟨(k : Int), hx⟩])).foldl comeN (ordL X r i)) _
              rw [HSN.out, HC.out]
              exact F1.out
            refine AllReadyIn.cons rfl (fun K hK => ?_) AllReadyIn.nil
            go_simp
            refine hK _ _ ?_
            clear hK K
            refine wpAnyIn_ready (rs := [0, 4]) (by kernel_rfl) (by simp) ?_
            refine AllReadyIn.cons rfl (fun K hK => ?_) ?_
            · go_simp
              refine hK _ _ ?_
              clear hK K
              refine wpAnyIn_ready (rs := [4]) (by kernel_rfl) (by simp) ?_
              refine AllReadyIn.cons rfl (fun K hK => ?_) AllReadyIn.nil
              go_simp
              gi_wp2
              refine wpAnyIn_ready (rs := [5]) (by kernel_rfl) (by simp) ?_
              refine AllReadyIn.cons rfl (fun K hK => ?_) AllReadyIn.nil
              go_simp
              refine hK _ _ ?_
              clear hK K
              refine wpAnyIn_ready (rs := [6]) (by kernel_rfl) (by simp) ?_
              refine AllReadyIn.cons rfl (fun K hK => ?_) AllReadyIn.nil
              go_simp
              refine hK _ _ ?_
              clear hK K
              refine wpAnyIn_ready (rs := [7]) (by kernel_rfl) (by simp) ?_
              refine AllReadyIn.cons rfl (fun K hK => ?_) AllReadyIn.nil
              go_simp
              refine hK _ _ ?_
              clear hK K
              refine wpAnyIn_ready (rs := [8]) (by kernel_rfl) (by simp) ?_
              refine AllReadyIn.cons rfl (fun K hK => ?_) AllReadyIn.nil
              refine op_append rfl _ _ _ rfl _ _ _ rfl rfl hrun ?_
              refine hK _ _ ?_
              clear hK K
              refine wpAnyIn_ready (rs := [9]) (by kernel_rfl) (by simp) ?_
              refine AllReadyIn.cons rfl (fun K hK => ?_) AllReadyIn.nil
              go_simp
              refine hK _ _ ?_
              clear hK K
              refine wpAnyIn_done (by kernel_rfl) ?_ _
              gi_wp2
              refine ⟨F3.out, F2.out, ?_⟩
              show Inn W.heap.size l ol n₀ BO _ oc W J Ds ((hlist ra rl rc hd ((numsOf (pre ++ [⟨(k : Int), hx⟩])).foldl comeN (ordL X r i))).drop (i + 1)) ((numsOf (pre ++ [⟨(k : Int), hx⟩])).foldl comeN (ordL X r i)) _
              rw [HSN.out, HC.out]
              exact F1.out
            refine AllReadyIn.cons rfl (fun K hK => ?_) AllReadyIn.nil
            go_simp
            gi_wp2
            refine wpAnyIn_ready (rs := [0, 5]) (by kernel_rfl) (by simp) ?_
            refine AllReadyIn.cons rfl (fun K hK => ?_) ?_
            · go_simp
              refine hK _ _ ?_
              clear hK K
              refine wpAnyIn_ready (rs := [5]) (by kernel_rfl) (by simp) ?_
              refine AllReadyIn.cons rfl (fun K hK => ?_) AllReadyIn.nil
              go_simp
              refine hK _ _ ?_
              clear hK K
              refine wpAnyIn_ready (rs := [6]) (by kernel_rfl) (by simp) ?_
              refine AllReadyIn.cons rfl (fun K hK => ?_) AllReadyIn.nil
              go_simp
              refine hK _ _ ?_
              clear hK K
              refine wpAnyIn_ready (rs := [7]) (by kernel_rfl) (by simp) ?_
              refine AllReadyIn.cons rfl (fun K hK => ?_) AllReadyIn.nil
              go_simp
              refine hK _ _ ?_
              clear hK K
              refine wpAnyIn_ready (rs := [8]) (by kernel_rfl) (by simp) ?_
              refine AllReadyIn.cons rfl (fun K hK => ?_) AllReadyIn.nil
              refine op_append rfl _ _ _ rfl _ _ _ rfl rfl hrun ?_
              refine hK _ _ ?_
              clear hK K
              refine wpAnyIn_ready (rs := [9]) (by kernel_rfl) (by simp) ?_
              refine AllReadyIn.cons rfl (fun K hK => ?_) AllReadyIn.nil
              go_simp
              refine hK _ _ ?_
              clear hK K
              refine wpAnyIn_done (by kernel_rfl) ?_ _
              gi_wp2
              refine ⟨F3.out, F2.out, ?_⟩
              show Inn W.heap.size l ol n₀ BO _ oc W J Ds ((hlist ra rl rc hd ((numsOf (pre ++ [⟨(k : Int), hx⟩])).foldl comeN (ordL X r i))).drop (i + 1)) ((numsOf (pre ++ [⟨(k : Int), hx⟩])).foldl comeN (ordL X r i)) _
              rw [HSN.out, HC.out]
              exact F1.out
            refine AllReadyIn.cons rfl (fun K hK => ?_) AllReadyIn.nil
            go_simp
            refine hK _ _ ?_
            clear hK K
            refine wpAnyIn_ready (rs := [0, 6]) (by kernel_rfl) (by simp) ?_
            refine AllReadyIn.cons rfl (fun K hK => ?_) ?_
            · go_simp
              refine hK _ _ ?_
              clear hK K
              refine wpAnyIn_ready (rs := [6]) (by kernel_rfl) (by simp) ?_
              refine AllReadyIn.cons rfl (fun K hK => ?_) AllReadyIn.nil
              go_simp
              refine hK _ _ ?_
              clear hK K
              refine wpAnyIn_ready (rs := [7]) (by kernel_rfl) (by simp) ?_
              refine AllReadyIn.cons rfl (fun K hK => ?_) AllReadyIn.nil
              go_simp
              refine hK _ _ ?_
              clear hK K
              refine wpAnyIn_ready (rs := [8]) (by kernel_rfl) (by simp) ?_
              refine AllReadyIn.cons rfl (fun K hK => ?_) AllReadyIn.nil
              refine op_append rfl _ _ _ rfl _ _ _ rfl rfl hrun ?_
              refine hK _ _ ?_
              clear hK K
              refine wpAnyIn_ready (rs := [9]) (by kernel_rfl) (by simp) ?_
              refine AllReadyIn.cons rfl (fun K hK => ?_) AllReadyIn.nil
              go_simp
              refine hK _ _ ?_
              clear hK K
              refine wpAnyIn_done (by kernel_rfl) ?_ _
              gi_wp2
              refine ⟨F3.out, F2.out, ?_⟩
              show Inn W.heap.size l ol n₀ BO _ oc W J Ds ((hlist ra rl rc hd ((numsOf (pre ++ [⟨(k : Int), hx⟩])).foldl comeN (ordL X r i))).drop (i + 1)) ((numsOf (pre ++ [⟨(k : Int), hx⟩])).foldl comeN (ordL X r i)) _
              rw [HSN.out, HC.out]
              exact F1.out
            refine AllReadyIn.cons rfl (fun K hK => ?_) AllReadyIn.nil
            go_simp
            refine hK _ _ ?_
            clear hK K
            refine wpAnyIn_ready (rs := [0, 7]) (by kernel_rfl) (by simp) ?_
            refine AllReadyIn.cons rfl (fun K hK => ?_) ?_
            · go_simp
              refine hK _ _ ?_
              clear hK K
              refine wpAnyIn_ready (rs := [7]) (by kernel_rfl) (by simp) ?_
              refine AllReadyIn.cons rfl (fun K hK => ?_) AllReadyIn.nil
              go_simp
              refine hK _ _ ?_
              clear hK K
              refine wpAnyIn_ready (rs := [8]) (by kernel_rfl) (by simp) ?_
              refine AllReadyIn.cons rfl (fun K hK => ?_) AllReadyIn.nil
              refine op_append rfl _ _ _ rfl _ _ _ rfl rfl hrun ?_
              refine hK _ _ ?_
              clear hK K
              refine wpAnyIn_ready (rs := [9]) (by kernel_rfl) (by simp) ?_
              refine AllReadyIn.cons rfl (fun K hK => ?_) AllReadyIn.nil
              go_simp
              refine hK _ _ ?_
              clear hK K
              refine wpAnyIn_done (by kernel_rfl) ?_ _
              gi_wp2
              refine ⟨F3.out, F2.out, ?_⟩
              show Inn W.heap.size l ol n₀ BO _ oc W J Ds ((hlist ra rl rc hd ((numsOf (pre ++ [⟨(k : Int), hx⟩])).foldl comeN (ordL X r i))).drop (i + 1)) ((numsOf (pre ++ [⟨(k : Int), hx⟩])).foldl comeN (ordL X r i)) _
              rw [HSN.out, HC.out]
              exact F1.out
            refine AllReadyIn.cons rfl (fun K hK => ?_) AllReadyIn.nil
            go_simp
            refine hK _ _ ?_
            clear hK K
            refine wpAnyIn_ready (rs := [0]) (by kernel_rfl) (by simp) ?_
            refine AllReadyIn.cons rfl (fun K hK => ?_) AllReadyIn.nil
            go_simp
            refine hK _ _ ?_
            clear hK K
            refine wpAnyIn_ready (rs := [8]) (by kernel_rfl) (by simp) ?_
            refine AllReadyIn.cons rfl (fun K hK => ?_) AllReadyIn.nil
            refine op_append rfl _ _ _ rfl _ _ _ rfl rfl hrun ?_
            refine hK _ _ ?_
            clear hK K
            refine wpAnyIn_ready (rs := [9]) (by kernel_rfl) (by simp) ?_
            refine AllReadyIn.cons rfl (fun K hK => ?_) AllReadyIn.nil
            go_simp
            refine hK _ _ ?_
            clear hK K
            refine wpAnyIn_done (by kernel_rfl) ?_ _
            gi_wp2
            refine ⟨F3.out, F2.out, ?_⟩
            show Inn W.heap.size l ol n₀ BO _ oc W J Ds ((hlist ra rl rc hd ((numsOf (pre ++ [⟨(k : Int), hx⟩])).foldl comeN (ordL X r i))).drop (i + 1)) ((numsOf (pre ++ [⟨(k : Int), hx⟩])).foldl comeN (ordL X r i)) _
            rw [HSN.out, HC.out]
            exact F1.out

end Go.Proofs.Ytacapffmdmpnkaa
