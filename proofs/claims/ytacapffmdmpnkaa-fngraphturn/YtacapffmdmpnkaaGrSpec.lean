/-
  HeapGraph of the specification: what it answers at every list of things and of roots; it writes nothing that was there.
-/
import Derived.Test.YtacapffmdmpnkaaAllS
import Derived.Deep.RegionHeld3
namespace Go.Proofs.Ytacapffmdmpnkaa
open Go.ChangeShapes Go.WideShapes Go.ChangeAt Go.RowKit

theorem order_at_i {base P NB N : Nat} {o : List Int} {W : World} (h : Wk base P NB N o W) (ho : Ordr N o) (hN : N ≤ 1048576) {i : Nat} {n : Int} (hi : o[i]? = some n) : ∃ b off c, W.cell? ⟨P, 1, none⟩ = some (.slice (some ⟨b, off, none⟩) o.length c) ∧ W.cell? ⟨b, off + i, none⟩ = some (.int .i64 (n - 1)) := by
  obtain ⟨a, c, h1, h2⟩ := h.p1
  have hl := ho.le
  have hlt := (List.getElem?_eq_some_iff.1 hi).1
  have h2' : W.ownsRow base 3 1 (.slice a o.length c) o.length ((o.map (fun n => n - 1)).map (Value.int .i64)) := h2
  have h3 := (own_at h2' (by omega) (fits_lit (fun x hx => by
    obtain ⟨y, hy, rfl⟩ := List.mem_map.1 hx
    have := ho.inn y hy
    unfold isN at this
    omega))).1
  rcases h3.cells with h0 | ⟨b, off, rfl, _, hc⟩
  · omega
  · have := hc i hlt
    rw [List.getD_eq_getElem?_getD, List.getElem?_map, hi] at this
    exact ⟨b, off, c, h1, this⟩
theorem comeV_ord {N : Nat} {o : List Int} (h : Ordr N o) {v : Vl} (hv : valB N v = true) : Ordr N (comeV o v) := by
  unfold comeV
  by_cases e : v.1 = true ∧ v.2 ≠ 0
  · rw [if_pos e]
    refine h.come ?_
    simp [valB, e.1] at hv
    have := e.2
    exact ⟨by omega, by omega⟩
  · rw [if_neg e]; exact h
theorem foldV_ord {N : Nat} : ∀ (xs : List Vl) {o : List Int}, Ordr N o → xs.all (valB N) = true → Ordr N (xs.foldl comeV o)
  | [], _, h, _ => h
  | v :: vs, _, h, hv => by
    rw [List.all_cons, Bool.and_eq_true] at hv
    exact foldV_ord vs (comeV_ord h hv.1) hv.2
theorem foldV_take {xs : List Vl} {k : Nat} {v : Vl} (h : xs[k]? = some v) (o : List Int) : (xs.take (k + 1)).foldl comeV o = comeV ((xs.take k).foldl comeV o) v := by
  rw [List.take_add_one, h, List.foldl_append]; rfl
theorem allV_take {α : Type} {p : α → Bool} {xs : List α} (h : xs.all p = true) (k : Nat) : (xs.take k).all p = true :=
  List.all_eq_true.2 fun x hx => List.all_eq_true.1 h x (List.mem_of_mem_take hx)
theorem ord_one (X : List Ob) (r : List Vl) : ordL X r 1 = r.foldl comeV [] := by rw [comeV_fold]; rfl
theorem ord_next {X : List Ob} {r : List Vl} {i : Nat} {n : Int} (h : (ordL X r (i + 1))[i]? = some n) : ordL X r (i + 1 + 1) = (valsOf X n).foldl comeV (ordL X r (i + 1)) := by
  rw [comeV_fold]
  conv => lhs; rw [ordL]
  have : (listsOf X r (ordL X r (i + 1)))[i + 1]? = some (valsOf X n) := by simp [listsOf, h]
  rw [this]

theorem sl_i64 {w : World} {D : Nat → Prop} {a : Option Addr} {l : Nat} {xs : List Vl} (h : SlAt vaR D w a l xs) : ∀ v ∈ xs, i64B v.2 := fun v hv => by
  obtain ⟨i, hi⟩ := List.getElem?_of_mem hv
  obtain ⟨b, off, _, _, vs, ⟨_, _, rfl, _, rfl, hb⟩, _⟩ := h.at i v hi
  exact hb
theorem obj_i64 {w : World} {D : Nat → Prop} {a : Option Addr} {l : Nat} {X : List Ob} (h : SlAt obR D w a l X) : ∀ x ∈ X, ∀ v ∈ x.2, i64B v.2 := fun x hx => by
  obtain ⟨i, hi⟩ := List.getElem?_of_mem hx
  obtain ⟨b, off, _, _, vs, ⟨_, _, rfl, _, va, vl, vc, rfl, hL⟩, _⟩ := h.at i x hi
  exact sl_i64 hL
theorem ren_i64 {o : List Int} (ho : o.length ≤ 1048576) {xs : List Vl} (h : ∀ v ∈ xs, i64B v.2) : ∀ v ∈ xs.map (renV o), i64B v.2 := fun v hv => by
  obtain ⟨z, hz, rfl⟩ := List.mem_map.1 hv
  unfold renV
  by_cases e : z.1 = true
  · rw [if_pos e]
    have := idxN_range o z.2
    exact ⟨by simp only; omega, by simp only; omega⟩
  · rw [if_neg e]
    exact h z hz
theorem graph_of {X : List Ob} {r : List Vl} (hs : (Rep.list obR).small X) (hi : ∀ x ∈ X, ∀ v ∈ x.2, i64B v.2) (ho : (orderOf X r).length ≤ 1048576) : ∀ x ∈ graphOf X r, x.2.length ≤ 1048576 ∧ ∀ v ∈ x.2, i64B v.2 := fun x hx => by
  obtain ⟨n, _, rfl⟩ := List.mem_map.1 hx
  have hV : (valsOf X n).length ≤ 1048576 ∧ ∀ v ∈ valsOf X n, i64B v.2 := by
    rw [valsOf, List.getD_eq_getElem?_getD]
    cases e : X[n.toNat - 1]? with
    | none => simp
    | some p => exact ⟨(hs.2 p (List.mem_of_getElem? e)).2.1, hi p (List.mem_of_getElem? e)⟩
  exact ⟨by simpa using hV.1, ren_i64 ho hV.2⟩

/-- The cells of things, of which the lists lie in memory of their own. -/
structure OutR (w : World) (base : Nat) (gs : List Ob) (k : Nat) (L : List Value) : Prop where
  len : L.length = k * 2
  at' : ∀ (j : Nat) (x : Ob), j < k → gs[j]? = some x → L[j * 2]? = some (.int .i64 x.1) ∧ i64B x.1 ∧ ∃ a c, L[j * 2 + 1]? = some (.slice a x.2.length c) ∧ w.ownsRow base 32 2 (.slice a x.2.length c) x.2.length (flatV x.2)
theorem OutR.keep {w w' : World} {base k : Nat} {gs : List Ob} {L : List Value} (h : OutR w base gs k L) (hk : ∀ (g : Nat) (cur : Array Value), w.heap[g]? = some (.cells cur 32 (0, 0)) → w'.heap[g]? = w.heap[g]?) : OutR w' base gs k L :=
  ⟨h.len, fun j x hj hx => by
    obtain ⟨h1, h2, a, c, h3, h4⟩ := h.at' j x hj hx
    refine ⟨h1, h2, a, c, h3, own_keep' h4 (fun g hg => ?_)⟩
    rcases h4.2 with ⟨e, _⟩ | ⟨g2, cap, cur, e, _, hcur, _⟩
    · rw [e] at hg; simp [Value.ownBlock] at hg
    · rw [e] at hg
      obtain rfl : g2 = g := by simpa [Value.ownBlock] using hg
      exact hk g2 cur hcur⟩
theorem OutR.snoc {w : World} {base k : Nat} {gs : List Ob} {L : List Value} {x : Ob} {a : Option Addr} {c m : Nat} (h : OutR w base gs k L) (hx : gs[k]? = some x) (hi : i64B x.1) (hm : x.2.length = m) (hw : w.ownsRow base 32 2 (.slice a m c) m (flatV x.2)) : OutR w base gs (k + 1) (L ++ [.int .i64 x.1, .slice a m c]) := by
  subst hm
  refine ⟨by rw [List.length_append, h.len]; simp; omega, fun j y hj hy => ?_⟩
  by_cases e : j = k
  · subst e
    obtain rfl : y = x := by rw [hx] at hy; simpa using hy.symm
    refine ⟨?_, hi, a, c, ?_, hw⟩
    · rw [List.getElem?_append_right (by rw [h.len]; omega), h.len]; simp
    · rw [List.getElem?_append_right (by rw [h.len]; omega), h.len, show j * 2 + 1 - j * 2 = 1 by omega]; simp
  · obtain ⟨h1, h2, a', c', h3, h4⟩ := h.at' j y (by omega) hy
    exact ⟨by rw [List.getElem?_append_left (by rw [h.len]; omega)]; exact h1, h2, a', c', by rw [List.getElem?_append_left (by rw [h.len]; omega)]; exact h3, h4⟩
theorem OutR.sl {w : World} {base b2 n c : Nat} {a : Option Addr} {gs : List Ob} {L : List Value} (h : OutR w base gs n L) (hn : gs.length = n) (hl : n ≤ 1048576) (hb : ∀ x ∈ gs, x.2.length ≤ 1048576 ∧ ∀ v ∈ x.2, i64B v.2) (hw : w.ownsRow b2 34 2 (.slice a n c) n L) (h2 : base ≤ b2) : SlAt obR (fun b => base ≤ b) w a n gs := by
  refine ⟨hn, by omega, ?_⟩
  rcases hw.2 with ⟨_, h0⟩ | ⟨g, cap, cur, e, hg, hcur, _, _, hsz, htk⟩
  · exact .inl h0
  · cases e
    refine .inr ⟨g, 0, rfl, by omega, fun i x hx => ?_⟩
    have hi := (List.getElem?_eq_some_iff.1 hx).1
    obtain ⟨f0, b0, a', c', f1, hw'⟩ := h.at' i x (by omega) hx
    obtain ⟨k1, k2⟩ := hb x (List.mem_of_getElem? hx)
    rw [← htk] at f0 f1
    have key : ∀ j v, (cur.toList.take (n * 2))[j]? = some v → w.cell? ⟨g, j, none⟩ = some v := fun j v hj => by
      have : cur.toList[j]? = some v := by
        rw [List.getElem?_take] at hj
        by_cases hj2 : j < n * 2
        · rwa [if_pos hj2] at hj
        · rw [if_neg hj2] at hj; cases hj
      simp only [World.cell?, hcur]
      simpa using this
    refine ⟨[.int .i64 x.1, .slice a' x.2.length c'], ⟨[.int .i64 x.1], _, rfl, ⟨rfl, b0⟩, a', x.2.length, c', rfl, own_vals hw' k2 (by omega)⟩, fun j v hv => ?_⟩
    match j, hv with
    | 0, hv => simp at hv; subst hv; rw [Nat.zero_add]; exact key _ _ f0
    | 1, hv => simp at hv; subst hv; rw [Nat.zero_add]; exact key _ _ f1

set_option maxRecDepth 100000 in
set_option maxHeartbeats 8000000 in
theorem l12GraphSpec (oa : Option Addr) (ol oc : Nat) (ra : Option Addr) (rl rc : Nat) (X : List Ob) (r : List Vl) (w : World) {D E : Nat → Prop} (h : SlAt obR D w oa ol X) (g : SlAt vaR E w ra rl r) (sx : (Rep.list obR).small X) (sr : (Rep.list vaR).small r) (ok : heapB X r = true) :
    Calls Try.prog 18 #[.slice oa ol oc, .slice ra rl rc] w fun e w' => ∃ a c b d, e = .returned (.tuple #[.slice a (graphOf X r).length c, .slice b (rootsOf X r).length d]) ∧ SlAt obR (fun b => w.heap.size ≤ b) w' a (graphOf X r).length (graphOf X r) ∧ SlAt vaR (fun b => w.heap.size ≤ b) w' b (rootsOf X r).length (rootsOf X r) ∧ Below w.heap.size w w' := by
  have H : Hid (SlAt obR (fun b => b < w.heap.size) w oa ol X) := h.mono (fun b _ hb => hb)
  have G : Hid (SlAt vaR (fun b => b < w.heap.size) w ra rl r) := g.mono (fun b _ hb => hb)
  have EL : Hid (X.length = ol) := h.size
  have RL : Hid (r.length = rl) := g.size
  have SX : Hid ((Rep.list obR).small X) := sx
  have OK : Hid (heapB X r = true) := ok
  have RO : Hid (r.all (valB ol) = true) := by have := roots_ok ok; rw [h.size] at this; exact this
  have hol : ol ≤ 1048576 := by have := sx.1; rw [h.size] at this; exact this
  have hrl : rl ≤ 1048576 := by have := sr.1; rw [g.size] at this; exact this
  have hmk := fun wx => run_make_row' (P := Try.prog) 41 3 (.int .i64 0) 8 Try.underlying41 info_int rfl .i64 .i64 ol (by omega) (by omega) wx
  have E0 : Hid (Ordr ol ([] : List Int)) := ⟨by simp, by simp⟩
  have K0 : Hid (Wk (w.heap.size + 1 + 1) (w.heap.size + 1) w.heap.size ol [] ((w.alloc (.cells (madeCells #[.int .i64 0] ol) 3)).alloc (.cells #[.slice (some ⟨w.heap.size, 0, none⟩) ol ol, .slice none 0 0] 62))) := by
    refine ⟨?_, ⟨none, 0, ?_, ⟨rfl, .inl ⟨rfl, rfl⟩⟩⟩, ?_, fun j hj => ?_, by omega, by omega, by simp⟩
    · simp [go_sem]
    · simp [go_sem]
    · simp [go_sem]
    · have := RowAt.made w #[.int .i64 0] ol 3 j hj
      have hb : Below (w.heap.size + 1) (w.alloc (.cells (madeCells #[.int .i64 0] ol) 3)) ((w.alloc (.cells (madeCells #[.int .i64 0] ol) 3)).alloc (.cells #[.slice (some ⟨w.heap.size, 0, none⟩) ol ol, .slice none 0 0] 62)) := (Below.refl _ _).alloc (by simp) _
      refine ⟨(hb.cell (p := ⟨w.heap.size, j, none⟩) (by simp)).trans ?_, (hb.frozen (p := ⟨w.heap.size, j, none⟩) (by simp)).trans this.2⟩
      rw [this.1]
      simp [Nat.mod_one, idxN]
  clear h g sx sr ok
  go_enter Try.func18, Try.ntmps18
  go_wp2_with fail
  go_loopw [7] (fun t wr => ∃ k : Nat, k ≤ rl ∧ t = .int .i64 k ∧ Wk (w.heap.size + 1 + 1) (w.heap.size + 1) w.heap.size ol ((r.take k).foldl comeV []) wr ∧ Below w.heap.size w wr) (fun t _ => rl - (intOf t).toNat)
  case atStart => exact ⟨0, Nat.zero_le _, rfl, K0.out, by go_grown⟩
  case round =>
    obtain ⟨k, hk, rfl, hW, hb⟩ := hrel
    have HW : Hid (Wk (w.heap.size + 1 + 1) (w.heap.size + 1) w.heap.size ol ((r.take k).foldl comeV []) wr) := hW
    have HB : Hid (Below w.heap.size w wr) := hb
    clear hW hb
    by_cases hlt : k < rl
    · obtain ⟨x, hx⟩ : ∃ x, r[k]? = some x := ⟨r[k]'(by rw [RL.out]; exact hlt), List.getElem?_eq_getElem _⟩
      have hxo := List.all_eq_true.1 RO.out x (List.mem_of_getElem? hx)
      have HX : Hid (r[k]? = some x) := hx
      obtain ⟨b, off, rfl, _, vs, hv, hc⟩ := (G.out.later HB.out).at k x hx
      obtain ⟨x0, x1⟩ := x
      obtain ⟨_, _, rfl, rfl, rfl, b1⟩ := hv
      have c0x : wr.cell? ⟨b, off + k * 2, none⟩ = some (.bool x0) := hc 0 _ rfl
      have c1x : wr.cell? ⟨b, off + k * 2 + 1, none⟩ = some (.int .i64 x1) := hc 1 _ rfl
      have HXO : Hid (valB ol (x0, x1) = true) := hxo
      clear hx hc hxo
      go_wp2_with fail
      refine (comeSpec _ _ _ _ _ _ _ _ HW.out (foldV_ord _ E0.out (allV_take RO.out k)) HXO.out hol).mono ?_
      rintro e w2 ⟨⟨u, rfl⟩, hW2, hb2⟩
      have HW2 : Hid (Wk (w.heap.size + 1 + 1) (w.heap.size + 1) w.heap.size ol ((r.take (k + 1)).foldl comeV []) w2) := by show Wk _ _ _ _ _ _; rw [foldV_take HX.out]; exact hW2
      have B2 : Hid (Below w.heap.size w w2) := HB.out.trans hb2
      clear hW2 hb2
      go_wp2_with fail
      exact ⟨⟨k + 1, by omega, by go_num, HW2.out, B2.out⟩, by simp [intOf]; omega⟩
    · have ek : rl = k := by omega
      subst ek
      obtain ⟨wv, rfl⟩ : ∃ wv, wv = wr := ⟨wr, rfl⟩
      have K1 : Hid (Wk (w.heap.size + 1 + 1) (w.heap.size + 1) w.heap.size ol (ordL X r 1) wv) := by
        have := HW.out
        rw [← RL.out, List.take_length, ← ord_one X r] at this
        exact this
      clear HW
      go_wp2_with fail
      go_loopw [8] (fun t wr => ∃ i : Nat, i ≤ (ordL X r (i + 1)).length ∧ t = .int .i64 i ∧ Wk (w.heap.size + 1 + 1) (w.heap.size + 1) w.heap.size ol (ordL X r (i + 1)) wr ∧ Below w.heap.size w wr) (fun t _ => ol - (intOf t).toNat)
      case atStart => exact ⟨0, Nat.zero_le _, rfl, K1.out, HB.out⟩
      case round =>
        obtain ⟨i, hi, rfl, hW, hb⟩ := hrel
        have HOi : Hid (Ordr ol (ordL X r (i + 1))) := by have := ordr_at (X := X) (r := r) OK.out (i + 1); rw [EL.out] at this; exact this
        have hlo : (ordL X r (i + 1)).length ≤ ol := HOi.out.le
        have HW : Hid (Wk (w.heap.size + 1 + 1) (w.heap.size + 1) w.heap.size ol (ordL X r (i + 1)) wr) := hW
        have HC : Hid (Below w.heap.size w wr) := hb
        obtain ⟨pa, pc, hp1, _⟩ := hW.p1
        clear hW hb
        by_cases hlt2 : i < (ordL X r (i + 1)).length
        · obtain ⟨n, hn⟩ : ∃ n, (ordL X r (i + 1))[i]? = some n := ⟨(ordL X r (i + 1))[i]'hlt2, List.getElem?_eq_getElem _⟩
          have hnn := HOi.out.inn n (List.mem_of_getElem? hn)
          unfold isN at hnn
          obtain ⟨y, rfl⟩ : ∃ y : Nat, n = ((y + 1 : Nat) : Int) := ⟨n.toNat - 1, by omega⟩
          have hy1 : y < ol := by omega
          obtain ⟨b, off, c, hq1, hq2⟩ := order_at_i HW.out HOi.out hol hn
          obtain ⟨rfl, rfl⟩ : pa = some ⟨b, off, none⟩ ∧ pc = c := by rw [hq1] at hp1; cases hp1; exact ⟨rfl, rfl⟩
          have hq3 : wr.cell? ⟨b, off + i, none⟩ = some (.int .i64 (y : Int)) := by simpa using hq2
          have HNX : Hid (ordL X r (i + 1 + 1) = (valsOf X ((y + 1 : Nat) : Int)).foldl comeV (ordL X r (i + 1))) := ord_next hn
          obtain ⟨⟨p0, ps⟩, hp⟩ : ∃ p, X[y]? = some p := ⟨X[y]'(by rw [EL.out]; exact hy1), List.getElem?_eq_getElem _⟩
          have eV : valsOf X ((y + 1 : Nat) : Int) = ps := by simp [valsOf, hp]
          rw [eV] at HNX
          have HPO : Hid (ps.all (valB ol) = true) := by have := vals_ok OK.out ((y + 1 : Nat) : Int); rw [eV, EL.out] at this; exact this
          obtain ⟨b2, off2, rfl, _, vs, hv, hd⟩ := (H.out.later HC.out).at y _ hp
          obtain ⟨_, _, rfl, ⟨rfl, b0⟩, va, vl, vc, rfl, hL⟩ := hv
          have d1 : wr.cell? ⟨b2, off2 + y * 2 + 1, none⟩ = some (.slice va vl vc) := hd 1 _ rfl
          have HLs : Hid (ps.length = vl) := hL.size
          have HLr := hL.room
          have HL : Hid (SlAt vaR (fun b => b < w.heap.size) w va vl ps) := by
            have hw := H.out.at y _ hp
            obtain ⟨b3, off3, e3, _, vs3, hv3, hd3⟩ := hw
            obtain ⟨_, _, rfl, ⟨rfl, _⟩, va3, vl3, vc3, rfl, hL3⟩ := hv3
            cases e3
            have e5 : w.cell? ⟨b2, off2 + y * 2 + 1, none⟩ = some (.slice va3 vl3 vc3) := hd3 1 _ rfl
            have e6 := World.block_lt_of_cell? w _ e5
            rw [HC.out.cell (p := ⟨b2, off2 + y * 2 + 1, none⟩) e6, e5] at d1
            cases d1
            exact hL3
          clear hn hnn hp eV hL hd hq2 hp1
          obtain ⟨wu, rfl⟩ : ∃ wu, wu = wr := ⟨wr, rfl⟩
          generalize hol3 : (ordL X r (i + 1)).length = lo at *
          go_wp2_with fail
          go_loopw [10] (fun t wr => ∃ k : Nat, k ≤ vl ∧ t = .int .i64 k ∧ Wk (w.heap.size + 1 + 1) (w.heap.size + 1) w.heap.size ol ((ps.take k).foldl comeV (ordL X r (i + 1))) wr ∧ Below w.heap.size w wr) (fun t _ => vl - (intOf t).toNat)
          case atStart => exact ⟨0, Nat.zero_le _, rfl, HW.out, HC.out⟩
          case round =>
            obtain ⟨k, hk, rfl, hW, hb⟩ := hrel
            have HWk : Hid (Wk (w.heap.size + 1 + 1) (w.heap.size + 1) w.heap.size ol ((ps.take k).foldl comeV (ordL X r (i + 1))) wr) := hW
            have HD : Hid (Below w.heap.size w wr) := hb
            clear hW hb
            by_cases hlt3 : k < vl
            · obtain ⟨x, hx⟩ : ∃ x, ps[k]? = some x := ⟨ps[k]'(by rw [HLs.out]; exact hlt3), List.getElem?_eq_getElem _⟩
              have hxo := List.all_eq_true.1 HPO.out x (List.mem_of_getElem? hx)
              have HX : Hid (ps[k]? = some x) := hx
              obtain ⟨b5, off5, rfl, _, vs, hv, hc⟩ := (HL.out.later HD.out).at k x hx
              obtain ⟨x0, x1⟩ := x
              obtain ⟨_, _, rfl, rfl, rfl, b1⟩ := hv
              have c0x : wr.cell? ⟨b5, off5 + k * 2, none⟩ = some (.bool x0) := hc 0 _ rfl
              have c1x : wr.cell? ⟨b5, off5 + k * 2 + 1, none⟩ = some (.int .i64 x1) := hc 1 _ rfl
              have HXO : Hid (valB ol (x0, x1) = true) := hxo
              clear hx hc hxo
              go_wp2_with fail
              refine (comeSpec _ _ _ _ _ _ _ _ HWk.out (foldV_ord _ HOi.out (allV_take HPO.out k)) HXO.out hol).mono ?_
              rintro e w2 ⟨⟨u, rfl⟩, hW2, hb2⟩
              have HW2 : Hid (Wk (w.heap.size + 1 + 1) (w.heap.size + 1) w.heap.size ol ((ps.take (k + 1)).foldl comeV (ordL X r (i + 1))) w2) := by show Wk _ _ _ _ _ _; rw [foldV_take HX.out]; exact hW2
              have B2 : Hid (Below w.heap.size w w2) := HD.out.trans hb2
              clear hW2 hb2
              go_wp2_with fail
              exact ⟨⟨k + 1, by omega, by go_num, HW2.out, B2.out⟩, by simp [intOf]; omega⟩
            · have ek : k = vl := by omega
              subst ek
              have HWn : Hid (Wk (w.heap.size + 1 + 1) (w.heap.size + 1) w.heap.size ol (ordL X r (i + 1 + 1)) wr) := by
                have := HWk.out
                rw [← HLs.out, List.take_length, ← HNX.out] at this
                exact this
              have hpre : (ordL X r (i + 1)).length ≤ (ordL X r (i + 1 + 1)).length := (ord_pre (i + 1)).length_le
              go_wp2_with fail
              exact ⟨⟨i + 1, by omega, by go_num, HWn.out, HD.out⟩, by simp [intOf]; omega⟩
        · have ei : i = (ordL X r (i + 1)).length := by omega
          have EO : Hid (ordL X r (i + 1) = orderOf X r) := order_eq OK.out (by omega)
          have hmo : (orderOf X r).length ≤ ol := by rw [← EO.out]; exact hlo
          rw [EO.out] at HW HOi ei hp1
          obtain ⟨wu, rfl⟩ : ∃ wu, wu = wr := ⟨wr, rfl⟩
          have h00 : (0 : Int) ∉ orderOf X r := fun h0 => by have := HOi.out.inn 0 h0; unfold isN at this; omega
          have LU : Hid (w.heap.size + 1 + 1 ≤ wu.heap.size) := HW.out.lt.2.2
          have lu : w.heap.size + 1 < wu.heap.size := by have := LU.out; omega
          have lu1 : w.heap.size + 1 < wu.heap.size + 1 := by omega
          have GL : Hid ((graphOf X r).length = (orderOf X r).length) := by show _ = _; rw [graphOf, List.length_map]
          obtain ⟨i0, hi0, hz0, hz1, hz2⟩ := info_parts info_Obj
          clear hlt2 hlo hi
          generalize hlm : (orderOf X r).length = m at *
          subst ei
          go_wp2_with fail
          go_loopw [11, 12] (fun s t wr => ∃ (k : Nat) (va : Option Addr) (vc : Nat) (L : List Value), k ≤ i ∧ t = .int .i64 k ∧ s = .slice va k vc ∧ wr.ownsRow wu.heap.size 34 2 (.slice va k vc) k L ∧ OutR wr wu.heap.size (graphOf X r) k L ∧ Below wu.heap.size wu wr) (fun _ t _ => i - (intOf t).toNat)
          case atStart => exact ⟨0, _, _, [], Nat.zero_le _, rfl, rfl, own_none _ _ _ (Nat.le_refl _) rfl, ⟨rfl, fun j _ hj => by omega⟩, by go_grown⟩
          case round =>
            obtain ⟨k, va, vc, L, hk, rfl, rfl, hown, hout, hb⟩ := hrel
            have HWn : Hid (wr.ownsRow wu.heap.size 34 2 (.slice va k vc) k L) := hown
            have HOut : Hid (OutR wr wu.heap.size (graphOf X r) k L) := hout
            have HE : Hid (Below wu.heap.size wu wr) := hb
            have KW : Hid (Wk (w.heap.size + 1 + 1) (w.heap.size + 1) w.heap.size ol (orderOf X r) wr) := HW.out.later hb
            have BW : Hid (Below w.heap.size w wr) := HC.out.trans (hb.mono HC.out.size)
            have su := hb.size
            have lr : w.heap.size + 1 < wr.heap.size := by omega
            have lr1 : w.heap.size + 1 < wr.heap.size + 1 := by omega
            have hp2 : wr.cell? ⟨w.heap.size + 1, 1, none⟩ = some (.slice pa i pc) := (hb.cell (p := ⟨w.heap.size + 1, 1, none⟩) lu).trans hp1
            clear hown hout hb
            by_cases hlt4 : k < i
            · obtain ⟨n, hn⟩ : ∃ n, (orderOf X r)[k]? = some n := ⟨(orderOf X r)[k]'(by omega), List.getElem?_eq_getElem _⟩
              have hnn := HOi.out.inn n (List.mem_of_getElem? hn)
              unfold isN at hnn
              obtain ⟨y, rfl⟩ : ∃ y : Nat, n = ((y + 1 : Nat) : Int) := ⟨n.toNat - 1, by omega⟩
              have hy1 : y < ol := by omega
              obtain ⟨b, off, c, hq1, hq2⟩ := order_at_i KW.out HOi.out hol hn
              obtain ⟨rfl, rfl⟩ : pa = some ⟨b, off, none⟩ ∧ pc = c := by rw [hq1] at hp2; cases hp2; exact ⟨rfl, rfl⟩
              have hq3 : wr.cell? ⟨b, off + k, none⟩ = some (.int .i64 (y : Int)) := by simpa using hq2
              obtain ⟨⟨p0, ps⟩, hp⟩ : ∃ p, X[y]? = some p := ⟨X[y]'(by rw [EL.out]; exact hy1), List.getElem?_eq_getElem _⟩
              have eV : valsOf X ((y + 1 : Nat) : Int) = ps := by simp [valsOf, hp]
              have HGk : Hid ((graphOf X r)[k]? = some (p0, ps.map (renV (orderOf X r)))) := by
                show _ = _
                have e9 : X.getD (((y + 1 : Nat) : Int).toNat - 1) (0, []) = (p0, ps) := by simp [hp]
                rw [graphOf, List.getElem?_map, hn, Option.map_some, eV, e9]
              have HPO : Hid (ps.all (valB ol) = true) := by have := vals_ok OK.out ((y + 1 : Nat) : Int); rw [eV, EL.out] at this; exact this
              obtain ⟨b2, off2, rfl, _, vs, hv, hd⟩ := (H.out.later BW.out).at y _ hp
              obtain ⟨_, _, rfl, ⟨rfl, b0⟩, qa, ql, qc, rfl, hL⟩ := hv
              have d0 : wr.cell? ⟨b2, off2 + y * 2, none⟩ = some (.int .i64 p0) := hd 0 _ rfl
              have d1 : wr.cell? ⟨b2, off2 + y * 2 + 1, none⟩ = some (.slice qa ql qc) := hd 1 _ rfl
              have HL : Hid (SlAt vaR (fun b => b < w.heap.size) wr qa ql ps) := hL
              have QL : Hid (ps.length = ql) := hL.size
              have hql : ql ≤ 1048576 := by rw [← hL.size]; exact (SX.out.2 _ (List.mem_of_getElem? hp)).2.1
              obtain ⟨A, hA⟩ : ∃ A, A = wr.alloc (.cells #[.int .i64 p0, .slice qa ql qc] 34) := ⟨_, rfl⟩
              have AB : Hid (Below wr.heap.size wr A) := by rw [hA]; exact (Below.refl _ wr).alloc (Nat.le_refl _) _
              have ZA : Hid (A.heap.size = wr.heap.size + 1) := by show _ = _; rw [hA]; simp
              have KA : Hid (∀ x : World, Below A.heap.size A x → x.cell? ⟨wr.heap.size, 0, none⟩ = some (.int .i64 p0) ∧ x.cell? ⟨wr.heap.size, 1, none⟩ = some (.slice qa ql qc)) := fun x hx' =>
                ⟨(hx'.cell (p := ⟨wr.heap.size, 0, none⟩) (by rw [ZA.out]; simp)).trans (by rw [hA]; simp [go_sem]), (hx'.cell (p := ⟨wr.heap.size, 1, none⟩) (by rw [ZA.out]; simp)).trans (by rw [hA]; simp [go_sem])⟩
              clear hn hnn hp eV hL hd hq2 hq1 hp1
              go_wp2_with fail
              rw [← hA]
              clear hA
              refine wp_region_held_drew (S := fun x => x.cell? ⟨wr.heap.size, 0, none⟩ = some (.int .i64 p0) ∧ x.cell? ⟨wr.heap.size, 1, none⟩ = some (.slice qa ql qc)) (by kernel_rfl) ?_ (fun hHeld => ?_)
              · exact KA.out _ (below_drewN (Below.refl _ _) 1)
              refine wpAnyH_take (i := 0) (v := .slice va k vc) rfl (by kernel_rfl) (by kernel_rfl) (by kernel_rfl) (fun _ _ _ h => h) (Or.inl ⟨by kernel_rfl, by (intro x hSx; (try dsimp only at hSx); go_simp)⟩) (by assumption) ?_
              try simp only [Act.put, List.getElem_toArray, List.getElem_cons_zero, List.setIfInBounds_toArray, List.set_cons_zero, List.set_cons_succ]
              refine wpAnyH_take (i := 1) (v := .pointer (some ⟨wr.heap.size, 0, none⟩)) rfl (by kernel_rfl) (by kernel_rfl) (by kernel_rfl) (fun _ _ _ h => h) (Or.inl ⟨by kernel_rfl, by (intro x hSx; (try dsimp only at hSx); go_simp)⟩) (by assumption) ?_
              try simp only [Act.put, List.getElem_toArray, List.getElem_cons_zero, List.getElem_cons_succ, List.setIfInBounds_toArray, List.set_cons_zero, List.set_cons_succ]
              refine wpAnyH_take (i := 2) (v := .int .i64 p0) rfl (by kernel_rfl) (by kernel_rfl) (by kernel_rfl) (fun _ _ _ h => h) (Or.inl ⟨by kernel_rfl, by (intro x hSx; (try dsimp only at hSx); go_simp)⟩) (by assumption) ?_
              try simp only [Act.put, List.getElem_toArray, List.getElem_cons_zero, List.getElem_cons_succ, List.setIfInBounds_toArray, List.set_cons_zero, List.set_cons_succ]
              refine wpAnyH_take (i := 3) (v := .pointer (some ⟨w.heap.size + 1, 0, none⟩)) rfl (by kernel_rfl) (by kernel_rfl) (by kernel_rfl) (fun _ _ _ h => h) (Or.inl ⟨by kernel_rfl, by (intro x hSx; (try dsimp only at hSx); go_simp)⟩) (by assumption) ?_
              try simp only [Act.put, List.getElem_toArray, List.getElem_cons_zero, List.getElem_cons_succ, List.setIfInBounds_toArray, List.set_cons_zero, List.set_cons_succ]
              refine wpAnyH_take (i := 4) (v := .pointer (some ⟨wr.heap.size, 1, none⟩)) rfl (by kernel_rfl) (by kernel_rfl) (by kernel_rfl) (fun _ _ _ h => h) (Or.inl ⟨by kernel_rfl, by (intro x hSx; (try dsimp only at hSx); go_simp)⟩) (by assumption) ?_
              try simp only [Act.put, List.getElem_toArray, List.getElem_cons_zero, List.getElem_cons_succ, List.setIfInBounds_toArray, List.set_cons_zero, List.set_cons_succ]
              refine wpAnyH_take (i := 5) (v := .slice qa ql qc) rfl (by kernel_rfl) (by kernel_rfl) (by kernel_rfl) (fun _ _ _ h => h) (Or.inl ⟨by kernel_rfl, by (intro x hSx; (try dsimp only at hSx); go_simp)⟩) (by assumption) ?_
              try simp only [Act.put, List.getElem_toArray, List.getElem_cons_zero, List.getElem_cons_succ, List.setIfInBounds_toArray, List.set_cons_zero, List.set_cons_succ]
              refine wpAnyH_ready (rs := [6]) (by kernel_rfl) (by simp) ?_
              refine AllReadyH.cons rfl (fun K hK => ?_) AllReadyH.nil
              go_simp
              go_at_call 30
              have AD : Below wr.heap.size wr (A.drewN 1) := below_drewN AB.out 1
              refine (allSpec _ _ _ _ _ _ _ _ ps _ (KW.out.later AD) (HL.out.later AD) HPO.out hql h00 hol).mono ?_
              rintro e w7 ⟨ya, yc, rfl, hY, hb7⟩
              have eA : (A.drewN 1).heap.size = A.heap.size := rfl
              rw [eA] at hY hb7
              have A7 : Hid (Below A.heap.size A w7) := (below_drewN (Below.refl _ _) 1).trans hb7
              have B7 : Hid (Below wr.heap.size wr w7) := AB.out.trans (A7.out.mono AB.out.size)
              have s7 : wr.heap.size ≤ w7.heap.size := B7.out.size
              have own8 := (own_keep' HWn.out (fun g hg => B7.out.block g (own_lt' HWn.out g hg))).alloc (.cells #[.int .i64 p0, .slice ya ql yc] 34)
              obtain ⟨v', w9, hrun, r1, r2, _⟩ := run_append_own (P := Try.prog) (w7.alloc (.cells #[.int .i64 p0, .slice ya ql yc] 34)) wu.heap.size 23 23 34 i0 _ 2 32 Try.underlying23 hi0 hz0 hz1 hz2 rfl (by decide) (.slice va k vc) k _ own8 ⟨w7.heap.size, 0, none⟩ 1 1 [.int .i64 p0, .slice ya ql yc] rfl (two_new w7 _ _ _ _ rfl) (by simp [Value.oneCell']) (by unfold maxLen; omega) (by omega) (by simp; omega)
              obtain ⟨g', cap', rfl⟩ := ownsRow_succ r1
              have ty9 : ∀ (b : Nat) (cur : Array Value) (t : TypeId), t ≠ 34 → w7.heap[b]? = some (.cells cur t (0, 0)) → w9.heap[b]? = w7.heap[b]? := fun b cur t ht hb9 => by
                have hlt9 := (Array.getElem?_eq_some_iff.1 hb9).1
                refine (r2.block b (by simp; omega) (fun e => ?_)).trans (Below.heap_alloc w7 _ b hlt9)
                rcases HWn.out.2 with ⟨e1, _⟩ | ⟨g2, cap2, cur2, e1, _, hg2, _⟩
                · rw [e1] at e; simp [Value.ownBlock] at e
                · rw [e1] at e
                  obtain rfl : b = g2 := by simpa [Value.ownBlock] using e
                  rw [B7.out.block b (Array.getElem?_eq_some_iff.1 hg2).1, hg2] at hb9
                  cases hb9
                  exact ht rfl
              have K9 : Hid (w9.cell? ⟨wr.heap.size, 0, none⟩ = some (.int .i64 p0) ∧ w9.cell? ⟨wr.heap.size, 1, none⟩ = some (.slice qa ql qc)) := by
                obtain ⟨s1, s2⟩ := KA.out w7 A7.out
                have hk9 : w9.heap[wr.heap.size]? = w7.heap[wr.heap.size]? := by
                  have hz9 : wr.heap.size < w7.heap.size := by have := A7.out.size; rw [ZA.out] at this; omega
                  refine (r2.block _ (by simp; omega) (fun e => ?_)).trans (Below.heap_alloc w7 _ _ hz9)
                  have := own_lt' HWn.out _ e.symm
                  omega
                exact ⟨(World.cell?_of_block (a := ⟨wr.heap.size, 0, none⟩) hk9).trans s1, (World.cell?_of_block (a := ⟨wr.heap.size, 1, none⟩) hk9).trans s2⟩
              have R1 : Hid (w9.ownsRow wu.heap.size 34 2 (.slice (some ⟨g', 0, none⟩) (k + 1) cap') (k + 1) (L ++ [.int .i64 p0, .slice ya ql yc])) := r1
              have R2 : Hid (OutR w9 wu.heap.size (graphOf X r) (k + 1) (L ++ [.int .i64 p0, .slice ya ql yc])) := by
                have o7 : OutR w7 wu.heap.size (graphOf X r) k L := HOut.out.keep (fun g cur hg => B7.out.block g (Array.getElem?_eq_some_iff.1 hg).1)
                have o9 : OutR w9 wu.heap.size (graphOf X r) k L := o7.keep (fun g cur hg => ty9 g cur _ (by decide) hg)
                refine o9.snoc HGk.out b0 (by rw [List.length_map]; exact QL.out) (own_low (own_keep' hY (fun g hg => ?_)) (by rw [ZA.out]; omega))
                rcases hY.2 with ⟨e1, _⟩ | ⟨g2, cap2, cur2, e1, _, hg2, _⟩
                · rw [e1] at hg; simp [Value.ownBlock] at hg
                · rw [e1] at hg
                  obtain rfl : g2 = g := by simpa [Value.ownBlock] using hg
                  exact ty9 g2 cur2 _ (by decide) hg2
              have R3 : Hid (Below wu.heap.size wu w9) := Below.grown (Below.alloc (HE.out.trans (B7.out.mono HE.out.size)) (by omega) _) r2 (by simp; omega) (fun b hb9 => own_ge HWn.out b hb9.symm)
              have A8 : Hid (Below A.heap.size A (w7.alloc (.cells #[.int .i64 p0, .slice ya ql yc] 34))) := A7.out.alloc A7.out.size _
              have HRUN : Hid ((Builtin.append_ #[23, 23] 23 #[.slice va k vc, .slice (some ⟨w7.heap.size, 0, none⟩) 1 1]).run Try.prog (w7.alloc (.cells #[.int .i64 p0, .slice ya ql yc] 34)) = .ok (.slice (some ⟨g', 0, none⟩) (k + 1) cap') w9) := hrun
              clear hrun r1 r2 own8 ty9 hY hb7 AD eA s7
              go_wp2_with fail
              refine hK.out _ _ (KA.out _ A7.out) (fun hHeld2 => ?_)
              clear hK K
              try simp only [Act.put, List.getElem_toArray, List.getElem_cons_zero, List.getElem_cons_succ, List.setIfInBounds_toArray, List.set_cons_zero, List.set_cons_succ]
              refine wpAnyH_take (i := 7) (v := .agg #[.int .i64 p0, .slice ya ql yc]) rfl (by kernel_rfl) (by kernel_rfl) (by kernel_rfl) (fun _ _ _ h => h) (Or.inl ⟨by kernel_rfl, by (intro x hSx; (try dsimp only at hSx); go_simp)⟩) (by assumption) ?_
              try simp only [Act.put, List.getElem_toArray, List.getElem_cons_zero, List.getElem_cons_succ, List.setIfInBounds_toArray, List.set_cons_zero, List.set_cons_succ]
              refine wpAnyH_ready (rs := [8]) (by kernel_rfl) (by simp) ?_
              refine AllReadyH.cons rfl (fun K hK => ?_) AllReadyH.nil
              go_simp
              refine hK.out _ _ (KA.out _ A8.out) (fun hHeld3 => ?_)
              clear hK K
              try simp only [Act.put, List.getElem_toArray, List.getElem_cons_zero, List.getElem_cons_succ, List.setIfInBounds_toArray, List.set_cons_zero, List.set_cons_succ]
              refine wpAnyH_ready (rs := [9]) (by kernel_rfl) (by simp) ?_
              refine AllReadyH.cons rfl (fun K hK => ?_) AllReadyH.nil
              refine op_appP rfl _ _ _ rfl _ _ _ rfl rfl HRUN.out ?_
              refine hK.out _ _ (K9.out) (fun hHeld4 => ?_)
              clear hK K
              try simp only [Act.put, List.getElem_toArray, List.getElem_cons_zero, List.getElem_cons_succ, List.setIfInBounds_toArray, List.set_cons_zero, List.set_cons_succ]
              refine wpAnyH_take (i := 10) (v := .slice (some ⟨g', 0, none⟩) (k + 1) cap') rfl (by kernel_rfl) (by kernel_rfl) (by kernel_rfl) (fun _ _ _ h => h) (Or.inl ⟨by kernel_rfl, by (intro x hSx; (try dsimp only at hSx); go_simp)⟩) (by assumption) ?_
              try simp only [Act.put, List.getElem_toArray, List.getElem_cons_zero, List.getElem_cons_succ, List.setIfInBounds_toArray, List.set_cons_zero, List.set_cons_succ]
              refine wpAnyH_done (by kernel_rfl) ?_ _
              clear hHeld hHeld2 hHeld3 hHeld4
              go_wp2_with fail
              exact ⟨⟨k + 1, _, _, _, by omega, by go_num, rfl, R1.out, R2.out, R3.out⟩, by simp [intOf]; omega⟩
            · have ek : k = i := by omega
              subst ek
              have EG : Hid ((graphOf X r).length = k) := GL.out
              go_wp2_with fail
              refine (allSpec _ _ _ _ _ _ _ _ r _ KW.out (G.out.later BW.out) RO.out hrl h00 hol).mono ?_
              rintro e w7 ⟨ya, yc, rfl, hY, hb7⟩
              have HY : Hid (w7.ownsRow wr.heap.size 32 2 (.slice ya rl yc) rl (flatV (r.map (renV (orderOf X r))))) := hY
              have B7 : Hid (Below wr.heap.size wr w7) := hb7
              clear hY hb7
              go_wp2_with fail
              go_ret2
              have ERl : (rootsOf X r).length = rl := by rw [rootsOf, List.length_map, RL.out]
              have su7 := B7.out.size
              refine ⟨va, vc, ya, yc, ?_, ?_, ?_, ?_⟩
              · rw [EG.out, ERl]; rfl
              · rw [EG.out]
                have o7 : OutR w7 wu.heap.size (graphOf X r) k L := HOut.out.keep (fun g cur hg => B7.out.block g (Array.getElem?_eq_some_iff.1 hg).1)
                have n7 := own_keep' HWn.out (fun g hg => B7.out.block g (own_lt' HWn.out g hg))
                exact (o7.sl EG.out (by omega) (graph_of SX.out (obj_i64 H.out) (by omega)) n7 (Nat.le_refl _)).mono (fun b hb _ => by omega)
              · rw [ERl]
                exact (own_vals HY.out (ren_i64 (by omega) (sl_i64 G.out)) (by omega)).mono (fun b hb _ => by omega)
              · exact BW.out.trans (B7.out.mono BW.out.size)

/-- HeapGraph of the specification. -/
def GsP (X : List Ob) (r : List Vl) (w : World) (e : Ending) (w' : World) : Prop :=
  Below w.heap.size w w' ∧ ((heapB X r = false ∧ ∃ a c b d, e = .returned (.tuple #[.slice a 0 c, .slice b 0 d])) ∨
    (heapB X r = true ∧ ∃ a c b d, e = .returned (.tuple #[.slice a (graphOf X r).length c, .slice b (rootsOf X r).length d]) ∧ SlAt obR (fun b => w.heap.size ≤ b) w' a (graphOf X r).length (graphOf X r) ∧ SlAt vaR (fun b => w.heap.size ≤ b) w' b (rootsOf X r).length (rootsOf X r)))
theorem graphSpec (oa : Option Addr) (ol oc : Nat) (ra : Option Addr) (rl rc : Nat) (X : List Ob) (r : List Vl) (w : World) {D E : Nat → Prop} (h : SlAt obR D w oa ol X) (g : SlAt vaR E w ra rl r) (sx : (Rep.list obR).small X) (sr : (Rep.list vaR).small r) :
    Calls Try.prog 7 #[.slice oa ol oc, .slice ra rl rc] w fun e w' => GsP X r w e w' := by
  have H : Hid (SlAt obR D w oa ol X) := h
  have G : Hid (SlAt vaR E w ra rl r) := g
  have SX : Hid ((Rep.list obR).small X) := sx
  have SR : Hid ((Rep.list vaR).small r) := sr
  clear h g sx sr
  go_enter Try.func7, Try.ntmps7
  go_wp2_with fail
  refine (heapSpec _ _ _ _ _ _ X r _ H.out G.out).mono ?_
  rintro e w1 ⟨rfl, hb⟩
  have B1 : Hid (Below w.heap.size w w1) := hb
  have z1 := hb.size
  clear hb
  cases ok : heapB X r
  · have OKF : Hid (heapB X r = false) := ok
    clear ok
    go_wp2_with fail
    go_ret2
    exact ⟨B1.out.trans (((Below.refl _ w1).alloc z1 _).alloc (by simp; omega) _), .inl ⟨OKF.out, _, _, _, _, rfl⟩⟩
  · have OK : Hid (heapB X r = true) := ok
    clear ok
    go_wp2_with fail
    refine (l12GraphSpec _ _ _ _ _ _ X r _ (H.out.later B1.out) (G.out.later B1.out) SX.out SR.out OK.out).mono ?_
    rintro e w2 ⟨a, c, b, d, rfl, h1, h2, hb⟩
    have H1 : Hid (SlAt obR (fun b => w1.heap.size ≤ b) w2 a (graphOf X r).length (graphOf X r)) := h1
    have H2 : Hid (SlAt vaR (fun b => w1.heap.size ≤ b) w2 b (rootsOf X r).length (rootsOf X r)) := h2
    have B2 : Hid (Below w.heap.size w w2) := B1.out.trans (hb.mono z1)
    clear h1 h2 hb
    go_wp2_with fail
    go_ret2
    exact ⟨B2.out, .inr ⟨OK.out, a, c, b, d, rfl, H1.out.mono (fun b hb _ => by omega), H2.out.mono (fun b hb _ => by omega)⟩⟩

end Go.Proofs.Ytacapffmdmpnkaa
