/-
  What is drawn of classes, some spoilt, whatever the code: a list of classes, not empty, in new memory alone.
-/
import Derived.Test.YtcmjhgpkpiadmaaDrCls2
namespace Go.Proofs.Ytcmjhgpkpiadmaa
open Go.ChangeShapes Go.WideShapes Go.ChangeAt Go.RowKit

theorem Out.block {dd : Prop} {D : Nat → Prop} {w : World} {g n cap : Nat} (h : Out dd D w (.slice (some ⟨g, 0, none⟩) n cap) n) : g < w.heap.size ∧ D g ∧ ∃ cur, w.heap[g]? = some (.cells cur 49 (0, 0)) := by
  obtain ⟨xs, ho, hn, hd, hi, _⟩ := h
  have := own_lt ho g (by simp [Value.ownBlock])
  exact ⟨this.1, hd g (by simp [Value.ownBlock]), this.2⟩

theorem Out.cap {dd : Prop} {D : Nat → Prop} {w : World} {g n cap : Nat} (h : Out dd D w (.slice (some ⟨g, 0, none⟩) n cap) n) : n ≤ cap := by
  obtain ⟨xs, ho, _⟩ := h
  rcases ho.2 with ⟨h', _⟩ | ⟨g', cap', cur, h', _, _, hc, _⟩
  · cases h'
  · simp at h'; omega

/-- The cells of a class of the call's own. -/
theorem Out.at {dd : Prop} {D : Nat → Prop} {w : World} {g n cap i : Nat} (h : Out dd D w (.slice (some ⟨g, 0, none⟩) n cap) n) (hi : i < n) :
    ∃ (s : Int) (fv : Value), w.cell? ⟨g, i * 2, none⟩ = some (.int .i64 s) ∧ w.cell? ⟨g, i * 2 + 1, none⟩ = some fv ∧ w.frozen? ⟨g, i * 2, none⟩ = false ∧ w.frozen? ⟨g, i * 2 + 1, none⟩ = false ∧ FV D w fv ∧ (-1000 ≤ s ∧ s ≤ 1000) := by
  obtain ⟨xs, ho, hn, hd, hx, _⟩ := h
  obtain ⟨s, fv, h1, h2, h3, h4⟩ := hx i hi
  exact ⟨s, fv, by rw [ho.cellAt _ (by omega)]; exact h1, by rw [ho.cellAt _ (by omega)]; exact h3, ho.frozenAt _, ho.frozenAt _, h4, h2⟩

theorem Out.fv_keep {dd : Prop} {D : Nat → Prop} {w : World} {g n cap j : Nat} {u fv : Value} (h : Out dd D w (.slice (some ⟨g, 0, none⟩) n cap) n) (hf : FV D w fv) : FV D (w.setCell ⟨g, j, none⟩ u) fv := by
  obtain ⟨_, _, cur, hc⟩ := h.block
  refine hf.ch ((Ch.refl (fun i => i = g) w).setCell _ _ (fun _ => rfl)) (fun b cur' _ _ hb e => ?_)
  subst e
  rw [hb] at hc
  cases hc

theorem Out.setSuper {dd : Prop} {D : Nat → Prop} {w : World} {g n cap i : Nat} {s : Int} (h : Out dd D w (.slice (some ⟨g, 0, none⟩) n cap) n) (hs : -1000 ≤ s ∧ s ≤ 1000) : Out False D (w.setCell ⟨g, i * 2, none⟩ (.int .i64 s)) (.slice (some ⟨g, 0, none⟩) n cap) n := by
  have h' := h
  obtain ⟨xs, ho, hn, hd, hx, _⟩ := h
  refine ⟨_, (ho.stored (i * 2) (.int .i64 s)).1, hn, hd, fun j hj => ?_, fun h => h.elim⟩
  obtain ⟨s', fv, h1, h2, h3, h4⟩ := hx j hj
  have hl := ho.1
  by_cases e : j = i
  · subst e
    exact ⟨s, fv, by rw [List.getElem?_set_self (by omega)], hs, by rw [List.getElem?_set_ne (by omega)]; exact h3, h'.fv_keep h4⟩
  · exact ⟨s', fv, by rw [List.getElem?_set_ne (by omega)]; exact h1, h2, by rw [List.getElem?_set_ne (by omega)]; exact h3, h'.fv_keep h4⟩

theorem Out.setField {dd : Prop} {D : Nat → Prop} {w : World} {g n cap i : Nat} {f : Value} (h : Out dd D w (.slice (some ⟨g, 0, none⟩) n cap) n) (hf : FV D w f) : Out False D (w.setCell ⟨g, i * 2 + 1, none⟩ f) (.slice (some ⟨g, 0, none⟩) n cap) n := by
  have h' := h
  obtain ⟨xs, ho, hn, hd, hx, _⟩ := h
  refine ⟨_, (ho.stored (i * 2 + 1) f).1, hn, hd, fun j hj => ?_, fun h => h.elim⟩
  obtain ⟨s', fv, h1, h2, h3, h4⟩ := hx j hj
  have hl := ho.1
  by_cases e : j = i
  · subst e
    exact ⟨s', f, by rw [List.getElem?_set_ne (by omega)]; exact h1, h2, by rw [List.getElem?_set_self (by omega)], h'.fv_keep hf⟩
  · exact ⟨s', fv, by rw [List.getElem?_set_ne (by omega)]; exact h1, h2, by rw [List.getElem?_set_ne (by omega)]; exact h3, h'.fv_keep h4⟩

/-- A class's fields, and one more, in the place of what they were. -/
theorem Out.grow {D : Nat → Prop} {w W w6 : World} {g n cap i gg m cap' : Nat} {fv : Value} {x : Int} {o : Obj} {R : Nat} (h : Out True D w (.slice (some ⟨g, 0, none⟩) n cap) n) (hD : ∀ b, D b → b ≠ R) (hW : ∀ b, w.heap.size ≤ b → D b) (hi : i < n)
    (hf : w.cell? ⟨g, i * 2 + 1, none⟩ = some fv) (c : Ch (fun i => i = R) w W) (ys : List Int) (hm : m ≤ 19) (hys : ∀ y ∈ ys, -1000 ≤ y ∧ y ≤ 1000) (hx : -1000 ≤ x ∧ x ≤ 1000)
    (hg : (W.alloc o).grownBy w6 fv.ownBlock) (ho : w6.ownsRow 0 3 1 (.slice (some ⟨gg, 0, none⟩) (m + 1) cap') (m + 1) (ys.map (Value.int .i64) ++ [.int .i64 x]))
    (hat : fv.ownBlock = some gg ∨ gg = (W.alloc o).heap.size) :
    Out False D (w6.setCell ⟨g, i * 2 + 1, none⟩ (.slice (some ⟨gg, 0, none⟩) (m + 1) cap')) (.slice (some ⟨g, 0, none⟩) n cap) n := by
  obtain ⟨hgl, hgD, cur, hgc⟩ := h.block
  obtain ⟨xs, hox, hn, hd, hix, hdi⟩ := h
  have hfx : xs[i * 2 + 1]? = some fv := by rw [← hox.cellAt _ (by omega)]; exact hf
  obtain ⟨s, fv', h1, h2, h3, h4⟩ := hix i hi
  rw [hfx] at h3
  cases h3
  have c6 : Ch (fun b => b = R ∨ fv.ownBlock = some b) w w6 := ((c.mono (fun _ _ e => .inl e)).alloc o).grown hg (fun b e _ => .inr e)
  have hne : fv.ownBlock ≠ some g := by
    obtain ⟨_, _, ho4, _⟩ := h4
    intro e
    obtain ⟨_, cur', hc'⟩ := own_lt ho4 g e
    rw [hgc] at hc'
    cases hc'
  have hDf : ∀ b, fv.ownBlock = some b → D b := by obtain ⟨_, _, _, _, _, hd4⟩ := h4; exact hd4
  have o6 : w6.ownsRow 0 49 2 (.slice (some ⟨g, 0, none⟩) n cap) n xs := own_keep hox (fun b hb => by
    simp [Value.ownBlock] at hb
    subst hb
    exact c6.block _ hgl (fun e => e.elim (fun e => hD _ hgD e) (fun e => hne e)))
  have hnew : FV D w6 (.slice (some ⟨gg, 0, none⟩) (m + 1) cap') := ⟨m + 1, ys ++ [x], by rw [List.map_append]; exact ho, by omega, by
      intro y hy
      rcases List.mem_append.1 hy with hy | hy
      · exact hys y hy
      · simp at hy; subst hy; exact hx, by
      intro b hb
      simp [Value.ownBlock] at hb
      subst hb
      rcases hat with e | e
      · exact hDf _ e
      · exact hW _ (by have := c.size; simp at e; omega)⟩
  have O6 : ∀ j, j < n → j ≠ i → ∃ (s : Int) (f : Value), xs[j * 2]? = some (.int .i64 s) ∧ (-1000 ≤ s ∧ s ≤ 1000) ∧ xs[j * 2 + 1]? = some f ∧ FV D w6 f := by
    intro j hj hji
    obtain ⟨s', f', k1, k2, k3, k4⟩ := hix j hj
    refine ⟨s', f', k1, k2, k3, ?_⟩
    obtain ⟨mm, yy, ho', hm', hy', hd'⟩ := k4
    refine ⟨mm, yy, own_keep ho' (fun b hb => c6.block b (own_lt ho' b hb).1 (fun e => ?_)), hm', hy', hd'⟩
    rcases e with e | e
    · exact hD b (hd' b hb) e
    · exact hji ((hdi trivial).1 j i f' fv b hj hi k3 hfx hb e)
  have hl := hox.1
  obtain ⟨hgl6, _⟩ : g < w6.heap.size ∧ True := ⟨Nat.lt_of_lt_of_le hgl c6.size, trivial⟩
  have hgc6 : w6.heap[g]? = w.heap[g]? := c6.block g hgl (fun e => e.elim (fun e => hD g hgD e) (fun e => hne e))
  have keep : ∀ {f : Value}, FV D w6 f → FV D (w6.setCell ⟨g, i * 2 + 1, none⟩ (.slice (some ⟨gg, 0, none⟩) (m + 1) cap')) f := fun hf' =>
    hf'.ch ((Ch.refl (fun b => b = g) w6).setCell _ _ (fun _ => rfl)) (fun b cur' _ _ hb e => by
      subst e
      rw [hgc6, hgc] at hb
      cases hb)
  refine ⟨_, (o6.stored (i * 2 + 1) _).1, hn, hd, fun j hj => ?_, fun h => h.elim⟩
  by_cases e : j = i
  · subst e
    exact ⟨s, _, by rw [List.getElem?_set_ne (by omega)]; exact h1, h2, by rw [List.getElem?_set_self (by omega)], keep hnew⟩
  · obtain ⟨s', f', k1, k2, k3, k4⟩ := O6 j hj e
    exact ⟨s', f', by rw [List.getElem?_set_ne (by omega)]; exact k1, k2, by rw [List.getElem?_set_ne (by omega)]; exact k3, keep k4⟩

theorem heap_new2 (w : World) (o p : Obj) : ((w.alloc o).alloc p).heap[w.heap.size + 1]? = some p := by
  have h := heap_alloc_new (w.alloc o) p
  rwa [World.size_alloc] at h

theorem Out.push4 {D : Nat → Prop} {w W w6 : World} {g n cap gg cap' : Nat} {fv : Value} {s : Int} (h : Out True D w (.slice (some ⟨g, 0, none⟩) n cap) n) (hn : n ≤ 5) (hW : ∀ b, w.heap.size ≤ b → D b) (xs : List Value) (hx : xs.length = n * 2)
    (hix : ∀ i, i < n → ∃ (s : Int) (fv : Value), xs[i * 2]? = some (.int .i64 s) ∧ (-1000 ≤ s ∧ s ≤ 1000) ∧ xs[i * 2 + 1]? = some fv ∧ FV D w fv) (hf : FV D w fv) (hs : -1000 ≤ s ∧ s ≤ 1000) (c : Ch (fun _ => False) w W)
    (hg : W.grownBy w6 (some g)) (ho : w6.ownsRow 0 49 2 (.slice (some ⟨gg, 0, none⟩) (n + 4) cap') (n + 4) (xs ++ [.int .i64 s, fv, .int .i64 s, fv, .int .i64 s, fv, .int .i64 s, fv]))
    (hat : some g = some gg ∨ w.heap.size ≤ gg) : Out False D w6 (.slice (some ⟨gg, 0, none⟩) (n + 4) cap') (n + 4) ∧ Ch (fun i => i = g) w w6 := by
  obtain ⟨hgl, hgD, cur, hgc⟩ := h.block
  have c6 : Ch (fun i => i = g) w w6 := (c.mono (fun _ _ h => h.elim)).grown hg (fun i e _ => by cases e; rfl)
  have keep : ∀ {f : Value}, FV D w f → FV D w6 f := fun hf' => hf'.ch c6 (fun b cur' _ _ hb e => by
    subst e
    rw [hgc] at hb
    cases hb)
  refine ⟨⟨_, ho, by omega, fun b hb => ?_, fun i hi => ?_, fun h => h.elim⟩, c6⟩
  · simp [Value.ownBlock] at hb
    subst hb
    rcases hat with e | e
    · cases e; exact hgD
    · exact hW _ e
  · by_cases e : i < n
    · obtain ⟨s', f', k1, k2, k3, k4⟩ := hix i e
      exact ⟨s', f', by rw [List.getElem?_append_left (by omega)]; exact k1, k2, by rw [List.getElem?_append_left (by omega)]; exact k3, keep k4⟩
    · refine ⟨s, fv, ?_, hs, ?_, keep hf⟩
      · rw [List.getElem?_append_right (by omega), hx]
        rcases (show i = n ∨ i = n + 1 ∨ i = n + 2 ∨ i = n + 3 by omega) with rfl | rfl | rfl | rfl
        · simp
        · rw [show (n + 1) * 2 - n * 2 = 2 by omega]; rfl
        · rw [show (n + 2) * 2 - n * 2 = 4 by omega]; rfl
        · rw [show (n + 3) * 2 - n * 2 = 6 by omega]; rfl
      · rw [List.getElem?_append_right (by omega), hx]
        rcases (show i = n ∨ i = n + 1 ∨ i = n + 2 ∨ i = n + 3 by omega) with rfl | rfl | rfl | rfl
        · rw [show i * 2 + 1 - i * 2 = 1 by omega]; rfl
        · rw [show (n + 1) * 2 + 1 - n * 2 = 3 by omega]; rfl
        · rw [show (n + 2) * 2 + 1 - n * 2 = 5 by omega]; rfl
        · rw [show (n + 3) * 2 + 1 - n * 2 = 7 by omega]; rfl

theorem news_four {s : Int} {fv : Value} (h : fv.oneCell' = true) : ∀ u ∈ [Value.int .i64 s, fv, Value.int .i64 s, fv, Value.int .i64 s, fv, Value.int .i64 s, fv], u.oneCell' = true := by
  intro u hu
  simp only [List.mem_cons, List.not_mem_nil, or_false] at hu
  rcases hu with rfl | rfl | rfl | rfl | rfl | rfl | rfl | rfl <;> first | rfl | exact h

theorem four_of (m : Nat) (h : (m : Int) < 4) : ∃ x : Int, -1000 ≤ x ∧ x ≤ 1000 ∧ (#[Value.int .i64 0, Value.int .i64 2, Value.int .i64 13, Value.int .i64 5] : Array Value)[m]? = some (.int .i64 x) := by
  rcases (show m = 0 ∨ m = 1 ∨ m = 2 ∨ m = 3 by omega) with rfl | rfl | rfl | rfl
  · exact ⟨0, by omega, by omega, rfl⟩
  · exact ⟨2, by omega, by omega, rfl⟩
  · exact ⟨13, by omega, by omega, rfl⟩
  · exact ⟨5, by omega, by omega, rfl⟩

/-- What is so behind the drawing of classes, some spoilt. -/
def Off (w : World) (B R k : Nat) (e : Ending) (w' : World) : Prop :=
  ∃ a len cap L k', e = .returned (.slice a len cap) ∧ 1 ≤ len ∧ len ≤ 10 ∧ ClsAt (fun b => w.heap.size ≤ b) (fun b => w.heap.size ≤ b) w' a len L ∧ Rd B w' R k' ∧ k' ≤ k + 200 ∧ Ch (fun i => i = R) w w'

theorem Off.of {dd : Prop} {w w' : World} {B R k g n cap k' : Nat} (h : Out dd (fun b => w.heap.size ≤ b) w' (.slice (some ⟨g, 0, none⟩) n cap) n) (n1 : 1 ≤ n) (n2 : n ≤ 10) (hr : Rd B w' R k') (hk : k' ≤ k + 200) (hc : Ch (fun i => i = R) w w') :
    Off w B R k (.returned (.slice (some ⟨g, 0, none⟩) n cap)) w' := by
  obtain ⟨L, hL⟩ := h.cls n (Nat.le_refl _)
  exact ⟨_, _, _, L, k', rfl, n1, n2, hL, hr, hk, hc⟩

set_option maxHeartbeats 2000000 in
theorem drawOff (B R k : Nat) (w : World) (h : Rd B w R k) (hk : k ≤ 800000) :
    Calls Try.prog 23 #[.pointer (some ⟨R, 0, none⟩)] w fun e w' => Off w B R k e w' := by
  have hRs := h.size
  go_enter Try.func23, Try.ntmps23
  go_wp2_with fail
  refine (drawClasses B R k w h (by omega)).mono ?_
  rintro e w1 ⟨g, n, cap, k1, rfl, n2, n5, hO, hR, hk1, hC⟩
  have HO : Hid (Out True (fun b => w.heap.size ≤ b) w1 (.slice (some ⟨g, 0, none⟩) n cap) n) := hO
  have HR : Hid (Rd B w1 R k1) := hR
  have HC : Hid (Ch (fun i => i = R) w w1) := hC
  clear hO hR hC h
  go_wp2_with fail
  refine (pick B R k1 20 w1 HR.out (by omega) (by omega)).mono ?_
  rintro e w2 ⟨v, rfl, v0, v1, h2⟩
  have O2 : Hid (Out True (fun b => w.heap.size ≤ b) w2 (.slice (some ⟨g, 0, none⟩) n cap) n) := HO.out.ch h2.ch (fun b hb _ e => by omega)
  have R2 : Hid (Rd B w2 R (k1 + 1)) := h2.rd
  have C2 : Hid (Ch (fun i => i = R) w w2) := HC.out.trans h2.ch (fun _ _ h => h)
  clear h2
  by_cases hv : 0 < v
  · go_wp2_with fail
    go_ret
    exact Off.of O2.out (by omega) (by omega) R2.out (by omega) C2.out
  · go_wp2_with fail
    refine (pick B R (k1 + 1) n w2 R2.out (by omega) (by omega)).mono ?_
    rintro e w3 ⟨i, rfl, i0, i1, h3⟩
    obtain ⟨i, rfl⟩ := Int.eq_ofNat_of_zero_le i0
    have O3 : Hid (Out True (fun b => w.heap.size ≤ b) w3 (.slice (some ⟨g, 0, none⟩) n cap) n) := O2.out.ch h3.ch (fun b hb _ e => by omega)
    have R3 : Hid (Rd B w3 R (k1 + 2)) := h3.rd
    have C3 : Hid (Ch (fun i => i = R) w w3) := C2.out.trans h3.ch (fun _ _ h => h)
    clear h3
    go_wp2_with fail
    refine (pick B R (k1 + 2) 6 w3 R3.out (by omega) (by omega)).mono ?_
    rintro e w4 ⟨c, rfl, c0, c1, h4⟩
    have O4 : Hid (Out True (fun b => w.heap.size ≤ b) w4 (.slice (some ⟨g, 0, none⟩) n cap) n) := O3.out.ch h4.ch (fun b hb _ e => by omega)
    have R4 : Hid (Rd B w4 R (k1 + 3)) := h4.rd
    have C4 : Hid (Ch (fun i => i = R) w w4) := C3.out.trans h4.ch (fun _ _ h => h)
    clear h4
    have hin : i < n := by omega
    obtain ⟨hgl, hgD, _⟩ := O4.out.block

    rcases (show c = 0 ∨ c = 1 ∨ c = 2 ∨ c = 3 ∨ c = 4 ∨ c = 5 by omega) with rfl | rfl | rfl | rfl | rfl | rfl
    · go_wp2_with fail
      refine (pick B R (k1 + 3) 7 w4 R4.out (by omega) (by omega)).mono ?_
      rintro e w5 ⟨s, rfl, s0, s1, h5⟩
      have O5 : Hid (Out True (fun b => w.heap.size ≤ b) w5 (.slice (some ⟨g, 0, none⟩) n cap) n) := O4.out.ch h5.ch (fun b hb _ e => by omega)
      have R5 : Hid (Rd B w5 R (k1 + 4)) := h5.rd
      have C5 : Hid (Ch (fun i => i = R) w w5) := C4.out.trans h5.ch (fun _ _ h => h)
      clear h5
      obtain ⟨s', fv, a1, a2, a3, a4, _, _⟩ := O5.out.at hin
      go_wp2_with fail
      go_ret
      refine Off.of (k' := k1 + 4) (O5.out.setSuper (by omega)) (by omega) (by omega) ?_ (by omega) (C5.out.setCell _ _ (fun hl => by exfalso; have hl' : g < w.heap.size := hl; omega))
      exact R5.out.ch ((Ch.refl (fun i => i = g) w5).setCell _ _ (fun _ => rfl)) (fun j e => by have := R5.out.low; omega)
    · obtain ⟨s', fv, a1, a2, a3, a4, hfv, _⟩ := O4.out.at hin
      obtain ⟨mf, ys, ownF, mf20, hys, hdF⟩ := hfv
      have HY : Hid (∀ y ∈ ys, -1000 ≤ y ∧ y ≤ 1000) := hys
      have hne : fv.ownBlock ≠ some g := by
        obtain ⟨_, _, cur, hgc⟩ := O4.out.block
        intro e
        obtain ⟨_, cur', hc'⟩ := own_lt ownF g e
        rw [hgc] at hc'
        cases hc'
      have hgR : g ≠ R := by omega
      have KC : Hid (∀ W, Ch (fun i => i = R) w4 W → W.cell? ⟨g, i * 2 + 1, none⟩ = some fv ∧ W.frozen? ⟨g, i * 2 + 1, none⟩ = false ∧ g < W.heap.size) :=
        fun W c => ⟨(c.cell _ _ hgl hgR).trans a2, (c.frozen _ _ hgl hgR).trans a4, Nat.lt_of_lt_of_le hgl c.size⟩
      have KD : Hid (∀ b, fv.ownBlock = some b → w.heap.size ≤ b) := hdF
      have KO : Hid (∀ W, Ch (fun i => i = R) w4 W → W.ownsRow 0 3 1 fv mf (ys.map (Value.int .i64))) :=
        fun W c => own_keep ownF (fun b hb => c.block b (own_lt ownF b hb).1 (fun e => by have := hdF b hb; omega))
      have HFo : Hid (w4.ownsRow 0 3 1 fv mf (ys.map (Value.int .i64))) := ownF
      clear hys hdF ownF
      obtain ⟨i0, hi0, hz0, hz1, hz2⟩ := info_parts info_int2
      have hmf : mf ≤ 19 := by
        obtain ⟨xs, hox, _, _, _, hdi⟩ := O4.out
        have h1 := (hdi trivial).2 i fv hin (by rw [← hox.cellAt _ (by omega)]; exact a2)
        rw [own_len HFo.out] at h1
        omega
      go_wp2_with fail
      go_region_law (first
          | (go_simp
             go_at_call 30
             refine (pick B R (k1 + 3) 4 _ (by first | exact R4.out.drew | exact (R4.out.alloc _).drew) (by omega) (by omega)).mono ?_
             rintro e w5 ⟨u, rfl, u0, u1, h5⟩
             obtain ⟨m, rfl⟩ := Int.eq_ofNat_of_zero_le u0
             obtain ⟨x, x0, x1, hx⟩ := four_of m u1
             have c5 : Ch (fun i => i = R) w4 w5 := by first | exact (Ch.refl _ w4).drew.trans h5.ch (fun _ _ h => h) | exact ((Ch.refl _ w4).alloc _).drew.trans h5.ch (fun _ _ h => h)
             obtain ⟨d5, f5, s5⟩ := KC.out w5 c5
             have r5 := h5.rd
             first | (have hA : w5.cell? ⟨w4.heap.size, m, none⟩ = some (.int .i64 x) := by (rw [h5.cell _ _ (by have := C4.out.size; omega)]; exact (World.cell?_alloc_at _ _ _ _ rfl).trans hx)) | skip
             clear h5)
          | (refine step_append_lies _ (by rfl) _ _ _ (by rfl) 0 3 i0 _ 1 8 Try.underlying46 hi0 hz0 hz1 hz2 rfl (by omega) fv mf _ (by rfl) (KO.out _ (c5.alloc _)) ⟨w5.heap.size, 0, none⟩ 1 1 [.int .i64 x] (by rfl) (by rfl) (World.news_of_block (cs := #[.int .i64 x]) (t := 3) (fr := (0, 0)) (heap_alloc_new w5 _)) (by simp [Value.oneCell']) (by omega) (by unfold maxLen; omega) (by omega) (Nat.zero_le _) _ rfl ?_
             intro gg cap' w6 hown6 hgrow6 hat6 hlt6
             have c6 : Ch (fun i => i = R) w4 (w5) := c5
             have P6 := Out.grow (R := R) O4.out (fun b hb => by (have : w.heap.size ≤ b := hb; omega)) (fun b hb => by (have := C4.out.size; show w.heap.size ≤ b; omega)) hin a2 c6 ys hmf HY.out (x := x) ⟨x0, x1⟩ hgrow6 hown6 hat6
             have HP6 : Hid _ := P6
             have C6 : Ch (fun i => i = R ∨ fv.ownBlock = some i) w4 w6 := ((c6.mono (fun _ _ e => .inl e)).alloc _).grown hgrow6 (fun b e _ => .inr e)
             have R6 := r5.ch (S := fun i => fv.ownBlock = some i) (((Ch.refl _ w5).alloc _).grown hgrow6 (fun b e _ => e)) (fun b e => by (have := KD.out b e; have := R4.out.low; omega))
             have d6 : w6.cell? ⟨g, i * 2 + 1, none⟩ = some fv := (hgrow6.cell_far _ (by simp; omega) (Ne.symm hne)).trans ((KC.out _ (c6.alloc _)).1)
             have f6 : w6.frozen? ⟨g, i * 2 + 1, none⟩ = false := (hgrow6.frozen_far _ (by simp; omega) (Ne.symm hne)).trans ((KC.out _ (c6.alloc _)).2.1)
             clear P6 hown6 hgrow6 hat6)
          | (refine step_append_lies _ (by rfl) _ _ _ (by rfl) 0 3 i0 _ 1 8 Try.underlying46 hi0 hz0 hz1 hz2 rfl (by omega) fv mf _ (by rfl) (KO.out _ ((c5.alloc _).alloc _)) ⟨w5.heap.size + 1, 0, none⟩ 1 1 [.int .i64 x] (by rfl) (by rfl) (World.news_of_block (cs := #[.int .i64 x]) (t := 3) (fr := (0, 0)) (heap_new2 w5 _ _)) (by simp [Value.oneCell']) (by omega) (by unfold maxLen; omega) (by omega) (Nat.zero_le _) _ rfl ?_
             intro gg cap' w6 hown6 hgrow6 hat6 hlt6
             have c6 : Ch (fun i => i = R) w4 (w5.alloc (.cells #[.int .i64 0, .int .i64 2, .int .i64 13, .int .i64 5] 3)) := c5.alloc _
             have P6 := Out.grow (R := R) O4.out (fun b hb => by (have : w.heap.size ≤ b := hb; omega)) (fun b hb => by (have := C4.out.size; show w.heap.size ≤ b; omega)) hin a2 c6 ys hmf HY.out (x := x) ⟨x0, x1⟩ hgrow6 hown6 hat6
             have HP6 : Hid _ := P6
             have C6 : Ch (fun i => i = R ∨ fv.ownBlock = some i) w4 w6 := ((c6.mono (fun _ _ e => .inl e)).alloc _).grown hgrow6 (fun b e _ => .inr e)
             have R6 := r5.ch (S := fun i => fv.ownBlock = some i) ((((Ch.refl _ w5).alloc _).alloc _).grown hgrow6 (fun b e _ => e)) (fun b e => by (have := KD.out b e; have := R4.out.low; omega))
             have d6 : w6.cell? ⟨g, i * 2 + 1, none⟩ = some fv := (hgrow6.cell_far _ (by simp; omega) (Ne.symm hne)).trans ((KC.out _ (c6.alloc _)).1)
             have f6 : w6.frozen? ⟨g, i * 2 + 1, none⟩ = false := (hgrow6.frozen_far _ (by simp; omega) (Ne.symm hne)).trans ((KC.out _ (c6.alloc _)).2.1)
             clear P6 hown6 hgrow6 hat6))
      all_goals
        have hgl6 : g < w6.heap.size := Nat.lt_of_lt_of_le hgl C6.size
        have HC6 : Hid (Ch (fun i => i = R ∨ fv.ownBlock = some i) w4 w6) := C6
        have HR6 : Hid (Rd B w6 R (k1 + 4)) := R6
        clear C6 R6 c6
        go_wp2_with fail
        go_ret
        refine Off.of (k' := k1 + 4) HP6.out (by omega) (by omega) ?_ (by omega) ?_
        · exact HR6.out.ch ((Ch.refl (fun i => i = g) w6).setCell _ _ (fun _ => rfl)) (fun j e => by have := HR6.out.low; omega)
        · refine (C4.out.trans HC6.out (fun b hb e => ?_)).setCell _ _ (fun hl => by exfalso; have hl' : g < w.heap.size := hl; omega)
          rcases e with e | e
          · exact e
          · have := KD.out b e; omega
    · have e1 : 1 ≤ cap := by have := O4.out.cap; omega
      go_wp2_with fail
      go_ret
      obtain ⟨L, hL⟩ := O4.out.cls 1 (by omega)
      exact ⟨_, 1, _, L, k1 + 3, rfl, by omega, by omega, hL, R4.out, by omega, C4.out⟩
    · obtain ⟨s', fv, a1, a2, a3, a4, hfv, hs'⟩ := O4.out.at (i := 1) (by omega)
      have hone : Hid (fv.oneCell' = true) := by obtain ⟨_, _, ho, _⟩ := hfv; exact own_one ho
      have a1' : w4.cell? ⟨g, 2, none⟩ = some (.int .i64 s') := a1
      have a2' : w4.cell? ⟨g, 3, none⟩ = some fv := a2
      have HF : Hid (FV (fun b => w.heap.size ≤ b) w4 fv) := hfv
      have Hs : Hid (-1000 ≤ s' ∧ s' ≤ 1000) := hs'
      obtain ⟨xs, hox, _, _, hix, _⟩ := O4.out
      have HX : Hid (∀ i, i < n → ∃ (s : Int) (fv : Value), xs[i * 2]? = some (.int .i64 s) ∧ (-1000 ≤ s ∧ s ≤ 1000) ∧ xs[i * 2 + 1]? = some fv ∧ FV (fun b => w.heap.size ≤ b) w4 fv) := hix
      obtain ⟨i1, hj0, hj1, hj2, hj3⟩ := info_parts info_cls2
      clear hfv hs' hix a1 a2
      have hn1 : (1 : Int) < n := by omega
      go_wp2_with fail
      go_region_law (refine step_append_lies _ (by rfl) _ _ _ (by rfl) 0 49 i1 _ 2 32 Try.underlying23 hj0 hj1 hj2 hj3 rfl (by omega) (.slice (some ⟨g, 0, none⟩) n cap) n xs (by rfl) ((hox.alloc _).drew) ⟨w4.heap.size, 0, none⟩ 4 4 [.int .i64 s', fv, .int .i64 s', fv, .int .i64 s', fv, .int .i64 s', fv] (by rfl) (by rfl) (World.news_of_block (cs := #[.int .i64 s', fv, .int .i64 s', fv, .int .i64 s', fv, .int .i64 s', fv]) (t := 49) (fr := (0, 0)) (heap_alloc_new w4 _)) (news_four hone.out) (by omega) (by unfold maxLen; omega) (by omega) (Nat.zero_le _) (w4.heap.size + 1) (by simp) ?_; intro gg cap' w6 hown6 hgrow6 hat6 hlt6; have P6 : Hid _ := Out.push4 O4.out n5 (fun b hb => by (have := C4.out.size; show w.heap.size ≤ b; omega)) xs hox.1 HX.out HF.out Hs.out (((Ch.refl _ w4).alloc _).drew) hgrow6 hown6 (hat6.elim Or.inl (fun e => Or.inr (by omega))); clear hown6 hgrow6 hat6)
      all_goals
        go_wp2_with fail
        go_ret
        exact Off.of (k' := k1 + 3) P6.out.1 (by omega) (by omega) (R4.out.ch P6.out.2 (fun j e => by have := R4.out.low; omega)) (by omega) (C4.out.trans P6.out.2 (fun b hb e => by omega))
    · obtain ⟨s', fv, a1, a2, a3, a4, _, _⟩ := O4.out.at hin
      go_wp2_with fail
      go_ret
      have cA := (Ch.refl (fun _ => False) w4).alloc (.cells #[.int .i64 1, .int .i64 1, .int .i64 1] 3)
      have oA := World.ownsRow_lit (base := 0) (e := 3) (size := 1) w4 #[.int .i64 1, .int .i64 1, .int .i64 1] 3 (Nat.zero_le _) (by unfold maxLen; omega) rfl
      have OA := O4.out.ch cA (fun _ _ _ h => h)
      rw [← World.setCell_alloc_past _ _ _ _ hgl]
      refine Off.of (k' := k1 + 3) (OA.setField ⟨3, [1, 1, 1], oA, by omega, by simp, fun b hb => ?_⟩) (by omega) (by omega) ?_ (by omega) ((C4.out.alloc _).setCell _ _ (fun hl => by exfalso; have hl' : g < w.heap.size := hl; omega))
      · simp [Value.ownBlock] at hb
        have := C4.out.size
        show w.heap.size ≤ b
        omega
      · exact (R4.out.alloc _).ch ((Ch.refl (fun i => i = g) _).setCell _ _ (fun _ => rfl)) (fun j e => by have := R4.out.low; omega)
    · obtain ⟨s', fv, a1, a2, a3, a4, _, _⟩ := O4.out.at hin
      go_wp2_with fail
      go_ret
      refine Off.of (k' := k1 + 3) (O4.out.setField (FV.empty _ _)) (by omega) (by omega) ?_ (by omega) (C4.out.setCell _ _ (fun hl => by exfalso; have hl' : g < w.heap.size := hl; omega))
      exact R4.out.ch ((Ch.refl (fun i => i = g) w4).setCell _ _ (fun _ => rfl)) (fun j e => by have := R4.out.low; omega)

end Go.Proofs.Ytcmjhgpkpiadmaa
