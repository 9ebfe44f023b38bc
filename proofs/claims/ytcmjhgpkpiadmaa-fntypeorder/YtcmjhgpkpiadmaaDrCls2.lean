/-
  What is drawn of classes, whatever the code: a list of at least two classes, in new memory alone.
-/
import Derived.Test.YtcmjhgpkpiadmaaDrCls
import Derived.Deep.RegionLaw
import Derived.Deep.QuietTactic
import Derived.BigQuiet
namespace Go.Proofs.Ytcmjhgpkpiadmaa
open Go.ChangeShapes Go.WideShapes Go.ChangeAt Go.RowKit

theorem drawField (B R k : Nat) (n : Int) (w : World) (h : Rd B w R k) (hk : k ≤ 999990) (n0 : 1 ≤ n) (n1 : n ≤ 100) :
    Calls Try.prog 41 #[.pointer (some ⟨R, 0, none⟩), .int .i64 n] w fun e w' => ∃ (t : Int) (k' : Nat), e = .returned (.int .i64 t) ∧ 0 ≤ t ∧ t ≤ 200 ∧ Rd B w' R k' ∧ k' ≤ k + 2 ∧ Ch (fun i => i = R) w w' ∧ w'.heap.size = w.heap.size := by
  go_enter Try.func41, Try.ntmps41
  go_wp2_with fail
  refine (pick B R k 6 w h (by omega) (by omega)).mono ?_
  rintro e w1 ⟨v, rfl, v0, v1, h1⟩
  have r1 := h1.rd
  have c1 := h1.ch
  have s1 := h1.size
  have H1 : Hid (Rd B w1 R (k + 1)) := r1
  have C1 : Hid (Ch (fun i => i = R) w w1) := c1
  have S1 : Hid (w1.heap.size = w.heap.size) := s1
  clear h1 r1 c1 s1 h
  rcases (show v = 0 ∨ v = 1 ∨ v = 2 ∨ v = 3 ∨ 4 ≤ v by omega) with rfl | rfl | rfl | rfl | h4
  · go_wp2_with fail
    go_ret
    exact ⟨_, _, rfl, by omega, by omega, H1.out, by omega, C1.out, S1.out⟩
  · go_wp2_with fail
    go_ret
    exact ⟨_, _, rfl, by omega, by omega, H1.out, by omega, C1.out, S1.out⟩
  · go_wp2_with fail
    go_ret
    exact ⟨_, _, rfl, by omega, by omega, H1.out, by omega, C1.out, S1.out⟩
  · go_wp2_with fail
    go_ret
    exact ⟨_, _, rfl, by omega, by omega, H1.out, by omega, C1.out, S1.out⟩
  · have e0 : (v == 0) = false := by simp; omega
    have e1 : (v == 1) = false := by simp; omega
    have e2 : (v == 2) = false := by simp; omega
    have e3 : (v == 3) = false := by simp; omega
    go_wp2_with fail
    refine (pick B R (k + 1) n w1 H1.out (by omega) n0).mono ?_
    rintro e w2 ⟨u, rfl, u0, u1, h2⟩
    have H2 : Hid (Rd B w2 R (k + 2)) := h2.rd
    have C2 : Hid (Ch (fun i => i = R) w w2) := C1.out.trans h2.ch (fun _ _ h => h)
    have S2 : Hid (w2.heap.size = w.heap.size) := h2.size.trans S1.out
    clear h2
    go_wp2_with fail
    go_ret
    exact ⟨_, _, rfl, by omega, by omega, H2.out, by omega, C2.out, S2.out⟩

/-- The state of the inner loop: the box X of the class that is being made. -/
structure InL (G B R X : Nat) (w wr : World) (s : Int) (fv out : Value) (n m k : Nat) : Prop where
  rd : Rd B wr R k
  box : wr.heap[X]? = some (.cells #[.int .i64 s, fv] 49 (0, 0))
  fields : ∃ xs : List Int, wr.ownsRow 0 3 1 fv m (xs.map (Value.int .i64)) ∧ (∀ x ∈ xs, -1000 ≤ x ∧ x ≤ 1000)
  above : ∀ b, fv.ownBlock = some b → X < b
  out : Out True (fun b => G ≤ b ∧ b < X) wr out n
  ch : Ch (fun i => i = R) w wr
  size : X < wr.heap.size

theorem Ch.cell {S : Nat → Prop} {w w' : World} (c : Ch S w w') (b o : Nat) (hb : b < w.heap.size) (hs : ¬ S b) : w'.cell? ⟨b, o, none⟩ = w.cell? ⟨b, o, none⟩ :=
  World.cell?_of_block (w := w) (c.block b hb hs)
theorem Ch.frozen {S : Nat → Prop} {w w' : World} (c : Ch S w w') (b o : Nat) (hb : b < w.heap.size) (hs : ¬ S b) : w'.frozen? ⟨b, o, none⟩ = w.frozen? ⟨b, o, none⟩ :=
  World.frozen?_of_block (w := w) (c.block b hb hs)
theorem box_cells {w : World} {X : Nat} {s : Int} {fv : Value} {t : TypeId} (h : w.heap[X]? = some (.cells #[.int .i64 s, fv] t (0, 0))) :
    w.cell? ⟨X, 0, none⟩ = some (.int .i64 s) ∧ w.cell? ⟨X, 1, none⟩ = some fv ∧ w.frozen? ⟨X, 0, none⟩ = false ∧ w.frozen? ⟨X, 1, none⟩ = false := by
  simp [World.cell?, World.frozen?, h]

/-- The first two classes. -/
theorem outStart (w1 : World) (D : Nat → Prop) (hD : ∀ b, w1.heap.size ≤ b → D b) :
    Out True D ((w1.alloc (.cells #[.int .i64 1] 3)).alloc (.cells #[.int .i64 (-1), .slice none 0 0, .int .i64 0, .slice (some ⟨w1.heap.size, 0, none⟩) 1 1] 49)) (.slice (some ⟨w1.heap.size + 1, 0, none⟩) 2 2) 2 := by
  have e1 : (w1.alloc (.cells #[.int .i64 1] 3)).heap.size = w1.heap.size + 1 := by simp
  have o1 := World.ownsRow_lit (base := 0) (e := 3) (size := 1) w1 #[.int .i64 1] 1 (Nat.zero_le _) (by unfold maxLen; omega) rfl
  have o2 := World.ownsRow_lit (base := 0) (e := 49) (size := 2) (w1.alloc (.cells #[.int .i64 1] 3)) #[.int .i64 (-1), .slice none 0 0, .int .i64 0, .slice (some ⟨w1.heap.size, 0, none⟩) 1 1] 2 (Nat.zero_le _) (by unfold maxLen; omega) rfl
  rw [e1] at o2
  refine ⟨_, o2, by omega, fun b hb => ?_, fun i hi => ?_, fun _ => ⟨fun i j fi fj b hi hj h1 h2 h3 h4 => ?_, fun i f hi h1 => ?_⟩⟩
  · simp [Value.ownBlock] at hb
    exact hD b (by omega)
  · rcases (show i = 0 ∨ i = 1 by omega) with rfl | rfl
    · exact ⟨-1, .slice none 0 0, rfl, by omega, rfl, FV.empty _ _⟩
    · refine ⟨0, .slice (some ⟨w1.heap.size, 0, none⟩) 1 1, rfl, by omega, rfl, 1, [1], o1.alloc _, by omega, by simp, fun b hb => ?_⟩
      simp [Value.ownBlock] at hb
      exact hD b (by omega)
  · rcases (show i = 0 ∨ i = 1 by omega) with rfl | rfl <;> rcases (show j = 0 ∨ j = 1 by omega) with rfl | rfl
    · rfl
    · simp at h1; subst h1; simp [Value.ownBlock] at h3
    · simp at h2; subst h2; simp [Value.ownBlock] at h4
    · rfl
  · rcases (show i = 0 ∨ i = 1 by omega) with rfl | rfl
    · simp at h1; subst h1; simp [lenOf]
    · simp at h1; subst h1; simp [lenOf]

theorem Rd.drew {B R k : Nat} {w : World} (h : Rd B w R k) : Rd B w.drew R k := ⟨h.low, h.size, h.at0, h.free, h.code⟩

theorem box_set {w : World} {X : Nat} {s : Int} {fv nv : Value} {t : TypeId} (h : w.heap[X]? = some (.cells #[.int .i64 s, fv] t (0, 0))) :
    (w.setCell ⟨X, 1, none⟩ nv).heap[X]? = some (.cells #[.int .i64 s, nv] t (0, 0)) := by
  have hl : X < w.heap.size := by
    rcases Nat.lt_or_ge X w.heap.size with h' | h'
    · exact h'
    · rw [Array.getElem?_eq_none h'] at h; cases h
  have h' : w.heap[X] = .cells #[.int .i64 s, fv] t (0, 0) := by
    rw [Array.getElem?_eq_getElem hl] at h
    exact Option.some.inj h
  simp [World.setCell, hl, Array.getElem_modify, h']

theorem InL.step {G B R X : Nat} {w wr w4 w5 : World} {s t : Int} {fv out : Value} {n m k k2 gg cap : Nat} (hRG : R < G) (hGX : G ≤ X) (hGw : G = w.heap.size) (h : InL G B R X w wr s fv out n m k)
    (c4 : Ch (fun i => i = R) wr w4) (r4 : Rd B w4 R k2) (xs : List Int) (hxs : ∀ x ∈ xs, -1000 ≤ x ∧ x ≤ 1000) (ht : -1000 ≤ t ∧ t ≤ 1000) (o : Obj)
    (hg : (w4.alloc o).grownBy w5 fv.ownBlock) (ho : w5.ownsRow 0 3 1 (.slice (some ⟨gg, 0, none⟩) (m + 1) cap) (m + 1) (xs.map (Value.int .i64) ++ [.int .i64 t]))
    (hat : fv.ownBlock = some gg ∨ gg = w4.heap.size + 1) :
    InL G B R X w (w5.setCell ⟨X, 1, none⟩ (.slice (some ⟨gg, 0, none⟩) (m + 1) cap)) s (.slice (some ⟨gg, 0, none⟩) (m + 1) cap) out n (m + 1) k2 := by
  have hX := h.size
  have h4 := c4.size
  have hB := r4.low
  have hgX : X < gg := by
    rcases hat with e | e
    · exact h.above gg e
    · omega
  have c5 : Ch (fun i => i = X ∨ fv.ownBlock = some i) w4 (w5.setCell ⟨X, 1, none⟩ (.slice (some ⟨gg, 0, none⟩) (m + 1) cap)) :=
    (((Ch.refl _ w4).alloc o).grown hg (fun i e _ => .inr e)).setCell _ _ (fun _ => .inl rfl)
  have hbox5 : w5.heap[X]? = some (.cells #[.int .i64 s, fv] 49 (0, 0)) := by
    rw [hg.block X (by simp; omega) (fun e => by have := h.above X e.symm; omega), Below.heap_alloc w4 o X (by omega), c4.block X hX (by omega)]
    exact h.box
  refine ⟨r4.ch c5 (fun i hi => ?_), box_set hbox5, ⟨xs ++ [t], ?_, ?_⟩, ?_, ?_, ?_, ?_⟩
  · rcases hi with rfl | e
    · omega
    · have := h.above i e; omega
  · rw [List.map_append]
    refine own_keep ho fun b hb => ?_
    simp [Value.ownBlock] at hb
    exact Below.heap_setCell w5 _ _ b (by simp; omega)
  · intro x hx
    rcases List.mem_append.1 hx with hx | hx
    · exact hxs x hx
    · simp at hx; subst hx; exact ht
  · intro b hb
    simp [Value.ownBlock] at hb
    omega
  · refine (h.out.ch c4 (fun b hb hl e => by omega)).ch c5 (fun b hb hl e => ?_)
    rcases e with rfl | e
    · omega
    · have := h.above b e; omega
  · refine (h.ch.trans c4 (fun _ _ h => h)).trans c5 (fun i hi e => ?_)
    rcases e with rfl | e
    · omega
    · have := h.above i e; omega
  · have := c5.size
    omega

theorem own_one {w : World} {e : TypeId} {size n : Nat} {v : Value} {xs : List Value} (h : w.ownsRow 0 e size v n xs) : v.oneCell' = true := by
  rcases h.2 with ⟨rfl, _⟩ | ⟨g, cap, cur, rfl, _⟩ <;> rfl

theorem news_one {s : Int} {fv : Value} (h : fv.oneCell' = true) : ∀ u ∈ [Value.int .i64 s, fv], u.oneCell' = true := by
  intro u hu
  simp only [List.mem_cons, List.not_mem_nil, or_false] at hu
  rcases hu with rfl | rfl
  · rfl
  · exact h

theorem InL.push {G B R X : Nat} {w wr w6 : World} {s : Int} {fv out : Value} {n m k g2 cap2 : Nat} (hRG : R < G) (hGX : G ≤ X) (hGw : G = w.heap.size) (h : InL G B R X w wr s fv out n m k) (hm : m ≤ 2) (hn : n ≤ 19) (hs : -1000 ≤ s ∧ s ≤ 1000) (xs : List Value)
    (hx : xs.length = n * 2) (hi : ∀ i, i < n → ∃ (s : Int) (fv : Value), xs[i * 2]? = some (.int .i64 s) ∧ (-1000 ≤ s ∧ s ≤ 1000) ∧ xs[i * 2 + 1]? = some fv ∧ FV (fun b => G ≤ b ∧ b < X) wr fv) (hdi : Dist xs n) (hsh : Short xs n) (hout : ∀ b, out.ownBlock = some b → G ≤ b ∧ b < X) (hty : ∀ b, out.ownBlock = some b → ∃ cur, wr.heap[b]? = some (.cells cur 49 (0, 0))) (o : Obj)
    (hg : (wr.alloc o).grownBy w6 out.ownBlock) (ho : w6.ownsRow 0 49 2 (.slice (some ⟨g2, 0, none⟩) (n + 1) cap2) (n + 1) (xs ++ [.int .i64 s, fv]))
    (hat : out.ownBlock = some g2 ∨ g2 = wr.heap.size + 1) :
    Out True (fun b => G ≤ b) w6 (.slice (some ⟨g2, 0, none⟩) (n + 1) cap2) (n + 1) ∧ Rd B w6 R k ∧ Ch (fun i => i = R) w w6 := by
  have hX := h.size
  have hB := h.rd.low
  have c6 : Ch (fun i => out.ownBlock = some i) wr w6 := ((Ch.refl _ wr).alloc o).grown hg (fun i e _ => e)
  have keep : ∀ {D : Nat → Prop} (f : Value), FV D wr f → FV D w6 f := fun f hf => hf.ch c6 (fun b cur _ _ hc e => by
    obtain ⟨cur', hc'⟩ := hty b e
    rw [hc] at hc'
    cases hc')
  have hw := h.ch.size
  refine ⟨⟨_, ho, by omega, fun b hb => ?_, fun i hin => ?_, fun _ => ⟨fun i j fi fj b hin hjn h1 h2 h3 h4 => ?_, fun i f hin h1 => ?_⟩⟩, h.rd.ch c6 (fun i e => ?_), h.ch.trans c6 (fun i hi e => ?_)⟩
  · simp [Value.ownBlock] at hb
    subst hb
    rcases hat with e | e
    · exact (hout _ e).1
    · show G ≤ g2
      omega
  · by_cases e : i < n
    · obtain ⟨s', f', h1, h2, h3, h4⟩ := hi i e
      refine ⟨s', f', ?_, h2, ?_, (keep f' h4).mono (fun b hb _ => hb.1)⟩
      · rw [List.getElem?_append_left (by omega)]; exact h1
      · rw [List.getElem?_append_left (by omega)]; exact h3
    · have e' : i = n := by omega
      subst e'
      obtain ⟨ys, hy, hys⟩ := h.fields
      refine ⟨s, fv, ?_, hs, ?_, (keep fv ⟨m, ys, hy, by omega, hys, h.above⟩).mono (fun b hb _ => by show G ≤ b; omega)⟩
      · rw [List.getElem?_append_right (by omega), hx]; simp
      · rw [List.getElem?_append_right (by omega), hx]; simp
  · have low : ∀ l fl, l < n → (xs ++ [.int .i64 s, fv])[l * 2 + 1]? = some fl → fl.ownBlock = some b → b < X := by
      intro l fl hl e1 e2
      rw [List.getElem?_append_left (by omega)] at e1
      obtain ⟨s', f', _, _, h3, h4⟩ := hi l hl
      rw [h3] at e1
      cases e1
      obtain ⟨_, _, _, _, _, hd⟩ := h4
      exact (hd b e2).2
    have top : ∀ fl, (xs ++ [.int .i64 s, fv])[n * 2 + 1]? = some fl → fl.ownBlock = some b → X < b := by
      intro fl e1 e2
      rw [List.getElem?_append_right (by omega), hx] at e1
      simp at e1
      subst e1
      exact h.above b e2
    by_cases e1 : i < n
    · by_cases e2 : j < n
      · rw [List.getElem?_append_left (by omega)] at h1 h2
        exact hdi i j fi fj b e1 e2 h1 h2 h3 h4
      · have e3 : j = n := by omega
        subst e3
        have := low i fi e1 h1 h3
        have := top fj h2 h4
        omega
    · have e3 : i = n := by omega
      subst e3
      by_cases e2 : j < i
      · have := low j fj e2 h2 h4
        have := top fi h1 h3
        omega
      · omega
  · by_cases e1 : i < n
    · rw [List.getElem?_append_left (by omega)] at h1
      exact hsh i f e1 h1
    · have e3 : i = n := by omega
      subst e3
      rw [List.getElem?_append_right (by omega), hx] at h1
      simp at h1
      subst h1
      obtain ⟨ys, hy, _⟩ := h.fields
      rw [own_len hy]
      omega
  · have := hout i e
    omega
  · have := hout i e
    omega

theorem info_int2 : (Try.prog.info? 3).map (fun i => (i.zero, i.size, i.bytes)) = some (some (.int .i64 0), 1, 8) := by kernel_rfl
theorem info_cls2 : (Try.prog.info? 49).map (fun i => (i.zero, i.size, i.bytes)) = some (some (.agg #[.int .i64 0, .slice none 0 0]), 2, 32) := by kernel_rfl

/-- What is so behind the drawing of classes. -/
def Drawn (w : World) (B R k : Nat) (e : Ending) (w' : World) : Prop :=
  ∃ g n cap k', e = .returned (.slice (some ⟨g, 0, none⟩) n cap) ∧ 2 ≤ n ∧ n ≤ 5 ∧ Out True (fun b => w.heap.size ≤ b) w' (.slice (some ⟨g, 0, none⟩) n cap) n ∧ Rd B w' R k' ∧ k' ≤ k + 100 ∧ Ch (fun i => i = R) w w'

set_option maxHeartbeats 1000000 in
theorem drawClasses (B R k : Nat) (w : World) (h : Rd B w R k) (hk : k ≤ 900000) :
    Calls Try.prog 40 #[.pointer (some ⟨R, 0, none⟩)] w fun e w' => Drawn w B R k e w' := by
  have hRs := h.size
  go_enter Try.func40, Try.ntmps40
  go_wp2_with fail
  refine (pick B R k 4 w h (by omega) (by omega)).mono ?_
  rintro e w1 ⟨v, rfl, v0, v1, h1⟩
  have H1 : Hid (Rd B w1 R (k + 1)) := h1.rd
  have C1 : Hid (Ch (fun i => i = R) w w1) := h1.ch
  have S1 : Hid (w1.heap.size = w.heap.size) := h1.size
  clear h1 h
  go_wp2_with fail
  have G1 : Hid (Out True (fun b => w.heap.size ≤ b) ((w1.alloc (.cells #[.int .i64 1] 3)).alloc (.cells #[.int .i64 (-1), .slice none 0 0, .int .i64 0, .slice (some ⟨w1.heap.size, 0, none⟩) 1 1] 49)) (.slice (some ⟨w1.heap.size + 1, 0, none⟩) 2 2) 2) :=
    outStart w1 _ (fun b hb => by rw [S1.out] at hb; exact hb)
  go_loopw [4, 5] (fun t u wr => ∃ (n g cap k' : Nat), t = .slice (some ⟨g, 0, none⟩) n cap ∧ u = .int .i64 n ∧ 2 ≤ n ∧ (n : Int) ≤ 2 + v ∧ Out True (fun b => w.heap.size ≤ b) wr (.slice (some ⟨g, 0, none⟩) n cap) n ∧ Rd B wr R k' ∧ k' ≤ k + 1 + 10 * (n - 2) ∧ Ch (fun i => i = R) w wr) (fun _ u _ => 10 - (intOf u).toNat)
  case atStart =>
    exact ⟨2, _, _, k + 1, rfl, rfl, by omega, by omega, G1.out, (H1.out.alloc _).alloc _, by omega, (C1.out.alloc _).alloc _⟩
  case round =>
    obtain ⟨n, g, cap, k', rfl, rfl, n2, nv, hout, hrd, hk', hch⟩ := hrel
    have HO : Hid (Out True (fun b => w.heap.size ≤ b) wr (.slice (some ⟨g, 0, none⟩) n cap) n) := hout
    have HR : Hid (Rd B wr R k') := hrd
    have HC : Hid (Ch (fun i => i = R) w wr) := hch
    clear hout hrd hch
    by_cases hlt : (n : Int) < 2 + v
    · go_wp2_with fail
      refine (pick B R k' n wr HR.out (by omega) (by omega)).mono ?_
      rintro e w2 ⟨u, rfl, u0, u1, h2⟩
      have H2 : Hid (Rd B w2 R (k' + 1)) := h2.rd
      have C2 : Hid (Ch (fun i => i = R) w w2) := HC.out.trans h2.ch (fun _ _ h => h)
      have O2 : Hid (Out True (fun b => w.heap.size ≤ b ∧ b < w2.heap.size) w2 (.slice (some ⟨g, 0, none⟩) n cap) n) :=
        (HO.out.ch h2.ch (fun b hb hl e => by omega)).mono (fun b hb hl => ⟨hb, hl⟩)
      have S2 : w.heap.size ≤ w2.heap.size := C2.out.size
      clear h2
      go_wp2_with fail
      refine (pick B R (k' + 1) 3 _ (H2.out.alloc _) (by omega) (by omega)).mono ?_
      rintro e w3 ⟨m, rfl, m0, m1, h3⟩
      have I3 : Hid (InL w.heap.size B R w2.heap.size w w3 u (.slice none 0 0) (.slice (some ⟨g, 0, none⟩) n cap) n 0 (k' + 2)) := by
        have hR := H2.out.size
        refine ⟨h3.rd, ?_, ⟨[], ⟨rfl, .inl ⟨rfl, rfl⟩⟩, by simp⟩, by simp [Value.ownBlock], ?_, (C2.out.alloc _).trans h3.ch (fun _ _ h => h), ?_⟩
        · rw [h3.block _ (by omega), heap_alloc_new]
        · refine ((O2.out.ch ((Ch.refl (fun _ => False) w2).alloc _) (fun _ _ _ h => h)).ch h3.ch (fun b hb hl e => ?_))
          have := C2.out.size
          omega
        · rw [h3.size]; simp
      have S3 : Hid (w2.heap.size < w3.heap.size) := by show _ < _; rw [h3.size]; simp
      clear h3
      go_wp2_with fail
      obtain ⟨m, rfl⟩ := Int.eq_ofNat_of_zero_le m0
      obtain ⟨i0, hi0, hz0, hz1, hz2⟩ := info_parts info_int2
      have hRG : R < w.heap.size := hRs
      go_loopw [7] (fun t wr => ∃ (q j kk : Nat) (fv : Value), t = .int .i64 q ∧ q ≤ 2 ∧ InL w.heap.size B R w2.heap.size w wr u fv (.slice (some ⟨g, 0, none⟩) n cap) n j kk ∧ j + q ≤ 2 ∧ kk ≤ k' + 2 + 2 * j) (fun t _ => (intOf t).toNat)
      case atStart => exact ⟨m, 0, k' + 2, _, rfl, by omega, I3.out, by omega, by omega⟩
      case round =>
        obtain ⟨q, j, kk, fv, rfl, q2, hin, jq, hkk⟩ := hrel
        have HI : Hid (InL w.heap.size B R w2.heap.size w wr u fv (.slice (some ⟨g, 0, none⟩) n cap) n j kk) := hin
        clear hin
        by_cases hq : 0 < q
        · obtain ⟨xs, hown, hxs⟩ := HI.out.fields
          obtain ⟨b0, b1, b2, b3⟩ := box_cells HI.out.box
          have HXs : Hid (∀ x ∈ xs, -1000 ≤ x ∧ x ≤ 1000) := hxs
          have hX := HI.out.size
          clear hxs
          have hXR : w2.heap.size ≠ R := by omega
          have hfar : some w2.heap.size ≠ fv.ownBlock := fun e => by have := HI.out.above _ e.symm; omega
          have K4 : Hid (∀ w4, Ch (fun i => i = R) wr.drew w4 → w4.cell? ⟨w2.heap.size, 1, none⟩ = some fv ∧ w4.frozen? ⟨w2.heap.size, 1, none⟩ = false) :=
            fun w4 c4 => ⟨(c4.cell _ _ hX hXR).trans b1, (c4.frozen _ _ hX hXR).trans b3⟩
          go_wp2_with fail
          go_region_law (first
              | (go_simp
                 go_at_call 41
                 refine (drawField B R kk (2 + v) _ HI.out.rd.drew (by omega) (by omega) (by omega)).mono ?_
                 rintro e w4 ⟨t, k4, rfl, t0, t1, r4, hk4, c4, s4⟩
                 clear s4
                 have s5 : w2.heap.size < w4.heap.size := Nat.lt_of_lt_of_le hX c4.size
                 have s6 : w2.heap.size < (w4.alloc (.cells #[.int .i64 t] 3)).heap.size := by (simp; omega)
                 have own4 := own_keep (w' := w4) hown (fun b hb => c4.block b (own_lt hown b hb).1 (by have := HI.out.above b hb; omega))
                 have d4 := (K4.out _ c4).1
                 have f4 := (K4.out _ c4).2)
              | (refine step_append_lies _ (by rfl) _ _ _ (by rfl) 0 3 i0 _ 1 8 Try.underlying46 hi0 hz0 hz1 hz2 rfl (by omega) fv j _ (by rfl) (own4.alloc _) ⟨w4.heap.size, 0, none⟩ 1 1 [.int .i64 t] (by rfl) (by rfl) (World.news_of_block (cs := #[.int .i64 t]) (t := 3) (fr := (0, 0)) (heap_alloc_new w4 _)) (by simp [Value.oneCell']) (by omega) (by unfold maxLen; omega) (by omega) (Nat.zero_le _) (w4.heap.size + 1) (by simp) ?_
                 intro gg cap' w5 hown5 hgrow hat hlt5
                 have d5 : w5.cell? ⟨w2.heap.size, 1, none⟩ = some fv := (hgrow.cell_far _ s6 hfar).trans ((World.cell?_alloc_past _ _ _ s5).trans (K4.out _ c4).1)
                 have f5 : w5.frozen? ⟨w2.heap.size, 1, none⟩ = false := (hgrow.frozen_far _ s6 hfar).trans ((World.frozen?_alloc_past _ _ _ s5).trans (K4.out _ c4).2)))
          all_goals
            have c4' : Ch (fun i => i = R) wr w4 := ⟨c4.os, c4.tape, c4.output, c4.size, c4.block⟩
            have I5 := HI.out.step hRG S2 rfl c4' r4 xs HXs.out (t := t) (by omega) _ hgrow hown5 hat
            have HI5 : Hid _ := I5
            clear I5 hgrow hown5 hat own4 c4 c4' r4 hown d4 f4 d5 f5
            go_wp2_with fail
            obtain ⟨q, rfl⟩ : ∃ q' : Nat, q = q' + 1 := ⟨q - 1, by omega⟩
            exact ⟨⟨q, j + 1, k4, _, by go_num, by omega, HI5.out, by omega, by omega⟩, by simp [intOf]⟩
        · have hq0 : q = 0 := by omega
          subst hq0
          obtain ⟨b0, b1, b2, b3⟩ := box_cells HI.out.box
          have hX := HI.out.size
          obtain ⟨xsO, ownO, hn20, hdO, hiO, hdi⟩ := HI.out.out
          have HDi : Hid (Dist xsO n ∧ Short xsO n) := hdi trivial
          obtain ⟨ys, ownF, _⟩ := HI.out.fields
          have Hone : Hid (fv.oneCell' = true) := own_one ownF
          have HdO : Hid (∀ b, (Value.slice (some ⟨g, 0, none⟩) n cap).ownBlock = some b → w.heap.size ≤ b ∧ b < w2.heap.size) := hdO
          have HiO : Hid (∀ i, i < n → ∃ (s : Int) (fv : Value), xsO[i * 2]? = some (.int .i64 s) ∧ (-1000 ≤ s ∧ s ≤ 1000) ∧ xsO[i * 2 + 1]? = some fv ∧ FV (fun b => w.heap.size ≤ b ∧ b < w2.heap.size) wr fv) := hiO
          have HOF : Hid (wr.ownsRow 0 3 1 fv j (ys.map (Value.int .i64))) := ownF
          obtain ⟨i1, hj0, hj1, hj2, hj3⟩ := info_parts info_cls2
          clear hdO hiO ownF hdi
          go_wp2_with (at_builtin; refine wpList_append_lies _ rfl _ _ _ rfl 0 49 i1 _ 2 32 Try.underlying23 hj0 hj1 hj2 hj3 rfl (by omega) (.slice (some ⟨g, 0, none⟩) n cap) n xsO rfl (ownO.alloc _) ⟨wr.heap.size, 0, none⟩ 1 1 [.int .i64 u, fv] rfl rfl (World.news_of_block (cs := #[.int .i64 u, fv]) (t := 49) (fr := (0, 0)) (heap_alloc_new wr _)) (news_one Hone.out) (by omega) (by unfold maxLen; omega) (by omega) (Nat.zero_le _) (wr.heap.size + 1) (by simp) ?_; intro g2 cap2 w6 hown6 hgrow6 hat6 hlt6)
          have P := HI.out.push hRG S2 rfl (by omega) (by omega) (by omega) xsO ownO.1 HiO.out HDi.out.1 HDi.out.2 HdO.out (fun b hb => (own_lt ownO b hb).2) _ hgrow6 hown6 hat6
          exact ⟨⟨n + 1, g2, cap2, kk, rfl, by go_num, by omega, by omega, P.1, P.2.1, by omega, P.2.2⟩, by simp [intOf]; omega⟩
    · go_wp2_with fail
      go_ret
      exact ⟨g, n, cap, k', rfl, n2, by omega, HO.out, HR.out, by omega, HC.out⟩

end Go.Proofs.Ytcmjhgpkpiadmaa
