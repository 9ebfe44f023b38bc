/-
  What is on top of a shape's stack goes: what is said of it, and that the specification says so, in whatever memory; it writes nothing that was there.
  A type more on a shape's stack: what is said of it, and that the specification says so, in whatever memory; it writes nothing that was there.
  A shape in memory of one's own, what goes from its stack and comes onto it; what a function answers that changes one.
  What a method is given, and the shape in which it begins: what is said of it, and that the specification says so, in whatever memory; it writes nothing that was there.
  The shape in which a method begins: what is said of it, and that the specification says so, in whatever memory; it writes nothing that was there.
-/
import Derived.Test.YtmhhopccgokglaaGreatL11Copy
namespace Go.Proofs.YtmhhopccgokglaaGreat
open Go.ChangeShapes Go.WideShapes Go.ChangeAt Go.RowKit

def popB (L : List Cl) (vs ts : List Int) : Bool := decide (ts.length ≤ vs.length) && (List.range ts.length).all (fun i => inB L (vs.getD (vs.length - ts.length + i) 0) (ts.getD i 0))
def popN (L : List Cl) (vs ts : List Int) : Nat := if popB L vs ts then vs.length - ts.length else vs.length

end Go.Proofs.YtmhhopccgokglaaGreat
namespace Go.Proofs.YtmhhopccgokglaaGreat
open Go.ChangeShapes Go.WideShapes Go.ChangeAt Go.RowKit

def pushB (vs : List Int) (t : Int) (ok : Bool) : Bool := (ok && !(t == 0)) && decide (vs.length < 4)

def elemA (k : Int) : Int := if k = 0 then 3 else 4
def elemE (k : Int) : Int := if k = 0 then 1 else 8
end Go.Proofs.YtmhhopccgokglaaGreat
namespace Go.Proofs.YtmhhopccgokglaaGreat
open Go.ChangeShapes Go.WideShapes Go.ChangeAt Go.RowKit

def push (s : Sh) (t : Int) (ok : Bool) : Sh × Bool := if pushB s.2.2 t ok then ((s.1, s.2.1, s.2.2 ++ [t]), true) else (s, false)
def pop (L : List Cl) (s : Sh) (ts : List Int) : Sh × Bool := if popB L s.2.2 ts then ((s.1, s.2.1, s.2.2.take (s.2.2.length - ts.length)), true) else (s, false)
theorem push_two (s : Sh) (t : Int) (ok : Bool) : (push s t ok).2 = pushB s.2.2 t ok := by
  unfold push
  cases pushB s.2.2 t ok <;> rfl
theorem pop_two (L : List Cl) (s : Sh) (ts : List Int) : (pop L s ts).2 = popB L s.2.2 ts := by
  unfold pop
  cases popB L s.2.2 ts <;> rfl
theorem pop_st (L : List Cl) (s : Sh) (ts : List Int) : (pop L s ts).1 = (s.1, s.2.1, s.2.2.take (popN L s.2.2 ts)) := by
  unfold pop popN
  cases popB L s.2.2 ts
  · simp
  · rfl
theorem IntsAt.take {D : Nat → Prop} {w : World} {a : Option Addr} {len : Nat} {xs : List Int} (h : IntsAt D w a len xs) (n : Nat) (hn : n ≤ len) : IntsAt D w a n (xs.take n) := by
  have hs := h.size
  have hr := h.room
  have hg : ∀ j, j < n → (xs.take n).getD j 0 = xs.getD j 0 := fun j hj => by
    rw [List.getD_eq_getElem?_getD, List.getD_eq_getElem?_getD, List.getElem?_take_of_lt hj]
  refine ⟨by rw [List.length_take]; omega, by omega, ?_, fun j => ?_⟩
  · rcases h.cells with h0 | ⟨b, off, ha, hd, hc⟩
    · exact .inl (by omega)
    · exact .inr ⟨b, off, ha, hd, fun j hj => by rw [hg j hj]; exact hc j (by omega)⟩
  · by_cases hj : j < n
    · rw [hg j hj]; exact h.fits j
    · rw [List.getD_eq_getElem?_getD, List.getElem?_take_eq_none (by omega)]; simp

structure ShM (base : Nat) (w : World) (la : Option Addr) (ll lc : Nat) (ka : Option Addr) (kl kc : Nat) (us vs : List Int) : Prop where
  ul : us.length = ll
  loc : w.ownsRow base 3 1 (.slice la ll lc) ll (us.map (Value.int .i64))
  fu : ∀ j, -9223372036854775808 ≤ us.getD j 0 ∧ us.getD j 0 ≤ 9223372036854775807
  st : IntsAt (fun b => base ≤ b ∧ (Value.slice la ll lc).ownBlock ≠ some b) w ka kl vs
  room : kl ≤ kc
theorem ShM.later {base : Nat} {w w' : World} {la : Option Addr} {ll lc : Nat} {ka : Option Addr} {kl kc : Nat} {us vs : List Int} (h : ShM base w la ll lc ka kl kc us vs) (b : Below w.heap.size w w') : ShM base w' la ll lc ka kl kc us vs :=
  ⟨h.ul, own_keep' h.loc (fun k hk => b.block k (own_lt' h.loc k hk)), h.fu, h.st.later b, h.room⟩
theorem ShM.take {base : Nat} {w : World} {la : Option Addr} {ll lc : Nat} {ka : Option Addr} {kl kc : Nat} {us vs : List Int} (h : ShM base w la ll lc ka kl kc us vs) (n : Nat) (hn : n ≤ kl) : ShM base w la ll lc ka n kc us (vs.take n) :=
  ⟨h.ul, h.loc, h.fu, h.st.take n hn, by have := h.room; omega⟩

/-- What is answered: a shape, its locals where they were, and whether it may be. -/
def Ans (base : Nat) (w : World) (any : Bool) (la : Option Addr) (ll lc : Nat) (r : Sh × Bool) (e : Ending) (w' : World) : Prop :=
  ∃ ka kl kc, e = .returned (.tuple #[.agg #[.bool any, .slice la ll lc, .slice ka kl kc], .bool r.2]) ∧ ShM base w' la ll lc ka kl kc r.1.2.1 r.1.2.2 ∧ Below base w w'
/-- The answer is laid into the block Z. -/
def laid (w : World) (Z : Nat) (any : Bool) (lv sv : Value) : World := ((w.setCell ⟨Z, 0, none⟩ (.bool any)).setCell ⟨Z, 1, none⟩ lv).setCell ⟨Z, 2, none⟩ sv
theorem laid_eq (w : World) (Z : Nat) (any : Bool) (lv sv : Value) : laid w Z any lv sv = ((w.setCell ⟨Z, 0, none⟩ (.bool any)).setCell ⟨Z, 1, none⟩ lv).setCell ⟨Z, 2, none⟩ sv := rfl
theorem laid_top (w : World) (a b c : Value) (t : TypeId) (any : Bool) (lv sv : Value) (Z : Nat) (hZ : Z = w.heap.size) : laid (w.alloc (.cells #[a, b, c] t)) Z any lv sv = w.alloc (.cells #[.bool any, lv, sv] t) := by
  unfold laid
  rw [World.setCell_alloc_at _ _ _ _ _ hZ, World.setCell_alloc_at _ _ _ _ _ hZ, World.setCell_alloc_at _ _ _ _ _ hZ]
  rfl
theorem laid_block (w : World) (Z : Nat) (any : Bool) (lv sv : Value) (b : Nat) (hb : b ≠ Z) : (laid w Z any lv sv).heap[b]? = w.heap[b]? := by
  unfold laid
  rw [Below.heap_setCell _ _ _ _ (by simpa using hb), Below.heap_setCell _ _ _ _ (by simpa using hb), Below.heap_setCell _ _ _ _ (by simpa using hb)]
theorem laid_below {base Z : Nat} {w w2 : World} (h : Below base w w2) (hZ : base ≤ Z) (any : Bool) (lv sv : Value) : Below base w (laid w2 Z any lv sv) :=
  ((h.setCell hZ _).setCell hZ _).setCell hZ _
theorem fin_sh {base Z : Nat} {w w2 : World} {any : Bool} {la : Option Addr} {ll lc : Nat} {ka : Option Addr} {kl kc : Nat} {us vs : List Int} {r : Sh × Bool} (hb : base ≤ w.heap.size) (hZ : w.heap.size ≤ Z) (B : Below base w w2) (ul : us.length = ll)
    (loc : w2.ownsRow base 3 1 (.slice la ll lc) ll (us.map (Value.int .i64))) (hl : (Value.slice la ll lc).ownBlock ≠ some Z) (fu : ∀ j, -9223372036854775808 ≤ us.getD j 0 ∧ us.getD j 0 ≤ 9223372036854775807)
    (st : IntsAt (fun b => (base ≤ b ∧ (Value.slice la ll lc).ownBlock ≠ some b) ∧ b ≠ Z) w2 ka kl vs) (room : kl ≤ kc) (h1 : r.1.2.1 = us) (h2 : r.1.2.2 = vs) (sv : Value) :
    Ans base w any la ll lc r (.returned (.tuple #[.agg #[.bool any, .slice la ll lc, .slice ka kl kc], .bool r.2])) (laid w2 Z any (.slice la ll lc) sv) := by
  refine ⟨ka, kl, kc, rfl, ⟨by rw [h1]; exact ul, ?_, by rw [h1]; exact fu, ?_, room⟩, laid_below B (by omega) _ _ _⟩
  · rw [h1]
    exact own_keep' loc fun b hb' => laid_block _ _ _ _ _ b (fun e => hl (by rw [hb', e]))
  · rw [h2]
    refine IntsAt.mono (D := fun b => (base ≤ b ∧ (Value.slice la ll lc).ownBlock ≠ some b) ∧ b ≠ Z) ?_ (fun b hb' _ => hb'.1)
    exact st.keep fun b o hd _ => World.cell?_of_block (w := w2) (laid_block _ _ _ _ _ b hd.2)
theorem ShM.apartZ {base : Nat} {w : World} {la : Option Addr} {ll lc : Nat} {ka : Option Addr} {kl kc : Nat} {us vs : List Int} (h : ShM base w la ll lc ka kl kc us vs) {Z : Nat} (hZ : w.heap.size ≤ Z) : (Value.slice la ll lc).ownBlock ≠ some Z := fun e => by
  have := own_lt' h.loc Z e
  omega
theorem ShM.stZ {base : Nat} {w w2 : World} {la : Option Addr} {ll lc : Nat} {ka : Option Addr} {kl kc : Nat} {us vs : List Int} (h : ShM base w la ll lc ka kl kc us vs) {Z : Nat} (hZ : w.heap.size ≤ Z) (B : Below w.heap.size w w2) : IntsAt (fun b => (base ≤ b ∧ (Value.slice la ll lc).ownBlock ≠ some b) ∧ b ≠ Z) w2 ka kl vs :=
  (IntsAt.mono h.st (fun b hb hl => ⟨hb, by omega⟩)).later B
theorem fin_push {base Z : Nat} {w w2 : World} {any ok : Bool} {t : Int} {la : Option Addr} {ll lc : Nat} {ka ga : Option Addr} {kl kc gl gc w1s : Nat} {us vs : List Int} (h : ShM base w la ll lc ka kl kc us vs) (hb : base ≤ w.heap.size) (hZ : w.heap.size ≤ Z) (B : Below w.heap.size w w2) (hw1 : Z < w1s)
    (hr : (pushB vs t ok = false ∧ ga = ka ∧ gl = kl ∧ gc = kc) ∨ (pushB vs t ok = true ∧ IntsAt (fun b => w1s ≤ b) w2 ga gl (vs ++ [t]) ∧ gl ≤ gc)) (sv : Value) :
    Ans base w any la ll lc (push (any, us, vs) t ok) (.returned (.tuple #[.agg #[.bool any, .slice la ll lc, .slice ga gl gc], .bool (pushB vs t ok)])) (laid w2 Z any (.slice la ll lc) sv) := by
  have h' := h.later B
  have e2 := push_two (any, us, vs) t ok
  simp only at e2
  rw [← e2]
  rcases hr with ⟨hp, rfl, rfl, rfl⟩ | ⟨hp, hI, hg⟩
  · refine fin_sh hb hZ (B.mono hb) h.ul h'.loc (h.apartZ hZ) h.fu (h.stZ hZ B) h.room ?_ ?_ sv
    · unfold push; simp only; rw [hp]; rfl
    · unfold push; simp only; rw [hp]; rfl
  · refine fin_sh hb hZ (B.mono hb) h.ul h'.loc (h.apartZ hZ) h.fu (IntsAt.mono hI (fun b hb' _ => ⟨⟨by omega, fun e => ?_⟩, by omega⟩)) hg ?_ ?_ sv
    · have := own_lt' h.loc b e
      omega
    · unfold push; simp only; rw [hp]; rfl
    · unfold push; simp only; rw [hp]; rfl
theorem popN_le {L : List Cl} {vs ts : List Int} : popN L vs ts ≤ vs.length := by
  unfold popN
  split <;> omega
theorem fin_pop {base Z : Nat} {w w2 : World} {any : Bool} {L : List Cl} {ts : List Int} {la : Option Addr} {ll lc : Nat} {ka : Option Addr} {kl kc : Nat} {us vs : List Int} (h : ShM base w la ll lc ka kl kc us vs) (hb : base ≤ w.heap.size) (hZ : w.heap.size ≤ Z) (B : Below w.heap.size w w2) (sv : Value) :
    Ans base w any la ll lc (pop L (any, us, vs) ts) (.returned (.tuple #[.agg #[.bool any, .slice la ll lc, .slice ka (popN L vs ts) kc], .bool (popB L vs ts)])) (laid w2 Z any (.slice la ll lc) sv) := by
  have h' := h.later B
  have e2 := pop_two L (any, us, vs) ts
  have e3 := pop_st L (any, us, vs) ts
  simp only at e2 e3
  rw [← e2]
  have hn : popN L vs ts ≤ kl := by rw [← h.st.size]; exact popN_le
  have hm := h.take (popN L vs ts) hn
  exact fin_sh hb hZ (B.mono hb) h.ul h'.loc (h.apartZ hZ) h.fu (hm.stZ hZ B) hm.room (by rw [e3]) (by rw [e3]) sv

end Go.Proofs.YtmhhopccgokglaaGreat
namespace Go.Proofs.YtmhhopccgokglaaGreat
open Go.ChangeShapes Go.WideShapes Go.ChangeAt Go.RowKit

def givL (c : Int) (args : List Int) : List Int := (if 0 ≤ c then [8 + c] else []) ++ args

set_option maxRecDepth 100000 in
set_option maxHeartbeats 4000000 in
theorem givenSpec (c s o lo : Int) (aa : Option Addr) (al ac : Nat) (da : Option Addr) (dl dc : Nat) (sa : Option Addr) (sl sc : Nat) (ha : Option Addr) (hl hc : Nat) (args : List Int) (w : World) {D : Nat → Prop} (hA : IntsAt D w aa al args) (hal : al ≤ 900) (hc0 : -1000 ≤ c ∧ c ≤ 1000) :
    Calls Tryz.prog 33 #[.agg #[.int .i64 c, .int .i64 s, .slice aa al ac, .int .i64 o, .int .i64 lo, .slice da dl dc, .slice sa sl sc, .slice ha hl hc]] w fun e w' => ∃ v, e = .returned v ∧ NewInts w v w' (givL c args) := by
  have HA : Hid (IntsAt D w aa al args) := hA
  have SA : Hid (args.length = al) := hA.size
  have D0 : Hid (Below (w.heap.size + 1) (w.alloc (.cells #[.int .i64 c, .int .i64 s, .slice aa al ac, .int .i64 o, .int .i64 lo, .slice da dl dc, .slice sa sl sc, .slice ha hl hc] 50)) ((w.alloc (.cells #[.int .i64 c, .int .i64 s, .slice aa al ac, .int .i64 o, .int .i64 lo, .slice da dl dc, .slice sa sl sc, .slice ha hl hc] 50)).alloc (.cells #[] 3))) := (Below.refl _ _).alloc (by simp) _
  have O1 : Hid (((w.alloc (.cells #[.int .i64 c, .int .i64 s, .slice aa al ac, .int .i64 o, .int .i64 lo, .slice da dl dc, .slice sa sl sc, .slice ha hl hc] 50)).alloc (.cells #[] 3)).ownsRow (w.heap.size + 1) 3 1 (.slice (some ⟨w.heap.size + 1, 0, none⟩) 0 0) 0 (([] : List Int).map (Value.int .i64))) := own_empty _ _ (by simp) (by simp)
  have KB : Hid (∀ x : World, Below (w.heap.size + 1) (w.alloc (.cells #[.int .i64 c, .int .i64 s, .slice aa al ac, .int .i64 o, .int .i64 lo, .slice da dl dc, .slice sa sl sc, .slice ha hl hc] 50)) x → x.cell? ⟨w.heap.size, 0, none⟩ = some (.int .i64 c) ∧ x.cell? ⟨w.heap.size, 2, none⟩ = some (.slice aa al ac)) := fun x hb => ⟨box_cell hb 0 _ rfl, box_cell hb 2 _ rfl⟩
  clear hA
  by_cases hcc : 0 ≤ c
  · have HG : Hid (givL c args = [8 + c] ++ args) := by show _ = _; rw [givL, if_pos hcc]
    go_enter Tryz.func33, Tryz.ntmps33
    go_wp2_with (first
      | (at_builtin
         refine list_app rfl _ _ rfl (w.heap.size + 1) (.slice (some ⟨w.heap.size + 1, 0, none⟩) 0 0) 0 [] rfl (O1.out.alloc _) _ _ _ rfl [8 + c] (lit_at ((w.alloc (.cells #[.int .i64 c, .int .i64 s, .slice aa al ac, .int .i64 o, .int .i64 lo, .slice da dl dc, .slice sa sl sc, .slice ha hl hc] 50)).alloc (.cells #[] 3)) [8 + c] _ (by simp) (by simp) (by intro x hx; simp at hx; omega)) (by omega) (by omega) (by simp) ?_
         intro a2 c2 w2 hown2 hgrow2 hloc2
         simp only [Nat.zero_add, List.nil_append] at hown2 ⊢
         have D2 : Hid (Below (w.heap.size + 1) (w.alloc (.cells #[.int .i64 c, .int .i64 s, .slice aa al ac, .int .i64 o, .int .i64 lo, .slice da dl dc, .slice sa sl sc, .slice ha hl hc] 50)) w2) := (D0.out.alloc (by simp) _).grown hgrow2 (by simp) (fun j e => by simp [Value.ownBlock] at e; omega)
         have O2 : Hid (w2.ownsRow (w.heap.size + 1) 3 1 (.slice a2 1 c2) 1 ([8 + c].map (Value.int .i64))) := hown2
         obtain ⟨q0, q2⟩ := KB.out w2 D2.out
         clear hown2 hgrow2 hloc2)
      | (at_builtin
         refine list_app rfl _ _ rfl (w.heap.size + 1) (.slice a2 1 c2) 1 [8 + c] rfl O2.out _ _ _ rfl args (HA.out.later (box_below D2.out)) (by omega) (by omega) (by have := D2.out.size; simpa using this) ?_
         intro a3 c3 w3 hown3 hgrow3 hloc3
         have D3 : Hid (Below (w.heap.size + 1) (w.alloc (.cells #[.int .i64 c, .int .i64 s, .slice aa al ac, .int .i64 o, .int .i64 lo, .slice da dl dc, .slice sa sl sc, .slice ha hl hc] 50)) w3) := D2.out.grown hgrow3 (by have := D2.out.size; simpa using this) (fun j e => by have := own_ge O2.out j e.symm; omega)
         have O3 : Hid (w3.ownsRow (w.heap.size + 1) 3 1 (.slice a3 (1 + al) c3) (1 + al) (([8 + c] ++ args).map (Value.int .i64))) := hown3
         clear hown3 hgrow3 hloc3))
    go_ret
    exact ⟨_, rfl, by rw [HG.out, show ([8 + c] ++ args).length = 1 + al from by simp [SA.out]; omega]; exact own_low O3.out (by omega), box_below D3.out⟩
  · have HG : Hid (givL c args = [] ++ args) := by show _ = _; rw [givL, if_neg hcc]
    go_enter Tryz.func33, Tryz.ntmps33
    go_wp2_with (at_builtin
                 refine list_app rfl _ _ rfl (w.heap.size + 1) (.slice (some ⟨w.heap.size + 1, 0, none⟩) 0 0) 0 [] rfl O1.out _ _ _ rfl args (HA.out.later (box_below D0.out)) (by omega) (by omega) (by simp) ?_
                 intro a3 c3 w3 hown3 hgrow3 hloc3
                 simp only [Nat.zero_add] at hown3 ⊢
                 have D3 : Hid (Below (w.heap.size + 1) (w.alloc (.cells #[.int .i64 c, .int .i64 s, .slice aa al ac, .int .i64 o, .int .i64 lo, .slice da dl dc, .slice sa sl sc, .slice ha hl hc] 50)) w3) := D0.out.grown hgrow3 (by simp) (fun j e => by simp [Value.ownBlock] at e; omega)
                 have O3 : Hid (w3.ownsRow (w.heap.size + 1) 3 1 (.slice a3 al c3) al (([] ++ args).map (Value.int .i64))) := hown3
                 clear hown3 hgrow3 hloc3)
    go_ret
    exact ⟨_, rfl, by rw [HG.out, show ([] ++ args : List Int).length = al from by simp [SA.out]]; exact own_low O3.out (by omega), box_below D3.out⟩

end Go.Proofs.YtmhhopccgokglaaGreat
namespace Go.Proofs.YtmhhopccgokglaaGreat
open Go.ChangeShapes Go.WideShapes Go.ChangeAt Go.RowKit

def lenOf : Option Value → Nat
  | some (.slice _ n _) => n
  | _ => 0
def stL (c : Int) (args : List Int) (lo : Int) : List Int := givL c args ++ List.replicate (lo.toNat - (givL c args).length) 0

theorem own_slc {w : World} {base : Nat} {e : TypeId} {size n : Nat} {v : Value} {xs : List Value} (h : w.ownsRow base e size v n xs) : ∃ a c, v = .slice a n c := by
  rcases h.2 with ⟨rfl, rfl⟩ | ⟨g, cap, cur, rfl, _⟩
  · exact ⟨_, _, rfl⟩
  · exact ⟨_, _, rfl⟩

/-- Inside the loop: the list so far is the call's own, and lies apart from the box X that holds it. -/
structure StI (w wr : World) (X : Nat) (g : Option Addr) (n cap : Nat) (sv : Option Addr) (us : List Int) (lo : Int) : Prop where
  ul : us.length = n
  own : wr.ownsRow (w.heap.size + 1 + 1) 3 1 (.slice g n cap) n (us.map (Value.int .i64))
  apart : (Value.slice g n cap).ownBlock ≠ some X
  hi : w.heap.size + 1 + 1 ≤ X
  lt : X < wr.heap.size
  m4 : wr.cell? ⟨w.heap.size, 4, none⟩ = some (.int .i64 lo)
  c0 : wr.cell? ⟨X, 0, none⟩ = some (.bool true)
  c1 : wr.cell? ⟨X, 1, none⟩ = some (.slice g n cap)
  c2 : wr.cell? ⟨X, 2, none⟩ = some (.slice sv 0 0)
  f1 : wr.frozen? ⟨X, 1, none⟩ = false
  r0 : wr.cell? ⟨w.heap.size + 1, 0, none⟩ = some (.bool false)
  r1 : wr.cell? ⟨w.heap.size + 1, 1, none⟩ = some (.slice none 0 0)
  r2 : wr.cell? ⟨w.heap.size + 1, 2, none⟩ = some (.slice none 0 0)
  q0 : wr.frozen? ⟨w.heap.size + 1, 0, none⟩ = false
  q1 : wr.frozen? ⟨w.heap.size + 1, 1, none⟩ = false
  q2 : wr.frozen? ⟨w.heap.size + 1, 2, none⟩ = false
  be : Below w.heap.size w wr

theorem StI.step {w wr w3 : World} {X : Nat} {g a3 : Option Addr} {n cap c3 : Nat} {sv : Option Addr} {us : List Int} {lo : Int} (h : StI w wr X g n cap sv us lo) {ob : Obj} (hg : (wr.alloc ob).grownBy w3 (Value.slice g n cap).ownBlock)
    (ho : w3.ownsRow (w.heap.size + 1 + 1) 3 1 (.slice a3 (n + 1) c3) (n + 1) ((us ++ [0]).map (Value.int .i64))) (hl : ∀ b, (Value.slice a3 (n + 1) c3).ownBlock = some b → (Value.slice g n cap).ownBlock = some b ∨ (wr.alloc ob).heap.size ≤ b) :
    StI w (w3.setCell ⟨X, 1, none⟩ (.slice a3 (n + 1) c3)) X a3 (n + 1) c3 sv (us ++ [0]) lo := by
  have hlt := h.lt
  have hhi := h.hi
  have far : ∀ b, b = w.heap.size ∨ b = w.heap.size + 1 ∨ b = X → some b ≠ (Value.slice g n cap).ownBlock := fun b hb e => by
    rcases hb with rfl | rfl | rfl
    · have := own_ge h.own _ e; omega
    · have := own_ge h.own _ e; omega
    · exact h.apart e.symm
  have kc : ∀ b j, (b = w.heap.size ∨ b = w.heap.size + 1 ∨ b = X) → w3.cell? ⟨b, j, none⟩ = wr.cell? ⟨b, j, none⟩ := fun b j hb => by
    have hbl : b < wr.heap.size := by rcases hb with rfl | rfl | rfl <;> omega
    rw [hg.cell_far ⟨b, j, none⟩ (by simp; omega) (far b hb), World.cell?_alloc_past _ _ _ hbl]
  have kf : ∀ b j, (b = w.heap.size ∨ b = w.heap.size + 1 ∨ b = X) → w3.frozen? ⟨b, j, none⟩ = wr.frozen? ⟨b, j, none⟩ := fun b j hb => by
    have hbl : b < wr.heap.size := by rcases hb with rfl | rfl | rfl <;> omega
    rw [hg.frozen_far ⟨b, j, none⟩ (by simp; omega) (far b hb), World.frozen?_alloc_past _ _ _ hbl]
  have ap : (Value.slice a3 (n + 1) c3).ownBlock ≠ some X := fun e => by
    rcases hl X e with e2 | e2
    · exact h.apart e2
    · simp at e2; omega
  have ks : ∀ b j v, b ≠ X → w3.cell? ⟨b, j, none⟩ = v → (w3.setCell ⟨X, 1, none⟩ (.slice a3 (n + 1) c3)).cell? ⟨b, j, none⟩ = v := fun b j v hb e => by
    rw [← e]; unfold World.cell?; rw [Below.heap_setCell _ _ _ _ hb]
  have hsz := hg.size
  simp only [World.size_alloc] at hsz
  refine ⟨by simp [h.ul], own_keep' ho (fun b hb => Below.heap_setCell _ _ _ _ (fun e => ap (by rw [hb, e]))), ap, hhi, by rw [World.size_setCell]; omega, ks _ _ _ (by omega) ((kc _ _ (.inl rfl)).trans h.m4), ?_, ?_, ?_, by rw [World.frozen?_setCell]; exact (kf _ _ (.inr (.inr rfl))).trans h.f1,
    ks _ _ _ (by omega) ((kc _ _ (.inr (.inl rfl))).trans h.r0), ks _ _ _ (by omega) ((kc _ _ (.inr (.inl rfl))).trans h.r1), ks _ _ _ (by omega) ((kc _ _ (.inr (.inl rfl))).trans h.r2),
    by rw [World.frozen?_setCell]; exact (kf _ _ (.inr (.inl rfl))).trans h.q0, by rw [World.frozen?_setCell]; exact (kf _ _ (.inr (.inl rfl))).trans h.q1, by rw [World.frozen?_setCell]; exact (kf _ _ (.inr (.inl rfl))).trans h.q2, ?_⟩
  · have := kc X 0 (.inr (.inr rfl)); go_simp; exact h.c0
  · exact World.cell?_setCell_same _ _ _ ((kc X 1 (.inr (.inr rfl))).trans h.c1)
  · have := kc X 2 (.inr (.inr rfl)); go_simp; exact h.c2
  · exact ((h.be.alloc h.be.size _).grown hg (by simp; omega) (fun j e => by have := own_ge h.own j e.symm; omega)).setCell (by simp; omega) _

theorem StI.start {w w2 : World} {g : Option Addr} {n cap : Nat} {us : List Int} {lo : Int} {ms : Array Value} {mt : TypeId} (h4 : ms[4]? = some (.int .i64 lo)) (ul : us.length = n) (hn : w2.ownsRow (w.heap.size + 1 + 1) 3 1 (.slice g n cap) n (us.map (Value.int .i64)))
    (hb : Below (w.heap.size + 1 + 1) ((w.alloc (.cells ms mt)).alloc (.cells #[.bool false, .slice none 0 0, .slice none 0 0] 29)) w2) :
    StI w ((w2.alloc (.cells #[] 3)).alloc (.cells #[.bool true, .slice g n cap, .slice (some ⟨w2.heap.size, 0, none⟩) 0 0] 29)) (w2.heap.size + 1) g n cap (some ⟨w2.heap.size, 0, none⟩) us lo := by
  have hsz := hb.size
  simp only [World.size_alloc] at hsz
  have kc : ∀ b j, b < w.heap.size + 1 + 1 → ((w2.alloc (.cells #[] 3)).alloc (.cells #[.bool true, .slice g n cap, .slice (some ⟨w2.heap.size, 0, none⟩) 0 0] 29)).cell? ⟨b, j, none⟩ = ((w.alloc (.cells ms mt)).alloc (.cells #[.bool false, .slice none 0 0, .slice none 0 0] 29)).cell? ⟨b, j, none⟩ := fun b j h => by
    rw [World.cell?_alloc_past _ _ _ (by simp; omega), World.cell?_alloc_past _ _ _ (by show b < _; omega), hb.cell (p := ⟨b, j, none⟩) h]
  have kf : ∀ b j, b < w.heap.size + 1 + 1 → ((w2.alloc (.cells #[] 3)).alloc (.cells #[.bool true, .slice g n cap, .slice (some ⟨w2.heap.size, 0, none⟩) 0 0] 29)).frozen? ⟨b, j, none⟩ = ((w.alloc (.cells ms mt)).alloc (.cells #[.bool false, .slice none 0 0, .slice none 0 0] 29)).frozen? ⟨b, j, none⟩ := fun b j h => by
    rw [World.frozen?_alloc_past _ _ _ (by simp; omega), World.frozen?_alloc_past _ _ _ (by show b < _; omega), hb.frozen (p := ⟨b, j, none⟩) h]
  refine ⟨ul, (hn.alloc _).alloc _, fun e => by have := own_lt' hn _ e; omega, by omega, by simp, by rw [kc _ _ (by omega)]; exact two_first h4, by go_simp, by go_simp, by go_simp, by go_simp, by rw [kc _ _ (by omega)]; exact two_second rfl, by rw [kc _ _ (by omega)]; exact two_second rfl, by rw [kc _ _ (by omega)]; exact two_second rfl,
    by rw [kf _ _ (by omega)]; go_simp, by rw [kf _ _ (by omega)]; go_simp, by rw [kf _ _ (by omega)]; go_simp, ((below2 hb).alloc (below2 hb).size _).alloc (by simp; omega) _⟩

set_option maxRecDepth 100000 in
set_option maxHeartbeats 4000000 in
theorem startSpec (c s o lo : Int) (aa : Option Addr) (al ac : Nat) (da : Option Addr) (dl dc : Nat) (sa : Option Addr) (sl sc : Nat) (ha : Option Addr) (hl hc : Nat) (args : List Int) (w : World) {D : Nat → Prop} (hA : IntsAt D w aa al args) (hal : al ≤ 900) (hc0 : -1000 ≤ c ∧ c ≤ 1000) (hlo : lo ≤ 900) :
    Calls Tryz.prog 17 #[.agg #[.int .i64 c, .int .i64 s, .slice aa al ac, .int .i64 o, .int .i64 lo, .slice da dl dc, .slice sa sl sc, .slice ha hl hc]] w fun e w' => ∃ ga n gc ka, e = .returned (.agg #[.bool true, .slice ga n gc, .slice ka 0 0]) ∧ ShM w.heap.size w' ga n gc ka 0 0 (stL c args lo) [] ∧ Below w.heap.size w w' := by
  have HA : Hid (IntsAt D w aa al args) := hA
  have SA : Hid (args.length = al) := hA.size
  have FA : Hid (∀ j, -9223372036854775808 ≤ (givL c args).getD j 0 ∧ (givL c args).getD j 0 ≤ 9223372036854775807) := by
    refine fits_app ?_ hA.fits
    split
    · exact fits_lit (by intro x hx; simp at hx; omega)
    · exact fits_lit (by simp)
  have LG : Hid ((givL c args).length ≤ al + 1) := by show _ ≤ _; unfold givL; split <;> simp [SA.out] <;> omega
  have B0 : Hid (Below w.heap.size w ((w.alloc (.cells #[.int .i64 c, .int .i64 s, .slice aa al ac, .int .i64 o, .int .i64 lo, .slice da dl dc, .slice sa sl sc, .slice ha hl hc] 50)).alloc (.cells #[.bool false, .slice none 0 0, .slice none 0 0] 29))) := ((Below.refl _ _).alloc (Nat.le_refl _) _).alloc (by simp) _
  clear hA
  go_enter Tryz.func17, Tryz.ntmps17
  go_wp2_with fail
  refine (givenSpec c s o lo aa al ac da dl dc sa sl sc ha hl hc args _ (HA.out.later B0.out) hal hc0).mono ?_
  rintro e w2 ⟨v, rfl, hn, hb⟩
  obtain ⟨g0, cap0, rfl⟩ := own_slc hn
  have HN : Hid _ := hn
  have HB : Hid (Below ((w.alloc (.cells #[.int .i64 c, .int .i64 s, .slice aa al ac, .int .i64 o, .int .i64 lo, .slice da dl dc, .slice sa sl sc, .slice ha hl hc] 50)).alloc (.cells #[.bool false, .slice none 0 0, .slice none 0 0] 29)).heap.size ((w.alloc (.cells #[.int .i64 c, .int .i64 s, .slice aa al ac, .int .i64 o, .int .i64 lo, .slice da dl dc, .slice sa sl sc, .slice ha hl hc] 50)).alloc (.cells #[.bool false, .slice none 0 0, .slice none 0 0] 29)) w2) := hb
  clear hn hb
  have I0 : Hid (StI w ((w2.alloc (.cells #[] 3)).alloc (.cells #[.bool true, .slice g0 (givL c args).length cap0, .slice (some ⟨w2.heap.size, 0, none⟩) 0 0] 29)) (w2.heap.size + 1) g0 (givL c args).length cap0 (some ⟨w2.heap.size, 0, none⟩) (givL c args) lo) :=
    StI.start rfl rfl (own_low HN.out (by simp)) (HB.out.mono (by simp))
  clear HN HB
  generalize EG : givL c args = gv at I0 FA LG ⊢
  go_wp2_with fail
  go_loopw [] (fun wr => ∃ (g : Option Addr) (n cap k : Nat), n = gv.length + k ∧ (k = 0 ∨ (n : Int) ≤ lo) ∧ StI w wr (w2.heap.size + 1) g n cap (some ⟨w2.heap.size, 0, none⟩) (gv ++ List.replicate k 0) lo) (fun wr => lo.toNat - lenOf (wr.cell? ⟨w2.heap.size + 1, 1, none⟩))
  case atStart => exact ⟨g0, _, cap0, 0, rfl, .inl rfl, by simpa using I0.out⟩
  case round =>
    clear I0
    obtain ⟨g, n, cap, k, hn, hk, hin⟩ := hrel
    have HI : Hid (StI w wr (w2.heap.size + 1) g n cap (some ⟨w2.heap.size, 0, none⟩) (gv ++ List.replicate k 0) lo) := hin
    have HQ : Hid (n = gv.length + k) := hn
    clear hn
    have m4 := hin.m4
    have c0 := hin.c0
    have c1 := hin.c1
    have c2 := hin.c2
    have hX := hin.lt
    clear hin
    by_cases hlt : (n : Int) < lo
    · have hnl : n ≤ 1000 := by omega
      have hfar : some (w2.heap.size + 1) ≠ (Value.slice g n cap).ownBlock := fun e => HI.out.apart e.symm
      have f1 := HI.out.f1
      go_wp2_with (at_builtin
                   refine list_app rfl _ _ rfl (w.heap.size + 1 + 1) (.slice g n cap) n (gv ++ List.replicate k 0) rfl (HI.out.own.alloc _) _ _ _ rfl [0] (lit_at wr [0] _ rfl (by simp) (by intro x hx; simp at hx; omega)) (by omega) (by omega) (by have := HI.out.hi; simp; omega) ?_
                   intro a3 c3 w3 hown3 hgrow3 hloc3
                   have I3 : Hid (StI w (w3.setCell ⟨w2.heap.size + 1, 1, none⟩ (.slice a3 (n + 1) c3)) (w2.heap.size + 1) a3 (n + 1) c3 (some ⟨w2.heap.size, 0, none⟩) ((gv ++ List.replicate k 0) ++ [0]) lo) := HI.out.step hgrow3 hown3 hloc3
                   have d3 : w3.cell? ⟨w2.heap.size + 1, 1, none⟩ = some (.slice g n cap) := (hgrow3.cell_far _ (by simp; omega) hfar).trans ((World.cell?_alloc_past _ _ _ hX).trans c1)
                   have f3 : w3.frozen? ⟨w2.heap.size + 1, 1, none⟩ = false := (hgrow3.frozen_far _ (by simp; omega) hfar).trans ((World.frozen?_alloc_past _ _ _ hX).trans f1)
                   clear hown3 hgrow3 hloc3)
      have I4 := I3.out
      rw [List.append_assoc, ← List.replicate_succ'] at I4
      exact ⟨⟨a3, n + 1, c3, k + 1, by have := HQ.out; omega, .inr (by omega), I4⟩, by rw [I4.c1, c1]; simp [lenOf]; omega⟩
    · have HK : Hid (stL c args lo = gv ++ List.replicate k 0) := by show _ = _; rw [stL, EG, show lo.toNat - gv.length = k by have := HQ.out; omega]
      have r0 := HI.out.r0
      have r1 := HI.out.r1
      have r2 := HI.out.r2
      have q0 := HI.out.q0
      have q1 := HI.out.q1
      have q2 := HI.out.q2
      have FR : Hid (∀ j, -9223372036854775808 ≤ (List.replicate k (0 : Int)).getD j 0 ∧ (List.replicate k (0 : Int)).getD j 0 ≤ 9223372036854775807) := fits_lit (by intro x hx; have := List.eq_of_mem_replicate hx; omega)
      go_wp2_with fail
      refine bodyPost_ret (v := .agg #[.bool true, .slice g n cap, .slice (some ⟨w2.heap.size, 0, none⟩) 0 0]) ?_ rfl ?_
      · simp [results, Tryz.results17, go_sem, *]
      · refine ⟨_, _, _, _, rfl, ?_, ((HI.out.be.setCell (by simp) _).setCell (by simp) _).setCell (by simp) _⟩
        rw [HK.out]
        exact ⟨HI.out.ul, own_low (own_set (own_set (own_set HI.out.own _ _ (by simp)) _ _ (by simp)) _ _ (by simp)) (by omega), fits_app FA.out FR.out, ⟨rfl, by omega, .inl rfl, fun j => by simp⟩, Nat.le_refl _⟩

end Go.Proofs.YtmhhopccgokglaaGreat
