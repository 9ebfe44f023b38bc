/-
  Whether all values lead to things: the program's leadOk, a loop over the iterator that may return from its body.
-/
import Derived.Test.YtacapffmdmpnkaaLedTo
namespace Go.Proofs.Ytacapffmdmpnkaa
open Go.ChangeShapes Go.WideShapes Go.ChangeAt Go.RowKit Go.Shelf

attribute [local go_sem] Oper.semAt_some

def inN (n : Nat) (x : Int) : Bool := !(decide (x < 0) || decide ((n : Int) < x))
def inAll (n : Nat) (pre : List { _x : Int // True }) : Bool := pre.all fun x => inN n x.1
theorem inAll_snoc (n : Nat) (pre : List { _x : Int // True }) (x : { _x : Int // True }) : inAll n (pre ++ [x]) = (inAll n pre && inN n x.1) := by simp [inAll]
theorem led_all (n : Nat) (xs : List Vl) : inAll n (ledL (fun _ => True) xs) = xs.all (valB n) := by
  unfold inAll
  induction xs with
  | nil => rfl
  | cons v vs ih =>
    have e : ledL (fun _ => True) (v :: vs) = (ledV (fun _ => True) v).toList ++ ledL (fun _ => True) vs := by
      rw [ledL, List.filterMap_cons]
      cases ledV (fun _ => True) v <;> rfl
    rw [e, List.all_append, ih, List.all_cons]
    congr 1
    obtain ⟨b, x⟩ := v
    cases b
    · simp [ledV, valB]
    · by_cases hz : x = 0
      · subst hz; simp [ledV, valB]
      · by_cases h1 : x < 0
        · have : ¬ (0 ≤ x) := by omega
          simp [ledV, valB, inN, hz, h1, this]
        · by_cases h2 : (n : Int) < x
          · have : ¬ (x ≤ n) := by omega
            simp [ledV, valB, inN, hz, h1, h2, this]
          · have h3 : (0 ≤ x) := by omega
            have h4 : (x ≤ n) := by omega
            simp [ledV, valB, inN, hz, h1, h2, h3, h4]

set_option maxRecDepth 100000 in
set_option maxHeartbeats 2000000 in
theorem leadOk_in (n : Nat) (hn : 3 ≤ n) (oa : Option Addr) (ol oc : Nat) (ra : Option Addr) (rl rc : Nat) (r : List Vl) (w : World) {D : Nat → Prop} (g : SlAt vaR D w ra rl r) :
    CallsIn Fence.wide n Try.prog 24 #[.slice oa ol oc, .slice ra rl rc] w fun e W' => e = .returned (.bool (r.all (valB ol))) ∧ Below w.heap.size w W' := by
  have h1 : 1 ≤ n := by omega
  have HG : Hid (SlAt vaR (fun b => b < w.heap.size) w ra rl r) := g.mono (fun b _ hb => hb)
  clear g
  refine callsIn_of_wp_marks Try.func24 rfl trivial ?_
  simp only [Try.ntmps24, List.size_toArray, List.length_cons, List.length_nil, Nat.reduceAdd, Nat.reduceSub, Array.replicate_succ, Array.replicate_zero, List.push_toArray, List.append_toArray, List.nil_append, List.cons_append]
  gi_wp2
  refine ⟨trivial, (ledTo_in _ _ _ _ _).mono ?_⟩
  rintro e w' ⟨rfl, rfl⟩
  gi_wp2
  have c0 := one_new w (.slice oa ol oc) 23
  have c1 := one_new (w.alloc (.cells #[.slice oa ol oc] 23)) (.bool false) 4
  have c2 := one_new ((w.alloc (.cells #[.slice oa ol oc] 23)).alloc (.cells #[.bool false] 4)) (.slice ra rl rc) 24
  simp only [World.size_alloc] at c1 c2
  have hB0 : Below w.heap.size w (((w.alloc (.cells #[.slice oa ol oc] 23)).alloc (.cells #[.bool false] 4)).alloc (.cells #[.slice ra rl rc] 24)) := (((Below.refl _ w).alloc (Nat.le_refl _) _).alloc (by simp) _).alloc (by simp; omega) _
  have hS := led_stops (p := fun _ => True) (n - 1) (by omega) (w.heap.size + 1 + 1) w.heap.size ra rl rc r (fun _ _ _ _ => trivial) (((w.alloc (.cells #[.slice oa ol oc] 23)).alloc (.cells #[.bool false] 4)).alloc (.cells #[.slice ra rl rc] 24)) (by simp) (by simp; omega) c2.1 (HG.out.later hB0)
  refine wpIn_rangeFunc_ownF rfl h1 (gf := 34) (lb := #[.pointer (some ⟨w.heap.size + 1 + 1, 0, none⟩)]) rfl trivial (enters_of Try.func34 (by kernel_rfl) rfl)
    hS belowK_t (belowK_b (by simp; omega)) (Below.refl _ _) (fun _ => rfl)
    (fun pre W => ((inAll ol pre = true) ∧ W.cell? ⟨w.heap.size, 0, none⟩ = some (.slice oa ol oc) ∧ W.cell? ⟨w.heap.size + 1, 0, none⟩ = some (.bool false) ∧ W.frozen? ⟨w.heap.size + 1, 0, none⟩ = false) ∧ Below w.heap.size w W)
    (fun c pre W => (c = .ret ∧ (inAll ol pre = false) ∧ W.cell? ⟨w.heap.size + 1, 0, none⟩ = some (.bool false)) ∧ Below w.heap.size w W)
    (OwnFrom.and (Own.from (fun s A B row hs hg hr => ⟨hs.1, cell_kept hs.2.1 hg hr, cell_kept hs.2.2.1 hg hr, (frozen_kept hs.2.2.1 hg hr).trans hs.2.2.2⟩) _) (ownFrom_below (Nat.le_refl _) (by simp; omega)))
    (fun c => OwnFrom.and (Own.from (fun s A B row hs hg hr => ⟨hs.1, hs.2.1, cell_kept hs.2.2 hg hr⟩) _) (ownFrom_below (Nat.le_refl _) (by simp; omega)))
    ⟨⟨rfl, one_alloc _ (one_alloc _ c0.1), one_alloc _ c1.1, one_free _ c1.1 c1.2⟩, hB0⟩
    (fun x => { tmps := #[.slice oa ol oc, .slice ra rl rc, .pointer (some ⟨w.heap.size, 0, none⟩), undef, .pointer (some ⟨w.heap.size + 1, 0, none⟩), .int .i64 x.1, .slice ra rl rc, .func (.func 34) #[] #[.pointer (some ⟨w.heap.size + 1 + 1, 0, none⟩)], .int .i64 x.1, undef, undef, undef, undef, undef, undef, undef, undef], defers := [] }) ?assign ?body ?done ?stop
  case assign =>
    intro l x W K hK
    gi_wp2
    exact hK
  case body =>
    rintro l pre ⟨x, _⟩ W ⟨⟨hp, hcw, hcr, hfr⟩, hB⟩ _
    have HP : Hid (inAll ol pre = true) := hp
    have HB : Hid (Below w.heap.size w W) := hB
    clear hp hB hS c0 c1 c2 hB0
    by_cases hx0 : x < 0
    · have HQ : Hid (inN ol x = false) := by show _ = _; simp [inN, hx0]
      gi_wp2
      exact ⟨KeepsOthers.setCell _ _ _, ⟨rfl, by rw [inAll_snoc, HP.out, HQ.out]; rfl, World.cell?_setCell_same' _ _ _ (by rw [hcr]; rfl)⟩, HB.out.setCell (p := ⟨w.heap.size + 1, 0, none⟩) (by simp) _⟩
    · by_cases hx1 : (ol : Int) < x
      · have HQ : Hid (inN ol x = false) := by show _ = _; simp [inN, hx1]
        gi_wp2
        exact ⟨KeepsOthers.setCell _ _ _, ⟨rfl, by rw [inAll_snoc, HP.out, HQ.out]; rfl, World.cell?_setCell_same' _ _ _ (by rw [hcr]; rfl)⟩, HB.out.setCell (p := ⟨w.heap.size + 1, 0, none⟩) (by simp) _⟩
      · have HQ : Hid (inN ol x = true) := by show _ = _; simp [inN, hx0, hx1]
        gi_wp2
        exact ⟨KeepsOthers.refl _, Below.refl _ _, ⟨by rw [inAll_snoc, HP.out, HQ.out]; rfl, hcw, hcr, hfr⟩, HB.out⟩
  case done =>
    rintro D ys W hD rfl ⟨⟨hne, _, hcr, hfr⟩, hB⟩ hK
    have HE : Hid (r.all (valB ol) = true) := by show _ = _; rw [← led_all]; exact hne
    clear hne hS c0 c1 c2 hB0
    gi_wp2
    have hK' := (KeepsOthers.setCell W ⟨w.heap.size + 1, 0, none⟩ (.bool true)).same D _ hK rfl
    refine ⟨by simp, .inl ⟨_, _, rfl, run_takeDeferred hK', ?_⟩⟩
    have hc5 := cell_kept (World.cell?_setCell_same' W ⟨w.heap.size + 1, 0, none⟩ (.bool true) (by rw [hcr]; rfl)) (grownBy_putObj' _ D (.deferred none)) (fun r e => by cases e; exact ⟨_, hK', rfl⟩)
    refine ⟨.bool true, ?_, by rw [HE.out], (hB.setCell (p := ⟨w.heap.size + 1, 0, none⟩) (by simp) _).trans (belowK_b (w := w) (Nat.le_refl _) _ D _ _ (by simp at hD; omega) hK' rfl rfl)⟩
    simp [results, Try.results24, go_sem, hc5]
  case stop =>
    rintro D c pre W hD hpre ⟨⟨rfl, hin, hcr⟩, hB⟩ hK
    have HE : Hid (r.all (valB ol) = false) := by
      show _ = _
      rw [← led_all, inAll, List.all_eq_false]
      obtain ⟨y, hy, hy2⟩ := List.all_eq_false.1 hin
      exact ⟨y, hpre.subset hy, hy2⟩
    clear hin hpre hS c0 c1 c2 hB0
    gi_wp2
    refine ⟨by simp, .inl ⟨_, _, rfl, run_takeDeferred hK, ?_⟩⟩
    have hc5 := cell_kept hcr (grownBy_putObj' _ D (.deferred none)) (fun r e => by cases e; exact ⟨_, hK, rfl⟩)
    refine ⟨.bool false, ?_, by rw [HE.out], hB.trans (belowK_b (w := w) (Nat.le_refl _) W D _ _ (by simp at hD; omega) hK rfl rfl)⟩
    simp [results, Try.results24, go_sem, hc5]

theorem leadImpl (oa : Option Addr) (ol oc : Nat) (ra : Option Addr) (rl rc : Nat) (r : List Vl) (w : World) {D : Nat → Prop} (g : SlAt vaR D w ra rl r) :
    Calls Try.prog 24 #[.slice oa ol oc, .slice ra rl rc] w fun e W' => e = .returned (.bool (r.all (valB ol))) ∧ Below w.heap.size w W' :=
  (callsIn_wide (n := 3)).1 (leadOk_in 3 (Nat.le_refl _) oa ol oc ra rl rc r w g)

end Go.Proofs.Ytacapffmdmpnkaa
