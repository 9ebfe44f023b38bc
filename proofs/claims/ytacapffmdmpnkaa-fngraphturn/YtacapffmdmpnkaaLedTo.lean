/-
  The iterator over the numbers to which values lead: in order, one round each, of every loop that keeps the memory in which the values lie.
-/
import Derived.RangeFuncNested
import Derived.RangeFuncBound
import Derived.RangeFuncCalls
import Derived.RangeFuncLeaves
import Derived.Shelf.Abstract
import Derived.Shelf.RegionOpen
import Derived.WalkKit
import Derived.OwnWalkIn
import Derived.TacticsInMore
import Derived.LoopNIn
import Derived.LoopIn
import Derived.Test.YtacapffmdmpnkaaHpSpec
namespace Go.Proofs.Ytacapffmdmpnkaa
open Go.ChangeShapes Go.WideShapes Go.ChangeAt Go.RowKit Go.Shelf

attribute [local go_sem] Oper.semAt_some

/-- The numbers to which values lead, each of which is so. -/
def ledV (p : Int → Prop) [DecidablePred p] (v : Vl) : Option { n : Int // p n } := if h : (v.1 = true ∧ v.2 ≠ 0) ∧ p v.2 then some ⟨v.2, h.2⟩ else none
def ledL (p : Int → Prop) [DecidablePred p] (xs : List Vl) : List { n : Int // p n } := xs.filterMap (ledV p)
theorem ledL_take {p : Int → Prop} [DecidablePred p] {xs : List Vl} {k : Nat} {v : Vl} (hx : xs[k]? = some v) : ledL p (xs.take (k + 1)) = ledL p (xs.take k) ++ (ledV p v).toList := by
  rw [ledL, List.take_add_one, hx, List.filterMap_append]
  cases h : ledV p v <;> simp [ledL, h]
theorem ledL_le {p : Int → Prop} [DecidablePred p] (xs : List Vl) (k : Nat) : (ledL p (xs.take k)).length ≤ k :=
  Nat.le_trans (List.length_filterMap_le _ _) (by simp; omega)

theorem one_new (W : World) (v : Value) (t : TypeId) : (W.alloc (.cells #[v] t)).cell? ⟨W.heap.size, 0, none⟩ = some v ∧ (W.alloc (.cells #[v] t)).frozen? ⟨W.heap.size, 0, none⟩ = false :=
  ⟨(Boxed.new W t v).cell, (Boxed.new W t v).frozen⟩
theorem one_alloc {W : World} {a : Addr} {v : Value} (o : Obj) (h : W.cell? a = some v) : (W.alloc o).cell? a = some v := cell_kept h (World.grownBy_alloc W o none) (fun r e => by cases e)
theorem one_free {W : World} {a : Addr} {v : Value} (o : Obj) (h : W.cell? a = some v) (hf : W.frozen? a = false) : (W.alloc o).frozen? a = false := (frozen_kept h (World.grownBy_alloc W o none) (fun r e => by cases e)).trans hf
theorem grown_new (W : World) (k : Nat) (v : Value) (W' : World) (h : W.grownBy W' none) (hb : W.heap.size ≤ k) (j : Nat) : W.grownBy (W'.setCell ⟨k, j, none⟩ v) none :=
  ⟨h.os, h.tape, h.output, by rw [World.size_setCell]; exact h.size, fun i hi _ => (Below.heap_setCell W' ⟨k, j, none⟩ v i (by intro e; simp at e; omega)).trans (h.block i hi (by simp))⟩

set_option maxRecDepth 100000 in
set_option maxHeartbeats 2000000 in
theorem led1_in {p : Int → Prop} [DecidablePred p] (n : Nat) (hn : 1 ≤ n) (l Bs n₀ : Nat) (a : Option Addr) (len cap : Nat) (xs : List Vl) (hp : ∀ v ∈ xs, v.1 = true → v.2 ≠ 0 → p v.2) (J Jx : List { n : Int // p n } → World → Prop) (W : World)
    (hJ : AbidesFrom W.heap.size J)
    (hY : ∀ pre x W, J pre W → pre.length < xs.length → YieldAt Fence.wide (n - 1) Try.prog l #[.int .i64 x.1] W fun e W' =>
      (e = .returned (.bool true) ∧ J (pre ++ [x]) W' ∧ Below n₀ W W') ∨ (e = .returned (.bool false) ∧ Jx (pre ++ [x]) W'))
    (hBs : W.cell? ⟨Bs, 0, none⟩ = some (.slice a len cap)) (hn0 : n₀ ≤ W.heap.size) (hL : SlAt vaR (fun b => b < n₀) W a len xs) (h0 : J [] W) :
    CallsIn Fence.wide n Try.prog 34 #[.func (.yield l) #[] #[], .pointer (some ⟨Bs, 0, none⟩)] W fun e W' => (∃ v, e = .returned v) ∧
      ((∃ ys, ys = ledL p xs ∧ J ys W') ∨ (∃ pre, pre <+: ledL p xs ∧ Jx pre W')) := by
  have hro := hL.room
  have HS : Hid (xs.length = len) := hL.size
  have HL : Hid (SlAt vaR (fun b => b < n₀) W a len xs) := hL
  have HJ : Hid (AbidesFrom W.heap.size J) := hJ
  clear hL hJ
  refine callsIn_of_wp Try.func34 rfl trivial ?_
  simp only [Try.ntmps34, List.size_toArray, List.length_cons, List.length_nil, Nat.reduceAdd, Nat.reduceSub, Array.replicate_succ, Array.replicate_zero, List.push_toArray, List.append_toArray, List.nil_append, List.cons_append]
  gi_wp2
  gi_loopw [7] (fun i wr => ∃ k : Nat, k ≤ len ∧ i = .int .i64 k ∧ J (ledL p (xs.take k)) wr ∧ Below n₀ W wr ∧ W.heap.size ≤ wr.heap.size)
    (fun i _ => len - (intOf i).toNat)
  case atStart => exact ⟨0, Nat.zero_le _, rfl, h0, Below.refl _ _, Nat.le_refl _⟩
  case round =>
    obtain ⟨k, hk, rfl, hJs, hnx, hsz⟩ := hrel
    have HB : Hid (Below n₀ W wr) := hnx
    have HK : Hid (J (ledL p (xs.take k)) wr) := hJs
    clear hJs hnx h0
    by_cases hlt : k < len
    · obtain ⟨x, hx⟩ : ∃ x, xs[k]? = some x := ⟨xs[k]'(by rw [HS.out]; exact hlt), List.getElem?_eq_getElem _⟩
      have HX : Hid (xs[k]? = some x) := hx
      have hpx := hp x (List.mem_of_getElem? hx)
      obtain ⟨b, off, rfl, hbn, vs, hv, hc⟩ := (HL.out.keep (fun b o hb _ => HB.out.cell (p := ⟨b, o, none⟩) hb)).at k x hx
      obtain ⟨x0, x1⟩ := x
      obtain ⟨_, _, rfl, rfl, rfl, b1⟩ := hv
      have c0x : wr.cell? ⟨b, off + k * 2, none⟩ = some (.bool x0) := hc 0 _ rfl
      have c1x : wr.cell? ⟨b, off + k * 2 + 1, none⟩ = some (.int .i64 x1) := hc 1 _ rfl
      clear hx hc hp
      have go : ∀ W', wr.grownBy W' none → ledV p (x0, x1) = none → (∃ j : Nat, j ≤ len ∧ (k : Int) + 1 = j ∧ J (ledL p (xs.take j)) W' ∧ Below n₀ W W' ∧ W.heap.size ≤ W'.heap.size) := fun W' hg he =>
        ⟨k + 1, by omega, by omega, by rw [ledL_take HX.out, he]; simp; exact HJ.out _ _ _ none HK.out hg (by simp), HB.out.grown hg (by omega) (by simp), Nat.le_trans hsz hg.size⟩
      have GO : Hid (∀ W', wr.grownBy W' none → ledV p (x0, x1) = none → (∃ j : Nat, j ≤ len ∧ (k : Int) + 1 = j ∧ J (ledL p (xs.take j)) W' ∧ Below n₀ W W' ∧ W.heap.size ≤ W'.heap.size)) := go
      clear go
      by_cases hin : x0 = true ∧ x1 ≠ 0
      · obtain ⟨rfl, hz⟩ := hin
        have hpv := hpx rfl hz
        have hz' : (x1 != 0) = true := by simpa using hz
        have LE : Hid (ledV p (true, x1) = some ⟨x1, hpv⟩) := by show _ = _; rw [ledV, dif_pos ⟨⟨rfl, hz⟩, hpv⟩]
        have hJw : J (ledL p (xs.take k)) (wr.alloc (Obj.cells #[.bool true, .int .i64 x1] 32)) := HJ.out _ _ _ none HK.out (World.grownBy_alloc wr _ none) (by simp)
        have hlen : (ledL p (xs.take k)).length < xs.length := by have := ledL_le (p := p) xs k; rw [HS.out]; omega
        obtain ⟨fn, tmps, assign, body, hy, hR⟩ := hY _ ⟨x1, hpv⟩ _ hJw hlen
        have HR : Hid (RoundIn Fence.wide (n - 1) Try.prog l fn tmps assign body _ _) := hR
        clear hR hJw GO hY
        gi_wp2
        refine HR.out.mono ?_
        rintro e W3 (⟨rfl, hJ3, hk3⟩ | ⟨rfl, hJx3⟩)
        · have B3 : Hid (Below n₀ W W3) := HB.out.trans (((Below.refl n₀ wr).alloc (by omega) _).trans hk3)
          have hs3 : Hid (W.heap.size ≤ W3.heap.size) := by have := hk3.size; show _ ≤ _; simp at this; omega
          have J3 : Hid (J (ledL p (xs.take (k + 1))) W3) := by show J _ _; rw [ledL_take HX.out, LE.out]; exact hJ3
          clear hJ3 hk3
          gi_wp2
          go_roundw
          case rel => exact ⟨k + 1, by omega, by simp, J3.out, B3.out, hs3.out⟩
          case measure => simp [intOf]; omega
        · have J3 : Hid (Jx (ledL p (xs.take (k + 1))) W3) := by show Jx _ _; rw [ledL_take HX.out, LE.out]; exact hJx3
          clear hJx3
          gi_wp2
          refine bodyPost_ret (results_none rfl _ _ _) rfl ?_
          exact ⟨⟨_, rfl⟩, .inr ⟨_, (List.take_prefix _ _).filterMap _, J3.out⟩⟩
      · have LN : Hid (ledV p (x0, x1) = none) := by show _ = _; rw [ledV, dif_neg (fun h => hin h.1)]
        clear hY
        cases x0
        · gi_wp2
          refine ⟨fun _ h => (by cases h), ?_⟩
          gi_wp2
          go_roundw
          case rel =>
            obtain ⟨j, h1, h2, h3, h4, h5⟩ := GO.out _ (World.grownBy_alloc wr _ none) LN.out
            exact ⟨j, h1, by rw [h2], h3, h4, h5⟩
          case measure => simp [intOf]; omega
        · obtain rfl : x1 = 0 := by
            by_cases e : x1 = 0
            · exact e
            · exact absurd ⟨rfl, e⟩ hin
          gi_wp2
          refine ⟨fun _ h => (by cases h), ?_⟩
          gi_wp2
          go_roundw
          case rel =>
            obtain ⟨j, h1, h2, h3, h4, h5⟩ := GO.out _ (World.grownBy_alloc wr _ none) LN.out
            exact ⟨j, h1, by rw [h2], h3, h4, h5⟩
          case measure => simp [intOf]; omega
    · obtain rfl : k = len := by omega
      gi_wp2
      go_end0
      exact ⟨⟨_, rfl⟩, .inl ⟨_, by rw [← HS.out, List.take_length], HK.out⟩⟩

/-- The function whose value is the iterator: the values are boxed. -/
theorem ledTo_in (n : Nat) (a : Option Addr) (len cap : Nat) (w : World) :
    CallsIn Fence.wide n Try.prog 28 #[.slice a len cap] w fun e w' => e = .returned (.func (.func 34) #[] #[.pointer (some ⟨w.heap.size, 0, none⟩)]) ∧ w' = w.alloc (.cells #[.slice a len cap] 24) := by
  refine callsIn_of_wp Try.func28 rfl trivial ?_
  simp only [Try.ntmps28, List.size_toArray, List.length_cons, List.length_nil, Nat.reduceAdd, Nat.reduceSub, Array.replicate_succ, Array.replicate_zero, List.push_toArray, List.append_toArray, List.nil_append, List.cons_append]
  gi_wp2
  go_ret
  exact ⟨rfl, rfl⟩

theorem led_stops {p : Int → Prop} [DecidablePred p] (n : Nat) (hn : 1 ≤ n) (Bs n₀ : Nat) (a : Option Addr) (len cap : Nat) (xs : List Vl) (hp : ∀ v ∈ xs, v.1 = true → v.2 ≠ 0 → p v.2) (w : World) (hBs : Bs < w.heap.size) (hn0 : n₀ ≤ w.heap.size)
    (hc : w.cell? ⟨Bs, 0, none⟩ = some (.slice a len cap)) (hL : SlAt vaR (fun b => b < n₀) w a len xs) :
    SeqStopsK Fence.wide n Try.prog 34 #[.pointer (some ⟨Bs, 0, none⟩)] (fun x : { n : Int // p n } => #[Value.int .i64 x.1]) (Below n₀) (fun ys => ys = ledL p xs) (fun pre => pre <+: ledL p xs) xs.length w := fun l J Jx W hW hJ _ hY h0 =>
  led1_in n hn l Bs n₀ a len cap xs hp J Jx W hJ hY ((hW.cell (p := ⟨Bs, 0, none⟩) hBs).trans hc) (Nat.le_trans hn0 hW.size) (hL.keep fun b o _ hb2 => hW.cell (p := ⟨b, o, none⟩) hb2) h0

end Go.Proofs.Ytacapffmdmpnkaa
