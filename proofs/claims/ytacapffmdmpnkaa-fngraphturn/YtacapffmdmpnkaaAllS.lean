/-
  Values with new numbers, of the specification: a list that grows, in memory of its own.
-/
import Derived.Test.YtacapffmdmpnkaaComeS
namespace Go.Proofs.Ytacapffmdmpnkaa
open Go.ChangeShapes Go.WideShapes Go.ChangeAt Go.RowKit

/-- The cells of values. -/
def flatV (xs : List Vl) : List Value := xs.flatMap fun v => [.bool v.1, .int .i64 v.2]
theorem flatV_snoc (xs : List Vl) (v : Vl) : flatV (xs ++ [v]) = flatV xs ++ [.bool v.1, .int .i64 v.2] := by simp [flatV]
theorem flatV_len (xs : List Vl) : (flatV xs).length = xs.length * 2 := by
  induction xs with
  | nil => rfl
  | cons v vs ih => simp [flatV] at ih ⊢; omega
theorem flatV_at : ∀ (xs : List Vl) (j : Nat) (x : Vl), xs[j]? = some x → (flatV xs)[j * 2]? = some (.bool x.1) ∧ (flatV xs)[j * 2 + 1]? = some (.int .i64 x.2)
  | v :: vs, 0, x, h => by simp at h; subst h; simp [flatV]
  | v :: vs, j + 1, x, h => by
    have ih := flatV_at vs j x (by simpa using h)
    have e : flatV (v :: vs) = [.bool v.1, .int .i64 v.2] ++ flatV vs := rfl
    have e2 : (j + 1) * 2 = j * 2 + 2 := by omega
    rw [e, e2]
    exact ⟨by simpa using ih.1, by simpa using ih.2⟩
/-- What is owned is read as a list. -/
theorem own_vals {w : World} {base n c : Nat} {a : Option Addr} {xs : List Vl} (h : w.ownsRow base 32 2 (.slice a n c) n (flatV xs)) (hb : ∀ x ∈ xs, i64B x.2) (hn : n ≤ 4000000) : SlAt vaR (fun b => base ≤ b) w a n xs := by
  have hl : xs.length = n := by have := h.1; rw [flatV_len] at this; omega
  refine ⟨hl, by omega, ?_⟩
  rcases h.2 with ⟨_, h0⟩ | ⟨g, cap, cur, e, hg, hcur, _, _, hsz, htk⟩
  · exact .inl h0
  · cases e
    refine .inr ⟨g, 0, rfl, hg, fun i x hx => ?_⟩
    have hi := (List.getElem?_eq_some_iff.1 hx).1
    obtain ⟨f0, f1⟩ := flatV_at xs i x hx
    rw [← htk] at f0 f1
    have key : ∀ j v, (cur.toList.take (n * 2))[j]? = some v → w.cell? ⟨g, j, none⟩ = some v := fun j v hj => by
      have : cur.toList[j]? = some v := by
        rw [List.getElem?_take] at hj
        by_cases hj2 : j < n * 2
        · rwa [if_pos hj2] at hj
        · rw [if_neg hj2] at hj; cases hj
      simp only [World.cell?, hcur]
      simpa using this
    refine ⟨[.bool x.1, .int .i64 x.2], ⟨[.bool x.1], [.int .i64 x.2], rfl, rfl, rfl, hb x (List.mem_of_getElem? hx)⟩, fun j v hv => ?_⟩
    match j, hv with
    | 0, hv => simp at hv; subst hv; rw [Nat.zero_add]; exact key _ _ f0
    | 1, hv => simp at hv; subst hv; rw [Nat.zero_add]; exact key _ _ f1

theorem own_none {w : World} (base b : Nat) (t : TypeId) (hb : base ≤ w.heap.size) (he : w.heap.size = b) : (w.alloc (.cells #[] t)).ownsRow base t 2 (.slice (some ⟨b, 0, none⟩) 0 0) 0 [] := by
  subst he
  exact ⟨rfl, .inr ⟨w.heap.size, 0, #[], rfl, hb, World.alloc_heap_new w _, Nat.le_refl _, Nat.zero_le _, rfl, rfl⟩⟩

theorem two_new (w : World) (x y : Value) (t : TypeId) (b : Nat) (hb : w.heap.size = b) : ∀ j u, [x, y][j]? = some u → (w.alloc (.cells #[x, y] t)).cell? ((⟨b, 0, none⟩ : Addr).add j) = some u := by
  subst hb
  intro j u hj
  rw [Addr.add_lit, Nat.zero_add, World.cell?_alloc_at _ _ _ _ rfl]
  match j, hj with
  | 0, hj => simpa using hj
  | 1, hj => simpa using hj

set_option maxRecDepth 100000 in
set_option maxHeartbeats 4000000 in
theorem allSpec (base P NB N : Nat) (o : List Int) (a : Option Addr) (len cap : Nat) (xs : List Vl) (W : World) {D : Nat → Prop} (h : Wk base P NB N o W) (hL : SlAt vaR D W a len xs) (ok : xs.all (valB N) = true) (hlen : len ≤ 1048576) (h00 : (0 : Int) ∉ o) (hN : N ≤ 1048576) :
    Calls Try.prog 30 #[.pointer (some ⟨P, 0, none⟩), .slice a len cap] W fun e W' => ∃ va vc, e = .returned (.slice va len vc) ∧ W'.ownsRow W.heap.size 32 2 (.slice va len vc) len (flatV (xs.map (renV o))) ∧ Below W.heap.size W W' := by
  have H : Hid (Wk base P NB N o W) := h
  have HL : Hid (SlAt vaR D W a len xs) := hL
  have HS : Hid (xs.length = len) := hL.size
  have OK : Hid (xs.all (valB N) = true) := ok
  obtain ⟨l1, l2, l3⟩ := h.lt
  obtain ⟨i0, hi0, hz0, hz1, hz2⟩ := info_parts info_Val
  clear h hL ok
  go_enter Try.func30, Try.ntmps30
  go_wp2_with fail
  go_loopw [5, 6] (fun s t wr => ∃ (k : Nat) (va : Option Addr) (vc : Nat), k ≤ len ∧ t = .int .i64 k ∧ s = .slice va k vc ∧ wr.ownsRow W.heap.size 32 2 (.slice va k vc) k (flatV ((xs.take k).map (renV o))) ∧ Below W.heap.size W wr) (fun _ t _ => len - (intOf t).toNat)
  case atStart => exact ⟨0, _, _, Nat.zero_le _, rfl, rfl, own_none _ _ _ (Nat.le_refl _) rfl, by go_grown⟩
  case round =>
    obtain ⟨k, va, vc, hk, rfl, rfl, hown, hb⟩ := hrel
    have HW : Hid (wr.ownsRow W.heap.size 32 2 (.slice va k vc) k (flatV ((xs.take k).map (renV o)))) := hown
    have HB : Hid (Below W.heap.size W wr) := hb
    have hs := hb.size
    clear hown hb
    by_cases hlt : k < len
    · obtain ⟨x, hx⟩ : ∃ x, xs[k]? = some x := ⟨xs[k]'(by rw [HS.out]; exact hlt), List.getElem?_eq_getElem _⟩
      have hxo := List.all_eq_true.1 OK.out x (List.mem_of_getElem? hx)
      have HX : Hid (flatV ((xs.take (k + 1)).map (renV o)) = flatV ((xs.take k).map (renV o)) ++ [.bool (renV o x).1, .int .i64 (renV o x).2]) := by
        show _ = _
        rw [List.take_add_one, hx, List.map_append]
        exact flatV_snoc _ _
      obtain ⟨b, off, rfl, _, vs, hv, hc⟩ := (HL.out.later HB.out).at k x hx
      obtain ⟨x0, x1⟩ := x
      obtain ⟨_, _, rfl, rfl, rfl, b1⟩ := hv
      have c0x : wr.cell? ⟨b, off + k * 2, none⟩ = some (.bool x0) := hc 0 _ rfl
      have c1x : wr.cell? ⟨b, off + k * 2 + 1, none⟩ = some (.int .i64 x1) := hc 1 _ rfl
      have Kr := (H.out.later HB.out)
      have hp0 := Kr.p0
      have lP : P < wr.heap.size := by omega
      have lN : NB < wr.heap.size := by omega
      clear hx hc
      cases x0
      · have HX' : Hid (flatV ((xs.take (k + 1)).map (renV o)) = flatV ((xs.take k).map (renV o)) ++ [.bool false, .int .i64 x1]) := HX.out
        clear Kr HX hxo
        go_wp2_with (at_builtin; refine wpList_append_own _ rfl _ _ 24 rfl W.heap.size 32 i0 _ 2 16 Try.underlying24 hi0 hz0 hz1 hz2 rfl (by decide) (.slice va k vc) k _ rfl ((HW.out.alloc _).alloc _) ⟨wr.heap.size + 1, 0, none⟩ 1 1 [.bool false, .int .i64 x1] rfl rfl (two_new _ _ _ _ _ (by simp)) (by simp [Value.oneCell']) (by unfold maxLen; omega) (by omega) (by simp; omega) ?_; intro v' w1 hown' hgrow _; obtain ⟨g', cap', rfl⟩ := ownsRow_succ hown')
        exact ⟨⟨k + 1, _, _, by omega, by go_num, rfl, by rw [HX'.out]; exact hown', (Below.grown (Below.alloc (Below.alloc HB.out hs _) (by simp; omega) _) hgrow (by simp; omega) (fun b hb => own_ge HW.out b hb.symm))⟩, by simp [intOf]; omega⟩
      · by_cases hz : x1 = 0
        · subst hz
          have e0 : renV o (true, 0) = (true, 0) := by simp [renV, idxN, h00]
          have HX' : Hid (flatV ((xs.take (k + 1)).map (renV o)) = flatV ((xs.take k).map (renV o)) ++ [.bool true, .int .i64 0]) := by have := HX.out; rw [e0] at this; exact this
          clear Kr HX hxo e0
          go_wp2_with (at_builtin; refine wpList_append_own _ rfl _ _ 24 rfl W.heap.size 32 i0 _ 2 16 Try.underlying24 hi0 hz0 hz1 hz2 rfl (by decide) (.slice va k vc) k _ rfl ((HW.out.alloc _).alloc _) ⟨wr.heap.size + 1, 0, none⟩ 1 1 [.bool true, .int .i64 0] rfl rfl (two_new _ _ _ _ _ (by simp)) (by simp [Value.oneCell']) (by unfold maxLen; omega) (by omega) (by simp; omega) ?_; intro v' w1 hown' hgrow _; obtain ⟨g', cap', rfl⟩ := ownsRow_succ hown')
          exact ⟨⟨k + 1, _, _, by omega, by go_num, rfl, by rw [HX'.out]; exact hown', (Below.grown (Below.alloc (Below.alloc HB.out hs _) (by simp; omega) _) hgrow (by simp; omega) (fun b hb => own_ge HW.out b hb.symm))⟩, by simp [intOf]; omega⟩
        · obtain ⟨m, rfl⟩ : ∃ m : Nat, x1 = (m : Int) + 1 := ⟨(x1 - 1).toNat, by simp [valB] at hxo; omega⟩
          have hm : m < N := by simp [valB] at hxo; omega
          obtain ⟨cn, cf⟩ := Kr.num m hm
          have hw1 : IntKind.i64.wrap (m : Int) = (m : Int) := by rw [IntKind.wrap_i64]; omega
          have hmi : (m : Int) < (N : Int) := by omega
          have e0 : renV o (true, (m : Int) + 1) = (true, idxN o ((m : Int) + 1)) := rfl
          have HX' : Hid (flatV ((xs.take (k + 1)).map (renV o)) = flatV ((xs.take k).map (renV o)) ++ [.bool true, .int .i64 (idxN o ((m : Int) + 1))]) := by have := HX.out; rw [e0] at this; exact this
          have hz2' : 0 < (m : Int) + 1 := by omega
          clear Kr HX hxo e0 hz
          generalize idxN o ((m : Int) + 1) = q at cn HX'
          go_wp2_with fail
          go_region
          go_wp2_with (at_builtin; refine wpList_append_own _ rfl _ _ 24 rfl W.heap.size 32 i0 _ 2 16 Try.underlying24 hi0 hz0 hz1 hz2 rfl (by decide) (.slice va k vc) k (flatV ((xs.take k).map (renV o))) rfl ((HW.out.alloc (.cells #[.bool true, .int .i64 q] 32)).alloc (.cells #[.bool true, .int .i64 q] 32)) ⟨wr.heap.size + 1, 0, none⟩ 1 1 [.bool true, .int .i64 q] rfl rfl (two_new (wr.alloc (.cells #[.bool true, .int .i64 q] 32)) _ _ 32 _ (by simp)) (by simp [Value.oneCell']) (by unfold maxLen; omega) (by omega) (by simp; omega) ?_; intro v' w1 hown' hgrow _; obtain ⟨g', cap', rfl⟩ := ownsRow_succ hown')
          exact ⟨⟨k + 1, _, _, by omega, by go_num, rfl, by rw [HX'.out]; exact hown', (Below.grown (Below.drew (Below.alloc (Below.alloc HB.out hs (.cells #[.bool true, .int .i64 q] 32)) (by simp; omega) (.cells #[.bool true, .int .i64 q] 32))) hgrow (by simp; omega) (fun b hb => own_ge HW.out b hb.symm))⟩, by simp [intOf]; omega⟩
    · have ek : k = len := by omega
      subst ek
      go_wp2_with fail
      go_ret
      exact ⟨va, vc, rfl, by have := HW.out; rwa [← HS.out, List.take_length, HS.out] at this, HB.out⟩

end Go.Proofs.Ytacapffmdmpnkaa
