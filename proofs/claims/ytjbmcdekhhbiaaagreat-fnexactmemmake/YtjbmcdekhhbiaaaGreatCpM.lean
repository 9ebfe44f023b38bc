/-
  A memory anew, of both: what is answered; nothing is written that was there.
-/
import Derived.Test.YtjbmcdekhhbiaaaGreatAppB
import Derived.Test.YtjbmcdekhhbiaaaGreatMrkM
import Derived.Deep.RegionHeld3
import Derived.Deep.Cut
namespace Go.Proofs.YtjbmcdekhhbiaaaGreat
open Go.ChangeShapes Go.WideShapes Go.ChangeAt Go.RowKit
set_option linter.unusedVariables false

theorem own_wri {w : World} {base n c : Nat} {a : Option Addr} {xs : List Int} (h : w.ownsRow base 3 1 (.slice a n c) n (xs.map (Value.int .i64))) : Wri w a n (fun j => xs.getD j 0) ∧ ∀ x, a = some x → 0 < n → base ≤ x.block := by
  have hlen : xs.length = n := by have := h.1; simpa using this
  rcases h.2 with ⟨_, h0⟩ | ⟨g, cap, cur, e, hb, hg, _⟩
  · exact ⟨⟨.inl h0⟩, fun x e hp => by omega⟩
  · cases e
    refine ⟨⟨.inr ⟨g, 0, rfl, fun j hj => ?_⟩⟩, fun x e _ => by obtain rfl := Option.some.inj e; exact hb⟩
    rw [Nat.zero_add]
    exact ⟨by rw [h.cellAt j (by omega), List.getElem?_map, List.getD_eq_getElem?_getD, List.getElem?_eq_getElem (by omega)]; rfl, h.frozenAt _⟩
theorem own_wriB {w : World} {base n c : Nat} {a : Option Addr} {xs : List Bool} (h : w.ownsRow base 4 1 (.slice a n c) n (xs.map Value.bool)) : WriB w a n (fun j => xs.getD j false) ∧ ∀ x, a = some x → 0 < n → base ≤ x.block := by
  have hlen : xs.length = n := by have := h.1; simpa using this
  rcases h.2 with ⟨_, h0⟩ | ⟨g, cap, cur, e, hb, hg, _⟩
  · exact ⟨⟨.inl h0⟩, fun x e hp => by omega⟩
  · cases e
    refine ⟨⟨.inr ⟨g, 0, rfl, fun j hj => ?_⟩⟩, fun x e _ => by obtain rfl := Option.some.inj e; exact hb⟩
    rw [Nat.zero_add]
    exact ⟨by rw [h.cellAt j (by omega), List.getElem?_map, List.getD_eq_getElem?_getD, List.getElem?_eq_getElem (by omega)]; rfl, h.frozenAt _⟩
set_option maxRecDepth 100000 in
set_option maxHeartbeats 4000000 in
theorem cloneI (a : Option Addr) (l c : Nat) (xs : List Int) (w : World) {D : Nat → Prop} (h : IntsAt D w a l xs) (hl : l ≤ 1048576) :
    Calls Tryz.prog 111 #[.slice a l c] w fun e w' => ∃ a2 c2, e = .returned (.slice a2 l c2) ∧ Wri w' a2 l (fun j => xs.getD j 0) ∧ (∀ x, a2 = some x → 0 < l → w.heap.size ≤ x.block) ∧ Below w.heap.size w w' := by
  have H : Hid (IntsAt D w a l xs) := h
  have E0 : Hid ((w.alloc (.cells #[] 3)).ownsRow w.heap.size 3 1 (.slice (some ⟨w.heap.size, 0, none⟩) 0 0) 0 (([] : List Int).map (Value.int .i64))) := own_empty _ _ (Nat.le_refl _) rfl
  have hl0 : a = none → l = 0 := fun e => by
    rcases h.cells with h0 | ⟨b, off, e2, _⟩
    · exact h0
    · rw [e] at e2; cases e2
  clear h
  cases a with
  | none =>
    obtain rfl := hl0 rfl
    have hcmp := fun (c9 : Nat) (wx : World) => nil_yes (P := Tryz.prog) 23 3 Tryz.underlying23 0 c9 wx
    go_enter Tryz.func111, Tryz.ntmps111
    go_wp2_with fail
    go_ret
    first
      | exact ⟨_, _, rfl, ⟨.inl rfl⟩, (fun x e hp => by omega), Below.refl _ _⟩
      | exact ⟨_, ⟨_, rfl⟩, ⟨.inl rfl⟩, (fun x e hp => by omega), Below.refl _ _⟩
      | exact ⟨none, ⟨_, rfl⟩, ⟨.inl rfl⟩, Below.refl _ _⟩
      | exact ⟨none, _, rfl, ⟨.inl rfl⟩, Below.refl _ _⟩
      | exact ⟨none, ⟨⟨_, rfl⟩, ⟨.inl rfl⟩⟩, Below.refl _ _⟩
      | exact ⟨⟨none, ⟨_, rfl⟩, ⟨.inl rfl⟩⟩, Below.refl _ _⟩
  | some p =>
    have BA : Hid (Below w.heap.size w (w.alloc (.cells #[] 3))) := (Below.refl _ _).alloc (Nat.le_refl _) _
    clear hl0
    have hcmp := fun (l9 c9 : Nat) (wx : World) => nil_no (P := Tryz.prog) 23 3 Tryz.underlying23 p l9 c9 wx
    go_enter Tryz.func111, Tryz.ntmps111
    go_wp2_with (
      at_builtin
      refine list_app rfl _ _ rfl w.heap.size (.slice (some ⟨w.heap.size, 0, none⟩) 0 0) 0 [] rfl E0.out _ _ _ rfl xs (H.out.later BA.out) (by omega) hl (by simp) ?_
      intro a3 c3 w3 hown3 hgrow3 hloc3
      have W3 : Hid (w3.ownsRow w.heap.size 3 1 (.slice a3 l c3) l (xs.map (Value.int .i64))) := by
        have h9 := hown3
        rw [Nat.zero_add, List.nil_append] at h9
        exact h9
      have B4 : Hid (Below w.heap.size w w3) := BA.out.trans ((Below.refl _ _).grown hgrow3 (by simp) (fun j e => own_ge E0.out j e.symm))
      clear hown3 hgrow3 hloc3
      try rw [Nat.zero_add])
    go_ret
    first
      | exact ⟨_, _, rfl, (own_wri W3.out).1, (own_wri W3.out).2, B4.out⟩
      | exact ⟨_, ⟨_, rfl⟩, (own_wri W3.out).1, (own_wri W3.out).2, B4.out⟩
set_option maxRecDepth 100000 in
set_option maxHeartbeats 4000000 in
theorem cloneB (a : Option Addr) (l c : Nat) (xs : List Bool) (w : World) {D : Nat → Prop} (h : SlAt boolR D w a l xs) (hl : l ≤ 1048576) :
    Calls Tryz.prog 112 #[.slice a l c] w fun e w' => ∃ a2 c2, e = .returned (.slice a2 l c2) ∧ WriB w' a2 l (fun j => xs.getD j false) ∧ (∀ x, a2 = some x → 0 < l → w.heap.size ≤ x.block) ∧ Below w.heap.size w w' := by
  have H : Hid (SlAt boolR D w a l xs) := h
  have E0 : Hid ((w.alloc (.cells #[] 4)).ownsRow w.heap.size 4 1 (.slice (some ⟨w.heap.size, 0, none⟩) 0 0) 0 (([] : List Bool).map Value.bool)) := own_emptyB _ _ (Nat.le_refl _) rfl
  have hl0 : a = none → l = 0 := fun e => by
    rcases h.cells with h0 | ⟨b, off, e2, _⟩
    · exact h0
    · rw [e] at e2; cases e2
  clear h
  cases a with
  | none =>
    obtain rfl := hl0 rfl
    have hcmp := fun (c9 : Nat) (wx : World) => nil_yes (P := Tryz.prog) 24 4 Tryz.underlying24 0 c9 wx
    go_enter Tryz.func112, Tryz.ntmps112
    go_wp2_with fail
    go_ret
    first
      | exact ⟨_, _, rfl, ⟨.inl rfl⟩, (fun x e hp => by omega), Below.refl _ _⟩
      | exact ⟨_, ⟨_, rfl⟩, ⟨.inl rfl⟩, (fun x e hp => by omega), Below.refl _ _⟩
      | exact ⟨none, ⟨_, rfl⟩, ⟨.inl rfl⟩, Below.refl _ _⟩
      | exact ⟨none, _, rfl, ⟨.inl rfl⟩, Below.refl _ _⟩
      | exact ⟨none, ⟨⟨_, rfl⟩, ⟨.inl rfl⟩⟩, Below.refl _ _⟩
      | exact ⟨⟨none, ⟨_, rfl⟩, ⟨.inl rfl⟩⟩, Below.refl _ _⟩
  | some p =>
    have BA : Hid (Below w.heap.size w (w.alloc (.cells #[] 4))) := (Below.refl _ _).alloc (Nat.le_refl _) _
    clear hl0
    have hcmp := fun (l9 c9 : Nat) (wx : World) => nil_no (P := Tryz.prog) 24 4 Tryz.underlying24 p l9 c9 wx
    go_enter Tryz.func112, Tryz.ntmps112
    go_wp2_with (
      at_builtin
      refine list_appB rfl _ _ rfl w.heap.size (.slice (some ⟨w.heap.size, 0, none⟩) 0 0) 0 [] rfl E0.out _ _ _ rfl xs (H.out.later BA.out) (by omega) hl (by simp) ?_
      intro a3 c3 w3 hown3 hgrow3 hloc3
      have W3 : Hid (w3.ownsRow w.heap.size 4 1 (.slice a3 l c3) l (xs.map Value.bool)) := by
        have h9 := hown3
        rw [Nat.zero_add, List.nil_append] at h9
        exact h9
      have B4 : Hid (Below w.heap.size w w3) := BA.out.trans ((Below.refl _ _).grown hgrow3 (by simp) (fun j e => own_ge E0.out j e.symm))
      clear hown3 hgrow3 hloc3
      try rw [Nat.zero_add])
    go_ret
    first
      | exact ⟨_, _, rfl, (own_wriB W3.out).1, (own_wriB W3.out).2, B4.out⟩
      | exact ⟨_, ⟨_, rfl⟩, (own_wriB W3.out).1, (own_wriB W3.out).2, B4.out⟩

/-- A memory anew: its lists are of one's own. -/
def CpP (w : World) (x1 x2 x3 : Int) (n m : Nat) (xs : List Int) (cd : List Bool) (e : Ending) (w' : World) : Prop :=
  ∃ a c b d, e = .returned (.agg #[.slice a n c, .int .i64 x1, .int .i64 x2, .int .i64 x3, .slice b m d]) ∧ Wri w' a n (fun j => xs.getD j 0) ∧ WriB w' b m (fun j => cd.getD j false) ∧ (∀ x, a = some x → 0 < n → w.heap.size ≤ x.block) ∧ (∀ x, b = some x → 0 < m → w.heap.size ≤ x.block) ∧ (∀ x y, a = some x → b = some y → 0 < n → 0 < m → x.block ≠ y.block) ∧ Below w.heap.size w w'
set_option maxRecDepth 100000 in
set_option maxHeartbeats 4000000 in
theorem copyImpl (x1 x2 x3 : Int) (a0 : Option Addr) (n c0 : Nat) (a4 : Option Addr) (m c4 : Nat) (xs : List Int) (cd : List Bool) (w : World) {D D2 : Nat → Prop} (h0 : IntsAt D w a0 n xs) (h4 : SlAt boolR D2 w a4 m cd) (hn : n ≤ 1048576) (hm : m ≤ 1048576) :
    Calls Tryz.prog 74 #[.agg #[.slice a0 n c0, .int .i64 x1, .int .i64 x2, .int .i64 x3, .slice a4 m c4]] w (CpP w x1 x2 x3 n m xs cd) := by
  have H0 : Hid (IntsAt D w a0 n xs) := h0
  have H4 : Hid (SlAt boolR D2 w a4 m cd) := h4
  clear h0 h4
  have hz : w.heap.size + 1 + 1 ≤ ((w.alloc (.cells #[.slice a0 n c0, .int .i64 x1, .int .i64 x2, .int .i64 x3, .slice a4 m c4] 29)).alloc (.cells #[.slice none 0 0, .int .i64 0, .int .i64 0, .int .i64 0, .slice none 0 0] 29)).heap.size := by simp
  have B : Hid (∀ y, Below (w.heap.size + 1 + 1) ((w.alloc (.cells #[.slice a0 n c0, .int .i64 x1, .int .i64 x2, .int .i64 x3, .slice a4 m c4] 29)).alloc (.cells #[.slice none 0 0, .int .i64 0, .int .i64 0, .int .i64 0, .slice none 0 0] 29)) y → Below w.heap.size w y) := fun y hy => ((bR.alloc (by first | exact Nat.le_refl _ | (simp; done) | (simp; omega)) _).alloc (by first | exact Nat.le_refl _ | (simp; done) | (simp; omega)) _).trans (hy.mono (by omega))
  have XM : Hid (∀ y, Below (w.heap.size + 1 + 1) ((w.alloc (.cells #[.slice a0 n c0, .int .i64 x1, .int .i64 x2, .int .i64 x3, .slice a4 m c4] 29)).alloc (.cells #[.slice none 0 0, .int .i64 0, .int .i64 0, .int .i64 0, .slice none 0 0] 29)) y → y.heap[w.heap.size]? = some (.cells #[.slice a0 n c0, .int .i64 x1, .int .i64 x2, .int .i64 x3, .slice a4 m c4] 29 (0, 0))) := fun y hy => (hy.block _ (by omega)).trans ((Below.heap_alloc _ _ _ (by first | (simp; done) | (simp; omega))).trans (boxN _ _ _ _ (by simp)))
  have lM : w.heap.size < w.heap.size + 1 + 1 := by omega
  have XR : Hid (∀ y, Below (w.heap.size + 1 + 1) ((w.alloc (.cells #[.slice a0 n c0, .int .i64 x1, .int .i64 x2, .int .i64 x3, .slice a4 m c4] 29)).alloc (.cells #[.slice none 0 0, .int .i64 0, .int .i64 0, .int .i64 0, .slice none 0 0] 29)) y → y.heap[w.heap.size + 1]? = some (.cells #[.slice none 0 0, .int .i64 0, .int .i64 0, .int .i64 0, .slice none 0 0] 29 (0, 0))) := fun y hy => (hy.block _ (by omega)).trans (boxN _ _ _ _ (by simp))
  have lR : w.heap.size + 1 < w.heap.size + 1 + 1 := by omega
  go_enter Tryz.func74, Tryz.ntmps74
  go_wp2_with fail
  have KS : Hid (∀ x, Below (w.heap.size + 1 + 1) ((w.alloc (.cells #[.slice a0 n c0, .int .i64 x1, .int .i64 x2, .int .i64 x3, .slice a4 m c4] 29)).alloc (.cells #[.slice none 0 0, .int .i64 0, .int .i64 0, .int .i64 0, .slice none 0 0] 29)) x → True) := fun x hx => trivial
  refine wp_region_held_drew (S := fun x => True) (by kernel_rfl) ?_ (fun hHeld => ?_)
  · exact KS.out _ (bdrew bR)
  refine tV 0 (v := ?_) rfl (by kernel_rfl) (fun _ _ _ h => h) ?_ (by assumption) ?_
  rotate_left 1
  · (intro x hSx; (try dsimp only at hSx); go_simp; try with_reducible rfl)
  try simp only [Act.put, zgT, zg0, zsT, zs0, zsS]
  refine tV 3 (v := ?_) rfl (by kernel_rfl) (fun _ _ _ h => h) ?_ (by assumption) ?_
  rotate_left 1
  · (intro x hSx; (try dsimp only at hSx); go_simp; try with_reducible rfl)
  try simp only [Act.put, zgT, zg0, zgS, zsT, zs0, zsS]
  refine wpAnyH_ready (rs := [1, 4]) (by kernel_rfl) (by simp) ?_
  refine AllReadyH.cons rfl (fun K hK => ?_) (AllReadyH.cons rfl (fun K hK => ?_) AllReadyH.nil)
  · obtain ⟨kM0, kM1, kM2, kM3, kM4⟩ := bk5 (XM.out ((w.alloc (.cells #[.slice a0 n c0, .int .i64 x1, .int .i64 x2, .int .i64 x3, .slice a4 m c4] 29)).alloc (.cells #[.slice none 0 0, .int .i64 0, .int .i64 0, .int .i64 0, .slice none 0 0] 29)) bR)
    go_simp
    clear kM0 kM1 kM2 kM3 kM4
    refine hK.out _ _ (KS.out _ (bdrew bR)) (fun hHeld2 => ?_)
    clear hK K
    try simp only [Act.put, zgT, zg0, zgS, zsT, zs0, zsS]
    refine wpAnyH_ready (rs := [2, 4]) (by kernel_rfl) (by simp) ?_
    refine AllReadyH.cons rfl (fun K hK => ?_) (AllReadyH.cons rfl (fun K hK => ?_) AllReadyH.nil)
    · go_simp
      go_at_call 111
      have BP : Hid (Below (w.heap.size + 1 + 1) ((w.alloc (.cells #[.slice a0 n c0, .int .i64 x1, .int .i64 x2, .int .i64 x3, .slice a4 m c4] 29)).alloc (.cells #[.slice none 0 0, .int .i64 0, .int .i64 0, .int .i64 0, .slice none 0 0] 29)) ((w.alloc (.cells #[.slice a0 n c0, .int .i64 x1, .int .i64 x2, .int .i64 x3, .slice a4 m c4] 29)).alloc (.cells #[.slice none 0 0, .int .i64 0, .int .i64 0, .int .i64 0, .slice none 0 0] 29)).drew) := (bdrew bR)
      refine (cloneI _ _ _ xs _ (H0.out.later (B.out _ BP.out)) hn).mono ?_
      rintro e w1 ⟨g, gc, rfl, hA, hla, hb⟩
      have hq : Below (w.heap.size + 1 + 1) ((w.alloc (.cells #[.slice a0 n c0, .int .i64 x1, .int .i64 x2, .int .i64 x3, .slice a4 m c4] 29)).alloc (.cells #[.slice none 0 0, .int .i64 0, .int .i64 0, .int .i64 0, .slice none 0 0] 29)) w1 := BP.out.trans (Below.mono hb (Nat.le_trans hz BP.out.size))
      have hzn : w.heap.size + 1 + 1 ≤ w1.heap.size := Nat.le_trans hz hq.size
      replace B := lF B hq hzn
      replace KS := lF KS hq hzn
      replace XM := lF XM hq hzn
      replace lM := Nat.lt_of_lt_of_le lM hzn
      replace XR := lF XR hq hzn
      replace lR := Nat.lt_of_lt_of_le lR hzn
      clear hq BP hz
      have hz : w1.heap.size ≤ w1.heap.size := Nat.le_refl _
      have WA : Hid (∀ y, Below (w1.heap.size) w1 y → Wri y g n (fun j => xs.getD j 0)) := fun y hy => hA.later hy
      have LA : Hid (∀ x, g = some x → 0 < n → w.heap.size + 1 + 1 ≤ x.block ∧ x.block < w1.heap.size) := fun x e h9 => ⟨by simpa using hla x e h9, hA.lt x e h9⟩
      clear hb hA hla
      go_wp2_with fail
      have lM1 : w.heap.size + 1 + 1 ≤ w1.heap.size := by have := lR; omega
      refine hK.out _ _ (KS.out _ bR) (fun hHeld3 => ?_)
      clear hK K
      try simp only [Act.put, zgT, zg0, zgS, zsT, zs0, zsS]
      refine wpAnyH_ready (rs := [4]) (by kernel_rfl) (by simp) ?_
      refine AllReadyH.cons rfl (fun K hK => ?_) AllReadyH.nil
      obtain ⟨kM0, kM1, kM2, kM3, kM4⟩ := bk5 (XM.out w1 bR)
      go_simp
      clear kM0 kM1 kM2 kM3 kM4
      refine hK.out _ _ (KS.out _ bR) (fun hHeld4 => ?_)
      clear hK K
      try simp only [Act.put, zgT, zg0, zgS, zsT, zs0, zsS]
      refine tV 6 (v := ?_) rfl (by kernel_rfl) (fun _ _ _ h => h) ?_ (by assumption) ?_
      rotate_left 1
      · (intro x hSx; (try dsimp only at hSx); go_simp; try with_reducible rfl)
      try simp only [Act.put, zgT, zg0, zgS, zsT, zs0, zsS]
      refine wpAnyH_ready (rs := [5]) (by kernel_rfl) (by simp) ?_
      refine AllReadyH.cons rfl (fun K hK => ?_) AllReadyH.nil
      go_simp
      go_at_call 112
      have BP : Hid (Below (w1.heap.size) w1 w1) := bR
      refine (cloneB _ _ _ cd _ (H4.out.later (B.out _ BP.out)) hm).mono ?_
      rintro e w2 ⟨k, kc, rfl, hC, hlc, hb⟩
      have hq : Below (w1.heap.size) w1 w2 := BP.out.trans (Below.mono hb (Nat.le_trans hz BP.out.size))
      have hzn : w1.heap.size ≤ w2.heap.size := Nat.le_trans hz hq.size
      replace B := lF B hq hzn
      replace KS := lF KS hq hzn
      replace WA := lF WA hq hzn
      replace XM := lF XM hq hzn
      replace lM := Nat.lt_of_lt_of_le lM hzn
      replace XR := lF XR hq hzn
      replace lR := Nat.lt_of_lt_of_le lR hzn
      clear hq BP hz
      have hz : w2.heap.size ≤ w2.heap.size := Nat.le_refl _
      have WC : Hid (∀ y, Below (w2.heap.size) w2 y → WriB y k m (fun j => cd.getD j false)) := fun y hy => hC.later hy
      have LC : Hid (∀ x, k = some x → 0 < m → w1.heap.size ≤ x.block ∧ x.block < w2.heap.size) := fun x e h9 => ⟨hlc x e h9, hC.lt x e h9⟩
      clear hb hC hlc
      go_wp2_with fail
      have hs12 : w.heap.size + 1 + 1 ≤ w1.heap.size := lM1
      refine hK.out _ _ (KS.out _ bR) (fun hHeld5 => ?_)
      clear hK K
      try simp only [Act.put, zgT, zg0, zgS, zsT, zs0, zsS]
      refine wpAnyH_ready (rs := [7]) (by kernel_rfl) (by simp) ?_
      refine AllReadyH.cons rfl (fun K hK => ?_) AllReadyH.nil
      obtain ⟨kM0, kM1, kM2, kM3, kM4⟩ := bk5 (XM.out w2 bR)
      obtain ⟨qkM0, qkM1, qkM2, qkM3, qkM4⟩ := bq5 (XM.out w2 bR)
      go_simp
      clear kM0 kM1 kM2 kM3 kM4 qkM0 qkM1 qkM2 qkM3 qkM4
      have hw0 : w.heap.size ≤ w.heap.size := (by first | omega | (simp; done) | (simp; omega) | (simp at *; omega))
      replace XR := lS XR lR ((w2.setCell ⟨w.heap.size, 0, none⟩ (.slice g n gc))) ((Below.heap_setCell _ _ _ _ (by first | omega | (simp; done) | (simp; omega))))
      replace XM : Hid (∀ y, Below (w2.heap.size) (w2.setCell ⟨w.heap.size, 0, none⟩ (.slice g n gc)) y → y.heap[w.heap.size]? = some (.cells #[.slice g n gc, .int .i64 x1, .int .i64 x2, .int .i64 x3, .slice a4 m c4] 29 (0, 0))) := fun y hy => (hy.block _ (by omega)).trans (boxS (XM.out w2 bR) 0 _)
      clear KS
      replace WA : Hid (∀ y, Below (w2.heap.size) (w2.setCell ⟨w.heap.size, 0, none⟩ (.slice g n gc)) y → Wri y g n (fun j => xs.getD j 0)) := fun y hy => ((WA.out w2 (Below.refl _ _)).keep (D := fun i => i = w.heap.size) (Chg.set _ _ _ rfl) (fun x e h9 hd => by have := (LA.out x e h9).1; have h8 : x.block = w.heap.size := hd; omega)).later (hy.mono (by simp))
      replace WC : Hid (∀ y, Below (w2.heap.size) (w2.setCell ⟨w.heap.size, 0, none⟩ (.slice g n gc)) y → WriB y k m (fun j => cd.getD j false)) := fun y hy => ((WC.out w2 (Below.refl _ _)).keep (D := fun i => i = w.heap.size) (Chg.set _ _ _ rfl) (fun x e h9 hd => by have := (LC.out x e h9).1; have := hs12; have h8 : x.block = w.heap.size := hd; omega)).later (hy.mono (by simp))
      replace B : Hid (∀ y, Below (w2.heap.size) (w2.setCell ⟨w.heap.size, 0, none⟩ (.slice g n gc)) y → Below w.heap.size w y) := fun y hy => ((B.out w2 bR).setCell hw0 _).trans (hy.mono (by first | omega | exact Nat.le_trans (B.out w2 bR).size hz | (have := (B.out w2 bR).size; omega)))
      replace hz : w2.heap.size ≤ (w2.setCell ⟨w.heap.size, 0, none⟩ (.slice g n gc)).heap.size := by first | (simp; done) | simpa using hz
      clear hw0
      have KS : Hid (∀ x, Below (w2.heap.size) (w2.setCell ⟨w.heap.size, 0, none⟩ (.slice g n gc)) x → True) := fun x hx => trivial
      refine hK.out _ _ (KS.out _ bR) (fun hHeld6 => ?_)
      clear hK K
      try simp only [Act.put, zgT, zg0, zgS, zsT, zs0, zsS]
      refine tV 8 (v := ?_) rfl (by kernel_rfl) (fun _ _ _ h => h) ?_ (by assumption) ?_
      rotate_left 1
      · (intro x hSx; (try dsimp only at hSx); go_simp; try with_reducible rfl)
      try simp only [Act.put, zgT, zg0, zgS, zsT, zs0, zsS]
      refine wpAnyH_ready (rs := [9]) (by kernel_rfl) (by simp) ?_
      refine AllReadyH.cons rfl (fun K hK => ?_) AllReadyH.nil
      obtain ⟨kM0, kM1, kM2, kM3, kM4⟩ := bk5 (XM.out (w2.setCell ⟨w.heap.size, 0, none⟩ (.slice g n gc)) bR)
      obtain ⟨qkM0, qkM1, qkM2, qkM3, qkM4⟩ := bq5 (XM.out (w2.setCell ⟨w.heap.size, 0, none⟩ (.slice g n gc)) bR)
      go_simp
      clear kM0 kM1 kM2 kM3 kM4 qkM0 qkM1 qkM2 qkM3 qkM4
      have hw0 : w.heap.size ≤ w.heap.size := (by first | omega | (simp; done) | (simp; omega) | (simp at *; omega))
      replace XR := lS XR lR (((w2.setCell ⟨w.heap.size, 0, none⟩ (.slice g n gc)).setCell ⟨w.heap.size, 4, none⟩ (.slice k m kc))) ((Below.heap_setCell _ _ _ _ (by first | omega | (simp; done) | (simp; omega))))
      replace XM : Hid (∀ y, Below (w2.heap.size) ((w2.setCell ⟨w.heap.size, 0, none⟩ (.slice g n gc)).setCell ⟨w.heap.size, 4, none⟩ (.slice k m kc)) y → y.heap[w.heap.size]? = some (.cells #[.slice g n gc, .int .i64 x1, .int .i64 x2, .int .i64 x3, .slice k m kc] 29 (0, 0))) := fun y hy => (hy.block _ (by omega)).trans (boxS (XM.out (w2.setCell ⟨w.heap.size, 0, none⟩ (.slice g n gc)) bR) 4 _)
      replace WA : Hid (∀ y, Below (w2.heap.size) ((w2.setCell ⟨w.heap.size, 0, none⟩ (.slice g n gc)).setCell ⟨w.heap.size, 4, none⟩ (.slice k m kc)) y → Wri y g n (fun j => xs.getD j 0)) := fun y hy => ((WA.out (w2.setCell ⟨w.heap.size, 0, none⟩ (.slice g n gc)) (Below.refl _ _)).keep (D := fun i => i = w.heap.size) (Chg.set _ _ _ rfl) (fun x e h9 hd => by have := (LA.out x e h9).1; have h8 : x.block = w.heap.size := hd; omega)).later (hy.mono (by simp))
      replace WC : Hid (∀ y, Below (w2.heap.size) ((w2.setCell ⟨w.heap.size, 0, none⟩ (.slice g n gc)).setCell ⟨w.heap.size, 4, none⟩ (.slice k m kc)) y → WriB y k m (fun j => cd.getD j false)) := fun y hy => ((WC.out (w2.setCell ⟨w.heap.size, 0, none⟩ (.slice g n gc)) (Below.refl _ _)).keep (D := fun i => i = w.heap.size) (Chg.set _ _ _ rfl) (fun x e h9 hd => by have := (LC.out x e h9).1; have := hs12; have h8 : x.block = w.heap.size := hd; omega)).later (hy.mono (by simp))
      clear KS
      replace B : Hid (∀ y, Below (w2.heap.size) ((w2.setCell ⟨w.heap.size, 0, none⟩ (.slice g n gc)).setCell ⟨w.heap.size, 4, none⟩ (.slice k m kc)) y → Below w.heap.size w y) := fun y hy => ((B.out (w2.setCell ⟨w.heap.size, 0, none⟩ (.slice g n gc)) bR).setCell hw0 _).trans (hy.mono (by first | omega | exact Nat.le_trans (B.out (w2.setCell ⟨w.heap.size, 0, none⟩ (.slice g n gc)) bR).size hz | (have := (B.out (w2.setCell ⟨w.heap.size, 0, none⟩ (.slice g n gc)) bR).size; omega)))
      replace hz : w2.heap.size ≤ ((w2.setCell ⟨w.heap.size, 0, none⟩ (.slice g n gc)).setCell ⟨w.heap.size, 4, none⟩ (.slice k m kc)).heap.size := by first | (simp; done) | simpa using hz
      clear hw0
      have KS : Hid (∀ x, Below (w2.heap.size) ((w2.setCell ⟨w.heap.size, 0, none⟩ (.slice g n gc)).setCell ⟨w.heap.size, 4, none⟩ (.slice k m kc)) x → True) := fun x hx => trivial
      refine hK.out _ _ (KS.out _ bR) (fun hHeld7 => ?_)
      clear hK K
      try simp only [Act.put, zgT, zg0, zgS, zsT, zs0, zsS]
      refine wpAnyH_done (by kernel_rfl) ?_ _
      clear hHeld hHeld2 hHeld3 hHeld4 hHeld5 hHeld6 hHeld7
      clear KS
      generalize ((w2.setCell ⟨w.heap.size, 0, none⟩ (.slice g n gc)).setCell ⟨w.heap.size, 4, none⟩ (.slice k m kc)) = w3 at B WA WC XM XR hz ⊢
      have hzn : w2.heap.size ≤ w3.heap.size := Nat.le_trans hz (Below.size (Below.refl (w2.heap.size) w3))
      replace B := lF B (Below.refl (w2.heap.size) w3) hzn
      replace WA := lF WA (Below.refl (w2.heap.size) w3) hzn
      replace WC := lF WC (Below.refl (w2.heap.size) w3) hzn
      replace XM := lF XM (Below.refl (w2.heap.size) w3) hzn
      replace lM := Nat.lt_of_lt_of_le lM hzn
      replace XR := lF XR (Below.refl (w2.heap.size) w3) hzn
      replace lR := Nat.lt_of_lt_of_le lR hzn
      clear hz
      have hz : w3.heap.size ≤ w3.heap.size := Nat.le_refl _
      obtain ⟨kM0, kM1, kM2, kM3, kM4⟩ := bk5 (XM.out w3 bR)
      obtain ⟨kR0, kR1, kR2, kR3, kR4⟩ := bk5 (XR.out w3 bR)
      obtain ⟨qkR0, qkR1, qkR2, qkR3, qkR4⟩ := bq5 (XR.out w3 bR)
      go_wp2_with fail
      refine bodyPost_ret (v := .agg #[.slice g n gc, .int .i64 x1, .int .i64 x2, .int .i64 x3, .slice k m kc]) ?_ rfl ?_
      · simp [results, Tryz.results74, go_sem, *]
      · exact ⟨g, gc, k, kc, rfl, (((((WA.out w3 (Below.refl _ _)).keep (D := fun i => i = w.heap.size + 1) (Chg.set _ _ _ rfl) (fun x e h9 hd => by have := (LA.out x e h9).1; have h8 : x.block = w.heap.size + 1 := hd; omega)).keep (D := fun i => i = w.heap.size + 1) (Chg.set _ _ _ rfl) (fun x e h9 hd => by have := (LA.out x e h9).1; have h8 : x.block = w.heap.size + 1 := hd; omega)).keep (D := fun i => i = w.heap.size + 1) (Chg.set _ _ _ rfl) (fun x e h9 hd => by have := (LA.out x e h9).1; have h8 : x.block = w.heap.size + 1 := hd; omega)).keep (D := fun i => i = w.heap.size + 1) (Chg.set _ _ _ rfl) (fun x e h9 hd => by have := (LA.out x e h9).1; have h8 : x.block = w.heap.size + 1 := hd; omega)).keep (D := fun i => i = w.heap.size + 1) (Chg.set _ _ _ rfl) (fun x e h9 hd => by have := (LA.out x e h9).1; have h8 : x.block = w.heap.size + 1 := hd; omega), (((((WC.out w3 (Below.refl _ _)).keep (D := fun i => i = w.heap.size + 1) (Chg.set _ _ _ rfl) (fun x e h9 hd => by have := (LC.out x e h9).1; have := hs12; have h8 : x.block = w.heap.size + 1 := hd; omega)).keep (D := fun i => i = w.heap.size + 1) (Chg.set _ _ _ rfl) (fun x e h9 hd => by have := (LC.out x e h9).1; have := hs12; have h8 : x.block = w.heap.size + 1 := hd; omega)).keep (D := fun i => i = w.heap.size + 1) (Chg.set _ _ _ rfl) (fun x e h9 hd => by have := (LC.out x e h9).1; have := hs12; have h8 : x.block = w.heap.size + 1 := hd; omega)).keep (D := fun i => i = w.heap.size + 1) (Chg.set _ _ _ rfl) (fun x e h9 hd => by have := (LC.out x e h9).1; have := hs12; have h8 : x.block = w.heap.size + 1 := hd; omega)).keep (D := fun i => i = w.heap.size + 1) (Chg.set _ _ _ rfl) (fun x e h9 hd => by have := (LC.out x e h9).1; have := hs12; have h8 : x.block = w.heap.size + 1 := hd; omega), (fun x e h9 => by have := (LA.out x e h9).1; omega), (fun x e h9 => by have := (LC.out x e h9).1; have := hs12; omega), (fun x y e e2 h9 h8 => by have := (LA.out x e h9).2; have := (LC.out y e2 h8).1; omega), by (repeat (refine Below.setCell ?_ (by first | omega | (simp; done) | (simp; omega)) _)); exact B.out w3 (Below.refl _ _)⟩
    · obtain ⟨kM0, kM1, kM2, kM3, kM4⟩ := bk5 (XM.out ((w.alloc (.cells #[.slice a0 n c0, .int .i64 x1, .int .i64 x2, .int .i64 x3, .slice a4 m c4] 29)).alloc (.cells #[.slice none 0 0, .int .i64 0, .int .i64 0, .int .i64 0, .slice none 0 0] 29)) bR)
      go_simp
      clear kM0 kM1 kM2 kM3 kM4
      refine hK.out _ _ (KS.out _ (bdrew bR)) (fun hHeld3 => ?_)
      clear hK K
      try simp only [Act.put, zgT, zg0, zgS, zsT, zs0, zsS]
      refine wpAnyH_ready (rs := [2]) (by kernel_rfl) (by simp) ?_
      refine AllReadyH.cons rfl (fun K hK => ?_) AllReadyH.nil
      go_simp
      go_at_call 111
      have BP : Hid (Below (w.heap.size + 1 + 1) ((w.alloc (.cells #[.slice a0 n c0, .int .i64 x1, .int .i64 x2, .int .i64 x3, .slice a4 m c4] 29)).alloc (.cells #[.slice none 0 0, .int .i64 0, .int .i64 0, .int .i64 0, .slice none 0 0] 29)) ((w.alloc (.cells #[.slice a0 n c0, .int .i64 x1, .int .i64 x2, .int .i64 x3, .slice a4 m c4] 29)).alloc (.cells #[.slice none 0 0, .int .i64 0, .int .i64 0, .int .i64 0, .slice none 0 0] 29)).drew) := (bdrew bR)
      refine (cloneI _ _ _ xs _ (H0.out.later (B.out _ BP.out)) hn).mono ?_
      rintro e w1 ⟨g, gc, rfl, hA, hla, hb⟩
      have hq : Below (w.heap.size + 1 + 1) ((w.alloc (.cells #[.slice a0 n c0, .int .i64 x1, .int .i64 x2, .int .i64 x3, .slice a4 m c4] 29)).alloc (.cells #[.slice none 0 0, .int .i64 0, .int .i64 0, .int .i64 0, .slice none 0 0] 29)) w1 := BP.out.trans (Below.mono hb (Nat.le_trans hz BP.out.size))
      have hzn : w.heap.size + 1 + 1 ≤ w1.heap.size := Nat.le_trans hz hq.size
      replace B := lF B hq hzn
      replace KS := lF KS hq hzn
      replace XM := lF XM hq hzn
      replace lM := Nat.lt_of_lt_of_le lM hzn
      replace XR := lF XR hq hzn
      replace lR := Nat.lt_of_lt_of_le lR hzn
      clear hq BP hz
      have hz : w1.heap.size ≤ w1.heap.size := Nat.le_refl _
      have WA : Hid (∀ y, Below (w1.heap.size) w1 y → Wri y g n (fun j => xs.getD j 0)) := fun y hy => hA.later hy
      have LA : Hid (∀ x, g = some x → 0 < n → w.heap.size + 1 + 1 ≤ x.block ∧ x.block < w1.heap.size) := fun x e h9 => ⟨by simpa using hla x e h9, hA.lt x e h9⟩
      clear hb hA hla
      go_wp2_with fail
      have lM1 : w.heap.size + 1 + 1 ≤ w1.heap.size := by have := lR; omega
      refine hK.out _ _ (KS.out _ bR) (fun hHeld4 => ?_)
      clear hK K
      try simp only [Act.put, zgT, zg0, zgS, zsT, zs0, zsS]
      refine tV 6 (v := ?_) rfl (by kernel_rfl) (fun _ _ _ h => h) ?_ (by assumption) ?_
      rotate_left 1
      · (intro x hSx; (try dsimp only at hSx); go_simp; try with_reducible rfl)
      try simp only [Act.put, zgT, zg0, zgS, zsT, zs0, zsS]
      refine wpAnyH_ready (rs := [5]) (by kernel_rfl) (by simp) ?_
      refine AllReadyH.cons rfl (fun K hK => ?_) AllReadyH.nil
      go_simp
      go_at_call 112
      have BP : Hid (Below (w1.heap.size) w1 w1) := bR
      refine (cloneB _ _ _ cd _ (H4.out.later (B.out _ BP.out)) hm).mono ?_
      rintro e w2 ⟨k, kc, rfl, hC, hlc, hb⟩
      have hq : Below (w1.heap.size) w1 w2 := BP.out.trans (Below.mono hb (Nat.le_trans hz BP.out.size))
      have hzn : w1.heap.size ≤ w2.heap.size := Nat.le_trans hz hq.size
      replace B := lF B hq hzn
      replace KS := lF KS hq hzn
      replace WA := lF WA hq hzn
      replace XM := lF XM hq hzn
      replace lM := Nat.lt_of_lt_of_le lM hzn
      replace XR := lF XR hq hzn
      replace lR := Nat.lt_of_lt_of_le lR hzn
      clear hq BP hz
      have hz : w2.heap.size ≤ w2.heap.size := Nat.le_refl _
      have WC : Hid (∀ y, Below (w2.heap.size) w2 y → WriB y k m (fun j => cd.getD j false)) := fun y hy => hC.later hy
      have LC : Hid (∀ x, k = some x → 0 < m → w1.heap.size ≤ x.block ∧ x.block < w2.heap.size) := fun x e h9 => ⟨hlc x e h9, hC.lt x e h9⟩
      clear hb hC hlc
      go_wp2_with fail
      have hs12 : w.heap.size + 1 + 1 ≤ w1.heap.size := lM1
      refine hK.out _ _ (KS.out _ bR) (fun hHeld5 => ?_)
      clear hK K
      try simp only [Act.put, zgT, zg0, zgS, zsT, zs0, zsS]
      refine wpAnyH_ready (rs := [7]) (by kernel_rfl) (by simp) ?_
      refine AllReadyH.cons rfl (fun K hK => ?_) AllReadyH.nil
      obtain ⟨kM0, kM1, kM2, kM3, kM4⟩ := bk5 (XM.out w2 bR)
      obtain ⟨qkM0, qkM1, qkM2, qkM3, qkM4⟩ := bq5 (XM.out w2 bR)
      go_simp
      clear kM0 kM1 kM2 kM3 kM4 qkM0 qkM1 qkM2 qkM3 qkM4
      have hw0 : w.heap.size ≤ w.heap.size := (by first | omega | (simp; done) | (simp; omega) | (simp at *; omega))
      replace XR := lS XR lR ((w2.setCell ⟨w.heap.size, 0, none⟩ (.slice g n gc))) ((Below.heap_setCell _ _ _ _ (by first | omega | (simp; done) | (simp; omega))))
      replace XM : Hid (∀ y, Below (w2.heap.size) (w2.setCell ⟨w.heap.size, 0, none⟩ (.slice g n gc)) y → y.heap[w.heap.size]? = some (.cells #[.slice g n gc, .int .i64 x1, .int .i64 x2, .int .i64 x3, .slice a4 m c4] 29 (0, 0))) := fun y hy => (hy.block _ (by omega)).trans (boxS (XM.out w2 bR) 0 _)
      clear KS
      replace WA : Hid (∀ y, Below (w2.heap.size) (w2.setCell ⟨w.heap.size, 0, none⟩ (.slice g n gc)) y → Wri y g n (fun j => xs.getD j 0)) := fun y hy => ((WA.out w2 (Below.refl _ _)).keep (D := fun i => i = w.heap.size) (Chg.set _ _ _ rfl) (fun x e h9 hd => by have := (LA.out x e h9).1; have h8 : x.block = w.heap.size := hd; omega)).later (hy.mono (by simp))
      replace WC : Hid (∀ y, Below (w2.heap.size) (w2.setCell ⟨w.heap.size, 0, none⟩ (.slice g n gc)) y → WriB y k m (fun j => cd.getD j false)) := fun y hy => ((WC.out w2 (Below.refl _ _)).keep (D := fun i => i = w.heap.size) (Chg.set _ _ _ rfl) (fun x e h9 hd => by have := (LC.out x e h9).1; have := hs12; have h8 : x.block = w.heap.size := hd; omega)).later (hy.mono (by simp))
      replace B : Hid (∀ y, Below (w2.heap.size) (w2.setCell ⟨w.heap.size, 0, none⟩ (.slice g n gc)) y → Below w.heap.size w y) := fun y hy => ((B.out w2 bR).setCell hw0 _).trans (hy.mono (by first | omega | exact Nat.le_trans (B.out w2 bR).size hz | (have := (B.out w2 bR).size; omega)))
      replace hz : w2.heap.size ≤ (w2.setCell ⟨w.heap.size, 0, none⟩ (.slice g n gc)).heap.size := by first | (simp; done) | simpa using hz
      clear hw0
      have KS : Hid (∀ x, Below (w2.heap.size) (w2.setCell ⟨w.heap.size, 0, none⟩ (.slice g n gc)) x → True) := fun x hx => trivial
      refine hK.out _ _ (KS.out _ bR) (fun hHeld6 => ?_)
      clear hK K
      try simp only [Act.put, zgT, zg0, zgS, zsT, zs0, zsS]
      refine tV 8 (v := ?_) rfl (by kernel_rfl) (fun _ _ _ h => h) ?_ (by assumption) ?_
      rotate_left 1
      · (intro x hSx; (try dsimp only at hSx); go_simp; try with_reducible rfl)
      try simp only [Act.put, zgT, zg0, zgS, zsT, zs0, zsS]
      refine wpAnyH_ready (rs := [9]) (by kernel_rfl) (by simp) ?_
      refine AllReadyH.cons rfl (fun K hK => ?_) AllReadyH.nil
      obtain ⟨kM0, kM1, kM2, kM3, kM4⟩ := bk5 (XM.out (w2.setCell ⟨w.heap.size, 0, none⟩ (.slice g n gc)) bR)
      obtain ⟨qkM0, qkM1, qkM2, qkM3, qkM4⟩ := bq5 (XM.out (w2.setCell ⟨w.heap.size, 0, none⟩ (.slice g n gc)) bR)
      go_simp
      clear kM0 kM1 kM2 kM3 kM4 qkM0 qkM1 qkM2 qkM3 qkM4
      have hw0 : w.heap.size ≤ w.heap.size := (by first | omega | (simp; done) | (simp; omega) | (simp at *; omega))
      replace XR := lS XR lR (((w2.setCell ⟨w.heap.size, 0, none⟩ (.slice g n gc)).setCell ⟨w.heap.size, 4, none⟩ (.slice k m kc))) ((Below.heap_setCell _ _ _ _ (by first | omega | (simp; done) | (simp; omega))))
      replace XM : Hid (∀ y, Below (w2.heap.size) ((w2.setCell ⟨w.heap.size, 0, none⟩ (.slice g n gc)).setCell ⟨w.heap.size, 4, none⟩ (.slice k m kc)) y → y.heap[w.heap.size]? = some (.cells #[.slice g n gc, .int .i64 x1, .int .i64 x2, .int .i64 x3, .slice k m kc] 29 (0, 0))) := fun y hy => (hy.block _ (by omega)).trans (boxS (XM.out (w2.setCell ⟨w.heap.size, 0, none⟩ (.slice g n gc)) bR) 4 _)
      replace WA : Hid (∀ y, Below (w2.heap.size) ((w2.setCell ⟨w.heap.size, 0, none⟩ (.slice g n gc)).setCell ⟨w.heap.size, 4, none⟩ (.slice k m kc)) y → Wri y g n (fun j => xs.getD j 0)) := fun y hy => ((WA.out (w2.setCell ⟨w.heap.size, 0, none⟩ (.slice g n gc)) (Below.refl _ _)).keep (D := fun i => i = w.heap.size) (Chg.set _ _ _ rfl) (fun x e h9 hd => by have := (LA.out x e h9).1; have h8 : x.block = w.heap.size := hd; omega)).later (hy.mono (by simp))
      replace WC : Hid (∀ y, Below (w2.heap.size) ((w2.setCell ⟨w.heap.size, 0, none⟩ (.slice g n gc)).setCell ⟨w.heap.size, 4, none⟩ (.slice k m kc)) y → WriB y k m (fun j => cd.getD j false)) := fun y hy => ((WC.out (w2.setCell ⟨w.heap.size, 0, none⟩ (.slice g n gc)) (Below.refl _ _)).keep (D := fun i => i = w.heap.size) (Chg.set _ _ _ rfl) (fun x e h9 hd => by have := (LC.out x e h9).1; have := hs12; have h8 : x.block = w.heap.size := hd; omega)).later (hy.mono (by simp))
      clear KS
      replace B : Hid (∀ y, Below (w2.heap.size) ((w2.setCell ⟨w.heap.size, 0, none⟩ (.slice g n gc)).setCell ⟨w.heap.size, 4, none⟩ (.slice k m kc)) y → Below w.heap.size w y) := fun y hy => ((B.out (w2.setCell ⟨w.heap.size, 0, none⟩ (.slice g n gc)) bR).setCell hw0 _).trans (hy.mono (by first | omega | exact Nat.le_trans (B.out (w2.setCell ⟨w.heap.size, 0, none⟩ (.slice g n gc)) bR).size hz | (have := (B.out (w2.setCell ⟨w.heap.size, 0, none⟩ (.slice g n gc)) bR).size; omega)))
      replace hz : w2.heap.size ≤ ((w2.setCell ⟨w.heap.size, 0, none⟩ (.slice g n gc)).setCell ⟨w.heap.size, 4, none⟩ (.slice k m kc)).heap.size := by first | (simp; done) | simpa using hz
      clear hw0
      have KS : Hid (∀ x, Below (w2.heap.size) ((w2.setCell ⟨w.heap.size, 0, none⟩ (.slice g n gc)).setCell ⟨w.heap.size, 4, none⟩ (.slice k m kc)) x → True) := fun x hx => trivial
      refine hK.out _ _ (KS.out _ bR) (fun hHeld7 => ?_)
      clear hK K
      try simp only [Act.put, zgT, zg0, zgS, zsT, zs0, zsS]
      refine wpAnyH_done (by kernel_rfl) ?_ _
      clear hHeld hHeld2 hHeld3 hHeld4 hHeld5 hHeld6 hHeld7
      clear KS
      generalize ((w2.setCell ⟨w.heap.size, 0, none⟩ (.slice g n gc)).setCell ⟨w.heap.size, 4, none⟩ (.slice k m kc)) = w3 at B WA WC XM XR hz ⊢
      have hzn : w2.heap.size ≤ w3.heap.size := Nat.le_trans hz (Below.size (Below.refl (w2.heap.size) w3))
      replace B := lF B (Below.refl (w2.heap.size) w3) hzn
      replace WA := lF WA (Below.refl (w2.heap.size) w3) hzn
      replace WC := lF WC (Below.refl (w2.heap.size) w3) hzn
      replace XM := lF XM (Below.refl (w2.heap.size) w3) hzn
      replace lM := Nat.lt_of_lt_of_le lM hzn
      replace XR := lF XR (Below.refl (w2.heap.size) w3) hzn
      replace lR := Nat.lt_of_lt_of_le lR hzn
      clear hz
      have hz : w3.heap.size ≤ w3.heap.size := Nat.le_refl _
      obtain ⟨kM0, kM1, kM2, kM3, kM4⟩ := bk5 (XM.out w3 bR)
      obtain ⟨kR0, kR1, kR2, kR3, kR4⟩ := bk5 (XR.out w3 bR)
      obtain ⟨qkR0, qkR1, qkR2, qkR3, qkR4⟩ := bq5 (XR.out w3 bR)
      go_wp2_with fail
      refine bodyPost_ret (v := .agg #[.slice g n gc, .int .i64 x1, .int .i64 x2, .int .i64 x3, .slice k m kc]) ?_ rfl ?_
      · simp [results, Tryz.results74, go_sem, *]
      · exact ⟨g, gc, k, kc, rfl, (((((WA.out w3 (Below.refl _ _)).keep (D := fun i => i = w.heap.size + 1) (Chg.set _ _ _ rfl) (fun x e h9 hd => by have := (LA.out x e h9).1; have h8 : x.block = w.heap.size + 1 := hd; omega)).keep (D := fun i => i = w.heap.size + 1) (Chg.set _ _ _ rfl) (fun x e h9 hd => by have := (LA.out x e h9).1; have h8 : x.block = w.heap.size + 1 := hd; omega)).keep (D := fun i => i = w.heap.size + 1) (Chg.set _ _ _ rfl) (fun x e h9 hd => by have := (LA.out x e h9).1; have h8 : x.block = w.heap.size + 1 := hd; omega)).keep (D := fun i => i = w.heap.size + 1) (Chg.set _ _ _ rfl) (fun x e h9 hd => by have := (LA.out x e h9).1; have h8 : x.block = w.heap.size + 1 := hd; omega)).keep (D := fun i => i = w.heap.size + 1) (Chg.set _ _ _ rfl) (fun x e h9 hd => by have := (LA.out x e h9).1; have h8 : x.block = w.heap.size + 1 := hd; omega), (((((WC.out w3 (Below.refl _ _)).keep (D := fun i => i = w.heap.size + 1) (Chg.set _ _ _ rfl) (fun x e h9 hd => by have := (LC.out x e h9).1; have := hs12; have h8 : x.block = w.heap.size + 1 := hd; omega)).keep (D := fun i => i = w.heap.size + 1) (Chg.set _ _ _ rfl) (fun x e h9 hd => by have := (LC.out x e h9).1; have := hs12; have h8 : x.block = w.heap.size + 1 := hd; omega)).keep (D := fun i => i = w.heap.size + 1) (Chg.set _ _ _ rfl) (fun x e h9 hd => by have := (LC.out x e h9).1; have := hs12; have h8 : x.block = w.heap.size + 1 := hd; omega)).keep (D := fun i => i = w.heap.size + 1) (Chg.set _ _ _ rfl) (fun x e h9 hd => by have := (LC.out x e h9).1; have := hs12; have h8 : x.block = w.heap.size + 1 := hd; omega)).keep (D := fun i => i = w.heap.size + 1) (Chg.set _ _ _ rfl) (fun x e h9 hd => by have := (LC.out x e h9).1; have := hs12; have h8 : x.block = w.heap.size + 1 := hd; omega), (fun x e h9 => by have := (LA.out x e h9).1; omega), (fun x e h9 => by have := (LC.out x e h9).1; have := hs12; omega), (fun x y e e2 h9 h8 => by have := (LA.out x e h9).2; have := (LC.out y e2 h8).1; omega), by (repeat (refine Below.setCell ?_ (by first | omega | (simp; done) | (simp; omega)) _)); exact B.out w3 (Below.refl _ _)⟩
  · obtain ⟨kM0, kM1, kM2, kM3, kM4⟩ := bk5 (XM.out ((w.alloc (.cells #[.slice a0 n c0, .int .i64 x1, .int .i64 x2, .int .i64 x3, .slice a4 m c4] 29)).alloc (.cells #[.slice none 0 0, .int .i64 0, .int .i64 0, .int .i64 0, .slice none 0 0] 29)) bR)
    go_simp
    clear kM0 kM1 kM2 kM3 kM4
    refine hK.out _ _ (KS.out _ (bdrew bR)) (fun hHeld2 => ?_)
    clear hK K
    try simp only [Act.put, zgT, zg0, zgS, zsT, zs0, zsS]
    refine wpAnyH_ready (rs := [1]) (by kernel_rfl) (by simp) ?_
    refine AllReadyH.cons rfl (fun K hK => ?_) AllReadyH.nil
    obtain ⟨kM0, kM1, kM2, kM3, kM4⟩ := bk5 (XM.out ((w.alloc (.cells #[.slice a0 n c0, .int .i64 x1, .int .i64 x2, .int .i64 x3, .slice a4 m c4] 29)).alloc (.cells #[.slice none 0 0, .int .i64 0, .int .i64 0, .int .i64 0, .slice none 0 0] 29)) bR)
    go_simp
    clear kM0 kM1 kM2 kM3 kM4
    refine hK.out _ _ (KS.out _ (bdrew bR)) (fun hHeld3 => ?_)
    clear hK K
    try simp only [Act.put, zgT, zg0, zgS, zsT, zs0, zsS]
    refine wpAnyH_ready (rs := [2]) (by kernel_rfl) (by simp) ?_
    refine AllReadyH.cons rfl (fun K hK => ?_) AllReadyH.nil
    go_simp
    go_at_call 111
    have BP : Hid (Below (w.heap.size + 1 + 1) ((w.alloc (.cells #[.slice a0 n c0, .int .i64 x1, .int .i64 x2, .int .i64 x3, .slice a4 m c4] 29)).alloc (.cells #[.slice none 0 0, .int .i64 0, .int .i64 0, .int .i64 0, .slice none 0 0] 29)) ((w.alloc (.cells #[.slice a0 n c0, .int .i64 x1, .int .i64 x2, .int .i64 x3, .slice a4 m c4] 29)).alloc (.cells #[.slice none 0 0, .int .i64 0, .int .i64 0, .int .i64 0, .slice none 0 0] 29)).drew) := (bdrew bR)
    refine (cloneI _ _ _ xs _ (H0.out.later (B.out _ BP.out)) hn).mono ?_
    rintro e w1 ⟨g, gc, rfl, hA, hla, hb⟩
    have hq : Below (w.heap.size + 1 + 1) ((w.alloc (.cells #[.slice a0 n c0, .int .i64 x1, .int .i64 x2, .int .i64 x3, .slice a4 m c4] 29)).alloc (.cells #[.slice none 0 0, .int .i64 0, .int .i64 0, .int .i64 0, .slice none 0 0] 29)) w1 := BP.out.trans (Below.mono hb (Nat.le_trans hz BP.out.size))
    have hzn : w.heap.size + 1 + 1 ≤ w1.heap.size := Nat.le_trans hz hq.size
    replace B := lF B hq hzn
    replace KS := lF KS hq hzn
    replace XM := lF XM hq hzn
    replace lM := Nat.lt_of_lt_of_le lM hzn
    replace XR := lF XR hq hzn
    replace lR := Nat.lt_of_lt_of_le lR hzn
    clear hq BP hz
    have hz : w1.heap.size ≤ w1.heap.size := Nat.le_refl _
    have WA : Hid (∀ y, Below (w1.heap.size) w1 y → Wri y g n (fun j => xs.getD j 0)) := fun y hy => hA.later hy
    have LA : Hid (∀ x, g = some x → 0 < n → w.heap.size + 1 + 1 ≤ x.block ∧ x.block < w1.heap.size) := fun x e h9 => ⟨by simpa using hla x e h9, hA.lt x e h9⟩
    clear hb hA hla
    go_wp2_with fail
    have lM1 : w.heap.size + 1 + 1 ≤ w1.heap.size := by have := lR; omega
    refine hK.out _ _ (KS.out _ bR) (fun hHeld4 => ?_)
    clear hK K
    try simp only [Act.put, zgT, zg0, zgS, zsT, zs0, zsS]
    refine tV 6 (v := ?_) rfl (by kernel_rfl) (fun _ _ _ h => h) ?_ (by assumption) ?_
    rotate_left 1
    · (intro x hSx; (try dsimp only at hSx); go_simp; try with_reducible rfl)
    try simp only [Act.put, zgT, zg0, zgS, zsT, zs0, zsS]
    refine wpAnyH_ready (rs := [5]) (by kernel_rfl) (by simp) ?_
    refine AllReadyH.cons rfl (fun K hK => ?_) AllReadyH.nil
    go_simp
    go_at_call 112
    have BP : Hid (Below (w1.heap.size) w1 w1) := bR
    refine (cloneB _ _ _ cd _ (H4.out.later (B.out _ BP.out)) hm).mono ?_
    rintro e w2 ⟨k, kc, rfl, hC, hlc, hb⟩
    have hq : Below (w1.heap.size) w1 w2 := BP.out.trans (Below.mono hb (Nat.le_trans hz BP.out.size))
    have hzn : w1.heap.size ≤ w2.heap.size := Nat.le_trans hz hq.size
    replace B := lF B hq hzn
    replace KS := lF KS hq hzn
    replace WA := lF WA hq hzn
    replace XM := lF XM hq hzn
    replace lM := Nat.lt_of_lt_of_le lM hzn
    replace XR := lF XR hq hzn
    replace lR := Nat.lt_of_lt_of_le lR hzn
    clear hq BP hz
    have hz : w2.heap.size ≤ w2.heap.size := Nat.le_refl _
    have WC : Hid (∀ y, Below (w2.heap.size) w2 y → WriB y k m (fun j => cd.getD j false)) := fun y hy => hC.later hy
    have LC : Hid (∀ x, k = some x → 0 < m → w1.heap.size ≤ x.block ∧ x.block < w2.heap.size) := fun x e h9 => ⟨hlc x e h9, hC.lt x e h9⟩
    clear hb hC hlc
    go_wp2_with fail
    have hs12 : w.heap.size + 1 + 1 ≤ w1.heap.size := lM1
    refine hK.out _ _ (KS.out _ bR) (fun hHeld5 => ?_)
    clear hK K
    try simp only [Act.put, zgT, zg0, zgS, zsT, zs0, zsS]
    refine wpAnyH_ready (rs := [7]) (by kernel_rfl) (by simp) ?_
    refine AllReadyH.cons rfl (fun K hK => ?_) AllReadyH.nil
    obtain ⟨kM0, kM1, kM2, kM3, kM4⟩ := bk5 (XM.out w2 bR)
    obtain ⟨qkM0, qkM1, qkM2, qkM3, qkM4⟩ := bq5 (XM.out w2 bR)
    go_simp
    clear kM0 kM1 kM2 kM3 kM4 qkM0 qkM1 qkM2 qkM3 qkM4
    have hw0 : w.heap.size ≤ w.heap.size := (by first | omega | (simp; done) | (simp; omega) | (simp at *; omega))
    replace XR := lS XR lR ((w2.setCell ⟨w.heap.size, 0, none⟩ (.slice g n gc))) ((Below.heap_setCell _ _ _ _ (by first | omega | (simp; done) | (simp; omega))))
    replace XM : Hid (∀ y, Below (w2.heap.size) (w2.setCell ⟨w.heap.size, 0, none⟩ (.slice g n gc)) y → y.heap[w.heap.size]? = some (.cells #[.slice g n gc, .int .i64 x1, .int .i64 x2, .int .i64 x3, .slice a4 m c4] 29 (0, 0))) := fun y hy => (hy.block _ (by omega)).trans (boxS (XM.out w2 bR) 0 _)
    clear KS
    replace WA : Hid (∀ y, Below (w2.heap.size) (w2.setCell ⟨w.heap.size, 0, none⟩ (.slice g n gc)) y → Wri y g n (fun j => xs.getD j 0)) := fun y hy => ((WA.out w2 (Below.refl _ _)).keep (D := fun i => i = w.heap.size) (Chg.set _ _ _ rfl) (fun x e h9 hd => by have := (LA.out x e h9).1; have h8 : x.block = w.heap.size := hd; omega)).later (hy.mono (by simp))
    replace WC : Hid (∀ y, Below (w2.heap.size) (w2.setCell ⟨w.heap.size, 0, none⟩ (.slice g n gc)) y → WriB y k m (fun j => cd.getD j false)) := fun y hy => ((WC.out w2 (Below.refl _ _)).keep (D := fun i => i = w.heap.size) (Chg.set _ _ _ rfl) (fun x e h9 hd => by have := (LC.out x e h9).1; have := hs12; have h8 : x.block = w.heap.size := hd; omega)).later (hy.mono (by simp))
    replace B : Hid (∀ y, Below (w2.heap.size) (w2.setCell ⟨w.heap.size, 0, none⟩ (.slice g n gc)) y → Below w.heap.size w y) := fun y hy => ((B.out w2 bR).setCell hw0 _).trans (hy.mono (by first | omega | exact Nat.le_trans (B.out w2 bR).size hz | (have := (B.out w2 bR).size; omega)))
    replace hz : w2.heap.size ≤ (w2.setCell ⟨w.heap.size, 0, none⟩ (.slice g n gc)).heap.size := by first | (simp; done) | simpa using hz
    clear hw0
    have KS : Hid (∀ x, Below (w2.heap.size) (w2.setCell ⟨w.heap.size, 0, none⟩ (.slice g n gc)) x → True) := fun x hx => trivial
    refine hK.out _ _ (KS.out _ bR) (fun hHeld6 => ?_)
    clear hK K
    try simp only [Act.put, zgT, zg0, zgS, zsT, zs0, zsS]
    refine tV 8 (v := ?_) rfl (by kernel_rfl) (fun _ _ _ h => h) ?_ (by assumption) ?_
    rotate_left 1
    · (intro x hSx; (try dsimp only at hSx); go_simp; try with_reducible rfl)
    try simp only [Act.put, zgT, zg0, zgS, zsT, zs0, zsS]
    refine wpAnyH_ready (rs := [9]) (by kernel_rfl) (by simp) ?_
    refine AllReadyH.cons rfl (fun K hK => ?_) AllReadyH.nil
    obtain ⟨kM0, kM1, kM2, kM3, kM4⟩ := bk5 (XM.out (w2.setCell ⟨w.heap.size, 0, none⟩ (.slice g n gc)) bR)
    obtain ⟨qkM0, qkM1, qkM2, qkM3, qkM4⟩ := bq5 (XM.out (w2.setCell ⟨w.heap.size, 0, none⟩ (.slice g n gc)) bR)
    go_simp
    clear kM0 kM1 kM2 kM3 kM4 qkM0 qkM1 qkM2 qkM3 qkM4
    have hw0 : w.heap.size ≤ w.heap.size := (by first | omega | (simp; done) | (simp; omega) | (simp at *; omega))
    replace XR := lS XR lR (((w2.setCell ⟨w.heap.size, 0, none⟩ (.slice g n gc)).setCell ⟨w.heap.size, 4, none⟩ (.slice k m kc))) ((Below.heap_setCell _ _ _ _ (by first | omega | (simp; done) | (simp; omega))))
    replace XM : Hid (∀ y, Below (w2.heap.size) ((w2.setCell ⟨w.heap.size, 0, none⟩ (.slice g n gc)).setCell ⟨w.heap.size, 4, none⟩ (.slice k m kc)) y → y.heap[w.heap.size]? = some (.cells #[.slice g n gc, .int .i64 x1, .int .i64 x2, .int .i64 x3, .slice k m kc] 29 (0, 0))) := fun y hy => (hy.block _ (by omega)).trans (boxS (XM.out (w2.setCell ⟨w.heap.size, 0, none⟩ (.slice g n gc)) bR) 4 _)
    replace WA : Hid (∀ y, Below (w2.heap.size) ((w2.setCell ⟨w.heap.size, 0, none⟩ (.slice g n gc)).setCell ⟨w.heap.size, 4, none⟩ (.slice k m kc)) y → Wri y g n (fun j => xs.getD j 0)) := fun y hy => ((WA.out (w2.setCell ⟨w.heap.size, 0, none⟩ (.slice g n gc)) (Below.refl _ _)).keep (D := fun i => i = w.heap.size) (Chg.set _ _ _ rfl) (fun x e h9 hd => by have := (LA.out x e h9).1; have h8 : x.block = w.heap.size := hd; omega)).later (hy.mono (by simp))
    replace WC : Hid (∀ y, Below (w2.heap.size) ((w2.setCell ⟨w.heap.size, 0, none⟩ (.slice g n gc)).setCell ⟨w.heap.size, 4, none⟩ (.slice k m kc)) y → WriB y k m (fun j => cd.getD j false)) := fun y hy => ((WC.out (w2.setCell ⟨w.heap.size, 0, none⟩ (.slice g n gc)) (Below.refl _ _)).keep (D := fun i => i = w.heap.size) (Chg.set _ _ _ rfl) (fun x e h9 hd => by have := (LC.out x e h9).1; have := hs12; have h8 : x.block = w.heap.size := hd; omega)).later (hy.mono (by simp))
    clear KS
    replace B : Hid (∀ y, Below (w2.heap.size) ((w2.setCell ⟨w.heap.size, 0, none⟩ (.slice g n gc)).setCell ⟨w.heap.size, 4, none⟩ (.slice k m kc)) y → Below w.heap.size w y) := fun y hy => ((B.out (w2.setCell ⟨w.heap.size, 0, none⟩ (.slice g n gc)) bR).setCell hw0 _).trans (hy.mono (by first | omega | exact Nat.le_trans (B.out (w2.setCell ⟨w.heap.size, 0, none⟩ (.slice g n gc)) bR).size hz | (have := (B.out (w2.setCell ⟨w.heap.size, 0, none⟩ (.slice g n gc)) bR).size; omega)))
    replace hz : w2.heap.size ≤ ((w2.setCell ⟨w.heap.size, 0, none⟩ (.slice g n gc)).setCell ⟨w.heap.size, 4, none⟩ (.slice k m kc)).heap.size := by first | (simp; done) | simpa using hz
    clear hw0
    have KS : Hid (∀ x, Below (w2.heap.size) ((w2.setCell ⟨w.heap.size, 0, none⟩ (.slice g n gc)).setCell ⟨w.heap.size, 4, none⟩ (.slice k m kc)) x → True) := fun x hx => trivial
    refine hK.out _ _ (KS.out _ bR) (fun hHeld7 => ?_)
    clear hK K
    try simp only [Act.put, zgT, zg0, zgS, zsT, zs0, zsS]
    refine wpAnyH_done (by kernel_rfl) ?_ _
    clear hHeld hHeld2 hHeld3 hHeld4 hHeld5 hHeld6 hHeld7
    clear KS
    generalize ((w2.setCell ⟨w.heap.size, 0, none⟩ (.slice g n gc)).setCell ⟨w.heap.size, 4, none⟩ (.slice k m kc)) = w3 at B WA WC XM XR hz ⊢
    have hzn : w2.heap.size ≤ w3.heap.size := Nat.le_trans hz (Below.size (Below.refl (w2.heap.size) w3))
    replace B := lF B (Below.refl (w2.heap.size) w3) hzn
    replace WA := lF WA (Below.refl (w2.heap.size) w3) hzn
    replace WC := lF WC (Below.refl (w2.heap.size) w3) hzn
    replace XM := lF XM (Below.refl (w2.heap.size) w3) hzn
    replace lM := Nat.lt_of_lt_of_le lM hzn
    replace XR := lF XR (Below.refl (w2.heap.size) w3) hzn
    replace lR := Nat.lt_of_lt_of_le lR hzn
    clear hz
    have hz : w3.heap.size ≤ w3.heap.size := Nat.le_refl _
    obtain ⟨kM0, kM1, kM2, kM3, kM4⟩ := bk5 (XM.out w3 bR)
    obtain ⟨kR0, kR1, kR2, kR3, kR4⟩ := bk5 (XR.out w3 bR)
    obtain ⟨qkR0, qkR1, qkR2, qkR3, qkR4⟩ := bq5 (XR.out w3 bR)
    go_wp2_with fail
    refine bodyPost_ret (v := .agg #[.slice g n gc, .int .i64 x1, .int .i64 x2, .int .i64 x3, .slice k m kc]) ?_ rfl ?_
    · simp [results, Tryz.results74, go_sem, *]
    · exact ⟨g, gc, k, kc, rfl, (((((WA.out w3 (Below.refl _ _)).keep (D := fun i => i = w.heap.size + 1) (Chg.set _ _ _ rfl) (fun x e h9 hd => by have := (LA.out x e h9).1; have h8 : x.block = w.heap.size + 1 := hd; omega)).keep (D := fun i => i = w.heap.size + 1) (Chg.set _ _ _ rfl) (fun x e h9 hd => by have := (LA.out x e h9).1; have h8 : x.block = w.heap.size + 1 := hd; omega)).keep (D := fun i => i = w.heap.size + 1) (Chg.set _ _ _ rfl) (fun x e h9 hd => by have := (LA.out x e h9).1; have h8 : x.block = w.heap.size + 1 := hd; omega)).keep (D := fun i => i = w.heap.size + 1) (Chg.set _ _ _ rfl) (fun x e h9 hd => by have := (LA.out x e h9).1; have h8 : x.block = w.heap.size + 1 := hd; omega)).keep (D := fun i => i = w.heap.size + 1) (Chg.set _ _ _ rfl) (fun x e h9 hd => by have := (LA.out x e h9).1; have h8 : x.block = w.heap.size + 1 := hd; omega), (((((WC.out w3 (Below.refl _ _)).keep (D := fun i => i = w.heap.size + 1) (Chg.set _ _ _ rfl) (fun x e h9 hd => by have := (LC.out x e h9).1; have := hs12; have h8 : x.block = w.heap.size + 1 := hd; omega)).keep (D := fun i => i = w.heap.size + 1) (Chg.set _ _ _ rfl) (fun x e h9 hd => by have := (LC.out x e h9).1; have := hs12; have h8 : x.block = w.heap.size + 1 := hd; omega)).keep (D := fun i => i = w.heap.size + 1) (Chg.set _ _ _ rfl) (fun x e h9 hd => by have := (LC.out x e h9).1; have := hs12; have h8 : x.block = w.heap.size + 1 := hd; omega)).keep (D := fun i => i = w.heap.size + 1) (Chg.set _ _ _ rfl) (fun x e h9 hd => by have := (LC.out x e h9).1; have := hs12; have h8 : x.block = w.heap.size + 1 := hd; omega)).keep (D := fun i => i = w.heap.size + 1) (Chg.set _ _ _ rfl) (fun x e h9 hd => by have := (LC.out x e h9).1; have := hs12; have h8 : x.block = w.heap.size + 1 := hd; omega), (fun x e h9 => by have := (LA.out x e h9).1; omega), (fun x e h9 => by have := (LC.out x e h9).1; have := hs12; omega), (fun x y e e2 h9 h8 => by have := (LA.out x e h9).2; have := (LC.out y e2 h8).1; omega), by (repeat (refine Below.setCell ?_ (by first | omega | (simp; done) | (simp; omega)) _)); exact B.out w3 (Below.refl _ _)⟩
set_option maxRecDepth 100000 in
set_option maxHeartbeats 4000000 in
theorem copySpec21 (x1 x2 x3 : Int) (a0 : Option Addr) (n c0 : Nat) (a4 : Option Addr) (m c4 : Nat) (xs : List Int) (cd : List Bool) (w : World) {D D2 : Nat → Prop} (h0 : IntsAt D w a0 n xs) (h4 : SlAt boolR D2 w a4 m cd) (hn : n ≤ 1048576) (hm : m ≤ 1048576) :
    Calls Tryz.prog 30 #[.agg #[.slice a0 n c0, .int .i64 x1, .int .i64 x2, .int .i64 x3, .slice a4 m c4]] w (CpP w x1 x2 x3 n m xs cd) := by
  have H0 : Hid (IntsAt D w a0 n xs) := h0
  have H4 : Hid (SlAt boolR D2 w a4 m cd) := h4
  clear h0 h4
  have hz : w.heap.size + 1 + 1 ≤ ((w.alloc (.cells #[.slice a0 n c0, .int .i64 x1, .int .i64 x2, .int .i64 x3, .slice a4 m c4] 29)).alloc (.cells #[.slice none 0 0, .int .i64 0, .int .i64 0, .int .i64 0, .slice none 0 0] 29)).heap.size := by simp
  have B : Hid (∀ y, Below (w.heap.size + 1 + 1) ((w.alloc (.cells #[.slice a0 n c0, .int .i64 x1, .int .i64 x2, .int .i64 x3, .slice a4 m c4] 29)).alloc (.cells #[.slice none 0 0, .int .i64 0, .int .i64 0, .int .i64 0, .slice none 0 0] 29)) y → Below w.heap.size w y) := fun y hy => ((bR.alloc (by first | exact Nat.le_refl _ | (simp; done) | (simp; omega)) _).alloc (by first | exact Nat.le_refl _ | (simp; done) | (simp; omega)) _).trans (hy.mono (by omega))
  have XM : Hid (∀ y, Below (w.heap.size + 1 + 1) ((w.alloc (.cells #[.slice a0 n c0, .int .i64 x1, .int .i64 x2, .int .i64 x3, .slice a4 m c4] 29)).alloc (.cells #[.slice none 0 0, .int .i64 0, .int .i64 0, .int .i64 0, .slice none 0 0] 29)) y → y.heap[w.heap.size]? = some (.cells #[.slice a0 n c0, .int .i64 x1, .int .i64 x2, .int .i64 x3, .slice a4 m c4] 29 (0, 0))) := fun y hy => (hy.block _ (by omega)).trans ((Below.heap_alloc _ _ _ (by first | (simp; done) | (simp; omega))).trans (boxN _ _ _ _ (by simp)))
  have lM : w.heap.size < w.heap.size + 1 + 1 := by omega
  have XR : Hid (∀ y, Below (w.heap.size + 1 + 1) ((w.alloc (.cells #[.slice a0 n c0, .int .i64 x1, .int .i64 x2, .int .i64 x3, .slice a4 m c4] 29)).alloc (.cells #[.slice none 0 0, .int .i64 0, .int .i64 0, .int .i64 0, .slice none 0 0] 29)) y → y.heap[w.heap.size + 1]? = some (.cells #[.slice none 0 0, .int .i64 0, .int .i64 0, .int .i64 0, .slice none 0 0] 29 (0, 0))) := fun y hy => (hy.block _ (by omega)).trans (boxN _ _ _ _ (by simp))
  have lR : w.heap.size + 1 < w.heap.size + 1 + 1 := by omega
  go_enter Tryz.func30, Tryz.ntmps30
  go_upto_region 2 with fail
  have BP : Hid (Below (w.heap.size + 1 + 1) ((w.alloc (.cells #[.slice a0 n c0, .int .i64 x1, .int .i64 x2, .int .i64 x3, .slice a4 m c4] 29)).alloc (.cells #[.slice none 0 0, .int .i64 0, .int .i64 0, .int .i64 0, .slice none 0 0] 29)) (((w.alloc (.cells #[.slice a0 n c0, .int .i64 x1, .int .i64 x2, .int .i64 x3, .slice a4 m c4] 29)).alloc (.cells #[.slice none 0 0, .int .i64 0, .int .i64 0, .int .i64 0, .slice none 0 0] 29)).alloc (.cells #[.slice a0 n c0, .int .i64 x1, .int .i64 x2, .int .i64 x3, .slice a4 m c4] 29))) := (bR.alloc (by first | exact hz | (simp; done) | (simp; omega) | (have := hz; simp at this ⊢; omega)) _)
  replace B := lA B BP
  replace XM := lA XM BP
  replace lM := lL lM
  replace XR := lA XR BP
  replace lR := lL lR
  have XC : Hid (∀ y, Below (w.heap.size + 1 + 1 + 1) (((w.alloc (.cells #[.slice a0 n c0, .int .i64 x1, .int .i64 x2, .int .i64 x3, .slice a4 m c4] 29)).alloc (.cells #[.slice none 0 0, .int .i64 0, .int .i64 0, .int .i64 0, .slice none 0 0] 29)).alloc (.cells #[.slice a0 n c0, .int .i64 x1, .int .i64 x2, .int .i64 x3, .slice a4 m c4] 29)) y → y.heap[w.heap.size + 1 + 1]? = some (.cells #[.slice a0 n c0, .int .i64 x1, .int .i64 x2, .int .i64 x3, .slice a4 m c4] 29 (0, 0))) := fun y hy => (hy.block _ (by omega)).trans (boxN _ _ _ _ (by simp))
  have lC : w.heap.size + 1 + 1 < w.heap.size + 1 + 1 + 1 := by omega
  replace hz : w.heap.size + 1 + 1 + 1 ≤ ((((w.alloc (.cells #[.slice a0 n c0, .int .i64 x1, .int .i64 x2, .int .i64 x3, .slice a4 m c4] 29)).alloc (.cells #[.slice none 0 0, .int .i64 0, .int .i64 0, .int .i64 0, .slice none 0 0] 29)).alloc (.cells #[.slice a0 n c0, .int .i64 x1, .int .i64 x2, .int .i64 x3, .slice a4 m c4] 29))).heap.size := by simp
  clear BP
  generalize (((w.alloc (.cells #[.slice a0 n c0, .int .i64 x1, .int .i64 x2, .int .i64 x3, .slice a4 m c4] 29)).alloc (.cells #[.slice none 0 0, .int .i64 0, .int .i64 0, .int .i64 0, .slice none 0 0] 29)).alloc (.cells #[.slice a0 n c0, .int .i64 x1, .int .i64 x2, .int .i64 x3, .slice a4 m c4] 29)) = w1 at B XM XR XC hz ⊢
  have hzn : w.heap.size + 1 + 1 + 1 ≤ w1.heap.size := Nat.le_trans hz (Below.size (Below.refl (w.heap.size + 1 + 1 + 1) w1))
  replace B := lF B (Below.refl (w.heap.size + 1 + 1 + 1) w1) hzn
  replace XM := lF XM (Below.refl (w.heap.size + 1 + 1 + 1) w1) hzn
  replace lM := Nat.lt_of_lt_of_le lM hzn
  replace XR := lF XR (Below.refl (w.heap.size + 1 + 1 + 1) w1) hzn
  replace lR := Nat.lt_of_lt_of_le lR hzn
  replace XC := lF XC (Below.refl (w.heap.size + 1 + 1 + 1) w1) hzn
  replace lC := Nat.lt_of_lt_of_le lC hzn
  clear hz
  have hz : w1.heap.size ≤ w1.heap.size := Nat.le_refl _
  have hwl1 : w.heap.size + 1 + 1 + 1 ≤ w1.heap.size := by have := lC; omega
  have E0A : Hid ((w1.alloc (.cells #[] 3)).ownsRow w1.heap.size 3 1 (.slice (some ⟨w1.heap.size, 0, none⟩) 0 0) 0 (([] : List Int).map (Value.int .i64))) := own_empty _ _ (Nat.le_refl _) rfl
  obtain ⟨kM0, kM1, kM2, kM3, kM4⟩ := bk5 (XM.out w1 bR)
  obtain ⟨kC0, kC1, kC2, kC3, kC4⟩ := bk5 (XC.out w1 bR)
  obtain ⟨qkC0, qkC1, qkC2, qkC3, qkC4⟩ := bq5 (XC.out w1 bR)
  go_upto_region 3 with (
    at_builtin
    refine list_app rfl _ _ rfl w1.heap.size (.slice (some ⟨w1.heap.size, 0, none⟩) 0 0) 0 [] rfl E0A.out _ _ _ rfl xs (H0.out.later ((B.out w1 (Below.refl _ _)).trans ((Below.refl _ _).alloc (by have := (B.out w1 (Below.refl _ _)).size; omega) _))) (by omega) (by omega) (by simp) ?_
    intro g gc w2 hown hgrow hloc
    rw [Nat.zero_add, List.nil_append] at hown
    have OWA : Hid (w2.ownsRow w1.heap.size 3 1 (.slice g n gc) n (xs.map (Value.int .i64))) := hown
    have hb : Below w1.heap.size (w1.alloc (.cells #[] 3)) w2 := (Below.refl _ _).grown hgrow (by simp) (fun j e => own_ge E0A.out j e.symm)
    have BP : Hid (Below (w1.heap.size) w1 (w1.alloc (.cells #[] 3))) := (bR.alloc (by first | exact hz | (simp; done) | (simp; omega) | (have := hz; simp at this ⊢; omega)) _)
    have hq : Below (w1.heap.size) w1 w2 := (BP.out.mono (by omega)).trans (Below.mono hb (by omega))
    have hzn : w1.heap.size ≤ w2.heap.size := Nat.le_trans hz hq.size
    replace B : Hid (∀ y, Below w2.heap.size w2 y → Below w.heap.size w y) := fun y hy => ((B.out w1 bR).trans (hq.mono (by omega))).trans (hy.mono (Nat.le_trans (B.out w1 bR).size hq.size))
    replace XM : Hid (∀ y, Below w2.heap.size w2 y → y.heap[w.heap.size]? = some (.cells #[.slice a0 n c0, .int .i64 x1, .int .i64 x2, .int .i64 x3, .slice a4 m c4] 29 (0, 0))) := fun y hy => (hy.block _ (by omega)).trans ((hq.block _ (by omega)).trans (XM.out w1 bR))
    replace lM : w.heap.size < w2.heap.size := by omega
    replace XR : Hid (∀ y, Below w2.heap.size w2 y → y.heap[w.heap.size + 1]? = some (.cells #[.slice none 0 0, .int .i64 0, .int .i64 0, .int .i64 0, .slice none 0 0] 29 (0, 0))) := fun y hy => (hy.block _ (by omega)).trans ((hq.block _ (by omega)).trans (XR.out w1 bR))
    replace lR : w.heap.size + 1 < w2.heap.size := by omega
    replace XC : Hid (∀ y, Below w2.heap.size w2 y → y.heap[w.heap.size + 1 + 1]? = some (.cells #[.slice a0 n c0, .int .i64 x1, .int .i64 x2, .int .i64 x3, .slice a4 m c4] 29 (0, 0))) := fun y hy => (hy.block _ (by omega)).trans ((hq.block _ (by omega)).trans (XC.out w1 bR))
    replace lC : w.heap.size + 1 + 1 < w2.heap.size := by omega
    clear hq BP hz
    have hz : w2.heap.size ≤ w2.heap.size := Nat.le_refl _
    have WA : Hid (∀ y, Below (w2.heap.size) w2 y → Wri y g n (fun j => xs.getD j 0)) := fun y hy => (own_wri OWA.out).1.later hy
    have LA : Hid (∀ x, g = some x → 0 < n → w1.heap.size ≤ x.block ∧ x.block < w2.heap.size) := fun x e h9 => ⟨(own_wri OWA.out).2 x e h9, (own_wri OWA.out).1.lt x e h9⟩
    clear hown hgrow hloc hb OWA kM0 kM1 kM2 kM3 kM4 kC0 kC1 kC2 kC3 kC4 qkC0 qkC1 qkC2 qkC3 qkC4
    try rw [Nat.zero_add]
    obtain ⟨kC0, kC1, kC2, kC3, kC4⟩ := bk5 (XC.out w2 bR)
    obtain ⟨qkC0, qkC1, qkC2, qkC3, qkC4⟩ := bq5 (XC.out w2 bR))
  clear kC0 kC1 kC2 kC3 kC4 qkC0 qkC1 qkC2 qkC3 qkC4
  have hw0 : w.heap.size ≤ w.heap.size + 1 + 1 := (by first | omega | (simp; done) | (simp; omega) | (simp at *; omega))
  replace XM := lS XM lM ((w2.setCell ⟨w.heap.size + 1 + 1, 0, none⟩ (.slice g n gc))) ((Below.heap_setCell _ _ _ _ (by first | omega | (simp; done) | (simp; omega))))
  replace XR := lS XR lR ((w2.setCell ⟨w.heap.size + 1 + 1, 0, none⟩ (.slice g n gc))) ((Below.heap_setCell _ _ _ _ (by first | omega | (simp; done) | (simp; omega))))
  replace XC : Hid (∀ y, Below (w2.heap.size) (w2.setCell ⟨w.heap.size + 1 + 1, 0, none⟩ (.slice g n gc)) y → y.heap[w.heap.size + 1 + 1]? = some (.cells #[.slice g n gc, .int .i64 x1, .int .i64 x2, .int .i64 x3, .slice a4 m c4] 29 (0, 0))) := fun y hy => (hy.block _ (by omega)).trans (boxS (XC.out w2 bR) 0 _)
  replace WA : Hid (∀ y, Below (w2.heap.size) (w2.setCell ⟨w.heap.size + 1 + 1, 0, none⟩ (.slice g n gc)) y → Wri y g n (fun j => xs.getD j 0)) := fun y hy => ((WA.out w2 (Below.refl _ _)).keep (D := fun i => i = w.heap.size + 1 + 1) (Chg.set _ _ _ rfl) (fun x e h9 hd => by have := (LA.out x e h9).1; have h8 : x.block = w.heap.size + 1 + 1 := hd; omega)).later (hy.mono (by simp))
  replace B : Hid (∀ y, Below (w2.heap.size) (w2.setCell ⟨w.heap.size + 1 + 1, 0, none⟩ (.slice g n gc)) y → Below w.heap.size w y) := fun y hy => ((B.out w2 bR).setCell hw0 _).trans (hy.mono (by first | omega | exact Nat.le_trans (B.out w2 bR).size hz | (have := (B.out w2 bR).size; omega)))
  replace hz : w2.heap.size ≤ (w2.setCell ⟨w.heap.size + 1 + 1, 0, none⟩ (.slice g n gc)).heap.size := by first | (simp; done) | simpa using hz
  clear hw0
  generalize (w2.setCell ⟨w.heap.size + 1 + 1, 0, none⟩ (.slice g n gc)) = w3 at B WA XM XR XC hz ⊢
  have hzn : w2.heap.size ≤ w3.heap.size := Nat.le_trans hz (Below.size (Below.refl (w2.heap.size) w3))
  replace B := lF B (Below.refl (w2.heap.size) w3) hzn
  replace WA := lF WA (Below.refl (w2.heap.size) w3) hzn
  replace XM := lF XM (Below.refl (w2.heap.size) w3) hzn
  replace lM := Nat.lt_of_lt_of_le lM hzn
  replace XR := lF XR (Below.refl (w2.heap.size) w3) hzn
  replace lR := Nat.lt_of_lt_of_le lR hzn
  replace XC := lF XC (Below.refl (w2.heap.size) w3) hzn
  replace lC := Nat.lt_of_lt_of_le lC hzn
  clear hz
  have hz : w3.heap.size ≤ w3.heap.size := Nat.le_refl _
  have hz23 : w2.heap.size ≤ w3.heap.size := hzn
  have E0C : Hid ((w3.alloc (.cells #[] 4)).ownsRow w3.heap.size 4 1 (.slice (some ⟨w3.heap.size, 0, none⟩) 0 0) 0 (([] : List Bool).map Value.bool)) := own_emptyB _ _ (Nat.le_refl _) rfl
  obtain ⟨kM0, kM1, kM2, kM3, kM4⟩ := bk5 (XM.out w3 bR)
  obtain ⟨kC0, kC1, kC2, kC3, kC4⟩ := bk5 (XC.out w3 bR)
  obtain ⟨qkC0, qkC1, qkC2, qkC3, qkC4⟩ := bq5 (XC.out w3 bR)
  go_upto_region 4 with (
    at_builtin
    refine list_appB rfl _ _ rfl w3.heap.size (.slice (some ⟨w3.heap.size, 0, none⟩) 0 0) 0 [] rfl E0C.out _ _ _ rfl cd (H4.out.later ((B.out w3 (Below.refl _ _)).trans ((Below.refl _ _).alloc (by have := (B.out w3 (Below.refl _ _)).size; omega) _))) (by omega) (by omega) (by simp) ?_
    intro k kc w4 hown hgrow hloc
    rw [Nat.zero_add, List.nil_append] at hown
    have OWC : Hid (w4.ownsRow w3.heap.size 4 1 (.slice k m kc) m (cd.map Value.bool)) := hown
    have hb : Below w3.heap.size (w3.alloc (.cells #[] 4)) w4 := (Below.refl _ _).grown hgrow (by simp) (fun j e => own_ge E0C.out j e.symm)
    have BP : Hid (Below (w3.heap.size) w3 (w3.alloc (.cells #[] 4))) := (bR.alloc (by first | exact hz | (simp; done) | (simp; omega) | (have := hz; simp at this ⊢; omega)) _)
    have hq : Below (w3.heap.size) w3 w4 := (BP.out.mono (by omega)).trans (Below.mono hb (by omega))
    have hzn : w3.heap.size ≤ w4.heap.size := Nat.le_trans hz hq.size
    replace B : Hid (∀ y, Below w4.heap.size w4 y → Below w.heap.size w y) := fun y hy => ((B.out w3 bR).trans (hq.mono (by omega))).trans (hy.mono (Nat.le_trans (B.out w3 bR).size hq.size))
    replace WA : Hid (∀ y, Below w4.heap.size w4 y → Wri y g n (fun j => xs.getD j 0)) := fun y hy => (WA.out w3 (Below.refl _ _)).later ((hq.mono (by omega)).trans (hy.mono hzn)) 
    replace XM : Hid (∀ y, Below w4.heap.size w4 y → y.heap[w.heap.size]? = some (.cells #[.slice a0 n c0, .int .i64 x1, .int .i64 x2, .int .i64 x3, .slice a4 m c4] 29 (0, 0))) := fun y hy => (hy.block _ (by omega)).trans ((hq.block _ (by omega)).trans (XM.out w3 bR))
    replace lM : w.heap.size < w4.heap.size := by omega
    replace XR : Hid (∀ y, Below w4.heap.size w4 y → y.heap[w.heap.size + 1]? = some (.cells #[.slice none 0 0, .int .i64 0, .int .i64 0, .int .i64 0, .slice none 0 0] 29 (0, 0))) := fun y hy => (hy.block _ (by omega)).trans ((hq.block _ (by omega)).trans (XR.out w3 bR))
    replace lR : w.heap.size + 1 < w4.heap.size := by omega
    replace XC : Hid (∀ y, Below w4.heap.size w4 y → y.heap[w.heap.size + 1 + 1]? = some (.cells #[.slice g n gc, .int .i64 x1, .int .i64 x2, .int .i64 x3, .slice a4 m c4] 29 (0, 0))) := fun y hy => (hy.block _ (by omega)).trans ((hq.block _ (by omega)).trans (XC.out w3 bR))
    replace lC : w.heap.size + 1 + 1 < w4.heap.size := by omega
    clear hq BP hz
    have hz : w4.heap.size ≤ w4.heap.size := Nat.le_refl _
    have WC : Hid (∀ y, Below (w4.heap.size) w4 y → WriB y k m (fun j => cd.getD j false)) := fun y hy => (own_wriB OWC.out).1.later hy
    have LC : Hid (∀ x, k = some x → 0 < m → w3.heap.size ≤ x.block ∧ x.block < w4.heap.size) := fun x e h9 => ⟨(own_wriB OWC.out).2 x e h9, (own_wriB OWC.out).1.lt x e h9⟩
    clear hown hgrow hloc hb OWC kM0 kM1 kM2 kM3 kM4 kC0 kC1 kC2 kC3 kC4 qkC0 qkC1 qkC2 qkC3 qkC4
    try rw [Nat.zero_add]
    obtain ⟨kC0, kC1, kC2, kC3, kC4⟩ := bk5 (XC.out w4 bR)
    obtain ⟨qkC0, qkC1, qkC2, qkC3, qkC4⟩ := bq5 (XC.out w4 bR))
  clear kC0 kC1 kC2 kC3 kC4 qkC0 qkC1 qkC2 qkC3 qkC4
  have hw0 : w.heap.size ≤ w.heap.size + 1 + 1 := (by first | omega | (simp; done) | (simp; omega) | (simp at *; omega))
  replace XM := lS XM lM ((w4.setCell ⟨w.heap.size + 1 + 1, 4, none⟩ (.slice k m kc))) ((Below.heap_setCell _ _ _ _ (by first | omega | (simp; done) | (simp; omega))))
  replace XR := lS XR lR ((w4.setCell ⟨w.heap.size + 1 + 1, 4, none⟩ (.slice k m kc))) ((Below.heap_setCell _ _ _ _ (by first | omega | (simp; done) | (simp; omega))))
  replace XC : Hid (∀ y, Below (w4.heap.size) (w4.setCell ⟨w.heap.size + 1 + 1, 4, none⟩ (.slice k m kc)) y → y.heap[w.heap.size + 1 + 1]? = some (.cells #[.slice g n gc, .int .i64 x1, .int .i64 x2, .int .i64 x3, .slice k m kc] 29 (0, 0))) := fun y hy => (hy.block _ (by omega)).trans (boxS (XC.out w4 bR) 4 _)
  replace WA : Hid (∀ y, Below (w4.heap.size) (w4.setCell ⟨w.heap.size + 1 + 1, 4, none⟩ (.slice k m kc)) y → Wri y g n (fun j => xs.getD j 0)) := fun y hy => ((WA.out w4 (Below.refl _ _)).keep (D := fun i => i = w.heap.size + 1 + 1) (Chg.set _ _ _ rfl) (fun x e h9 hd => by have := (LA.out x e h9).1; have h8 : x.block = w.heap.size + 1 + 1 := hd; omega)).later (hy.mono (by simp))
  replace WC : Hid (∀ y, Below (w4.heap.size) (w4.setCell ⟨w.heap.size + 1 + 1, 4, none⟩ (.slice k m kc)) y → WriB y k m (fun j => cd.getD j false)) := fun y hy => ((WC.out w4 (Below.refl _ _)).keep (D := fun i => i = w.heap.size + 1 + 1) (Chg.set _ _ _ rfl) (fun x e h9 hd => by have := (LC.out x e h9).1; have h8 : x.block = w.heap.size + 1 + 1 := hd; omega)).later (hy.mono (by simp))
  replace B : Hid (∀ y, Below (w4.heap.size) (w4.setCell ⟨w.heap.size + 1 + 1, 4, none⟩ (.slice k m kc)) y → Below w.heap.size w y) := fun y hy => ((B.out w4 bR).setCell hw0 _).trans (hy.mono (by first | omega | exact Nat.le_trans (B.out w4 bR).size hz | (have := (B.out w4 bR).size; omega)))
  replace hz : w4.heap.size ≤ (w4.setCell ⟨w.heap.size + 1 + 1, 4, none⟩ (.slice k m kc)).heap.size := by first | (simp; done) | simpa using hz
  clear hw0
  generalize (w4.setCell ⟨w.heap.size + 1 + 1, 4, none⟩ (.slice k m kc)) = w5 at B WA WC XM XR XC hz ⊢
  have hzn : w4.heap.size ≤ w5.heap.size := Nat.le_trans hz (Below.size (Below.refl (w4.heap.size) w5))
  replace B := lF B (Below.refl (w4.heap.size) w5) hzn
  replace WA := lF WA (Below.refl (w4.heap.size) w5) hzn
  replace WC := lF WC (Below.refl (w4.heap.size) w5) hzn
  replace XM := lF XM (Below.refl (w4.heap.size) w5) hzn
  replace lM := Nat.lt_of_lt_of_le lM hzn
  replace XR := lF XR (Below.refl (w4.heap.size) w5) hzn
  replace lR := Nat.lt_of_lt_of_le lR hzn
  replace XC := lF XC (Below.refl (w4.heap.size) w5) hzn
  replace lC := Nat.lt_of_lt_of_le lC hzn
  clear hz
  have hz : w5.heap.size ≤ w5.heap.size := Nat.le_refl _
  obtain ⟨kM0, kM1, kM2, kM3, kM4⟩ := bk5 (XM.out w5 bR)
  obtain ⟨kR0, kR1, kR2, kR3, kR4⟩ := bk5 (XR.out w5 bR)
  obtain ⟨qkR0, qkR1, qkR2, qkR3, qkR4⟩ := bq5 (XR.out w5 bR)
  obtain ⟨kC0, kC1, kC2, kC3, kC4⟩ := bk5 (XC.out w5 bR)
  go_wp2_with fail
  refine bodyPost_ret (v := .agg #[.slice g n gc, .int .i64 x1, .int .i64 x2, .int .i64 x3, .slice k m kc]) ?_ rfl ?_
  · simp [results, Tryz.results30, go_sem, *]
  · exact ⟨g, gc, k, kc, rfl, (((((WA.out w5 (Below.refl _ _)).keep (D := fun i => i = w.heap.size + 1) (Chg.set _ _ _ rfl) (fun x e h9 hd => by have := (LA.out x e h9).1; have h8 : x.block = w.heap.size + 1 := hd; omega)).keep (D := fun i => i = w.heap.size + 1) (Chg.set _ _ _ rfl) (fun x e h9 hd => by have := (LA.out x e h9).1; have h8 : x.block = w.heap.size + 1 := hd; omega)).keep (D := fun i => i = w.heap.size + 1) (Chg.set _ _ _ rfl) (fun x e h9 hd => by have := (LA.out x e h9).1; have h8 : x.block = w.heap.size + 1 := hd; omega)).keep (D := fun i => i = w.heap.size + 1) (Chg.set _ _ _ rfl) (fun x e h9 hd => by have := (LA.out x e h9).1; have h8 : x.block = w.heap.size + 1 := hd; omega)).keep (D := fun i => i = w.heap.size + 1) (Chg.set _ _ _ rfl) (fun x e h9 hd => by have := (LA.out x e h9).1; have h8 : x.block = w.heap.size + 1 := hd; omega), (((((WC.out w5 (Below.refl _ _)).keep (D := fun i => i = w.heap.size + 1) (Chg.set _ _ _ rfl) (fun x e h9 hd => by have := (LC.out x e h9).1; have h8 : x.block = w.heap.size + 1 := hd; omega)).keep (D := fun i => i = w.heap.size + 1) (Chg.set _ _ _ rfl) (fun x e h9 hd => by have := (LC.out x e h9).1; have h8 : x.block = w.heap.size + 1 := hd; omega)).keep (D := fun i => i = w.heap.size + 1) (Chg.set _ _ _ rfl) (fun x e h9 hd => by have := (LC.out x e h9).1; have h8 : x.block = w.heap.size + 1 := hd; omega)).keep (D := fun i => i = w.heap.size + 1) (Chg.set _ _ _ rfl) (fun x e h9 hd => by have := (LC.out x e h9).1; have h8 : x.block = w.heap.size + 1 := hd; omega)).keep (D := fun i => i = w.heap.size + 1) (Chg.set _ _ _ rfl) (fun x e h9 hd => by have := (LC.out x e h9).1; have h8 : x.block = w.heap.size + 1 := hd; omega), (fun x e h9 => by have := (LA.out x e h9).1; omega), (fun x e h9 => by have := (LC.out x e h9).1; omega), (fun x y e e2 h9 h8 => by have := (LA.out x e h9).2; have := (LC.out y e2 h8).1; omega), by (repeat (refine Below.setCell ?_ (by first | omega | (simp; done) | (simp; omega)) _)); exact B.out w5 (Below.refl _ _)⟩

end Go.Proofs.YtjbmcdekhhbiaaaGreat
