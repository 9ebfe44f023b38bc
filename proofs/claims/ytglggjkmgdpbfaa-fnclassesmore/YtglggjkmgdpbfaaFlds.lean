/-
  The specification's ClassFields gives all fields of a class, in new memory; the laws' own comparison of lists; what is drawn for them.
-/
import Derived.Test.YtglggjkmgdpbfaaAppE
import Derived.Test.YtglggjkmgdpbfaaTypSpec
import Derived.Test.YtglggjkmgdpbfaaDrTy
import Derived.Deep.QuietTactic
import Derived.BigQuiet
namespace Go.Proofs.Ytglggjkmgdpbfaa
open Go.ChangeShapes Go.WideShapes Go.ChangeAt Go.RowKit

def fldV (L : List Cl) (c : Int) : List Int := if isB L c then fld L c.toNat else []

theorem own_base {w : World} {base b2 : Nat} {e : TypeId} {size n : Nat} {v : Value} {xs : List Value} (h : w.ownsRow base e size v n xs) (hb : b2 ≤ base) : w.ownsRow b2 e size v n xs := by
  refine ⟨h.1, ?_⟩
  rcases h.2 with h2 | ⟨g, cap, cur, rfl, h3, h4⟩
  · exact .inl h2
  · exact .inr ⟨g, cap, cur, rfl, Nat.le_trans hb h3, h4⟩
theorem NewInts.since {w w1 w2 : World} {v : Value} {xs : List Int} (b : Below w.heap.size w w1) (h : NewInts w1 v w2 xs) : NewInts w v w2 xs := ⟨own_base h.1 b.size, b.trans (h.2.mono b.size)⟩

theorem classFieldsSpec (a : Option Addr) (len cap : Nat) (c : Int) (L : List Cl) (w : World) {D E : Nat → Prop} (h : ClsAt D E w a len L) :
    Calls Try.prog 25 #[.slice a len cap, .int .i64 c] w fun e w' => ∃ v, e = .returned v ∧ NewInts w v w' (fldV L c) := by
  have HS : Hid (L.length = len) := h.size
  have H : Hid (ClsAt D E w a len L) := h
  clear h
  cases hc : isB L c
  · have HF : Hid (fldV L c = []) := by show _ = _; rw [fldV, hc]; rfl
    go_enter Try.func25, Try.ntmps25
    go_wp2_with fail
    refine (isSpec _ _ _ _ L _ H.out).mono ?_
    rintro e w1 ⟨rfl, hb1⟩
    rw [hc]
    go_wp2_with fail
    go_ret
    refine ⟨_, rfl, ?_⟩
    rw [HF.out]
    exact NewInts.since hb1 ⟨World.ownsRow_lit (base := w1.heap.size) (e := 3) (size := 1) w1 #[] 0 (Nat.le_refl _) (by unfold maxLen; omega) rfl, by go_grown⟩
  · have HF : Hid (fldV L c = fld L c.toNat) := by show _ = _; rw [fldV, hc]; rfl
    obtain ⟨k, rfl, hk, ok⟩ := isB_nat hc
    have OK : Hid (clsOk L = true) := ok
    clear ok
    go_enter Try.func25, Try.ntmps25
    go_wp2_with fail
    refine (isSpec _ _ _ _ L _ H.out).mono ?_
    rintro e w1 ⟨rfl, hb1⟩
    rw [hc]
    go_wp2_with fail
    refine (l2FieldsSpec _ _ _ L OK.out HS.out k _ (by rw [← HS.out]; exact hk) (H.out.later hb1)).mono ?_
    rintro e w2 ⟨v, rfl, hn⟩
    have HN : Hid (NewInts w1 v w2 (fld L k)) := hn
    have hone := own_one0 hn.1
    clear hn
    go_wp2_with fail
    go_ret
    exact ⟨_, rfl, by rw [HF.out, Int.toNat_natCast]; exact NewInts.since hb1 HN.out⟩

theorem ints_of_own {w : World} {base m : Nat} {v : Value} {xs : List Int} (h : w.ownsRow base 3 1 v m (xs.map (Value.int .i64))) (hm : m ≤ 1000) (hf : ∀ j, -9223372036854775808 ≤ xs.getD j 0 ∧ xs.getD j 0 ≤ 9223372036854775807) : ∃ a cap, v = .slice a m cap ∧ IntsAt (fun b => base ≤ b) w a m xs := by
  have hlen : xs.length = m := by have := h.1; simpa using this
  rcases h.2 with ⟨rfl, rfl⟩ | ⟨g, cap, cur, rfl, hb, _⟩
  · exact ⟨none, 0, rfl, hlen, by omega, .inl rfl, hf⟩
  · refine ⟨some ⟨g, 0, none⟩, cap, rfl, hlen, by omega, .inr ⟨g, 0, rfl, hb, fun j hj => ?_⟩, hf⟩
    rw [Nat.zero_add, h.cellAt j (by omega), List.getElem?_map, List.getD_eq_getElem?_getD, List.getElem?_eq_getElem (by omega)]
    rfl

theorem ints_at_own {w : World} {base m c : Nat} {a : Option Addr} {xs : List Int} (h : w.ownsRow base 3 1 (.slice a m c) m (xs.map (Value.int .i64))) (hm : m ≤ 1000) (hf : ∀ j, -9223372036854775808 ≤ xs.getD j 0 ∧ xs.getD j 0 ≤ 9223372036854775807) : IntsAt (fun b => base ≤ b) w a m xs := by
  obtain ⟨a', c', e, hI⟩ := ints_of_own h hm hf
  cases e
  exact hI

theorem getD_append (xs ys : List Int) (P : Int → Prop) (_h0 : P 0) (hx : ∀ j, P (xs.getD j 0)) (hy : ∀ j, P (ys.getD j 0)) : ∀ j, P ((xs ++ ys).getD j 0) := by
  intro j
  rw [List.getD_eq_getElem?_getD]
  by_cases h : j < xs.length
  · rw [List.getElem?_append_left h]; have := hx j; rwa [List.getD_eq_getElem?_getD] at this
  · rw [List.getElem?_append_right (by omega)]; have := hy (j - xs.length); rwa [List.getD_eq_getElem?_getD] at this
def FitsAll (xs : List Int) : Prop := ∀ j, -9223372036854775808 ≤ xs.getD j 0 ∧ xs.getD j 0 ≤ 9223372036854775807
theorem fld_fits {L : List Cl} (ok : clsOk L = true) (hf : ∀ c, c < L.length → FitsAll (cl L c).2) : ∀ c, c < L.length → FitsAll (fld L c) := by
  intro c
  induction c using Nat.strongRecOn with
  | ind c ih =>
    intro hl
    by_cases h0 : c = 0
    · subst h0; intro j; simp [fld_zero]
    · have hs := (sup_lt ok c (by omega) hl).1
      rw [fld_step ok c hl (by omega)]
      exact getD_append _ _ (fun x => -9223372036854775808 ≤ x ∧ x ≤ 9223372036854775807) (by omega) (ih _ hs (by omega)) (hf c hl)
theorem ClsAt.fieldFits {D E : Nat → Prop} {w : World} {a : Option Addr} {len : Nat} {L : List Cl} (h : ClsAt D E w a len L) : ∀ c, c < L.length → FitsAll (cl L c).2 := by
  intro c hc
  rw [h.size] at hc
  rcases h.cells with h0 | ⟨b, off, _, _, hcs⟩
  · omega
  · obtain ⟨_, _, _, _, _, hI⟩ := hcs c hc
    exact hI.fits
theorem ClsAt.fldV {D E : Nat → Prop} {w : World} {a : Option Addr} {len : Nat} {L : List Cl} (h : ClsAt D E w a len L) (c : Int) : FitsAll (fldV L c) ∧ (Proofs.Ytglggjkmgdpbfaa.fldV L c).length ≤ 10 := by
  unfold Proofs.Ytglggjkmgdpbfaa.fldV
  cases hc : isB L c
  · exact ⟨fun j => by simp, by simp⟩
  · obtain ⟨k, rfl, hk, ok⟩ := isB_nat hc
    have := fld_short ok k hk
    have := ok_len ok
    exact ⟨fld_fits ok h.fieldFits k hk, by simp; omega⟩

/-- 'append' of ints that lie anywhere to a list of the call's own, as one step of a region that draws. -/
theorem step_append_ints {w : World} {ops : Array Oper} {o : Oper} {a : Act} {K : Act → World → Prop} {Q : Exit → Act → World → Prop} {F : Prop} (hgd : o.guard = none) (s x : Operand)
    (ho : o.op = .call { callee := .builtin .append, args := #[s, x], argTypes := #[28, 28] }) (base : Nat) (v : Value) (n : Nat) (xs : List Int) (hs : a.eval s = v) (hown : w.ownsRow base 3 1 v n (xs.map (Value.int .i64)))
    (sa : Option Addr) (sl sc : Nat) (hx : a.eval x = .slice sa sl sc) (ys : List Int) {D : Nat → Prop} (hI : IntsAt D w sa sl ys) (hn : n ≤ 1000) (hsl : sl ≤ 1000) (hbase : base ≤ w.heap.size)
    (h : ∀ a' cap' w2, w2.ownsRow base 3 1 (.slice a' (n + sl) cap') (n + sl) ((xs ++ ys).map (Value.int .i64)) → w.grownBy w2 v.ownBlock → K (a.put o.dst (.slice a' (n + sl) cap')) w2) :
    if Region.wanted o (yielded ops a.tmps) = true then Oper.wp Try.prog o a w K Q else F := by
  obtain ⟨i0, hi0, hz0, hz1, hz2⟩ := info_parts info_int3
  rcases hI.cells with h0 | ⟨b, off, rfl, _, hc⟩
  · subst h0
    have hy : ys = [] := List.eq_nil_of_length_eq_zero hI.size
    subst hy
    refine step_append_empty hgd s x 28 ho base 3 i0 1 Try.underlying28 hi0 v n _ hs hown sa sc hx ?_
    have hg : w.grownBy w v.ownBlock := ⟨rfl, rfl, rfl, Nat.le_refl _, fun _ _ _ => rfl⟩
    rcases hown.2 with ⟨rfl, rfl⟩ | ⟨g, cap, cur, rfl, _⟩
    · exact h _ _ w (by rw [List.append_nil]; exact hown) hg
    · exact h _ _ w (by rw [List.append_nil]; exact hown) hg
  · by_cases h0 : sl = 0
    · subst h0
      have hy : ys = [] := List.eq_nil_of_length_eq_zero hI.size
      subst hy
      refine step_append_empty hgd s x 28 ho base 3 i0 1 Try.underlying28 hi0 v n _ hs hown _ sc hx ?_
      have hg : w.grownBy w v.ownBlock := ⟨rfl, rfl, rfl, Nat.le_refl _, fun _ _ _ => rfl⟩
      rcases hown.2 with ⟨rfl, rfl⟩ | ⟨g, cap, cur, rfl, _⟩
      · exact h _ _ w (by rw [List.append_nil]; exact hown) hg
      · exact h _ _ w (by rw [List.append_nil]; exact hown) hg
    · refine step_append_lies _ hgd s x 28 ho base 3 i0 _ 1 8 Try.underlying28 hi0 hz0 hz1 hz2 rfl (by omega) v n _ hs hown ⟨b, off, none⟩ sl sc (ys.map (Value.int .i64)) hx (by rw [List.length_map, hI.size, Nat.mul_one]) (fun j u hu => ?_) (ints_one _) (by omega) (by unfold maxLen; omega) (by omega) hbase _ rfl (fun g cap' w2 h2 h3 _ _ => h _ _ w2 (by rw [List.map_append]; exact h2) h3)
      have hj : j < sl := by
        have := (List.getElem?_eq_some_iff.1 hu).1
        rw [List.length_map, hI.size] at this
        exact this
      rw [Addr.add_lit, hc j hj, ← hu, List.getElem?_map, List.getD_eq_getElem?_getD, List.getElem?_eq_getElem (by rw [hI.size]; exact hj)]
      rfl

/-- What is drawn for the law on fields. -/
def DrawnFl (w : World) (e : Ending) (w' : World) : Prop :=
  ∃ a len cap L x, e = .returned (.tuple #[.slice a len cap, .int .i64 x]) ∧ 1 ≤ len ∧ len ≤ 10 ∧ ClsAt (fun b => w.heap.size < b) (fun b => w.heap.size < b) w' a len L ∧ (-1000 ≤ x ∧ x ≤ 1000) ∧ Below w.heap.size w w'

theorem drawFl (a0 : Option Addr) (len0 cap0 : Nat) (zs : List Int) (w : World) (h : IsRow .u8 w a0 len0 cap0 zs) :
    Calls Try.prog 22 #[.slice a0 len0 cap0] w fun e w' => DrawnFl w e w' := by
  go_enter Try.func22, Try.ntmps22
  go_wp2_with fail
  refine (openRd a0 len0 cap0 zs w h).mono ?_
  rintro e w0 ⟨rfl, r0, b0, s0⟩
  have S0 : Hid (w0.heap.size = w.heap.size + 1) := s0
  have B0 : Hid (Below w.heap.size w w0) := b0
  clear h s0 b0
  go_wp2_with fail
  refine (drawOff _ _ 0 w0 r0 (by omega)).mono ?_
  rintro e w1 ⟨a, len, cap, L, k1, rfl, l1, l10, hL, hR, hk, hC⟩
  have G1 : Hid (ClsAt (fun b => w0.heap.size ≤ b) (fun b => w0.heap.size ≤ b) w1 a len L) := hL
  have R1 : Hid (Rd w.heap.size w1 w.heap.size k1) := hR
  have B1 : Hid (Below w.heap.size w w1) := B0.out.trans (hC.below (by rw [S0.out]; omega) (fun i hi e => by omega))
  have hRG : w.heap.size < w0.heap.size := by rw [S0.out]; omega
  clear hL hR hC r0
  go_wp2_with fail
  refine (pick _ _ k1 (len + 1) w1 R1.out (by omega) (by omega)).mono ?_
  rintro e w2 ⟨u, rfl, u0, u1, h2⟩
  have G2 : Hid _ := Rd.cls G1.out h2 hRG
  have R2 : Hid _ := h2.rd
  have B2 : Hid (Below w.heap.size w w2) := B1.out.trans h2.below
  clear h2
  go_wp2_with fail
  refine (pick _ _ (k1 + 1) 24 w2 R2.out (by omega) (by omega)).mono ?_
  rintro e w3 ⟨v, rfl, v0, v1, h3⟩
  have G3 : Hid _ := Rd.cls G2.out h3 hRG
  have B3 : Hid (Below w.heap.size w w3) := B2.out.trans h3.below
  clear h3
  go_wp2_with fail
  go_ret2
  exact ⟨a, len, cap, L, _, rfl, l1, l10, G3.out.mono (fun b hb _ => by have := S0.out; omega) (fun b hb _ => by have := S0.out; omega), by omega, B3.out⟩

theorem leInts (a : Option Addr) (la ca : Nat) (xs : List Int) (b : Option Addr) (lb cb : Nat) (ys : List Int) (w : World) {D E : Nat → Prop} (hx : IntsAt D w a la xs) (hy : IntsAt E w b lb ys) :
    Calls Try.prog 24 #[.slice a la ca, .slice b lb cb] w fun e w' => e = .returned (.bool (decide (xs = ys))) ∧ ∃ n, w' = w.drewN n := by
  have hra := hx.room
  have hrb := hy.room
  have HX : Hid (IntsAt D w a la xs) := hx
  have HY : Hid (IntsAt E w b lb ys) := hy
  clear hx hy
  by_cases hl : la = lb
  · subst hl
    have e1 : ((la : Int) != la) = false := by simp
    go_enter Try.func24, Try.ntmps24
    go_wp2_with fail
    go_loopw [5] (fun t wr => ∃ k : Nat, k ≤ la ∧ t = .int .i64 k ∧ (∀ j, j < k → xs.getD j 0 = ys.getD j 0) ∧ ∃ n, wr = w.drewN n) (fun t _ => la - (intOf t).toNat)
    case atStart => exact ⟨0, Nat.zero_le _, rfl, by omega, 0, rfl⟩
    case round =>
      obtain ⟨k, hk, rfl, hu, n, rfl⟩ := hrel
      have HU : Hid (∀ j, j < k → xs.getD j 0 = ys.getD j 0) := hu
      clear hu
      by_cases hlt : k < la
      · obtain ⟨b1, o1, rfl, hc1⟩ : ∃ b off, a = some ⟨b, off, none⟩ ∧ w.cell? ⟨b, off + k, none⟩ = some (.int .i64 (xs.getD k 0)) := by
          rcases HX.out.cells with h0 | ⟨b, off, ha, _, hc⟩
          · omega
          · exact ⟨b, off, ha, hc k hlt⟩
        obtain ⟨b2, o2, rfl, hc2⟩ : ∃ c off, b = some ⟨c, off, none⟩ ∧ w.cell? ⟨c, off + k, none⟩ = some (.int .i64 (ys.getD k 0)) := by
          rcases HY.out.cells with h0 | ⟨c, off, ha, _, hc⟩
          · omega
          · exact ⟨c, off, ha, hc k hlt⟩
        have HK1 : Hid (xs.getD k 0 = xs.getD k 0 ∧ ∀ x, xs.getD k 0 = x → xs.getD k 0 = x) := ⟨rfl, fun _ h => h⟩
        obtain ⟨x, hxk⟩ : ∃ x, x = xs.getD k 0 := ⟨_, rfl⟩
        obtain ⟨y, hyk⟩ : ∃ y, y = ys.getD k 0 := ⟨_, rfl⟩
        rw [← hxk] at hc1
        rw [← hyk] at hc2
        have GX : Hid (x = xs.getD k 0) := hxk
        have GY : Hid (y = ys.getD k 0) := hyk
        clear hxk hyk HK1
        cases hne : (x != y)
        · go_wp2_with fail
          go_quiet (fail)
          go_wp2_with fail
          refine ⟨⟨k + 1, by omega, by go_num, ?_, ?_⟩, by simp [intOf]; omega⟩
          · intro j hj
            by_cases e : j = k
            · subst e
              rw [← GX.out, ← GY.out]; simpa using hne
            · exact HU.out j (by omega)
          · exact ⟨n + nq, rfl⟩
        · have HF : Hid (decide (xs = ys) = false) := by
            show _ = _
            rw [decide_eq_false_iff_not]
            intro e
            rw [bne_iff_ne, GX.out, GY.out, e] at hne
            exact hne rfl
          go_wp2_with fail
          go_quiet (fail)
          go_wp2_with fail
          go_ret
          exact ⟨by rw [HF.out]; rfl, n + nq, by simp⟩
      · have ek : k = la := by omega
        subst ek
        have HF : Hid (decide (xs = ys) = true) := by
          show _ = _
          rw [decide_eq_true_iff]
          exact getD_ext xs ys (by rw [HX.out.size, HY.out.size]) (by rw [HX.out.size]; exact HU.out)
        go_wp2_with fail
        go_ret
        exact ⟨by rw [HF.out]; rfl, _, rfl⟩
  · have e1 : ((la : Int) != lb) = true := by simp; omega
    have HF : Hid (decide (xs = ys) = false) := by
      show _ = _
      rw [decide_eq_false_iff_not]
      intro e
      exact hl (by rw [← HX.out.size, ← HY.out.size, e])
    go_enter Try.func24, Try.ntmps24
    go_wp2_with fail
    go_ret
    exact ⟨by rw [HF.out]; rfl, 0, rfl⟩

end Go.Proofs.Ytglggjkmgdpbfaa
