/-
  The specification's ShapeOk gives what is said of a shape, in whatever memory; it writes nothing that was there.
-/
import Derived.Test.YtkggmcbjpmhmcaaDoorTypSpec
import Derived.Test.YtkggmcbjpmhmcaaDoorRep
namespace Go.Proofs.YtkggmcbjpmhmcaaDoor
open Go.ChangeShapes Go.WideShapes Go.ChangeAt Go.RowKit

/-- Whether a shape is ok for so many locals. -/
def locB (L : List Cl) (xs : List Int) : Bool := xs.all (tyB L)
def stB (L : List Cl) (xs : List Int) : Bool := xs.all (fun t => tyB L t && !(t == 0))
def shB (L : List Cl) (n : Int) (s : Sh) : Bool :=
  clsOk L && (if s.1 then (((s.2.1.length : Int) == n) && decide (s.2.2.length ≤ 4)) && (locB L s.2.1 && stB L s.2.2) else (s.2.1.length == 0 && s.2.2.length == 0))

/-- A struct that was laid into a new block stays there. -/
theorem box_cell {w wr : World} {cs : Array Value} {t : TypeId} (h : Below (w.heap.size + 1) (w.alloc (.cells cs t)) wr) (j : Nat) (v : Value) (hv : cs[j]? = some v) : wr.cell? ⟨w.heap.size, j, none⟩ = some v := by
  rw [h.cell (p := ⟨w.heap.size, j, none⟩) (by simp), World.cell?_alloc_at _ _ _ _ rfl]
  exact hv
theorem box_below {w wr : World} {o : Obj} (h : Below (w.heap.size + 1) (w.alloc o) wr) : Below w.heap.size w wr :=
  ((Below.refl w.heap.size w).alloc (Nat.le_refl _) o).trans (h.mono (by omega))

set_option maxHeartbeats 1000000 in
theorem shapeOkSpec (a : Option Addr) (len cap : Nat) (n : Int) (la : Option Addr) (ll lc : Nat) (sa : Option Addr) (sl sc : Nat) (L : List Cl) (s : Sh) (w : World) {D E F G : Nat → Prop} (h : ClsAt D E w a len L) (h1 : IntsAt F w la ll s.2.1) (h2 : IntsAt G w sa sl s.2.2) :
    Calls Tryd.prog 47 #[.slice a len cap, .int .i64 n, .agg #[.bool s.1, .slice la ll lc, .slice sa sl sc]] w fun e w' => e = .returned (.bool (shB L n s)) ∧ Below w.heap.size w w' := by
  obtain ⟨any, xs, ys⟩ := s
  have H : Hid (ClsAt D E w a len L) := h
  have H1 : Hid (IntsAt F w la ll xs) := h1
  have H2 : Hid (IntsAt G w sa sl ys) := h2
  have s1 : Hid (xs.length = ll) := h1.size
  have s2 : Hid (ys.length = sl) := h2.size
  have r1 := h1.room
  have r2 := h2.room
  have KC : Hid (∀ wr, Below (w.heap.size + 1) (w.alloc (.cells #[.bool any, .slice la ll lc, .slice sa sl sc] 26)) wr → wr.cell? ⟨w.heap.size, 0, none⟩ = some (.bool any) ∧ wr.cell? ⟨w.heap.size, 1, none⟩ = some (.slice la ll lc) ∧ wr.cell? ⟨w.heap.size, 2, none⟩ = some (.slice sa sl sc)) :=
    fun wr hb => ⟨box_cell hb 0 _ rfl, box_cell hb 1 _ rfl, box_cell hb 2 _ rfl⟩
  have B0 : Hid (Below w.heap.size w (w.alloc (.cells #[.bool any, .slice la ll lc, .slice sa sl sc] 26))) := (Below.refl _ _).alloc (Nat.le_refl _) _
  clear h h1 h2
  cases hC : clsOk L
  · have HF : Hid (shB L n (any, xs, ys) = false) := by show _ = _; rw [shB, hC]; rfl
    go_enter Tryd.func47, Tryd.ntmps47
    go_wp2_with fail
    refine (okSpec _ _ _ L _ (H.out.later B0.out)).mono ?_
    rintro e w1 ⟨rfl, hb1⟩
    rw [hC]
    have b1 := box_below (by simpa using hb1)
    go_wp2_with fail
    go_ret
    exact ⟨by rw [HF.out]; rfl, b1⟩
  cases any
  · have HF : Hid (shB L n (false, xs, ys) = (((ll : Int) == 0) && ((sl : Int) == 0))) := by
      show _ = _
      rw [shB, hC]
      simp only [Bool.true_and, Bool.false_eq_true, if_false]
      rw [s1.out, s2.out, ← beqCast ll 0, ← beqCast sl 0]; rfl
    cases e1 : ((ll : Int) == 0)
    · go_enter Tryd.func47, Tryd.ntmps47
      go_wp2_with fail
      refine (okSpec _ _ _ L _ (H.out.later B0.out)).mono ?_
      rintro e w1 ⟨rfl, hb1⟩
      rw [hC]
      have hb1' : Below (w.heap.size + 1) (w.alloc (.cells #[.bool false, .slice la ll lc, .slice sa sl sc] 26)) w1 := by simpa using hb1
      obtain ⟨c0, c1, c2⟩ := KC.out w1 hb1'
      have b1 : Hid _ := box_below hb1'
      clear hb1 hb1'
      go_wp2_with fail
      go_ret
      exact ⟨by rw [HF.out, e1]; rfl, b1.out⟩
    · go_enter Tryd.func47, Tryd.ntmps47
      go_wp2_with fail
      refine (okSpec _ _ _ L _ (H.out.later B0.out)).mono ?_
      rintro e w1 ⟨rfl, hb1⟩
      rw [hC]
      have hb1' : Below (w.heap.size + 1) (w.alloc (.cells #[.bool false, .slice la ll lc, .slice sa sl sc] 26)) w1 := by simpa using hb1
      obtain ⟨c0, c1, c2⟩ := KC.out w1 hb1'
      have b1 : Hid _ := box_below hb1'
      clear hb1 hb1'
      go_wp2_with fail
      go_ret
      exact ⟨by rw [HF.out, e1]; rfl, b1.out⟩
  have HF : Hid (shB L n (true, xs, ys) = ((((ll : Int) == n) && decide (sl ≤ 4)) && (locB L xs && stB L ys))) := by
    show _ = _
    rw [shB, hC]
    simp only [Bool.true_and, if_true]
    rw [s1.out, s2.out]
  by_cases e1 : (ll : Int) = n
  case neg =>
    have e1' : ((ll : Int) != n) = true := by simp [e1]
    have HG : Hid (shB L n (true, xs, ys) = false) := by show _ = _; rw [HF.out, show ((ll : Int) == n) = false by simp [e1]]; rfl
    go_enter Tryd.func47, Tryd.ntmps47
    go_wp2_with fail
    refine (okSpec _ _ _ L _ (H.out.later B0.out)).mono ?_
    rintro e w1 ⟨rfl, hb1⟩
    rw [hC]
    have hb1' : Below (w.heap.size + 1) (w.alloc (.cells #[.bool true, .slice la ll lc, .slice sa sl sc] 26)) w1 := by simpa using hb1
    obtain ⟨c0, c1, c2⟩ := KC.out w1 hb1'
    have b1 : Hid _ := box_below hb1'
    clear hb1 hb1'
    go_wp2_with fail
    go_ret
    exact ⟨by rw [HG.out]; rfl, b1.out⟩
  subst e1
  have e1' : ((ll : Int) != ll) = false := by simp
  by_cases e2 : 4 < sl
  · have HG : Hid (shB L ll (true, xs, ys) = false) := by show _ = _; rw [HF.out, decide_eq_false (show ¬ sl ≤ 4 by omega)]; simp
    go_enter Tryd.func47, Tryd.ntmps47
    go_wp2_with fail
    refine (okSpec _ _ _ L _ (H.out.later B0.out)).mono ?_
    rintro e w1 ⟨rfl, hb1⟩
    rw [hC]
    have hb1' : Below (w.heap.size + 1) (w.alloc (.cells #[.bool true, .slice la ll lc, .slice sa sl sc] 26)) w1 := by simpa using hb1
    obtain ⟨c0, c1, c2⟩ := KC.out w1 hb1'
    have b1 : Hid _ := box_below hb1'
    clear hb1 hb1'
    go_wp2_with fail
    go_ret
    exact ⟨by rw [HG.out]; rfl, b1.out⟩
  have HG : Hid (shB L ll (true, xs, ys) = (locB L xs && stB L ys)) := by show _ = _; rw [HF.out, decide_eq_true (show sl ≤ 4 by omega)]; simp
  clear HF
  go_enter Tryd.func47, Tryd.ntmps47
  go_wp2_with fail
  refine (okSpec _ _ _ L _ (H.out.later B0.out)).mono ?_
  rintro e w1 ⟨rfl, hb1⟩
  rw [hC]
  have hb1' : Below (w.heap.size + 1) (w.alloc (.cells #[.bool true, .slice la ll lc, .slice sa sl sc] 26)) w1 := by simpa using hb1
  obtain ⟨c0, c1, c2⟩ := KC.out w1 hb1'
  have B1 : Hid (Below (w.heap.size + 1) (w.alloc (.cells #[.bool true, .slice la ll lc, .slice sa sl sc] 26)) w1) := hb1'
  clear hb1 hb1'
  go_wp2_with fail
  go_loopw [7] (fun t wr => ∃ k : Nat, k ≤ ll ∧ t = .int .i64 k ∧ (xs.take k).all (tyB L) = true ∧ Below (w.heap.size + 1) (w.alloc (.cells #[.bool true, .slice la ll lc, .slice sa sl sc] 26)) wr) (fun t _ => ll - (intOf t).toNat)
  case atStart => exact ⟨0, Nat.zero_le _, rfl, rfl, B1.out⟩
  case round =>
    obtain ⟨k, hk, rfl, hu, hb⟩ := hrel
    have Hu : Hid ((xs.take k).all (tyB L) = true) := hu
    have HB : Hid (Below (w.heap.size + 1) (w.alloc (.cells #[.bool true, .slice la ll lc, .slice sa sl sc] 26)) wr) := hb
    clear hu hb c0 c1 c2
    obtain ⟨c0, c1, c2⟩ := KC.out wr HB.out
    by_cases hlt : k < ll
    · obtain ⟨b, off, rfl, hck⟩ : ∃ b off, la = some ⟨b, off, none⟩ ∧ wr.cell? ⟨b, off + k, none⟩ = some (.int .i64 (xs.getD k 0)) := by
        rcases (H1.out.later (box_below HB.out)).cells with h0 | ⟨b, off, ha, _, hc⟩
        · omega
        · exact ⟨b, off, ha, hc k hlt⟩
      have hbk : Hid ((xs.take (k + 1)).all (tyB L) = ((xs.take k).all (tyB L) && tyB L (xs.getD k 0))) := all_take xs (tyB L) k (by rw [s1.out]; exact hlt)
      have hbf : Hid (tyB L (xs.getD k 0) = false → xs.all (tyB L) = false) := all_false xs (tyB L) k (by rw [s1.out]; exact hlt)
      generalize xs.getD k 0 = f at hck hbk hbf
      cases hB : tyB L f
      · go_wp2_with fail
        refine (typeOkSpec _ _ _ _ L _ (H.out.later (box_below HB.out))).mono ?_
        rintro e w2 ⟨rfl, hb2⟩
        rw [hB]
        have b2 : Hid (Below w.heap.size w w2) := (box_below HB.out).trans (hb2.mono (box_below HB.out).size)
        clear hb2
        go_wp2_with fail
        go_ret
        exact ⟨by rw [HG.out, locB, hbf.out hB]; rfl, b2.out⟩
      · go_wp2_with fail
        refine (typeOkSpec _ _ _ _ L _ (H.out.later (box_below HB.out))).mono ?_
        rintro e w2 ⟨rfl, hb2⟩
        rw [hB]
        have b2 : Hid (Below (w.heap.size + 1) (w.alloc (.cells #[.bool true, .slice (some ⟨b, off, none⟩) ll lc, .slice sa sl sc] 26)) w2) := HB.out.trans (hb2.mono (by have := HB.out.size; simpa using this))
        clear hb2
        go_wp2_with fail
        exact ⟨⟨k + 1, by omega, by go_num, by rw [hbk.out, Hu.out, hB]; rfl, b2.out⟩, by simp [intOf]; omega⟩
    · have ek : k = ll := by omega
      subst ek
      have HA : Hid (locB L xs = true) := by
        show _ = _
        have := Hu.out; rw [← s1.out, List.take_length] at this; exact this
      have HG' : Hid (shB L k (true, xs, ys) = stB L ys) := by show _ = _; rw [HG.out, HA.out]; rfl
      clear Hu hlt hk HG HA
      go_wp2_with fail
      go_loopw [8] (fun t wr => ∃ j : Nat, j ≤ sl ∧ t = .int .i64 j ∧ (ys.take j).all (fun t => tyB L t && !(t == 0)) = true ∧ Below (w.heap.size + 1) (w.alloc (.cells #[.bool true, .slice la k lc, .slice sa sl sc] 26)) wr) (fun t _ => sl - (intOf t).toNat)
      case atStart => exact ⟨0, Nat.zero_le _, rfl, rfl, HB.out⟩
      case round =>
        clear c0 c1 c2 HB
        obtain ⟨j, hj, rfl, hu, hb⟩ := hrel
        have Hu : Hid ((ys.take j).all (fun t => tyB L t && !(t == 0)) = true) := hu
        have HB : Hid (Below (w.heap.size + 1) (w.alloc (.cells #[.bool true, .slice la k lc, .slice sa sl sc] 26)) wr) := hb
        clear hu hb
        obtain ⟨c0, c1, c2⟩ := KC.out wr HB.out
        by_cases hlt : j < sl
        · obtain ⟨b, off, rfl, hck⟩ : ∃ b off, sa = some ⟨b, off, none⟩ ∧ wr.cell? ⟨b, off + j, none⟩ = some (.int .i64 (ys.getD j 0)) ∧ b < w.heap.size := by
            rcases H2.out.cells with h0 | ⟨b, off, ha, _, hc⟩
            · omega
            · have hl := World.block_lt_of_cell? w _ (hc j hlt)
              exact ⟨b, off, ha, by rw [(box_below HB.out).cell hl]; exact hc j hlt, hl⟩
          have hbk : Hid ((ys.take (j + 1)).all (fun t => tyB L t && !(t == 0)) = ((ys.take j).all (fun t => tyB L t && !(t == 0)) && (tyB L (ys.getD j 0) && !(ys.getD j 0 == 0)))) := all_take ys (fun t => tyB L t && !(t == 0)) j (by rw [s2.out]; exact hlt)
          have hbf : Hid ((tyB L (ys.getD j 0) && !(ys.getD j 0 == 0)) = false → stB L ys = false) := all_false ys (fun t => tyB L t && !(t == 0)) j (by rw [s2.out]; exact hlt)
          obtain ⟨hck, hbl⟩ := hck
          have HCK : Hid (∀ w2, Below wr.heap.size wr w2 → w2.cell? ⟨b, off + j, none⟩ = some (.int .i64 (ys.getD j 0))) := fun w2 hb2 => by
            rw [hb2.cell (p := ⟨b, off + j, none⟩) (World.block_lt_of_cell? wr _ hck)]; exact hck
          generalize ys.getD j 0 = f at hck hbk hbf HCK
          cases hB : tyB L f
          · go_wp2_with fail
            refine (typeOkSpec _ _ _ _ L _ (H.out.later (box_below HB.out))).mono ?_
            rintro e w2 ⟨rfl, hb2⟩
            rw [hB]
            have b2 : Hid (Below w.heap.size w w2) := (box_below HB.out).trans (hb2.mono (box_below HB.out).size)
            clear hb2
            go_wp2_with fail
            go_ret
            exact ⟨by rw [HG'.out, hbf.out (by rw [hB]; rfl)]; rfl, b2.out⟩
          · cases h0 : (f == 0)
            · go_wp2_with fail
              refine (typeOkSpec _ _ _ _ L _ (H.out.later (box_below HB.out))).mono ?_
              rintro e w2 ⟨rfl, hb2⟩
              rw [hB]
              have b2 : Hid (Below (w.heap.size + 1) (w.alloc (.cells #[.bool true, .slice la k lc, .slice (some ⟨b, off, none⟩) sl sc] 26)) w2) := HB.out.trans (hb2.mono (by have := HB.out.size; simpa using this))
              have hck2 := HCK.out w2 hb2
              clear hb2 c0 c1 c2
              obtain ⟨c0, c1, c2⟩ := KC.out w2 b2.out
              go_wp2_with fail
              exact ⟨⟨j + 1, by omega, by go_num, by rw [hbk.out, Hu.out, hB, h0]; rfl, b2.out⟩, by simp [intOf]; omega⟩
            · go_wp2_with fail
              refine (typeOkSpec _ _ _ _ L _ (H.out.later (box_below HB.out))).mono ?_
              rintro e w2 ⟨rfl, hb2⟩
              rw [hB]
              have b2 : Hid (Below (w.heap.size + 1) (w.alloc (.cells #[.bool true, .slice la k lc, .slice (some ⟨b, off, none⟩) sl sc] 26)) w2) := HB.out.trans (hb2.mono (by have := HB.out.size; simpa using this))
              have hck2 := HCK.out w2 hb2
              clear hb2 c0 c1 c2
              obtain ⟨c0, c1, c2⟩ := KC.out w2 b2.out
              go_wp2_with fail
              go_ret
              exact ⟨by rw [HG'.out, hbf.out (by rw [hB, h0]; rfl)]; rfl, box_below b2.out⟩
        · have ej : j = sl := by omega
          subst ej
          have HA : Hid (stB L ys = true) := by
            show _ = _
            have := Hu.out; rw [← s2.out, List.take_length] at this; exact this
          go_wp2_with fail
          go_ret
          exact ⟨by rw [HG'.out, HA.out]; rfl, box_below HB.out⟩

end Go.Proofs.YtkggmcbjpmhmcaaDoor
