/-
  The program's ClassJoin gives what is said of the list of classes, in whatever memory; it writes nothing that was there.
-/
import Derived.Test.YtglggjkmgdpbfaaImplI
import Derived.Test.YtglggjkmgdpbfaaInts2
import Derived.Test.YtglggjkmgdpbfaaClsMath
namespace Go.Proofs.Ytglggjkmgdpbfaa
open Go.ChangeShapes Go.WideShapes Go.ChangeAt Go.RowKit

theorem allClassesImpl (a : Option Addr) (len cap : Nat) (w : World) (hlen : len ≤ 5) :
    Calls Try.prog 56 #[.slice a len cap] w fun e w' => e = .returned (.slice (some ⟨w.heap.size, 0, none⟩) len len) ∧ RowAt w' w.heap.size len (fun j => .int .i64 j) ∧ Below w.heap.size w w' := by
  have hmk := fun wx => run_make_row' (P := Try.prog) 28 3 (.int .i64 0) 8 Try.underlying28 info_int rfl .i64 .i64 len (by omega) (by omega) wx
  go_enter Try.func56, Try.ntmps56
  go_wp2_with fail
  go_loopw [10] (fun t wr => ∃ k : Nat, k ≤ len ∧ t = .int .i64 k ∧ RowAt wr w.heap.size len (fun j => if j < k then .int .i64 j else .int .i64 0) ∧ Below w.heap.size w wr) (fun t _ => len - (intOf t).toNat)
  case atStart =>
    refine ⟨0, Nat.zero_le _, rfl, (RowAt.made w #[.int .i64 0] len 3).congr fun j _ => by simp [Nat.mod_one], by go_grown⟩
  case round =>
    obtain ⟨k, hk, rfl, hrow, hb⟩ := hrel
    have HR : Hid (RowAt wr w.heap.size len (fun j => if j < k then .int .i64 j else .int .i64 0)) := hrow
    have HB : Hid (Below w.heap.size w wr) := hb
    clear hrow hb
    by_cases hlt : k < len
    · have hg := (HR.out k hlt).1
      simp only [Nat.lt_irrefl, if_false] at hg
      have hf := (HR.out k hlt).2
      have HF : Hid (RowAt (wr.setCell ⟨w.heap.size, k, none⟩ (.int .i64 k)) w.heap.size len (fun j => if j < k + 1 then .int .i64 j else .int .i64 0)) :=
        (HR.out.set k (.int .i64 k)).congr fun j _ => by
          by_cases e : j = k
          · subst e; simp
          · by_cases e2 : j < k
            · rw [if_neg e, if_pos e2, if_pos (by omega)]
            · rw [if_neg e, if_neg e2, if_neg (by omega)]
      go_wp2_with fail
      exact ⟨⟨k + 1, by omega, by go_num, HF.out, HB.out.setCell (Nat.le_refl _) _⟩, by simp [intOf]; omega⟩
    · have ek : k = len := by omega
      subst ek
      go_wp2_with fail
      go_ret
      exact ⟨rfl, HR.out.congr fun j hj => by rw [if_pos hj], HB.out⟩

set_option maxHeartbeats 2000000 in
theorem nearestImpl (a : Option Addr) (len cap G c2 x y : Nat) (L : List Cl) (w : World) {D E : Nat → Prop} (h : ClsAt D E w a len L) (ok : clsOk L = true) (hx : x < len) (hy : y < len) (hrow : RowAt w G len (fun j => .int .i64 j)) :
    Calls Try.prog 55 #[.slice (some ⟨G, 0, none⟩) len c2, .func (.func 50) #[.slice a len cap] #[], .int .i64 x, .int .i64 y] w fun e w' => e = .returned (.tuple #[.int .i64 (join L x y), .bool true]) ∧ w = w' := by
  have HS : Hid (L.length = len) := h.size
  have hl5 := (ok_len ok).2
  have hl2 := (ok_len ok).1
  rw [h.size] at hl5 hl2
  have OK : Hid (clsOk L = true) := ok
  have H : Hid (ClsAt D E w a len L) := h
  have JU : Hid _ := join_up ok y (by rw [h.size]; exact hy) x (by rw [h.size]; exact hx)
  have JL : Hid _ := join_le ok y (by rw [h.size]; exact hy) x (by rw [h.size]; exact hx)
  have HROW : Hid (∀ j, j < len → w.cell? ⟨G, j, none⟩ = some (.int .i64 j)) := fun j hj => (hrow j hj).1
  clear h ok hrow
  go_enter Try.func55, Try.ntmps55
  go_wp2_with fail
  go_loop [10, 11, 16] (fun s f t => ∃ k : Nat, k ≤ len ∧ t = .int .i64 k ∧ ((k = 0 ∧ s = .int .i64 0 ∧ f = .bool false) ∨ ∃ m : Nat, 1 ≤ k ∧ m < len ∧ s = .int .i64 m ∧ f = .bool true ∧ up L x m = true ∧ up L y m = true ∧ (join L x y < k → m = join L x y))) (fun _ _ t => len - (intOf t).toNat)
  case atStart => exact ⟨0, Nat.zero_le _, rfl, .inl ⟨rfl, rfl, rfl⟩⟩
  case round =>
    obtain ⟨k, hk, rfl, hst⟩ := hrel
    by_cases hlt : k < len
    · have hc := HROW.out k hlt
      rcases hst with ⟨rfl, rfl, rfl⟩ | ⟨m, hk1, hm, rfl, rfl, hxm, hym, hj⟩
      · have e1 : up L x 0 = true := up_root OK.out x (by rw [HS.out]; exact hx)
        have e2 : up L y 0 = true := up_root OK.out y (by rw [HS.out]; exact hy)
        go_wp2_with fail
        refine (upImpl _ _ _ x 0 L _ H.out OK.out hx).mono ?_
        rintro e w1 ⟨rfl, rfl⟩
        rw [e1]
        go_wp2_with fail
        refine (upImpl _ _ _ y 0 L _ H.out OK.out hy).mono ?_
        rintro e w1 ⟨rfl, rfl⟩
        rw [e2]
        go_wp2_with fail
        exact ⟨⟨1, by omega, rfl, .inr ⟨0, by omega, by omega, rfl, rfl, e1, e2, fun hj => by omega⟩⟩, by simp [intOf]; omega⟩
      · have HX : Hid (up L x m = true) := hxm
        have HY : Hid (up L y m = true) := hym
        have HJ : Hid (join L x y < k → m = join L x y) := hj
        clear hxm hym hj
        have stay : Hid ((up L x k && up L y k && up L k m) = false → (join L x y < k + 1 → m = join L x y)) := by
          intro hf hj
          by_cases e : join L x y < k
          · exact HJ.out e
          · have e' : join L x y = k := by omega
            have h1 := JU.out.1
            have h2 := JU.out.2.1
            have h3 := JU.out.2.2 m HX.out HY.out
            rw [e'] at h1 h2 h3
            rw [h1, h2, h3] at hf
            cases hf
        cases hA : up L x k
        · have HG : Hid _ := stay.out (by rw [hA]; rfl)
          go_wp2_with fail
          refine (upImpl _ _ _ x k L _ H.out OK.out hx).mono ?_
          rintro e w1 ⟨rfl, rfl⟩
          rw [hA]
          go_wp2_with fail
          exact ⟨⟨k + 1, by omega, by go_num, .inr ⟨m, by omega, hm, rfl, rfl, HX.out, HY.out, HG.out⟩⟩, by simp [intOf]; omega⟩
        · cases hB : up L y k
          · have HG : Hid _ := stay.out (by rw [hA, hB]; rfl)
            go_wp2_with fail
            refine (upImpl _ _ _ x k L _ H.out OK.out hx).mono ?_
            rintro e w1 ⟨rfl, rfl⟩
            rw [hA]
            go_wp2_with fail
            refine (upImpl _ _ _ y k L _ H.out OK.out hy).mono ?_
            rintro e w1 ⟨rfl, rfl⟩
            rw [hB]
            go_wp2_with fail
            exact ⟨⟨k + 1, by omega, by go_num, .inr ⟨m, by omega, hm, rfl, rfl, HX.out, HY.out, HG.out⟩⟩, by simp [intOf]; omega⟩
          · cases hC : up L k m
            · have HG : Hid _ := stay.out (by rw [hA, hB, hC]; rfl)
              go_wp2_with fail
              refine (upImpl _ _ _ x k L _ H.out OK.out hx).mono ?_
              rintro e w1 ⟨rfl, rfl⟩
              rw [hA]
              go_wp2_with fail
              refine (upImpl _ _ _ y k L _ H.out OK.out hy).mono ?_
              rintro e w1 ⟨rfl, rfl⟩
              rw [hB]
              go_wp2_with fail
              refine (upImpl _ _ _ k m L _ H.out OK.out hlt).mono ?_
              rintro e w1 ⟨rfl, rfl⟩
              rw [hC]
              go_wp2_with fail
              exact ⟨⟨k + 1, by omega, by go_num, .inr ⟨m, by omega, hm, rfl, rfl, HX.out, HY.out, HG.out⟩⟩, by simp [intOf]; omega⟩
            · have HG : Hid (join L x y < k + 1 → k = join L x y) := by
                intro hj
                have h3 := JU.out.2.2 k hA hB
                have := up_le OK.out _ _ (by have := JL.out; rw [HS.out]; omega) h3
                omega
              go_wp2_with fail
              refine (upImpl _ _ _ x k L _ H.out OK.out hx).mono ?_
              rintro e w1 ⟨rfl, rfl⟩
              rw [hA]
              go_wp2_with fail
              refine (upImpl _ _ _ y k L _ H.out OK.out hy).mono ?_
              rintro e w1 ⟨rfl, rfl⟩
              rw [hB]
              go_wp2_with fail
              refine (upImpl _ _ _ k m L _ H.out OK.out hlt).mono ?_
              rintro e w1 ⟨rfl, rfl⟩
              rw [hC]
              go_wp2_with fail
              exact ⟨⟨k + 1, by omega, by go_num, .inr ⟨k, by omega, hlt, rfl, rfl, hA, hB, HG.out⟩⟩, by simp [intOf]; omega⟩
    · have ek : k = len := by omega
      subst ek
      rcases hst with ⟨rfl, _, _⟩ | ⟨m, hk1, hm, rfl, rfl, hxm, hym, hj⟩
      · omega
      · have HG : Hid (m = join L x y) := hj (by have := JL.out; omega)
        clear hj hxm hym
        go_wp2_with fail
        go_ret2
        exact ⟨by rw [← HG.out]; rfl, rfl⟩

theorem classJoinImpl (a : Option Addr) (len cap : Nat) (x y : Int) (L : List Cl) (w : World) {D E : Nat → Prop} (h : ClsAt D E w a len L) :
    Calls Try.prog 27 #[.slice a len cap, .int .i64 x, .int .i64 y] w fun e w' => e = .returned (.int .i64 (joinV L x y)) ∧ Below w.heap.size w w' := by
  have HS : Hid (L.length = len) := h.size
  have H : Hid (ClsAt D E w a len L) := h
  clear h
  have hmf : ∀ (fn : Fn) (first cap : Array Value) (w : World), (Instr.makeFunc fn first cap).run Try.prog w = .ok (.func fn first cap) w := fun _ _ _ _ => rfl
  cases hxy : (isB L x && isB L y)
  · have HF : Hid (joinV L x y = -1) := by show _ = _; rw [joinV, hxy]; rfl
    go_enter Try.func27, Try.ntmps27
    go_wp2_with fail
    refine (bothImpl _ _ _ _ _ L _ H.out).mono ?_
    rintro e w1 ⟨rfl, hb1⟩
    rw [hxy]
    go_wp2_with fail
    go_ret
    exact ⟨by rw [HF.out]; rfl, hb1⟩
  · have HF : Hid (joinV L x y = join L x.toNat y.toNat) := by show _ = _; rw [joinV, hxy]; rfl
    have hx : isB L x = true := by rw [Bool.and_eq_true] at hxy; exact hxy.1
    have hy : isB L y = true := by rw [Bool.and_eq_true] at hxy; exact hxy.2
    obtain ⟨m, rfl, hm, ok⟩ := isB_nat hx
    obtain ⟨k, rfl, hk, _⟩ := isB_nat hy
    rw [HS.out] at hm hk
    have OK : Hid (clsOk L = true) := ok
    have HXY : Hid _ := hxy
    have hl5 := (ok_len ok).2
    rw [HS.out] at hl5
    clear ok hxy hx hy
    go_enter Try.func27, Try.ntmps27
    go_wp2_with fail
    refine (bothImpl _ _ _ _ _ L _ H.out).mono ?_
    rintro e w1 ⟨rfl, hb1⟩
    rw [HXY.out]
    go_wp2_with fail
    refine (allClassesImpl _ _ _ _ hl5).mono ?_
    rintro e w2 ⟨rfl, hrow, hb2⟩
    go_wp2_with fail
    refine (nearestImpl a len cap w1.heap.size len m k L _ ((H.out.later hb1).later hb2) OK.out hm hk hrow).mono ?_
    rintro e w3 ⟨rfl, rfl⟩
    go_wp2_with fail
    go_ret
    exact ⟨by rw [HF.out]; rfl, hb1.trans (hb2.mono hb1.size)⟩

end Go.Proofs.Ytglggjkmgdpbfaa
