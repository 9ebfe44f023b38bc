/-
  What marking does, of slices of structs, of a shape and of a unit: numbers and truths of the call's own are overwritten, all else stays.
-/
import Derived.Test.YtjbmcdekhhbiaaaGreatMrk
namespace Go.Proofs.YtjbmcdekhhbiaaaGreat
open Go.ChangeShapes Go.WideShapes Go.ChangeAt Go.RowKit

theorem Sty.slice {w w' : World} (s : Sty w w') {p : Addr} {a : Option Addr} {l c : Nat} (h : w.cell? p = some (.slice a l c)) : w'.cell? p = some (.slice a l c) := by
  rcases s.cell _ _ h with h1 | ⟨_, _, e, _⟩ | ⟨_, _, e, _⟩
  · exact h1
  · cases e
  · cases e
theorem Sty.int {w w' : World} (s : Sty w w') {p : Addr} {x : Int} (h : w.cell? p = some (.int .i64 x)) : ∃ z, w'.cell? p = some (.int .i64 z) := by
  rcases s.cell _ _ h with h1 | ⟨_, z, _, h1, _⟩ | ⟨_, _, e, _⟩
  · exact ⟨_, h1⟩
  · exact ⟨z, h1⟩
  · cases e
theorem Sty.bool {w w' : World} (s : Sty w w') {p : Addr} {x : Bool} (h : w.cell? p = some (.bool x)) : ∃ z, w'.cell? p = some (.bool z) := by
  rcases s.cell _ _ h with h1 | ⟨_, _, e, _⟩ | ⟨_, z, _, h1⟩
  · exact ⟨_, h1⟩
  · cases e
  · exact ⟨z, h1⟩
theorem sts_Class : Sts clR := (sts_pair sts_int (sts_list sts_int))
theorem sts_Ins : Sts inR := (sts_pair sts_int (sts_pair sts_int sts_int))
theorem sts_Shape : Sts shR := (sts_pair sts_bool (sts_pair (sts_list sts_int) (sts_list sts_int)))
theorem sts_Catch : Sts caR := (sts_pair sts_int (sts_pair sts_int (sts_pair sts_int sts_int)))
theorem sts_Method : Sts meR := (sts_pair sts_int (sts_pair sts_int (sts_pair (sts_list sts_int) (sts_pair sts_int (sts_pair sts_int (sts_pair (sts_list sts_Ins) (sts_pair (sts_list sts_Shape) (sts_list sts_Catch))))))))
theorem sts_Val : Sts vaR := (sts_pair sts_bool sts_int)
theorem sts_Obj : Sts obR := (sts_pair sts_int (sts_list sts_Val))
set_option maxRecDepth 100000 in
set_option maxHeartbeats 4000000 in
theorem markLClass (a : Option Addr) (n c : Nat) (k : Int) (w : World) {D : Nat → Prop} (h : SlP clR D w a n) (hz : Thw D w) (k0 : 0 ≤ k) (k1 : k ≤ 4611681620380876800) :
    Calls Tryz.prog 14 #[.slice a n c, .int .i64 k] w fun e w' => MarkP D w k 1099512676352 e w' := by
  have hn := h.few
  have H : Hid (SlP clR D w a n) := h
  have HZ : Hid (Thw D w) := hz
  clear h hz
  go_enter Tryz.func14, Tryz.ntmps14
  go_wp2_with fail
  go_loopw [1, 5] (fun s t wr => ∃ (i : Nat) (r : Int), i ≤ n ∧ t = .int .i64 i ∧ s = .int .i64 r ∧ k ≤ r ∧ r ≤ k + i * 1048577 ∧ Mkd D w wr) (fun _ t _ => n - (intOf t).toNat)
  case atStart => exact ⟨0, k, Nat.zero_le _, rfl, rfl, by omega, by omega, Mkd.refl _ _⟩
  case round =>
    obtain ⟨i, r, hi, rfl, rfl, r0, r1, hm⟩ := hrel
    have HM : Hid (Mkd D w wr) := hm
    clear hm
    by_cases hlt : i < n
    case neg =>
      have ei : i = n := by omega
      subst ei
      go_wp2_with fail
      go_ret
      exact ⟨_, rfl, by omega, by omega, HM.out⟩
    obtain ⟨b, off, rfl, hd, hL⟩ : ∃ b off, a = some ⟨b, off, none⟩ ∧ D b ∧ Lies clR D wr b (off + i * 2) := by
      rcases (H.out.sty sts_Class HM.out.sty).rows with h0 | ⟨b, off, ha, hd, hr⟩
      · omega
      · exact ⟨b, off, ha, hd, hr i hlt⟩
    obtain ⟨g0, hL1⟩ := hL.pair
    obtain ⟨z0, c0⟩ : ∃ z, wr.cell? ⟨b, off + i * 2, none⟩ = some (.int .i64 z) := g0.int
    obtain ⟨fa1, fl1, fc1, c1, P1⟩ : ∃ fa fl fc, wr.cell? ⟨b, off + i * 2 + 1, none⟩ = some (.slice fa fl fc) ∧ SlP intR D wr fa fl := hL1.list
    have Q1 : Hid (SlP intR D wr fa1 fl1) := P1
    clear P1
    have C0 : Hid (wr.cell? ⟨b, off + i * 2, none⟩ = some _) := c0
    have C1 : Hid (wr.cell? ⟨b, off + i * 2 + 1, none⟩ = some _) := c1
    have FR : Hid (∀ x, Mkd D w x → ∀ o, x.frozen? ⟨b, o, none⟩ = false) := fun x hx o => (HZ.out.mkd hx) b o hd
    clear hL g0 hL1
    have f0 := FR.out _ HM.out (off + i * 2)
    have S : Hid (Sty wr wr) := Sty.refl _
    have M0 : Hid (Mkd D w (wr.setCell ⟨b, off + i * 2, none⟩ (.int .i64 (r)))) := HM.out.set _ _ hd (S.out.int C0.out) ⟨by omega, by omega⟩
    have S0 : Hid (Sty wr (wr.setCell ⟨b, off + i * 2, none⟩ (.int .i64 (r)))) := by obtain ⟨z, hz⟩ := S.out.int C0.out; exact S.out.trans (Sty.set _ _ _ _ hz ⟨by omega, by omega⟩)
    go_wp2_with fail
    refine (markLInt _ _ _ _ _ (D := D) (Q1.out.sty sts_int S0.out) (HZ.out.mkd M0.out) (by omega) (by omega)).mono ?_
    rintro e w1 ⟨k1, rfl, a1, b1, hm⟩
    have M1 : Hid (Mkd D w w1) := M0.out.trans hm
    have S1 : Hid (Sty wr w1) := S0.out.trans hm.sty
    clear hm c0 c1 f0
    obtain ⟨z0_1, c0⟩ := S1.out.int C0.out
    have c1 := S1.out.slice C1.out
    have f0 := FR.out _ M1.out (off + i * 2)
    go_wp2_with fail
    exact ⟨⟨i + 1, _, by omega, by go_num, rfl, by omega, by omega, M1.out⟩, by simp [intOf]; omega⟩

set_option maxRecDepth 100000 in
set_option maxHeartbeats 4000000 in
theorem markLVal (a : Option Addr) (n c : Nat) (k : Int) (w : World) {D : Nat → Prop} (h : SlP vaR D w a n) (hz : Thw D w) (k0 : 0 ≤ k) (k1 : k ≤ 4611686018427387904) :
    Calls Tryz.prog 57 #[.slice a n c, .int .i64 k] w fun e w' => MarkP D w k 2097152 e w' := by
  have hn := h.few
  have H : Hid (SlP vaR D w a n) := h
  have HZ : Hid (Thw D w) := hz
  clear h hz
  go_enter Tryz.func57, Tryz.ntmps57
  go_wp2_with fail
  go_loopw [1, 5] (fun s t wr => ∃ (i : Nat) (r : Int), i ≤ n ∧ t = .int .i64 i ∧ s = .int .i64 r ∧ k ≤ r ∧ r ≤ k + i * 2 ∧ Mkd D w wr) (fun _ t _ => n - (intOf t).toNat)
  case atStart => exact ⟨0, k, Nat.zero_le _, rfl, rfl, by omega, by omega, Mkd.refl _ _⟩
  case round =>
    obtain ⟨i, r, hi, rfl, rfl, r0, r1, hm⟩ := hrel
    have HM : Hid (Mkd D w wr) := hm
    clear hm
    by_cases hlt : i < n
    case neg =>
      have ei : i = n := by omega
      subst ei
      go_wp2_with fail
      go_ret
      exact ⟨_, rfl, by omega, by omega, HM.out⟩
    obtain ⟨b, off, rfl, hd, hL⟩ : ∃ b off, a = some ⟨b, off, none⟩ ∧ D b ∧ Lies vaR D wr b (off + i * 2) := by
      rcases (H.out.sty sts_Val HM.out.sty).rows with h0 | ⟨b, off, ha, hd, hr⟩
      · omega
      · exact ⟨b, off, ha, hd, hr i hlt⟩
    obtain ⟨g0, hL1⟩ := hL.pair
    obtain ⟨z0, c0⟩ : ∃ z, wr.cell? ⟨b, off + i * 2, none⟩ = some (.bool z) := g0.bool
    obtain ⟨z1, c1⟩ : ∃ z, wr.cell? ⟨b, off + i * 2 + 1, none⟩ = some (.int .i64 z) := hL1.int
    have C0 : Hid (wr.cell? ⟨b, off + i * 2, none⟩ = some _) := c0
    have C1 : Hid (wr.cell? ⟨b, off + i * 2 + 1, none⟩ = some _) := c1
    have FR : Hid (∀ x, Mkd D w x → ∀ o, x.frozen? ⟨b, o, none⟩ = false) := fun x hx o => (HZ.out.mkd hx) b o hd
    clear hL g0 hL1
    have f0 := FR.out _ HM.out (off + i * 2)
    have f1 := FR.out _ HM.out (off + i * 2 + 1)
    have S : Hid (Sty wr wr) := Sty.refl _
    have M0 : Hid (Mkd D w (wr.setCell ⟨b, off + i * 2, none⟩ (.bool (r % 3 == 0)))) := HM.out.setB _ _ hd (S.out.bool C0.out)
    have S0 : Hid (Sty wr (wr.setCell ⟨b, off + i * 2, none⟩ (.bool (r % 3 == 0)))) := by obtain ⟨z, hz⟩ := S.out.bool C0.out; exact S.out.trans (Sty.setB _ _ _ _ hz)
    have M1 : Hid (Mkd D w ((wr.setCell ⟨b, off + i * 2, none⟩ (.bool (r % 3 == 0))).setCell ⟨b, off + i * 2 + 1, none⟩ (.int .i64 (r + 1)))) := M0.out.set _ _ hd (S0.out.int C1.out) ⟨by omega, by omega⟩
    have S1 : Hid (Sty wr ((wr.setCell ⟨b, off + i * 2, none⟩ (.bool (r % 3 == 0))).setCell ⟨b, off + i * 2 + 1, none⟩ (.int .i64 (r + 1)))) := by obtain ⟨z, hz⟩ := S0.out.int C1.out; exact S0.out.trans (Sty.set _ _ _ _ hz ⟨by omega, by omega⟩)
    go_wp2_with fail
    exact ⟨⟨i + 1, _, by omega, by go_num, rfl, by omega, by omega, M1.out⟩, by simp [intOf]; omega⟩

set_option maxRecDepth 100000 in
set_option maxHeartbeats 4000000 in
theorem markLObj (a : Option Addr) (n c : Nat) (k : Int) (w : World) {D : Nat → Prop} (h : SlP obR D w a n) (hz : Thw D w) (k0 : 0 ≤ k) (k1 : k ≤ 4611677222334365696) :
    Calls Tryz.prog 22 #[.slice a n c, .int .i64 k] w fun e w' => MarkP D w k 2199024304128 e w' := by
  have hn := h.few
  have H : Hid (SlP obR D w a n) := h
  have HZ : Hid (Thw D w) := hz
  clear h hz
  go_enter Tryz.func22, Tryz.ntmps22
  go_wp2_with fail
  go_loopw [1, 5] (fun s t wr => ∃ (i : Nat) (r : Int), i ≤ n ∧ t = .int .i64 i ∧ s = .int .i64 r ∧ k ≤ r ∧ r ≤ k + i * 2097153 ∧ Mkd D w wr) (fun _ t _ => n - (intOf t).toNat)
  case atStart => exact ⟨0, k, Nat.zero_le _, rfl, rfl, by omega, by omega, Mkd.refl _ _⟩
  case round =>
    obtain ⟨i, r, hi, rfl, rfl, r0, r1, hm⟩ := hrel
    have HM : Hid (Mkd D w wr) := hm
    clear hm
    by_cases hlt : i < n
    case neg =>
      have ei : i = n := by omega
      subst ei
      go_wp2_with fail
      go_ret
      exact ⟨_, rfl, by omega, by omega, HM.out⟩
    obtain ⟨b, off, rfl, hd, hL⟩ : ∃ b off, a = some ⟨b, off, none⟩ ∧ D b ∧ Lies obR D wr b (off + i * 2) := by
      rcases (H.out.sty sts_Obj HM.out.sty).rows with h0 | ⟨b, off, ha, hd, hr⟩
      · omega
      · exact ⟨b, off, ha, hd, hr i hlt⟩
    obtain ⟨g0, hL1⟩ := hL.pair
    obtain ⟨z0, c0⟩ : ∃ z, wr.cell? ⟨b, off + i * 2, none⟩ = some (.int .i64 z) := g0.int
    obtain ⟨fa1, fl1, fc1, c1, P1⟩ : ∃ fa fl fc, wr.cell? ⟨b, off + i * 2 + 1, none⟩ = some (.slice fa fl fc) ∧ SlP vaR D wr fa fl := hL1.list
    have Q1 : Hid (SlP vaR D wr fa1 fl1) := P1
    clear P1
    have C0 : Hid (wr.cell? ⟨b, off + i * 2, none⟩ = some _) := c0
    have C1 : Hid (wr.cell? ⟨b, off + i * 2 + 1, none⟩ = some _) := c1
    have FR : Hid (∀ x, Mkd D w x → ∀ o, x.frozen? ⟨b, o, none⟩ = false) := fun x hx o => (HZ.out.mkd hx) b o hd
    clear hL g0 hL1
    have f0 := FR.out _ HM.out (off + i * 2)
    have S : Hid (Sty wr wr) := Sty.refl _
    have M0 : Hid (Mkd D w (wr.setCell ⟨b, off + i * 2, none⟩ (.int .i64 (r)))) := HM.out.set _ _ hd (S.out.int C0.out) ⟨by omega, by omega⟩
    have S0 : Hid (Sty wr (wr.setCell ⟨b, off + i * 2, none⟩ (.int .i64 (r)))) := by obtain ⟨z, hz⟩ := S.out.int C0.out; exact S.out.trans (Sty.set _ _ _ _ hz ⟨by omega, by omega⟩)
    go_wp2_with fail
    refine (markLVal _ _ _ _ _ (D := D) (Q1.out.sty sts_Val S0.out) (HZ.out.mkd M0.out) (by omega) (by omega)).mono ?_
    rintro e w1 ⟨k1, rfl, a1, b1, hm⟩
    have M1 : Hid (Mkd D w w1) := M0.out.trans hm
    have S1 : Hid (Sty wr w1) := S0.out.trans hm.sty
    clear hm c0 c1 f0
    obtain ⟨z0_1, c0⟩ := S1.out.int C0.out
    have c1 := S1.out.slice C1.out
    have f0 := FR.out _ M1.out (off + i * 2)
    go_wp2_with fail
    exact ⟨⟨i + 1, _, by omega, by go_num, rfl, by omega, by omega, M1.out⟩, by simp [intOf]; omega⟩

end Go.Proofs.YtjbmcdekhhbiaaaGreat
