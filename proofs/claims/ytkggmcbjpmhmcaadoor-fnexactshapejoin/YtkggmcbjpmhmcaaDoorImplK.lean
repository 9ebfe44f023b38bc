/-
  The program's TypeIn gives what is said of the list of classes, in whatever memory; it writes nothing that was there.
-/
import Derived.Test.YtkggmcbjpmhmcaaDoorImplB
namespace Go.Proofs.YtkggmcbjpmhmcaaDoor
open Go.ChangeShapes Go.WideShapes Go.ChangeAt Go.RowKit

theorem kv_arr (x : Int) (h : 3 ≤ x) (h' : x < 8) : kv x = .iface 111 (.int .i64 x) := by
  rw [kv, if_neg (by omega), if_neg (by omega), if_neg (by omega), if_pos h']
theorem kv_cls (x : Int) (h : 8 ≤ x) : kv x = .iface 112 (.int .i64 (x - 8)) := by
  rw [kv, if_neg (by omega), if_neg (by omega), if_neg (by omega), if_neg (by omega)]
def KT (x : Int) : Prop := 0 ≤ x ∧ (x < 5 ∨ 8 ≤ x)
theorem kv_forms (x : Int) (h : KT x) : x = 0 ∨ x = 1 ∨ x = 2 ∨ (3 ≤ x ∧ x < 8) ∨ 8 ≤ x := by unfold KT at h; omega

theorem eq_arr (x y : Int) (w : World) : (binOp .eql 98 (.iface 111 (.int .i64 x)) (.iface 111 (.int .i64 y))).run Tryd.prog w = .ok (.bool (x == y)) w := by
  obtain ⟨i, hi, hc⟩ := Option.map_eq_some_iff.1 (show (Tryd.prog.info? 111).map (·.comparable) = some true by kernel_rfl)
  have h : ∀ d : Nat, (Op.equalIn (d + 2) 98 (.iface 111 (.int .i64 x)) (.iface 111 (.int .i64 y))).run Tryd.prog w = .ok (x == y) w := fun d => by
    simp [Op.equalIn, run_underlying Tryd.underlying98, run_underlying Tryd.underlying111, typeInfo, hi, hc]
  simp only [binOp]
  simp [Op.equal, Op.maxDepth, h 9998]
theorem eq_cls (x y : Int) (w : World) : (binOp .eql 98 (.iface 112 (.int .i64 x)) (.iface 112 (.int .i64 y))).run Tryd.prog w = .ok (.bool (x == y)) w := by
  obtain ⟨i, hi, hc⟩ := Option.map_eq_some_iff.1 (show (Tryd.prog.info? 112).map (·.comparable) = some true by kernel_rfl)
  have h : ∀ d : Nat, (Op.equalIn (d + 2) 98 (.iface 112 (.int .i64 x)) (.iface 112 (.int .i64 y))).run Tryd.prog w = .ok (x == y) w := fun d => by
    simp [Op.equalIn, run_underlying Tryd.underlying98, run_underlying Tryd.underlying112, typeInfo, hi, hc]
  simp only [binOp]
  simp [Op.equal, Op.maxDepth, h 9998]
theorem eq_no (w : World) : (binOp .eql 98 (.iface 108 (.agg #[])) (.iface 108 (.agg #[]))).run Tryd.prog w = .ok (.bool true) w := by kernel_rfl
theorem eq_word (w : World) : (binOp .eql 98 (.iface 110 (.agg #[])) (.iface 110 (.agg #[]))).run Tryd.prog w = .ok (.bool true) w := by kernel_rfl
theorem eq_null (w : World) : (binOp .eql 98 (.iface 109 (.agg #[])) (.iface 109 (.agg #[]))).run Tryd.prog w = .ok (.bool true) w := by kernel_rfl
theorem eq_apart (t u : TypeId) (x y : Value) (h : t ≠ u) (w : World) : (binOp .eql 98 (.iface t x) (.iface u y)).run Tryd.prog w = .ok (.bool false) w :=
  run_eql_iface_types t u x y Tryd.underlying98 h w

/-- Two types are the same as the program has them just where they are. -/
theorem kv_eql (x y : Int) (hx : KT x) (hy : KT y) (w : World) : (binOp .eql 98 (kv x) (kv y)).run Tryd.prog w = .ok (.bool (x == y)) w := by
  rcases kv_forms x hx with rfl | rfl | rfl | ⟨h1, h2⟩ | h1 <;> rcases kv_forms y hy with rfl | rfl | rfl | ⟨g1, g2⟩ | g1
  · exact eq_no w
  · exact eq_apart _ _ _ _ (by decide) w
  · exact eq_apart _ _ _ _ (by decide) w
  · rw [kv_arr y g1 g2, show ((0 : Int) == y) = false by simp; omega]; exact eq_apart _ _ _ _ (by decide) w
  · rw [kv_cls y g1, show ((0 : Int) == y) = false by simp; omega]; exact eq_apart _ _ _ _ (by decide) w
  · exact eq_apart _ _ _ _ (by decide) w
  · exact eq_word w
  · exact eq_apart _ _ _ _ (by decide) w
  · rw [kv_arr y g1 g2, show ((1 : Int) == y) = false by simp; omega]; exact eq_apart _ _ _ _ (by decide) w
  · rw [kv_cls y g1, show ((1 : Int) == y) = false by simp; omega]; exact eq_apart _ _ _ _ (by decide) w
  · exact eq_apart _ _ _ _ (by decide) w
  · exact eq_apart _ _ _ _ (by decide) w
  · exact eq_null w
  · rw [kv_arr y g1 g2, show ((2 : Int) == y) = false by simp; omega]; exact eq_apart _ _ _ _ (by decide) w
  · rw [kv_cls y g1, show ((2 : Int) == y) = false by simp; omega]; exact eq_apart _ _ _ _ (by decide) w
  · rw [kv_arr x h1 h2, show (x == (0 : Int)) = false by simp; omega]; exact eq_apart _ _ _ _ (by decide) w
  · rw [kv_arr x h1 h2, show (x == (1 : Int)) = false by simp; omega]; exact eq_apart _ _ _ _ (by decide) w
  · rw [kv_arr x h1 h2, show (x == (2 : Int)) = false by simp; omega]; exact eq_apart _ _ _ _ (by decide) w
  · rw [kv_arr x h1 h2, kv_arr y g1 g2]; exact eq_arr x y w
  · rw [kv_arr x h1 h2, kv_cls y g1, show (x == y) = false by simp; omega]; exact eq_apart _ _ _ _ (by decide) w
  · rw [kv_cls x h1, show (x == (0 : Int)) = false by simp; omega]; exact eq_apart _ _ _ _ (by decide) w
  · rw [kv_cls x h1, show (x == (1 : Int)) = false by simp; omega]; exact eq_apart _ _ _ _ (by decide) w
  · rw [kv_cls x h1, show (x == (2 : Int)) = false by simp; omega]; exact eq_apart _ _ _ _ (by decide) w
  · rw [kv_cls x h1, kv_arr y g1 g2, show (x == y) = false by simp; omega]; exact eq_apart _ _ _ _ (by decide) w
  · rw [kv_cls x h1, kv_cls y g1, show (x == y) = ((x - 8) == (y - 8)) by rw [Bool.eq_iff_iff, beq_iff_eq, beq_iff_eq]; omega]; exact eq_cls _ _ w

theorem neq_of_eql {P : Program} {w : World} {t tx ty : TypeId} {x y : Value} {b : Bool} (h : (binOp .eql t (.iface tx x) (.iface ty y)).run P w = .ok (.bool b) w) : (binOp .neq t (.iface tx x) (.iface ty y)).run P w = .ok (.bool (!b)) w := by
  simp only [binOp] at h ⊢
  cases hh : (Op.equal t (.iface tx x) (.iface ty y)).run P w <;> simp [hh] at h ⊢
  obtain ⟨rfl, rfl⟩ := h
  exact ⟨rfl, rfl⟩
theorem guard_iface {P : Program} (op : BinOp) (t : TypeId) (x y : Operand) (tx ty : TypeId) (vx vy : Value) (w : World) : (eqGuard op t x y (.iface tx vx) (.iface ty vy)).run P w = .ok () w := by
  cases op <;> simp [eqGuard]
theorem kv_is (y : Int) : ∃ t v, kv y = .iface t v := by
  unfold kv
  repeat' split
  all_goals exact ⟨_, _, rfl⟩

theorem withinImpl (a : Option Addr) (len cap : Nat) (x y : Int) (L : List Cl) (w : World) {D E : Nat → Prop} (h : ClsAt D E w a len L) (ok : clsOk L = true)
    (hx : KT x) (x1 : x ≤ 8 + len - 1) (hy : KT y) (y1 : y ≤ 8 + len - 1) :
    Calls Tryd.prog 69 #[.slice a len cap, kv x, kv y] w fun e w' => e = .returned (.bool (inB L x y)) ∧ Below w.heap.size w w' := by
  have hr := h.room
  have OK : Hid (clsOk L = true) := ok
  have H : Hid (ClsAt D E w a len L) := h
  have HX : Hid (KT x) := hx
  have HY : Hid (KT y) := hy
  have k0 : KT 0 := by unfold KT; omega
  have k1 : KT 1 := by unfold KT; omega
  have k8 : KT 8 := by unfold KT; omega
  have E1 : ∀ w, (binOp .eql 98 (kv x) (kv y)).run Tryd.prog w = .ok (.bool (x == y)) w := kv_eql x y hx hy
  have E2 : ∀ w, (binOp .eql 98 (kv y) (.iface 108 (.agg #[]))).run Tryd.prog w = .ok (.bool (y == 0)) w := kv_eql y 0 hy k0
  have N1 : ∀ w, (binOp .neq 98 (kv y) (.iface 110 (.agg #[]))).run Tryd.prog w = .ok (.bool (!(y == 1))) w := fun w => by
    obtain ⟨ty, v, e⟩ := kv_is y
    have := kv_eql y 1 hy k1 w
    rw [e] at this ⊢
    exact neq_of_eql this
  have E8 : ∀ w, (binOp .eql 98 (kv y) (.iface 112 (.int .i64 0))).run Tryd.prog w = .ok (.bool (y == 8)) w := kv_eql y 8 hy k8
  have HQ := @guard_iface Tryd.prog
  have x0 := hx.1
  have y0 := hy.1
  have xx := hx.2
  have yy := hy.2
  clear h ok hx hy k0 k1 k8
  by_cases hxy : x = y
  · subst hxy
    have HF : Hid (inB L x x = true) := by show _ = _; rw [inB, if_pos (by simp)]
    rw [show (x == x) = true by simp] at E1
    clear E2 N1 E8
    obtain ⟨tv, vv, ev⟩ := kv_is x
    rw [ev] at E1 ⊢
    clear ev
    go_enter Tryd.func69, Tryd.ntmps69
    go_wp2_with fail
    go_ret
    exact ⟨by rw [HF.out]; rfl, Below.refl _ _⟩
  rw [show (x == y) = false by simp [hxy]] at E1
  by_cases hy0 : y = 0
  · subst hy0
    have HF : Hid (inB L x 0 = true) := by show _ = _; rw [inB, if_pos (by simp)]
    rw [show ((0 : Int) == 0) = true by simp] at E2
    clear N1 E8
    obtain ⟨tv, vv, ev⟩ := kv_is x
    rw [ev] at E1 ⊢
    clear ev
    obtain ⟨tu, vu, eu⟩ := kv_is 0
    rw [eu] at E1 E2 ⊢
    clear eu
    go_enter Tryd.func69, Tryd.ntmps69
    go_wp2_with fail
    go_ret
    exact ⟨by rw [HF.out]; rfl, Below.refl _ _⟩
  rw [show (y == 0) = false by simp [hy0]] at E2
  by_cases hx2 : x = 2
  · subst hx2
    have HF : Hid (inB L 2 y = !(y == 1)) := by
      show _ = _
      rw [inB, if_neg (by omega), if_pos rfl, Bool.eq_iff_iff]
      simp
      omega
    have T := ta_null_null
    rw [show kv 2 = .iface 109 (.agg #[]) from rfl] at E1 ⊢
    clear E8
    obtain ⟨tu, vu, eu⟩ := kv_is y
    rw [eu] at E1 E2 N1 ⊢
    clear eu
    go_enter Tryd.func69, Tryd.ntmps69
    go_wp2_with fail
    go_ret
    exact ⟨by rw [HF.out]; rfl, by go_grown⟩
  by_cases hx01 : x < 2
  · have HF : Hid (inB L x y = false) := by show _ = _; rw [inB, if_neg (by omega), if_neg hx2, if_pos (by omega)]
    clear N1 E8
    obtain ⟨tu, vu, eu⟩ := kv_is y
    rw [eu] at E1 E2 ⊢
    clear eu
    by_cases hx0 : x = 0
    · subst hx0
      have T1 := ta_no_null
      have T2 := ta_no_array
      have T3 := ta_no_class
      rw [show kv 0 = .iface 108 (.agg #[]) from rfl] at E1 ⊢
      go_enter Tryd.func69, Tryd.ntmps69
      go_wp2_with fail
      go_ret
      exact ⟨by rw [HF.out]; rfl, Below.refl _ _⟩
    · have e : x = 1 := by omega
      subst e
      have T1 := ta_word_null
      have T2 := ta_word_array
      have T3 := ta_word_class
      rw [show kv 1 = .iface 110 (.agg #[]) from rfl] at E1 ⊢
      go_enter Tryd.func69, Tryd.ntmps69
      go_wp2_with fail
      go_ret
      exact ⟨by rw [HF.out]; rfl, Below.refl _ _⟩
  by_cases hx8 : x < 8
  · have HF : Hid (inB L x y = (y == 8)) := by
      show _ = _
      by_cases hy8 : y < 8
      · rw [inB, if_neg (by omega), if_neg hx2, if_pos (by omega)]; simp; omega
      · rw [inB, if_neg (by omega), if_neg hx2, if_neg (by omega), if_pos hx8]
    have T1 := ta_array_null
    have T2 := ta_array_array
    rw [kv_arr x (by omega) hx8] at E1 ⊢
    clear N1
    obtain ⟨tu, vu, eu⟩ := kv_is y
    rw [eu] at E1 E2 E8 ⊢
    clear eu
    go_enter Tryd.func69, Tryd.ntmps69
    go_wp2_with fail
    go_ret
    exact ⟨by rw [HF.out]; rfl, Below.refl _ _⟩
  have T1 := ta_class_null
  have T2 := ta_class_array
  have T3 := ta_class_class
  by_cases hy8 : y < 8
  · have HF : Hid (inB L x y = false) := by show _ = _; rw [inB, if_neg (by omega), if_neg hx2, if_pos (by omega)]
    have T4 : ∀ xT w, (Instr.typeAssert (kv y) xT 112 true).run Tryd.prog w = .ok (.tuple #[.int .i64 0, .bool false]) w := by
      intro xT w
      rcases kv_forms y HY.out with rfl | rfl | rfl | ⟨g1, g2⟩ | g1
      · exact ta_no_class _ _ _
      · exact ta_word_class _ _ _
      · exact ta_null_class _ _ _
      · rw [kv_arr y g1 g2]; exact ta_array_class _ _ _
      · omega
    rw [kv_cls x (by omega)] at E1 ⊢
    clear N1 E8
    obtain ⟨tu, vu, eu⟩ := kv_is y
    rw [eu] at E1 E2 T4 ⊢
    clear eu
    go_enter Tryd.func69, Tryd.ntmps69
    go_wp2_with fail
    go_ret
    exact ⟨by rw [HF.out]; rfl, Below.refl _ _⟩
  have HF : Hid (inB L x y = up L (x - 8).toNat (y - 8).toNat) := by show _ = _; rw [inB, if_neg (by omega), if_neg hx2, if_neg (by omega), if_neg hx8]
  rw [kv_cls x (by omega)] at E1 ⊢
  rw [kv_cls y (by omega)] at E1 E2 ⊢
  obtain ⟨m, hm⟩ : ∃ m : Nat, x - 8 = m := ⟨(x - 8).toNat, by omega⟩
  obtain ⟨k, hk⟩ : ∃ k : Nat, y - 8 = k := ⟨(y - 8).toNat, by omega⟩
  rw [hm, hk] at E1 ⊢
  rw [hk] at E2
  have HG : Hid (inB L x y = up L m k) := by show _ = _; rw [HF.out, hm, hk]; rfl
  have hml : m < len := by omega
  clear N1 E8 hm hk HF
  go_enter Tryd.func69, Tryd.ntmps69
  go_wp2_with (go_at_call 75; refine (upImpl _ _ _ m k L _ H.out OK.out hml).mono ?_; rintro e w1 ⟨rfl, rfl⟩)
  go_ret
  exact ⟨by rw [HG.out]; rfl, Below.refl _ _⟩

end Go.Proofs.YtkggmcbjpmhmcaaDoor
